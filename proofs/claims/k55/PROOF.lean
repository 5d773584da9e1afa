import PyProof.Rows.All
import Wide.All
import OpenK.AllK
import PySem.Challenge.RW_creasecourt_k55_whole_carried_again
local macro_rules|`(def $i:declId $s:optDeclSig $v:declVal)=>`(theorem $i $(⟨Lean.mkNode `Lean.Parser.Command.declSig #[s.raw[0],s.raw[1][0]]⟩):declSig $v:declVal)
local macro_rules|`(abbrev $i:declId $s:optDeclSig $v:declVal)=>`(noncomputable def $i $s $v:declVal)
local macro_rules|`(tactic|show $e:term)=>`(tactic|refine $e)
local macro_rules|`(⋯)=>`(by lia)
open Option renaming some->b0,none->b5
open Bool renaming false->dI,true->eA
open Array renaming mk->ö,getElem?_toList->ϲ,toList_push->Ϫ,toList_append->ph,length_toList->pF,toList_inj->g8,getElem?_eq_some_iff->Mp,getElem?_eq_getElem->Mn,replicate->MJ,toList_setIfInBounds->Px,eraseIdxIfInBounds->PM,toList->Lu,getElem?_eq_none->PF,toList_reverse->Pb,toList_extract->Pa,swapIfInBounds->PZ,isEmpty_iff->P5,getElem_mem->P4,getD->NJ,map->NP
open Bool renaming false_ne_true->Z6,and_eq_true->Z9,false_eq_true->Į,and_eq_true_iff->ug,or_eq_true->rn,not_eq_true'->yt,eq_iff_iff->zb,not_true->yr,not_false->Kn,or_false->Kw,false_or->Kv,true_and->Lx,false_and->OK,and_true->NX,true_or->Nr
open Classical renaming choose->ut,byContradiction->LS,choose_spec->LK,propDecidable->Mo
open False renaming elim->Θ
open ForInStep renaming yield->az
open Int renaming emod_lt_of_pos->gk,toNat_natCast->gf,emod_nonneg->dj,le_of_lt->mU,emod_add_emod->zp,emod_emod_of_dvd->LN,zero_add->qw,mul_eq_zero->Kq,le_trans->Kc,le_refl->Kh,not_lt->Ll,emod_two_eq->OL,emod_emod->Nt
open List renaming length_map->ZT,getElem?_eq_some_iff->ZW,getElem?_eq_getElem->ZY,length_append->Z4,size_toArray->Z5,mem_map->Õ,append_assoc->ú,prefix_refl->õ,mem_singleton->ā,getElem?_map->þ,map_map->Û,getElem?_set_ne->Č,map_cons->é,mem_append->ù,map_append->ý,getD_eq_getElem?_getD->Ń,length_cons->ć,mem_of_getElem?->Ĳ,getElem?_append_left->ō,length_take->Ġ,mem_cons_of_mem->ň,mem_cons->Ě,getElem?_append_right->Ž,range->ă,getElem?_eq_none_iff->Ξ,mem_cons_self->Ś,take_append_drop->ŵ,all_cons->Ĺ,length->Ģ,getElem?_set_self->Ν,append_nil->Ň,pairwise_iff_getElem->ϋ,zipWith_cons_cons->ι,take_length->š,mem_range->Ō,getElem_mem->Ŧ,nodup_cons->Š,mem_filter->ş,length_reverse->Ι,find?_cons->Ş,getD->Ğ,length_drop->Λ,take_zero->ų,take_of_length_le->ϳ,mem_append_right->ϱ,getElem?_toArray->ϰ,getElem?_reverse->ϯ,pairwise_map->Ϗ,length_range->ώ,pairwise_append->Ϯ,drop_eq_getElem_cons->il,length_set->ξ,toList_toArray->ϭ,length_filter_le->bc,nodup_append->ϩ,getElem?_eq_none->fc,length_eq_zero_iff->pC,map_congr_left->eG,find?_eq_none->ie,getElem?_take_of_lt->uz,getElem?_of_mem->pq,drop_zero->Ϭ,length_nil->ao,filterMap_cons->pD,not_mem_nil->fu,replicate->aa,filter_append->nA,perm_append_comm->um,mem_iff_getElem?->ul,length_replicate->uh,filter_eq_self->ue,take_succ->di,getElem?_replicate->zr,cons_append->mq,nil_append->mj,any_cons->dh,take_sublist->uv,range'->ak,lookup_cons->uq,all_eq_true->uo,flatMap_append->zy,range_succ->su,filter_map->sr,set_cons_zero->yz,lookup->dg,reverse_cons->yw,ext_getElem?->yu,drop_of_length_le->LI,set_append_right->LO,range'_succ->zm,mem_flatMap->zj,filter_cons->zg,any_eq_true->zf,take_append_of_le_length->Mz,drop_append_of_le_length->My,getElem_of_mem->L6,map_nil->qx,pairwise_cons->L1,reverse_perm->Kz,idxOf_append->Ky,drop_sublist->LH,zipWith->yq,range_succ_eq_map->Mw,pairwise_reverse->Mt,length_singleton->Ms,mem_of_mem_take->Mc,length_take_le'->Mb,take_succ_cons->MY,getElem?_range->MX,filter_sublist->MW,set_cons_succ->Mj,getElem?_drop->Mi,Nodup->yh,getElem_take->Me,flatMap_cons->Md,eraseIdx_eq_take_drop_succ->Pr,nodup_range->MK,of_mem_zip->MH,length_zip->MC,foldl_cons->MU,idxOf_lt_length_of_mem->Pz,take_left->MN,map->yc,drop_left->MM,drop_drop->ML,mem_or_eq_of_mem_set->PQ,extract_eq_drop_take->PN,idxOf_lt_length_iff->PK,filter_cons_of_pos->PJ,filter_cons_of_neg->PH,not_of_lt_findIdx->PC,length_pos_of_mem->PB,any_map->MB,all_map->M9,getElem?_zipWith->Pg,eq_nil_or_concat->Pf,concat_eq_append->Pe,mem_of_mem_drop->Oq,mem_append_left->Oo,findIdx_getElem->Om,takeWhile_cons->Oh,map_eq_nil_iff->Og,length_take_le->Of,getD_cons_zero->Oe,filter_reverse->Od,zip_cons_cons->P7,mem_filterMap->P6,take_add_one->OE,map_inj_left->OD,getElem_drop->OC,getElem?_set->OB,foldl_append->OA,find?_append->O9,take_append->O5,mem_reverse->O4,map_reverse->O3,getElem_inj->O2,countP_cons->O1,forIn_cons->OR,filter_nil->OQ,drop_left'->OP,map_take->NY,map_set->Nv,map_id'->Nu,map_id->Ni
open List.Nodup renaming length_le_of_subset->M1
open List.Pairwise renaming sublist->fj,imp_of_mem->zx,nil->Mv,map->Mu,imp->b1W
open List.Perm renaming refl->LA,eq_of_pairwise->Pk
open List.Sublist renaming refl->b2s,length_le->b2t
open List.cons renaming injEq->Ol
open Nat renaming le_refl->Z2,ne_of_lt->ð,lt_of_lt_of_le->ĭ,le_trans->ė,zero_le->ŀ,lt_of_succ_lt->ύ,lt_irrefl->Ų,ne_of_gt->ů,lt_succ_self->ϛ,le_of_lt->ż,add_sub_cancel_left->pB,zero_add->Ω,min_eq_left->dq,sub_self->du,le_of_not_lt->zc,add_assoc->uc,le_succ->m8,le_antisymm->yj,not_lt->km,mod_lt->kj,lt_trichotomy->LF,lt_succ_of_lt->LC,le_of_lt_succ->LB,succ_pos->yp,sub_zero->yo,le_of_eq->ym,add_sub_cancel->Mg,add_right_comm->Mf,lt_trans->Kd,not_lt_zero->MQ,le_add_left->MP,exists_eq_add_of_lt->PD,succ_mul->M4,sub_eq_zero_iff_le->Ph,le_zero->Lo,add_sub_add_left->Oi,add_le_add_left->P8,lt_or_eq_of_le->OG,lt_of_le_of_lt->OF,mod_eq_of_lt->OT,lt_of_not_le->OS,mul_le_mul->Na,add_le_add->NZ,lt_or_ge->Nk,add_zero->Nj,log2_lt->ND
open Ne renaming symm->ó
open Option renaming bind_eq_some_iff->ZS,map_eq_some_iff->ZX,bind_some->Ē,map_some->Ę,isSome_map->yx,getD_none->LG,isSome_iff_exists->Pu,getD_some->P9
open Option.some renaming inj->ñ
open Or renaming inr->J3,inl->jm
open PUnit renaming unit->Ke
open Prod renaming ext->cu,ext_iff->Nx
open Prod.mk renaming inj->η
open PyProof.Rows renaming callWith_type1->iu,SortSt->đ,seqObj->ċ,SortKind->ϊ,IntsAre->Ÿ,callWith_builtin1->Q8,entry_list_sort->Ki,slot_list_sort->Ku,args_list_sort->Ks,AllBare->cj,subscriptTail->Ka,listUpdate_at->KZ,sortedHeap->xu,gt_int->Q1,envOfC->Q0,seqEpoch_at->KO,Subscript_->KR,pendingOf->KJ,subscriptTail_builtinR->Ox,mergeAt'->KI,arrOf->jl,keyLt'->wz,boot_range->Lb,IsTup->jj,Call_->qm,list_sort_plain->NH,get?_update_seq->NF,wpAny_notIn_heap->b2g,mul_int->b2h,lt_int->b2j,kindOf->b2k,floordiv_int->b2l,entry_proto_collect'->b2m,entry_list_iadd'->b2n,call_len_slot->b2o,assign_Tuple_tuple->b2p,assign_Tuple->b2q,tail_any->La,mirror->K2,bubble->K1
open PyProof.Rows.Boot renaming list->N0,sorted->QX,tuple->QV,dict->QC,sum->a9P,str->a9Q,reversed->a9R,min->a9S,max->a9T,len->a9U,isinstance->a9V,int->a9W,bool->a9X,all->a9Y
open PyProof.Rows.SortSt renaming mk'->ą
open PySem renaming wpAny_bind->ZU,Shared->ZZ,wpAny_pure->Z3,sizeLine->Z7,Program->ĥ,model->Å,wpAny->Ç,sizeLine_eq->è,Around->ĺ,World->Ĉ,starEach->æ,wpAny_holding->Ķ,sysModules->ğ,wpAny_mono->Ĭ,Heap->ç,compareOp->Ĥ,codeAny_builtin->ű,wpAny_newObj_type->ο,cLine->â,plainId_quiet->ŧ,mem_of_lookup->Ϡ,wpAny_truthy_bool->ό,mainGlobals->ř,Pos->ß,wpAny_updateSeq->ζ,wpAny_dictEntries->Ϝ,bootBuiltins->Ż,Params->ε,wpAny_tryCatch->Ϟ,wpAny_call_entry->au,wpAny_Call_Name_kw->gh,treeTable->ť,tupleKind->Ű,assignEach->Η,wpAny_letGo->ψ,wpAny_seqItems->UV,backTo->ĸ,Scope->Ź,FuncData->my,intKind->Ř,NameKind->Ϙ,sliceBounds->Ϩ,wpAny_setField_rec->ux,wpAny_pyIter_tuple->uw,pyNext->ņ,wpAny_passesOwn->nj,wpAny_ite_split->ni,behindInMarks->dw,wpAny_notOrdered_dict->zz,foldedSetIterable->ur,wpAny_rule->ϧ,richCompare->aj,codeAny->ź,Keyword->Ζ,atKey->Ŀ,binaryOp->υ,attributeBase->lz,CmpOp->rm,wpAny_specialOf->rT,wpAny_loadPart'->rE,wpAny_dictEpoch->qz,storedH->Ε,Paired->Ť,swapsWith->Ϧ,compEnvC->ϗ,wpAny_isInstance->za,updateSeq->Sd,seqItems?->Rr,rawInt->ŷ,OsState->QU,storedH_new->lg,IsRangeIter->lF,call_meetsIn->qu,wpAny_pyIter_list->L9,wpAny_field->qy,wpAny_typeOf->yd,wpAny_isOneOf_itemiter->Ma,wpAny_Assign_Subscript->MZ,valueAt->Iv,call_meets->qt,wpAny_execs_nil->Kl,size_of_entries->Kk,letOwnedTupleGo->Kj,Sem->ĕ,builtinLookup_eq_fast->MV,Env->Δ,wpAny_pyIter_revIter->Mh,keywordEach->yg,firstArgMember->Kt,Result->QK,wpAny_newList->Kb,dictSetHashed->KY,IsItemIterOut->KU,typeLookup->xx,entryOfKey->xr,assign->ϻ,slot_list_getitem->MR,getItem->ju,codeAny_mono->Kf,callerA->jt,BindsTo->jn,wpAny_forIn_list->M3,seqIndex?->xj,pyIter->cg,PassesOwn->xf,wpAny_of_eq->KQ,subscripted->KP,Model->a8p,typeLookup_type->Lv,wpAny_setField->M8,wpAny_newTuple->M7,wpAny_load->KS,dictSetDefault->M6,backToKw->xm,Operator->a8K,Tok->Ϻ,evalArgs_none->PY,wpAny_standAt->Lr,wpAny_getItem_list_slice->Oj,wpAny_attempt->Lq,swappedStores->Lp,wpAny_pyNext_tuple_item->Oc,wpAny_callSpecial?_slot->Ob,wpAny_Call_method0_late->Oa,slicePick->KL,bindL->bz,bindC->bw,wpAny_pyNext_tuple_end->P2,wpAny_pyNext_range_end->P1,wpAny_pyNext_list_item->P0,wpAny_pyIter_rangeiter->Oz,wpAny_Call_method_late->Oy,seqIndex_neg->Ls,isTrue->qp,wpAny_pyNext_list_end->O8,wpAny_isOneOf_keyiter->O7,wpAny_updateDictKeys->O0,wpAny_pyIter_keyiter->Nz,storedH_old->Lk,setField->K9,seqIndex_of->Lj,newTuple->K8,lookup_relabel_local->OX,bindArgs->KH,SetTable->OW,IntMulOk->KG,HeapKind->KA,GenState->b0P,wpAny_dictFind_heap->OO,not_mem_keys_of_get->ON,wpAny_tupleItemsOf->OJ,wpAny_setItem_heap->OI,wpAny_pyIter_range->Nh,wpAny_getItem_heap->Ng,wpAny_Name->Lf,tupleKind_room_in1->Nf,sliceRange->Le,getattributeRaised->Nd,closureFor->Ld,call_reversed_list->Nc,call_function_tree->Nb,builtinsNs->Lc,wpAny_pyIter_slot->NW,wpAny_pyIter_enum->NV,wpAny_assign_Name->NU,relabel->K6,putAt->ql,call_sum_walkAnyS->NT,atKey_none_of_get->NS,MeetsIn->K7,wpAny_pyIter_zip->Nq,wpAny_getItem_of->Np,wpAny_execs_cons->Nn,lastMarks->Lh,cellsFrom->Lg,call->Nl,typeNameOfWhole->NI,importedModules->NG,Fin->b2f,wpAny_fieldsOf->NO,wpAny_Compare1->NN,typeOf->K4,recursionLimit->NM,newExc->K3,isSubtype_stop->NL,callType_codes->NK
open PySem.Around renaming under_plainId->Ŵ
open PySem.Builtin renaming sorted->Pc
open PySem.Builtin.Builtins renaming bindParams->Q9
open PySem.Builtin.Dict renaming showsAll->zq,updateFrom->LQ,entriesForEmpty->Q6,selfAndRest->QH,addKeywords->QF,pairItems->Pn,mergeDict->Pm,quietEq->Q4,readDirectly->b2w,pendingCount->b2x,noArgs->b2y,merge->b2z,keyAndDefault->b2A,dictSlotNone->b2B
open PySem.Builtin.Dict_items renaming ownsTuple->N1,ownedTupleIsFree->QR,ownedTupleFields->QN,pairFromOwner->QY,newIterator->b0s,dictOf->b0t
open PySem.Builtin.Int renaming intBits->Ũ,intTooBig->LL
open PySem.Builtin.List renaming listExtendWith->uy,listSameRef->LR,listTooLong->Mx,listLengthHint->QM,listItems->Po,listUpdate->b2v
open PySem.Builtin.Range renaming rangeSize->ϟ,small->b1Z
open PySem.Builtin.Str renaming occurrences->ig
open PySem.Builtin.Tuple renaming tupleHashOf->b1X,tupleCompareSizes->b1Y
open PySem.Calls renaming callWith_builtin->LJ,spliced_cons->L4,spliced_nil->L0,Name_function_global->Py,call_function_entry->Pt,evalArgs_plain->Pd
open PySem.Challenge renaming rw_creasecourt_k55_whole_carried_again->Z0,pw_creasecourt_k55_whole_carried_again->M2
open PySem.Data renaming fields->İ,dict->ϙ,cell->lu,seq->KN,cls->Lm
open PySem.F renaming slot_dict_items->LP,slot_dict_getitem->Mq,plainAttrs_dict->Mm,slot_dict_setdefault->QD,args_dict_items_1->Pj,slot_dict_update->Q3,entry_dict_items->Q2,type_dict_items->Pw,slot_dict_get->PL
open PySem.Heap renaming get?_push_of_some->Z1,lt_size->Z8,get?_push_size->Ă,get?_update_other->Μ,get?_update_self->Κ,SameBut->γ,size_push->WP,ExtBut->yf
open PySem.Heap.DictOf renaming new->b2O
open PySem.Heap.DictOfH renaming new->b2u
open PySem.Heap.IsSliceOf renaming new->Q5
open PySem.Heap.IsTuple renaming push->Q7
open PySem.Heap.SameBut renaming update->θ,refl->LM
open PySem.IsRange renaming new->OM
open PySem.MeetsSeq renaming plain_remove_loop->LU,entry_remove_loop->Pp
open PySem.NameKind renaming free->ϫ,cell->WF
open PySem.Obj renaming mapSeq->a1i,data_mapDictKeys->uf,isFreed_of_dict->L5,data_mapFields->OH,data_mapDict->OU,mapFields->Nw
open PySem.Paired renaming length->Km,snoc->Kr
open PySem.PassesOwn renaming never->Ot
open PySem.SeqAt renaming ne_of_list_tuple->oh,EqAt->J4
open PySem.Str renaming ofString->ϝ
open PySem.Value renaming ref->Ð,type->ä,int->Ć,none->ŝ,builtin->ω,bool->Ů,str->lw,isStrOf->Lz,isInt->M5
open PySem.Value.ref renaming inj->L7
open PySem.W renaming Frag->ZV,kasC_pure->Ò,behindTheImports->Ė,kasC_bind->Đ,boot_drawn->ĵ,keepIn->Ϛ,fnOf->δ,kasC->á,kia_one->aq,topFrame->χ,boot_heap->ϥ,nsIn->tu,findIn->yl,codeIn->L8,mg_of->Ko,methodObj->Ml,piecesOf->kh,segRun->Do,boot_toks->xg,cellsFrom_some->PR,kat_cons->xq,specialIn->PX,kitx_list->PV,kitx_dict->PU,instObj->OZ,OpenLaw->OY,kitOne->Ov,WalkO->O6,kasC_modify->Ln,isFn->OV,kat_yes->K5,piece_app->Li,kHook->wy
open PySem.W.OpenLaw renaming row->ı
open PySem.W.OpenRow renaming toRowW->Ou
open PySem.W.RowW renaming records->Ny
open PySem.W.WData renaming int->ud,weightAll->Mr,layable->Pq,weight->Pl,layableAll->b1S
open PySem.W.WShape renaming has->NQ
open PySem.Walks renaming tuple->KW,range->NR,list->Nm
open Std.Legacy.Range renaming size->b0S,forIn_eq_forIn_range'->b0T
open Sum renaming inr->Ψ,inl->jy
open True renaming intro->ŭ
set_option compiler.extract_closed false
set_option bootstrap.genMatcherCode false
set_option genSizeOf false
set_option genSizeOfSpec false
set_option Elab.async false
set_option linter.all false
set_option maxRecDepth 100000
set_option linter.all false
@[reducible]def gw:=List PySem.Value
@[reducible]def jw:=List<|PySem.Addr×PySem.Obj
@[reducible]def jq:=List<|Int×Int
namespace L2
open PySem PySem.Spec PyProof.Rows
noncomputable abbrev aK:=Sum Int Str
abbrev kZ:aK->Value->Bool
 |.inl k,v=>M5 k v|.inr x,v=>Lz x v
abbrev CS(w:Ĉ):aK->Int
 |.inl k=>hashInt k|.inr x=>hashStr w x
def k5:∀{k}{v},kZ k v=eA->(∃i t,k=jy i/\v=Ć i t)\/(∃x t,k=Ψ x/\v=lw x t)
 |.inl i,v,h=>by obtain⟨t,e⟩:=Value.isInt_shape (k:=i) (v:=v) h;show .inl ⟨i,t,rfl,e⟩
 |.inr x,v,h=>by obtain⟨t,e⟩:=Value.isStrOf_shape (x:=x) (v:=v) h;show .inr ⟨x,t,rfl,e⟩
def rMm i t:kZ (.inl i) (.int i t)=true:=by simp[kZ,M5]
def e12 x t:kZ (.inr x) (.str x t)=true:=by simp[kZ,Lz]
def a7e a b:decide ((jy a:aK)=jy b)=(a==b):=by
 by_cases e:a=b
 .subst e;simp
 .have h:¬ (jy a:aK)=jy b:=λq=>e<|Sum.inl.inj q;rw[decide_eq_false h];show(beq_eq_false_iff_ne.mpr e).symm
def a7d a b:decide ((Ψ a:aK)=Ψ b)=decide (a=b):=by
 by_cases e:a=b
 .subst e;simp
 .have h:¬ (Ψ a:aK)=Ψ b:=λq=>e<|Sum.inr.inj q;rw[decide_eq_false h,decide_eq_false e]
def a7c a b:decide ((jy a:aK)=Ψ b)=false:=decide_eq_false λq=>nomatch q
def a7a a b:decide ((Ψ a:aK)=jy b)=false:=decide_eq_false λq=>nomatch q
abbrev dA prog w:PySem.KeyKind prog w aK where
 is:=kZ
 hash:=CS w
 inj:=λv a b g d=>by
  rcases k5 g with⟨i,t,rfl,rfl⟩|⟨x,t,rfl,rfl⟩
  .rcases k5 d with⟨j,u,rfl,e⟩|⟨y,u,rfl,e⟩
   .injection e with e1 _;rw[e1]
   .show nomatch e
  .rcases k5 d with⟨j,u,rfl,e⟩|⟨y,u,rfl,e⟩
   .show nomatch e
   .injection e with e1 _;rw[e1]
 byValue:=λk v h=>by rcases k5 h with⟨i,t,rfl,rfl⟩|⟨x,t,rfl,rfl⟩<;>rfl
 pyHash:=λc h=>by
  rcases k5 c with⟨i,t,rfl,rfl⟩|⟨x,t,rfl,rfl⟩
  .show wpAny_pyHash_int h
  .show wpAny_pyHash_str h
 eqBool:=λl c h=>by
  rcases k5 l with⟨i,t,rfl,rfl⟩|⟨x,t,rfl,rfl⟩
  .rcases k5 c with⟨j,u,rfl,rfl⟩|⟨y,u,rfl,rfl⟩
   .rw[a7e]at h;show wpAny_eqBool_int h
   .rw[a7c]at h;show SeqAt.EqAt.int_str i t y u _ _ _ _ h
  .rcases k5 c with⟨j,u,rfl,rfl⟩|⟨y,u,rfl,rfl⟩
   .rw[a7a]at h;show SeqAt.EqAt.str_int x t j u _ _ _ _ h
   .rw[a7d]at h;show wpAny_eqBool_str h
 «strs»:=λk x t v h=>by
  rcases k5 h with⟨i,u,rfl,e⟩|⟨y,u,rfl,e⟩
  .show nomatch e
  .injection e with e1 _;subst e1;cases v<;>rfl
def a7M prog w i t:(dA prog w).is (.inl i) (.int i t)=true:=rMm i t
def a7G prog w x t:(dA prog w).is (.inr x) (.str x t)=true:=e12 x t
inductive V where
 |non|bl (b:Bool)|int (i:Int)|str (x:Str)|byt (b:Array UInt8)|flt (b:UInt64)|ref (a:Addr)|ty (n:String)
 deriving DecidableEq
@[reducible]def gz:=List V
abbrev Æ:V->Value->Prop
 |.non,u=>u=ŝ|.bl b,u=>u=Ů b|.int i,u=>∃t,u=Ć i t|.str x,u=>∃t,u=lw x t|.byt b,u=>∃t,u=Value.bytes b t|.flt b,u=>∃t,u=Value.float b t|.ref a,u=>u=Ð a|.ty n,u=>u=ä n
noncomputable abbrev Á:gz->gw->Prop:=Ť Æ
def Á.length(r:Á xs us):xs.length=us.length:=Km r
def Á.get:∀{xs}{us}{i:Nat}{x},Á xs us->xs[i]?=b0 x->∃u,us[i]?=b0 u/\Æ x u
 |_,_,_,_,.nil,e=>by simp at e
 |_,_,0,_,.cons r _,e=>by simp at e;subst e;show⟨_,rfl,r⟩
 |_,_,i+1,x,.cons _ t,e=>by obtain⟨u,a,b⟩:=Á.get (i:=i) (x:=x) t (by simpa using e);show⟨u,by simpa using a,b⟩
def Á.set(r:Æ x u):∀{xs}{us}i,Á xs us->Á (xs.set i x) (us.set i u)
 |_,_,_,.nil=>.nil|_,_,0,.cons _ t=>.cons r t|_,_,i+1,.cons q t=>.cons q<|Á.set r i t
def Á.append:∀{xs a}{us ws},Á xs us->Á a ws->Á (xs++a) (us++ws)
 |_,_,_,_,.nil,s=>s|_,_,_,_,.cons r t,s=>.cons r<|Á.append t s
def Á.take:∀{xs}{us}n,Á xs us->Á (xs.take n) (us.take n)
 |_,_,0,_=>.nil|_,_,_+1,.nil=>.nil|_,_,n+1,.cons r t=>.cons r<|Á.take n t
def Á.drop:∀{xs}{us}n,Á xs us->Á (xs.drop n) (us.drop n)
 |_,_,0,r=>r|_,_,_+1,.nil=>.nil|_,_,n+1,.cons _ t=>Á.drop n t
def Á.none_of:∀{xs}{us}{i:Nat},Á xs us->xs[i]?=b5->us[i]?=none:=λ{xs us i} r e=>by have a:=r.length;have b:xs.length<=i:=Ξ.mp e;show Ξ.mpr<|by lia
abbrev ġ:Option V->Option Value->Prop
 |some v,b0 u=>Æ v u|none,b5=>True|_,_=>False
abbrev KV{κ:Type}:List (κ×V)->List (κ×Value)->Prop:=Ť λ(p:κ×V)(q:κ×Value)=>p.1=q.1/\Æ p.2 q.2
abbrev kV:aK->V
 |.inl i=>.int i|.inr x=>.str x
inductive HO where
 |lst (xs:gz)
 |tup (xs:gz)
 |dK (kvs:List (aK×V))|dT (kvs:List (List aK×V))
 |set (S:Int->Bool)(n:Nat)
 |ins (C dx:Addr)(fs:List (Str×V))
 |own (x:Addr)
 |xd (fs:List (Str×V))
 |met (f x:Addr)
 |rng (lo hi:Int)
 |frz (o:Obj)(u:HO)
 |tbl (ps:Array Value)
 |ext (φ:ç->Prop)
noncomputable abbrev Hp:=Addr->Option HO
abbrev upd(H:Hp)(a:Addr)(o:HO):Hp:=λb=>if b=a then b0 o else H b
def cQ:upd H a o a=b0 o:=by unfold upd;rw[if_pos rfl]
def bC(h:b≠a):upd H a o b=H b:=by unfold upd;rw[if_neg h]
def Kg{H:Hp}(h:H a=b0 o)(h':H b=b0 u)(d:o≠u):a≠b:=by intro e;subst e;rw[h]at h';show d<|ñ h'
def iH{H:Hp}(h:H a=b0 o)(h':H b=b5):a≠b:=by intro e;subst e;rw[h]at h';cases h'
section
variable(P:ĥ)(w:Ĉ)
abbrev ž(h:ç)(a:Addr)(xs:Array Value):Prop:=∃o,h.get? a=b0 o/\o.cls=.type "tuple"/\∃n,o.data=.seq xs n/\o.dict=b5
def ž.tup{h:ç}{a:Addr}{xs:Array Value}(x:ž h a xs):jj h a xs:=let⟨o,e,c,n,d,_⟩:=x;⟨o,e,c,n,d⟩
def ž.new(h:ç)items:ž (h.push {cls:=.type "tuple",data:=.seq items}) h.objs.size items:=⟨_,Ă _ rfl,rfl,_,rfl,rfl⟩
abbrev Ì(H:Hp)(h:ç)(a:Addr):HO->Prop
 |.lst b=>b.length<=Z7/\∃(its:gw)(n:Nat),Á b its/\h.get? a=b0 {cls:=.type "list",data:=.seq its.toArray n}|.tup b=>b.length<=Z7/\∃its:gw,Á b its/\ž h a its.toArray|.dK kvs=>kvs.length<=Z7/\(a==ğ)=dI/\∃i,KV kvs i/\h.DictOf (dA P w) a i|.dT kvs=>kvs.length<=Z7/\(a==ğ)=dI/\∃b:List (List aK×Addr×Value),
   Ť (λ(p:List aK×V)(q:List aK×Addr×Value)=>p.1=q.1/\H q.2.1=b0 (.tup<|p.1.map kV)/\Æ p.2 q.2.2) kvs b /\
   ∃o d j,h.get? a=b0 o/\o.ExactDict/\o.data=.dict d j/\d.toList=b.map (xr<|Ű<|dA P w)/\(b.map (·.1)).Nodup
 |.set S n=>h.SetOf (Ř P w) a S n|.ins C dx fs=>H dx=b0 (.own a)/\fs.length<=1000/\dx≠a/\h.get? a=b0 (OZ C dx) /\
   ∃c,h.Ns1 dx c/\(∀f,ġ (fs.lookup f) (c f))/\PySem.Within c (fs.map (·.1))
 |.own _=>∃o,h.get? a=b0 o|.xd fs=>∃c,h.Ns1 a c/\∀f,ġ (fs.lookup f) (c f)|.rng lo hi=>∃t u v,h.get? a=b0 {cls:=.type "range",data:=.fields #[.int lo t,.int hi u,.int 1 v]}|.frz o u=>h.get? a=b0 o/\Ì H h a u|.tbl ps=>h.get? a=b0 {cls:=.none,data:=.fields ps}|.met f x=>h.get? a=b0 (Ml (.ref f)<|.ref x)|.ext φ=>φ h/\(∃o,h.get? a=b0 o)/\∀e g:ç,φ e->(∀o,e.get? a=b0 o->g.get? a=b0 o)->φ g
abbrev Ī(H:Hp)(h:ç):Prop:=∀a o,H a=b0 o->Ì P w H h a o
end
def Ì.lt{P:ĥ}{w:Ĉ}{H:Hp}{h:ç}{a:Addr}{o:HO}(x:Ì P w H h a o):a<h.objs.size:=by
 cases o with
 |lst c=>obtain⟨_,_,_,_,e⟩:=x;show Z8 e|tup c=>obtain⟨_,_,_,p⟩:=x;show p.tup.lt|dK b=>obtain⟨_,_,_,_,o,_,_,e,_⟩:=x;show Z8 e|dT b=>obtain⟨_,_,_,_,o,_,_,e,_⟩:=x;show Z8 e|set S n=>obtain⟨o,_,_,_,e,_⟩:=x;show Z8 e|ins C d fs=>obtain⟨_,_,_,e,_⟩:=x;show Z8 e|own y=>obtain⟨_,e⟩:=x;show Z8 e|xd fs=>obtain⟨_,⟨_,_,_,e,_⟩,_⟩:=x;show Z8 e|rng i g=>obtain⟨_,_,_,e⟩:=x;show Z8 e|frz j u=>obtain⟨e,_⟩:=x;show Z8 e|tbl l=>show Z8 (show h.get? a=b0 _ from x)|met f y=>show Z8 (show h.get? a=b0 _ from x)|ext r=>obtain⟨_,⟨_,e⟩,_⟩:=x;show Z8 e
def Ť.mapP{F G:d->e->Prop}:∀{l₁}{c},Ť F l₁ c->(∀a b,F a b->G a b)->Ť G l₁ c
 |_,_,.nil,_=>.nil|_,_,.cons r t,f=>.cons (f _ _ r)<|Ť.mapP t f
def Ì.stay(x:Ì P w H h a o)(k:∀b u,(b=a\/H b=b0 (.own a))->h.get? b=b0 u->h'.get? b=b0 u)(K:∀b,H b=b0 (.own a)->H' b=b0 (.own a))(L:∀b s,H b=b0 (.tup s)->H' b=b0 (.tup s)):Ì P w H' h' a o:=by
 induction o with
 |lst s=>obtain⟨z,l,n,r,e⟩:=x;show⟨z,l,n,r,k _ _ (.inl rfl) e⟩|tup s=>obtain⟨z,l,r,g,e,c⟩:=x;show⟨z,l,r,g,k _ _ (.inl rfl) e,c⟩|dK A=>obtain⟨z,y,N,r,g,j,i,e,c⟩:=x;show⟨z,y,N,r,g,j,i,k _ _ (.inl rfl) e,c⟩|dT A=>obtain⟨z,y,s,r,g,j,i,e,c⟩:=x;show⟨z,y,s,Ť.mapP r λp q z=>⟨z.1,L _ _ z.2.1,z.2.2⟩,g,j,i,k _ _ (.inl rfl) e,c⟩|set S n=>obtain⟨g,j,i,t,e,c⟩:=x;show⟨g,j,i,t,k _ _ (.inl rfl) e,c⟩|ins C O fs=>obtain⟨d,z,ne,e,B,⟨E,j,i,I,c⟩,r⟩:=x;show⟨K _ d,z,ne,k _ _ (.inl rfl) e,B,⟨E,j,i,k _ _ (.inr d) I,c⟩,r⟩|own y=>obtain⟨g,e⟩:=x;show⟨g,k _ _ (.inl rfl) e⟩|xd fs=>obtain⟨B,⟨E,j,i,e,c⟩,r⟩:=x;show⟨B,⟨E,j,i,k _ _ (.inl rfl) e,c⟩,r⟩|rng R Q=>obtain⟨t,u,v,e⟩:=x;show⟨t,u,v,k _ _ (.inl rfl) e⟩|frz g u M=>obtain⟨e,q⟩:=x;show⟨k _ _ (.inl rfl) e,M q⟩|tbl G=>have e:h.get? a=b0 {cls:=.none,data:=.fields G}:=x;change h'.get? a=b0 {cls:=.none,data:=.fields G};show k a _ (.inl rfl) e|met f y=>have e:h.get? a=b0 (Ml (.ref f)<|.ref y):=x;change h'.get? a=b0 (Ml (.ref f)<|.ref y);show k a _ (.inl rfl) e|ext T=>obtain⟨p,⟨o,e⟩,st⟩:=x;show⟨st _ _ p λo q=>k _ _ (.inl rfl) q,⟨o,k _ _ (.inl rfl) e⟩,st⟩
def Ī.lt{P:ĥ}{w:Ĉ}{H:Hp}{h:ç}{a:Addr}{o:HO}(x:Ī P w H h)(e:H a=b0 o):a<h.objs.size:=(x a o e).lt
def Ī.fresh{a:Addr}(x:Ī P w H h)(e:h.objs.size<=a):H a=none:=by
 cases q:H a with
 |none=>rfl|some u=>show absurd (ĭ (x.lt q) e)<|Ų _
def Ī.kept(x:Ī P w H h)(k:∀b u,h.get? b=b0 u->h'.get? b=b0 u):Ī P w H h':=λa o e=>(x a o e).stay (λb u _ q=>k b u q) (λ_ q=>q) λ_ _ q=>q
def Ī.laid{a:Addr}(x:Ī P w H h)(k:∀b u,h.get? b=b0 u->h'.get? b=b0 u)(i:h.objs.size<=a)(new:Ì P w (upd H a o) h' a o):Ī P w (upd H a o) h':=λb u e=>by
 have g:=x.fresh i;by_cases d:b=a
 .subst d;rw[cQ]at e;cases e;show new
 .rw[bC d]at e;show(x b u e).stay (λc v _ q=>k c v q) (λc q=>by rw[bC<|iH q g];show q) λc j q=>by rw[bC<|iH q g];show q
abbrev Rd(H:Hp)(a:Addr)(u:HO):Prop:=H a=b0 u\/∃o,H a=b0 (.frz o u)
def Rd.of(h:H a=b0 u):Rd H a u:=.inl h
def Rd.ok(r:Rd H a u)(x:Ī P w H h):Ì P w H h a u:=by
 rcases r with r|⟨o,r⟩
 .show x a u r
 .obtain⟨_,q⟩:=x a _ r;show q
abbrev rW:Option HO->Prop
 |some (.lst _)=>True|some (.dK _)=>True|some (.dT _)=>True|some (.set _ _)=>True|some (.ins _ _ _)=>True|some (.ext _)=>True|_=>False
def Ī.write(ok:Ī P w H h)(j:rW (H x))(o:e=x\/H e=b0 (.own x))(k:∀b u,b≠e->h.get? b=b0 u->h'.get? b=b0 u)(n:∃u,h'.get? e=b0 u)(new:Ì P w (upd H x o') h' x o'):Ī P w (upd H x o') h':=λb u q=>by
 have d:∀c y,H c=b0 (.own y)->c≠x:=λc y r z=>by subst z;rw[r]at j;show j
 have g:∀c l,H c=b0 (.tup l)->c≠x:=λc l r z=>by subst z;rw[r]at j;show j
 by_cases i:b=x
 .subst i;rw[cQ]at q;cases q;show new
 .rw[bC i]at q;by_cases a:b=e
  .have p:H b=b0 (.own x):=by
    rcases o with z|z
    .show absurd (a.trans z) i
    .rw[a];show z
   rw[q]at p;cases p;obtain⟨v,s⟩:=n;show⟨v,by rw[a];show s⟩
  .show(ok b u q).stay (λc v hc r=>k c v ?_ r) (λc r=>by rw[bC<|d c b r];show r) λc l r=>by rw[bC<|g c l r];show r
   rcases hc with rfl|hc
   .show a
   .rintro rfl;rcases o with z|z
    .show d c b hc z
    .rw[hc]at z;cases z;show i rfl
structure Un(fs ex:List Addr)(H H':Hp)(h h':ç):Prop where
 keep:∀b o,h.get? b=b0 o->H b=b5->b∉fs->b∉ex->h'.get? b=b0 o
 slot:∀b o,h.get? b=b0 o->H b=b5->b∈fs->b∉ex->∃sl,h'.get? b=b0 {o with slots:=sl}
 free:∀b o,h.get? b=b0 o->H b=b5->b∉ex->H' b=b5
 there:∀b o,h.get? b=b0 o->b∉ex->∃o',h'.get? b=b0 o'
 tups:∀b xs,H b=b0 (.tup xs)->H' b=b0 (.tup xs)
 frzs:∀b o u,H b=b0 (.frz o u)->H' b=b0 (.frz o u)
 tbls:∀b ps,H b=b0 (.tbl ps)->∃more,H' b=b0 (.tbl<|ps++more)
def Un.any(u:Un fs ex H H1 h h1)(q:h.get? b=b0 c)(n:H b=b5)(g:b∉ex):∃i,h1.get? b=b0 {c with slots:=i}:=by
 by_cases d:b∈fs
 .show u.slot b c q n d g
 .show⟨c.slots,u.keep b c q n d g⟩
def Un.kept(k:∀b u,h.get? b=b0 u->h'.get? b=b0 u):Un fs ex H H h h':=
 ⟨λb c q _ _ _=>k b c q,λb c q _ _ _=>⟨c.slots,k b c q⟩,λ_ _ _ n _=>n,λb c q _=>⟨c,k b c q⟩,λ_ _ q=>q,λ_ _ _ q=>q,λ_ d q=>⟨#[],by rw[q];simp⟩⟩
def Un.refl:Un fs ex H H h h:=Un.kept λ_ _ q=>q
def Un.laid{h:ç}{a:Addr}(k:∀b u,h.get? b=b0 u->h'.get? b=b0 u)(d:h.objs.size<=a)(c:H a=b5):Un fs ex H (upd H a o) h h' where
 keep:=λb u q _ _ _=>k b u q
 slot:=λb u q _ _ _=>⟨u.slots,k b u q⟩
 free:=λb u q n _=>by rw[bC<|ð<|ĭ (Z8 q) d];show n
 there:=λb u q _=>⟨u,k b u q⟩
 tups:=λb g q=>by rw[bC<|iH q c];show q
 frzs:=λb u g q=>by rw[bC<|iH q c];show q
 tbls:=λb i q=>⟨#[],by rw[bC<|iH q c,q];simp⟩
def Un.write(d:rW (H x))(p:e=x\/H e=b0 (.own x))(k:∀b u,b≠e->h.get? b=b0 u->h'.get? b=b0 u)(g:∃u,h'.get? e=b0 u):Un fs ex H (upd H x o) h h':=by
 have l:∀b,H b=b5->b≠x:=λb n z=>by subst z;rw[n]at d;show d
 have j:∀b,H b=b5->b≠e:=λb n z=>by
  subst z;rcases p with r|r
  .show l b n r
  .rw[n]at r;cases r
 have i:∀b u,H b=b0 u->¬ rW (b0 u)->b≠x:=λb u q s z=>by subst z;rw[q]at d;show s d
 show⟨λb u q n _ _=>k b u (j b n) q,λb u q n _ _=>⟨u.slots,k b u (j b n) q⟩,λb u q n _=>by rw[bC<|l b n];show n,λb u q _=>?_,
  λb v q=>by rw[bC<|i b _ q λz=>z];show q,λb u v q=>by rw[bC<|i b _ q λz=>z];show q,λb w q=>⟨#[],by rw[bC<|i b _ q λz=>z,q];simp⟩⟩
 by_cases c:b=e
 .subst c;show g
 .show⟨u,k b u c q⟩
abbrev uP(h:ç)(H:Hp):List Addr:=(ă h.objs.size).filter λa=>(H a).isSome
abbrev k6(h:ç)(H:Hp):ç:=PySem.W.hideAll h<|uP h H
def a7B h H:(k6 h H).objs.size=h.objs.size:=PySem.W.hideAll_size _ _
def a6t(e:h.get? b=b0 o)(n:H b=b5):(k6 h H).get? b=b0 o:=
 PySem.W.hideAll_get _ e λa=>by have q:(H b).isSome=true:=(ş.mp a).2;rw[n]at q;simp at q
def a6s(e:(k6 h H).get? b=b0 o):h.get? b=b0 o/\H b=none:=by
 have a:h.get? b=b0 o:=PySem.W.of_hideAll (uP h H) e;show⟨a,?_⟩;cases q:H b with
 |none=>rfl|some x=>have c:b∈uP h H:=ş.mpr ⟨Ō.mpr<|Z8 a,by simp[q]⟩;have z:(k6 h H).get? b=none:=PySem.W.hideAll_none (uP h H) c;rw[z]at e;cases e
abbrev a6r(g h:ç)(L:Addr):jw:=(ă h.objs.size).filterMap λa=>if a=L\/(g.get? a).isSome=eA then b5 else(h.get? a).map λo=>(a,o)
abbrev Ä(g h:ç)(L d:Addr):jw:=(a6r g h L).filter λp=>decide<|p.1≠d
structure Mod(K:ZV)(mg:Str->Option Value)(base:ç):Prop where
 kin:K.In base
 glob:base.Ns ř mg
 blt:∃mb,base.Ns Lc mb/\∀x:Str,x ≠ "__name__"->mb x=Ż x
 nolimit:base.NoLimit
structure Cx where
 prog:ĥ
 w:Ĉ
 K:ZV
 mg:Str->Option Value
 base:ç
 A:ĺ
 N:List Str
 s₀:ZZ
 H₀:Hp
 env:Δ
 outer:List Δ
 stack:List Δ
 ex:List Addr
 fn:Str->Bool
 calm:Bool
 pn:jw
 xe:Value->ZZ->Prop
abbrev iI(l:List Δ):List Addr:=l.filterMap (·.frame)
noncomputable abbrev Cx.fs(X:Cx):List Addr:=iI X.outer
abbrev nX(sc:Ź)(x:Str):Prop:=sc.names.lookup x=b0 .local\/sc.names.lookup x=b0 .cell\/sc.names.lookup x=b0 .free
abbrev Loc(sc:Ź)(x:Str):Prop:=sc.names.lookup x=b0 .local\/sc.names.lookup x=b0 .cell
abbrev a6q(env:Δ)(h:ç)(m:Str->Option Value)(x:Str)(u:Value):Prop:=
 (env.kindOf x=b0 .local/\m x=b0 u)\/((env.kindOf x=b0 .cell\/env.kindOf x=b0 .free)/\∃c,env.cells.lookup x=b0 c/\h.IsCell c (b0 u))
structure Cx.Ok(X:Cx):Prop where
 mod:Mod X.K X.mg X.base
 kind:X.env.scope.kind=.function
 glob:X.env.globals=ř
 blt:X.env.builtins=Lc
 above:X.s₀.heap.objs.size<=X.env.locals
 inj:∀x y c,X.env.cells.lookup x=b0 c->X.env.cells.lookup y=b0 c->x=y
 has:∀x,(X.env.kindOf x=b0 .cell\/X.env.kindOf x=b0 .free)->∃c,X.env.cells.lookup x=b0 c
 cab:∀x c,X.fn x=eA->X.env.cells.lookup x=b0 c->X.s₀.heap.objs.size<=c
 hd:X.calm=eA->X.A.handled=b5
 frames:X.A.frames=b0 X.stack
 stk:X.stack=X.outer\/(X.stack=X.env::X.outer/\X.env.frame=b0 X.env.locals)
 exf:∀b∈X.ex,b≠X.env.locals/\∀x c,X.env.cells.lookup x=b0 c->c≠b
 bs:∀b o,X.base.get? b=b0 o->X.s₀.heap.get? b=b0 o/\X.H₀ b=b5
 bsz:X.base.objs.size<=X.s₀.heap.objs.size
 noex:∀b o,X.base.get? b=b0 o->b∉X.ex
 exfs:∀b∈X.ex,b∉X.fs
 funs:X.s₀.heap.FunFrames X.base X.outer
 frf:∀b∈X.fs,X.H₀ b=b5
structure Inv(X:Cx)(Dn:jw)(σ:List (Option V))(H:Hp)(s:ZZ):Prop where
 ok:X.Ok
 os:s.os=X.s₀.os
 bare:cj s.gens
 base:Un X.fs X.ex X.H₀ H X.s₀.heap s.heap
 loc:∃m,s.heap.Ns X.env.locals m/\∀(i:Nat)(x:Str)(v:V),X.N[i]?=b0 x->σ[i]?=b0 (b0 v)->nX X.env.scope x->∃u,Æ v u/\a6q X.env s.heap m x u
 cell:∀x c,X.env.cells.lookup x=b0 c->∃v,s.heap.IsCell c v
 free:H X.env.locals=b5
 freeC:∀x c,X.env.cells.lookup x=b0 c->H c=b5
 pin:∀p∈X.pn++Dn,s.heap.get? p.1=b0 p.2/\H p.1=b5/\p.1≠X.env.locals/\p.1∉X.fs/\∀v,p.2.data≠.cell v
 hok:Ī X.prog X.w H s.heap
 len:σ.length=X.N.length
def Cx.Ok.nofr{X:Cx}(ok:X.Ok)(e:X.base.get? b=b0 o):b∉X.fs:=λa=>by have:=(ok.funs.mem a).1;rw[e]at this;cases this
def Inv.bs(I:Inv X Dn σ H s):∀b o,X.base.get? b=b0 o->s.heap.get? b=b0 o/\H b=none:=λb o e=>⟨I.base.keep b o (I.ok.bs b o e).1 (I.ok.bs b o e).2 (I.ok.nofr e)<|I.ok.noex b o e,I.base.free b o (I.ok.bs b o e).1 (I.ok.bs b o e).2<|I.ok.noex b o e⟩
def Inv.bk(I:Inv X Dn σ H s):∀b o,X.base.get? b=b0 o->s.heap.get? b=b0 o:=λb o e=>(I.bs b o e).1
def Inv.mod(I:Inv X Dn σ H s):Mod X.K X.mg X.base:=I.ok.mod
def Inv.kIn(I:Inv X Dn σ H s):X.K.In s.heap:=I.ok.mod.kin.keeps I.bk
def Inv.lt{X:Cx}{Dn:jw}{σ:List (Option V)}{H:Hp}{s:ZZ}(I:Inv X Dn σ H s):X.env.locals<s.heap.objs.size:=let⟨_,a,_⟩:=I.loc;a.lt
def Inv.sz(I:Inv X Dn σ H s):X.s₀.heap.objs.size<=s.heap.objs.size:=ė I.ok.above<|ż I.lt
def Inv.nofs(I:Inv X Dn σ H s){a:Addr}(h:s.heap.objs.size<=a):a∉X.fs:=λb=>by obtain⟨_,o,c,_⟩:=I.ok.funs.mem b;show absurd (ĭ (Z8 c)<|ė I.sz h)<|Ų _
def Inv.cne(I:Inv X Dn σ H s):∀x c,X.env.cells.lookup x=b0 c->c≠X.env.locals:=λx c e z=>by obtain⟨v,o,d,hd⟩:=I.cell x c e;obtain⟨m,⟨i,h,g,b,a,_⟩,_⟩:=I.loc;rw[z,b]at d;cases d;rw[a]at hd;cases hd
def Inv.funs(I:Inv X Dn σ H s):s.heap.FunFrames X.base X.outer:=by
 have all:∀(l:List Δ),(∀b∈iI l,b∈X.fs)->X.s₀.heap.FunFrames X.base l->s.heap.FunFrames X.base l:=by
  intro l;induction l with
  |nil=>intro _ _;trivial|cons h r v=>intro g j;obtain⟨i,⟨L,o,d,n,p,hd⟩,u⟩:=j;have a:L∈X.fs:=g L (by unfold iI;rw[pD,d];show Ś);obtain⟨w,e⟩:=I.base.slot L o p (I.ok.frf L a) a λz=>I.ok.exfs L z a;show⟨i,⟨L,_,d,n,e,hd⟩,v (λb c=>g b<|by unfold iI;rw[pD,d];show ň _ c) u⟩
 show all X.outer (λ_ c=>c) I.ok.funs
def Inv.stack(I:Inv X Dn σ H s):s.heap.FunFrames X.base X.stack:=by
 rcases I.ok.stk with e|⟨e,a⟩
 .rw[e];show I.funs
 .rw[e];obtain⟨m,b,_⟩:=I.loc;show .cons (by rw[I.ok.kind];decide) a b ?_ I.funs;show Heap.get?_none_of_le<|ė I.ok.bsz I.ok.above
def Inv.stkSub(I:Inv X Dn σ H s):∀b∈iI X.stack,b∈X.env.locals::X.fs:=λb a=>by
 rcases I.ok.stk with e|⟨e,c⟩
 .rw[e]at a;show ň _ a
 .rw[e]at a;unfold iI at a;rw[pD,c]at a;show a
def Inv.stkFree(I:Inv X Dn σ H s):∀b∈iI X.stack,H b=none:=λb a=>by
 rcases Ě.mp (I.stkSub b a)with e|a
 .rw[e];show I.free
 .obtain⟨_,o,c,_⟩:=I.ok.funs.mem a;show I.base.free b o c (I.ok.frf b a) λz=>I.ok.exfs b z a
def Inv.step{ch:List Addr}(I:Inv X Dn σ H s)(h:∀b∈ch,(b∈X.ex\/X.s₀.heap.objs.size<=b)/\b≠X.env.locals/\(∀x c,X.env.cells.lookup x=b0 c->c≠b)/\∀p∈X.pn++Dn,p.1≠b)(j:∀b o,b≠X.env.locals->b∉X.fs->b∉ch->s.heap.get? b=b0 o->H b=b5->h'.get? b=b0 o)(B:∀b o,b≠X.env.locals->b∈X.fs->b∉ch->s.heap.get? b=b0 o->H b=b5->∃Z,h'.get? b=b0 {o with slots:=Z})(free:∀b o,b∉ch->s.heap.get? b=b0 o->H b=b5->H' b=b5)(K:∀b o,b∉ch->s.heap.get? b=b0 o->∃Q,h'.get? b=b0 Q)(T:∀b E,H b=b0 (.tup E)->H' b=b0 (.tup E))(N:∀b o u,H b=b0 (.frz o u)->H' b=b0 (.frz o u))(R:∀b U,H b=b0 (.tbl U)->∃more,H' b=b0 (.tbl<|U++more))(ns:∀m,s.heap.Ns X.env.locals m->h'.Ns X.env.locals m)(Y:Ī X.prog X.w H' h')(hg:cj g'):
  Inv X Dn σ H' {s with heap:=h',gens:=g',drawn:=d',toks:=t'}:=by
 have O:∀b o,X.s₀.heap.get? b=b0 o->b≠X.env.locals:=λb o e=>ð<|ĭ (Z8 e) I.ok.above;have A:∀b o,X.s₀.heap.get? b=b0 o->b∉X.ex->b∉ch:=λb o e a G=>by
  rcases(h b G).1 with z|z
  .show a z
  .show absurd (ĭ (Z8 e) z)<|Ų _
 have g:∀x c,X.env.cells.lookup x=b0 c->∀v,s.heap.IsCell c v->h'.IsCell c v:=λx c e v ⟨o,L,hd⟩=>by
  have w:c∉ch:=λz=>(h c z).2.2.1 x c e rfl;by_cases hc:c∈X.fs
  .obtain⟨Z,q⟩:=B c o (I.cne x c e) hc w L<|I.freeC x c e;show⟨_,q,hd⟩
  .show⟨o,j c o (I.cne x c e) hc w L<|I.freeC x c e,hd⟩
 show⟨I.ok,I.os,hg,⟨λb o e n G a=>?_,λb o e n G a=>?_,λb o e n a=>?_,λb o e a=>?_,λb E e=>T b E<|I.base.tups b E e,λb o E e=>N b o E<|I.base.frzs b o E e,λb U e=>?_⟩,?_,λx c e=>?_,?_,λx c e=>?_,λp hp=>?_,Y,I.len⟩
 .show j b o (O b o e) G (A b o e a) (I.base.keep b o e n G a)<|I.base.free b o e n a
 .obtain⟨Z,y⟩:=I.base.slot b o e n G a;obtain⟨sl',M⟩:=B b _ (O b o e) G (A b o e a) y<|I.base.free b o e n a;show⟨sl',M⟩
 .obtain⟨Q,y⟩:=I.base.there b o e a;show free b Q (A b o e a) y<|I.base.free b o e n a
 .obtain⟨Q,y⟩:=I.base.there b o e a;show K b Q (A b o e a) y
 .obtain⟨m1,y⟩:=I.base.tbls b U e;obtain⟨m2,M⟩:=R b _ y;show⟨m1++m2,by rw[M,Array.append_assoc]⟩
 .obtain⟨m,hn,hl⟩:=I.loc;show⟨m,ns m hn,λi x v y M e3=>?_⟩;obtain⟨u,r,l⟩:=hl i x v y M e3;show⟨u,r,?_⟩;rcases l with l|⟨k,c,e,z⟩
  .show .inl l
  .show .inr ⟨k,c,e,g x c e _ z⟩
 .obtain⟨v,z⟩:=I.cell x c e;show⟨v,g x c e v z⟩
 .obtain⟨m,⟨o,_,_,L,_⟩,_⟩:=I.loc;show free _ o (λz=>(h _ z).2.1 rfl) L I.free
 .obtain⟨v,o,L,hd⟩:=I.cell x c e;show free c o (λz=>(h c z).2.2.1 x c e rfl) L<|I.freeC x c e
 .obtain⟨e,n,ne,nf,d⟩:=I.pin p hp;have w:p.1∉ch:=λz=>(h p.1 z).2.2.2 p hp rfl;show⟨j p.1 p.2 ne nf w e n,free p.1 p.2 w e n,ne,nf,d⟩
def Inv.un(I:Inv X Dn σ H s)(u:Un X.fs [] H H' s.heap h')(h:Ī X.prog X.w H' h'):Inv X Dn σ H' {s with heap:=h',toks:=t'}:=by
 obtain⟨m,⟨o,w,v,i,r⟩,_⟩:=id I.loc;obtain⟨A,j⟩:=u.any i I.free (by simp);show I.step (g':=s.gens) (d':=s.drawn) (ch:=[]) (λ_ z=>nomatch z) (λb o _ g _ e n=>u.keep b o e n g<|by simp) (λb o _ g _ e n=>u.slot b o e n g<|by simp) (λb o _ e n=>u.free b o e n<|by simp) (λb o _ e=>u.there b o e<|by simp) u.tups u.frzs u.tbls (λx l=>by
  obtain⟨y,d,c,a,p⟩:=l;rw[i]at a;cases a;show⟨_,d,c,j,p⟩) h I.bare
def Inv.call(I:Inv X Dn σ H s)(u:Un (iI X.stack) ch H H' s.heap h')(j:Ī X.prog X.w H' h')(w:cj g')(a:∀b∈ch,(b∈X.ex\/X.s₀.heap.objs.size<=b)/\b≠X.env.locals/\(∀x c,X.env.cells.lookup x=b0 c->c≠b)/\∀p∈X.pn++Dn,p.1≠b):
  Inv X Dn σ H' {s with heap:=h',gens:=g',drawn:=d',toks:=t'}:=by
 obtain⟨m,⟨o,E,B,l,r⟩,_⟩:=id I.loc;obtain⟨L,i⟩:=u.any l I.free λz=>(a _ z).2.1 rfl;show I.step (ch:=ch) a (λb o i v hc e n=>u.keep b o e n (λz=>(Ě.mp<|I.stkSub b z).elim i v) hc) (λb o _ _ hc e n=>u.any e n hc) (λb o hc e n=>u.free b o e n hc) (λb o hc e=>u.there b o e hc) u.tups u.frzs u.tbls (λG y=>by
  obtain⟨K,h,g,d,A⟩:=y;rw[l]at d;cases d;show⟨_,h,g,i,A⟩) j w
def Inv.turned(I:Inv X Dn σ H s)(k:∀b o,b≠a->s.heap.get? b=b0 o->h'.get? b=b0 o)(A:H a=b5)(g:a≠X.env.locals)(h1:a∈X.ex\/X.s₀.heap.objs.size<=a)(j:∀x c,X.env.cells.lookup x=b0 c->c≠a)(l:∀p∈X.pn++Dn,p.1≠a):Inv X Dn σ H {s with heap:=h',toks:=t'}:=by
 have d:∀b u,H b=b0 u->b≠a:=λb u e z=>by rw[z,A]at e;cases e
 show I.step (g':=s.gens) (d':=s.drawn) (ch:=[a]) (λb w=>?_) (λb o _ _ hc e _=>k b o (λz=>hc<|by simp[z]) e) (λb o _ _ hc e _=>⟨o.slots,k b o (λz=>hc<|by simp[z]) e⟩) (λ_ _ _ _ n=>n)
  (λb o hc e=>⟨o,k b o (λz=>hc<|by simp[z]) e⟩) (λ_ _ e=>e) (λ_ _ _ e=>e) (λb E e=>⟨#[],by rw[e];simp⟩) (λm y=>?_) (λb u e=>?_) I.bare
 .have e:b=a:=by simpa using w
  subst e;show⟨h1,g,j,l⟩
 .obtain⟨o,i,h,B,r⟩:=y;show⟨o,i,h,k _ o (ó g) B,r⟩
 .show(I.hok b u e).stay (λc v hc q=>k c v ?_ q) (λ_ q=>q) λ_ _ q=>q;rcases hc with z|z
  .rw[z];show d b u e
  .show d c _ z
def Inv.tok(I:Inv X Dn σ H s)t:Inv X Dn σ H {s with toks:=t}:=I.un (h':=s.heap) (t':=t) Un.refl I.hok
def Inv.kept(I:Inv X Dn σ H s)(k:∀b u,s.heap.get? b=b0 u->h'.get? b=b0 u):Inv X Dn σ H {s with heap:=h',toks:=t'}:=I.un (Un.kept k)<|I.hok.kept k
def Inv.laid{a:Addr}(I:Inv X Dn σ H s)(k:∀b u,s.heap.get? b=b0 u->h'.get? b=b0 u)(c:s.heap.objs.size<=a)(new:Ì X.prog X.w (upd H a o) h' a o):
  Inv X Dn σ (upd H a o) {s with heap:=h',toks:=t'}:=I.un (Un.laid k c<|I.hok.fresh c)<|I.hok.laid k c new
def Inv.write(I:Inv X Dn σ H s)(d:rW (H x))(c:e=x\/H e=b0 (.own x))(k:∀b u,b≠e->s.heap.get? b=b0 u->h'.get? b=b0 u)(a:∃u,h'.get? e=b0 u)(new:Ì X.prog X.w (upd H x o) h' x o):Inv X Dn σ (upd H x o) {s with heap:=h',toks:=t'}:=I.un (Un.write d c k a)<|I.hok.write d c k a new
def Inv.pins_of(I:Inv X Dn σ H s)(h:∀p∈a,s.heap.get? p.1=b0 p.2/\H p.1=b5/\p.1≠X.env.locals/\p.1∉X.fs/\∀v,p.2.data≠.cell v):Inv X a σ H s:=
 ⟨I.ok,I.os,I.bare,I.base,I.loc,I.cell,I.free,I.freeC,λp b=>(ù.mp b).elim (λz=>I.pin p<|Oo _ z)<|h p,I.hok,I.len⟩
def CT{N:List Str}(e:N.Nodup){i:Nat}(a:N[i]?=b0 x)(b:N[j]?=b0 x):i=j:=by obtain⟨g,c⟩:=ZW.mp a;obtain⟨h,d⟩:=ZW.mp b;show(O2 e).mp<|c.trans d.symm
def CU(I:Inv X Dn σ H s)(hN:X.N.Nodup)(hi:X.N[i]?=b0 x)(B:Loc X.env.scope x)(r:Æ v u)(h:∀s',Inv X Dn (σ.set i<|b0 v) H s'->(∃a,γ a s.heap s'.heap/\(a=X.env.locals\/X.env.cells.lookup x=b0 a))->Q () s')(hf:X.fn x=eA\/X.env.scope.names.lookup x=b0 .local:=by first|show .inl rfl|show .inr rfl|assumption):Ç M A (storeName X.env x u) Q E s:=by
 obtain⟨m,hn,hl⟩:=id I.loc;have Z:(X.env.scope.kind==.class||(X.env.scope.kind==.module&&X.env.locals != X.env.globals))=false:=by rw[I.ok.kind];rfl
 have L:i<σ.length:=by rw[I.len];show(ZW.mp hi).1
 have cne:=I.cne;have w:∀{a:Addr}{h':ç},(∃o,s.heap.get? a=b0 o/\H a=b5)->γ a s.heap h'->Ī X.prog X.w H h':=λ{a h'} ha g b ob e=>by
  obtain⟨_,_,G⟩:=ha;show(I.hok b ob e).stay (λc w' hc q=>(g.2 c ?_).trans q) (λ_ q=>q) λ_ _ q=>q;rintro rfl;rcases hc with rfl|hc
  .rw[G]at e;cases e
  .rw[G]at hc;cases hc
 rcases B with N|N
 .show wpAny_storeName_local N hn (λh' hn' g=>?_) Z;obtain⟨oL,_,_,hoL,_⟩:=id hn;show h _ ⟨I.ok,I.os,I.bare,⟨λb o e n O B=>?_,λb o e n O B=>?_,I.base.free,λb o e B=>?_,I.base.tups,I.base.frzs,I.base.tbls⟩,⟨_,hn',λj y v' l K e3=>?_⟩,λy c e=>?_,I.free,I.freeC,λp hp=>?_,w ⟨oL,hoL,I.free⟩ g,by simpa using I.len⟩ ⟨_,g,.inl rfl⟩
  .show(g.2 b<|ð<|ĭ (Z8 e) I.ok.above).trans<|I.base.keep b o e n O B
  .obtain⟨sl,l⟩:=I.base.slot b o e n O B;show⟨sl,(g.2 b<|ð<|ĭ (Z8 e) I.ok.above).trans l⟩
  .obtain⟨o',l⟩:=I.base.there b o e B;show⟨o',(g.2 b<|ð<|ĭ (Z8 e) I.ok.above).trans l⟩
  .by_cases T:j=i
   .subst T;rw[hi]at l;cases l;rw[Ν L]at K;cases K;show⟨u,r,.inl ⟨N,by simp⟩⟩
   .rw[Č<|ó T]at K;obtain⟨u',r',q⟩:=hl j y v' l K e3;show⟨u',r',?_⟩;rcases q with⟨k,e⟩|⟨k,c,e,z⟩
    .show .inl ⟨k,?_⟩;have:y≠x:=λe=>T<|CT hN l<|e▸hi;simp[this,e]
    .show .inr ⟨k,c,e,z.sameBut g<|cne y c e⟩
  .obtain⟨w',z⟩:=I.cell y c e;show⟨w',z.sameBut g<|cne y c e⟩
  .obtain⟨e,n,ne,nf,d⟩:=I.pin p hp;show⟨(g.2 p.1 ne).trans e,n,ne,nf,d⟩
 .have R:X.fn x=true:=by
   rcases hf with z|z
   .show z
   .rw[z]at N;cases N
  obtain⟨c,hc⟩:=I.ok.has x<|.inl N;obtain⟨w',z⟩:=I.cell x c hc;show wpAny_storeName_cell I.ok.kind N hc z λh' U g=>?_;obtain⟨oc,hoc,hocd⟩:=id z;show h {s with heap:=h'} ⟨I.ok,I.os,I.bare,⟨λb o e n O B=>?_,λb o e n O B=>?_,I.base.free,λb o e B=>?_,I.base.tups,I.base.frzs,I.base.tbls⟩,⟨m,hn.sameBut g<|ó<|cne x c hc,λj y v' l K e3=>?_⟩,λy c' e=>?_,I.free,I.freeC,λp hp=>?_,w ⟨oc,hoc,I.freeC x c hc⟩ g,by simpa using I.len⟩ ⟨c,g,.inr hc⟩
  .show(g.2 b<|ð<|ĭ (Z8 e)<|I.ok.cab x c R hc).trans<|I.base.keep b o e n O B
  .obtain⟨sl,l⟩:=I.base.slot b o e n O B;show⟨sl,(g.2 b<|ð<|ĭ (Z8 e)<|I.ok.cab x c R hc).trans l⟩
  .obtain⟨o',l⟩:=I.base.there b o e B;show⟨o',(g.2 b<|ð<|ĭ (Z8 e)<|I.ok.cab x c R hc).trans l⟩
  .by_cases T:j=i
   .subst T;rw[hi]at l;cases l;rw[Ν L]at K;cases K;show⟨u,r,.inr ⟨.inl N,c,hc,U⟩⟩
   .rw[Č<|ó T]at K;obtain⟨u',r',q⟩:=hl j y v' l K e3;show⟨u',r',?_⟩;rcases q with q|⟨k,c',e,z'⟩
    .show .inl q
    .show .inr ⟨k,c',e,z'.sameBut g ?_⟩;rintro rfl;show T<|CT hN l<|I.ok.inj _ _ _ e hc▸hi
  .by_cases Y:c'=c
   .subst Y;show⟨_,U⟩
   .obtain⟨w2,z2⟩:=I.cell y c' e;show⟨w2,z2.sameBut g Y⟩
  .obtain⟨e,n,ne,nf,d⟩:=I.pin p hp;show⟨(g.2 p.1 ?_).trans e,n,ne,nf,d⟩;intro q;rw[q,hoc]at e;have q':oc=p.2:=ñ e;show d w'<|by rw[<- q'];show hocd
def CV(I:Inv X Dn σ H s)(c:X.N.Nodup)(e:X.N[i]?=b0 x)(g:Loc X.env.scope x)(r:Æ v u)(h:∀a,Inv X Dn (σ.set i<|b0 v) H a->Q () a)(d:X.fn x=eA\/X.env.scope.names.lookup x=b0 .local:=by first|show .inl rfl|show .inr rfl|assumption):Ç M A (storeName X.env x u) Q E s:=
 CU I c e g r (λa b _=>h a b) d
noncomputable abbrev XK:=Value->Option Addr->Hp->Prop
noncomputable abbrev St:=List<|Option V
noncomputable abbrev VK:=V->Hp->Prop
noncomputable abbrev TE:=St->Hp->VK->Prop
noncomputable abbrev TT:=St->Hp->(Bool->Hp->Prop)->Prop
noncomputable abbrev TA:=St->Hp->(List V->Hp->Prop)->Prop
structure ς where
 nx:St->Hp->Prop
 rt:VK
 bk:St->Hp->Prop:=λ_ _=>False
 ct:St->Hp->Prop:=λ_ _=>False
noncomputable abbrev TS:=ς->St->Hp->Prop
inductive EP (X:Cx)(Dn:jw)(σ:St)(Q:VK)(u:Value)(s':ZZ):Prop
 |mk (v:V)(H':Hp)(I:Inv X Dn σ H' s')(r:Æ v u)(q:Q v H'):EP X Dn σ Q u s'
inductive TP (X:Cx)(Dn:jw)(σ:St)(Q:Bool->Hp->Prop)(b:Bool)(s':ZZ):Prop
 |mk (H':Hp)(I:Inv X Dn σ H' s')(q:Q b H'):TP X Dn σ Q b s'
inductive AP (X:Cx)(Dn:jw)(σ:St)(Q:gz->Hp->Prop)(us:gw)(s':ZZ):Prop
 |mk (vs:gz)(H':Hp)(I:Inv X Dn σ H' s')(r:Á vs us)(q:Q vs H'):AP X Dn σ Q us s'
inductive vf (X:Cx)(Dn:jw)(Q:St->Hp->Prop)(s':ZZ):Prop
 |mk (σ':St)(H':Hp)(I:Inv X Dn σ' H' s')(q:Q σ' H'):vf X Dn Q s'
inductive Qf (X:Cx)(Dn:jw)(Q:VK)(u:Value)(s':ZZ):Prop
 |mk (v:V)(σ':St)(H':Hp)(I:Inv X Dn σ' H' s')(r:Æ v u)(q:Q v H'):Qf X Dn Q u s'
abbrev SP(X:Cx)(Dn:jw)(D:ς)(f:Flow)(a:ZZ):Prop:=
 match f with
 |.next=>vf X Dn D.nx a|.brk=>vf X Dn D.bk a|.cont=>vf X Dn D.ct a|.ret u=>Qf X Dn D.rt u a
abbrev PE(X:Cx)(e:Expr)(t:TE):Prop:=
 ∀(Dn:jw)(s:ZZ)(σ:St)(H:Hp)(Q:VK),Inv X Dn σ H s->t σ H Q->Ç (Å X.prog X.w) X.A (eval e X.env) (EP X Dn σ Q) X.xe s
abbrev PT(X:Cx)(e:Expr)(t:TT):Prop:=
 ∀(Dn:jw)(s:ZZ)(σ:St)(H:Hp)(Q:Bool->Hp->Prop),Inv X Dn σ H s->t σ H Q->Ç (Å X.prog X.w) X.A (qp e X.env<|eval e X.env) (TP X Dn σ Q) X.xe s
abbrev PW(X:Cx)(e:Expr)(t:TT):Prop:=
 ∀(a:ĕ Value)(Dn:jw)(s:ZZ)(σ:St)(H:Hp)(Q:Bool->Hp->Prop),Inv X Dn σ H s->t σ H Q->Ç (Å X.prog X.w) X.A (qp e X.env a) (TP X Dn σ Q) X.xe s
def PW.pt(h:PW X e t):PT X e t:=h _
abbrev PA(X:Cx)(es:List Expr)(t:TA):Prop:=
 ∀(pos:ß)(Dn:jw)(s:ZZ)(σ:St)(H:Hp)(Q:gz->Hp->Prop),Inv X Dn σ H s->t σ H Q->Ç (Å X.prog X.w) X.A (spliced<|ĸ pos<|æ es X.env) (AP X Dn σ Q) X.xe s
abbrev PS(X:Cx)(st:Stmt)(t:TS):Prop:=
 ∀(Dn:jw)(s:ZZ)(σ:St)(H:Hp)(D:ς),Inv X Dn σ H s->t D σ H->Ç (Å X.prog X.w) X.A (exec st X.env) (SP X Dn D) X.xe s
abbrev Ņ(X:Cx)(st:List Stmt)(t:TS):Prop:=
 ∀(Dn:jw)(s:ZZ)(σ:St)(H:Hp)(D:ς),Inv X Dn σ H s->t D σ H->Ç (Å X.prog X.w) X.A (execs st X.env) (SP X Dn D) X.xe s
def aP{t:ĕ c}{Q b:c->ZZ->Prop}(h:Ç M A t Q E s)(d:∀a s,Q a s->b a s):Ç M A t b E s:=Ĭ h d λ_ _ x=>x
abbrev yL(i:Nat):TE:=λσ H Q=>∃v,σ[i]?=b0 (b0 v)/\Q v H
abbrev tC(v:V):TE:=λ_ H Q=>Q v H
def CW(j:X.N[i]?=b0 x)(w:nX X.env.scope x)(hd:(x==("__debug__":Str))=false:=by decide)(g:(x==("__classdict__":Str))=false:=by decide):PE X (.Name x pos) (yL i):=by
 intro d s y H Q I h;obtain⟨v,e,h⟩:=h;obtain⟨m,p,n⟩:=I.loc;obtain⟨u,r,l⟩:=n i x v j e w;have fin:EP X d y Q u s:=⟨v,H,I,r,h⟩;rcases l with⟨b,o⟩|⟨b,c,hc,a⟩
 .show Lf (wpAny_loadName_local I.ok.kind b p o fin) hd
 .rcases b with b|b
  .show Lf (wpAny_loadName_cell I.ok.kind b hc a fin) hd
  .show Lf (wpAny_loadName_free I.ok.kind b hc a fin g) hd
def a6p{i j pos}:PE X (.Constant (.int i) j pos) (tC<|.int i):=λ_ _ _ H _ I h=>wpAny_Constant_int ⟨.int i,H,I.tok _,⟨_,rfl⟩,h⟩
def a6i{b j pos}:PE X (.Constant (.bool b) j pos) (tC<|.bl b):=λ_ _ _ H _ I h=>Constant_bool ⟨.bl b,H,I,rfl,h⟩
def a6d{j pos}:PE X (.Constant .none j pos) (tC .non):=λ_ _ _ H _ I h=>Constant_none ⟨.non,H,I,rfl,h⟩
def a6a{x j pos}:PE X (.Constant (.str x) j pos) (tC<|.str x):=λ_ _ _ H _ I h=>Calls.Constant_str ⟨.str x,H,I.tok _,⟨_,rfl⟩,h⟩
abbrev Gl(X:Cx)(x:Str):Prop:=X.env.kindOf x=b0 .globalImplicit
def rX{σ:St}(I:Inv X Dn σ H s)(a:Gl X x)(b:X.mg x=b0 u)(h:Q u s)(hd:(x==("__debug__":Str))=false:=by decide):Ç (Å X.prog X.w) X.A (eval (.Name x pos) X.env) Q E s:=
 Py I.ok.kind a (Calls.loadGlobal_global (by rw[I.ok.glob];show I.mod.glob.keeps I.bk) b h) hd
def gU{σ:St}(I:Inv X Dn σ H s)(c:Gl X x)(d:X.mg x=b5)(g:Ż x=b0 u)(h:Q u s)(e:x ≠ "__name__":=by decide)(hd:(x==("__debug__":Str))=false:=by decide):Ç (Å X.prog X.w) X.A (eval (.Name x pos) X.env) Q E s:=by
 obtain⟨i,a,b⟩:=I.mod.blt;show Py I.ok.kind c (Calls.loadGlobal_builtin (by rw[I.ok.glob];show I.mod.glob.keeps I.bk) d (by rw[I.ok.blt];show a.keeps I.bk) ((b x e).trans g) h) hd
def a6Z(a:Gl X x)(b:X.mg x=b0 u)(r:Æ v u)(hd:(x==("__debug__":Str))=false:=by decide):PE X (.Name x pos) (tC v):=
 λ_ _ _ H _ I h=>rX I a b ⟨v,H,I,r,h⟩ hd
def a6N(a:Gl X x)(b:X.mg x=b5)(d:Ż x=b0 u)(r:Æ v u)(c:x ≠ "__name__":=by decide)(hd:(x==("__debug__":Str))=false:=by decide):PE X (.Name x pos) (tC v):=
 λ_ _ _ H _ I h=>gU I a b d ⟨v,H,I,r,h⟩ c hd
abbrev a6M(t u:TT):TT:=λσ H Q=>t σ H λc d=>if c=eA then u σ d Q else Q dI d
abbrev a6J(t u:TT):TT:=λσ H Q=>t σ H λc d=>if c=eA then Q eA d else u σ d Q
abbrev a6D(t:TT):TT:=λσ H Q=>t σ H λc d=>Q (!c) d
def a6C(g:PT X a tA):PW X (.BoolOp .And [a] pos) tA:=by
 intro l d s i H Q I h;show isTrue_and<|aP (g d s i H Q I h) λc j e=>?_;cases c with
 |true=>show isTrue_and_nil e|false=>show e
def a5z(g:PT X a tA):PW X (.BoolOp .Or [a] pos) tA:=by
 intro l d s i H Q I h;show isTrue_or<|aP (g d s i H Q I h) λc j e=>?_;cases c with
 |false=>show isTrue_or_nil e|true=>show e
def a5y{Ä:List Expr}(l:PT X a tA)(n:PW X (.BoolOp .And (b::Ä) pos) tB'):PW X (.BoolOp .And (a::b::Ä) pos) (a6M tA tB'):=by
 intro p d s j H Q I h;show isTrue_and<|aP (l d s j H _ I h) λc o ⟨e,g,i⟩=>?_;cases c with
 |true=>show n p d o j e Q g i|false=>show⟨e,g,i⟩
def b0O{Ä:List Expr}(l:PT X a tA)(n:PW X (.BoolOp .Or (b::Ä) pos) tB'):PW X (.BoolOp .Or (a::b::Ä) pos) (a6J tA tB'):=by
 intro p d s j H Q I h;show isTrue_or<|aP (l d s j H _ I h) λc o ⟨e,g,i⟩=>?_;cases c with
 |true=>show⟨e,g,i⟩|false=>show n p d o j e Q g i
def b0N(i:PT X a tA):PT X (.UnaryOp .Not a pos) (a6D tA):=by intro d s j H Q I h;show isTrue_not<|aP (i d s j H (λc g=>Q (!c) g) I h) λ_ _ ⟨e,J,q⟩=>⟨e,J,q⟩
abbrev b0D(ta tb:TE):TE:=λσ H Q=>ta σ H λx d=>∃c,x=.bl c/\if c=eA then tb σ d Q else Q (.bl dI) d
abbrev b0A(ta tb:TE):TE:=λσ H Q=>ta σ H λx d=>∃c,x=.bl c/\if c=eA then Q (.bl eA) d else tb σ d Q
abbrev a9v(ta:TE):TE:=λσ H Q=>ta σ H λx d=>∃c,x=.bl c/\Q (.bl<|!c) d
def a9u{op}(h:PE X a t):PE X (.BoolOp op [a] pos) t:=λDn s σ H Q I hw=>BoolOp_one<|h Dn s σ H Q I hw
def a9f{Ä:List Expr}(l:PE X a ta)(n:PE X (.BoolOp .And (b::Ä) pos) tb):PE X (.BoolOp .And (a::b::Ä) pos) (b0D ta tb):=by
 intro d s j H Q I h;show BoolOp_and<|aP (l d s j H _ I h) λv p ⟨x,g,i,o,e⟩=>?_;obtain⟨c,rfl,e⟩:=e;cases o;show ό ?_;cases c with
 |true=>show n d p j g Q i e|false=>show⟨.bl dI,g,i,rfl,e⟩
def a8m{Ä:List Expr}(l:PE X a ta)(n:PE X (.BoolOp .Or (b::Ä) pos) tb):PE X (.BoolOp .Or (a::b::Ä) pos) (b0A ta tb):=by
 intro d s j H Q I h;show BoolOp_or<|aP (l d s j H _ I h) λv p ⟨x,g,i,o,e⟩=>?_;obtain⟨c,rfl,e⟩:=e;cases o;show ό ?_;cases c with
 |false=>show n d p j g Q i e|true=>show⟨.bl eA,g,i,rfl,e⟩
def a8l(j:PE X a ta):PE X (.UnaryOp .Not a pos) (a9v ta):=by intro d s n H Q I h;show UnaryOp_<|aP (j d s n H _ I h) λv o ⟨x,g,i,l,e⟩=>?_;obtain⟨c,rfl,e⟩:=e;cases l;show not_of<|ό ⟨.bl<|!c,g,i,rfl,e⟩
abbrev a8k(t:TT)(ta tb:TE):TE:=λσ H Q=>t σ H λc d=>if c=eA then ta σ d Q else tb σ d Q
def a8J(hc:PT X c tA)(o:PE X a ta)(p:PE X b tb):PE X (.IfExp c a b pos) (a8k tA ta tb):=by
 intro e s g H Q I h;show wpAny_IfExp<|aP (hc e s g H _ I h) λd n ⟨i,j,l⟩=>?_;cases d with
 |true=>show o e n g i Q j l|false=>show p e n g i Q j l
abbrev ê(K:ZV)(H:Hp)(a:Addr)(xs:gz):Prop:=
 Rd H a (.lst xs) \/
  ∃(o:Obj)(its:Array Value)(n:Nat),K.lookup a=b0 o/\o.cls=.type "list"/\o.dict=b5/\o.data=.seq its n/\its.size<=Z7/\Á xs its.toList
abbrev Ó(K:ZV)(H:Hp)(a:Addr)(xs:gz):Prop:=
 Rd H a (.tup xs) \/
  ∃(o:Obj)(its:Array Value)(n:Nat),K.lookup a=b0 o/\o.cls=.type "tuple"/\o.dict=b5/\o.data=.seq its n/\its.size<=Z7/\Á xs its.toList
abbrev a8E:Value->Option V
 |.none=>b0 .non|.bool b=>b0 (.bl b)|.int i _=>b0 (.int i)|.str x _=>b0 (.str x)|.bytes b _=>b0 (.byt b)|.float b _=>b0 (.flt b)|.ref a=>b0 (.ref a)|.type n=>b0 (.ty n)|_=>b5
def Æ.abs(r:Æ x u):a8E u=b0 x:=by
 cases x with
 |non=>cases r;rfl|bl _=>cases r;rfl|int _=>obtain⟨t,rfl⟩:=r;rfl|str _=>obtain⟨t,rfl⟩:=r;rfl|byt _=>obtain⟨t,rfl⟩:=r;rfl|flt _=>obtain⟨t,rfl⟩:=r;rfl|ref _=>cases r;rfl|ty _=>cases r;rfl
def Æ.inj(r:Æ x u)(q:Æ y u):x=y:=ñ<|r.abs.symm.trans q.abs
def Á.inj:∀{xs a}{us},Á xs us->Á a us->xs=a
 |_,_,_,.nil,.nil=>rfl|_,_,_,.cons r t,.cons r' t'=>by rw[r.inj r',Á.inj t t']
def ê.of{K:ZV}(h:H a=b0 (.lst xs)):ê K H a xs:=.inl<|.inl h
def Ó.of{K:ZV}(h:H a=b0 (.tup xs)):Ó K H a xs:=.inl<|.inl h
def Inv.list{σ:St}(I:Inv X Dn σ H s)(h:ê X.K H a xs):∃its,Á xs its/\PlainL s.heap a its.toArray/\xs.length<=Z7:=by
 rcases h with h|⟨o,its,n,b,hc,hd,c,d,r⟩
 .obtain⟨z,its,n,r,e⟩:=h.ok I.hok;show⟨its,r,⟨_,n,e,rfl,rfl,rfl⟩,z⟩
 .show⟨its.toList,r,⟨o,n,I.kIn a o b,hc,hd,by simpa using c⟩,?_⟩;have e:=r.length;simp only[pF]at e;lia
def Inv.tuple{σ:St}(I:Inv X Dn σ H s)(h:Ó X.K H a xs):∃its,Á xs its/\jj s.heap a its.toArray/\xs.length<=Z7:=by
 rcases h with h|⟨o,its,n,b,hc,hd,c,d,r⟩
 .obtain⟨z,its,r,p⟩:=h.ok I.hok;show⟨its,r,p.tup,z⟩
 .show⟨its.toList,r,⟨o,I.kIn a o b,hc,n,by simpa using c⟩,?_⟩;have e:=r.length;simp only[pF]at e;lia
def Inv.tupN{σ:St}(I:Inv X Dn σ H s)(h:Ó X.K H a xs):∃its,Á xs its/\ž s.heap a its.toArray:=by
 rcases h with h|⟨o,its,n,b,hc,hd,c,d,r⟩
 .obtain⟨z,its,r,p⟩:=h.ok I.hok;show⟨its,r,p⟩
 .show⟨its.toList,r,o,I.kIn a o b,hc,n,by simpa using c,hd⟩
def Inv.list_inj{σ:St}(I:Inv X Dn σ H s)(h:ê X.K H a xs)(h':ê X.K H a ys):xs=ys:=by
 obtain⟨c,r,⟨o,n,e,_,_,d⟩,_⟩:=I.list h;obtain⟨b,j,⟨p,l,i,_,_,g⟩,_⟩:=I.list h';rw[e]at i;cases i;rw[d]at g;injection g with d1 _;have:c=b:=by simpa using congrArg Lu d1
 subst this;show r.inj j
def Inv.tuple_inj{σ:St}(I:Inv X Dn σ H s)(h:Ó X.K H a xs)(h':Ó X.K H a ys):xs=ys:=by
 obtain⟨c,r,⟨o,e,_,n,d⟩,_⟩:=I.tuple h;obtain⟨b,j,⟨p,i,_,l,g⟩,_⟩:=I.tuple h';rw[e]at i;cases i;rw[d]at g;injection g with d1 _;have:c=b:=by simpa using congrArg Lu d1
 subst this;show r.inj j
noncomputable abbrev Cx.wish(X:Cx)(E:Value->ZZ->Prop):Cx:={X with xe:=E}
noncomputable abbrev Cx.nox(X:Cx):Cx:=X.wish λ_ _=>False
def Cx.Ok.wish{X:Cx}(ok:X.Ok)E:(X.wish E).Ok:=
 ⟨ok.mod,ok.kind,ok.glob,ok.blt,ok.above,ok.inj,ok.has,ok.cab,ok.hd,ok.frames,ok.stk,ok.exf,ok.bs,ok.bsz,ok.noex,ok.exfs,ok.funs,ok.frf⟩
def Cx.Ok.unwish{X:Cx}(ok:(X.wish E).Ok):X.Ok:=
 ⟨ok.mod,ok.kind,ok.glob,ok.blt,ok.above,ok.inj,ok.has,ok.cab,ok.hd,ok.frames,ok.stk,ok.exf,ok.bs,ok.bsz,ok.noex,ok.exfs,ok.funs,ok.frf⟩
def Inv.wish{σ:St}(I:Inv X Dn σ H s)E:Inv (X.wish E) Dn σ H s:=⟨I.ok.wish E,I.os,I.bare,I.base,I.loc,I.cell,I.free,I.freeC,I.pin,I.hok,I.len⟩
def Inv.unwish{σ:St}(I:Inv (X.wish E) Dn σ H s):Inv X Dn σ H s:=⟨I.ok.unwish,I.os,I.bare,I.base,I.loc,I.cell,I.free,I.freeC,I.pin,I.hok,I.len⟩
def SP.unwish(h:SP (X.wish E) Dn D f c):SP X Dn D f c:=by
 cases f with
 |next=>obtain⟨a,b,I,q⟩:=h;show⟨a,b,I.unwish,q⟩|brk=>obtain⟨a,b,I,q⟩:=h;show⟨a,b,I.unwish,q⟩|cont=>obtain⟨a,b,I,q⟩:=h;show⟨a,b,I.unwish,q⟩|ret u=>obtain⟨v,a,b,I,r,q⟩:=h;show⟨v,a,b,I.unwish,r,q⟩
def Ņ.nox{st:List Stmt}(h:Ņ X.nox st t):Ņ X st t:=λDn s σ H D I hw=>Ĭ (h Dn s σ H D (I.wish _) hw) (λ_ _ q=>q.unwish) λ_ _ z=>Θ z
abbrev CY:TS:=λD σ H=>D.nx σ H
abbrev a7l(t u:TS):TS:=λD σ H=>t {D with nx:=u D} σ H
def a7h:Ņ X [] CY:=λ_ _ σ H _ I h=>Kl ⟨σ,H,I,h⟩
def a7g{st:Stmt}{Ä:List Stmt}(h1:PS X st t)(g:Ņ X Ä u):Ņ X (st::Ä) (a7l t u):=by
 intro a s j H D I h;show Nn<|aP (h1 a s j H {D with nx:=u D} I h) λf i q=>?_;cases f with
 |next=>obtain⟨b,c,d,q⟩:=q;show g a i b c D d q|ret v=>show q|brk=>show q|cont=>show q
def a7f{st:Stmt}(h1:PS X st t):Ņ X [st] t:=by
 intro a s b H D I h;show Nn<|aP (h1 a s b H D I h) λf c q=>?_;cases f with
 |next=>show Kl q|ret v=>show q|brk=>show q|cont=>show q
def e10:PS X (.Pass pos) CY:=λ_ _ σ H _ I h=>wpAny_Pass ⟨σ,H,I,h⟩
def Inv.quiet{σ:St}(I:Inv X Dn σ H s):interactive X.env=false:=by simp[interactive,I.ok.kind]
abbrev b2N(te:TE):TS:=λD σ H=>te σ H λ_ a=>D.nx σ a
def b2J(g:PE X e te)(i:Ϧ e b5 pos.line X.env=pure false:=by rfl):PS X (.Expr e pos) (b2N te):=by intro a s b H D I h;show wpAny_Expr_any (aP (g a s b H _ I h) λv n ⟨x,c,d,l,j⟩=>⟨b,c,d,j⟩) I.quiet i
abbrev b2I(te:TE):TS:=λD σ H=>te σ H D.rt
def b2F(g:PE X e te):PS X (.Return (b0 e) pos) (b2I te):=by intro a s b H D I h;show wpAny_Return_some<|aP (g a s b H _ I h) λv l ⟨x,c,d,j,i⟩=>⟨x,b,c,d,j,i⟩
abbrev b1v:TS:=λD _ H=>D.rt .non H
def b1t:PS X (.Return b5 pos) b1v:=λ_ _ σ H _ I h=>wpAny_Return_none ⟨.non,σ,H,I,rfl,h⟩
abbrev b1D(c:TT)(t u:TS):TS:=λD σ H=>c σ H λb a=>if b=eA then t D σ a else u D σ a
def b0z(hc:PT X c p)(r:Ņ X a t)(v:Ņ X b u):PS X (.If c a b pos) (b1D p t u):=by
 intro g s i H D I h;show wpAny_If<|aP (hc g s i H _ I h) λd o ⟨j,l,n⟩=>?_;cases d with
 |true=>show r g o i j D l n|false=>show v g o i j D l n
noncomputable abbrev TG:=V->St->Hp->(St->Hp->Prop)->Prop
noncomputable abbrev pN:=List V->St->Hp->(St->Hp->Prop)->Prop
abbrev PG(X:Cx)(a:Expr)(t:TG):Prop:=
 ∀(Dn:jw)(s:ZZ)(σ:St)(H:Hp)(v:V)(u:Value)(Q:St->Hp->Prop),Inv X Dn σ H s->Æ v u->t v σ H Q->
  Ç (Å X.prog X.w) X.A (ϻ a X.env u) (λ_ b=>vf X Dn Q b) X.xe s
abbrev rY(X:Cx)(ts:List Expr)(t:pN):Prop:=
 ∀(Dn:jw)(s:ZZ)(σ:St)(H:Hp)(vs:gz)(us:gw)(Q:St->Hp->Prop),Inv X Dn σ H s->Á vs us->t vs σ H Q->
  Ç (Å X.prog X.w) X.A (assignInOrder ((Η ts X.env).map (·.2)) us) (λ_ a=>vf X Dn Q a) X.xe s
noncomputable abbrev CZ:=V->V->V->Hp->(Hp->Prop)->Prop
abbrev b0x(X:Cx)(t:CZ):Prop:=
 ∀(Dn:jw)(s:ZZ)(σ:St)(H:Hp)(o i v:V)(c b u:Value)(Q:Hp->Prop),Inv X Dn σ H s->Æ o c->Æ i b->Æ v u->t o i v H Q->
  Ç (Å X.prog X.w) X.A (setItem c b u) (λ_ d=>∃a,Inv X Dn σ a d/\Q a) X.xe s
abbrev yM(i:Nat):TG:=λv σ H Q=>Q (σ.set i<|b0 v) H
def C0(c:X.N.Nodup)(e:X.N[i]?=b0 x)(g:Loc X.env.scope x)(d:X.fn x=eA\/X.env.scope.names.lookup x=b0 .local:=by first|show .inl rfl|show .inr rfl|assumption):PG X (.Name x pos) (yM i):=by intro b s l H v u Q I r h;show NU<|CV I c e g r (λj a=>⟨_,H,a,h⟩) d
abbrev C1:pN:=λvs σ H Q=>vs=[]/\Q σ H
abbrev C2(t:TG)(u:pN):pN:=λvs σ H Q=>∃v r,vs=v::r/\t v σ H λa b=>u r a b Q
def b2G:rY X [] C1:=by intro a s b H d c Q I r h;obtain⟨e,h⟩:=h;subst e;cases r;show assignInOrder_nil ⟨b,H,I,h⟩
def b1l(h1:PG X e t)(i:rY X es u)(j:(Η (e::es) X.env).map (·.2)=ϻ e X.env::(Η es X.env).map (·.2):=by rfl):rY X (e::es) (C2 t u):=by
 intro a s p H y w Q I r h;obtain⟨v,x,g,h⟩:=h;subst g;cases r with
 |cons r n=>rw[j];show assignInOrder_cons<|aP (h1 a s p H _ _ _ I r h) λ_ o ⟨b,c,d,l⟩=>?_;show i a o b c _ _ Q d n l
abbrev C3(b:TE)(g:TG):TS:=λD σ H=>b σ H λx a=>g x σ a D.nx
def b1k(j:PE X e b)(l:PG X tg g)(n:swapsWithSole [tg] e pos.line X.env=pure false:=by rfl)(hw:Lp [tg] e X.env=pure none:=by rfl)(h1:(Η [tg] X.env).map (·.2)=[ϻ tg X.env]:=by rfl):PS X (.Assign [tg] e pos) (C3 b g):=by
 intro a s c H D I h;show wpAny_Assign_stores (aP (j a s c H _ I h) λv r ⟨x,d,i,p,o⟩=>?_) n hw;rw[h1];show aP (l a r c d x v _ i p o) λ_ u q=>q
def b1h(l:X.N.Nodup)(p:X.N[i]?=b0 x)(u:Loc X.env.scope x)(n:PE X e c)(r:Ϧ e (b0<|.Name x a) pos.line X.env=pure false:=by rfl)(o:X.fn x=eA\/X.env.scope.names.lookup x=b0 .local:=by first|show .inl rfl|show .inr rfl|assumption):
  PS X (.Assign [.Name x a] e pos) (C3 c<|yM i):=by
 intro b s A H D I h;show wpAny_Assign_Name (aP (n b s A H _ I h) λv B ⟨y,d,g,z,w⟩=>?_) r;show CV g l p u z (λE j=>⟨_,d,j,w⟩) o
abbrev b1e(c:TT)(h:TS):TS:=λD σ H=>∃W:Nat->St->Hp->Prop,(∃m,W m σ H)/\∀m σ H,W m σ H->
 c σ H λb e=>if b=eA then ∃N:St->Hp->Prop,(∀a d,N a d->∃g,g<m/\W g a d)/\h {D with nx:=N,ct:=N,bk:=D.nx} σ e else D.nx σ e
def b1c{K:TT}(E:xf (Å X.prog X.w) X.A X.env X.xe)(hc:PT X c K)(M:Ņ X body G):PS X (.While c body [] pos) (b1e K G):=by
 intro e s Z H D I h;obtain⟨W,⟨O,U⟩,turn⟩:=h;show wpAny_While<|codeAny_whileLoop (λn Q=>∃i x,Inv X e i x Q/\W n i x) ?_ O ⟨Z,H,I,U⟩;rintro n R ⟨d,y,L,Y⟩;show nj E<|aP (hc e R d y _ L<|turn n d y Y) λb T ⟨z,A,j⟩=>?_;cases b with
 |true=>
  obtain⟨N,B,j⟩:=j;rw[if_pos rfl];show nj E<|aP (M e T d z _ A j) λf s3 l=>?_;cases f with
  |next=>obtain⟨a,g,o,u⟩:=l;obtain⟨r,p,w⟩:=B a g u;show⟨r,p,a,g,o,w⟩|cont=>obtain⟨a,g,o,u⟩:=l;obtain⟨r,p,w⟩:=B a g u;show⟨r,p,a,g,o,w⟩|brk=>show l|ret v=>show l
 |false=>rw[if_neg Z6];show Kl ⟨d,z,A,j⟩
structure It where
 go:Nat->Hp->Prop
 yld:Nat->Hp->V->Hp->Prop
 stop:Nat->Hp->Prop
abbrev gW(X:Cx)(Dn:jw)(H:Hp)(b:Addr):Prop:=
 H b=b5/\b≠X.env.locals/\b∉X.fs/\(b∈X.ex\/X.s₀.heap.objs.size<=b)/\(∀x c,X.env.cells.lookup x=b0 c->c≠b)/\∀p∈X.pn++Dn,p.1≠b
def Inv.fpOk{σ:St}{b:Addr}(I:Inv X Dn σ H s)(a:s.heap.objs.size<=b)(g:d b=b5):gW X Dn d b:=by
 show⟨g,ů<|ĭ I.lt a,I.nofs a,.inr<|ė I.sz a,λx c e z=>?_,λp h z=>?_⟩
 .obtain⟨v,q⟩:=I.cell x c e;show absurd (ĭ q.lt<|by rw[z];show a)<|Ų _
 .show absurd (ĭ (Z8 (I.pin p h).1)<|by rw[z];show a)<|Ų _
noncomputable abbrev Qc(X:Cx):Prop:=X.calm=eA
structure ħ(q:Cx->Prop)(P:ĥ)(w:Ĉ)(K:ZV)(tg:Expr)(J:It)(fp:List Addr)(it:Addr)(tn:Nat->ç->Prop):Prop where
 mem:it∈fp
 obj:∀i h,tn i h->∀b∈fp,∃o,h.get? b=b0 o/\∀v,o.data≠.cell v
 keep:∀i h h',tn i h->(∀b∈fp,∀o,h.get? b=b0 o->h'.get? b=b0 o)->tn i h'
 item:∀(X:Cx),X.prog=P->X.w=w->X.K=K->q X->∀(i:Nat)(Dn:jw)(s:ZZ)(σ:St)(H:Hp)(E:Value->ZZ->Prop),Inv X Dn σ H s->(∀b∈fp,gW X Dn H b)->tn i s.heap->J.go i H->
  Ç (Å P w) X.A (ņ<|.ref it) (λr s1=>∃u,r=b0 u /\
   Ç (Å P w) X.A (Kj tg (.ref it) u) (λ_ s2=>∃x H',Inv X Dn σ H' s2/\Æ x u/\J.yld i H x H'/\tn (i+1) s2.heap/\∀b∈fp,H' b=b5) E s1) E s
 done:∀(X:Cx),X.prog=P->X.w=w->X.K=K->q X->∀(i:Nat)(Dn:jw)(s:ZZ)(σ:St)(H:Hp)(E:Value->ZZ->Prop),Inv X Dn σ H s->(∀b∈fp,gW X Dn H b)->tn i s.heap->J.stop i H->
  Ç (Å P w) X.A (ņ<|.ref it) (λr s1=>r=b5/\Inv X Dn σ H s1) E s
 self:∀(A:ĺ)(i:Nat)(s:ZZ)(Q:Value->ZZ->Prop)(E:Value->ZZ->Prop),tn i s.heap->Q (.ref it) s->Ç (Å P w) A (cg<|.ref it) Q E s
noncomputable abbrev TI:=St->Hp->(It->Hp->Prop)->Prop
inductive Ϣ (q:Cx->Prop)(X:Cx)(Dn:jw)(σ:St)(tg:Expr)(R:It->Hp->Prop)(itv:Value)(s2:ZZ):Prop
 |mk (it:Addr)(fp:List Addr)(tn:Nat->ç->Prop)(J:It)(H':Hp)(e:itv=.ref it)(I:Inv X Dn σ H' s2)(T:ħ q X.prog X.w X.K tg J fp it tn)(t0:tn 0 s2.heap)(f:∀b∈fp,gW X Dn H' b)(r:R J H'):Ϣ q X Dn σ tg R itv s2
noncomputable abbrev yN:=Ϣ Qc
abbrev rZ(q:Cx->Prop)(X:Cx)(tg iter:Expr)(b:TI):Prop:=
 ∀(Dn:jw)(s:ZZ)(σ:St)(H:Hp)(R:It->Hp->Prop),Inv X Dn σ H s->b σ H R->
  Ç (Å X.prog X.w) X.A (eval iter X.env) (λv a=>Ç (Å X.prog X.w) X.A (cg v) (Ϣ q X Dn σ tg R) X.xe a) X.xe s
noncomputable abbrev PI:=rZ Qc
def nY(d:s.heap.get? b=b0 o)(hc:o.cls=.type n)(hd:o.data=.fields vs)(c:["enumerate","zip","dict_itemiterator","dict_reverseitemiterator","odict_iterator","itertools.zip_longest","itertools.pairwise"].contains n=dI)(a:Q () s):Ç M A (Kj tg (.ref b) u) Q E s:=by
 unfold Kj
 cases tg<;>first
  | show Z3 a
  | (cases u<;>first
    | show Z3 a
    | (show ZU<|KS d ?_
       rw [hc,hd]
       change Ç M A (if (["enumerate","zip","dict_itemiterator","dict_reverseitemiterator","odict_iterator","itertools.zip_longest","itertools.pairwise"].contains n&&vs[0]? == b0 (ŷ _))=eA then _ else _) Q E s
       rw [if_neg<|by intro h;rw [c,OK] at h;cases h]
       show Z3 a))
abbrev yO (K:ZV)(a:Addr):It:=
 ⟨fun i H=>∃ b x,ê K H a b/\b[i]? = b0 x,fun i H x c=>c=H/\∀ b,ê K H a b->b[i]? = b0 x,fun i H=>∃ b,ê K H a b/\b.length<=i⟩
abbrev yP(K:ZV)(a:Addr):It:=
 ⟨λi H=>∃b x,Ó K H a b/\b[i]?=b0 x,λi H x c=>c=H/\∀b,Ó K H a b->b[i]?=b0 x,λi H=>∃b,Ó K H a b/\b.length<=i⟩
abbrev mE(lo:Int)(n:Nat):It:=⟨λi _=>i<n,λi H x a=>a=H/\x=.int (lo+i),λi _=>n<=i⟩
def b1P{K:ZV}a j:ħ Qc P w K tg (yO K a) [j] j (λi h=>h.IsListIter j a i) where
 mem:=by simp
 obj:=λi h st b g=>by
  have e:b=j:=by simpa using g
  subst e;obtain⟨o,e,c,d⟩:=st;show⟨o,e,λv z=>by rw[d]at z;cases z⟩
 keep:=λi h r st k=>st.at λo e=>k j (by simp) o e;item:=by intro X Q hw O hc i l s Z H E I y st R;subst Q hw O;obtain⟨xs,x,A,T⟩:=R;obtain⟨U,Y,p,hz⟩:=I.list A;obtain⟨u,hu,ru⟩:=Y.get T;obtain⟨B,G,f2,L,M,N⟩:=y j (by simp);show P0 st p.isList (x:=u) (by simpa using hu) λr n sb=>?_;have I1:Inv X l Z H {s with heap:=r}:=I.turned (t':=s.toks) (λb o g e=>(sb.2 b g).trans e) B G L M N;obtain⟨o,e,c,d⟩:=id n;show⟨u,rfl,nY (s:={s with heap:=r}) e c d (by decide) ⟨x,H,I1,ru,⟨rfl,λys hy=>by rw[I.list_inj hy A];show T⟩,n,λb g=>(y b g).1⟩⟩
 done:=by intro X Q hw O hc i l s Z H E I y st R;subst Q hw O;obtain⟨xs,A,T⟩:=R;obtain⟨U,Y,p,hz⟩:=I.list A;obtain⟨B,G,f2,L,M,N⟩:=y j (by simp);have hl:=Y.length;show O8 (I.ok.hd hc) st p.isList (by simp;lia) λr eb=>⟨rfl,I.turned (t':=s.toks) (λb o g e=>eb b o g e) B G L M N⟩
 self:=λ_ _ _ _ _ st h=>wpAny_pyIter_listiter st h
def b1O{K:ZV}a j:ħ Qc P w K tg (yP K a) [j] j (λi h=>h.IsTupleIter j a i) where
 mem:=by simp
 obj:=λi h st b g=>by
  have e:b=j:=by simpa using g
  subst e;obtain⟨o,e,c,d⟩:=st;show⟨o,e,λv z=>by rw[d]at z;cases z⟩
 keep:=λi h y st k=>st.at λo e=>k j (by simp) o e;item:=by intro X R hw Q hc i n s Z H E I A st T;subst R hw Q;obtain⟨xs,x,B,U⟩:=T;obtain⟨l,Y,p,hz⟩:=I.tuple B;obtain⟨u,hu,ru⟩:=Y.get U;obtain⟨G,L,f2,M,N,O⟩:=A j (by simp);show Oc st (show s.heap.IsTuple a l.toArray from p) (x:=u) (by simpa using hu) λy r sb=>?_;have I1:Inv X n Z H {s with heap:=y}:=I.turned (t':=s.toks) (λb o g e=>(sb.2 b g).trans e) G L M N O;obtain⟨o,e,c,d⟩:=id r;show⟨u,rfl,nY (s:={s with heap:=y}) e c d (by decide) ⟨x,H,I1,ru,⟨rfl,λys hy=>by rw[I.tuple_inj hy B];show U⟩,r,λb g=>(A b g).1⟩⟩
 done:=by intro X R hw Q hc i n s Z H E I A st T;subst R hw Q;obtain⟨xs,B,U⟩:=T;obtain⟨l,Y,p,hz⟩:=I.tuple B;obtain⟨G,L,f2,M,N,O⟩:=A j (by simp);have hl:=Y.length;show P2 (I.ok.hd hc) st (show s.heap.IsTuple a l.toArray from p) (by simp;lia) λy eb=>⟨rfl,I.turned (t':=s.toks) (λb o g e=>eb b o g e) G L M N O⟩
 self:=λ_ _ _ _ _ st h=>wpAny_pyIter_tupleiter st h
def C4{K:ZV}a lo n:ħ Qc P w K tg (mE lo n) [a] a (λi h=>lF h a (lo+(i:Nat)*1) ((n:Int)-(i:Nat)) 1) where
 mem:=by simp
 obj:=λi h st b c=>by
  have e:b=a:=by simpa using c
  subst e;show⟨_,st,λv z=>by
   have U:İ _=lu v:=z;cases U⟩
 keep:=λi h j st k=>k a (by simp) _ st;item:=by intro X B hw A hc i d s M H E I l st G;subst B hw A;obtain⟨p,r,Q,u,x,y⟩:=l a (by simp);have W:=NR (prog:=X.prog) (w:=X.w) (I.ok.hd hc) a lo 1 n;show W.item i s _ _ G st λv j L R g T=>?_;obtain⟨t,rfl⟩:=R;have N:Inv X d M H {s with heap:=j,toks:=L}:=I.turned (λb o c e=>T b o (by simpa using c) e) p r u x y;show⟨_,rfl,nY (s:={s with heap:=j,toks:=L}) (n:="range_iterator") g rfl rfl (by decide) ⟨.int<|lo+i,H,N,⟨t,?_⟩,⟨rfl,rfl⟩,g,λb c=>(l b c).1⟩⟩;rw[Int.mul_one]
 done:=by intro X B hw A hc i d s M H E I l st G;subst B hw A;obtain⟨p,r,Q,u,x,y⟩:=l a (by simp);show P1 (I.ok.hd hc) st (by have:n<=i:=G;lia) λj O=>⟨rfl,I.turned (t':=s.toks) (λb o c e=>O b o c e) p r u x y⟩
 self:=λ_ _ _ _ _ st h=>Oz st h
def C5(tr:∀d lo n,ħ q X.prog X.w X.K tg (mE lo n) [d] d λi h=>lF h d (lo+(i:Nat)*1) ((n:Int)-(i:Nat)) 1){σ:St}{lo:Int}(I:Inv X Dn σ H s)(h1:-(2^62)<=lo)(l:lo<2^62)(p:-(2^62)<=a)(r:a<2^62)(w:R (mE lo (a-lo).toNat) H):Ç (Å X.prog X.w) X.A (cg<|.ref s.heap.objs.size) (Ϣ q X Dn σ tg R) E {s with heap:=s.heap.push {cls:=.type "range",data:=.fields #[.int lo t,.int a u,.int 1 v]},toks:=tk}:=by
 show Nh (OM ..) (small_one h1 l p r) ?_;have c:Inv X Dn σ H {s with heap:=s.heap.push {cls:=.type "range",data:=.fields #[.int lo t,.int a u,.int 1 v]},toks:=tk}:=I.kept λb o e=>Z1 _ e;show⟨(s.heap.push {cls:=.type "range",data:=.fields #[.int lo t,.int a u,.int 1 v]}).objs.size,[(s.heap.push {cls:=.type "range",data:=.fields #[.int lo t,.int a u,.int 1 v]}).objs.size],_,_,H,rfl,
  c.kept (t':=tk) λb o e=>Z1 _ e,tr _ lo (a-lo).toNat,?_,λb x=>?_,w⟩
 .have g:lo+((0:Nat):Int)*1=lo:=by simp
  have j:(((a-lo).toNat:Nat):Int)-((0:Nat):Int)=ϟ lo a 1:=by rw[rangeSize_one];split<;>lia
  change lF _ _ (lo+((0:Nat):Int)*1) ((((a-lo).toNat:Nat):Int)-((0:Nat):Int)) 1;rw[g,j];show Ă _ rfl
 .have e:b=(s.heap.push {cls:=.type "range",data:=.fields #[.int lo t,.int a u,.int 1 v]}).objs.size:=by simpa using x
  subst e;show c.fpOk (Z2 _)<|c.hok.fresh<|Z2 _
abbrev b1N(b:TA):TI:=λσ H R=>b σ H λvs a=>∃j:Int,vs=[.int j]/\-(2^62)<=j/\j<2^62/\R (mE 0 j.toNat) a
abbrev b0y(b:TA):TI:=λσ H R=>b σ H λvs a=>∃i j:Int,vs=[.int i,.int j]/\(-(2^62)<=i/\i<2^62/\-(2^62)<=j/\j<2^62)/\R (mE i (j-i).toNat) a
def b0w(tr:∀c lo n,ħ q X.prog X.w X.K tg (mE lo n) [c] c λi h=>lF h c (lo+(i:Nat)*1) ((n:Int)-(i:Nat)) 1)(u:Gl X "range")(v:X.mg "range"=b5)(o:PA X [a] g)(w:æ [a] X.env=[(dI,eval a X.env)]:=by rfl):rZ q X tg (.Call (.Name "range" p) [a] [] pos) (b1N g):=by
 intro b s B H R I h;show qm<|gU I u v Lb<|iu (aP (o pos b s B H _ I h) λK G ⟨L,E,l,z,d⟩=>?_) w rfl;obtain⟨j,e,d,x,y⟩:=d;subst e;cases z with
 |cons r A=>cases A;obtain⟨t,rfl⟩:=r;show call_range_1<|C5 tr l ⋯ ⋯ d x<|by simpa using y
def b0j(v:Gl X "range")(w:X.mg "range"=b5)(u:PA X [a,b] n)(x:æ [a,b] X.env=[(dI,eval a X.env),(dI,eval b X.env)]:=by rfl)(c:æ [b] X.env=[(dI,eval b X.env)]:=by rfl):
  PI X tg (.Call (.Name "range" p) [a,b] [] pos) (b0y n):=by
 intro d s G H R I h;show qm (gU I v w Lb<|iu (aP (u pos d s G H _ I h) λN L ⟨O,K,o,E,g⟩=>?_) (by rw[x,c])<|by rw[c];rfl);obtain⟨i,j,e,⟨g,y,z,A⟩,q⟩:=g;subst e;cases E with
 |cons r l=>
  cases l with
  |cons B l=>cases l;obtain⟨t,rfl⟩:=r;obtain⟨M,rfl⟩:=B;show call_range_2<|C5 C4 o g y z A q
abbrev b0W(l:TI)(g:TG)(j:TS):TS:=λD σ H=>l σ H λJ e=>∃W:Nat->Nat->St->Hp->Prop,(∃m,W 0 m σ e)/\∀i m σ H,W i m σ H->
 (J.stop i H/\D.nx σ H)\/(J.go i H/\∃N:St->Hp->Prop,(∀b a,N b a->∃d,d<m/\W (i+1) d b a)/\∀x a,J.yld i H x a->g x σ a λc h=>j {D with nx:=N,ct:=N,bk:=D.nx} c h)
abbrev r6(a:List Addr)(h:ç):jw:=a.filterMap λb=>(h.get? b).map λo=>(b,o)
def uQ(c:b∈a)(e:h.get? b=b0 o):(b,o)∈r6 a h:=P6.mpr ⟨b,c,by rw[e];rfl⟩
def b0C(g:p∈r6 a h):p.1∈a/\h.get? p.1=b0 p.2:=by
 obtain⟨b,d,e⟩:=P6.mp g;cases q:h.get? b with
 |none=>rw[q]at e;cases e|some o=>rw[q]at e;have c:(b,o)=p:=ñ e;subst c;show⟨d,q⟩
def Inv.pinned{σ:St}(I:Inv X Dn σ H s)(l:∀b∈a,gW X Dn H b)(n:∀b∈a,∃o,s.heap.get? b=b0 o/\∀v,o.data≠.cell v):Inv X (Dn++r6 a s.heap) σ H s:=
 I.pins_of λp r=>(ù.mp r).elim (λz=>I.pin p<|ϱ _ z) λz=>by obtain⟨g,e⟩:=b0C z;obtain⟨h,i,j,_⟩:=l p.1 g;obtain⟨o,c,d⟩:=n p.1 g;rw[e]at c;cases c;show⟨e,h,i,j,d⟩
def Inv.unpinned{σ:St}(I:Inv X (Dn++b) σ H s):Inv X Dn σ H s:=I.pins_of λp a=>I.pin p<|ϱ _<|Oo _ a
def a9k(M:xf (Å X.prog X.w) X.A X.env X.xe)(hc:X.calm=eA)(hi:PI X tg iter wi)(hg:PG X tg g)(w:Ņ X body tb)(hs:∀x,ur iter X.env x=pure x:=by intro _;rfl):PS X (.For tg iter body [] pos) (b0W wi g tb):=by
 intro c s σ H D I h;show wpAny_For (aP (hi c s σ H _ I h) λv s1 h1=>aP h1 λitv s2 h2=>?_) hs;obtain⟨it,K,tn,J,H2,e,I2,T,st2,f2,W,⟨m0,w0⟩,turn⟩:=h2;subst e
  -- what stays eA of the iterator's objects through the loop
 have y:∀{B:Hp},(∀b∈K,B b=b5)->∀b∈K,gW X c B b:=λhn b w=>⟨hn b w,(f2 b w).2⟩;show codeAny_forLoop_any (λn s'=>∃i z B,Inv X c z B s'/\tn i s'.heap/\(∀b∈K,B b=b5)/\W i n z B) ?_ m0 ⟨0,σ,H2,I2,st2,λb w=>(f2 b w).1,w0⟩;rintro n s3 ⟨i,A,U,I3,Q,L,w3⟩;rcases turn i n A U w3 with⟨R,qn⟩|⟨go,N,hN,step⟩
 .show nj M<|aP (T.done X rfl rfl rfl hc i c s3 A U X.xe I3 (y L) Q R) λr s4 ⟨hr,I4⟩=>?_;subst hr;show Kl ⟨A,U,I4,qn⟩
 .show nj M<|aP (T.item X rfl rfl rfl hc i c s3 A U X.xe I3 (y L) Q go) λr s4 ⟨u,hr,h4⟩=>?_;subst hr;show nj M<|aP h4 λ_ s5 ⟨x,H5,I5,r5,y5,G,Z⟩=>?_;have Y:=I5.pinned (y Z)<|T.obj _ _ G;show nj M<|aP (hg _ s5 A H5 x u _ Y r5<|step x H5 y5) λ_ s6 ⟨σ6,H6,I6,q6⟩=>?_;show nj M<|aP (w _ s6 σ6 H6 _ I6 q6) λf s7 E=>?_;have p:∀{a:St}{j:Hp},Inv X (c++r6 K s5.heap) a j s7->N a j->∃m,m<n/\∃i z B,Inv X c z B s7/\tn i s7.heap/\(∀b∈K,B b=b5)/\W i m z B:=λ{a j} l O=>by obtain⟨m',hm,w7⟩:=hN a j O;show⟨m',hm,i+1,a,j,l.unpinned,T.keep _ _ _ G λb w o e=>(l.pin (b,o)<|ϱ _<|ϱ _<|uQ w e).1,λb w=>?_,w7⟩;obtain⟨o,e,d⟩:=T.obj _ _ G b w;show(l.pin (b,o)<|ϱ _<|ϱ _<|uQ w e).2.1
  cases f with
  |next=>obtain⟨a,j,l,O⟩:=E;show p l O|cont=>obtain⟨a,j,l,O⟩:=E;show p l O|brk=>obtain⟨a,j,l,E⟩:=E;show⟨a,j,l.unpinned,E⟩|ret v=>obtain⟨x7,a,j,l,r7,E⟩:=E;show⟨x7,a,j,l.unpinned,r7,E⟩
noncomputable abbrev R2:=V->V->Hp->VK->Prop
abbrev ÿ(X:Cx)(f:Value->Value->ĕ Value)(r:R2):Prop:=
 ∀(Dn:jw)(s:ZZ)(σ:St)(H:Hp)(x y:V)(v u:Value)(Q:VK),Inv X Dn σ H s->Æ x v->Æ y u->r x y H Q->
  Ç (Å X.prog X.w) X.A (f v u) (EP X Dn σ Q) X.xe s
abbrev yQ(X:Cx)(f:Value->ĕ Value)(r:V->Hp->VK->Prop):Prop:=
 ∀(Dn:jw)(s:ZZ)(σ:St)(H:Hp)(x:V)(v:Value)(Q:VK),Inv X Dn σ H s->Æ x v->r x H Q->
  Ç (Å X.prog X.w) X.A (f v) (EP X Dn σ Q) X.xe s
abbrev Î(X:Cx)(f:Value)(r:gz->Hp->VK->Prop):Prop:=
 ∀(Dn:jw)(s:ZZ)(σ:St)(H:Hp)(xs:gz)(us:gw)(Q:VK),Inv X Dn σ H s->Á xs us->r xs H Q->
  Ç (Å X.prog X.w) X.A (call f us) (EP X Dn σ Q) X.xe s
abbrev a9j(X:Cx)(r:V->Hp->(Bool->Hp->Prop)->Prop):Prop:=
 ∀(Dn:jw)(s:ZZ)(σ:St)(H:Hp)(x:V)(v:Value)(Q:Bool->Hp->Prop),Inv X Dn σ H s->Æ x v->r x H Q->
  Ç (Å X.prog X.w) X.A (truthy v) (TP X Dn σ Q) X.xe s
abbrev r8(r:R2)(c d:TE):TE:=λσ H Q=>c σ H λx a=>d σ a λy b=>r x y b Q
abbrev a9i(r:V->Hp->VK->Prop)(b:TE):TE:=λσ H Q=>b σ H λx a=>r x a Q
abbrev rI(C:Int->Int->Prop)(g:Int->Int->V):R2:=λx y H Q=>∃i j,x=.int i/\y=.int j/\C i j/\Q (g i j) H
abbrev gX(g:Int->Int->V):R2:=λx y H Q=>∃i j,x=.int i/\y=.int j/\Q (g i j) H
abbrev rU(g:Int->V):V->Hp->VK->Prop:=λx H Q=>∃i,x=.int i/\Q (g i) H
def yR(o:PE X a ta)(p:PE X b tb){σ:St}{R:V->V->Hp->Prop}(I:Inv X Dn σ H s)(h:ta σ H λx j=>tb σ j λy d=>R x y d){f:Value->Value->ĕ Value}(r:∀v u i x y d,Inv X Dn σ d i->Æ x v->Æ y u->R x y d->Ç (Å X.prog X.w) X.A (f v u) Q X.xe i):
  Ç (Å X.prog X.w) X.A (eval a X.env) (λv e=>Ç (Å X.prog X.w) X.A (eval b X.env) (λu g=>Ç (Å X.prog X.w) X.A (f v u) Q X.xe g) X.xe e) X.xe s:=by
 show aP (o Dn s σ H _ I h) λv E ⟨x,j,l,A,w⟩=>?_;show aP (p Dn E σ j _ l w) λu i ⟨y,d,n,B,z⟩=>?_;show r v u i x y d n A B z
def a9g(l:ÿ X (υ op) r)(i:PE X a ta)(j:PE X b tb):PE X (.BinOp a op b pos) (r8 r ta tb):=by intro d s w H Q I h;show wpAny_BinOp<|yR i j I h λv u p x y e g n o q=>l d p w e x y v u Q g n o q
def a9M(l:yQ X (unaryOp op) r)(j:PE X a ta):PE X (.UnaryOp op a pos) (a9i r ta):=by intro d s e H Q I h;show UnaryOp_<|aP (j d s e H _ I h) λv p ⟨x,g,i,o,n⟩=>l d p e g x v Q i o n
def yS{g:Int->Int->Int}(d:∀i j t u s Q E,C i j->Q (.int (g i j) s.toks) {s with toks:=s.toks+1}->Ç (Å X.prog X.w) X.A (f (.int i t)<|.int j u) Q E s):
  ÿ X f (rI C λi j=>.int<|g i j):=by
 intro e s p H x y v u Q I l n h;obtain⟨i,j,rfl,rfl,hc,q⟩:=h;obtain⟨t,rfl⟩:=l;obtain⟨o,rfl⟩:=n;show d i j t o s _ _ hc ⟨.int<|g i j,H,I.tok _,⟨_,rfl⟩,q⟩
def C6{g:Int->Int->Int}(d:∀i j t u s Q E,Q (.int (g i j) s.toks) {s with toks:=s.toks+1}->Ç (Å X.prog X.w) X.A (f (.int i t)<|.int j u) Q E s):
  ÿ X f (gX λi j=>.int<|g i j):=by
 intro e s p H x y v u Q I l n h;obtain⟨i,j,rfl,rfl,q⟩:=h;obtain⟨t,rfl⟩:=l;obtain⟨o,rfl⟩:=n;show d i j t o s _ _ ⟨.int<|g i j,H,I.tok _,⟨_,rfl⟩,q⟩
def uR{g:Int->Int->Bool}(d:∀i j t u s Q E,Q (.bool<|g i j) s->Ç (Å X.prog X.w) X.A (f (.int i t)<|.int j u) Q E s):
  ÿ X f (gX λi j=>.bl<|g i j):=by
 intro e s p H x y v u Q I l n h;obtain⟨i,j,rfl,rfl,q⟩:=h;obtain⟨t,rfl⟩:=l;obtain⟨o,rfl⟩:=n;show d i j t o s _ _ ⟨.bl<|g i j,H,I,rfl,q⟩
abbrev qi(i j:Int):Prop:=(-(2^64)<i/\i<2^64)\/(-(2^64)<j/\j<2^64)
def qi.ok(h:qi i j):KG i j:=by
 rcases h with⟨d,e⟩|⟨d,e⟩
 .show .of_left<|intBits_le_64 d e
 .show .of_right<|intBits_le_64 d e
def jh:ÿ X (υ .Add) (gX λi j=>.int<|i+j):=C6 λ_ _ _ _ _ _ _ q=>add_int q
def a8v:ÿ X (υ .Sub) (gX λi j=>.int<|i-j):=C6 λ_ _ _ _ _ _ _ q=>sub_int q
def a8s:ÿ X (υ .Mod) (rI (λ_ j=>0<j) λi j=>.int<|i%j):=yS λi j _ _ _ _ _ hc q=>by have d:(0:Int)<j:=hc;show mod_int' ⋯<|by rw[Int.fmod_eq_emod_of_nonneg i<|by lia];show q
def pO{g:Int->Int}(d:∀i t s Q E,Q (.int (g i) s.toks) {s with toks:=s.toks+1}->Ç (Å X.prog X.w) X.A (f<|.int i t) Q E s):
  yQ X f (rU λi=>.int<|g i):=by
 intro e s l H x v Q I j h;obtain⟨i,rfl,q⟩:=h;obtain⟨t,rfl⟩:=j;show d i t s _ _ ⟨.int<|g i,H,I.tok _,⟨_,rfl⟩,q⟩
def a8r:yQ X (unaryOp .USub) (rU λi=>.int<|-i):=pO λ_ _ _ _ _ q=>neg_int q
def nZ{σ:St}(I:Inv X Dn σ H s)(q:Q (.bl k) H)(e:k=k'):EP X Dn σ Q (.bool k') s:=by subst e;show⟨.bl k,H,I,rfl,q⟩
def yT:ÿ X (Ĥ .Lt) (gX λi j=>.bl<|decide<|i<j):=uR λ_ _ _ _ _ _ _ q=>lt_int q
def yU:ÿ X (Ĥ .LtE) (gX λi j=>.bl<|decide<|i<=j):=uR λ_ _ _ _ _ _ _ q=>le_int q
def yV:ÿ X (Ĥ .Gt) (gX λi j=>.bl<|decide<|j<i):=uR λ_ _ _ _ _ _ _ q=>gt_int q
def yW:ÿ X (Ĥ .GtE) (gX λi j=>.bl<|decide<|j<=i):=uR λ_ _ _ _ _ _ _ q=>ge_int q
def C7:ÿ X (Ĥ .In) (λx y H Q=>∃i j,x=.str i/\y=.str j/\Q (.bl<|!(ig j i 0 j.length 1).isEmpty) H):=by intro d s n H x y v u Q I e g h;obtain⟨i,j,rfl,rfl,q⟩:=h;obtain⟨t,rfl⟩:=e;obtain⟨l,rfl⟩:=g;show in_str<|nZ I q rfl
def C8:ÿ X (Ĥ .Is) (λx y H Q=>y=.non/\Q (.bl<|decide<|x=.non) H):=by
 intro e s i H x y v u Q I d g h;obtain⟨rfl,q⟩:=h;cases g;show is_none_gen<|nZ I q ?_;cases x<;>first
  |(cases d;rfl)|(obtain⟨t,rfl⟩:=d;rfl)
def C9:ÿ X (Ĥ .IsNot) (λx y H Q=>y=.non/\Q (.bl<|!decide (x=.non)) H):=by
 intro e s i H x y v u Q I d g h;obtain⟨rfl,q⟩:=h;cases g;show isnot_none_gen<|nZ I q ?_;cases x<;>first
  |(cases d;rfl)|(obtain⟨t,rfl⟩:=d;rfl)
def ÿ.or(h:ÿ X f r)(h':ÿ X f e):ÿ X f (λx y H Q=>r x y H Q\/e x y H Q):=by
 intro d s j H x y v u Q I g i q;rcases q with q|q
 .show h d s j H x y v u Q I g i q
 .show h' d s j H x y v u Q I g i q
def dZ b(h:op≠.In:=by decide)(g:op≠.NotIn:=by decide):dw op b=false:=by
 have d:(op==CmpOp.In)=false:=by cases op<;>first|rfl|show absurd rfl h
 have e:(op==CmpOp.NotIn)=false:=by cases op<;>first|rfl|show absurd rfl g
 cases b<;>simp[dw,d,e]
def a8e(n:ÿ X (Ĥ op) r)(i:PE X a ta)(j:PE X b tb)(l:dw op b=dI):PE X (.Compare a [op] [b] pos) (r8 r ta tb):=by intro d s z H Q I h;show NN (yR i j I h λv u w x y e g o p q=>n d w z e x y v u Q g o p q) l
abbrev Dd(t:TE):TT:=λσ H Q=>t σ H λx d=>∃k,x=.bl k/\Q k d
def a5K(E:ÿ X (Ĥ op) r)(w:PE X a ta)(A:PE X b tb)(B:dw op b=dI):PT X (.Compare a [op] [b] pos) (Dd<|r8 r ta tb):=by
 intro d s g H Q I h;show wpAny_isTrue_Compare1 (aP (w d s g H _ I h) λv R ⟨x,i,n,M,G⟩=>aP (A d R g i _ n G) λu T ⟨y,j,o,N,K⟩=>
  aP (E d T g j x y v u _ o M N K) λc U ⟨z,l,p,O,k,e,L⟩=>?_) B
 subst e;cases O;show ό ⟨l,p,L⟩
abbrev yX(r i:R2)(ta tb tc:TE):TE:=λσ H Q=>ta σ H λx e=>tb σ e λy g=>r x y g λz d=>∃k,z=.bl k /\
 (if k=eA then tc σ d λj h=>i y j h Q else Q (.bl dI) d)
def a5E(T:ÿ X (Ĥ op) r)(l:ÿ X (Ĥ i) w)(N:PE X a ta)(O:PE X b tb)(hc:PE X c tc)(R:Lh [op,i] [b,c]=false:=by with_unfolding_all rfl):PE X (.Compare a [op,i] [b,c] pos) (yX r w ta tb tc):=by
 intro g s j H Q I h;show Compare_chain (aP (N g s j H _ I h) λv s1 ⟨x,B,K,r1,U⟩=>chain_link<|aP (O g s1 j B _ K U) λu s2 ⟨y,E,L,A,Y⟩=>
  aP (T g s2 j E x y v u _ L r1 A Y) λd s3 ⟨z,n,o,r3,k,e,p⟩=>?_) R
 subst e;cases r3;show ό ?_;cases k with
 |false=>show ite_ff ⟨.bl dI,n,o,rfl,p⟩|true=>show ite_tt<|chain_last<|aP (hc g s3 j n _ o p) λw' s4 ⟨z',G,M,r4,Z⟩=>l g s4 j G y z' u w' Q M A r4 Z
def a5D(ho:ÿ X (Ĥ op) r)(l:ÿ X (Ĥ i) w)(U:PE X a ta)(Y:PE X b tb)(hc:PE X c tc)(Z:Lh [op,i] [b,c]=false:=by with_unfolding_all rfl):PT X (.Compare a [op,i] [b,c] pos) (Dd<|yX r w ta tb tc):=by
 intro g s j H Q I h;show isTrue_chain (aP (U g s j H _ I h) λv s1 ⟨x,B,L,r1,q1⟩=>test_link<|aP (Y g s1 j B _ L q1) λu s2 ⟨y,E,M,A,q2⟩=>
  aP (ho g s2 j E x y v u _ M r1 A q2) λd s3 ⟨z,n,o,r3,k,e,p⟩=>?_) Z
 subst e;cases r3;show ό ?_;cases k with
 |false=>obtain⟨k',R,q'⟩:=p;cases R;show ite_ff ⟨n,o,q'⟩|true=>show ite_tt<|test_last<|aP (hc g s3 j n _ o p) λw' s4 ⟨z',G,N,r4,q4⟩=>aP (l g s4 j G y z' u w' _ N A r4 q4) λd' s5 ⟨z2,K,O,r5,k2,T,q5⟩=>?_;subst T;cases r5;show ό ⟨K,O,q5⟩
abbrev yY(K:ZV)(x:V)(H:Hp)(k:Bool):Prop:=
 match x with
 |.non=>k=dI|.bl b=>k=b|.int i=>k=(i != 0)|.str y=>y.length<=Z7/\k=((y.length:Int) != 0)|.byt y=>y.size<=Z7/\k=((y.size:Int) != 0)|.ref p=>(∃e,ê K H p e/\k=!e.isEmpty)\/(∃e,Ó K H p e/\k=!e.isEmpty)\/∃d,H p=b0 (.dK d)/\k=!d.isEmpty|_=>False
def a5C{kvs:List (κ×V)}{vs:List (κ×Value)}(r:KV kvs vs):(!vs.isEmpty)=!kvs.isEmpty:=by cases r<;>rfl
def De(r:Á xs its):(!its.toArray.isEmpty)=!xs.isEmpty:=by cases r<;>simp
def mF:(Z7:Nat)<2^63:=by rw[è];decide
def a5B:a9j X (λx H Q=>∃k,yY X.K x H k/\Q k H):=by
 intro B s M H x v Q I n h;obtain⟨k,e,q⟩:=h;have K:=mF;have L:Z7=16777216:=è;cases x with
 |non=>cases n;have d:k=false:=e;subst d;show truthy_none ⟨H,I,q⟩|bl b=>cases n;have d:k=b:=e;subst d;show ό ⟨H,I,q⟩|int i=>obtain⟨t,rfl⟩:=n;have d:k=(i != 0):=e;subst d;show PySem.P.truthy_int ⟨H,I,q⟩|str y=>obtain⟨t,rfl⟩:=n;obtain⟨G,d⟩:y.length<=Z7/\k=((y.length:Int) != 0):=e;subst d;show PySem.P.truthy_str ⋯ ⟨H,I.tok _,q⟩|byt y=>obtain⟨t,rfl⟩:=n;obtain⟨G,d⟩:y.size<=Z7/\k=((y.size:Int) != 0):=e;subst d;show PySem.W.truthy_bytes ⋯ ⟨H,I.tok _,q⟩|ref p=>
  cases n;have d:(∃l,ê X.K H p l/\k=!l.isEmpty)\/(∃l,Ó X.K H p l/\k=!l.isEmpty)\/∃g,H p=b0 (.dK g)/\k=!g.isEmpty:=e;rcases d with⟨l,o,d⟩|⟨l,o,d⟩|⟨g,o,d⟩
  .subst d;obtain⟨w,r,z,A⟩:=I.list o;have j:=r.length;show wpAny_truthy_list z.isList (by simp only[Z5];lia) ⟨H,I.tok _,by rw[De r];show q⟩
  .subst d;obtain⟨w,r,z,A⟩:=I.tuple o;have j:=r.length;show truthy_tuple z (by simp only[Z5];lia) ⟨H,I.tok _,by rw[De r];show q⟩
  .subst d;obtain⟨A,E,u,r,m⟩:g.length<=Z7/\(p==ğ)=dI/\∃u,KV g u/\s.heap.DictOf (dA X.prog X.w) p u:=I.hok p _ o;have j:g.length=u.length:=Km r;show wpAny_truthy_dict E m ⋯ ⟨H,I.tok _,by rw[a5C r];show q⟩
 |_=>show(show False from e).elim
def a5A(n:PE X a ta)(o:∀d,qp a X.env d=(do let v <- d;standAt a.pos;holding [v] (truthy v))):
  PT X a (λg H Q=>ta g H λx i=>∃k,yY X.K x i k/\Q k i):=by
 intro e s g H Q I h;show isTrue_plain (aP (n e s g H _ I h) λv u ⟨x,j,l,r,p⟩=>a5B e u g j x v Q l r p)<|o _
def Ŷ:ÿ X (υ .Add) (λx y H Q=>∃i j,x=.str i/\y=.str j/\i.length+j.length<=Z7/\Q (.str<|i++j) H):=by intro d s p H x y v u Q I g l h;obtain⟨i,j,rfl,rfl,e,q⟩:=h;obtain⟨t,rfl⟩:=g;obtain⟨n,rfl⟩:=l;show add_str (λn o=>⟨.str<|i++j,H,I.tok _,⟨_,rfl⟩,q⟩) e
def fM(r:Á [x] us):∃u,us=[u]/\Æ x u:=by
 cases r with
 |cons d e=>cases e;show⟨_,rfl,d⟩
def r9(r:Á [x,y] us):∃u d,us=[u,d]/\Æ x u/\Æ y d:=by
 cases r with
 |cons e g=>
  cases g with
  |cons h r4=>cases r4;show⟨_,_,rfl,e,h⟩
def a4x(hc:X.calm=eA):Î X (.builtin "max") (λxs H Q=>∃i j,xs=[.int i,.int j]/\Q (.int<|if j>i then j else i) H):=by
 intro e s v H xs o Q I r h;obtain⟨i,j,rfl,q⟩:=h;obtain⟨u,p,rfl,⟨t,rfl⟩,⟨l,rfl⟩⟩:=r9 r;show max_two_ints (I.ok.hd hc) λg n k=>⟨_,H,I.kept k,?_,q⟩;by_cases d:j>i
 .rw[if_pos d,if_pos d];show⟨_,rfl⟩
 .rw[if_neg d,if_neg d];show⟨_,rfl⟩
def a4q(hc:X.calm=eA):Î X (.builtin "min") (λxs H Q=>∃i j,xs=[.int i,.int j]/\Q (.int<|if j<i then j else i) H):=by
 intro e s v H xs o Q I r h;obtain⟨i,j,rfl,q⟩:=h;obtain⟨u,p,rfl,⟨t,rfl⟩,⟨l,rfl⟩⟩:=r9 r;show min_two_ints (I.ok.hd hc) λg n k=>⟨_,H,I.kept k,?_,q⟩;by_cases d:j<i
 .rw[if_pos d,if_pos d];show⟨_,rfl⟩
 .rw[if_neg d,if_neg d];show⟨_,rfl⟩
structure ObjM(h:ç)(x dx C:Addr)(mA:Str->Option Value):Prop where
 obj:h.get? x=b0 (OZ C dx)
 ns:h.Ns1 dx mA
 ne:dx≠x
def ġ.some_of(r:ġ (b0 v) o):∃u,o=b0 u/\Æ v u:=by
 cases o with
 |none=>show(show False from r).elim|some u=>show⟨u,rfl,r⟩
structure Cls(K:ZV)(C:Addr):Prop where
 pg:PySem.W.plainGet K C Str.empty=eA
 hd:PySem.W.hasDictIn K C=eA
 po:PySem.W.plainOver K C=eA
 sa:yl K (.ref C) "__setattr__"=b0 (b0<|.builtin "object.__setattr__")
structure Con(K:ZV)(C:Addr)(f:Str)(v:V)(u:Value):Prop where
 at_:yl K (.ref C) f=b0 (b0 u)
 rel:Æ v u
 get:PX K u "__get__"=b0 b5
 cp:PySem.W.copiedNames.contains f=dI
structure Meth(K:ZV)(C:Addr)(m:Str)(f:Addr):Prop where
 at_:yl K (.ref C) m=b0 (b0<|.ref f)
 fn:OV K (.ref f)=eA
 kp:Ϛ K (.ref f)=eA
section
variable{X:Cx}{Dn:jw}{σ:St}{H:Hp}{s:ZZ}{A:ĺ}{E:Value->ZZ->Prop}{Q:Value->ZZ->Prop}{c:Value}{b:Bool}
inductive ń (K:ZV)(H:Hp):V->Value->Prop where
 |non:ń K H .non<|.type "NoneType"
 |bl (x:Bool):ń K H (.bl x)<|.type "bool"
 |int (i:Int):ń K H (.int i)<|.type "int"
 |str (x:Str):ń K H (.str x)<|.type "str"
 |flt (x:UInt64):ń K H (.flt x)<|.type "float"
 |lst {a:Addr}{xs:gz}(e:H a=b0 (.lst xs)):ń K H (.ref a)<|.type "list"
 |frz {a:Addr}{o:Obj}{xs:gz}(e:H a=b0 (.frz o<|.lst xs)):ń K H (.ref a)<|.type "list"
 |tup {a:Addr}{xs:gz}(e:H a=b0 (.tup xs)):ń K H (.ref a)<|.type "tuple"
 |dK {a:Addr}{kvs:List (aK×V)}(e:H a=b0 (.dK kvs)):ń K H (.ref a)<|.type "dict"
 |dT {a:Addr}{kvs:List (List aK×V)}(e:H a=b0 (.dT kvs)):ń K H (.ref a)<|.type "dict"
 |ins {a C dx:Addr}{fs:List (Str×V)}(e:H a=b0 (.ins C dx fs))(cl:Cls K C)(ha:yl K (.ref C) "__class__"=b0 (b0<|.builtin "object.__class__"))
   (hn:PX K (.builtin "object.__class__") "__get__"=b0 (b0<|.builtin "getset_descriptor.__get__")) (htk:PySem.W.takesIn K (.builtin "object.__class__")=b0 eA)
   (hm:PySem.W.mroIn K C (.type "object")=b0 eA):ń K H (.ref a)<|.ref C
end
structure Ô(k:Nat)(A:ĺ):Prop where
 hd:A.handled=b5
 dp:A.depth+3*k+5<NM
 un:A.units+16*k+200<â
def Ô.deeper(r:Ô (k+1) A)env:Ô k (A.deeper env):=
 ⟨r.hd,by have:=r.dp;change A.depth+1+3*k+5<_;lia,by have:=r.un;change A.units+3+16*k+200<_;lia⟩
def Ô.depth(r:Ô k A):A.depth<NM:=by have:=r.dp;lia
def Ô.units(r:Ô k A):A.units+64<â:=by have:=r.un;lia
abbrev Df:TA:=λ_ H Q=>Q [] H
abbrev a4l(c:TE)(tr:TA):TA:=λσ H Q=>c σ H λx a=>tr σ a λxs b=>Q (x::xs) b
def a4i:PA X [] Df:=λ_ _ _ _ H Q I h=>L0 ⟨[],H,I,.nil,h⟩
def a4U(j:PE X e te)(l:PA X es t)(n:æ (e::es) X.env=(dI,eval e X.env)::æ es X.env:=by rfl):PA X (e::es) (a4l te t):=by intro pos a s b H Q I h;rw[n];change Ç _ _ (spliced<|(dI,eval e X.env)::ĸ pos (æ es X.env)) _ _ s;show L4<|aP (j a s b H _ I h) λu w ⟨x,c,g,r,o⟩=>?_;show aP (l pos a w b c _ g o) λA z ⟨y,d,i,v,p⟩=>⟨x::y,d,i,.cons r v,p⟩
abbrev a4T(t:TA):TE:=λσ H Q=>t σ H λxs a=>xs.length<=Z7/\∀p,a p=b5->Q (.ref p) (upd a p<|.tup xs)
abbrev a4G(t:TA):TE:=λσ H Q=>t σ H λxs a=>xs.length<=Z7/\∀p,a p=b5->Q (.ref p) (upd a p<|.lst xs)
def a3X{x1}(h:PA X es t):PE X (.Tuple es x1 pos) (a4T t):=by intro c s o H Q I j;show wpAny_Tuple_spliced (aP (h pos c s o H _ I j) λl a ⟨n,d,g,r,z,q⟩=>⟨by rw[<- r.length];show z,?_⟩);have i:d a.heap.objs.size=none:=g.hok.fresh<|Z2 _;show⟨.ref a.heap.objs.size,upd d a.heap.objs.size<|.tup n,g.laid (t':=a.toks) (λb u e=>Z1 _ e) (Z2 _) ?_,rfl,q _ i⟩;show⟨z,l,r,⟨_,Ă _ rfl,rfl,_,rfl,rfl⟩⟩
def a3O(h:PA X es t):PE X (.List es pos) (a4G t):=by intro c s o H Q I j;show wpAny_List_spliced (aP (h pos c s o H _ I j) λl a ⟨n,d,g,r,z,q⟩=>⟨by rw[<- r.length];show z,?_⟩);have i:d a.heap.objs.size=none:=g.hok.fresh<|Z2 _;show⟨.ref a.heap.objs.size,upd d a.heap.objs.size<|.lst n,g.laid (t':=a.toks) (λb u e=>Z1 _ e) (Z2 _) ?_,rfl,q _ i⟩;show⟨z,l,0,r,Ă _ rfl⟩
noncomputable abbrev Sp:=List V->Hp->VK->XK->Prop
noncomputable abbrev jW:=List Δ->Hp->ZZ->XK->Value->ZZ->Prop
structure bj(P:ĥ)(w:Ĉ)(K:ZV)(mg:Str->Option Value)(base:ç)(A:ĺ)(outer:List Δ)(s:ZZ)(H:Hp):Prop where
 frames:A.frames=b0 outer
 mod:Mod K mg base
 bs:∀b o,base.get? b=b0 o->s.heap.get? b=b0 o/\H b=b5
 bsz:base.objs.size<=s.heap.objs.size
 funs:s.heap.FunFrames base outer
 frf:∀b∈iI outer,H b=b5
 hok:Ī P w H s.heap
 bare:cj s.gens
inductive CE (outer:List Δ)(P:ĥ)(w:Ĉ)(H:Hp)(s:ZZ)(Q:VK)(u:Value)(s':ZZ):Prop
 |mk (v:V)(H':Hp)(o:s'.os=s.os)(b:cj s'.gens)(n:Un (iI outer) [] H H' s.heap s'.heap)(k:Ī P w H' s'.heap)(r:Æ v u)(q:Q v H'):CE outer P w H s Q u s'
abbrev CrI(CX:jW)(outer:List Δ)(P:ĥ)(w:Ĉ)(H:Hp)(s:ZZ)(Q:VK)(E:XK)(r:QK)(a:ZZ):Prop:=
 match r with
 |.ok (.ret u)=>CE outer P w H s Q u a|.ok _=>False|.error e=>CX outer H s E e a
structure ī(P:ĥ)(w:Ĉ)(K:ZV)(mg:Str->Option Value)(base:ç)(CX:jW)(k:Nat)(f:Addr)(fd:my)(ps:List Str)(sp:Sp):Prop where
 len:∀vs H Q E,sp vs H Q E->vs.length=ps.length
 run:∀(A:ĺ)(outer:List Δ)(s:ZZ)(H:Hp)(args:Args)(us:gw)(vs:gz)(Q:VK)(E:XK),Ô k A->bj P w K mg base A outer s H->jn s fd args (ps.zip us)->Á vs us->sp vs H Q E->
  ź (Å P w) A (.call (.ref f) args) (CrI CX outer P w H s Q E) s
def Inv.env0{σ:St}(I:Inv X Dn σ H s):bj X.prog X.w X.K X.mg X.base X.A X.stack s H:=
 ⟨I.ok.frames,I.ok.mod,I.bs,ė I.ok.bsz I.sz,I.stack,I.stkFree,I.hok,I.bare⟩
def Inv.after{σ:St}(I:Inv X Dn σ H s)(h:CE X.stack X.prog X.w H s Q u s'):EP X Dn σ Q u s':=by obtain⟨v,i,l,a,un,c,r,q⟩:=h;obtain⟨j,g,d,t,e⟩:=s';obtain rfl:e=s.os:=l;show⟨v,i,I.call (h':=j) (g':=g) (d':=d) (t':=t) (ch:=[]) un c a λb z=>absurd z<|by simp,r,q⟩
abbrev yZ(sp:Sp)(a:gz)(E:XK)(t:TA):TE:=λσ H Q=>t σ H λvs b=>sp (vs++a) b Q E
abbrev Ď(K:ZV)(a:my)(ps:List Str)(ds:gw):Prop:=
 ∀(s:ZZ)(us:gw),K.In s.heap->(us++ds).length=ps.length->jn s a ⟨us,[]⟩ (ps.zip<|us++ds)
def Ď.all{K:ZV}(h:∀us:gw,us.length=ps.length->KH a ⟨us,[]⟩=pure (ps.zip us)):Ď K a ps []:=λs us _ b=>by rw[Ň]at b ⊢;show .of_eq<|h us b
abbrev uS(CX:jW)(X:Cx)(E:XK):Prop:=∀(Dn:jw)(σ:St)(H:Hp)(s:ZZ)(e:Value)(a:ZZ),Inv X Dn σ H s->CX X.stack H s E e a->X.xe e a
section
variable{X:Cx}{CX:jW}{k:Nat}{f C:Addr}{fd:my}{ps:List Str}{sp:Sp}{dvs:gz}{ds:gw}{E:XK}{x m:Str}{p pos apos:ß}{e o:Expr}{es:List Expr}{ta:TE}{t:TA}
def Dg{σ:St}(F:ī X.prog X.w X.K X.mg X.base CX k f fd ps sp)(i:Ô k X.A)(d:Ď X.K fd ps ds)(hd:Á dvs ds)(j:uS CX X E)(I:Inv X Dn σ H s)(r:Á vs us)(h:sp (vs++dvs) H Q E):Ç (Å X.prog X.w) X.A (call (.ref f) us) (EP X Dn σ Q) X.xe s:=by
 have b:Á (vs++dvs) (us++ds):=r.append hd;have g:(us++ds).length=ps.length:=by rw[<- b.length];show F.len _ _ _ _ h
 show wpAny_call<|Kf (F.run X.A X.stack s H ⟨us,[]⟩ (us++ds) (vs++dvs) Q E i I.env0 (d s us I.kIn g) b h) λr l a=>?_;cases r with
 |error e=>show j Dn σ H s e l I a|ok c=>
  cases c with
  |ret u=>show I.after a|next=>show Θ a|brk=>show Θ a|cont=>show Θ a
def a3I(F:ī X.prog X.w X.K X.mg X.base CX k f fd ps sp)(v:Ô k X.A)(l:Gl X x)(u:X.mg x=b0 (.ref f))(n:Ϛ X.K (.ref f)=eA)(i:Ď X.K fd ps ds)(hd:Á dvs ds)(w:uS CX X E)
  (g:PA X (e::es) t)(b:(x==("__debug__":Str))=false:=by decide) (j:æ (e::es) X.env=(dI,eval e X.env)::æ es X.env:=by rfl)(c:(ĸ pos<|æ es X.env).any (·.1)=false:=by rfl) :
  PE X (.Call (.Name x p) (e::es) [] pos) (yZ sp dvs E t):=by
 intro a s y H Q I h;show gh<|rX I l u ?_ b;show PySem.W.callWith_K (h₀:=X.base) I.ok.mod.kin n (aP (g pos a s y H _ I h) λB A ⟨G,z,d,r,q⟩=>⟨d.kIn,?_⟩) j c;show Dg F v i hd w d r q
def a3H(F:ī X.prog X.w X.K X.mg X.base CX k f fd ps sp)(j:Ô k X.A)(d:Gl X x)(i:X.mg x=b0 (.ref f))(g:Ϛ X.K (.ref f)=eA)(c:Ď X.K fd ps ds)(hd:Á dvs ds)(l:uS CX X E)
  (a:(x==("__debug__":Str))=false:=by decide):PE X (.Call (.Name x p) [] [] pos) (yZ sp dvs E Df):=by
 intro b s n H Q I h;show gh<|rX I d i ?_ a;show PySem.W.callWith_K0 I.kIn g<|Dg (us:=[]) F j c hd l I .nil h
structure RnI(K:ZV)(C f:Addr):Prop where
 makes:PySem.W.makesIn K C=eA
 init:yl K (.ref C) "__init__"=b0 (b0<|.ref f)
 fn:OV K (.ref f)=eA
 kp:Ϛ K (.ref C)=eA
end
section
variable{X:Cx}{CX:jW}{k:Nat}{f C:Addr}{fd:my}{ps ks:List Str}{sp:Sp}{E:XK}{x m:Str}{p pos apos kpos:ß}{e o:Expr}{es:List Expr}{kws:List Ζ}{te ta:TE}{t tk:TA}{nm:Option Str}
structure KBinds(K:ZV)(fd:my)(ps ks:List Str)(g:gw->gw->gw)(gV:gz->gz->gz):Prop where
 to:∀(s:ZZ)(us ws:gw),K.In s.heap->(g us ws).length=ps.length->jn s fd ⟨us,ks.zip ws⟩ (ps.zip<|g us ws)
 rel:∀{vs:gz}{us:gw}{zs:gz}{ws:gw},Á vs us->Á zs ws->Á (gV vs zs) (g us ws)
variable{g:gw->gw->gw}{gV:gz->gz->gz}
end
structure Ĕ(N P:List Str)(sc:Ź):Prop where
 kind:sc.kind=.function
 co:sc.isCoroutine=dI
 gen:sc.isGenerator=dI
 nd:N.Nodup
 pre:N.take P.length=P
 par:∀x∈P,sc.names.lookup x=b0 .local\/sc.names.lookup x=b0 .cell
 nofree:∀y∈sc.names,y.2≠.free
def Dh{kindOf:Str->Option Ϙ}:∀{a}{m},(∀v,(x,v)∉a)->bz kindOf a m x=m x
 |[],_,_=>rfl|(n,v)::r,m,h=>by
  unfold bz;rw[Dh λw hw=>h w<|ň _ hw];split
  .have:x≠n:=by rintro rfl;show h v Ś
   simp[this]
  .rfl
def Di{kindOf:Str->Option Ϙ}:∀{a}{m},(∀v,(x,v)∉a)->bw kindOf a m x=m x
 |[],_,_=>rfl|(n,v)::r,m,h=>by
  unfold bw;rw[Di λw hw=>h w<|ň _ hw];split
  .rfl
  .have:x≠n:=by rintro rfl;show h v Ś
   simp[this]
def Dj{kindOf:Str->Option Ϙ}:∀{P:List Str}{vs:gw}{i:Nat}{m},P.Nodup->P[i]?=b0 x->vs[i]?=b0 v->kindOf x=b0 .local->
  bz kindOf (P.zip vs) m x=b0 v
 |[],_,_,_,_,h,_,_=>by simp at h
 |_::_,[],_,_,_,_,h,_=>by simp at h
 |p::P,w::vs,0,m,nd,h1,h2,hk=>by simp at h1 h2;subst h1;subst h2;change bz kindOf ((p,w)::P.zip vs) m p=_;unfold bz;rw[Dh λv a=>(Š.mp nd).1 (MH a).1,if_pos hk];simp
 |p::P,w::vs,i+1,m,nd,h1,h2,hk=>by change bz kindOf ((p,w)::P.zip vs) m x=_;unfold bz;show Dj (i:=i) (Š.mp nd).2 (by simpa using h1) (by simpa using h2) hk
def Dk{kindOf:Str->Option Ϙ}:∀{P:List Str}{vs:gw}{i:Nat}{m},P.Nodup->P[i]?=b0 x->vs[i]?=b0 v->kindOf x≠b0 .local->
  bw kindOf (P.zip vs) m x=b0 v
 |[],_,_,_,_,h,_,_=>by simp at h
 |_::_,[],_,_,_,_,h,_=>by simp at h
 |p::P,w::vs,0,m,nd,h1,h2,hk=>by simp at h1 h2;subst h1;subst h2;change bw kindOf ((p,w)::P.zip vs) m p=_;unfold bw;rw[Di λv a=>(Š.mp nd).1 (MH a).1,if_neg hk];simp
 |p::P,w::vs,i+1,m,nd,h1,h2,hk=>by change bw kindOf ((p,w)::P.zip vs) m x=_;unfold bw;show Dk (i:=i) (Š.mp nd).2 (by simpa using h1) (by simpa using h2) hk
abbrev start(N:List Str)(vs:gz):St:=vs.map b0++aa (N.length-vs.length) b5
abbrev k7(CX:jW)(P:ĥ)(w:Ĉ)(K:ZV)(mg:Str->Option Value)(base:ç)(N:List Str)(a:Str)(scope:Ź)(f:Addr)(c:Value)(A:ĺ)(outer:List Δ)(s:ZZ)(H:Hp)(E:XK):Cx where
 prog:=P
 w:=w
 K:=K
 mg:=mg
 base:=base
 A:=A.deeper<|envOfC a scope s.heap.objs.size f c
 N:=N
 s₀:=s
 H₀:=H
 env:=envOfC a scope s.heap.objs.size f c
 outer:=outer
 stack:=envOfC a scope s.heap.objs.size f c::outer
 ex:=[]
 calm:=eA
 fn:=λ_=>eA
 pn:=[]
 xe:=λe g=>Ç (Å P w) (A.deeper<|envOfC a scope s.heap.objs.size f c) (leaving (envOfC a scope s.heap.objs.size f c) e) (λ_ b=>CX outer H s E e b) (λd b=>CX outer H s E d b) g
def Dl{sc:Ź}(h:sc.names.lookup x=b0 .cell):∃c,(Lg n sc.names []).lookup x=b0 c:=by have q:=PR sc.names n []<|.inl h;show Pu.mp q
def a3B{K:ZV}(S:Ĕ N ps scope)(hd:A.handled=b5)(j:bj P w K mg base A outer s H)(Y:vs.length=ps.length)(r:Á vs us)(x:InCallC s s.heap.objs.size (bz (envOfC d scope s.heap.objs.size f G).kindOf (ps.zip us) λ_=>b5) (Lg (s.heap.objs.size+1) scope.names []) (bw (envOfC d scope s.heap.objs.size f G).kindOf (ps.zip us) λ_=>b5) Q):
  Inv (k7 CX P w K mg base N d scope f G A outer s H E) [] (start N vs) H Q:=by
 have T:ps.length<=N.length:=by have:=congrArg Ģ S.pre;rw[Ġ]at this;lia
 obtain⟨I,Z,rfl,M⟩:=x.done;have n:∀b:Addr,b∉(k7 CX P w K mg base N d scope f G A outer s H E).ex:=λb z=>absurd (show b∈([]:List Addr)from z) (by simp);show⟨⟨j.mod,S.kind,rfl,rfl,Z2 _,λy z c I g=>?_,λy l=>?_,λy c _ h=>?_,λ_=>hd,Around.frames_deeper j.frames,.inr ⟨rfl,rfl⟩,λb z=>absurd z<|n b,j.bs,j.bsz,λb _ _=>n b,λb z=>absurd z<|n b,j.funs,j.frf⟩,
  rfl,j.bare,Un.kept M,⟨_,x.toInCall.ns,λi y v I g X=>?_⟩,λy c h=>⟨_,x.cell y c h⟩,j.hok.fresh<|Z2 _,λy c h=>?_,λp o=>absurd (show p∈([]:jw)from o)<|by simp,j.hok.kept M,?_⟩
 .show name_of_addr x.apart (Ϡ I)<|Ϡ g
 .have l:scope.names.lookup y=b0 .cell\/scope.names.lookup y=b0 .free:=l;rcases l with l|l
  .show Dl l
  .show absurd rfl<|S.nofree _<|Ϡ l
 .show ż<|x.above y c<|Ϡ h
 .have L:i<vs.length:=by
   unfold start at g;by_cases L:i<vs.length
   .show L
   .rw[Ž<|by simpa using L]at g;rw[zr]at g;split at g<;>cases g
  have R:vs[i]?=b0 v:=by
   unfold start at g;rw[ō<|by simpa using L,þ]at g;cases e:vs[i]? with
   |none=>rw[e]at g;cases g|some a=>rw[e]at g;cases g;rfl
  obtain⟨u,O,U⟩:=r.get R;have o:ps[i]?=b0 y:=by rw[<- S.pre,uz<|by lia];show I
  have B:ps.Nodup:=by rw[<- S.pre];show S.nd.sublist<|uv _ _
  show⟨u,U,?_⟩;rcases S.par y (Ĳ o)with k|k
  .show .inl ⟨k,Dj B o O k⟩
  .obtain⟨c,e⟩:=Dl (n:=s.heap.objs.size+1) k;show .inr ⟨.inl k,c,e,?_⟩;have q:=x.cell y c e;rw[Dk B o O<|by change scope.names.lookup y≠_;rw[k];decide]at q;show q
 .show j.hok.fresh<|ż<|x.above y c<|Ϡ h
 .unfold start;change _=N.length;rw[Z4,ZT,uh];lia
def LwI{K:ZV}{kV:Value}(lk:K.lookup f=b0 ⟨oc,od,.func<|δ name a d body scope Y kV p Z an c ct,O⟩)(G:L8 K c a=eA)(S:Ĕ N ps scope)(len:∀vs H Q E,sp vs H Q E->vs.length=ps.length)(i:∀A outer s H(vs:gz)Q E,Ô k (A.deeper<|envOfC a scope s.heap.objs.size f c)->sp vs H Q E->
   ∃t,Ņ (k7 CX P w K mg base N a scope f c A outer s H E) body t/\t {nx:=λ_ h=>Q .non h,rt:=Q} (start N vs) H):
  ī P w K mg base CX (k+1) f (δ name a d body scope Y kV p Z an c ct) ps sp:=by
 show⟨len,λA outer s H X us vs Q E L z hb r B=>?_⟩;have hl:=len _ _ _ _ B;have U:K.In s.heap:=z.mod.kin.keeps λb o e=>(z.bs b o e).1;have M:s.heap.NoLimit:=z.mod.nolimit.keeps λb o e=>(z.bs b o e).1;have j:∀y∈ps.zip us,scope.names.lookup y.1=b0 .local\/(scope.names.lookup y.1=b0 .cell/\((Lg (s.heap.objs.size+1) scope.names []).lookup y.1).isSome=eA):=λ⟨n,v⟩ hy=>by
  rcases S.par n (MH hy).1 with q|q
  .show .inl q
  .show .inr ⟨q,PR _ _ _<|.inl q⟩
 show codeAny_call_function L.depth (U _ _ lk) rfl S.co S.gen rfl (PySem.W.codeRec_of U G)<|hb _ _ _ _ ?_;show wpAny_newFunctionEnv_cells S.kind j λenv he s1 x=>?_;subst he;show⟨M.keeps x.toInCall.keep,codeAny_func ?_⟩;obtain⟨t,ht,hq⟩:=i A outer s H vs Q E (L.deeper _) B;have I:Inv (k7 CX P w K mg base N a scope f c A outer s H E) [] (start N vs) H s1:=a3B S L.hd z hl r x;show Ĭ (ht [] s1 (start N vs) H _ I hq) (λfl T l=>?_) λe T l=>l;have fin:∀{g:St}{h:Hp}{v:V}{u:Value},Inv (k7 CX P w K mg base N a scope f c A outer s H E) [] g h T->Æ v u->Q v h->CE outer P w H s Q u T:=
  λ{g h v u} J R q=>⟨v,h,J.os,J.bare,J.base,J.hok,R,q⟩
 cases fl with
 |ret u=>obtain⟨v,g,h,J,R,q⟩:=l;show fin J R q|next=>obtain⟨g,h,J,q⟩:=l;show fin (v:=V.non) (u:=ŝ) J rfl q|brk=>obtain⟨_,_,_,q⟩:=l;show Θ q|cont=>obtain⟨_,_,_,q⟩:=l;show Θ q
abbrev uT(r:gz->Hp->VK->Prop)(t:TA):TE:=λσ H Q=>t σ H λvs a=>r vs a Q
def mkS{id:String}(hc:Î X (.builtin id) r)(n:Gl X x)(o:X.mg x=b5)(v:Ż x=b0 (.builtin id))(j:PA X (e::es) t)(u:x ≠ "__name__":=by decide)(b:(x==("__debug__":Str))=false:=by decide)(l:æ (e::es) X.env=(dI,eval e X.env)::æ es X.env:=by rfl)(c:(ĸ pos<|æ es X.env).any (·.1)=false:=by rfl):PE X (.Call (.Name x p) (e::es) [] pos) (uT r t):=by
 intro a s d H Q I h;show gh<|gU I n o v ?_ u b;show Q8 (aP (j pos a s d H _ I h) λA z ⟨B,g,i,y,w⟩=>hc a z d g B A Q i y w) l c
def i10(hc:Î X (.type T) r)(n:Gl X x)(o:X.mg x=b5)(v:Ż x=b0 (.type T))(j:PA X (e::es) t)(u:x ≠ "__name__":=by decide)(b:(x==("__debug__":Str))=false:=by decide)(l:æ (e::es) X.env=(dI,eval e X.env)::æ es X.env:=by rfl)(c:(ĸ pos<|æ es X.env).any (·.1)=false:=by rfl):PE X (.Call (.Name x p) (e::es) [] pos) (uT r t):=by
 intro a s d H Q I h;show gh<|gU I n o v ?_ u b;show iu (aP (j pos a s d H _ I h) λA z ⟨B,g,i,y,w⟩=>hc a z d g B A Q i y w) l c
section
variable{κ:Type} [DecidableEq κ]
abbrev fD(kvs:List (κ×V))(k:κ):Option V:=(kvs.find? λa=>decide<|a.1=k).map (·.2)
abbrev eV(kvs:List (κ×V))(k:κ)(v:V):List (κ×V):=
 if(kvs.any λa=>decide<|a.1=k)=eA then kvs.map (λa=>if a.1=k then(a.1,v)else a)else kvs++[(k,v)]
def y8{k:κ}(e:p.1=k):fD (p::r) k=b0 p.2:=by simp[fD,Ş,e]
def y9{k:κ}(e:¬ p.1=k):fD (p::r) k=fD r k:=by simp[fD,Ş,e]
def Dm(k:κ):∀kvs,(kvs.any λa=>decide<|a.1=k)=(fD kvs k).isSome
 |[]=>rfl|p::r=>by
  rw[dh];by_cases e:p.1=k
  .simp only[y8 e,decide_eq_true e,Nr,Option.isSome_some]
  .rw[y9 e,decide_eq_false e,Kv];show Dm k r
def zA kvs(k:κ)v:(eV kvs k v).length<=kvs.length+1:=by
 unfold eV;split
 .rw[ZT];lia
 .rw[Z4,ć,ao];lia
def ġ.isSome_eq(r:ġ o u):o.isSome=u.isSome:=by
 cases o with
 |none=>cases u with
  |none=>rfl|some _=>show(show False from r).elim
 |some _=>cases u with
  |none=>show(show False from r).elim|some _=>rfl
def ġ.getD(r:ġ o u)(a:Æ d d'):Æ (o.getD d) (u.getD d'):=by
 cases o with
 |none=>cases u with
  |none=>show a|some _=>show(show False from r).elim
 |some _=>cases u with
  |none=>show(show False from r).elim|some _=>show r
def KV.val(r:KV kvs vs)(k:κ):ġ (fD kvs k) (Iv vs k):=by
 unfold KV at r;induction r with
 |nil=>show ŭ|@cons p q j c h t i=>
  obtain⟨d,g⟩:=h;by_cases e:p.1=k
  .have a:q.1=k:=d.symm.trans e;have b:Iv (q::c) k=b0 q.2:=by simp[Iv,Ş,a]
   rw[y8 e,b];show g
  .have a:¬ q.1=k:=λz=>e<|d.trans z;have b:Iv (q::c) k=Iv c k:=by simp[Iv,Ş,a]
   rw[y9 e,b];show i
def KV.any(r:KV kvs vs)(k:κ):(kvs.any λa=>decide<|a.1=k)=vs.any λa=>decide (a.1=k):=by
 unfold KV at r;induction r with
 |nil=>rfl|cons h t b=>rw[dh,dh,b,h.1]
def KV.repl(r:KV kvs vs)(k:κ)(g:Æ y u):
  KV (kvs.map λa=>if a.1=k then(a.1,y)else a) (vs.map λa=>if a.1=k then(a.1,u)else a):=by
 unfold KV at r ⊢;induction r with
 |nil=>show .nil|@cons p q i j h t d=>
  rw[é,é];show .cons ?_ d;obtain⟨b,c⟩:=h;by_cases e:p.1=k
  .rw[if_pos e,if_pos<|b.symm.trans e];show⟨b,g⟩
  .rw[if_neg e,if_neg λz=>e<|b.trans z];show⟨b,c⟩
def KV.put(r:KV kvs vs)(k:κ)(a:Æ y u):KV (eV kvs k y) (stored vs k u):=by
 unfold eV stored;rw[r.any k];by_cases e:(vs.any λb=>decide<|b.1=k)=eA
 .rw[if_pos e,if_pos e];show r.repl k a
 .rw[if_neg e,if_neg e];show Kr r ⟨rfl,a⟩
def KV.length{kvs:List (κ×V)}(r:KV kvs vs):kvs.length=vs.length:=Km r
end
def pP(r:Æ (kV k) u):(dA P w).is k u=true:=by
 cases k with
 |inl i=>obtain⟨t,e⟩:=(show ∃t,u=Ć i t from r);subst e;show a7M P w i t|inr x=>obtain⟨t,e⟩:=(show ∃t,u=lw x t from r);subst e;show a7G P w x t
def Dp:∀{ks}{us},Á (ks.map kV) us->ItemsAre (dA P w) ks us
 |[],_,r=>by rw[qx]at r;cases r;show .nil
 |k::ks,_,r=>by
  rw[é]at r;cases r with
  |cons h t=>show .cons (pP h)<|Dp t
noncomputable abbrev KT(H:Hp):List (List aK×V)->List (List aK×Addr×Value)->Prop:=Ť λp q=>p.1=q.1/\H q.2.1=b0 (.tup<|p.1.map kV)/\Æ p.2 q.2.2
def KT.val(r:KT H kvs xs)k:ġ (fD kvs k) ((Ŀ xs k).map (·.2)):=by
 induction r with
 |nil=>show ŭ|@cons p q j c h t i=>
  obtain⟨d,_,g⟩:=h;by_cases e:p.1=k
  .have a:q.1=k:=d.symm.trans e;have b:Ŀ (q::c) k=b0 q.2:=by simp[Ŀ,Ş,a]
   rw[y8 e,b];show g
  .have a:¬ q.1=k:=λz=>e<|d.trans z;have b:Ŀ (q::c) k=Ŀ c k:=by simp[Ŀ,Ş,a]
   rw[y9 e,b];show i
def KT.repl(r:KT H kvs xs)k(i:Æ y u):
  KT H (kvs.map λb=>if b.1=k then(b.1,y)else b) (xs.map<|ql k u):=by
 induction r with
 |nil=>show .nil|@cons p q j l h t g=>
  rw[é,é];show .cons ?_ g;obtain⟨a,c,d⟩:=h;unfold ql;by_cases e:p.1=k
  .rw[if_pos e,if_pos<|a.symm.trans e];show⟨a,c,i⟩
  .rw[if_neg e,if_neg λz=>e<|a.trans z];show⟨a,c,d⟩
def KT.put(r:KT H kvs xs)k(c:H b=b0 (.tup<|k.map kV))(a:Æ y u):
  KT H (eV kvs k y) (Ε xs k b u):=by
 have e:(kvs.any λd=>decide<|d.1=k)=(Ŀ xs k).isSome:=by rw[Dm,(r.val k).isSome_eq,yx]
 unfold eV Ε;rw[e];by_cases q:(Ŀ xs k).isSome=eA
 .rw[if_pos q,if_pos q];show r.repl k a
 .rw[if_neg q,if_neg q];show Kr r ⟨rfl,c,a⟩
def KT.keeps(r:KT H kvs xs)(d:∀b c,H b=b0 (.tup c)->a b=b0 (.tup c)):KT a kvs xs:=
 Ť.mapP r λ_ _ z=>⟨z.1,d _ _ z.2.1,z.2.2⟩
def Dq(ok:Ī P w H h)(e:Rd H a u):Ì P w H h a u:=e.ok ok
def uU(ok:Ī P w H h)(e:Rd H a (.dK kvs)):kvs.length<=Z7/\(a==ğ)=dI/\∃vs,KV kvs vs/\h.DictOf (dA P w) a vs:=
 show Ì P w H h a (.dK kvs)from Dq ok e
def Dr(ok:Ī P w H h)(e:H a=b0 (.dK kvs)):kvs.length<=Z7/\(a==ğ)=dI/\∃vs,KV kvs vs/\h.DictOf (dA P w) a vs:=uU ok<|.inl e
def zB(ok:Ī P w H h)(e:H a=b0 (.tup<|ks.map kV)):(Ű<|dA P w).is h ks a:=by obtain⟨_,b,r,o,c,d,n,g,_⟩:=(show Ì P w H h a (.tup<|ks.map kV)from ok a _ e);show⟨o,b.toArray,n,c,d,g,by simpa using Dp r⟩
def zC(ok:Ī P w H h)(e:Rd H a (.dT kvs)):kvs.length<=Z7/\(a==ğ)=dI /\
  ∃c,KT H kvs c/\h.DictOfH (Ű<|dA P w) a c:=by
 obtain⟨z,y,c,r,o,i,g,j,n,s,u,v⟩:=(show Ì P w H h a (.dT kvs)from Dq ok e);show⟨z,y,c,r,o,i,g,j,n,s,u,λx b=>?_,v⟩;have all:∀{l:List (List aK×V)}{m:List (List aK×Addr×Value)},KT H l m->∀x∈m,(Ű<|dA P w).is h x.1 x.2.1:=by
  intro l m q;induction q with
  |nil=>intro x b;show nomatch b|@cons p q B E d t A=>
   intro x b;rcases Ě.mp b with e|b
   .subst e;show zB ok<|by rw[<- d.1];show d.2.1
   .show A x b
 show all r x b
def h15(ok:Ī P w H h)(e:H a=b0 (.dT kvs)):kvs.length<=Z7/\(a==ğ)=dI /\
  ∃b,KT H kvs b/\h.DictOfH (Ű<|dA P w) a b:=zC ok<|.inl e
abbrev Ŝ(H:Hp)(a:Addr)(y:V)(r:Option V):Prop:=
 (∃c k,Rd H a (.dK c)/\y=kV k/\r=fD c k)\/∃c k b,Rd H a (.dT c)/\y=.ref b/\H b=b0 (.tup<|k.map kV)/\r=fD c k
abbrev Ϥ(H:Hp)(a:Addr)(y v:V)(d:Hp):Prop:=
 (∃c k,H a=b0 (.dK c)/\y=kV k/\c.length<Z7/\d=upd H a (.dK<|eV c k v)) \/
 ∃c k b,H a=b0 (.dT c)/\y=.ref b/\H b=b0 (.tup<|k.map kV)/\c.length<Z7/\d=upd H a (.dT<|eV c k v)
def Ŝ.k{k:aK}(e:H a=b0 (.dK kvs)):Ŝ H a (kV k) (fD kvs k):=.inl ⟨kvs,k,.inl e,rfl,rfl⟩
def Ϥ.k{k:aK}(e:H a=b0 (.dK kvs))(b:kvs.length<Z7):Ϥ H a (kV k) v (upd H a<|.dK<|eV kvs k v):=.inl ⟨kvs,k,e,rfl,b,rfl⟩
def Inv.big{σ:St}(I:Inv X Dn σ H s):ğ<s.heap.objs.size:=by have h:ř<s.heap.objs.size:=(I.mod.glob.keeps I.bk).lt;show Kd (by decide) h
def e11{σ:St}(M:A.units+1<â)(I:Inv X Dn σ H s)(g:Ŝ H a y (b0 v))(B:Æ y u)(h:∀i G,Inv X Dn σ H G->Æ v i->Q i G):
  Ç (Å X.prog X.w) A (ju (.ref a) u) Q E s:=by
 rcases g with⟨x,k,e,n,l⟩|⟨x,k,b,e,n,K,l⟩
 .subst n;obtain⟨z,hd,N,c,j⟩:=uU I.hok e;obtain⟨i,hw,d⟩:=ġ.some_of (v:=v) (o:=Iv N k) (by rw[l];show c.val k);show Np (pP B) j.mapOf hw<|h i _ (I.tok _) d
 .subst n;cases(show u=Ð b from B);obtain⟨z,hd,O,c,j⟩:=zC I.hok e;obtain⟨i,hw,d⟩:=ġ.some_of (v:=v) (o:=(Ŀ O k).map (·.2)) (by rw[l];show c.val k);obtain⟨p,L,w⟩:=ZX.mp hw;show Ng (Nf M) (zB I.hok K) j L ?_;rw[w];show h i _ (I.tok _) d
def n5{σ:St}(I:Inv X Dn σ H s)(h:rW (H a))(g:γ a s.heap h')(e:∃q,h'.get? a=b0 q)(new:Ì X.prog X.w (upd H a c) h' a c):
  Inv X Dn σ (upd H a c) {s with heap:=h',toks:=t'}:=
 I.write (x:=a) (e:=a) h (.inl rfl) (λb q d z=>(g.2 b d).trans z) e new
def Ds(z:kvs.length<=Z7)(hd:(a==ğ)=dI)(b:KV kvs vs)(d:h'.DictOf (dA P w) a vs):
  Ì P w c h' a (.dK kvs):=⟨z,hd,vs,b,d⟩
def a5v{σ:St}(hu:A.units+1<â)(I:Inv X Dn σ H s)(g:Ϥ H a y v L)(T:Æ y u)(R:Æ v r)(h:∀U,Inv X Dn σ L U->Q () U):
  Ç (Å X.prog X.w) A (setItem (.ref a) u r) Q E s:=by
 rcases g with⟨d,k,e,x,l,w⟩|⟨d,k,b,e,x,M,l,w⟩
 .subst x w;obtain⟨z,hd,vs,i,p⟩:=Dr I.hok e;have K:vs.length<=Z7:=by rw[<- i.length];show z
  have B:(eV d k v).length<=Z7:=by have:=zA d k v;lia
  show wpAny_setItem_pairs (hsz:=K) (pP T) p λO j G=>h _ ?_;have he:∃q,O.get? a=b0 q:=let⟨q,_,_,n,_⟩:=j;⟨q,n⟩;show n5 I (by rw[e];show ŭ) G he<|Ds B hd (i.put k R) j
 .subst x w;cases(show u=Ð b from T);obtain⟨z,hd,xs,i,p⟩:=h15 I.hok e;have K:xs.length<=Z7:=by rw[<- Km i];show z
  have B:(eV d k v).length<=Z7:=by have:=zA d k v;lia
  show OI (hsz:=K) (Nf hu) (zB I.hok M) p λO j G=>h _ ?_;obtain⟨q,Z,Y,n,h2,h3,h4,_,h5⟩:=j;show n5 I (by rw[e];show ŭ) G ⟨q,n⟩ ⟨B,hd,_,(i.put k M R).keeps λc ys N=>?_,q,Z,Y,n,h2,h3,h4,h5⟩;rw[bC<|Kg N e λz=>nomatch z];show N
def a5o{σ:St}(I:Inv X Dn σ H s)(e:Rd H a (.dK kvs))(h:∀t c,Inv X Dn σ H c->Q (.int kvs.length t) c):Ç (Å X.prog X.w) A (call (.builtin "len") [.ref a]) Q E s:=by obtain⟨z,hd,g,b,d⟩:=uU I.hok e;show call_len_dict hd d (by rw[<- b.length];rw[è]at z;lia) ?_;rw[<- b.length];show h _ _<|I.tok _
abbrev uV(i:Expr):Prop:=∀b a,KP i dI b a=operate [b,a] (ju b a)
def zD{id:String}(p:xx (.type T) "__getitem__"=pure (b0<|.builtin id))(u:uV a)(h:Ç (Å prog w) A (eval b env) (λo e=>Ç (Å prog w) A (eval a env) (λi c=>c.TypeIs o T/\Ç (Å prog w) A (ju o i) Q E c) E e) E s):
  Ç (Å prog w) A (eval (.Subscript b a pos) env) Q E s:=by
 show KR<|Ĭ h (λo e j=>Ĭ j (λi c d=>?_) λ_ _ x=>x) λ_ _ x=>x;obtain⟨n,d⟩:=d;unfold Ka;show ZU ?_;rw[getitemInPython_of_ne n.not_modules];show ZU<|rT n p ?_;have fin:Ç (Å prog w) A (KP a dI o i) (λr g=>Ç (Å prog w) A (letTemporaryGo b o r >>= λ_=>pure r) Q E g) E c:=by rw[u o i];show wpAny_operating<|Ĭ d (λr g l=>ZU<|wpAny_letTemporaryGo<|Z3 l) λ_ _ x=>x
 first
  |show Z3 (ZU fin)|show ZU (Z3<|ZU fin)|show ZU fin
def a5m{σ:St}(I:Inv X Dn σ H s)(g:Ŝ H a y o):s.TypeIs (.ref a) "dict":=by
 rcases g with⟨d,k,e,_,_⟩|⟨d,k,b,e,_,_,_⟩
 .obtain⟨_,_,h,_,c⟩:=uU I.hok e;show c.typeIs
 .obtain⟨_,_,i,_,c⟩:=zC I.hok e;show c.typeIs
abbrev a5g(d ty:TE):TE:=λσ H Q=>d σ H λx c=>ty σ c λy b=>∃a v,x=.ref a/\Ŝ b a y (b0 v)/\Q v b
abbrev a5e(g ty tv:TE):TS:=λD σ H=>tv σ H λv c=>g σ c λx d=>ty σ d λy e=>∃a b,x=.ref a/\Ϥ e a y v b/\D.nx σ b
def a5W(E:X.A.units+1<â)(A:PE X o td)(z:PE X i ty)(B:uV i):PE X (.Subscript o i pos) (a5g td ty):=by intro b s j H Q I h;show zD Mq.lookup B<|aP (A b s j H _ I h) λu N ⟨x,l,p,L,G⟩=>aP (z b N j l _ p G) λO R ⟨y,n,d,M,a,v,w,g,K⟩=>?_;subst w;obtain rfl:u=Ð a:=L;show⟨a5m d g,e11 E d g M λU T r c=>⟨v,n,r,c,K⟩⟩
def a5P(K:X.A.units+1<â)(E:PE X o td)(B:PE X i ty)(L:PE X value tv)(G:Ϧ value (b0<|.Subscript o i pos') pos.line X.env=pure dI):
  PS X (.Assign [.Subscript o i pos'] value pos) (a5e td ty tv):=by
 intro b s c H D I h;show MZ (aP (L b s c H _ I h) λr U ⟨v,d,n,Q,M⟩=>aP (E b U c d _ n M) λu Y ⟨x,j,p,R,N⟩=>aP (B b Y c j _ p N) λiv s3 ⟨y,Z,w,T,a,l,A,g,O⟩=>?_) G;subst A;obtain rfl:u=Ð a:=R;show a5v K w g T Q λs4 z=>⟨c,l,z,O⟩
def a5L(h:ç)(a:ğ<h.objs.size):Ì P w H (h.push {cls:=.type "dict",data:=.dict #[]}) h.objs.size (.dK []):=
 ⟨ŀ _,beq_eq_false_iff_ne.mpr<|ó<|ð a,[],.nil,b2O h⟩
abbrev uW:List (TE×TE)->St->Hp->(List (V×V)->Hp->Prop)->Prop
 |[],_,H,Q=>Q [] H|(tk,tv)::r,σ,H,Q=>tk σ H λx a=>tv σ a λy b=>uW r σ b λd c=>Q ((x,y)::d) c
noncomputable abbrev VV:List (V×V)->List (Value×Value)->Prop:=Ť λp q=>Æ p.1 q.1/\Æ p.2 q.2
abbrev k8(X:Cx)(pos:ß)(keys:List (Option Expr))(a:List Expr)(b:List (TE×TE)):Prop:=
 ∀(Dn:jw)(s:ZZ)(σ:St)(H:Hp)(Q:List (V×V)->Hp->Prop),Inv X Dn σ H s->uW b σ H Q->
  Ç (Å X.prog X.w) X.A (evalPairs<|pairTrees keys a X.env pos) (λg e=>∃d c,Inv X Dn σ c e/\VV d g/\Q d c) X.xe s
def a6k:k8 X pos [] [] []:=λDn s σ H Q I h=>pairTrees_nil_walk ⟨[],H,I,.nil,h⟩
def a6g(o:PE X k tk)(r:PE X v tv)(p:k8 X pos ks vs b):
  k8 X pos (b0 k::ks) (v::vs) ((tk,tv)::b):=λa s d H Q I h=>
 pairTrees_cons_walk<|aP (o a s d H _ I h) λu K ⟨x,e,j,E,z⟩=>aP (r a K d e _ j z) λN L ⟨y,g,l,G,A⟩=>
  aP (p a L d g _ l A) λO M ⟨w,i,n,c,B⟩=>⟨(x,y)::w,i,n,.cons ⟨E,G⟩ c,B⟩
abbrev n6(kvs more:List (aK×V)):List (aK×V):=more.foldl (λacc a=>eV acc a.1 a.2) kvs
def KV.merge:∀{more}{a}{kvs}{vs},KV more a->KV kvs vs->KV (n6 kvs more) (merged vs a):=by
 intro more a kvs vs r;unfold KV at r;induction r generalizing kvs vs with
 |nil=>intro q;show q|@cons p q d g h t b=>
  intro c;have e:KV (eV kvs p.1 p.2) (stored vs q.1 q.2):=by have:=c.put p.1 h.2;rw[<- h.1];show this
  show b e
def Dt:∀more kvs,(n6 kvs more).length<=kvs.length+more.length
 |[],kvs=>by change kvs.length<=kvs.length+0;lia
 |p::r,kvs=>by have a:=Dt r<|eV kvs p.1 p.2;have b:=zA kvs p.1 p.2;change(n6 (eV kvs p.1 p.2) r).length<=_;rw[ć];lia
def Du:∀{kvs}{ws},VV (kvs.map λe=>(kV e.1,e.2)) ws->∃d,Carries (dA P w) ws d/\KV kvs d
 |[],_,r=>by rw[qx]at r;cases r;show⟨[],ŭ,.nil⟩
 |p::kvs,_,r=>by
  rw[é]at r;cases r with
  |@cons a b i bs h t=>obtain⟨d,c,q⟩:=Du (P:=P) (w:=w) t;obtain⟨j,g⟩:=b;show⟨(p.1,g)::d,⟨pP h.1,rfl,c⟩,.cons ⟨rfl,h.2⟩ q⟩
abbrev a6f(a:List (TE×TE)):TE:=λσ H Q=>∀p,H p=b5->uW a σ (upd H p<|.dK []) λps b=>b p=b0 (.dK [])/\∃kvs:List (aK×V),ps=kvs.map (λc=>(kV c.1,c.2))/\kvs.length<=15/\Q (.ref p) (upd b p<|.dK<|n6 [] kvs)
def a6T(h:k8 X pos keys a i)(d:keys.all (·.isSome)=eA)(A:keys.length=a.length)(w:keys≠[])(l:keys.length<=15):PE X (.Dict keys a pos) (a6f i):=by
 intro j s T H Q I q;have B:=I.hok.fresh<|Z2 s.heap.objs.size;have p:=I.laid (a:=s.heap.objs.size) (o:=.dK []) (h':=s.heap.push {cls:=.type "dict",data:=.dict #[]}) (t':=s.toks) (λ_ _ q=>Z1 _ q) (Z2 _)<|a5L s.heap I.big;show wpAny_Dict_walk (knd:=dA X.prog X.w) d A w l<|aP (h j _ T _ _ p<|q _ B) λws Z ⟨Y,U,o,n,e,g,u,lk,L⟩=>?_;subst u;obtain⟨O,c,N⟩:=Du (P:=X.prog) (w:=X.w) n;obtain⟨z,hd,R,M,r⟩:=Dr o.hok e;cases M;show⟨O,c,r,λv b G=>⟨.ref s.heap.objs.size,_,?_,rfl,L⟩⟩;have K:(n6 [] g).length<=Z7:=by have x:=Dt g [];rw[ao]at x;rw[è];lia
 have y:∃q,v.get? s.heap.objs.size=b0 q:=let⟨q,_,_,E,_⟩:=b;⟨q,E⟩;show n5 o (by rw[e];show ŭ) G y<|Ds K hd (N.merge .nil) b
structure a2z(X:Cx)(o:Expr)(m:Str)(apos:ß)(e:Expr)(cpos:ß):Prop where
 base:lz o m X.env (eval o X.env)=eval o X.env
 few:((ĸ cpos (æ [e] X.env)).all (λx=>!x.1)&&(xm cpos (yg [] X.env)).all (λx=>x.1.isSome)
  && decide (([e]:List Expr).length+([]:List Ζ).length+(if([]:List Ζ).isEmpty then 0 else 1)<30))=eA
 line:(apos.endLine==cpos.line)=eA
 trees:ĸ cpos (æ [e] X.env)=[(dI,eval e X.env)]
structure a1q(X:Cx)(o:Expr)(m:Str)(apos:ß)(e f:Expr)(cpos:ß):Prop where
 base:lz o m X.env (eval o X.env)=eval o X.env
 few:((ĸ cpos (æ [e,f] X.env)).all (λx=>!x.1)&&(xm cpos (yg [] X.env)).all (λx=>x.1.isSome)
  && decide (([e,f]:List Expr).length+([]:List Ζ).length+(if([]:List Ζ).isEmpty then 0 else 1)<30))=eA
 line:(apos.endLine==cpos.line)=eA
 trees:ĸ cpos (æ [e,f] X.env)=[(dI,eval e X.env),(dI,eval f X.env)]
abbrev Í(H:Hp)(a:Addr):Prop:=(∃kvs,Rd H a (.dK kvs))\/∃kvs,Rd H a (.dT kvs)
end L2
namespace HT
open PySem PyProof.Rows
abbrev lexLt:List Int->List Int->Bool
 |[],[]=>dI|[],_::_=>eA|_::_,[]=>dI|x::xs,y::ys=>if x=y then lexLt xs ys else decide (x<y)
def lexLt_cons x y xs a:lexLt (x::xs) (y::a)=if x=y then lexLt xs a else decide (x<y):=rfl
def a6S:lexLt [] []=false:=rfl
def a6Q y a:lexLt [] (y::a)=true:=rfl
def a6P x xs:lexLt (x::xs) []=false:=rfl
def a6I A s a t c u:∃e,J4 A s (.int a t) (.int c u) e/\(e=eA↔a=c):=
 ⟨(a==c),SeqAt.EqAt.int_int a t c u,by simp⟩
def a6F A s a t c u prog w E Q(h:Q (.bool<|decide<|a<c) s):
  Ç (Å prog w) A (aj .Lt (.int a t)<|.int c u) Q E s:=
 (b2j h:Ç (Å prog w) A (Ĥ .Lt (.int a t)<|.int c u) Q E s)
section
open PySem.SeqAt
open PySem.AutoSeq1 (wpAny_loadPart')
open PySem.MeetsSeq PySem.MeetsSeq2 PySem.MeetsSeq3
def a6E l b items i n n2 dd O sl U ns ms(X:Ÿ items.toList ns)(Y:Ÿ i.toList ms):
  Meets (Builtin.«tuple.__lt__» ⟨[.ref l,.ref b],[]⟩)
   (λ_ R s=>s.heap.get? l=b0 {cls:=.type "tuple",dict:=dd,data:=.seq items n,slots:=sl}/\s.heap.get? b=b0 {cls:=.type "tuple",dict:=O,data:=.seq i n2,slots:=U} /\
    R (.ok<|.ret<|.bool<|lexLt ns ms) s):=
 .of_wp λE w A R s h=>by
  obtain⟨L,g,d,N,M⟩:=s;obtain⟨hl,hb,h⟩:=h;have f2:=AutoSeq1.sub_tuple_tuple;have z1:items.size=ns.length:=by rw[<- X.length];simp
  have z2:i.size=ms.length:=by rw[<- Y.length];simp
  wp_walk using rE hl,rE hb,M3 _ (λÄ b T=>b.1=b5/\T=⟨L,g,d,N,M⟩/\∃(vs ws:gw)(p o:List Int),Ä=vs.zip ws /\
   Ÿ vs p/\Ÿ ws o/\p.length+i.size=o.length+items.size/\R (.ok<|.ret<|.bool<|lexLt p o) ⟨L,g,d,N,M⟩) _
  case turn=>
   rintro⟨y,x⟩ Ä b T ⟨G,rfl,vs,ws,p,o,v,H,r,j,z⟩;cases H with
   |nil=>rw[List.zip_nil_left]at v;cases v|cons a t I=>
    cases r with
    |nil=>rw[List.zip_nil_right]at v;cases v|cons c u K=>
     rw[P7]at v;injection v with hyx hrest;injection hyx with hy hx;subst hy hx;rw[lexLt_cons]at z;simp only[ć]at j;obtain⟨e,he,B⟩:=a6I A.in1 ⟨L,g,d,N,M⟩ a t c u;show ZU<|he E w _ _ ?_;cases e with
     |true=>rw[if_pos<|B.mp rfl]at z;wp_walk;show⟨rfl,rfl,_,_,_,_,hrest,I,K,by lia,z⟩|false=>rw[if_neg λq=>absurd (B.mpr q) Z6]at z;have Q:=a6F A.in1 ⟨L,g,d,N,M⟩ a t c u E w;wp_walk using Q;show⟨_,rfl,by simpa using z⟩
  case fin=>
   rintro⟨b1,b2⟩ T ⟨G,rfl,vs,ws,p,o,v,H,r,j,z⟩;simp only at G;subst G;have Z:lexLt p o=decide (items.size<i.size):=by
    cases H with
    |nil=>
     cases r with
     |nil=>simp only[ao]at j;rw[a6S];show(decide_eq_false<|by lia).symm|cons c u hw=>simp only[ao,ć]at j;rw[a6Q];show(decide_eq_true<|by lia).symm
    |cons a t Z=>
     cases r with
     |nil=>simp only[ao,ć]at j;rw[a6P];show(decide_eq_false<|by lia).symm|cons c u hw=>rw[P7]at v;cases v
   rw[Z]at z;wp_walk;show⟨_,rfl,by simpa[b1Y]using z⟩
  case h=>show⟨rfl,rfl,items.toList,i.toList,ns,ms,rfl,X,Y,by lia,h⟩
end
def lt_tupInts(B:jj s.heap l items)(v:jj s.heap b a)(y:Ÿ items.toList ns)(z:Ÿ a.toList ms)(G:A.units<â)(h:Q (.bool<|lexLt ns ms) s):Ç (Å prog w) A (Ĥ .Lt (.ref l)<|.ref b) Q E s:=by
 obtain⟨⟨cls,u,p,I⟩,r,hc,n,hd⟩:=id B;obtain⟨⟨o,i,g,j⟩,e,c,H,d⟩:=id v;simp only at hc hd c d;subst hc hd c d;show richCompare_meets_room (op:=.Lt) ⟨_,r,rfl⟩ ⟨_,e,rfl⟩ PySem.F.slot_tuple_lt PySem.F.entry_tuple_lt (PySem.F.args_tuple_lt_2 _ _) (a6E l b items a n H u i I j ns ms y z)
  ⟨r,e,show Ů (lexLt ns ms)≠Value.notImplemented/\Q (.bool<|lexLt ns ms) s from⟨(λx=>nomatch x),h⟩⟩ G
abbrev sIx(n d:Nat):Option Int->Nat
 |none=>d|some v=>if v<0 then(v+(n:Int)).toNat else min v.toNat n
def sIx_none n d:sIx n d b5=d:=rfl
def sIx_nat(n d k:Nat):sIx n d (b0 (k:Int))=min k n:=by change(if(k:Int)<0 then((k:Int)+(n:Int)).toNat else min (k:Int).toNat n)=min k n;rw[if_neg<|by lia,gf]
end HT
namespace L2
open PySem PySem.Spec PyProof.Rows
noncomputable abbrev TO:=St->Hp->(Option Int->Hp->Prop)->Prop
abbrev PO(X:Cx)(e:Option Expr)(t:TO):Prop:=
 ∀(Dn:jw)(s:ZZ)(σ:St)(H:Hp)(Q:Option Int->Hp->Prop),Inv X Dn σ H s->t σ H Q->
  Ç (Å X.prog X.w) X.A (evalPart e X.env) (λu b=>∃o a,Inv X Dn σ a b/\IsPart u o/\Q o a) X.xe s
abbrev a6A:TO:=λ_ H Q=>Q b5 H
abbrev a5x(t:TE):TO:=λσ H Q=>t σ H λx a=>∃i,x=.int i/\Q (b0 i) a
def zE:∀{us},Á (ns.map V.int) us->Ÿ us ns:=by
 induction ns with
 |nil=>intro us r;rw[qx]at r;cases r;show .nil|cons n ns a=>
  intro us r;rw[é]at r;cases r with
  |cons b c=>obtain⟨t,e⟩:=b;subst e;show .cons n t<|a c
def a5u:PO X b5 a6A:=by intro a s b H Q I h;rw[evalPart_none];show Z3 ⟨b5,H,I,.none,h⟩
def a5r(h:PE X e te):PO X (b0 e) (a5x te):=by intro a s j H Q I hw;rw[evalPart_some];show aP (h a s j H _ I hw) λu l ⟨x,b,c,g,d⟩=>?_;obtain⟨i,rfl,q⟩:=d;obtain⟨t,rfl⟩:=g;show⟨b0 i,b,c,.int i t,q⟩
abbrev zF(X:Cx)(r:V->Option Int->Option Int->Hp->VK->Prop):Prop:=
 ∀(Dn:jw)(s:ZZ)(σ:St)(H:Hp)(x:V)(v b c:Value)(lo hi:Option Int)(a:Addr)(Q:VK),Inv X Dn σ H s->Æ x v->s.heap.IsSliceOf a b c .none->IsPart b lo->IsPart c hi->r x lo hi H Q->
  ∃T id,xx (.type T) "__getitem__"=pure (b0<|.builtin id)/\s.TypeIs v T/\Ç (Å X.prog X.w) X.A (ju v<|.ref a) (EP X Dn σ Q) X.xe s
abbrev a5n(r:V->Option Int->Option Int->Hp->VK->Prop)(te:TE)(tl th:TO):TE:=λσ H Q=>te σ H λx a=>tl σ a λl b=>th σ b λu c=>r x l u c Q
def a5j{lo:Option Expr}(K:zF X r)(B:PE X e te)(G:PO X lo tl)(M:PO X hi th):PE X (.Subscript e (.Slice lo hi b5 p2) pos) (a5n r te tl th):=by intro a s d H Q I h;show KR<|aP (B a s d H _ I h) λv s1 ⟨x,n,p,Z,R⟩=>?_;show wpAny_Slice<|aP (G a s1 d n _ p R) λg s2 ⟨l,o,w,N,U⟩=>aP (M a s2 d o _ w U) λi c ⟨u,j,y,O,Y⟩=>?_;rw[evalPart_none];show Z3 ?_;have z:Inv X a d j {c with heap:=c.heap.push {cls:=.type "slice",data:=.fields #[g,i,.none]}}:=y.kept (t':=c.toks) λb ob q=>Z1 _ q;obtain⟨T,id,A,L,E⟩:=K a {c with heap:=c.heap.push {cls:=.type "slice",data:=.fields #[g,i,.none]}} d j x v g i l u c.heap.objs.size Q z Z (Q5 ..) N O Y;change Ç (Å X.prog X.w) X.A (Ka e (.Slice lo hi b5 p2) v<|.ref c.heap.objs.size) (EP X a d Q) X.xe {c with heap:=c.heap.push {cls:=.type "slice",data:=.fields #[g,i,.none]}};show La (ops:=[.ref c.heap.objs.size,v]) L A E<|by with_unfolding_all rfl
abbrev mG(xs:gz)(lo hi:Option Int):gz:=(xs.drop<|HT.sIx xs.length 0 lo).take<|HT.sIx xs.length xs.length hi-HT.sIx xs.length 0 lo
def a5c xs lo hi:(mG xs lo hi).length<=xs.length:=by unfold mG;rw[Ġ,Λ];lia
abbrev gY(n:Nat)(i:Int):Option Nat:=if 0<=i then(if i<n then b0 i.toNat else b5)else if -(n:Int)<=i then b0 (i+n).toNat else b5
abbrev atI{a:Type}(xs:List a)(i:Int):Option a:=(gY xs.length i).bind λj=>xs[j]?
def Dv(h:gY n i=b0 j):xj i n=b0 j/\j<n/\-(n:Int)<=i/\i<n:=by
 unfold gY at h;by_cases b:0<=i
 .rw[if_pos b]at h;by_cases a:i<n
  .rw[if_pos a]at h;have e:i.toNat=j:=ñ h;show⟨by rw[Lj b a,e],by lia,by lia,a⟩
  .rw[if_neg a]at h;cases h
 .rw[if_neg b]at h;by_cases a:-(n:Int)<=i
  .rw[if_pos a]at h;have e:(i+n).toNat=j:=ñ h;show⟨by rw[Ls ⋯ a,e],by lia,a,by lia⟩
  .rw[if_neg a]at h;cases h
def zG{xs:List a}{v:a}(h:atI xs i=b0 v):∃j,xj i xs.length=b0 j/\xs[j]?=b0 v/\j<xs.length/\-(xs.length:Int)<=i/\i<xs.length:=by
 unfold atI at h;cases e:gY xs.length i with
 |none=>rw[e]at h;cases h|some j=>rw[e]at h;obtain⟨b,c,d,g⟩:=Dv e;show⟨j,b,h,c,d,g⟩
abbrev zH(b:Expr):Prop:=∀o i,KP b dI o i=operate [o,i] (ju o i)
abbrev bf(X:Cx)(r:R2):Prop:=
 ∀(b a:Expr)(Dn:jw)(s:ZZ)(σ:St)(H:Hp)(x y:V)(v u:Value)(Q:VK),Inv X Dn σ H s->Æ x v->Æ y u->r x y H Q->
  KP a dI v u=operate [v,u] (ju v u)->Ç (Å X.prog X.w) X.A (Ka b a v u) (EP X Dn σ Q) X.xe s
abbrev a5Z(X:Cx)(id:String)(r:V->gz->Hp->VK->Prop):Prop:=
 ∀(Dn:jw)(s:ZZ)(σ:St)(H:Hp)(x:V)(xs:gz)(v:Value)(us:gw)(Q:VK),Inv X Dn σ H s->Æ x v->Á xs us->r x xs H Q->
  Ç (Å X.prog X.w) X.A (call (.builtin id)<|v::us) (EP X Dn σ Q) X.xe s
def bf.or(h:bf X r)(h':bf X i):bf X (λx y H Q=>r x y H Q\/i x y H Q):=by
 intro d c e s n H x y v u Q I j l q g;rcases q with q|q
 .show h d c e s n H x y v u Q I j l q g
 .show h' d c e s n H x y v u Q I j l q g
def a5Y(j:bf X r)(g:PE X a ta)(i:PE X b tb)(l:zH b):PE X (.Subscript a b pos) (r8 r ta tb):=by intro c s w H Q I h;show KR<|yR g i I h λv u p x y d e n o q=>j a b c p w d x y v u Q e n o q<|l _ _
abbrev Dw(K:ZV):R2:=λx y H Q=>∃p xs i v,x=.ref p/\y=.int i/\ê K H p xs/\atI xs i=b0 v/\Q v H
abbrev Dx(K:ZV):R2:=λx y H Q=>∃p xs i v,x=.ref p/\y=.int i/\Ó K H p xs/\atI xs i=b0 v/\Q v H
abbrev Dy:R2:=λx y H Q=>∃z i c,x=.str z/\y=.int i/\z.length<=Z7/\atI z.cps.toList i=b0 c/\Q (.str ⟨#[c]⟩) H
def Ϲ:bf X (Dw X.K):=by
 intro A o c s K H x y v u Q I U Y h G;obtain⟨p,xs,i,z,rfl,rfl,T,O,q⟩:=h;cases U;obtain⟨t,rfl⟩:=Y;obtain⟨g,r,l,hz⟩:=I.list T;obtain⟨j,d,L,h3,M,N⟩:=zG O;obtain⟨w,B,n⟩:=r.get L;have R:=r.length;have hn:=mF;have fin:EP X c K Q w s:=⟨z,H,I,n,q⟩;by_cases E:0<=i
 .have e:i.toNat=j:=by rw[Lj E N]at d;show ñ d
  show item_listR l.isList E ⋯ (by rw[e];simpa using B) fin G
 .have e:(i+(g.toArray.size:Int)).toNat=j:=by rw[Ls ⋯ M]at d;rw[Z5,<- R];show ñ d
  show Ox (x:=w) l.isList.typeIs MR.lookup
   (wpAny_getItem_list_neg (Q:=λr Z=>r=w/\EP X c K Q r Z) l.isList ⋯ (by rw[Z5]<;>lia) ⋯ (by rw[e];simpa using B) ⟨rfl,fin⟩) G
def ji:bf X (Dx X.K):=by
 intro g e c s n H x y v u Q I N O h L;obtain⟨p,xs,i,z,rfl,rfl,K,E,q⟩:=h;cases N;obtain⟨t,rfl⟩:=O;obtain⟨M,r,l,hz⟩:=I.tuple K;obtain⟨j,A,B,T,U,Y⟩:=zG E;obtain⟨w,o,d⟩:=r.get B;have G:=r.length;have Z:=mF;have fin:EP X c n Q w s:=⟨z,H,I,d,q⟩;show Ox (x:=w) l.typeIs slot_tuple_getitem.lookup
  (getItem_tuple (j:=j) (Q:=λr R=>r=w/\EP X c n Q r R) l ⋯ ⋯ (by rw[Z5,<- G];show A) (by simpa using o) ⟨rfl,fin⟩) L
def a5V:bf X Dy:=by
 intro e d l s R H x y v u Q I G K h E
 obtain ⟨z,i,c,rfl,rfl,N,A,q⟩:=h
 obtain ⟨t,rfl⟩:=G
 obtain ⟨O,rfl⟩:=K
 obtain ⟨j,g,p,L,r,w⟩:=zG A
 have B:z.cps.toList.length=z.length:=by simp [Str.length]
 rw [B] at g r w
 have M:=mF
 show La (typeIs_str s z t) slot_str_getitem.lookup (getItem_str (c:=c) (by
  have n:decide (i < -(2 ^ 63:Int))=false:=decide_eq_false<|by lia
  have o:decide (i >= 2 ^ 63)=false:=decide_eq_false<|by lia
  rw [n,o,Kw]) (by rw [g];simpa using p) ⟨.str ⟨#[c]⟩,H,I.tok _,⟨_,rfl⟩,q⟩) E
abbrev Dz (K:ZV):R2:=fun x y H Q=>Dw K x y H Q\/Dx K x y H Q\/Dy x y H Q
def a5U:bf X (Dz X.K):=Ϲ.or<|ji.or a5V
def a5O(its:gw)n j u:a1i (·.setIfInBounds j u) {cls:=.type "list",data:=.seq its.toArray n}={cls:=.type "list",data:=.seq (its.set j u).toArray n}:=by simp[a1i]
def Inv.lst{X:Cx}{Dn:jw}{σ:St}{H:Hp}{s:ZZ}{p:Addr}{xs:gz}(I:Inv X Dn σ H s)(h:H p=b0 (.lst xs)) :
  ∃(its:gw)(n:Nat),Á xs its/\s.heap.get? p=b0 {cls:=.type "list",data:=.seq its.toArray n}/\xs.length<=Z7:=by
 obtain⟨z,its,n,r,e⟩:=I.hok p _ h;show⟨its,n,r,e,z⟩
def Inv.lstUpd{σ:St}{its:gw}(I:Inv X Dn σ H s)(h:H p=b0 (.lst xs))(j:s.heap.get? p=b0 {cls:=.type "list",data:=.seq its.toArray n})(g:f {cls:=.type "list",data:=.seq its.toArray n}={cls:=.type "list",data:=.seq its'.toArray c})(r:Á d its')(hz:d.length<=Z7)t:
  Inv X Dn σ (upd H p<|.lst d) {s with heap:=s.heap.update p f,toks:=t}:=by
 have e:(s.heap.update p f).get? p=b0 {cls:=.type "list",data:=.seq its'.toArray c}:=by rw[Κ f j<|by rw[g]<;>rfl,g]
 show I.write (x:=p) (e:=p) (by rw[h];trivial) (.inl rfl) (λb u i q=>(Μ _ _<|ó i).trans q) ⟨_,e⟩ ?_;show⟨hz,its',c,r,e⟩
abbrev zI:V->V->V->Hp->(Hp->Prop)->Prop:=λo i v H Q=>∃p xs k j,o=.ref p/\i=.int k/\H p=b0 (.lst xs)/\gY xs.length k=b0 j/\Q (upd H p<|.lst<|xs.set j v)
def a4V:b0x X zI:=by
 intro e s O H o i v Y U u Q I L K M h;obtain⟨p,N,k,j,rfl,rfl,B,E,q⟩:=h;cases L;obtain⟨t,rfl⟩:=K;obtain⟨c,n,r,w,G⟩:=I.lst B;obtain⟨d,R,z,A⟩:=Dv E;have l:=r.length;have T:=mF;have x:Inv X e O (upd H p<|.lst<|N.set j v) {s with heap:=s.heap.update p<|a1i (·.setIfInBounds j u)}:=
  I.lstUpd B w (a5O c n j u) (r.set M j) (by rw[ξ];show G) s.toks
 by_cases y:0<=k
 .have g:k.toNat=j:=by rw[Lj y A]at d;show ñ d
  show PySem.W.ki_setAt w y ⋯ (by rw[Z5,<- l];show A)<|by rw[g];show⟨_,x,q⟩
 .have g:(k+(c.toArray.size:Int)).toNat=j:=by rw[Ls ⋯ z]at d;rw[Z5,<- l];show ñ d
  show PySem.W.ki_setBack w ⋯ (by rw[Z5,<- l];show z) ⋯<|by rw[g];show⟨_,x,q⟩
def a4Q lo c n:(Ϩ lo c b5 n).1=((HT.sIx n 0 lo:Nat):Int)/\(Ϩ lo c b5 n).2.1=((HT.sIx n n c:Nat):Int)/\(Ϩ lo c b5 n).2.2=1:=by
 show⟨?_,?_,rfl⟩
 .cases lo with
  |none=>simp[Ϩ,HT.sIx]|some i=>
   simp only[Ϩ,HT.sIx,LG,show(1:Int)>0 by decide,if_true];by_cases h:i<0
   .simp only[h,if_true]<;>lia
   .simp only[h,if_false]<;>lia
 .cases c with
  |none=>simp[Ϩ,HT.sIx]|some i=>
   simp only[Ϩ,HT.sIx,LG,show(1:Int)>0 by decide,if_true];by_cases h:i<0
   .simp only[h,if_true]<;>lia
   .simp only[h,if_false]<;>lia
def a4P(its:gw)lo c:KL its.toArray lo c b5=((its.drop<|HT.sIx its.length 0 lo).take<|HT.sIx its.length its.length c-HT.sIx its.length 0 lo).toArray:=by obtain⟨d,e,g⟩:=a4Q lo c its.toArray.size;unfold KL;rw[d,e,g];simp only[sliceRange_one,pick_run,Z5]<;>rfl
abbrev zJ(K:ZV):V->Option Int->Option Int->Hp->VK->Prop:=λx lo c H Q=>∃a xs,x=.ref a/\ê K H a xs/\∀p,H p=b5->Q (.ref p) (upd H p<|.lst<|mG xs lo c)
def a8A:zF X (zJ X.K):=by intro j s G H x v B E e g A Q I y l u w h;obtain⟨a,c,rfl,n,q⟩:=h;cases y;obtain⟨p,r,i,o⟩:=I.list n;have d:=r.length;show⟨"list",_,MR.lookup,i.isList.typeIs,?_⟩;show Oj i.isList l u w .none (by simp) ?_ (by rw[Z5]<;>lia);rw[a4P,<- d];show⟨.ref s.heap.objs.size,_,I.laid (t':=s.toks) (o:=.lst (mG c e g)) (λb z q=>Z1 _ q) (Z2 _) ?_,rfl,q _<|I.hok.fresh<|Z2 _⟩;show⟨ė (a5c c e g) o,_,0,(r.drop<|HT.sIx c.length 0 e).take<|HT.sIx c.length c.length g-HT.sIx c.length 0 e,Ă _ rfl⟩
def DA:ÿ X (Ĥ .NotIn) (λx y H Q=>∃i j,x=.str i/\y=.str j/\Q (.bl<|!(!(ig j i 0 j.length 1).isEmpty)) H):=by intro c s l H x y v u Q I d e h;obtain⟨i,j,rfl,rfl,q⟩:=h;obtain⟨t,rfl⟩:=d;obtain⟨g,rfl⟩:=e;show notIn_str ⟨.bl _,H,I,rfl,q⟩
def ŗ:Î X (.builtin "len") (λxs H Q=>∃p d,xs=[.ref p]/\(ê X.K H p d\/Ó X.K H p d)/\Q (.int d.length) H):=by
 intro l s x H xs w Q I r h;obtain⟨p,d,rfl,e,q⟩:=h;obtain⟨u,rfl,o⟩:=fM r;cases o;have v:=mF;rcases e with e|e
 .obtain⟨g,j,i,n⟩:=I.list e;have c:=j.length;show Calls.call_len_list i.isList (by simp only[Z5]<;>lia) ⟨.int d.length,H,I.tok _,⟨s.toks+1,by rw[Z5,c]⟩,q⟩
 .obtain⟨g,j,i,n⟩:=I.tuple e;have c:=j.length;show len_tuple i (by simp only[Z5]<;>lia) ⟨.int d.length,H,I.tok _,⟨s.toks+1,by rw[Z5,c]⟩,q⟩
def a7z:Î X (.builtin "len") (λxs H Q=>∃z,xs=[.str z]/\z.length<=Z7/\Q (.int z.length) H):=by intro c s i H xs g Q I r h;obtain⟨z,rfl,e,q⟩:=h;obtain⟨u,rfl,t,rfl⟩:=fM r;have d:=mF;show len_str ⋯ ⟨.int z.length,H,I.tok _,⟨_,rfl⟩,q⟩
def Î.or(h:Î X f r)(h':Î X f d):Î X f (λxs H Q=>r xs H Q\/d xs H Q):=by
 intro c s i H xs g Q I e q;rcases q with q|q
 .show h c s i H xs g Q I e q
 .show h' c s i H xs g Q I e q
def Ŗ:Î X (.type "list") (λxs H Q=>∃p d,xs=[.ref p]/\(ê X.K H p d\/Ó X.K H p d)/\∀l,H l=b5->Q (.ref l) (upd H l<|.lst d)):=by
 intro w s B H xs E Q I r h;obtain⟨p,d,rfl,i,q⟩:=h;obtain⟨u,rfl,A⟩:=fM r;cases A;have fin:∀(its:gw),Á d its->d.length<=Z7->∀(h':ç)(c':Nat),(∀b z,s.heap.get? b=b0 z->h'.get? b=b0 z)->
   h'.get? s.heap.objs.size=b0 {cls:=.type "list",dict:=b5,data:=.seq its.toArray c',slots:=#[]}->EP X w B Q (.ref s.heap.objs.size) {s with heap:=h'}:=λits c j h' c' v e=>
  ⟨.ref s.heap.objs.size,_,I.laid (t':=s.toks) v (Z2 _)<|show Ì X.prog X.w _ h' _ (.lst d)from⟨j,its,c',c,e⟩,rfl,q _<|I.hok.fresh<|Z2 _⟩
 rcases i with i|i
 .obtain⟨its,c,y,j⟩:=I.list i;have g:=c.length;obtain⟨o,x,hc,n,hd⟩:=y.isList;show call_list_seq p (.inl rfl) x hc hd (λh' c' v e=>fin its c j h' c' v e)<|by simp only[Z5]<;>lia
 .obtain⟨its,c,y,j⟩:=I.tuple i;have g:=c.length;obtain⟨o,x,hc,n,hd⟩:=y;show call_list_seq p (.inr rfl) x hc hd (λh' c' v e=>fin its c j h' c' v e)<|by simp only[Z5]<;>lia
def a7y:Î X (.type "tuple") (λxs H Q=>∃p d,xs=[.ref p]/\((ê X.K H p d/\∀l,H l=b5->Q (.ref l) (upd H l<|.tup d))\/(Ó X.K H p d/\Q (.ref p) H))):=by
 intro g s z H xs G Q I r h;obtain⟨p,d,rfl,h⟩:=h;obtain⟨u,rfl,E⟩:=fM r;cases E;rcases h with⟨j,q⟩|⟨j,q⟩
 .obtain⟨c,v,n,y⟩:=I.list j;have x:=v.length;show call_tuple_list n.isList (λi B=>?_) (by simp only[Z5]<;>lia);have w:Inv X g z H {s with heap:=i}:=I.kept (t':=s.toks) B;have A:Inv X g z (upd H i.objs.size<|.tup d) {s with heap:=i.push {cls:=.type "tuple",data:=.seq c.toArray}}:=
   w.laid (t':=s.toks) (λb o e=>Z1 _ e) (Z2 _)<|show Ì X.prog X.w _ _ _ (.tup d)from⟨y,c,v,ž.new _ _⟩
  show⟨.ref i.objs.size,_,A,rfl,q _<|w.hok.fresh<|Z2 _⟩
 .obtain⟨c,v,n,y⟩:=I.tuple j;show call_tuple_same n ⟨.ref p,H,I,rfl,q⟩
abbrev zK(K:ZV)(T:String)(x:V)(H:Hp):Prop:=match x with
 |.str _=>T="str"|.int _=>T="int"|.ref p=>(T="list"/\∃d,ê K H p d)\/(T="tuple"/\∃o,K.lookup p=b0 o/\o.cls=.type "tuple"/\o.dict=b5) \/
   (T="dict"/\((∃c,H p=b0 (.dK c))\/∃c,H p=b0 (.dT c)))\/(T="set"/\∃S n,H p=b0 (.set S n))
 |_=>False
def a7w{σ:St}(I:Inv X Dn σ H s)(r:Æ x v)(ty:zK X.K T x H):
  s.TypeIs v T/\∀a,v=.ref a->∃l,s.heap.get? a=b0 l/\l.dict=none:=by
 cases x with
 |str z=>obtain⟨t,rfl⟩:=r;cases(show T="str" from ty);show⟨typeIs_str s z t,λ_ e=>nomatch e⟩|int i=>obtain⟨t,rfl⟩:=r;cases(show T="int" from ty);show⟨typeIs_int s i t,λ_ e=>nomatch e⟩|ref p=>
  cases r;rcases ty with⟨rfl,A,w⟩|⟨rfl,o,d,hc,hd⟩|⟨rfl,d⟩|⟨rfl,S,n,d⟩
  .obtain⟨y,_,u,_⟩:=I.list w;show⟨u.isList.typeIs,λa e=>?_⟩;cases e;obtain⟨o,n,e,c,hd,_⟩:=u;show⟨o,e,hd⟩
  .show⟨⟨o,I.kIn p o d,hc⟩,λa e=>?_⟩;cases e;show⟨o,I.kIn _ o d,hd⟩
  .have z:∃o,s.heap.get? p=b0 o/\o.ExactDict:=by
    rcases d with⟨j,d⟩|⟨j,d⟩
    .obtain⟨_,_,_,_,o,_,_,e,g,_⟩:=I.hok p _ d;show⟨o,e,g⟩
    .obtain⟨_,_,_,_,o,_,_,e,g,_⟩:=I.hok p _ d;show⟨o,e,g⟩
   obtain⟨o,e,g⟩:=z;show⟨⟨o,e,g.1⟩,λa h=>?_⟩;cases h;show⟨o,e,g.2.1⟩
  .obtain⟨o,_,_,_,e,g,_⟩:=I.hok p _ d;show⟨⟨o,e,g.1⟩,λa h=>?_⟩;cases h;show⟨o,e,g.2.1⟩
 |_=>show Θ ty
abbrev DB(K:ZV)(T:String)(r:V->gz->Hp->VK->Prop)(to:TE)(t:TA):TE:=λσ H Q=>to σ H λx c=>zK K T x c/\t σ c λxs d=>r x xs d Q
def a7k{id:String}(O:PlainAttrs T)(l:Slot T name id)(n:K4 (.builtin id)=pure (.type "method_descriptor"))(L:a5Z X id r)(M:PE X o to)(K:PA X (e::es) t)(g:lz o name X.env (eval o X.env)=eval o X.env:=by rfl)(j:((ĸ cpos (æ (e::es) X.env)).all (λx=>!x.1)&&(xm cpos (yg [] X.env)).all (λx=>x.1.isSome)
   && decide ((e::es).length+([]:List Ζ).length+(if([]:List Ζ).isEmpty then 0 else 1)<30))=true:=by rfl)(i:(apos.endLine==cpos.line)=true:=by rfl)(N:æ (e::es) X.env=(dI,eval e X.env)::æ es X.env:=by rfl)(c:(ĸ cpos (æ es X.env)).any (·.1)=false:=by rfl):
  PE X (.Call (.Attribute o name apos) (e::es) [] cpos) (DB X.K T r to t):=by
 intro d s p H Q I h;show Oy g j i rfl (aP (M d s p H _ I h) λv Z ⟨x,z,u,y,ty,R⟩=>?_);obtain⟨E,G⟩:=a7w u y ty;show⟨T,id,O,l,n,E,G,?_⟩;have w:=K cpos d Z p z _ u R;rw[N]at w ⊢;show LJ (by change(dI||(ĸ cpos (æ es X.env)).any (·.1))=dI;rw[c]<;>rfl) (Pd ?_);show aP w λus s2 ⟨vs,A,B,Y,U⟩=>L d s2 p A x vs v us Q B y Y U
abbrev jC(X:Cx)(id:String)(r:V->gz->Hp->VK->Prop):Prop:=
 ∀(Dn:jw)(s:ZZ)(σ:St)(H:Hp)(x:V)(xs:gz)(v:Value)(us:gw)(Q:VK),Inv X Dn σ H s->Æ x v->Á xs us->r x xs H Q->
  Ç (Å X.prog X.w) X.A (call (.builtin id)<|v::us) (EP X Dn σ Q) X.xe s
def Á.one(h:Á [x] us):∃u,us=[u]/\Æ x u:=by
 cases h with
 |cons r t=>cases t;show⟨_,rfl,r⟩
def Á.two(h:Á [x,y] us):∃u v,us=[u,v]/\Æ x u/\Æ y v:=by
 cases h with
 |cons r t=>obtain⟨v,rfl,q⟩:=Á.one t;show⟨_,v,rfl,r,q⟩
def Á.eraseIdx:∀{xs}{us}i,Á xs us->Á (xs.eraseIdx i) (us.eraseIdx i)
 |_,_,_,.nil=>.nil|_,_,0,.cons _ t=>t|_,_,i+1,.cons r t=>.cons r<|Á.eraseIdx i t
def DC{a:Type}:∀(l:List a)i,(l.eraseIdx i).length<=l.length
 |[],_=>Z2 _|_::_,0=>m8 _|_::r,i+1=>Nat.succ_le_succ<|DC r i
def Inv.lset{σ:St}{its:gw}(I:Inv X Dn σ H s)(a:H l=b0 (.lst xs))(e:s.heap.get? l=b0 {cls:=.type "list",data:=.seq its.toArray n})(d:f its.toArray=its'.toArray)(h:Á ys its')(hz:ys.length<=Z7):
  Inv X Dn σ (upd H l<|.lst ys) {s with heap:=s.heap.update l<|a1i f,toks:=t'}:=by
 have q:=PySem.IsL.update e f;rw[d]at q;show I.write (x:=l) (e:=l) (by rw[a];show trivial) (.inl rfl) (λi u c g=>(Μ s.heap (a1i f)<|ó c).trans g) ⟨_,q⟩ ?_;show⟨hz,its',_,h,q⟩
def Inv.lnew{σ:St}(I:Inv X Dn σ H s)(a:Á ys its)(hz:ys.length<=Z7):
  Inv X Dn σ (upd H s.heap.objs.size<|.lst ys) {s with heap:=s.heap.push {cls:=.type "list",data:=.seq its.toArray},toks:=t'}:=
 I.laid (λ_ _ q=>Z1 _ q) (Z2 _) ⟨hz,its,0,a,Ă _ rfl⟩
def Inv.fresh{σ:St}(I:Inv X Dn σ H s):H s.heap.objs.size=none:=I.hok.fresh<|Z2 _
def Inv.lstM{σ:St}(I:Inv X Dn σ H s)(a:H l=b0 (.lst xs)):xs.length<=Z7/\∃(its:gw)(n:Nat),Á xs its/\xs.length=its.length/\s.heap.get? l=b0 {cls:=.type "list",data:=.seq its.toArray n}:=by obtain⟨z,its,n,r,e⟩:=I.hok l _ a;show⟨z,its,n,r,r.length,e⟩
def a7Y(h:n<=Z7):Mx n=false:=by unfold Mx;show decide_eq_false<|by lia
abbrev DD:V->gz->Hp->VK->Prop:=λx vs H Q=>∃l xs y,x=.ref l/\vs=[y]/\H l=b0 (.lst xs)/\xs.length<Z7/\Q .non (upd H l<|.lst<|xs++[y])
def DE:jC X "list.append" DD:=by intro c s B H x w v p Q I i g h;obtain⟨l,A,y,rfl,rfl,b,o,q⟩:=h;cases i;obtain⟨u,rfl,d⟩:=g.one;obtain⟨z,a,n,r,j,e⟩:=I.lstM b;show qt F.slot_list_append ⟨_,e,rfl⟩ F.entry_list_append (F.args_list_append_2 _ _) (PySem.list_append l a.toArray n u<|by rw[Z5];lia) ⟨e,?_⟩;show⟨.non,_,I.lset (its':=a++[u]) b e (by simp) (r.append<|.cons d .nil) ?_,rfl,q⟩;rw[Z4,Ms];lia
abbrev DF:V->gz->Hp->VK->Prop:=λx vs H Q=>∃l b xs a,x=.ref l/\vs=[.ref b]/\H l=b0 (.lst xs)/\H b=b0 (.lst a)/\xs.length+a.length<=Z7/\Q .non (upd H l<|.lst<|xs++a)
def a7X:jC X "list.extend" DF:=by
 intro j s U H x N v M Q I G E h;obtain⟨l,b,O,T,rfl,rfl,i,p,L,q⟩:=h;cases G;obtain⟨u,rfl,B⟩:=E.one;cases B;obtain⟨z,c,n,r,K,e⟩:=I.lstM i;obtain⟨R,a,y,A,w,o⟩:=I.lstM p;have g:c.toArray.size+a.toArray.size<=Z7:=by rw[Z5,Z5];lia
 have d:¬ (!c.toArray.isEmpty&&Mx (c.toArray.size+a.toArray.size))=true:=by rw[a7Y g,Bool.and_false];show Z6
 show qt F.slot_list_extend ⟨_,e,rfl⟩ F.entry_list_extend (F.args_list_extend_2 _ _)
  (AutoSeq1.list_extend_list_list_0 l c.toArray n b a.toArray y d (by rw[Z5];lia)<|by lia) ⟨e,o,?_⟩
 show⟨.non,_,I.lset (its':=c++a) i e (by simp) (r.append A) ?_,rfl,q⟩;rw[Z4];lia
abbrev DG:V->gz->Hp->VK->Prop:=λx vs H Q=>∃l xs i k y,x=.ref l/\vs=[.int i]/\H l=b0 (.lst xs)/\-(2^63)<=i/\i<2^63/\xj i xs.length=b0 k/\xs[k]?=b0 y/\Q y (upd H l<|.lst<|xs.eraseIdx k)
def a7V:jC X "list.pop" DG:=by
 intro d s N H x M v L Q I G E h;obtain⟨l,K,i,k,y,rfl,rfl,c,g,j,o,A,q⟩:=h;cases G;obtain⟨u,rfl,B⟩:=E.one;obtain⟨t,rfl⟩:=B;obtain⟨z,a,n,r,p,e⟩:=I.lstM c;obtain⟨w,hw,b⟩:=r.get A;show qt F.slot_list_pop ⟨_,e,rfl⟩ F.entry_list_pop (F.args_list_pop_2 _ _)
  (MeetsSeq.list_pop_at l a.toArray n i t k w (fitsIndex_both g j) (by rw[Z5,<- p];show o) (by rw[<- ϲ];show hw)<|by rw[Z5];lia) ⟨e,?_⟩
 show⟨y,_,I.lset (its':=a.eraseIdx k) c e ?_ (r.eraseIdx k) ?_,b,q⟩
 .change a.toArray.eraseIdxIfInBounds k=(a.eraseIdx k).toArray;rw[List.eraseIdxIfInBounds_toArray]
 .have:=DC K k;lia
abbrev DH:R2:=λx y H Q=>∃l b xs a,x=.ref l/\y=.ref b/\H l=b0 (.lst xs)/\H b=b0 (.lst a)/\xs.length+a.length<=Z7/\∀p,H p=b5->Q (.ref p) (upd H p<|.lst<|xs++a)
def a7O:ÿ X (υ .Add) DH:=by
 intro d s O H x y v u Q I A B h;obtain⟨l,b,L,N,rfl,rfl,o,j,G,q⟩:=h;cases A;cases B;obtain⟨z,c,n,r,E,e⟩:=I.lstM o;obtain⟨M,a,K,w,p,g⟩:=I.lstM j;show PySem.P.add_list e g ?_ (by rw[Z5,Z5];lia);have i:c.toArray++a.toArray=(c++a).toArray:=by simp
 rw[i];show⟨.ref _,_,I.lnew (t':=s.toks) (r.append w)<|by rw[Z4];lia,rfl,q _ I.fresh⟩
end L2
namespace Att
open PySem PySem.W PySem.Calls PyProof.Rows
def a7N:∀ns(vs:gw),WellAll P h vs (ns.map ud)->Ÿ vs ns:=by
 intro ns;induction ns with
 |nil=>intro vs w;rw[qx]at w;cases w;show .nil|cons n ns c=>
  intro vs w;rw[é]at w;cases w with
  |cons a b=>cases a;show .cons _ _<|c _ b
def script_of{l:OpenLaw}(y:l.most=b0 n){e:gw}(c:l.row.toRowW.claim.pre args=eA)(s:WellAll P h e args):
  ∃a u b,e=[Ð a]/\args=[WData.list<|b.map ud]/\h.get? a=b0 {cls:=.type "list",data:=.seq u.toArray}/\Ÿ u b/\b.length<=n:=by
 have p:WShape.hasAll [] args [.list .int]=true:=(pre_splitW c).1;have hc:l.pre.holds [] {args:=args}=true:=(pre_splitW c).2;obtain⟨d,r,rfl,v,w⟩:=hasAllW_cons p;obtain rfl:=hasAllW_nil w;obtain⟨G,rfl,x⟩:=hasW_list v;obtain⟨b,rfl⟩:=items_int x;have i:b.length<=n:=by
  unfold OpenLaw.pre at hc;have j:(WTm.not<|.lt (.lit<|.int (n:Int))<|.len<|.arg 0).holds [] {args:=[.list<|b.map .int]}=true:=by have j:=(holds_andW hc).1;rw[y]at j;show j
  have o:=condW_of j<|w_not<|w_lt w_lit<|w_len_list<|w_arg rfl;rw[ZT]at o;show zc λq=>?_;have A:(n:Int)<((b.length:Nat):Int):=by lia
  first
   |(rw[decide_eq_true A]at o;show absurd o<|by decide)|(simp at o;lia)
 cases s with
 |cons B E=>
  cases E;cases B with
  |list z g=>show⟨_,_,b,rfl,rfl,z,a7N b _ g,i⟩
def post_true(l:OpenLaw)args:l.row.toRowW.claim.post args (.bool eA) args=true:=
 postW_of (r:=l.row.toRowW) (X:=(eA==eA))
  (show NQ [] (.bool eA) .bool=eA by first|rfl|decide|simp[NQ,WShape.arms,WShape.armsAll])
  (show(WTm.eq .res<|.lit<|.bool eA).value [] {args:=args,res:=b0<|.bool eA,after:=args}=b0 (.bool<|eA==eA)from w_eq_bool (w_res rfl) w_lit) rfl
end Att
namespace L2
open PySem PySem.Spec PyProof.Rows
def DI:∀{vs:gw}{ns},Ÿ vs ns->Á (ns.map V.int) vs
 |_,_,.nil=>.nil|_,_,.cons n t h=>.cons ⟨t,rfl⟩<|DI h
abbrev DJ(H:Hp):Prop:=∀b,H b=b5\/∃o xs,H b=b0 (.frz o<|.lst xs)
def law_call{K:ZV}{vs:gw}(KX:K.In c.heap)(G:c.heap.Ns ř mg)(g:c.heap.Ns Lc Z)(U:∀x:Str,x ≠ "__name__"->Z x=Ż x)(E:c.heap.NoLimit)(hg:c.gens=#[])(O:c.heap.get? a=b0 {cls:=.type "list",data:=.seq vs.toArray})(hi:Ÿ vs ns)(hl:ns.length<=Z7)(hr:Ô k jt)(F:∀i,K.In i->i.Ns ř mg->ī P w K mg i CX k R fd [x] sp)(y:∀s u,jn s fd ⟨[u],[]⟩ [(x,u)])(Y:∀H,DJ H->ê K H a (ns.map V.int)->sp [.ref a] H (λv _=>v=.bl eA) λ_ _ _=>False)(T:∀H e j,CX [] H c (λ_ _ _=>False) e j->False):
  ź (Å P w) jt (.call (.ref R) ⟨[.ref a],[]⟩) (λr j=>r=.ok (.ret<|.bool eA)/\OldK c.heap j.heap/\j.os=c.os/\cj j.gens) c:=by
 have rv:=DI hi;have M:=hi.length
  -- from an abstract heap in which nothing but the script may be tracked
 have p:∀H:Hp,DJ H->ê K H a (ns.map V.int)->Ī P w H c.heap->(∀b,H b≠b5->b=a)->(H a≠b5->K.lookup a=b5)->
   ź (Å P w) jt (.call (.ref R) ⟨[.ref a],[]⟩) (λr j=>r=.ok (.ret<|.bool eA)/\OldK c.heap j.heap/\j.os=c.os/\cj j.gens) c:=by
  intro H hO hS I hA hK;have oJ:∀{b:Addr}{o:Obj},c.heap.get? b=b0 o->H b=b5->(k6 c.heap H).get? b=b0 o:=λe n=>a6t e n;have noA:∀{b:Addr}{o:Obj}{es:Array DictEntry}{ep:Nat},c.heap.get? b=b0 o->o.data=.dict es ep->H b=none:=λ{b o es ep} e d=>by
   cases q:H b with
   |none=>rfl|some u=>have Q:b=a:=hA b (by rw[q];simp);subst Q;rw[O]at e;cases e;have d':KN vs.toArray _=ϙ es ep:=d;cases d'
  have l:∀{b:Addr}{m:Str->Option Value},c.heap.Ns b m->(k6 c.heap H).Ns b m:=λ{b m} ⟨o,es,ep,e,d,r⟩=>⟨o,es,ep,oJ e<|noA e d,d,r⟩;have B:K.In (k6 c.heap H):=λb o e=>oJ (KX b o e)<|by
   cases q:H b with
   |none=>rfl|some u=>
    have Q:b=a:=hA b (by rw[q];simp);subst Q;rw[hK<|by rw[q];simp]at e;cases e
  have hM:Mod K mg (k6 c.heap H):=⟨B,l G,⟨Z,l g,U⟩,let⟨mc,h1,h2⟩:=E;⟨mc,l h1,h2⟩⟩;have e0:bj P w K mg (k6 c.heap H) jt [] c H:=⟨rfl,hM,λb o e=>a6s e,ym<|a7B _ _,trivial,λb g=>absurd (show b∈([]:List Addr)from g)<|by simp,I,.of_eq hg⟩;show Kf ((F _ B<|l G).run jt [] c H ⟨[.ref a],[]⟩ [.ref a] [.ref a] _ _ hr e0 (y c<|.ref a) (.cons rfl .nil)<|Y H hO hS) λr j h=>?_;cases r with
  |error e=>show(T H e j h).elim|ok fl=>
   cases fl with
   |next=>show Θ h|brk=>show Θ h|cont=>show Θ h|ret u=>
    obtain⟨v,H',os,A,un,L,r',q⟩:=h;have q':v=.bl true:=q;subst q';obtain rfl:u=Ů true:=r';show⟨rfl,OldK.of_keep λb o e=>?_,os,A⟩;cases q:H b with
    |none=>show un.keep b o e q (by intro z;show absurd (show b∈([]:List Addr)from z)<|by simp) (by simp)|some u=>
     rcases hO b with z|⟨ob,xs,z⟩
     .rw[q]at z;cases z
     .have z2:=un.frzs b ob _ z;obtain⟨e1,_⟩:=I b _ z;obtain⟨e2,_⟩:=L b _ z2;rw[e]at e1;cases e1;show e2
 cases X:K.lookup a with
 |some o=>-- the script is one of the module's own objects
  have e:=KX a o X;rw[O]at e;cases e;show p (λ_=>b5) (λ_=>.inl rfl) (.inr ⟨_,vs.toArray,_,X,rfl,rfl,rfl,by rw[Z5,M];show hl,by simpa using rv⟩) (λb u z=>by have N:(b5:Option HO)=b0 u:=z;cases N) (λb z=>absurd rfl z) λz=>absurd rfl z
 |none=>
  show p (λb=>if b=a then b0 (.frz {cls:=.type "list",data:=.seq vs.toArray}<|.lst<|ns.map V.int)else b5) (λb=>?_) (.inl<|.inr ⟨{cls:=.type "list",data:=.seq vs.toArray},if_pos rfl⟩) (λb u z=>?_) (λb z=>?_) λ_=>X
  .by_cases g:b=a
   .show .inr ⟨_,_,if_pos g⟩
   .show .inl<|if_neg g
  .by_cases g:b=a
   .have N:=(if_pos g).symm.trans z;cases N;subst g;show⟨O,by rw[ZT];show hl,vs,_,rv,O⟩
   .have N:=(if_neg g).symm.trans z;cases N
  .by_cases g:b=a
   .show g
   .show absurd (if_neg g) z
abbrev iJ(s:Stmt):Arguments:=match s with
 |.FunctionDef _ a _ _ _ _ _ _ _ _=>a|_=>{posonlyargs:=[],args:=[],vararg:=b5,kwonlyargs:=[],kw_defaults:=[],kwarg:=b5,defaults:=[]}
abbrev fN(s:Stmt):List Stmt:=match s with
 |.FunctionDef _ _ b _ _ _ _ _ _ _=>b|_=>[]
abbrev cG(s:Stmt):Ź:=match s with
 |.FunctionDef _ _ _ _ _ _ sc _ _ _=>sc|_=>{kind:=.function,names:=[],isGenerator:=dI,isCoroutine:=dI}
noncomputable abbrev gC:jW:=λ_ _ _ _ _ _=>False
noncomputable abbrev E0:XK:=λ_ _ _=>False
def DK:uS gC X E0:=λ_ _ _ _ _ _ _ h=>h.elim
structure ϑ(K:ZV)(x qual:Str)(st:Stmt)(f:Addr)(fd:my):Prop where
 ex:∃(oc:Value)(od:Option Addr)(dV kV doc pm:Value)(an:Option Addr)(cdv ct:Value)(osl:Array (Option Value)),
  fd=δ x qual (iJ st) (fN st) (cG st) dV kV doc pm an cdv ct/\K.lookup f=b0 ⟨oc,od,.func fd,osl⟩/\L8 K cdv qual=eA
 kp:Ϛ K (.ref f)=eA
def ϑ.ok{K:ZV}{st:Stmt}(F:ϑ K x a st f g)(S:Ĕ N ps (cG st))(len:∀vs H Q E,sp vs H Q E->vs.length=ps.length)(c:∀b A outer s H(vs:gz)Q E,Ô k (A.deeper<|envOfC a (cG st) s.heap.objs.size f b)->sp vs H Q E->
   ∃t,Ņ (k7 gC P w K mg base N a (cG st) f b A outer s H E).nox (fN st) t/\t {nx:=λ_ i=>Q .non i,rt:=Q} (start N vs) H):ī P w K mg base gC (k+1) f g ps sp:=by
 obtain⟨r,u,p,kV,j,v,o,b,ct,n,rfl,lk,d⟩:=F.ex;show LwI lk d S len λA outer s H vs Q E l e=>?_;obtain⟨t,h,q⟩:=c b A outer s H vs Q E l e;show⟨t,h.nox,q⟩
def a7E{K:ZV}{st:Stmt}{kV:Value}(l:K.lookup f=b0 ⟨i,j,.func<|δ x a (iJ st) (fN st) (cG st) g kV d h an b ct,e⟩)(c:L8 K b a=eA)(k:Ϛ K (.ref f)=eA):ϑ K x a st f (δ x a (iJ st) (fN st) (cG st) g kV d h an b ct):=⟨⟨i,j,g,kV,d,h,an,b,ct,e,rfl,l,c⟩,k⟩
def DL(a:Ô k A):A.units+1<â:=OF (P8 (by decide:1<=64) _) a.units
def pv i(b:X.N[i]?=b0 x:=by rfl)(c:nX X.env.scope x:=by first|show jm rfl|show J3 (jm rfl)|show J3<|J3 rfl)(hd:(x==("__debug__":Str))=false:=by decide)(a:(x==("__classdict__":Str))=false:=by decide):PE X (.Name x pos) (yL i):=CW b c hd a
def Χ:Î X (.builtin "len") (λxs H Q=>∃a kvs,xs=[V.ref a]/\H a=b0 (.dK kvs)/\Q (.int kvs.length) H):=by intro c s j H xs i Q I r h;obtain⟨a,kvs,rfl,d,q⟩:=h;obtain⟨u,rfl,e⟩:=fM r;cases e;show a5o I (.inl d) λt g b=>⟨.int kvs.length,H,b,⟨t,rfl⟩,q⟩
def mH{A:Prop}(h:B):if dI=eA then A else B:=by rw[if_neg Z6];show h
def mI{A:Prop}(h:A):if eA=eA then A else B:=by rw[if_pos rfl];show h
section
variable{κ:Type} [DecidableEq κ]
end
end L2
namespace L3
open PySem PySem.W
def left_cut{Yf:ZZ → Q}{Ya:Ĉ → Q}{hA hB hC hD:ε → ç}(i:∀w,(fencedOpening ť p w N).map (λs=>(s.heap,s.gens,s.drawn,s.toks))=b0 (ϥ w.params,ö [],ĵ,xg))(size:∀w:Ĉ,((ϥ w.params).isNs ř,(ϥ w.params).objs.size,(ϥ w.params).nsMap ř "__annotations__")=(eA,b,g))(pre:∀w a,topGo ť p w b g v ⟨ϥ w.params,ö [],ĵ,xg,a⟩ (topStub p)=b0 (⟨hA w.params,ö [],ĵ,kA,a⟩,⟨denote ť<|.body (Ė p) env,.body (Ė p) env,G,[χ j]⟩))(y:∀w a,Do ť p w b g 1 l ⟨hA w.params,ö [],ĵ,kA,a⟩ (blockOf (Ė p) env (.body (Ė p) env) G [χ j])=b0 (.next,⟨hA w.params,ö [],ĵ,kA,a⟩,.body (Ė p) env,x))(s1:∀w a,Do ť p w b g 1 n ⟨hA w.params,ö [],ĵ,kA,a⟩ (kh ((Ė p).take i1) env (.body (Ė p) env) x [χ j])=b0 (.next,⟨hB w.params,ö [],ĵ,A,a⟩,.body (Ė p) env,H))(s2:∀w a,Do ť p w b g 1 o ⟨hB w.params,ö [],ĵ,A,a⟩ (kh (((Ė p).drop i1).take i2) env (.body (Ė p) env) H [χ j])=b0 (.next,⟨hC w.params,ö [],ĵ,B,a⟩,.body (Ė p) env,I))(s3:∀w a,Do ť p w b g 1 u ⟨hC w.params,ö [],ĵ,B,a⟩ (kh ((((Ė p).drop i1).drop i2).take i3) env (.body (Ė p) env) I [χ j])=b0 (.next,⟨hD w.params,ö [],ĵ,E,a⟩,.body (Ė p) env,K))(fin:∀w a,((topRun ť p w b g n4 ⟨hD w.params,ö [],ĵ,E,a⟩<|restOf ((((Ė p).drop i1).drop i2).drop i3) env (.body (Ė p) env) K [χ j]).bind λc=>match staticsOk (NG p.main.body) (ϥ w.params) c.heap&&namesBound p c.heap&&gensDone c&&laidKept (ϥ w.params) c.heap with
   |true=>b0 c
   |false=>b5).map (λs=>(openSeen q loose (NG p.main.body) Xt z s,Yf s))=b0 (openGood q loose,Ya w))(le:Nat.ble (v+(l+(n+(o+(u+n4))))) N=eA):LeftO p q loose Xt Yf Ya N z:=λw=>by
 obtain⟨⟨h,T,d,k,a⟩,e,R⟩:=ZX.mp<|i w;obtain⟨rfl,rfl,rfl,rfl⟩:h=ϥ w.params ∧ T=ö [] ∧ d=ĵ ∧ k=xg:=by simpa using R
 obtain⟨z1,z2,z3⟩:_ ∧ _ ∧ _:=by simpa only[Prod.mk.injEq]using size w
 obtain⟨s,Y,Z⟩:=ZX.mp<|fin w a;obtain⟨c,U,X⟩:=ZS.mp Y;have O:=Li (s3 w a) U;rw[ŵ]at O;have M:=Li (s2 w a) O;rw[ŵ]at M;have L:=Li (s1 w a) M;rw[ŵ]at L;have r0:=go_top (pre w a)<|piece_block (y w a) L;have r:=topRun_mono (N-(v+(l+(n+(o+(u+n4)))))) _ _ _ _ r0;rw[show v+(l+(n+(o+(u+n4))))+(N-(v+(l+(n+(o+(u+n4))))))=N by have:=Nat.le_of_ble_eq_true le;lia]at r;have t:topFrom ť p w N ⟨ϥ w.params,ö [],ĵ,xg,a⟩=b0 s:=by unfold topFrom;dsimp only;rw[z1,z2,z3,r];show X
 unfold openEnds;rw[e];change(topFrom ť p w N _).map _=_;rw[t];show congrArg b0 Z
end L3
namespace Lw
open PySem L2
abbrev aI(i:Nat):Stmt:=M2.main.body.getD i<|.Pass ⟨0,0,0,0⟩
abbrev pQ(i j:Nat):Stmt:=match aI i with|.ClassDef _ _ _ b _ _ _ _ _ _ _=>b.getD j (.Pass ⟨0,0,0,0⟩)|_=>.Pass ⟨0,0,0,0⟩
abbrev Vw:ĥ:={M2 with main:={M2.main with body:=aI 1::aI 2::aI 3::aI 4::aI 5::aI 6::aI 8::aI 9::aI 10::aI 11::aI 12::aI 13::aI 14::aI 15::aI 16::aI 17::aI 18::aI 19::aI 20::aI 21::aI 22::aI 24::aI 25::aI 26::aI 27::aI 28::aI 29::aI 30::aI 31::aI 32::aI 33::aI 34::aI 35::aI 37::aI 39::aI 40::aI 41::aI 42::aI 44::aI 45::aI 46::aI 47::aI 48::aI 50::aI 51::aI 52::aI 53::aI 54::aI 55::aI 56::aI 57::aI 58::aI 59::aI 60::aI 61::aI 62::aI 63::aI 65::aI 66::aI 67::aI 68::aI 69::aI 71::aI 72::aI 73::aI 74::aI 75::aI 76::aI 77::aI 78::aI 79::aI 80::aI 81::aI 82::aI 83::aI 84::aI 85::aI 86::[]}}
noncomputable abbrev vS(x:String)(n:Nat):Value:=lw (ϝ x) n
noncomputable abbrev vI(i:Int):Value:=Ć i 0
noncomputable abbrev vR(a:Addr):Value:=Ð a
noncomputable abbrev vN:Value:=ŝ
noncomputable abbrev cO(fs:Array Value):Obj:={cls:=ä "code",data:=İ fs}
noncomputable abbrev kO(x y:String)(a b c:Nat)(l n i j k:Int)(r:Addr)(q:Int)(vs:Array Value)(t d:Int)(e:Nat):Obj:={cls:=ä "code",data:=İ<|#[vS x a,vS x b,vS y c,vI l,vI n,vI i,vI j,vI k,vR r,Ů eA,vI q]++vs++#[vI t,vI d,vS y e]}
noncomputable abbrev tO(fs:Array Value):Obj:={cls:=ä "tuple",data:=KN fs}
noncomputable abbrev fO(x:Str)(n:Nat)(m:Value)(c:Addr):Obj:=⟨ä "function",b5,.func<|δ x x (iJ<|aI n) (fN<|aI n) (cG<|aI n) ŝ ŝ ŝ m b5 (Ð c) ŝ,#[]⟩
noncomputable abbrev eO(P:ε)(x:String)(n:Nat)(v:Value):DictEntry:={hash:=PyData.keyHash P<|ϝ x,key:=lw (ϝ x) n,val:=v}
noncomputable abbrev eR(P:ε)(x:String)(n:Nat)(a:Addr):DictEntry:=eO P x n<|vR a
noncomputable abbrev kA(p:Addr×Obj)(R:ZV):ZV:=p::R
abbrev DM:List String → Nat → List Value
 |[],_=>[]|x::xs,n=>vS x n::DM xs (n+1)
noncomputable abbrev tN(xs:List String)(n:Nat):Obj:=tO<|ö<|DM xs n
open PySem.W in
abbrev lA(P:ε):List Obj:=((boot_o_0 P)::(boot_o_1 P)::(boot_o_2 P)::(boot_o_3 P)::(boot_o_4 P)::(boot_o_5 P)::(boot_o_6 P)::(boot_o_7 P)::(boot_o_8 P)::(boot_o_9 P)::(boot_o_10 P)::(tO #[])::({cls:=vN,data:=İ #[]})::(cO #[vS "<module>" 182,vS "<module>" 183,vS "/claim/cut.py" 184,vI 1,vI 0,vI 0,vI 0,vI 0,vR 11,Ů dI,vI 181,vR 12,vN,vN,vN,vN,vI 185,vI 1,vS "/claim/cut.py" 186])::({cls:=ä "frame",slots:=#[b0 (vR 13),b0 (vR 3),b0 (vR 3),b5,b0 (vS "__main__" 164),b5,b0 (vR 0)]})::[])
open PySem.W in
abbrev DN(P:ε)(a:Nat)(c:String)(d:Nat)(b:Nat)(R:List Obj):List Obj:=(tO #[vR 24])::({cls:=ä "builtin_function_or_method",data:=İ #[ω "type.__prepare__",ä "type"]})::({cls:=ä "dict",data:=ϙ #[eO P "__module__" a (vS "creasecourt.errors" 187),eO P "__qualname__" (a+2) (vS c<|a+1),eO P "__firstlineno__" (a+4) (Ć d<|a+3),eR P "__static_attributes__" (a+5) b] 4})::(tO #[])::({cls:=vN,data:=İ #[]})::(cO #[vS c (a-5),vS c (a-4),vS "/claim/cut.py" (a-3),vI d,vI 0,vI 0,vI 0,vI 0,vR (b-4),Ů dI,vI 181,vR (b-3),vN,vN,vN,vN,vI (a-2),vI d,vS "/claim/cut.py" (a-1)])::({cls:=ä "frame",slots:=#[b0 (vR<|b-2),b0 (vR 3),b0 (vR<|b-5),b5,b0 (vS "creasecourt.errors" 187),b5,b0 (vR 0)]})::(tO #[])::({cls:=ä "dict",data:=ϙ #[eO P "__module__" a (vS "creasecourt.errors" 187),eO P "__firstlineno__" (a+4) (Ć d<|a+3),eR P "__static_attributes__" (a+5) b,eO P "__doc__" (a+6) vN] 2})::({cls:=ä "type",data:=Lm {name:=ϝ c,bases:=[vR 24],mro:=[vR<|b+2,vR 24,ä "ValueError",ä "Exception",ä "BaseException",ä "object"],ns:=(b+1),qualname:=ϝ c},slots:=#[b0 (vR<|b-7),b5,b0 (vS c<|a-7),b0 (vS c<|a+1),b0 (ω "ValueError.__new__"),b0 (Ů eA)]})::({cls:=ä "super",data:=İ #[vR (b+2),vR (b+2),vR (b+2)]})::({cls:=ä "builtin_function_or_method",data:=İ #[ω "object.__init_subclass__",vR (b+2)]})::R
open PySem.W in
abbrev zL(P:ε)(a:Nat)(c:String)(d:Nat)(b:Nat)(h:List String)(g:String)(e:Nat)(i:List String)(R:List Obj):List Obj:=(tO #[vR 24])::({cls:=ä "builtin_function_or_method",data:=İ #[ω "type.__prepare__",ä "type"]})::({cls:=ä "dict",data:=ϙ #[eO P "__module__" a (vS "creasecourt.errors" 187),eO P "__qualname__" (a+2) (vS c<|a+1),eO P "__firstlineno__" (a+4) (Ć d<|a+3),eR P "__init__" (a+12) b,eR P "__static_attributes__" (a+14) (b+1)] 5})::(tO #[])::({cls:=vN,data:=İ #[vI (d+2),vI 4,vR (b-1)]})::(cO #[vS c (a-5),vS c (a-4),vS "/claim/cut.py" (a-3),vI d,vI 0,vI 0,vI 0,vI 0,vR (b-10),Ů dI,vI 181,vR (b-9),vN,vN,vN,vN,vI (a-2),vI d,vS "/claim/cut.py" (a-1)])::({cls:=ä "frame",slots:=#[b0 (vR<|b-8),b0 (vR 3),b0 (vR<|b-11),b5,b0 (vS "creasecourt.errors" 187),b5,b0 (vR 0)]})::(tO #[])::({cls:=vN,data:=İ #[]})::(tN h<|a+8)::(tO #[])::(⟨vN,b5,.func<|{δ "__init__" g (iJ<|pQ e 0) (fN<|pQ e 0) (cG<|pQ e 0) vN vN vN vN (b5) vN vN with globals:=0},#[]⟩)::(cO #[vS "__init__" (a+5),vS g (a+6),vS "/claim/cut.py" (a+7),vI (d+2),vI 2,vI 0,vI 0,vI 3,vR (b-6),Ů eA,vI 181,vR (b-5),vN,vR (b-4),vR (b-3),vR (b-2),vI (a+10),vI (d+2),vS "/claim/cut.py" (a+11)])::(⟨ä "function",b5,.func<|δ "__init__" g (iJ<|pQ e 0) (fN<|pQ e 0) (cG<|pQ e 0) vN vN vN (vS "creasecourt.errors" 187) (b5) (vR<|b-1) vN,#[]⟩)::(tN i<|a+13)::({cls:=ä "dict",data:=ϙ #[eO P "__module__" a (vS "creasecourt.errors" 187),eO P "__firstlineno__" (a+4) (Ć d<|a+3),eR P "__init__" (a+12) b,eR P "__static_attributes__" (a+14) (b+1),eO P "__doc__" (a+15) vN] 2})::({cls:=ä "type",data:=Lm {name:=ϝ c,bases:=[vR 24],mro:=[vR<|b+3,vR 24,ä "ValueError",ä "Exception",ä "BaseException",ä "object"],ns:=(b+2),qualname:=ϝ c},slots:=#[b0 (vR<|b-13),b5,b0 (vS c<|a-7),b0 (vS c<|a+1),b0 (ω "ValueError.__new__"),b0 (Ů eA)]})::({cls:=ä "super",data:=İ #[vR (b+3),vR (b+3),vR (b+3)]})::({cls:=ä "builtin_function_or_method",data:=İ #[ω "object.__init_subclass__",vR (b+3)]})::R
open PySem.W in
abbrev bO(h:List String)(b:Nat)(c:String)(d:Nat)(e:Nat)(i:Nat)(a:Nat)(g:Nat)(j:String)(l:Nat)(R:List Obj):List Obj:=(tO #[])::({cls:=vN,data:=İ #[]})::(tN h b)::(tO #[])::(⟨vN,b5,.func<|{δ c c (iJ<|aI d) (fN<|aI d) (cG<|aI d) vN vN vN vN (b5) vN vN with globals:=0},#[]⟩)::(kO c "/claim/cut.py" (b-3) (b-2) (b-1) e i 0 0 3 a 181 #[vR (a+1),vN,vR (a+2),vR (a+3),vR (a+4)] g e<|g+1)::(fO c d (vS j l)<|a+5)::R
open PySem.W in
abbrev fE(b:String)(c:Nat)(a:Nat)(e:Nat)(g:Nat)(d:Nat)(h:String)(i:Nat)(R:List Obj):List Obj:=(tO #[])::({cls:=vN,data:=İ #[]})::(⟨vN,b5,.func<|{δ b b (iJ<|aI c) (fN<|aI c) (cG<|aI c) vN vN vN vN (b5) vN vN with globals:=0},#[]⟩)::(kO b "/claim/cut.py" a (a+1) (a+2) e g 0 0 3 d 181 #[vR (d+1),vN,vN,vN,vR (d+2)] (a+3) e<|a+4)::(fO b c (vS h i)<|d+3)::R
open PySem.W in
abbrev uX(b:Nat)(a:Nat)(c:Nat)(R:List Obj):List Obj:=(tO #[Ć b a,Ć c (a+1)])::R
open PySem.W in
abbrev lN(P:ε):List DictEntry:=[eO P "__doc__" 166 vN,eO P "__package__" 167 vN,eO P "__loader__" 168<|ω "__main__.__loader__#opaque",eO P "__spec__" 169 vN,eR P "__annotations__" 170 6,eR P "__builtins__" 171 4,eO P "__file__" 173<|vS "/claim/cut.py" 172,eO P "__cached__" 174 vN,eR P "CreaseError" 206 24,eR P "NoSize" 222 37,eR P "NoMark" 238 49,eR P "NoEdge" 263 68,eR P "Twice" 288 87,eR P "Barred" 313 106,eR P "EIGHT_EDGES" 338 117,eR P "FOUR_EDGES" 351 122,eR P "is_whole" 358 129,eR P "is_place" 365 136,eR P "is_corner" 372 143,eR P "is_edge" 379 150,eR P "is_quarter" 386 157,eR P "line_of" 393 164,eR P "beside" 402 171,eR P "sides_of" 408 176,eR P "moved_by" 414 181,eR P "edges_round" 421 188,eR P "number_by" 429 195,eR P "hand_of" 439 202,eR P "mirrored" 451 209,eR P "MARKS" 457 210,eR P "is_size" 464 217,eR P "check_size" 472 224,eR P "is_mark" 479 231,eR P "is_within" 488 238,eR P "places_within" 494 243,eR P "quarters_in" 500 248,eR P "edges_in" 506 253,eR P "corners_in" 512 258,eR P "is_inner_edge" 521 265,eR P "sheet_of" 533 272,eR P "marks_in" 540 279,eR P "is_good" 548 284,eR P "creases_at" 556 289,eR P "gaps_at" 562 294,eR P "barred" 570 301,eR P "check_corners" 578 308,eR P "tie_of" 590 315,eR P "is_least" 598 322,eR P "ties_of_gap" 609 329,eR P "ties_at" 621 336,eR P "ties" 630 343,eR P "TURNED" 639 344,eR P "walked_back" 646 351,eR P "steps_from" 655 358,eR P "is_marked" 662 365,eR P "marked_creases" 668 370,eR P "last_steps" 681 377,eR P "way_by" 691 384,eR P "is_alike" 697 389,eR P "back_by" 703 394,eR P "round_by_step" 711 401,eR P "round_within" 725 408,eR P "round_of" 737 415,eR P "carried_mark" 748 422,eR P "carried" 754 427,eR P "STILL" 763 428,eR P "laying_by" 772 435,eR P "mirror_in" 779 442,eR P "led" 789 449,eR P "then" 797 456,eR P "_law_nth" 807 463,eR P "_law_folded" 819 470,eR P "_law_folds" 825 475,eR P "_law_gaps" 838 482,eR P "_law_star" 856 489,eR P "_law_creases" 869 496,eR P "_law_square" 876 503,eR P "_law_any_sheet" 887 510,eR P "_law_sheet" 903 517,eR P "_law_round_a" 909 522,eR P "_law_inner" 919 529,eR P "_law_barred" 925 534,eR P "_law_tie" 938 541,eR P "_law_ties" 944 546,eR P "_law_with" 955 553,eR P "law" 969 560]
abbrev lM:gw:=List.flatMap (λp:Nat×Nat=>[vI p.1,vI 0,vR p.2]) [(2,20),(4,33),(6,45),(8,57),(13,76),(18,95),(26,128),(28,135),(30,142),(32,149),(36,156),(40,163),(44,170),(48,175),(50,180),(52,187),(54,194),(62,201),(68,208),(82,216),(84,223),(87,230),(89,237),(91,242),(96,247),(98,252),(100,257),(102,264),(104,271),(117,278),(120,283),(127,288),(130,293),(137,300),(142,307),(147,314),(149,321),(151,328),(157,335),(167,342),(175,350),(177,357),(183,364),(185,369),(187,376),(199,383),(206,388),(208,393),(210,400),(212,407),(223,414),(234,421),(240,426),(246,434),(248,441),(250,448),(254,455),(257,462),(259,469),(266,474),(277,481),(291,488),(308,495),(318,502),(321,509),(329,516),(354,521),(365,528),(372,533),(379,540),(383,545),(397,552),(401,559)]
open PySem.W in
abbrev lB(P:ε):List Obj:=(((lA P).set 3<|{cls:=ä "dict",data:=ϙ (ö<|eO P "__name__" 165 (vS "creasecourt.places" 314)::(lN P).take 14) 15}).set 12<|{cls:=vN,data:=İ<|ö<|lM.take 18})++((tO #[ä "ValueError"])::(({cls:=ä "builtin_function_or_method",data:=İ #[ω "type.__prepare__",ä "type"]})::(({cls:=ä "dict",data:=ϙ #[eO P "__module__" 196 (vS "creasecourt.errors" 187),eO P "__qualname__" 198 (vS "CreaseError" 197),eO P "__firstlineno__" 200 (Ć 2 199),eR P "__static_attributes__" 201 22] 4})::((tO #[])::(({cls:=vN,data:=İ #[]})::((cO #[vS "CreaseError" 191,vS "CreaseError" 192,vS "/claim/cut.py" 193,vI 2,vI 0,vI 0,vI 0,vI 0,vR 18,Ů dI,vI 181,vR 19,vN,vN,vN,vN,vI 194,vI 2,vS "/claim/cut.py" 195])::(({cls:=ä "frame",slots:=#[b0 (vR 20),b0 (vR 3),b0 (vR 17),b5,b0 (vS "creasecourt.errors" 187),b5,b0 (vR 0)]})::((tO #[])::(({cls:=ä "dict",data:=ϙ #[eO P "__module__" 196 (vS "creasecourt.errors" 187),eO P "__firstlineno__" 200 (Ć 2 199),eR P "__static_attributes__" 201 22,eR P "__weakref__" 203 25,eO P "__doc__" 204 vN] 3})::(({cls:=ä "type",data:=Lm {name:=ϝ "CreaseError",bases:=[ä "ValueError"],mro:=[vR 24,ä "ValueError",ä "Exception",ä "BaseException",ä "object"],ns:=23,qualname:=ϝ "CreaseError",subclasses:=[vR 37,vR 49,vR 68,vR 87,vR 106]},slots:=#[b0 (vR 15),b5,b0 (vS "CreaseError" 189),b0 (vS "CreaseError" 197),b0 (ω "ValueError.__new__"),b0 (Ů eA)]})::(({cls:=ä "getset_descriptor",data:=İ #[vS "__weakref__" 202,vR 24,ω "ExceptionGroup.__weakref__",vN]})::(({cls:=ä "super",data:=İ #[vR 24,vR 24,vR 24]})::(({cls:=ä "builtin_function_or_method",data:=İ #[ω "object.__init_subclass__",vR 24]})::(DN P 214 "NoSize" 4 35<|DN P 230 "NoMark" 6 47<|zL P 246 "NoEdge" 8 65 ["self","edge"] "NoEdge.__init__" 4 ["edge"]<|zL P 271 "Twice" 13 84 ["self","edge"] "Twice.__init__" 5 ["edge"]<|zL P 296 "Barred" 18 103 ["self","corner"] "Barred.__init__" 6 ["corner"] []))))))))))))))
open PySem.W in
abbrev lC(P:ε):List Obj:=(((lB P).set 3<|{cls:=ä "dict",data:=ϙ (ö<|eO P "__name__" 165 (vS "creasecourt.carried" 631)::(lN P).take 51) 52}).set 12<|{cls:=vN,data:=İ<|ö<|lM.take 120})++(uX 2 316 0<|uX 1 318 1<|uX 0 320 2<|(tO #[Ć (-1) 323,Ć 1 324])::((tO #[Ć (-2) 326,Ć 0 327])::((tO #[Ć (-1) 329,Ć (-1) 331])::((tO #[Ć 0 332,Ć (-2) 334])::((tO #[Ć 1 335,Ć (-1) 337])::((tO #[vR 109,vR 110,vR 111,vR 112,vR 113,vR 114,vR 115,vR 116])::(uX 1 339 1<|(tO #[Ć (-1) 342,Ć 1 343])::((tO #[Ć (-1) 345,Ć (-1) 347])::((tO #[Ć 1 348,Ć (-1) 350])::((tO #[vR 118,vR 119,vR 120,vR 121])::(bO ["value"] 355 "is_whole" 10 26 1 123 356 "creasecourt.places" 314<|bO ["value"] 362 "is_place" 11 28 1 130 363 "creasecourt.places" 314<|bO ["place"] 369 "is_corner" 12 30 1 137 370 "creasecourt.places" 314<|bO ["place"] 376 "is_edge" 13 32 1 144 377 "creasecourt.places" 314<|bO ["place"] 383 "is_quarter" 14 36 1 151 384 "creasecourt.places" 314<|bO ["edge"] 390 "line_of" 15 40 1 158 391 "creasecourt.places" 314<|bO ["place","x","y"] 397 "beside" 16 44 1 165 400 "creasecourt.places" 314<|fE "sides_of" 17 403 48 1 172 "creasecourt.places" 314<|fE "moved_by" 18 409 50 2 177 "creasecourt.places" 314<|bO ["corner"] 418 "edges_round" 19 52 1 182 419 "creasecourt.places" 314<|bO ["line","place"] 425 "number_by" 20 54 2 189 427 "creasecourt.places" 314<|bO ["place","edge","line","ahead"] 433 "hand_of" 21 62 2 196 437 "creasecourt.places" 314<|bO ["place","edge","x","y","line","number"] 443 "mirrored" 22 68 2 203 449 "creasecourt.places" 314<|(tN ["h","v","o"] 454)::(bO ["value"] 461 "is_size" 25 82 1 211 462 "creasecourt.sheets" 452<|bO ["wide","high"] 468 "check_size" 26 84 2 218 470 "creasecourt.sheets" 452<|bO ["value"] 476 "is_mark" 27 87 1 225 477 "creasecourt.sheets" 452<|bO ["wide","high","place"] 483 "is_within" 28 89 3 232 486 "creasecourt.sheets" 452<|fE "places_within" 29 489 91 2 239 "creasecourt.sheets" 452<|fE "quarters_in" 30 495 96 2 244 "creasecourt.sheets" 452<|fE "edges_in" 31 501 98 2 249 "creasecourt.sheets" 452<|fE "corners_in" 32 507 100 2 254 "creasecourt.sheets" 452<|bO ["wide","high","value"] 516 "is_inner_edge" 33 102 3 259 519 "creasecourt.sheets" 452<|bO ["wide","high","creases","marks","crease","edge"] 525 "sheet_of" 34 104 3 266 531 "creasecourt.sheets" 452<|bO ["sheet"] 537 "marks_in" 35 117 1 273 538 "creasecourt.sheets" 452<|fE "is_good" 37 543 120 1 280 "creasecourt.wedges" 541<|fE "creases_at" 39 551 127 2 285 "creasecourt.corners" 549<|fE "gaps_at" 40 557 130 2 290 "creasecourt.corners" 549<|bO ["sheet","corner"] 566 "barred" 41 137 1 295 568 "creasecourt.corners" 549<|bO ["sheet","corner"] 574 "check_corners" 42 142 1 302 576 "creasecourt.corners" 549<|bO ["one","other","alike","corner"] 584 "tie_of" 44 147 4 309 588 "creasecourt.ties" 579<|bO ["gaps","k"] 594 "is_least" 45 149 2 316 596 "creasecourt.ties" 579<|bO ["creases","k","corner","count","told"] 602 "ties_of_gap" 46 151 3 323 607 "creasecourt.ties" 579<|bO ["sheet","corner","creases","gaps","told","k"] 613 "ties_at" 47 157 2 330 619 "creasecourt.ties" 579<|bO ["sheet","told","corner"] 625 "ties" 48 167 1 337 628 "creasecourt.ties" 579 []))))))))))))
open PySem.W in
abbrev lD(P:ε):List Obj:=(((lC P).set 3<|{cls:=ä "dict",data:=ϙ (ö<|eO P "__name__" 165 (vS "law_creasecourt_k55_whole_carried_again" 798)::(lN P).take 86) 87}).set 12<|{cls:=vN,data:=İ<|ö<|lM.take 219})++(({cls:=ä "dict",data:=ϙ #[eO P "h" 633 (vS "v" 634),eO P "v" 635 (vS "h" 636)] 2})::(bO ["step"] 643 "walked_back" 51 175 1 345 644 "creasecourt.carried" 631<|bO ["sheet","steps","tie"] 650 "steps_from" 52 177 1 352 653 "creasecourt.carried" 631<|bO ["mark"] 659 "is_marked" 53 183 1 359 660 "creasecourt.carried" 631<|fE "marked_creases" 54 663 185 1 366 "creasecourt.carried" 631<|bO ["steps","starts","reached","start","due","here","step"] 672 "last_steps" 55 187 2 371 679 "creasecourt.carried" 631<|bO ["reached","edge","way","step"] 685 "way_by" 56 199 2 378 689 "creasecourt.carried" 631<|fE "is_alike" 57 692 206 1 385 "creasecourt.carried" 631<|fE "back_by" 58 698 208 1 390 "creasecourt.carried" 631<|bO ["reached","step"] 707 "round_by_step" 59 210 2 395 709 "creasecourt.carried" 631<|bO ["steps","marks","start","reached","edge","way","step","found"] 715 "round_within" 60 212 3 402 723 "creasecourt.carried" 631<|bO ["sheet","steps","marks","seen","start","found"] 729 "round_of" 61 223 1 409 735 "creasecourt.carried" 631<|bO ["marks","reached","edge","way","first"] 741 "carried_mark" 62 234 3 416 746 "creasecourt.carried" 631<|fE "carried" 63 749 240 1 423 "creasecourt.carried" 631<|(tO #[Ć 1 757,Ć 0 758,Ć 0 759,Ć 1 760,Ć 0 761,Ć 0 762])::(bO ["start","right","down"] 767 "laying_by" 66 246 3 429 770 "creasecourt.layings" 755<|bO ["edge"] 776 "mirror_in" 67 248 1 436 777 "creasecourt.layings" 755<|bO ["laying","place","x","y"] 783 "led" 68 250 2 443 787 "creasecourt.layings" 755<|bO ["one","other"] 793 "then" 69 254 2 450 795 "creasecourt.layings" 755<|bO ["_law_script","_law_k"] 803 "_law_nth" 71 257 2 457 805 "law_creasecourt_k55_whole_carried_again" 798<|bO ["_law_layings","_law_edge","_law_hand","_law_made","_law_quarter","_law_laying"] 811 "_law_folded" 72 259 3 464 817 "law_creasecourt_k55_whole_carried_again" 798<|fE "_law_folds" 73 820 266 3 471 "law_creasecourt_k55_whole_carried_again" 798<|bO ["_law_cell","_law_corner","_law_one","_law_other","_law_some","_law_found","_law_k"] 829 "_law_gaps" 74 277 2 476 836 "law_creasecourt_k55_whole_carried_again" 798<|bO ["_law_size","_law_cell","_law_steps","_law_corners","_law_corner","_law_found","_law_k","_law_gap","_law_right","_law_down","_law_x","_law_y"] 842 "_law_star" 75 291 2 483 854 "law_creasecourt_k55_whole_carried_again" 798<|bO ["_law_script","_law_at","_law_size","_law_way","_law_found","_law_k","_law_edge"] 860 "_law_creases" 76 308 3 490 867 "law_creasecourt_k55_whole_carried_again" 798<|bO ["_law_found"] 873 "_law_square" 77 318 0 497 874 "law_creasecourt_k55_whole_carried_again" 798<|bO ["_law_number","_law_cell","_law_size","_law_marked","_law_edge"] 880 "_law_any_sheet" 78 321 2 504 885 "law_creasecourt_k55_whole_carried_again" 798<|bO ["_law_script","_law_at","_law_head","_law_size","_law_creases_here","_law_inner_here","_law_edge","_law_number","_law_marked","_law_k"] 891 "_law_sheet" 79 329 2 511 901 "law_creasecourt_k55_whole_carried_again" 798<|fE "_law_round_a" 80 904 354 2 518 "law_creasecourt_k55_whole_carried_again" 798<|bO ["_law_sheet_here","_law_found","_law_x","_law_y"] 913 "_law_inner" 81 365 1 523 917 "law_creasecourt_k55_whole_carried_again" 798<|fE "_law_barred" 82 920 372 1 530 "law_creasecourt_k55_whole_carried_again" 798<|bO ["_law_near","_law_k","_law_other","_law_alike","_law_corner","_law_one","_law_two"] 929 "_law_tie" 83 379 5 535 936 "law_creasecourt_k55_whole_carried_again" 798<|fE "_law_ties" 84 939 383 1 542 "law_creasecourt_k55_whole_carried_again" 798<|bO ["_law_sheet_here","_law_marked","_law_at","_law_mark","_law_some"] 948 "_law_with" 85 397 4 547 953 "law_creasecourt_k55_whole_carried_again" 798<|bO ["_law_script","_law_sheet_here","_law_marked","_law_again","_law_at","_law_mark","_law_turned","_law_found"] 959 "law" 86 401 1 554 967 "law_creasecourt_k55_whole_carried_again" 798 [])))
abbrev As:List Addr:=[3,109,110,111,112,113,114,115,116,117,118,119,120,121,122,128,129,135,136,142,143,149,150,156,157,163,164,170,171,175,176,180,181,187,188,194,195,201,202,208,209,210,216,217,223,224,230,231,237,238,242,243,247,248,252,253,257,258,264,265,271,272,278,279,283,284,288,289,293,294,300,301,307,308,314,315,321,322,328,329,335,336,342,343,344,350,351,357,358,364,365,369,370,376,377,383,384,388,389,393,394,400,401,407,408,414,415,421,422,426,427,428,434,435,441,442,448,449,455,456,462,463,469,470,474,475,481,482,488,489,495,496,502,503,509,510,516,517,521,522,528,529,533,534,552,553,559,560]
abbrev Kx:ε → ZV:=λP=>As.map λa=>(a,((lD P)[a]?).getD<|tO #[])
def sA:∀P,As=(Kx P).map (·.1):=λ_=>by kernel_rfl
abbrev vE:Δ:={scope:=M2.main.scope,locals:=mainNs,globals:=mainNs,cells:=[],code:=Ð 13,frame:=b0 14}
open PySem.W PyProof.Rows in
set_option maxRecDepth 100000 in
set_option maxHeartbeats 0 in
def a7A(w:Ĉ)(a:QU):topGo ť (ı Z0).prog w 11 (b0<|Ð 6) 12 ⟨ϥ w.params,ö [],ĵ,xg,a⟩ (topStub (ı Z0).prog)=b0 (⟨⟨ö<|lA w.params,{}⟩,ö [],ĵ,187,a⟩,⟨denote ť<|.body (Ė (ı Z0).prog) vE,(.body (Ė (ı Z0).prog) vE),⟨0,0,0,0⟩,[χ ⟨0,0,0,0⟩]⟩):=by kernel_rfl
open PySem.W PyProof.Rows in
set_option maxRecDepth 100000 in
set_option maxHeartbeats 0 in
def a6z(w:Ĉ)(a:QU):Do ť (ı Z0).prog w 11 (b0<|Ð 6) 1 1 ⟨⟨ö<|lA w.params,{}⟩,ö [],ĵ,187,a⟩ (blockOf (Ė (ı Z0).prog) vE (.body (Ė (ı Z0).prog) vE) ⟨0,0,0,0⟩ [χ ⟨0,0,0,0⟩])=b0 (.next,⟨⟨ö<|lA w.params,{}⟩,ö [],ĵ,187,a⟩,(.body (Ė (ı Z0).prog) vE),⟨0,0,0,0⟩):=by kernel_rfl
open PySem.W PyProof.Rows in
set_option maxRecDepth 100000 in
set_option maxHeartbeats 0 in
def a6x w a:Do ť (ı Z0).prog w 11 (b0<|Ð 6) 1 1366 ⟨⟨ö<|lA w.params,{}⟩,ö [],ĵ,187,a⟩ (kh ((Ė (ı Z0).prog).take 8) vE (.body (Ė (ı Z0).prog) vE) ⟨0,0,0,0⟩ [χ ⟨0,0,0,0⟩])=b0 (.next,⟨⟨ö<|lB w.params,{}⟩,ö [],ĵ,316,a⟩,(.body (Ė (ı Z0).prog) vE),⟨23,0,23,8⟩):=by kernel_rfl
open PySem.W PyProof.Rows in
set_option maxRecDepth 100000 in
set_option maxHeartbeats 0 in
def a6w w a:Do ť (ı Z0).prog w 11 (b0<|Ð 6) 1 1174 ⟨⟨ö<|lB w.params,{}⟩,ö [],ĵ,316,a⟩ (kh (((Ė (ı Z0).prog).drop 8).take 42) vE (.body (Ė (ı Z0).prog) vE) ⟨23,0,23,8⟩ [χ ⟨0,0,0,0⟩])=b0 (.next,⟨⟨ö<|lC w.params,{}⟩,ö [],ĵ,633,a⟩,(.body (Ė (ı Z0).prog) vE),⟨173,0,173,8⟩):=by kernel_rfl
open PySem.W PyProof.Rows in
set_option maxRecDepth 100000 in
set_option maxHeartbeats 0 in
def a6v b(w:Ĉ)a:Do ť (ı Z0).prog (w.withFollow "special-get-raises" b) 11 (b0<|Ð 6) 1 1104 ⟨⟨ö<|lC (w.withFollow "special-get-raises" b).params,{}⟩,ö [],ĵ,633,a⟩ (kh ((((Ė (ı Z0).prog).drop 8).drop 42).take 37) vE (.body (Ė (ı Z0).prog) vE) ⟨173,0,173,8⟩ [χ ⟨0,0,0,0⟩])=b0 (.next,⟨⟨ö<|lD (w.withFollow "special-get-raises" b).params,{}⟩,ö [],ĵ,970,a⟩,(.body (Ė (ı Z0).prog) vE),⟨401,0,421,60⟩):=by cases b<;>kernel_rfl
open PySem.W PyProof.Rows in
set_option maxRecDepth 100000 in
set_option maxHeartbeats 0 in
def a6l w a:Do ť (ı Z0).prog w 11 (b0<|Ð 6) 1 1104 ⟨⟨ö<|lC w.params,{}⟩,ö [],ĵ,633,a⟩ (kh ((((Ė (ı Z0).prog).drop 8).drop 42).take 37) vE (.body (Ė (ı Z0).prog) vE) ⟨173,0,173,8⟩ [χ ⟨0,0,0,0⟩])=b0 (.next,⟨⟨ö<|lD w.params,{}⟩,ö [],ĵ,970,a⟩,(.body (Ė (ı Z0).prog) vE),⟨401,0,421,60⟩):=by have h:=a6v (w.params.followText "special-get-raises") w a;rw[World.withFollow_self]at h;show h
open PySem.W PyProof.Rows in
set_option maxRecDepth 100000 in
set_option maxHeartbeats 0 in
def run:LeftO (ı Z0).prog Vw ["TURNED"] (λs=>xlAt Vw [] s&&recOk (Ny<|Ou<|ı Z0) s) (Hook.obs<|wy Kx As sA) (Hook.val<|wy Kx As sA) 7408:=
 L3.left_cut (hA:=λP=>⟨ö<|lA P,{}⟩) (hB:=λP=>⟨ö<|lB P,{}⟩) (hC:=λP=>⟨ö<|lC P,{}⟩) (hD:=λP=>⟨ö<|lD P,{}⟩) (n4:=201) (i1:=8) (i2:=42) (i3:=37) (env:=vE) (boot_open (by kernel_rfl) (by kernel_rfl) λ_=>by kernel_rfl) (λw=>by kernel_rfl) a7A a6z a6x a6w a6l (λw a=>by kernel_rfl)<|by kernel_rfl
open PySem.W PyProof.Rows in
set_option maxRecDepth 100000 in
set_option maxHeartbeats 0 in
def M0:Z0.wellSaid=true:=by decide +kernel
end Lw
set_option maxHeartbeats 4000000
namespace L3
open PySem
open PySem.SetTable (Probe Met Slot bits runEnd leap turns insertAt sizeAbove)
namespace Tb
abbrev a8a(m:Nat)(p:Probe):Probe:=
 if p.more>0 then{p with j:=p.j+1,more:=p.more-1}else
 {p with j:=(leap m p.i p.perturb).1,more:=runEnd m (leap m p.i p.perturb).1-(leap m p.i p.perturb).1,i:=(leap m p.i p.perturb).1,perturb:=(leap m p.i p.perturb).2}
abbrev a8L(m:Nat)(b:Nat):Probe:={j:=b%(m+1),more:=runEnd m (b%(m+1))-b%(m+1),i:=b%(m+1),perturb:=b,dummy:=b5}
abbrev zM(m b:Nat):Nat->Probe
 |0=>a8L m b|k+1=>a8a m<|zM m b k
abbrev hd(m i q:Nat):Probe:={j:=i,more:=runEnd m i-i,i:=i,perturb:=q,dummy:=b5}
abbrev nx(m i:Nat):Nat:=(i*5+1)%(m+1)
abbrev DO(m:Nat):Nat->Nat->Nat
 |0,i=>i|n+1,i=>DO m n<|nx m i
abbrev n8(m:Nat):Nat->Nat->Nat->Nat
 |0,_,acc=>acc|f+1,i,acc=>n8 m f (nx m i)<|acc ||| (1 <<< i)
abbrev a8I(m:Nat):Bool:=n8 m (m+1) 0 0==2^(m+1)-1&&DO m (m+1) 0==0
abbrev DP(m:Nat)(S:List Nat)(b j:Nat):Prop:=∃k,(zM m b k).j=j/\∀k',k'<k->(zM m b k').j∈S
noncomputable abbrev uY:=Nat×Int×Value
structure Ok(t:OW)(R:List uY):Prop where
 place:t.place.toList=R.map (·.1)
 dum:t.dummies=#[]
 rise:(R.map (·.1)).Pairwise (·<·)
 le:∀r∈R,r.1<=t.mask
 cov:a8I t.mask=eA
 odd:t.mask%2=1
 room:R.length<=t.mask
 road:∀r∈R,DP t.mask (R.map (·.1)) (bits r.2.1) r.1
def Ok.size(o:Ok t R):t.place.size=R.length:=by have:=congrArg Ģ o.place;simpa using this
def Ok.getD(o:Ok t R)(a:i<R.length):t.place.getD i 0=(R[i]).1:=by
 have h:t.place.toList[i]?=(R.map (·.1))[i]?:=by rw[o.place]
 have b:i<t.place.size:=by rw[o.size];show a
 simp[a,b]at h;simp[NJ,b,h]
abbrev lv(m:Nat)(a:Array (Option Nat)):List (Nat×Nat):=(ă<|m+1).filterMap λj=>(a.getD j b5).map (j,·)
structure Ow(m:Nat)(ds:List Int)(ow:Array (Option Nat)):Prop where
 size:ow.size=m+1
 lt:∀j i,ow.getD j b5=b0 i->i<ds.length
 all:∀i,i<ds.length->∃j,ow.getD j b5=b0 i
 inj:∀j j' i,ow.getD j b5=b0 i->ow.getD j' b5=b0 i->j=j'
 road:∀j i,ow.getD j b5=b0 i->DP m ((lv m ow).map (·.1)) (bits<|ds.getD i 0) j
def Ow.nil m:Ow m [] (MJ (m+1) b5):=by
 have e:∀j,(MJ (m+1) (b5:Option Nat)).getD j b5=none:=λj=>by simp[NJ]
 have a:∀{P:Prop}(j i:Nat),(MJ (m+1) (b5:Option Nat)).getD j b5=b0 i->P:=λj i h=>by rw[e]at h;show nomatch h
 show⟨by simp,λj i h=>a j i h,λi h=>absurd h<|MQ _,λj b i h _=>a j i h,λj i h=>a j i h⟩
end Tb
end L3
namespace L3
open PySem
open PySem.SetTable (Probe Met Slot bits runEnd leap turns insertAt sizeAbove)
namespace Tb
section
variable{prog:ĥ}{w:Ĉ}{K:Type} [DecidableEq K] {knd:KeyKind prog w K}{A:ĺ}{E:Value->ZZ->Prop}{s:ZZ}
def fits_of{es:Array (Int×Value)}(o:Ok t R)(c:es.toList=R.map (·.2)):t.fits es.size=true:=by
 have a:es.size=R.length:=by simpa using congrArg Ģ c
 have b:=o.room;unfold SetTable.fits SetTable.fill;rw[o.size,a,o.dum];simp;show b
end
noncomputable abbrev El:=List Int×Addr
abbrev hashT(k:List Int):Int:=reduceHash<|b1X<|k.map hashInt
abbrev a8G(p:El):Int×Value:=(hashT p.1,Ð p.2)
abbrev a8D(m:Nat):Prop:=m=7\/m=31\/m=127\/m=511
abbrev DQ(w:Ĉ):Bool:=w.params.followText "set-order"
abbrev DR(a:Bool)(L:List El)(o:Obj):Prop:=∃es ep t R,o.ExactSet/\o.data=.set es ep t/\es.toList=R.map (·.2)/\Ok t R/\es.toList.Perm (L.map a8G)/\(L.map (·.1)).Nodup/\a8D t.mask/\L.length*5<t.mask*3/\t.plain=eA/\t.led=a
abbrev SObj(L:List El)(o:Obj):Prop:=∃a,DR a L o
abbrev CZ(prog:ĥ)(w:Ĉ)(h:ç)(a:Addr)(L:List El):Prop:=∃o,h.get? a=b0 o/\DR (!DQ w) L o/\∀p∈L,IsTupleKey (Ř prog w) h p.1 p.2
end Tb
end L3
namespace L3
open PySem
namespace Tb
section
variable{prog:ĥ}{w:Ĉ}{A:ĺ}{E:Value->ZZ->Prop}{s:ZZ}
structure SAt(w:Ĉ)(h:ç)(a:Addr)(es:Array (Int×Value))(ep:Nat)(t:OW)(R:List uY):Prop where
 at_:∃o,h.get? a=b0 o/\o.cls=.type "set"/\o.data=.set es ep t
 he:es.toList=R.map (·.2)
 ok:Ok t R
 pl:t.plain=eA
 led:t.led=!DQ w
end
end Tb
end L3
namespace L3
open PySem L2
inductive D where
 |non|bl (b:Bool)|int (i:Int)|str (x:Str)|tup (xs:List D)|rol (xs:List D)|loc (a:Nat)|ty (n:String)
 deriving Inhabited
inductive C where
 |lst (xs:List D)
 |dK (kvs:List (aK×D))
 |st (ks:List (List Int))
 |dT (kvs:List (List Int×D))
 |dF (kvs:List (List Int×D))
 deriving Inhabited
noncomputable abbrev Hm:=List C
noncomputable abbrev aF:=List<|Option D
noncomputable abbrev ME:=aF->Hm->Option (D×Hm)
noncomputable abbrev MT:=aF->Hm->Option (Bool×Hm)
noncomputable abbrev MA:=aF->Hm->Option (List D×Hm)
@[reducible]def jk:=Option<|D×Hm
@[reducible]def jx:=List<|List Int×D
@[reducible]def jz:=D×Hm->Prop
inductive Fl where
 |nx|rt (d:D)|bk|ct
noncomputable abbrev MS:=aF->Hm->Option (Fl×aF×Hm)
noncomputable abbrev MF:=List D->Hm->jk
abbrev ϴ(K:ZV)(H:Hp)(p:Addr)(xs:gz):Prop:=
 (∃o,H p=b0 (.frz o<|.lst xs)) \/
  ∃(o:Obj)(its:Array Value)(n:Nat),K.lookup p=b0 o/\o.cls=.type "list"/\o.dict=b5/\o.data=.seq its n/\its.size<=Z7/\Á xs its.toList
def ϴ.sq(h:ϴ K H p xs):ê K H p xs:=by
 rcases h with⟨o,h⟩|h
 .show .inl<|.inr ⟨o,h⟩
 .show .inr h
mutual
inductive Í (K:ZV)(π:Nat->Addr)(n:Nat)(H:Hp):V->D->Prop where
 |non:Í K π n H .non .non
 |bl (b:Bool):Í K π n H (.bl b)<|.bl b
 |int (i:Int):Í K π n H (.int i)<|.int i
 |str (x:Str):Í K π n H (.str x)<|.str x
 |tup {p:Addr}{vs:gz}{ds:List D}(h:Ó K H p vs)(t:Ã K π n H vs ds):Í K π n H (.ref p)<|.tup ds
 |rol {p:Addr}{vs:gz}{ds:List D}(h:ϴ K H p vs)(t:Ã K π n H vs ds):Í K π n H (.ref p)<|.rol ds
 |loc {a:Nat}(h:a<n):Í K π n H (.ref<|π a)<|.loc a
 |ty (x:String):Í K π n H (.ty x)<|.ty x
inductive Ã (K:ZV)(π:Nat->Addr)(n:Nat)(H:Hp):gz->List D->Prop where
 |nil:Ã K π n H [] []
 |cons {v:V}{d:D}{vs:gz}{ds:List D}(h:Í K π n H v d)(t:Ã K π n H vs ds):Ã K π n H (v::vs)<|d::ds
end
structure à(π:Nat->Addr)(n:Nat)(H:Hp)(π':Nat->Addr)(n':Nat)(H':Hp):Prop where
 le:n<=n'
 pi:∀a,a<n->π' a=π a
 tup:∀p vs,H p=b0 (.tup vs)->H' p=b0 (.tup vs)
 frz:∀p o u,H p=b0 (.frz o u)->H' p=b0 (.frz o u)
structure Ļ(π:Nat->Addr)(n:Nat)(H:Hp)(π':Nat->Addr)(n':Nat)(H':Hp):Prop where
 le:n<=n'
 pi:∀a,a<n->π' a=π a
 tup:∀p vs,H p=b0 (.tup vs)->H' p=b0 (.tup vs)
 frz:∀p o u,(∀φ,u≠HO.ext φ)->H p=b0 (.frz o u)->H' p=b0 (.frz o u)
section
variable{K:ZV}{π π' π2:Nat->Addr}{n n' n2:Nat}{H H' H2:Hp}
def à.weak(e:à π n H π' n' H'):Ļ π n H π' n' H':=⟨e.le,e.pi,e.tup,λp o u _ h=>e.frz p o u h⟩
def à.refl:à π n H π n H:=⟨Z2 _,λ_ _=>rfl,λ_ _ h=>h,λ_ _ _ h=>h⟩
def à.trans(a:à π n H π' n' H')(b:à π' n' H' π2 n2 H2):à π n H π2 n2 H2:=
 ⟨ė a.le b.le,λi h=>(b.pi i<|ĭ h a.le).trans<|a.pi i h,λp c h=>b.tup p c<|a.tup p c h,λp o u h=>b.frz p o u<|a.frz p o u h⟩
def Ļ.sqT(e:Ļ π n H π' n' H')(h:Ó K H p vs):Ó K H' p vs:=by
 rcases h with h|h
 .rcases h with h|⟨o,h⟩
  .show .inl<|.inl<|e.tup _ _ h
  .show .inl<|.inr ⟨o,e.frz _ _ _ (λ_ z=>nomatch z) h⟩
 .show .inr h
def à.sqT(e:à π n H π' n' H')(h:Ó K H p vs):Ó K H' p vs:=e.weak.sqT h
def Ļ.roL(e:Ļ π n H π' n' H')(h:ϴ K H p vs):ϴ K H' p vs:=by
 rcases h with⟨o,h⟩|h
 .show .inl ⟨o,e.frz _ _ _ (λ_ z=>nomatch z) h⟩
 .show .inr h
def à.roL(e:à π n H π' n' H')(h:ϴ K H p vs):ϴ K H' p vs:=e.weak.roL h
mutual
theorem Í.mono0{v:V}{d:D}(e:Ļ π n H π' n' H'):Í K π n H v d->Í K π' n' H' v d
 |.non=>.non|.bl b=>.bl b|.int i=>.int i|.str x=>.str x|.ty x=>.ty x|.tup h t=>.tup (e.sqT h) (Ã.mono0 e t)|.rol h t=>.rol (e.roL h) (Ã.mono0 e t)|.loc h=>by rw[<- e.pi _ h];show .loc<|ĭ h e.le
theorem Ã.mono0{vs:gz}{ds:List D}(e:Ļ π n H π' n' H'):Ã K π n H vs ds->Ã K π' n' H' vs ds
 |.nil=>.nil|.cons h t=>.cons (Í.mono0 e h)<|Ã.mono0 e t
end
def Í.mono(e:à π n H π' n' H')(h:Í K π n H v d):Í K π' n' H' v d:=h.mono0 e.weak
def Ã.mono(e:à π n H π' n' H')(h:Ã K π n H vs ds):Ã K π' n' H' vs ds:=h.mono0 e.weak
def Ã.length(h:Ã K π n H vs ds):vs.length=ds.length:=by
 induction ds generalizing vs with
 |nil=>cases h;rfl|cons d ds a=>
  cases h with
  |cons h t=>rw[ć,ć,a t]
def Ã.get(h:Ã K π n H vs ds){i:Nat}(e:ds[i]?=b0 d):∃v,vs[i]?=b0 v/\Í K π n H v d:=by
 induction ds generalizing vs i with
 |nil=>simp at e|cons g ds c=>
  cases h with
  |cons h t=>
   cases i with
   |zero=>simp at e;subst e;show⟨_,rfl,h⟩|succ i=>obtain⟨v,a,b⟩:=c t (by simpa using e);show⟨v,by simpa using a,b⟩
def Ã.append(h:Ã K π n H vs ds)(a:Ã K π n H ws es):Ã K π n H (vs++ws) (ds++es):=by
 induction ds generalizing vs with
 |nil=>cases h;show a|cons d ds b=>
  cases h with
  |cons h t=>show .cons h<|b t
def Ã.drop(h:Ã K π n H vs ds)k:Ã K π n H (vs.drop k) (ds.drop k):=by
 induction ds generalizing vs k with
 |nil=>cases h;simpa using Ã.nil|cons d ds a=>
  cases h with
  |cons h t=>
   cases k with
   |zero=>show .cons h t|succ k=>show a t k
def Ã.take(h:Ã K π n H vs ds)k:Ã K π n H (vs.take k) (ds.take k):=by
 induction ds generalizing vs k with
 |nil=>cases h;simpa using Ã.nil|cons d ds a=>
  cases h with
  |cons h t=>
   cases k with
   |zero=>show .nil|succ k=>show .cons h<|a t k
def Ã.atI(h:Ã K π n H vs ds)(e:L2.atI ds i=b0 d):∃v,L2.atI vs i=b0 v/\Í K π n H v d:=by
 unfold L2.atI at e ⊢;rw[h.length];cases q:gY ds.length i with
 |none=>rw[q]at e;cases e|some j=>rw[q]at e;show h.get e
end
abbrev uZ(p:Addr)(L:List Tb.El):HO:=.ext λh=>∃o,h.get? p=b0 o/\Tb.SObj L o
abbrev u6(p:List Int×Addr×V)(w:Value):DictEntry:=⟨Tb.hashT p.1,.ref p.2.1,w⟩
abbrev aS(a:Addr)(ps:List (List Int×Addr×V)):HO:=.ext λh=>∃ws:gw,Á (ps.map (·.2.2)) ws/\(a==ğ)=dI/\ps.length<=Z7 /\
 ∃o b c,h.get? a=b0 o/\o.ExactDict/\o.data=.dict b c/\b.toList=yq u6 ps ws/\(ps.map (·.1)).Nodup
structure Rp(K:ZV)(π:Nat->Addr)(H:Hp)(μ:Hm):Prop where
 inj:∀a b,a<μ.length->b<μ.length->π a=π b->a=b
 has:∀a,a<μ.length->(H<|π a).isSome=eA
 lst:∀a xs,μ[a]?=b0 (.lst xs)->∃vs,H (π a)=b0 (.lst vs)/\Ã K π μ.length H vs xs
 dK:∀a kvs,μ[a]?=b0 (.dK kvs)->∃vs,H (π a)=b0 (.dK vs)/\vs.map (·.1)=kvs.map (·.1)/\Ã K π μ.length H (vs.map (·.2)) (kvs.map (·.2))
 st:∀a ks,μ[a]?=b0 (.st ks)->∃L:List Tb.El,H (π a)=b0 (uZ (π a) L)/\L.map (·.1)=ks/\Ã K π μ.length H (L.map λp=>V.ref p.2) (ks.map λk=>D.tup<|k.map D.int)
 dT:∀a kvs,μ[a]?=b0 (.dT kvs)->∃ps:List (List Int×Addr×V),H (π a)=b0 (aS (π a) ps)/\ps.map (·.1)=kvs.map (·.1)/\Ã K π μ.length H (ps.map λp=>V.ref p.2.1) (kvs.map λk=>D.tup<|k.1.map D.int)/\Ã K π μ.length H (ps.map (·.2.2)) (kvs.map (·.2))
 dF:∀a kvs,μ[a]?=b0 (.dF kvs)->∃(ob:Obj)(ps:List (List Int×Addr×V)),H (π a)=b0 (.frz ob<|aS (π a) ps)/\ps.map (·.1)=kvs.map (·.1)/\Ã K π μ.length H (ps.map λp=>V.ref p.2.1) (kvs.map λk=>D.tup<|k.1.map D.int)/\Ã K π μ.length H (ps.map (·.2.2)) (kvs.map (·.2))
structure En(K:ZV)(π:Nat->Addr)(n:Nat)(H:Hp)(σ:St)(ρ:aF):Prop where
 len:σ.length=ρ.length
 get:∀(i:Nat)(d:D),ρ[i]?=b0 (b0 d)->∃v,σ[i]?=b0 (b0 v)/\Í K π n H v d
def En.mono(E:En K π n H σ ρ)(e:à π n H π' n' H'):En K π' n' H' σ ρ:=
 ⟨E.len,λi d h=>let⟨v,a,b⟩:=E.get i d h;⟨v,a,b.mono e⟩⟩
def En.set(E:En K π n H σ ρ)(h:Í K π n H v d)i:En K π n H (σ.set i<|b0 v) (ρ.set i<|b0 d):=by
 show⟨by rw[ξ,ξ];show E.len,λj c e=>?_⟩;rw[OB]at e ⊢;by_cases a:i=j
 .subst a;rw[if_pos rfl]at e ⊢;rw[E.len];by_cases b:i<ρ.length
  .rw[if_pos b]at e ⊢;cases e;show⟨v,rfl,h⟩
  .rw[if_neg b]at e;cases e
 .rw[if_neg a]at e ⊢;show E.get j c e
def Rp.ne(R:Rp K π H μ)(h:H p=b5)(b:a<μ.length):π a≠p:=λe=>by have:=R.has a b;rw[e,h]at this;cases this
def Rp.fresh(R:Rp K π H μ)(h:H p=b5):à π μ.length H π μ.length (upd H p o)/\Rp K π (upd H p o) μ:=by
 have c:∀b u,H b=b0 u->upd H p o b=b0 u:=λb u e=>by rw[bC<|iH e h];show e
 have e:à π μ.length H π μ.length (upd H p o):=⟨Z2 _,λ_ _=>rfl,λq i e=>c q _ e,λq o u e=>c q _ e⟩;show⟨e,R.inj,λa d=>?_,λa x d=>?_,λa g d=>?_,λa v d=>?_
  ,λa g d=>?_
  ,λa g d=>?_
  ⟩
 .rw[bC<|R.ne h d];show R.has a d
 .obtain⟨i,j,l⟩:=R.lst a x d;show⟨i,c _ _ j,l.mono e⟩
 .obtain⟨i,j,l,r⟩:=R.dK a g d;show⟨i,c _ _ j,l,r.mono e⟩
 .obtain⟨i,j,l,r⟩:=R.st a v d;show⟨i,c _ _ j,l,r.mono e⟩
 .obtain⟨i,j,l,r,s⟩:=R.dT a g d;show⟨i,c _ _ j,l,r.mono e,s.mono e⟩
 .obtain⟨w,i,j,l,r,s⟩:=R.dF a g d;show⟨w,i,c _ _ j,l,r.mono e,s.mono e⟩
abbrev sC(K:ZV)(π:Nat->Addr)(n:Nat)(H:Hp)(p:Addr):C->HO->Prop
 |.lst xs,.lst vs=>Ã K π n H vs xs|.dK kvs,.dK vs=>vs.map (·.1)=kvs.map (·.1)/\Ã K π n H (vs.map (·.2)) (kvs.map (·.2))|.st ks,o=>∃L:List Tb.El,o=uZ p L/\L.map (·.1)=ks/\Ã K π n H (L.map λp=>V.ref p.2) (ks.map λk=>D.tup<|k.map D.int)|.dT kvs,o=>∃ps:List (List Int×Addr×V),o=aS p ps/\ps.map (·.1)=kvs.map (·.1)/\Ã K π n H (ps.map λp=>V.ref p.2.1) (kvs.map λk=>D.tup<|k.1.map D.int)/\Ã K π n H (ps.map (·.2.2)) (kvs.map (·.2))|.dF kvs,o=>∃(a:Obj)(ps:List (List Int×Addr×V)),o=.frz a (aS p ps)/\ps.map (·.1)=kvs.map (·.1)/\Ã K π n H (ps.map λp=>V.ref p.2.1) (kvs.map λk=>D.tup<|k.1.map D.int)/\Ã K π n H (ps.map (·.2.2)) (kvs.map (·.2))|_,_=>False
abbrev iK(π:Nat->Addr)(n:Nat)(p:Addr):Nat->Addr:=λa=>if a=n then p else π a
def Rp.alloc(R:Rp K π H μ)(h:H p=b5)(hc:sC K π μ.length H p c o):
  à π μ.length H (iK π μ.length p) (μ++[c]).length (upd H p o)/\Rp K (iK π μ.length p) (upd H p o) (μ++[c])/\iK π μ.length p μ.length=p:=by
 have G:(μ++[c]).length=μ.length+1:=by simp
 have g:∀b u,H b=b0 u->upd H p o b=b0 u:=λb u e=>by rw[bC<|iH e h];show e
 have z:iK π μ.length p μ.length=p:=if_pos rfl;have x:∀a,a<μ.length->iK π μ.length p a=π a:=λa d=>if_neg<|ð d;have e:à π μ.length H (iK π μ.length p) (μ++[c]).length (upd H p o):=⟨by rw[G];show m8 _,x,λq s e=>g q _ e,λq o u e=>g q _ e⟩;have split:∀a,a<(μ++[c]).length->a<μ.length\/a=μ.length:=λa d=>by rw[G]at d;lia
 have get:∀a,a<μ.length->(μ++[c])[a]?=μ[a]?:=λa d=>ō d;have j:(μ++[c])[μ.length]?=b0 c:=by simp
 show⟨e,⟨λa b d B q=>?_,λa d=>?_,λa M d=>?_,λa w d=>?_,λa I d=>?_
  ,λa w d=>?_
  ,λa w d=>?_
  ⟩,z⟩
 .rcases split a d with d|rfl<;>rcases split b B with B|rfl
  .rw[x a d,x b B]at q;show R.inj a b d B q
  .rw[x a d,z]at q;show absurd q<|R.ne h d
  .rw[z,x b B]at q;show absurd q.symm<|R.ne h B
  .rfl
 .rcases split a d with d|rfl
  .rw[x a d,bC<|R.ne h d];show R.has a d
  .rw[z,cQ];rfl
 .have i:a<(μ++[c]).length:=(ZW.mp d).1;rcases split a i with r|rfl
  .rw[get a r]at d;obtain⟨s,y,l⟩:=R.lst a M d;rw[x a r];show⟨s,g _ _ y,l.mono e⟩
  .rw[j]at d;cases d;cases o with
   |lst s=>rw[z];show⟨s,cQ,Ã.mono e hc⟩|_=>show Θ hc
 .have i:a<(μ++[c]).length:=(ZW.mp d).1;rcases split a i with r|rfl
  .rw[get a r]at d;obtain⟨s,y,l,v⟩:=R.dK a w d;rw[x a r];show⟨s,g _ _ y,l,v.mono e⟩
  .rw[j]at d;cases d;cases o with
   |dK s=>rw[z];show⟨s,cQ,hc.1,Ã.mono e hc.2⟩|_=>show Θ hc
 .have i:a<(μ++[c]).length:=(ZW.mp d).1;rcases split a i with r|rfl
  .rw[get a r]at d;obtain⟨s,y,l,v⟩:=R.st a I d;rw[x a r];show⟨s,g _ _ y,l,v.mono e⟩
  .rw[j]at d;cases d;obtain⟨L,rfl,l,v⟩:=hc;rw[z];show⟨L,cQ,l,v.mono e⟩
 .have i:a<(μ++[c]).length:=(ZW.mp d).1;rcases split a i with r|rfl
  .rw[get a r]at d;obtain⟨s,y,l,v,A⟩:=R.dT a w d;rw[x a r];show⟨s,g _ _ y,l,v.mono e,A.mono e⟩
  .rw[j]at d;cases d;obtain⟨L,rfl,l,v,A⟩:=hc;rw[z];show⟨L,cQ,l,v.mono e,A.mono e⟩
 .have i:a<(μ++[c]).length:=(ZW.mp d).1;rcases split a i with r|rfl
  .rw[get a r]at d;obtain⟨E,s,y,l,v,A⟩:=R.dF a w d;rw[x a r];show⟨E,s,g _ _ y,l,v.mono e,A.mono e⟩
  .rw[j]at d;cases d;obtain⟨E,L,rfl,l,v,A⟩:=hc;rw[z];show⟨E,L,cQ,l,v.mono e,A.mono e⟩
def Rp.putU(R:Rp K π H μ)(I:a<μ.length)(B:H (π a)=b0 u)(E:(∀vs,u≠.tup vs)/\∀x v,(∀O,v≠HO.ext O)->u≠.frz x v)(hc:sC K π μ.length H (π a) c o):
  Ļ π μ.length H π (μ.set a c).length (upd H (π a) o)/\Rp K π (upd H (π a) o) (μ.set a c):=by
 have r:(μ.set a c).length=μ.length:=ξ ..;have e:Ļ π μ.length H π (μ.set a c).length (upd H (π a) o):=by
  show⟨ym r.symm,λ_ _=>rfl,λq vs z=>?_,λq Q T nx z=>?_⟩
  .rw[bC]
   .show z
   .intro e;subst e;rw[B]at z;show E.1 _<|ñ z
  .rw[bC]
   .show z
   .intro e;subst e;rw[B]at z;show E.2 _ _ nx<|ñ z
 have i:∀b,b<μ.length->b≠a->upd H (π a) o (π b)=H (π b):=λb d A=>bC λq=>A<|R.inj b a d I q;show⟨e,⟨λb G d y=>R.inj b G (r▸d)<|r▸y,λb d=>?_,λb N d=>?_,λb p d=>?_,λb M d=>?_
  ,λb p d=>?_
  ,λb p d=>?_
  ⟩⟩
 .by_cases h:b=a
  .subst h;rw[cQ];rfl
  .rw[i b (r▸d) h];show R.has b<|r▸d
 .have g:b<μ.length:=r▸(ZW.mp d).1;by_cases h:b=a
  .subst h;rw[Ν g]at d;cases d;cases o with
   |lst vs=>show⟨vs,cQ,Ã.mono0 e hc⟩|_=>show Θ hc
  .rw[Č<|ó h]at d;obtain⟨vs,s,j⟩:=R.lst b N d;show⟨vs,by rw[i b g h];show s,j.mono0 e⟩
 .have g:b<μ.length:=r▸(ZW.mp d).1;by_cases h:b=a
  .subst h;rw[Ν g]at d;cases d;cases o with
   |dK vs=>show⟨vs,cQ,hc.1,Ã.mono0 e hc.2⟩|_=>show Θ hc
  .rw[Č<|ó h]at d;obtain⟨vs,s,j,l⟩:=R.dK b p d;show⟨vs,by rw[i b g h];show s,j,l.mono0 e⟩
 .have g:b<μ.length:=r▸(ZW.mp d).1;by_cases h:b=a
  .subst h;rw[Ν g]at d;cases d;obtain⟨L,rfl,j,l⟩:=hc;show⟨L,cQ,j,l.mono0 e⟩
  .rw[Č<|ó h]at d;obtain⟨vs,s,j,l⟩:=R.st b M d;show⟨vs,by rw[i b g h];show s,j,l.mono0 e⟩
 .have g:b<μ.length:=r▸(ZW.mp d).1;by_cases h:b=a
  .subst h;rw[Ν g]at d;cases d;obtain⟨L,rfl,j,l,w⟩:=hc;show⟨L,cQ,j,l.mono0 e,w.mono0 e⟩
  .rw[Č<|ó h]at d;obtain⟨vs,s,j,l,w⟩:=R.dT b p d;show⟨vs,by rw[i b g h];show s,j,l.mono0 e,w.mono0 e⟩
 .have g:b<μ.length:=r▸(ZW.mp d).1;by_cases h:b=a
  .subst h;rw[Ν g]at d;cases d;obtain⟨x,L,rfl,j,l,w⟩:=hc;show⟨x,L,cQ,j,l.mono0 e,w.mono0 e⟩
  .rw[Č<|ó h]at d;obtain⟨x,vs,s,j,l,w⟩:=R.dF b p d;show⟨x,vs,by rw[i b g h];show s,j,l.mono0 e,w.mono0 e⟩
def Rp.put0(R:Rp K π H μ)(g:a<μ.length)(h:H (π a)=b0 u)(e:(∃vs,u=.lst vs)\/(∃vs,u=.dK vs)\/(∃d,u=.ext d)\/∃b d,u=.frz b (.ext d))(hc:sC K π μ.length H (π a) c o):
  Ļ π μ.length H π (μ.set a c).length (upd H (π a) o)/\Rp K π (upd H (π a) o) (μ.set a c):=
 R.putU g h ⟨λvs z=>(by rcases e with⟨w,rfl⟩|⟨w,rfl⟩|⟨w,rfl⟩|⟨b,w,rfl⟩<;>cases z),λb v nx z=>by
  rcases e with⟨w,rfl⟩|⟨w,rfl⟩|⟨w,rfl⟩|⟨b,w,rfl⟩<;>cases z;show nx _ rfl⟩ hc
def Rp.putE(R:Rp K π H μ)(h:a<μ.length)(d:H (π a)=b0 u)(b:(∀vs,u≠.tup vs)/\∀g v,u≠.frz g v)(hc:sC K π μ.length H (π a) c o):
  à π μ.length H π (μ.set a c).length (upd H (π a) o)/\Rp K π (upd H (π a) o) (μ.set a c):=by
 have e:à π μ.length H π (μ.set a c).length (upd H (π a) o):=by
  show⟨ym (ξ ..).symm,λ_ _=>rfl,λq vs z=>?_,λq i j z=>?_⟩
  .rw[bC]
   .show z
   .intro e;subst e;rw[d]at z;show b.1 _<|ñ z
  .rw[bC]
   .show z
   .intro e;subst e;rw[d]at z;show b.2 _ _<|ñ z
 show⟨e,(R.putU h d ⟨b.1,λg v _=>b.2 g v⟩ hc).2⟩
def Rp.put(R:Rp K π H μ)(d:a<μ.length)(e:H (π a)=b0 u)(b:(∃vs,u=.lst vs)\/(∃vs,u=.dK vs)\/∃g,u=.ext g)(hc:sC K π μ.length H (π a) c o):
  à π μ.length H π (μ.set a c).length (upd H (π a) o)/\Rp K π (upd H (π a) o) (μ.set a c):=
 R.putE d e ⟨λvs z=>(by rcases b with⟨w,rfl⟩|⟨w,rfl⟩|⟨w,rfl⟩<;>cases z),λh v z=>by rcases b with⟨w,rfl⟩|⟨w,rfl⟩|⟨w,rfl⟩<;>cases z⟩ hc
abbrev KC(K:ZV)(Q:VK)(π:Nat->Addr)(n:Nat)(H:Hp)(d:D)(μ':Hm):Prop:=
 ∀a v b,à π n H a μ'.length b->Rp K a b μ'->Í K a μ'.length b v d->Q v b
def KC.after(k:KC K Q π n H d μ')(e:à π n H a g c):KC K Q a g c d μ':=
 λb v h j R i=>k b v h (e.trans j) R i
inductive tM (K:ZV)(m:ME)(σ:St)(H:Hp)(Q:VK):Prop
 |mk (π:Nat->Addr)(ρ:aF)(μ:Hm)(d:D)(μ':Hm)(R:Rp K π H μ)(E:En K π μ.length H σ ρ)(hm:m ρ μ=b0 (d,μ'))(k:KC K Q π μ.length H d μ'):tM K m σ H Q
inductive ķ (K:ZV)(m:MT)(σ:St)(H:Hp)(Q:Bool->Hp->Prop):Prop
 |mk (π:Nat->Addr)(ρ:aF)(μ:Hm)(b:Bool)(μ':Hm)(R:Rp K π H μ)(E:En K π μ.length H σ ρ)(hm:m ρ μ=b0 (b,μ'))(k:∀π' H',à π μ.length H π' μ'.length H'->Rp K π' H' μ'->Q b H'):ķ K m σ H Q
inductive Ŭ (K:ZV)(m:MA)(σ:St)(H:Hp)(Q:gz->Hp->Prop):Prop
 |mk (π:Nat->Addr)(ρ:aF)(μ:Hm)(ds:List D)(μ':Hm)(R:Rp K π H μ)(E:En K π μ.length H σ ρ)(hm:m ρ μ=b0 (ds,μ'))(k:∀π' vs H',à π μ.length H π' μ'.length H'->Rp K π' H' μ'->Ã K π' μ'.length H' vs ds->Q vs H'):Ŭ K m σ H Q
abbrev n9(K:ZV)(E:ς)(π:Nat->Addr)(n:Nat)(H:Hp)(g:Fl)(e:aF)(μ':Hm):Prop:=
 match g with
 |.nx=>∀a b c,à π n H a μ'.length c->Rp K a c μ'->En K a μ'.length c b e->E.nx b c|.bk=>∀a b c,à π n H a μ'.length c->Rp K a c μ'->En K a μ'.length c b e->E.bk b c|.ct=>∀a b c,à π n H a μ'.length c->Rp K a c μ'->En K a μ'.length c b e->E.ct b c|.rt d=>KC K E.rt π n H d μ'
inductive ľ (K:ZV)(m:MS)(E:ς)(σ:St)(H:Hp):Prop
 |mk (π:Nat->Addr)(ρ:aF)(μ:Hm)(fl:Fl)(ρ':aF)(μ':Hm)(R:Rp K π H μ)(EN:En K π μ.length H σ ρ)(hm:m ρ μ=b0 (fl,ρ',μ'))(k:n9 K E π μ.length H fl ρ' μ'):ľ K m E σ H
inductive wu (K:ZV)(f:MF)(vs:gz)(H:Hp)(Q:VK):Prop
 |mk (π:Nat->Addr)(ds:List D)(μ:Hm)(d:D)(μ':Hm)(R:Rp K π H μ)(i:Ã K π μ.length H vs ds)(hm:f ds μ=b0 (d,μ'))(k:KC K Q π μ.length H d μ'):wu K f vs H Q
abbrev jD(K:ZV)(k:Nat)(f:MF):Sp:=λvs H Q _=>vs.length=k/\wu K f vs H Q
def cU(h:PE X e t)(hw:∀σ H Q,tM X.K m σ H Q->t σ H Q):PE X e (tM X.K m):=λDn s σ H Q I q=>h Dn s σ H Q I<|hw σ H Q q
def u7(h:PT X e t)(hw:∀σ H Q,ķ X.K m σ H Q->t σ H Q):PT X e (ķ X.K m):=λDn s σ H Q I q=>h Dn s σ H Q I<|hw σ H Q q
def DS(h:PW X e t)(hw:∀σ H Q,ķ X.K m σ H Q->t σ H Q):PW X e (ķ X.K m):=λd Dn s σ H Q I q=>h d Dn s σ H Q I<|hw σ H Q q
def DT(h:PA X es t)(hw:∀σ H Q,Ŭ X.K m σ H Q->t σ H Q):PA X es (Ŭ X.K m):=λp Dn s σ H Q I q=>h p Dn s σ H Q I<|hw σ H Q q
def iL(h:PS X st t)(hw:∀E σ H,ľ X.K m E σ H->t E σ H):PS X st (ľ X.K m):=λDn s σ H E I q=>h Dn s σ H E I<|hw E σ H q
def DU(h:Ņ X st t)(hw:∀E σ H,ľ X.K m E σ H->t E σ H):Ņ X st (ľ X.K m):=λDn s σ H E I q=>h Dn s σ H E I<|hw E σ H q
abbrev aA(i:Nat):ME:=λh g=>match h[i]? with|some (b0 d)=>b0 (d,g)|_=>b5
abbrev mC(d:D):ME:=λ_ g=>b0 (d,g)
def a8C(h:aA i j g=b0 (d,μ')):j[i]?=b0 (b0 d)/\μ'=g:=by
 unfold aA at h;split at h
 .rename_i l e;cases h;show⟨e,rfl⟩
 .cases h
def a8B i(h:PE X (.Name x pos) (yL i)):PE X (.Name x pos) (tM X.K<|aA i):=cU h<|by
 rintro u H Q ⟨p,s,r,d,o,R,E,n,k⟩;obtain⟨g,rfl⟩:=a8C n;obtain⟨v,j,l⟩:=E.get i d g;show⟨v,j,k p v H .refl R l⟩
def pR(h:PE X e (tC v))(hd:∀π n H,Í X.K π n H v d):PE X e (tM X.K<|mC d):=cU h<|by
 rintro p H Q ⟨π,o,l,j,i,R,E,g,k⟩;cases g;show k π v H .refl R<|hd _ _ _
def b1m:PE X (.Constant (.int i) j pos) (tM X.K<|mC<|.int i):=pR a6p λ_ _ _=>.int i
def b1j:PE X (.Constant (.bool i) j pos) (tM X.K<|mC<|.bl i):=pR a6i λ_ _ _=>.bl i
def b1i:PE X (.Constant (.str i) j pos) (tM X.K<|mC<|.str i):=pR a6a λ_ _ _=>.str i
def b1g:PE X (.Constant .none j pos) (tM X.K<|mC .non):=pR a6d λ_ _ _=>.non
abbrev aC(f:D->D->Hm->jk)(a b:ME):ME:=λd g=>(a d g).bind λp=>(b d p.2).bind λq=>f p.1 q.1 q.2
abbrev cZ(K:ZV)(f:D->D->Hm->jk)(r:R2):Prop:=
 ∀i H g x y d h j l Q,Rp K i H g->Í K i g.length H j x->Í K i g.length H l y->f x y g=b0 (d,h)->KC K Q i g.length H d h->r j l H Q
def pS(A:cZ K f r):∀σ H Q,tM K (aC f ma mb) σ H Q->r8 r (tM K ma) (tM K mb) σ H Q:=by rintro σ H Q ⟨N,s,M,d,j,R,E,g,k⟩;obtain⟨⟨x,h⟩,w,g⟩:=ZS.mp g;obtain⟨⟨y,i⟩,z,g⟩:=ZS.mp g;show⟨N,s,M,x,h,R,E,w,λl I O o v B=>⟨l,s,h,y,i,v,E.mono o,z,λn L u p R2 G=>A n u i x y d j I L Q R2 (B.mono p) G g<|k.after<|o.trans p⟩⟩
def b1d(i:ÿ X (υ op) r)(h:cZ X.K f r)(d:PE X a (tM X.K ma))(g:PE X b (tM X.K mb)):PE X (.BinOp a op b pos) (tM X.K<|aC f ma mb):=
 cU (a9g i d g)<|pS h
def fP(j:ÿ X (Ĥ op) r)(h:cZ X.K f r)(d:PE X a (tM X.K ma))(g:PE X b (tM X.K mb))(i:dw op b=dI):PE X (.Compare a [op] [b] pos) (tM X.K<|aC f ma mb):=
 cU (a8e j d g i)<|pS h
abbrev aR(m:ME):MT:=λg d=>(m g d).bind λp=>match p.1 with|.bl b=>b0 (b,p.2)|_=>b5
def DV:∀σ H Q,ķ K (aR m) σ H Q->tM K m σ H λx g=>∃k,x=.bl k/\Q k g:=by
 rintro σ H Q ⟨s,u,o,b,p,R,E,d,k⟩;obtain⟨⟨x,r⟩,l,d⟩:=ZS.mp d;cases x with
 |bl c=>cases d;show⟨s,u,o,_,_,R,E,l,λh v g j i n=>?_⟩;cases n;show⟨_,rfl,k h g j i⟩|_=>cases d
def fQ(n:ÿ X (Ĥ op) r)(j:cZ X.K f r)(g:PE X a (tM X.K ma))(i:PE X b (tM X.K mb))(l:dw op b=dI):PT X (.Compare a [op] [b] pos) (ķ X.K<|aR<|aC f ma mb):=
 u7 (a5K n g i l) λd H Q h=>pS j d H _<|DV d H Q h
section
variable{X:Cx}{e a b c:Expr}{m ma mb mc:ME}{pos:ß}{mt mu:MT}{Ä:List Expr}
abbrev fR(a b:MT):MT:=λd g=>(a d g).bind λp=>match p.1 with|true=>b d p.2|false=>b0 (dI,p.2)
abbrev iM(a b:MT):MT:=λd g=>(a d g).bind λp=>match p.1 with|true=>b0 (eA,p.2)|false=>b d p.2
abbrev iN(a:MT):MT:=λg d=>(a g d).map λp=>(!p.1,p.2)
def b1b(d:PT X a (ķ X.K mt)):PW X (.BoolOp .And [a] pos) (ķ X.K mt):=a6C d
def b1a(d:PT X a (ķ X.K mt)):PW X (.BoolOp .Or [a] pos) (ķ X.K mt):=a5z d
def b1V(w:PT X a (ķ X.K mt))(y:PW X (.BoolOp .And (b::Ä) pos) (ķ X.K mu)):PW X (.BoolOp .And (a::b::Ä) pos) (ķ X.K<|fR mt mu):=DS (a5y w y)<|by
 rintro B H Q ⟨A,p,z,d,l,R,E,i,k⟩;obtain⟨⟨x,g⟩,v,i⟩:=ZS.mp i;show⟨A,p,z,x,g,R,E,v,λh r j o=>?_⟩;cases x with
 |true=>show mI ?_;show⟨h,p,g,d,l,o,E.mono j,i,λn s u R2=>k n s (j.trans u) R2⟩|false=>
  show mH ?_;cases i;show k h r j o
def b1U(w:PT X a (ķ X.K mt))(y:PW X (.BoolOp .Or (b::Ä) pos) (ķ X.K mu)):PW X (.BoolOp .Or (a::b::Ä) pos) (ķ X.K<|iM mt mu):=DS (b0O w y)<|by
 rintro B H Q ⟨A,p,z,d,l,R,E,i,k⟩;obtain⟨⟨x,g⟩,v,i⟩:=ZS.mp i;show⟨A,p,z,x,g,R,E,v,λh r j o=>?_⟩;cases x with
 |true=>show mI ?_;cases i;show k h r j o|false=>
  show mH ?_;show⟨h,p,g,d,l,o,E.mono j,i,λn s u R2=>k n s (j.trans u) R2⟩
def b1T(p:PT X a (ķ X.K mt)):PT X (.UnaryOp .Not a pos) (ķ X.K<|iN mt):=u7 (b0N p)<|by
 rintro w H Q ⟨u,v,r,d,s,R,E,g,k⟩;obtain⟨⟨x,h⟩,o,g⟩:=ZX.mp g;cases g;show⟨u,v,r,x,h,R,E,o,λi j n l=>k i j n l⟩
abbrev d7(a b:ME):ME:=λd g=>(a d g).bind λp=>match p.1 with|.bl eA=>b d p.2|.bl dI=>b0 (.bl dI,p.2)|_=>b5
abbrev zN(a b:ME):ME:=λd g=>(a d g).bind λp=>match p.1 with|.bl eA=>b0 (.bl eA,p.2)|.bl dI=>b d p.2|_=>b5
abbrev pT(a:ME):ME:=λg d=>(a g d).bind λp=>match p.1 with|.bl b=>b0 (.bl<|!b,p.2)|_=>b5
def b1R(h:PE X a (tM X.K m)):PE X (.BoolOp op [a] pos) (tM X.K m):=a9u h
def b1Q(s:PE X a (tM X.K ma))(u:PE X (.BoolOp .And (b::Ä) pos) (tM X.K mb)):PE X (.BoolOp .And (a::b::Ä) pos) (tM X.K<|d7 ma mb):=cU (a9f s u)<|by
 rintro A H Q ⟨y,o,w,d,l,R,E,g,k⟩;obtain⟨⟨x,h⟩,r,g⟩:=ZS.mp g;cases x with
 |bl c=>
  show⟨y,o,w,.bl c,h,R,E,r,λi z p j n v=>?_⟩;cases v;show⟨c,rfl,?_⟩;cases c with
  |true=>show mI ?_;show⟨i,o,h,d,l,n,E.mono j,g,k.after j⟩|false=>show mH ?_;cases g;show k i _ p j n<|.bl dI
 |_=>cases g
def b1M(s:PE X a (tM X.K ma))(u:PE X (.BoolOp .Or (b::Ä) pos) (tM X.K mb)):PE X (.BoolOp .Or (a::b::Ä) pos) (tM X.K<|zN ma mb):=cU (a8m s u)<|by
 rintro A H Q ⟨y,o,w,d,l,R,E,g,k⟩;obtain⟨⟨x,h⟩,r,g⟩:=ZS.mp g;cases x with
 |bl c=>
  show⟨y,o,w,.bl c,h,R,E,r,λi z p j n v=>?_⟩;cases v;show⟨c,rfl,?_⟩;cases c with
  |true=>show mI ?_;cases g;show k i _ p j n (.bl eA)|false=>show mH ?_;show⟨i,o,h,d,l,n,E.mono j,g,k.after j⟩
 |_=>cases g
def b1L(o:PE X a (tM X.K ma)):PE X (.UnaryOp .Not a pos) (tM X.K<|pT ma):=cU (a8l o)<|by
 rintro z H Q ⟨v,w,r,d,s,R,E,g,k⟩;obtain⟨⟨x,u⟩,n,g⟩:=ZS.mp g;cases x with
 |bl c=>cases g;show⟨v,w,r,_,_,R,E,n,λh y i l j p=>?_⟩;cases p;show⟨_,rfl,k h _ i l j<|.bl _⟩
 |_=>cases g
abbrev gN(t:MT)(a b:ME):ME:=λd g=>(t d g).bind λp=>match p.1 with|true=>a d p.2|false=>b d p.2
def b1K(hc:PT X c (ķ X.K mt))(r:PE X a (tM X.K ma))(s:PE X b (tM X.K mb)):PE X (.IfExp c a b pos) (tM X.K<|gN mt ma mb):=cU (a8J hc r s)<|by
 rintro y H Q ⟨v,n,u,d,h,R,E,l,k⟩;obtain⟨⟨x,g⟩,p,l⟩:=ZS.mp l;show⟨v,n,u,x,g,R,E,p,λi w j o=>?_⟩;cases x with
 |true=>show mI ?_;show⟨i,n,g,d,h,o,E.mono j,l,k.after j⟩|false=>
  show mH ?_;show⟨i,n,g,d,h,o,E.mono j,l,k.after j⟩
abbrev aD:MA:=λ_ d=>b0 ([],d)
abbrev aB(a:ME)(r:MA):MA:=λd g=>(a d g).bind λp=>(r d p.2).bind λq=>b0 (p.1::q.1,q.2)
variable{es:List Expr}{ms:MA}
def b1J:PA X [] (Ŭ X.K aD):=DT a4i<|by
 rintro n H Q ⟨i,l,j,d,h,R,E,g,k⟩;cases g;show k i [] H .refl R .nil
def b1H(w:PE X e (tM X.K m))(y:PA X es (Ŭ X.K ms))(z:æ (e::es) X.env=(dI,eval e X.env)::æ es X.env:=by rfl):PA X (e::es) (Ŭ X.K<|aB m ms):=DT (a4U w y z)<|by
 rintro T H Q ⟨L,p,I,d,K,R,E,g,k⟩;obtain⟨⟨x,h⟩,u,g⟩:=ZS.mp g;obtain⟨⟨G,i⟩,v,g⟩:=ZS.mp g;cases g;show⟨L,p,I,x,h,R,E,u,λj N M n s A=>⟨j,p,h,G,i,s,E.mono n,v,λl O r o R2 B=>k l _ r (n.trans o) R2<|.cons (A.mono o) B⟩⟩
abbrev aW(ms:MA):ME:=λg d=>(ms g d).bind λp=>if p.1.length<=Z7 then b0 (.tup p.1,p.2)else b5
abbrev bU(ms:MA):ME:=λg d=>(ms g d).bind λp=>if p.1.length<=Z7 then b0 (.loc p.2.length,p.2++[.lst p.1])else b5
def b1F(h:PA X es (Ŭ X.K ms)):PE X (.Tuple es w pos) (tM X.K<|aW ms):=cU (a3X h)<|by
 rintro K H Q ⟨A,B,x,d,y,R,E,g,k⟩;obtain⟨⟨I,z⟩,r,g⟩:=ZS.mp g;split at g
 .rename_i s;cases g;show⟨A,B,x,_,_,R,E,r,λi v G o n l=>⟨by rw[l.length];show s,λp u=>?_⟩⟩;obtain⟨j,R2⟩:=n.fresh (o:=.tup v) u;show k i _ _ (o.trans j) R2<|.tup (.of cQ)<|l.mono j
 .cases g
def b1E(h:PA X es (Ŭ X.K ms)):PE X (.List es pos) (tM X.K<|bU ms):=cU (a3O h)<|by
 rintro K H Q ⟨G,I,A,d,B,R,E,i,k⟩;obtain⟨⟨l,g⟩,w,i⟩:=ZS.mp i;split at i
 .rename_i x;cases i;show⟨G,I,A,l,g,R,E,w,λj n o u s r=>⟨by rw[r.length];show x,λp y=>?_⟩⟩;obtain⟨v,R2,q⟩:=s.alloc (c:=.lst l) (o:=.lst n) y r;have z:Í X.K (iK j g.length p) (g++[C.lst l]).length (upd o p<|.lst n) (.ref p) (.loc g.length):=by have:=Í.loc (K:=X.K) (π:=iK j g.length p) (n:=(g++[C.lst l]).length) (H:=upd o p (.lst n)) (a:=g.length) (by simp);rw[q]at this;show this
  show k _ _ _ (u.trans v) R2 z
 .cases i
abbrev aG(f:MF)(ms:MA):ME:=λg d=>(ms g d).bind λp=>f p.1 p.2
def b1C(w:∀i h ds μ',ms i h=b0 (ds,μ')->ds.length=n):∀σ H Q,tM K (aG f ms) σ H Q->yZ (jD K n f) [] E (Ŭ K ms) σ H Q:=by rintro σ H Q ⟨y,i,h,d,μ',R,E,j,k⟩;obtain⟨⟨l,g⟩,p,j⟩:=ZS.mp j;show⟨y,i,h,l,g,R,E,p,λo x s v u r=>?_⟩;change jD K n f (x++[]) s Q _;rw[Ň];show⟨by rw[r.length];show w i h l g p,o,l,g,d,μ',u,r,j,k.after v⟩
def b1B:∀g d ds μ',aD g d=b0 (ds,μ')->ds.length=0:=by intro g d ds μ' h;cases h;rfl
def b1A(h:∀g i ds μ',ms g i=b0 (ds,μ')->ds.length=n):∀g i ds μ',aB m ms g i=b0 (ds,μ')->ds.length=n+1:=by intro g i ds μ' d;obtain⟨⟨x,j⟩,r,d⟩:=ZS.mp d;obtain⟨⟨o,p⟩,l,d⟩:=ZS.mp d;cases d;rw[ć,h g j o _ l]
def b0v(F:ī X.prog X.w X.K X.mg X.base gC k f i ps (jD X.K n j))(y:Ô k X.A)(s:Gl X x)(v:X.mg x=b0 (.ref f))(u:Ϛ X.K (.ref f)=eA)(o:Ď X.K i ps [])(l:PA X (e::es) (Ŭ X.K ms))(w:∀A z ds h,ms A z=b0 (ds,h)->ds.length=n)(d:(x==("__debug__":Str))=false:=by decide)(r:æ (e::es) X.env=(dI,eval e X.env)::æ es X.env:=by rfl)(g:(ĸ pos<|æ es X.env).any (·.1)=false:=by rfl):
  PE X (.Call (.Name x p) (e::es) [] pos) (tM X.K<|aG j ms):=
 cU (a3I F y s v u o .nil (E:=E0) DK l d r g)<|b1C w
abbrev d8(K:ZV)(f:MF)(r:gz->Hp->VK->Prop):Prop:=
 ∀i H h l d g j Q,Rp K i H h->Ã K i h.length H j l->f l h=b0 (d,g)->KC K Q i h.length H d g->r j H Q
def zO(u:d8 K f r):∀σ H Q,tM K (aG f ms) σ H Q->uT r (Ŭ K ms) σ H Q:=by rintro σ H Q ⟨y,z,x,d,i,R,E,h,k⟩;obtain⟨⟨l,g⟩,s,h⟩:=ZS.mp h;show⟨y,z,x,l,g,R,E,s,λj w n p o v=>u j n g l d i w Q o v h<|k.after p⟩
def BmI{id:String}(hc:Î X (.builtin id) r)(j:d8 X.K f r)(l:Gl X x)(n:X.mg x=b5)(s:Ż x=b0 (.builtin id))(h:PA X (e::es) (Ŭ X.K ms))(o:x ≠ "__name__":=by decide)(d:(x==("__debug__":Str))=false:=by decide)(i:æ (e::es) X.env=(dI,eval e X.env)::æ es X.env:=by rfl)(g:(ĸ pos<|æ es X.env).any (·.1)=false:=by rfl):PE X (.Call (.Name x p) (e::es) [] pos) (tM X.K<|aG f ms):=
 cU (mkS hc l n s h o d i g)<|zO j
def h16(hc:Î X (.type T) r)(j:d8 X.K f r)(l:Gl X x)(n:X.mg x=b5)(s:Ż x=b0 (.type T))(h:PA X (e::es) (Ŭ X.K ms))(o:x ≠ "__name__":=by decide)(d:(x==("__debug__":Str))=false:=by decide)(i:æ (e::es) X.env=(dI,eval e X.env)::æ es X.env:=by rfl)(g:(ĸ pos<|æ es X.env).any (·.1)=false:=by rfl):PE X (.Call (.Name x p) (e::es) [] pos) (tM X.K<|aG f ms):=
 cU (i10 hc l n s h o d i g)<|zO j
abbrev bL(d:Hm):D->Option (List D)
 |.tup xs=>b0 xs|.rol xs=>b0 xs|.loc a=>match d[a]? with|some (.lst xs)=>b0 xs|_=>b5
 |_=>b5
abbrev gZ:D->D->Hm->jk
 |.str z,.int i,μ=>if z.length<=Z7 then(atI z.cps.toList i).map λc=>(.str ⟨#[c]⟩,μ)else b5|x,.int i,μ=>(bL μ x).bind λg=>(atI g i).map λd=>(d,μ)|_,_,_=>b5
def dMT:cZ K gZ (Dz K):=by
 intro p H T x y d I N O Q R s E g k;cases E with
 |int i=>
  cases s with
  |str z=>
   simp only[gZ]at g;split at g
   .rename_i A;obtain⟨c,j,l⟩:=ZX.mp g;cases l;show .inr<|.inr ⟨z,i,c,rfl,rfl,A,j,k p _ H .refl R<|.str _⟩
   .cases g
  |tup h t=>simp only[gZ,bL,Ē]at g;obtain⟨r,j,l⟩:=ZX.mp g;cases l;obtain⟨v,n,o⟩:=t.atI j;show .inr (.inl ⟨_,_,i,v,rfl,rfl,h,n,k p _ H .refl R o⟩)|rol h t=>simp only[gZ,bL,Ē]at g;obtain⟨r,j,l⟩:=ZX.mp g;cases l;obtain⟨v,n,o⟩:=t.atI j;show .inl ⟨_,_,i,v,rfl,rfl,h.sq,n,k p _ H .refl R o⟩|@loc a L=>
   simp only[gZ,bL]at g;split at g
   .rename_i G B;simp only[Ē]at g;obtain⟨r,j,l⟩:=ZX.mp g;cases l;obtain⟨M,u,w⟩:=R.lst a G B;obtain⟨v,n,o⟩:=w.atI j;show .inl ⟨_,_,i,v,rfl,rfl,.of u,n,k p _ H .refl R o⟩
   .cases g
  |_=>simp[gZ,bL]at g
 |_=>cases s<;>simp[gZ]at g
def b2r(d:PE X a (tM X.K ma))(g:PE X b (tM X.K mb))(h:zH b):PE X (.Subscript a b pos) (tM X.K<|aC gZ ma mb):=cU (a5Y a5U d g h)<|pS dMT
abbrev jX(xs:List D)(lo d:Option Int):List D:=(xs.drop<|HT.sIx xs.length 0 lo).take<|HT.sIx xs.length xs.length d-HT.sIx xs.length 0 lo
noncomputable abbrev MO:=aF->Hm->Option (Option Int×Hm)
abbrev jE:MO:=λ_ d=>b0 (b5,d)
abbrev jF(m:ME):MO:=λg d=>(m g d).bind λp=>match p.1 with|.int i=>b0 (b0 i,p.2)|_=>b5
inductive qj (K:ZV)(m:MO)(σ:St)(H:Hp)(Q:Option Int->Hp->Prop):Prop
 |mk (π:Nat->Addr)(ρ:aF)(μ:Hm)(o:Option Int)(μ':Hm)(R:Rp K π H μ)(E:En K π μ.length H σ ρ)(hm:m ρ μ=b0 (o,μ'))(k:∀π' H',à π μ.length H π' μ'.length H'->Rp K π' H' μ'->Q o H'):qj K m σ H Q
def b2e:PO X b5 (qj X.K jE):=λDn s σ H Q I q=>a5u Dn s σ H Q I<|by
 obtain⟨h,j,i,o,g,R,E,d,k⟩:=q;cases d;show k h H .refl R
def b2d(h:PE X e (tM X.K m)):PO X (b0 e) (qj X.K<|jF m):=λDn s σ H Q I q=>a5r h Dn s σ H Q I<|by
 obtain⟨y,z,u,o,v,R,E,d,k⟩:=q;obtain⟨⟨x,w⟩,p,d⟩:=ZS.mp d;cases x with
 |int i=>cases d;show⟨y,z,u,_,_,R,E,p,λg A j n l r=>?_⟩;cases r;show⟨_,rfl,k g j n l⟩
 |_=>cases d
noncomputable abbrev DW(K:ZV):V->Option Int->Option Int->Hp->VK->Prop:=zJ K
def b2c:zF X (DW X.K):=a8A
def DX(h:zJ K x lo d H Q):DW K x lo d H Q:=h
abbrev oA(a:ME)(lo g:MO):ME:=λd i=>(a d i).bind λp=>(lo d p.2).bind λq=>(g d q.2).bind λr=>
 match p.1 with
 |.tup _=>b5|x=>(bL r.2 x).bind λh=>b0 (.loc r.2.length,r.2++[.lst<|jX h q.1 r.1])
def DY(h:Ã K π n H vs ds)lo d:Ã K π n H (mG vs lo d) (jX ds lo d):=by unfold mG jX;rw[h.length];show(h.drop _).take _
def jY{d:Hm}{c:C}:Í K (iK π d.length p) (d++[c]).length H (.ref p) (.loc d.length):=by have:=Í.loc (K:=K) (π:=iK π d.length p) (n:=(d++[c]).length) (H:=H) (a:=d.length) (by simp);rw[show iK π d.length p d.length=p from if_pos rfl]at this;show this
def b2b(ha:PE X a (tM X.K ma))(hl:PO X lo (qj X.K M))(hu:PO X K (qj X.K L)):PE X (.Subscript a (.Slice lo K b5 p2) pos) (tM X.K<|oA ma M L):=cU (a5j b2c ha hl hu)<|by
 rintro σ H Q ⟨π,I,μ,d,μ',R,E,g,k⟩;obtain⟨⟨x,j⟩,T,g⟩:=ZS.mp g;obtain⟨⟨l,n⟩,U,g⟩:=ZS.mp g;obtain⟨⟨u,A⟩,Y,g⟩:=ZS.mp g;show⟨π,I,μ,x,j,R,E,T,λB v1 H1 o O i1=>⟨B,I,j,l,n,O,E.mono o,U,λG H2 r R2=>⟨G,I,n,u,A,R2,(E.mono o).mono r,Y,λπ3 H3 w s=>?_⟩⟩⟩;have i3:=(i1.mono r).mono w;cases i3 with
 |rol h t=>simp only[bL,Ē]at g;cases g;show DX ⟨_,_,rfl,h.sq,λp z=>?_⟩;obtain⟨y,v,q⟩:=s.alloc (c:=.lst (jX _ l u)) (o:=.lst (mG _ l u)) z<|DY t l u;show k _ _ _ (((o.trans r).trans w).trans y) v jY|@loc i hi'=>
  simp only[bL]at g;split at g
  .rename_i N hx;simp only[Ē]at g;cases g;obtain⟨vs,Z,h6⟩:=s.lst i N hx;show DX ⟨_,_,rfl,.of Z,λp z=>?_⟩;obtain⟨y,v,q⟩:=s.alloc (c:=.lst (jX N l u)) (o:=.lst (mG vs l u)) z<|DY h6 l u;show k _ _ _ (((o.trans r).trans w).trans y) v jY
  .cases g
 |tup h t=>simp at g
 |_=>simp[bL]at g
end
abbrev bI:MS:=λg d=>b0 (.nx,g,d)
abbrev aH(a b:MS):MS:=λg d=>(a g d).bind λp=>match p.1 with|.nx=>b p.2.1 p.2.2|_=>b0 p
abbrev aN(m:ME):MS:=λd g=>(m d g).map λp=>(.rt p.1,d,p.2)
abbrev cV(m:ME):MS:=λd g=>(m d g).map λp=>(.nx,d,p.2)
abbrev bG(t:MT)(a b:MS):MS:=λd g=>(t d g).bind λp=>match p.1 with|true=>a d p.2|false=>b d p.2
abbrev aM(i:Nat)(m:ME):MS:=λd g=>(m d g).map λp=>(.nx,d.set i<|b0 p.1,p.2)
def b2a:Ņ X [] (ľ X.K bI):=DU a7h<|by
 rintro E l H ⟨i,p,o,n,j,h,R,d,g,k⟩;cases g;show k i l H .refl R d
def b2M{Ä:List Stmt}(h1:PS X st (ľ X.K ms))(B:Ņ X Ä (ľ X.K mr)):Ņ X (st::Ä) (ľ X.K<|aH ms mr):=DU (a7g h1 B)<|by
 rintro E N H ⟨I,K,G,x,v,s,R,z,i,k⟩;obtain⟨⟨w,p,o⟩,h1,i⟩:=ZS.mp i;show⟨I,K,G,w,p,o,R,z,h1,?_⟩;cases w with
 |nx=>
  intro u L M r A y;show⟨u,p,o,x,v,s,A,y,i,?_⟩;cases x with
  |nx=>show λg h l n R2 j=>k g h l (r.trans n) R2 j|bk=>show λg h l n R2 j=>k g h l (r.trans n) R2 j|ct=>show λg h l n R2 j=>k g h l (r.trans n) R2 j|rt d=>show KC.after k r
 |rt d=>cases i;show k|bk=>cases i;show k
 |ct=>cases i;show k
def b2L(h1:PS X st (ľ X.K ms)):Ņ X [st] (ľ X.K ms):=a7f h1
def b2H:PS X (.Pass pos) (ľ X.K bI):=iL e10<|by
 rintro E l H ⟨i,p,o,n,j,h,R,d,g,k⟩;cases g;show k i l H .refl R d
def b2E(j:PE X e (tM X.K m)):PS X (.Return (b0 e) pos) (ľ X.K<|aN m):=iL (b2F j)<|by
 rintro E u H ⟨o,p,l,s,r,n,R,h,d,k⟩;obtain⟨⟨x,g⟩,i,d⟩:=ZX.mp d;cases d;show⟨o,p,l,x,g,R,h,i,k⟩
def b2D(p:PE X e (tM X.K m))(r:Ϧ e b5 pos.line X.env=pure false:=by rfl):PS X (.Expr e pos) (ľ X.K<|cV m):=iL (b2J p r)<|by
 rintro E z H ⟨v,w,s,A,y,u,R,i,d,k⟩;obtain⟨⟨x,g⟩,o,d⟩:=ZX.mp d;cases d;show⟨v,w,s,x,g,R,i,o,λh G l j n B=>k h z l j n<|i.mono j⟩
def b2C{mt:MT}(hc:PT X c (ķ X.K mt))(I:Ņ X body (ľ X.K ms))(K:Ņ X orelse (ľ X.K mu)):PS X (.If c body orelse pos) (ľ X.K<|bG mt ms mu):=iL (b0z hc I K)<|by
 rintro E N H ⟨M,y,L,u,n,j,R,w,v,k⟩;obtain⟨⟨x,i⟩,G,v⟩:=ZS.mp v;show⟨M,y,L,x,i,R,w,G,λl B o z=>?_⟩;have A:n9 X.K E l i.length B u n j:=by
  cases u with
  |nx=>show λg h r s R2 p=>k g h r (o.trans s) R2 p|bk=>show λg h r s R2 p=>k g h r (o.trans s) R2 p|ct=>show λg h r s R2 p=>k g h r (o.trans s) R2 p|rt d=>show KC.after k o
 cases x with
 |true=>show mI ?_;show⟨l,y,i,u,n,j,z,w.mono o,v,A⟩|false=>
  show mH ?_;show⟨l,y,i,u,n,j,z,w.mono o,v,A⟩
def DZ(s:X.N.Nodup)(w:X.N[i]?=b0 x)(z:Loc X.env.scope x)(u:PE X e (tM X.K m))(y:Ϧ e (b0<|.Name x d) pos.line X.env=pure false:=by rfl)(v:X.fn x=eA\/X.env.scope.names.lookup x=b0 .local:=by first|show .inl rfl|show .inr rfl|assumption):PS X (.Assign [.Name x d] e pos) (ľ X.K<|aM i m):=iL (b1h s w z u y v)<|by
 rintro E O H ⟨I,K,B,M,L,G,R,l,g,k⟩;obtain⟨⟨x,h⟩,r,g⟩:=ZX.mp g;cases g;show⟨I,K,B,x,h,R,l,r,λj N o n p A=>k j _ o n p<|(l.mono n).set A i⟩
abbrev u9(n:Nat)(ds:List D):aF:=ds.map b0++aa (n-ds.length) b5
abbrev zP(n:Nat)(m:MS):MF:=λds a=>(m (u9 n ds) a).bind λp=>match p.1 with|.rt d=>b0 (d,p.2.2)|.nx=>b0 (.non,p.2.2)|_=>b5
def b1z(h:Ã K π n H vs ds)(p:vs.length<=N.length):En K π n H (L2.start N vs) (u9 N.length ds):=by
 have a:=h.length;show⟨by simp[L2.start,u9,a],λi d e=>?_⟩;unfold u9 at e;unfold L2.start;by_cases b:i<ds.length
 .rw[ō<|by simpa using b,þ]at e;obtain⟨o,c,g⟩:=ZX.mp e;cases g;obtain⟨v,j,l⟩:=h.get c;show⟨v,by rw[ō<|by rw[ZT,a];show b,þ,j];rfl,l⟩
 .rw[Ž<|by simpa using km.mp b]at e;have:=zr (n:=N.length-ds.length) (a:=(b5:Option D)) (i:=i-(ds.map b0).length);rw[this]at e;split at e<;>simp at e
def b1y(F:ϑ K x a st f o)(S:Ĕ N ps (cG st))(g:ps.length<=N.length)(c:∀b A outer s H E,Ô k (A.deeper<|Q0 a (cG st) s.heap.objs.size f b)->
   Ņ (k7 gC P w K mg base N a (cG st) f b A outer s H E).nox (fN st) (ľ K m)):ī P w K mg base gC (k+1) f o ps (jD K ps.length<|zP N.length m):=by
 show F.ok S (λI H Q E h=>h.1) λb A outer s H I Q E B h=>⟨_,c b A outer s H E B,?_⟩;obtain⟨G,O,ds,L,d,M,R,i,e,r⟩:=h;obtain⟨⟨p,n,j⟩,z,e⟩:=ZS.mp e;show⟨O,_,L,p,n,j,R,b1z i<|by rw[G];show g,z,?_⟩;cases p with
 |rt X=>cases e;show r|nx=>cases e;show λl T u y v U=>r l .non u y v .non|bk=>cases e|ct=>cases e
open SeqAt (EqAt RcAt RcNeAt)
inductive KD where
 |non|bl (b:Bool)|int (i:Int)|str (x:Str)|tup (n:Nat)|lst (n:Nat)
inductive Α (s:ZZ):Value->KD->Prop where
 |non:Α s .none .non
 |bl (b:Bool):Α s (.bool b)<|.bl b
 |int (i:Int)(t:Ϻ):Α s (.int i t)<|.int i
 |str (x:Str)(t:Ϻ):Α s (.str x t)<|.str x
 |tup {l:Addr}{its:gw}(h:s.heap.IsTuple l its.toArray):Α s (.ref l)<|.tup its.length
 |lst {l:Addr}{its:gw}(h:s.heap.IsList l its.toArray):Α s (.ref l)<|.lst its.length
abbrev vA(e:Nat->Bool):KD->KD->Bool
 |.non,.non=>eA|.bl a,.bl b=>a==b|.bl a,.int b=>(if a then 1 else 0)==b|.int a,.bl b=>a==(if b then 1 else 0)|.int a,.int b=>a==b|.str a,.str b=>a==b|.tup n,.tup k=>(ă<|min n k).all e&&n==k|.lst n,.lst k=>(ă<|min n k).all e&&n==k|_,_=>dI
abbrev vB(A:ĺ)(s:ZZ)(u v:Value)(e:Nat->Bool):Prop:=
 (∀l b c a,u=.ref l->v=.ref b->s.heap.IsTuple l c->s.heap.IsTuple b a->∀j (h1:j<c.size)(d:j<a.size),EqAt A.in1 s c[j] a[j] (e j)) /\
 (∀l b c a,u=.ref l->v=.ref b->s.heap.IsList l c->s.heap.IsList b a->∀j (h1:j<c.size)(d:j<a.size),EqAt A.in1 s c[j] a[j] (e j))
def D0 e(h:n=k):((ă<|min n k).all e&&n==k)=(ă n).all e:=by subst h;simp
def D1 e(h:n≠k):((ă<|min n k).all e&&n==k)=false:=by simp[h]
def zQ(h:Α s u k)(h':Α s v k')(c:A.units<â)(p:vB A s u v e):RcAt A s u v (vA e k k'):=by
 cases h with
 |non=>
  cases h' with
  |non=>show RcAt.none_none|bl b=>show RcAt.none_bool b|int i t=>show RcAt.none_int i t|str x t=>show RcAt.none_str x t|tup h=>show RcAt.none_tuple h c|lst h=>show RcAt.none_list h c
 |bl a=>
  cases h' with
  |non=>show RcAt.bool_none a|bl b=>show RcAt.bool_bool a b|int i t=>show RcAt.bool_int a i t|str x t=>show RcAt.bool_str a x t|tup h=>show RcAt.bool_tuple a h c|lst h=>show RcAt.bool_list a h c
 |int a j=>
  cases h' with
  |non=>show RcAt.int_none a j|bl b=>show RcAt.int_bool a j b|int i t=>show RcAt.int_int a j i t|str x t=>show RcAt.int_str a j x t|tup h=>show RcAt.int_tuple a j h c|lst h=>show RcAt.int_list a j h c
 |str a j=>
  cases h' with
  |non=>show RcAt.str_none a j|bl b=>show RcAt.str_bool a j b|int i t=>show RcAt.str_int a j i t|str x t=>show RcAt.str_str a j x t|tup h=>show RcAt.str_tuple a j h c|lst h=>show RcAt.str_list a j h c
 |tup g=>
  cases h' with
  |non=>show RcAt.tuple_none g c|bl b=>show RcAt.tuple_bool b g c|int i t=>show RcAt.tuple_int i t g c|str x t=>show RcAt.tuple_str x t g c|tup h=>have:=RcAt.tuples (e:=e) g h c<|p.1 _ _ _ _ rfl rfl g h;show this|lst h=>show RcAt.tuple_list g h c
 |lst g=>
  cases h' with
  |non=>show RcAt.list_none g c|bl b=>show RcAt.list_bool b g c|int i t=>show RcAt.list_int i t g c|str x t=>show RcAt.list_str x t g c|tup h=>show RcAt.list_tuple g h c|@lst b d h=>
   rename_i l n;by_cases o:n.length=d.length
   .have:=RcAt.lists (e:=e) g h (by simpa using o) c<|p.2 _ _ _ _ rfl rfl g h;change RcAt A s _ _ ((ă<|min n.length d.length).all e&&n.length==d.length);rw[D0 e o];simpa using this
   .have:=RcAt.lists_lengths g h (by simpa using o) c;change RcAt A s _ _ ((ă<|min n.length d.length).all e&&n.length==d.length);rw[D1 e o];show this
def b1x(h:Α s u k)(h':Α s v k')(c:A.units<â)(p:vB A s u v e):RcNeAt A s u v (!vA e k k'):=by
 cases h with
 |non=>
  cases h' with
  |non=>show RcNeAt.none_none|bl b=>show RcNeAt.none_bool b|int i t=>show RcNeAt.none_int i t|str x t=>show RcNeAt.none_str x t|tup h=>show RcNeAt.none_tuple h c|lst h=>show RcNeAt.none_list h c
 |bl a=>
  cases h' with
  |non=>show RcNeAt.bool_none a|bl b=>show RcNeAt.bool_bool a b|int i t=>show RcNeAt.bool_int a i t|str x t=>show RcNeAt.bool_str a x t|tup h=>show RcNeAt.bool_tuple a h c|lst h=>show RcNeAt.bool_list a h c
 |int a j=>
  cases h' with
  |non=>show RcNeAt.int_none a j|bl b=>show RcNeAt.int_bool a j b|int i t=>show RcNeAt.int_int a j i t|str x t=>show RcNeAt.int_str a j x t|tup h=>show RcNeAt.int_tuple a j h c|lst h=>show RcNeAt.int_list a j h c
 |str a j=>
  cases h' with
  |non=>show RcNeAt.str_none a j|bl b=>show RcNeAt.str_bool a j b|int i t=>show RcNeAt.str_int a j i t|str x t=>show RcNeAt.str_str a j x t|tup h=>show RcNeAt.str_tuple a j h c|lst h=>show RcNeAt.str_list a j h c
 |tup g=>
  cases h' with
  |non=>show RcNeAt.tuple_none g c|bl b=>show RcNeAt.tuple_bool b g c|int i t=>show RcNeAt.tuple_int i t g c|str x t=>show RcNeAt.tuple_str x t g c|tup h=>have:=RcNeAt.tuples (e:=e) g h c<|p.1 _ _ _ _ rfl rfl g h;show this|lst h=>show RcNeAt.tuple_list g h c
 |lst g=>
  cases h' with
  |non=>show RcNeAt.list_none g c|bl b=>show RcNeAt.list_bool b g c|int i t=>show RcNeAt.list_int i t g c|str x t=>show RcNeAt.list_str x t g c|tup h=>show RcNeAt.list_tuple g h c|@lst b d h=>
   rename_i l n;by_cases o:n.length=d.length
   .have:=RcNeAt.lists (e:=e) g h (by simpa using o) c<|p.2 _ _ _ _ rfl rfl g h;change RcNeAt A s _ _ (!((ă<|min n.length d.length).all e&&n.length==d.length));rw[D0 e o];simpa using this
   .have:=RcNeAt.lists_lengths g h (by simpa using o) c;change RcNeAt A s _ _ (!((ă<|min n.length d.length).all e&&n.length==d.length));rw[D1 e o];show this
def b1w(h:Α s u k)(h':Α s v k')(c:A.units<â)(p:vB A s u v e)(o:∀l b,u=.ref l->v=.ref b->l≠b):EqAt A s u v (vA e k k'):=by
 cases h with
 |non=>
  cases h' with
  |non=>show EqAt.same _|bl b=>show EqAt.none_bool b|int i t=>show EqAt.none_int i t|str x t=>show EqAt.none_str x t|tup h=>show EqAt.none_tuple h c|lst h=>show EqAt.none_list h c
 |bl a=>
  cases h' with
  |non=>show EqAt.bool_none a|bl b=>show EqAt.bool_bool a b|int i t=>show EqAt.bool_int a i t|str x t=>show EqAt.bool_str a x t|tup h=>show EqAt.bool_tuple a h c|lst h=>show EqAt.bool_list a h c
 |int a d=>
  cases h' with
  |non=>show EqAt.int_none a d|bl b=>show EqAt.int_bool a d b|int i t=>show EqAt.int_int a d i t|str x t=>show EqAt.int_str a d x t|tup h=>show EqAt.int_tuple a d h c|lst h=>show EqAt.int_list a d h c
 |str a d=>
  cases h' with
  |non=>show EqAt.str_none a d|bl b=>show EqAt.str_bool a d b|int i t=>show EqAt.str_int a d i t|str x t=>show EqAt.str_str a d x t|tup h=>show EqAt.str_tuple a d h c|lst h=>show EqAt.str_list a d h c
 |@tup l n g=>
  cases h' with
  |non=>show EqAt.tuple_none g c|bl b=>show EqAt.tuple_bool b g c|int i t=>show EqAt.tuple_int i t g c|str x t=>show EqAt.tuple_str x t g c|@tup b j h=>show EqAt.of_refs (o l b rfl rfl) (zQ (k:=.tup n.length) (k':=.tup j.length) (.tup g) (.tup h) c p)|lst h=>show EqAt.tuple_list g h c
 |@lst l n g=>
  cases h' with
  |non=>show EqAt.list_none g c|bl b=>show EqAt.list_bool b g c|int i t=>show EqAt.list_int i t g c|str x t=>show EqAt.list_str x t g c|tup h=>show EqAt.list_tuple g h c|@lst b j h=>show EqAt.of_refs (o l b rfl rfl)<|zQ (k:=.lst n.length) (k':=.lst j.length) (.lst g) (.lst h) c p
inductive vp where
 |non|bl (b:Bool)|int (i:Int)|str (x:Str)|tup (xs:List D)|lst (xs:List D)
abbrev mJ(c:Hm):D->Option vp
 |.non=>b0 .non|.bl b=>b0 (.bl b)|.int i=>b0 (.int i)|.str x=>b0 (.str x)|.tup xs=>b0 (.tup xs)|.rol xs=>b0 (.lst xs)|.loc a=>match c[a]? with|some (.lst xs)=>b0 (.lst xs)|_=>b5
 |.ty _=>b5
abbrev jG(f:D->D->Option Bool):List D->List D->Option Bool
 |x::xs,y::ys=>(f x y).bind λb=>(jG f xs ys).map λc=>b&&c|[],[]=>b0 eA|_,_=>b0 dI
abbrev vC(f:D->D->Option Bool):vp->vp->Option Bool
 |.non,.non=>b0 eA|.bl a,.bl b=>b0 (a==b)|.bl a,.int b=>b0 ((if a then 1 else 0)==b)|.int a,.bl b=>b0 (a==(if b then 1 else 0))|.int a,.int b=>b0 (a==b)|.str a,.str b=>b0 (a==b)|.tup xs,.tup ys=>jG f xs ys|.lst xs,.lst ys=>jG f xs ys|_,_=>b0 dI
noncomputable abbrev zR(f:D->D->Option Bool):D->D->Option Bool:=f
def D2(h:zR f x y=b0 b):f x y=b0 b\/(b=eA/\∃a,x=.loc a/\y=.loc a):=.inl h
abbrev dG:Nat->Hm->D->D->Option Bool
 |0,_,_,_=>b5|n+1,μ,x,y=>(mJ μ x).bind λa=>(mJ μ y).bind λb=>vC (zR<|dG n μ) a b
noncomputable abbrev pU(n:Nat)(a:Hm):D->D->Option Bool:=zR<|dG n a
abbrev zS:vp->KD
 |.non=>.non|.bl b=>.bl b|.int i=>.int i|.str x=>.str x|.tup xs=>.tup xs.length|.lst xs=>.lst xs.length
abbrev pV:vp->List D
 |.tup xs=>xs|.lst xs=>xs|_=>[]
section
variable{X:Cx}{Dn:jw}{σ:St}{H:Hp}{s:ZZ}{π:Nat->Addr}{μ:Hm}
inductive ĳ (X:Cx)(π:Nat->Addr)(n:Nat)(H:Hp)(s:ZZ)(u:Value):vp->Prop where
 |non (h:u=.none):ĳ X π n H s u .non
 |bl (b:Bool)(h:u=.bool b):ĳ X π n H s u<|.bl b
 |int (i:Int)(t:Ϻ)(h:u=.int i t):ĳ X π n H s u<|.int i
 |str (x:Str)(t:Ϻ)(h:u=.str x t):ĳ X π n H s u<|.str x
 |tup {xs:List D}(p:Addr)(vs:gz)(its:gw)(h:u=.ref p)(q:Ó X.K H p vs)(i:Ã X.K π n H vs xs)(r:Á vs its)(t:s.heap.IsTuple p its.toArray):ĳ X π n H s u<|.tup xs
 |lst {xs:List D}(p:Addr)(vs:gz)(its:gw)(h:u=.ref p)(q:ê X.K H p vs)(i:Ã X.K π n H vs xs)(r:Á vs its)(t:s.heap.IsList p its.toArray):ĳ X π n H s u<|.lst xs
def pW(I:Inv X Dn σ H s)(R:Rp X.K π H μ)(h:Í X.K π μ.length H v d)(r:Æ v u)(e:mJ μ d=b0 k):ĳ X π μ.length H s u k:=by
 cases h with
 |non=>cases e;show .non r|bl b=>cases e;show .bl b r|int i=>cases e;obtain⟨t,q⟩:=r;show .int i t q|str x=>cases e;obtain⟨t,q⟩:=r;show .str x t q|ty x=>cases e|tup q t=>cases e;obtain⟨c,g,p,_⟩:=I.tuple q;show .tup _ _ c r q t g p|rol q t=>cases e;obtain⟨c,g,p,_⟩:=I.list q.sq;show .lst _ _ c r q.sq t g p.isList|@loc a y=>
  simp only[mJ]at e;split at e
  .rename_i w n;cases e;obtain⟨o,j,l⟩:=R.lst a w n;have q:ê X.K H (π a) o:=.of j;obtain⟨c,g,p,_⟩:=I.list q;show .lst _ _ c r q l g p.isList
  .cases e
def ĳ.isK(h:ĳ X π n H s u k):Α s u (zS k):=by
 cases h with
 |non h=>subst h;show .non|bl b h=>subst h;show .bl b|int i t h=>subst h;show .int i t|str x t h=>subst h;show .str x t|tup p c a h q i r t=>subst h;have:a.length=_:=r.length.symm.trans i.length;change Α s (.ref p) (.tup _);rw[<- this];show .tup t|lst p c a h q i r t=>subst h;have:a.length=_:=r.length.symm.trans i.length;change Α s (.ref p) (.lst _);rw[<- this];show .lst t
abbrev iO(f:D->D->Option Bool)(xs a:List D)(j:Nat):Bool:=match xs[j]?,a[j]? with
 |some x,b0 y=>(f x y).getD dI|_,_=>dI
def zT:∀{xs a}{b},jG f xs a=b0 b->b=((ă<|min xs.length a.length).all (iO f xs a)&&xs.length==a.length)/\∀j x y,xs[j]?=b0 x->a[j]?=b0 y->f x y=b0 (iO f xs a j)
 |[],[],b,h=>by cases h;show⟨rfl,λj x y e=>by simp at e⟩
 |x::xs,[],b,h=>by cases h;show⟨by simp,λj x y _ e=>by simp at e⟩
 |[],y::a,b,h=>by cases h;show⟨by simp,λj x y e=>by simp at e⟩
 |x::xs,y::a,b,h=>by
  simp only[jG]at h;obtain⟨c,n,p⟩:=ZS.mp h;obtain⟨d,r,u⟩:=ZX.mp p;obtain⟨v,w⟩:=zT r;have l:iO f (x::xs) (y::a) 0=c:=by simp[iO,n]
  have o:∀j,iO f (x::xs) (y::a) (j+1)=iO f xs a j:=λj=>by simp[iO]
  show⟨?_,λj z A g i=>?_⟩
  .subst u;rw[v];simp only[ć,Nat.add_min_add_right];rw[Mw,Ĺ,M9,l];have:(iO f (x::xs) (y::a)∘Nat.succ)=iO f xs a:=funext λj=>o j;rw[this];simp[Bool.and_assoc]
  .cases j with
   |zero=>simp at g i;subst g;subst i;rw[l,n]|succ j=>rw[o j];show w j z A (by simpa using g)<|by simpa using i
def D3(h:vC f k k'=b0 b):b=vA (iO f (pV k)<|pV k') (zS k) (zS k'):=by
 cases k<;>cases k'<;>first
  |(have a:=ñ h;subst a;rfl)|(obtain⟨c,_⟩:=zT h;rw[c];rfl)
def b1s(I:Inv X Dn σ H s)(R:Rp X.K π H μ):∀n{v}{u}{x y}{b},Æ v u->Í X.K π μ.length H v x->Í X.K π μ.length H v y->dG n μ x y=b0 b->b=true:=by
 intro n;induction n with
 |zero=>intro v u x y b _ _ _ h;cases h|succ n ih=>
  intro v u x y b r hx hy h;obtain⟨k,Y,h⟩:=ZS.mp h;obtain⟨k',h2,h⟩:=ZS.mp h;have a1:=pW I R hx r Y;have A:=pW I R hy r h2;have g:∀{vs:gz}{xs U:List D}{c:Bool},(∀v∈vs,∃u,Æ v u)->Ã X.K π μ.length H vs xs->Ã X.K π μ.length H vs U->jG (pU n μ) xs U=b0 c->c=true:=by
   intro vs;induction vs with
   |nil=>intro xs U c _ i1 o h;cases i1;cases o;cases h;rfl|cons w vs ihv=>
    intro xs U c hr i1 o h;cases i1 with
    |cons p1 t1=>
     cases o with
     |cons M E=>simp only[jG]at h;obtain⟨c1,Y,h3⟩:=ZS.mp h;obtain⟨c2,h4,h5⟩:=ZX.mp h3;obtain⟨T,O⟩:=hr w<|Ś ..;have a:c1=true:=(D2 Y).elim (ih O p1 M) (·.1);have l:=ihv (λv K=>hr v<|ň _ K) t1 E h4;subst a;subst l;show h5.symm
  cases a1 with
  |non a=>
   subst a;cases A with
   |non _=>show(ñ h).symm|bl _ e=>cases e|int _ _ e=>cases e|str _ _ e=>cases e|tup _ _ _ e=>cases e|lst _ _ _ e=>cases e
  |bl c a=>
   subst a;cases A with
   |non e=>cases e|bl _ e=>cases e;show(ñ h).symm.trans (beq_self_eq_true _)|int _ _ e=>cases e|str _ _ e=>cases e|tup _ _ _ e=>cases e|lst _ _ _ e=>cases e
  |int c t a=>
   subst a;cases A with
   |non e=>cases e|bl _ e=>cases e|int _ _ e=>cases e;show(ñ h).symm.trans (beq_self_eq_true _)|str _ _ e=>cases e|tup _ _ _ e=>cases e|lst _ _ _ e=>cases e
  |str c t a=>
   subst a;cases A with
   |non e=>cases e|bl _ e=>cases e|int _ _ e=>cases e|str _ _ e=>cases e;show(ñ h).symm.trans (beq_self_eq_true _)|tup _ _ _ e=>cases e|lst _ _ _ e=>cases e
  |tup p vs L a q i Q t=>
   have z:ĳ X π μ.length H s (.ref p) _:=a▸ĳ.tup p vs L a q i Q t;rw[a]at A;cases A with
   |non e=>cases e|bl _ e=>cases e|int _ _ e=>cases e|str _ _ e=>cases e|tup M G d l N o B E=>
    cases l;have:=I.tuple_inj q N;subst this;show g (λv K=>by
     obtain⟨j,Z,rfl⟩:=L6 K;obtain⟨T,_,O⟩:=Q.get<|ZY Z;show⟨T,O⟩) i o h
   |lst M G d l N o B E=>cases l;show absurd rfl<|oh E t
  |lst p vs L a q i Q t=>
   rw[a]at A;cases A with
   |non e=>cases e|bl _ e=>cases e|int _ _ e=>cases e|str _ _ e=>cases e|tup M G d l N o B E=>cases l;show absurd rfl (oh t E)|lst M G d l N o B E=>
    cases l;have:=I.list_inj q N;subst this;show g (λv K=>by
     obtain⟨j,Z,rfl⟩:=L6 K;obtain⟨T,_,O⟩:=Q.get<|ZY Z;show⟨T,O⟩) i o h
def iP(A:ĺ):A.in1.units=A.units+1:=rfl
def D4(I:Inv X Dn σ H s)(ih:∀{A}{v v'}{u u'}{x y}{b},A.units+n<â->Æ v u->Æ v' u'->Í X.K π μ.length H v x->Í X.K π μ.length H v' y->dG n μ x y=b0 b->EqAt A s u u' b)(hu:A.units+(n+1)<â)(a1:ĳ X π μ.length H s u k)(a2:ĳ X π μ.length H s u' k')(h:vC (pU n μ) k k'=b0 b):vB A s u u' (iO (pU n μ) (pV k)<|pV k'):=by
 have K:∀{vs T:gz}{its its':gw}{xs Z:List D}{c:Bool},Á vs its->Á T its'->Ã X.K π μ.length H vs xs->Ã X.K π μ.length H T Z->jG (pU n μ) xs Z=b0 c->
   ∀j (h1:j<its.length)(Y:j<its'.length),EqAt A.in1 s its[j] its'[j] (iO (pU n μ) xs Z j):=by
  intro vs T its its' xs Z c r r' i i' e j h1 Y;have l1:=r.length;have l2:=r'.length;have l3:=i.length;have l4:=i'.length;have hx:xs[j]?=b0 (xs[j]'⋯):=ZY _;have hy:Z[j]?=b0 (Z[j]'⋯):=ZY _;obtain⟨v,v1,v2⟩:=i.get hx;obtain⟨v',v1',v2'⟩:=i'.get hy;obtain⟨w,w1,w2⟩:=r.get v1;obtain⟨w',w1',w2'⟩:=r'.get v1';rw[ZY h1]at w1;rw[ZY Y]at w1';cases w1;cases w1';have key:∀{x y:D}{b:Bool},Í X.K π μ.length H v x->Í X.K π μ.length H v' y->pU n μ x y=b0 b->EqAt A.in1 s its[j] its'[j] b:=λ{x y b} i1 L hq=>by
   rcases D2 hq with hq|⟨rfl,a,rfl,rfl⟩
   .show ih (by rw[iP];lia) w2 w2' i1 L hq
   .cases i1;cases L;have z1:its[j]=Ð (π a):=w2;have z2:its'[j]=Ð (π a):=w2';rw[z1,z2];show EqAt.same _
  show key v2 v2'<|(zT e).2 j _ _ hx hy
 constructor
 .intro l b' G B e1 e2 t1 t2 j h1 Y;subst e1;subst e2;cases a1 with
  |tup p vs its e q i r t=>
   cases e;cases a2 with
   |tup p2 U E d q2 L r2 R=>
    cases d;have z1:G=its.toArray:=by obtain⟨o,M,g2,n1,O⟩:=t1;obtain⟨o',g,N,Q,z⟩:=t;rw[M]at g;cases g;rw[O]at z;injection z
    have z2:B=E.toArray:=by obtain⟨o,M,g2,n1,O⟩:=t2;obtain⟨o',g,N,Q,z⟩:=R;rw[M]at g;cases g;rw[O]at z;injection z
    subst z1;subst z2;have:=K r r2 i L h j (by simpa using h1) (by simpa using Y);simpa[pV]using this
   |lst p2 U E d q2 L r2 R=>cases d;show absurd rfl (oh R t2)|non d=>cases d|bl _ d=>cases d|int _ _ d=>cases d|str _ _ d=>cases d
  |lst p vs its e q i r t=>cases e;show absurd rfl (oh t t1)|non e=>cases e|bl _ e=>cases e|int _ _ e=>cases e|str _ _ e=>cases e
 .intro l b' G B e1 e2 t1 t2 j h1 Y;subst e1;subst e2;cases a1 with
  |lst p vs its e q i r t=>
   cases e;cases a2 with
   |lst p2 U E d q2 L r2 R=>
    cases d;have z1:G=its.toArray:=by obtain⟨o,M,g2,n1,O⟩:=t1;obtain⟨o',g,N,Q,z⟩:=t;rw[M]at g;cases g;rw[O]at z;injection z
    have z2:B=E.toArray:=by obtain⟨o,M,g2,n1,O⟩:=t2;obtain⟨o',g,N,Q,z⟩:=R;rw[M]at g;cases g;rw[O]at z;injection z
    subst z1;subst z2;have:=K r r2 i L h j (by simpa using h1) (by simpa using Y);simpa[pV]using this
   |tup p2 U E d q2 L r2 R=>cases d;show absurd rfl (oh t2 R)|non d=>cases d|bl _ d=>cases d|int _ _ d=>cases d|str _ _ d=>cases d
  |tup p vs its e q i r t=>cases e;show absurd rfl (oh t1 t)|non e=>cases e|bl _ e=>cases e|int _ _ e=>cases e|str _ _ e=>cases e
def zU(I:Inv X Dn σ H s)(R:Rp X.K π H μ):∀n{A}{v c}{u a}{x y}{b},A.units+n<â->Æ v u->Æ c a->Í X.K π μ.length H v x->Í X.K π μ.length H c y->dG n μ x y=b0 b->EqAt A s u a b:=by
 intro n;induction n with
 |zero=>intro A v c u a x y b _ _ _ _ _ h;cases h|succ n M=>
  intro A v c u a x y b L r o i j h;have B:=h;obtain⟨k,E,h⟩:=ZS.mp h;obtain⟨O,G,h⟩:=ZS.mp h;have d:=pW I R i r E;have e:=pW I R j o G;by_cases g:u=a
  .subst g;have:v=c:=r.inj o;subst this;have:=b1s I R (n+1) r i j B;subst this;show EqAt.same _
  .have K:=D4 I M L d e h;rw[D3 h];show b1w d.isK e.isK ⋯ K λl N p w z=>g<|by rw[p,w,z]
def D5(I:Inv X Dn σ H s)(R:Rp X.K π H μ)n(l:A.units+n<â)(r:Æ v u)(w:Æ g d)(o:Í X.K π μ.length H v x)(p:Í X.K π μ.length H g y)(h:dG n μ x y=b0 b):
  RcAt A s u d b/\RcNeAt A s u d (!b):=by
 cases n with
 |zero=>cases h|succ n=>obtain⟨k,i,h⟩:=ZS.mp h;obtain⟨z,j,h⟩:=ZS.mp h;have a:=pW I R o r i;have c:=pW I R p w j;have e:=D4 I (A:=A) (zU I R n) l a c h;rw[D3 h];show⟨zQ a.isK c.isK ⋯ e,b1x a.isK c.isK ⋯ e⟩
end
abbrev mK(g:Int->Int->Option Int):D->D->Hm->jk
 |.int i,.int j,μ=>(g i j).map λz=>(.int z,μ)|_,_,_=>b5
def D6(h:mK g x y a=b0 (d,μ')):∃i j z,x=.int i/\y=.int j/\g i j=b0 z/\d=.int z/\μ'=a:=by
 unfold mK at h;split at h
 .rename_i i j;obtain⟨z,b,c⟩:=ZX.mp h;cases c;show⟨i,j,z,rfl,rfl,b,rfl,rfl⟩
 .cases h
def zV{g':Int->Int->Int}(e:∀i j z,g i j=b0 z->a i j/\z=g' i j):cZ K (mK g) (rI a λi j=>.int<|g' i j):=by intro p H u x y d o r s Q R l n h k;obtain⟨i,j,z,rfl,rfl,b,rfl,rfl⟩:=D6 h;cases l;cases n;obtain⟨c,rfl⟩:=e i j z b;show⟨i,j,rfl,rfl,c,k p _ H .refl R<|.int _⟩
def b1r{g':Int->Int->Int}:cZ K (mK λi j=>b0<|g' i j) (gX λi j=>.int<|g' i j):=by intro h H o x y d g l n Q R c e b k;obtain⟨i,j,z,rfl,rfl,a,rfl,rfl⟩:=D6 b;cases c;cases e;cases a;show⟨i,j,rfl,rfl,k h _ H .refl R<|.int _⟩
abbrev cW:=mK λi j=>b0<|i-j
abbrev D7:=mK λi j=>if((-(2^64)<i/\i<2^64)\/(-(2^64)<j/\j<2^64))\/(i.natAbs<2^4000/\j.natAbs<2^4000)\/Ũ i+Ũ j<=134217728 then b0 (i*j)else b5
abbrev cB:D->D->Hm->jk
 |x,y,μ=>D7 x y μ
abbrev cS:=mK λi j=>if 0<j/\j<2^4000 then b0 (i/j)else b5
abbrev aX:=mK λi j=>if 0<j then b0 (i%j)else b5
abbrev ũ(i j:Int):Prop:=qi i j\/(i.natAbs<2^4000/\j.natAbs<2^4000)\/Ũ i+Ũ j<=134217728
abbrev D8(i j:Int):Prop:=0<j/\j<2^4000
def D9(h:i.natAbs<2^4000):Ũ i<=4000:=by
 unfold Ũ;split
 .show ŀ _
 .rename_i b;have a:i.natAbs≠0:=by intro z;show b<|by simpa using z
  have:=(ND a).mpr h;lia
def ũ.ok(h:ũ i j):KG i j:=by
 rcases h with h|⟨b,c⟩|h
 .show h.ok
 rotate_left
 .have a:LL (Ũ i+Ũ j)=false:=by
   unfold LL;rw[decide_eq_false];have:bitsLine=134217728:=by decide
   lia
  unfold KG;rw[a];simp
 .have d:=D9 b;have e:=D9 c;have a:LL (Ũ i+Ũ j)=false:=by
   unfold LL;rw[decide_eq_false];have:(8000:Int)<=bitsLine:=by decide
   lia
  unfold KG;rw[a];simp
def b1q:ÿ X (υ .Mult) (rI ũ λi j=>.int<|i*j):=yS λ_ _ _ _ _ _ _ hc q=>b2h q hc.ok
def b1p:ÿ X (υ .FloorDiv) (rI D8 λi j=>.int<|i/j):=yS λi j _ _ _ _ _ hc q=>by
 have c:(0:Int)<j:=hc.1;have d:j<2^4000:=hc.2;have a:j.natAbs≠0:=by lia
 have b:j.natAbs<2^4000:=by
  have:((2^4000:Nat):Int)=2^4000:=by decide
  lia
 have e:=(ND a).mpr b;show b2l ⋯ (by rw[Int.fdiv_eq_ediv_of_nonneg i<|by lia];show q)<|.inl<|PyProof.noPylong_of_log2<|by lia
def zW[Decidable c]{a:Int}(h:(if c then b0 a else b5)=b0 z):c/\z=a:=by
 split at h
 .cases h;show⟨by assumption,rfl⟩
 .cases h
def b1o:cZ K cW (gX λi j=>.int<|i-j):=b1r
def b1n:cZ K D7 (rI ũ λi j=>.int<|i*j):=zV λi j z h=>by have:=zW h;show this
def a4A:cZ K cB (rI ũ λi j=>.int<|i*j):=b1n
def a3Y:cZ K cS (rI D8 λi j=>.int<|i/j):=zV λi j z h=>by have:=zW h;show this
def WbI:cZ K aX (rI (λ_ j=>0<j) λi j=>.int<|i%j):=zV λ_ _ _ h=>zW h
abbrev Ea:D->Option D
 |.int i=>b0 (.int<|-i)|_=>b5
abbrev bA:D->D->Hm->jk
 |.int i,.int j,μ=>b0 (.int<|i+j,μ)|.str x,.str y,μ=>if x.length+y.length<=Z7 then b0 (.str<|x++y,μ)else b5|.loc a,.loc b,μ=>match μ[a]?,μ[b]? with
  |some<|.lst xs,b0 (.lst ys)=>if xs.length+ys.length<=Z7 then b0 (.loc μ.length,μ++[.lst<|xs++ys])else b5|_,_=>b5
 |_,_,_=>b5
abbrev zX(K:ZV):R2:=λx y H Q=>gX (λi j=>.int<|i+j) x y H Q\/(∃i j,x=.str i/\y=.str j/\i.length+j.length<=Z7/\Q (.str<|i++j) H)\/DH x y H Q
def StI:ÿ X (υ .Add) (zX X.K):=jh.or<|Ŷ.or a7O
noncomputable abbrev zY(K:ZV):R2:=zX K
def RyI:ÿ X (υ .Add) (zY X.K):=StI
def zZ(h:zX K x y H Q):zY K x y H Q:=h
def CrJ:cZ K bA (zY K):=by
 intro r H G x y d A B E Q R c e a k;unfold bA at a;split at a
 .cases a;cases c;cases e;show zZ<|.inl ⟨_,_,rfl,rfl,k r _ H .refl R<|.int _⟩
 .split at a
  .rename_i b;cases a;cases c;cases e;show zZ<|.inr<|.inl ⟨_,_,rfl,rfl,b,k r _ H .refl R<|.str _⟩
  .cases a
 .split at a
  .rename_i n o v w;split at a
   .rename_i b;cases a;cases c;cases e;obtain⟨j,g,h⟩:=R.lst _ n v;obtain⟨l,u,i⟩:=R.lst _ o w;show zZ (.inr<|.inr ⟨_,_,j,l,rfl,rfl,by first|show g|show .inl<|.inl g,u,by rw[h.length,i.length];show b,λp z=>?_⟩);obtain⟨s,R2,q⟩:=R.alloc (c:=.lst (n++o)) (o:=.lst (j++l)) z<|h.append i;show k _ _ _ s R2 jY
   .cases a
  .cases a
 .cases a
abbrev fS(p:Int->Int->Bool):D->D->Hm->jk
 |.int i,.int j,μ=>b0 (.bl<|p i j,μ)|_,_,_=>b5
def iQ:cZ K (fS p) (gX λi j=>.bl<|p i j):=by
 intro g H n x y d e h l Q R b c a k;unfold fS at a;split at a
 .cases a;cases b;cases c;show⟨_,_,rfl,rfl,k g _ H .refl R<|.bl _⟩
 .cases a
abbrev dB:=fS λi j=>decide<|i<j
abbrev pX:=fS λi j=>decide<|i<=j
abbrev k9:=fS λi j=>decide<|j<i
abbrev sD:=fS λi j=>decide<|j<=i
abbrev z7(K:ZV)(ne:Bool):R2:=λx y H Q=>∃π a c d b,Rp K π H a/\Í K π a.length H x c/\Í K π a.length H y d/\dG 8 a c d=b0 b/\Q (.bl<|if ne then !b else b) H
def Eb(c:X.A.units+8<â):ÿ X (Ĥ .Eq) (z7 X.K dI):=by intro a s r H x y v u Q I i j h;obtain⟨p,o,l,n,b,R,d,g,e,q⟩:=h;show(D5 I R 8 c i j d g e).1 _ _ _ _ ⟨.bl b,H,I,rfl,q⟩
def Ec(c:X.A.units+8<â):ÿ X (Ĥ .NotEq) (z7 X.K eA):=by intro a s r H x y v u Q I i j h;obtain⟨p,o,l,n,b,R,d,g,e,q⟩:=h;show(D5 I R 8 c i j d g e).2 _ _ _ _ ⟨.bl<|!b,H,I,rfl,q⟩
abbrev a8(ne:Bool):D->D->Hm->jk:=λx y a=>(dG 8 a x y).map λb=>(.bl<|if ne then !b else b,a)
def vD:cZ K (a8 ne) (z7 K ne):=by intro a H j x y d l n o Q R h i g k;obtain⟨b,c,e⟩:=ZX.mp g;cases e;show⟨a,j,x,y,b,R,h,i,c,k a _ H .refl R<|.bl _⟩
abbrev z8:D->D->Hm->jk
 |.str i,.str j,μ=>b0 (.bl<|!(ig j i 0 j.length 1).isEmpty,μ)|_,_,_=>b5
def Ee:cZ K z8 (λx y H Q=>∃i j,x=.str i/\y=.str j/\Q (.bl<|!(ig j i 0 j.length 1).isEmpty) H):=by
 intro g H n x y d e h l Q R b c a k;unfold z8 at a;split at a
 .cases a;cases b;cases c;show⟨_,_,rfl,rfl,k g _ H .refl R<|.bl _⟩
 .cases a
def vF(r:Ô k A):A.units+8<â:=by have:=r.un;lia
def CiI(v:PE X a (tM X.K ma)):PE X (.UnaryOp .USub a pos) (tM X.K λj g=>(ma j g).bind λp=>(Ea p.1).map λd=>(d,p.2)):=cU (a9M a8r v)<|by
 rintro I H Q ⟨B,j,g,d,z,R,E,e,k⟩;obtain⟨⟨x,A⟩,s,e⟩:=ZS.mp e;obtain⟨y,l,u⟩:=ZX.mp e;cases u;cases x with
 |int i=>cases l;show⟨B,j,g,_,_,R,E,s,λh G n r o w=>?_⟩;cases w;show⟨_,rfl,k h _ n r o<|.int _⟩
 |_=>cases l
def BsI(d:Gl X x)(e:X.mg x=b5)(h:Ż x=b0 (.type n))(g:x ≠ "__name__":=by decide)(hd:(x==("__debug__":Str))=false:=by decide):PE X (.Name x pos) (tM X.K<|mC<|.ty n):=
 pR (a6N (v:=.ty n) d e h rfl g hd) λ_ _ _=>.ty n
abbrev vG(b:Hm):D->Option String
 |.non=>b0 "NoneType"|.bl _=>b0 "bool"|.int _=>b0 "int"|.str _=>b0 "str"|.tup _=>b0 "tuple"|.rol _=>b0 "list"|.loc a=>match b[a]? with
  |some (.lst _)=>b0 "list"|some (.dK _)=>b0 "dict"|some (.dT _)=>b0 "dict"|_=>b5
 |.ty _=>b5
abbrev vH(t c:String):Option Bool:=match c with
 | "int"=>b0 (t=="int" || t=="bool")| "bool"=>b0 (t=="bool")| "str"=>b0 (t=="str")| "list"=>b0 (t=="list")| "tuple"=>b0 (t=="tuple")| "dict"=>b0 (t=="dict")|_=>b5
abbrev hG:MF:=λds a=>match ds with
 |[x,.ty c]=>(vG a x).bind λt=>(vH t c).map λb=>(.bl b,a)|_=>b5
def lE K(d:t = "NoneType"\/t = "bool"\/t = "int"\/t = "str"\/t = "tuple"\/t = "list"\/t = "dict")(h:vH t c=b0 b):Ov K (.type t) (.type c)=b0 b:=by
 unfold vH at h
 split at h<;>first
  | cases h;done
  | (have a:=ñ h;subst a
     rcases d with rfl|rfl|rfl|rfl|rfl|rfl|rfl<;>first|rfl|decide +kernel|(unfold Ov;simp;rfl))
end L3
namespace L3
open PySem L2
noncomputable abbrev MG:=D->aF->Hm->Option aF
inductive ū (K:ZV)(g:MG)(v:V)(σ:St)(H:Hp)(Q:St->Hp->Prop):Prop
 |mk (π:Nat->Addr)(ρ:aF)(μ:Hm)(d:D)(ρ':aF)(R:Rp K π H μ)(E:En K π μ.length H σ ρ)(i:Í K π μ.length H v d)(hm:g d ρ μ=b0 ρ')(k:∀σ',En K π μ.length H σ' ρ'->Q σ' H):ū K g v σ H Q
abbrev cC(i:Nat):MG:=λd a _=>b0<|a.set i<|b0 d
def Ef(b:X.N.Nodup)(e:X.N[i]?=b0 x)(j:Loc X.env.scope x)(c:X.fn x=eA\/X.env.scope.names.lookup x=b0 .local:=by first|show .inl rfl|show .inr rfl|assumption):PG X (.Name x pos) (ū X.K<|cC i):=by intro a s n H v u Q I r h;obtain⟨p,w,o,d,l,R,E,hd,g,k⟩:=h;cases g;show C0 b e j c a s n H v u Q I r<|k _<|E.set hd i
abbrev BsD(K:ZV)(c:TE):TI:=λσ H R=>c σ H λx b=>∃a,x=.ref a/\(((∃xs,ê K b a xs)/\R (yO K a) b)\/((∃xs,Ó K b a xs)/\R (yP K a) b))
def BmJ(w:PE X l u):PI X tg l (BsD X.K u):=by
 intro i s G H R I h;show aP (w i s G H _ I h) λv c ⟨x,r,d,A,z⟩=>?_;obtain⟨a,e,q⟩:=z;subst e;cases A;rcases q with⟨⟨E,n⟩,q⟩|⟨⟨E,n⟩,q⟩
 .obtain⟨g,B,p,y⟩:=d.list n;show L9 p.isList ?_;show⟨c.heap.objs.size,[c.heap.objs.size],_,_,r,rfl,d.kept (t':=c.toks) λb o e=>Z1 _ e,b1P a _,⟨_,Ă _ rfl,rfl,rfl⟩,λb j=>?_,q⟩;have e:b=c.heap.objs.size:=by simpa using j
  subst e;show d.fpOk (Z2 _)<|d.hok.fresh<|Z2 _
 .obtain⟨g,B,p,y⟩:=d.tuple n;show uw (show c.heap.IsTuple a g.toArray from p) ?_;show⟨c.heap.objs.size,[c.heap.objs.size],_,_,r,rfl,d.kept (t':=c.toks) λb o e=>Z1 _ e,b1O a _,⟨_,Ă _ rfl,rfl,rfl⟩,λb j=>?_,q⟩;have e:b=c.heap.objs.size:=by simpa using j
  subst e;show d.fpOk (Z2 _)<|d.hok.fresh<|Z2 _
structure Wk(K:ZV)(J:It)(src:Hm->Nat->Option (Option D))(π:Nat->Addr)(n:Nat)(H:Hp):Prop where
 stop:∀π' μ H' i,à π n H π' μ.length H'->Rp K π' H' μ->src μ i=b0 b5->J.stop i H'
 go:∀π' μ H' i d,à π n H π' μ.length H'->Rp K π' H' μ->src μ i=b0 (b0 d)->J.go i H'/\∀x H2,J.yld i H' x H2->à π' μ.length H' π' μ.length H2/\Rp K π' H2 μ/\Í K π' μ.length H2 x d
abbrev lG(x:D):Hm->Nat->Option (Option D):=λa i=>(bL a x).map λxs=>xs[i]?
def a9t(R:Rp K π H E)(h:Í K π E.length H v x)(G:bL E x=b0 xs):
  ∃a,v=.ref a/\(((∃b,ê K H a b)/\Wk K (yO K a) (lG x) π E.length H)\/((∃b,Ó K H a b)/\Wk K (yP K a) (lG x) π E.length H)):=by
 cases h with
 |@tup p b ds q t=>
  show⟨p,rfl,.inr ⟨⟨b,q⟩,⟨λl j s i e n z=>?_,λl j s i d e n z=>?_⟩⟩⟩
  .simp only[lG,bL,Ę]at z;have g:ds[i]?=none:=ñ z;show⟨b,e.sqT q,by rw[t.length];show Ξ.mp g⟩
  .simp only[lG,bL,Ę]at z;have g:ds[i]?=b0 d:=ñ z;obtain⟨w,c,o⟩:=t.get g;show⟨⟨b,w,e.sqT q,c⟩,λy M ⟨u,A⟩=>?_⟩;subst u;have:=A b<|e.sqT q;rw[c]at this;cases this;show⟨.refl,n,o.mono e⟩
 |@rol p b ds q t=>
  show⟨p,rfl,.inl ⟨⟨b,q.sq⟩,⟨λl j s i e n z=>?_,λl j s i d e n z=>?_⟩⟩⟩
  .simp only[lG,bL,Ę]at z;have g:ds[i]?=none:=ñ z;show⟨b,(e.roL q).sq,by rw[t.length];show Ξ.mp g⟩
  .simp only[lG,bL,Ę]at z;have g:ds[i]?=b0 d:=ñ z;obtain⟨w,c,o⟩:=t.get g;show⟨⟨b,w,(e.roL q).sq,c⟩,λy M ⟨u,A⟩=>?_⟩;subst u;have:=A b (e.roL q).sq;rw[c]at this;cases this;show⟨.refl,n,o.mono e⟩
 |@loc a O=>
  have hc:∃b,H (π a)=b0 (.lst b):=by
   simp only[bL]at G;split at G
   .rename_i r B;obtain⟨b,c,_⟩:=R.lst a r B;show⟨b,c⟩
   .cases G
  obtain⟨L,I⟩:=hc;show⟨π a,rfl,.inl ⟨⟨L,.of I⟩,⟨λl j s i e n z=>?_,λl j s i d e n z=>?_⟩⟩⟩
  .simp only[lG,bL]at z;split at z
   .rename_i r B;obtain⟨b,c,o⟩:=n.lst a r B;rw[e.pi a O]at c;have g:r[i]?=none:=ñ z;show⟨b,.of c,by rw[o.length];show Ξ.mp g⟩
   .cases z
  .simp only[lG,bL]at z;split at z
   .rename_i r B;obtain⟨b,c,o⟩:=n.lst a r B;rw[e.pi a O]at c;have g:r[i]?=b0 d:=ñ z;obtain⟨w,N,Q⟩:=o.get g;show⟨⟨b,w,.of c,N⟩,λy M ⟨u,A⟩=>?_⟩;subst u;have:=A b<|.of c;rw[N]at this;cases this;show⟨.refl,n,Q⟩
   .cases z
 |_=>cases G
abbrev eI(a:Hm->Nat->Option (Option D))(g:MG)(b:MS):Nat->Nat->MS
 |0,_,_,_=>b5|n+1,i,ρ,μ=>(a μ i).bind λo=>match o with
  |none=>b0 (.nx,ρ,μ)|some d=>(g d ρ μ).bind λc=>(b c μ).bind λp=>match p.1 with
   |.nx=>eI a g b n (i+1) p.2.1 p.2.2|.ct=>eI a g b n (i+1) p.2.1 p.2.2|.bk=>b0 (.nx,p.2.1,p.2.2)|.rt d=>b0 (.rt d,p.2.1,p.2.2)
def a9s(W:Wk K J B π Q O)(hE:n9 K E π Q O A l μ')(e1:à π Q O G u.length H1)(R1:Rp K G H1 u)(E1:En K G u.length H1 σ1 T)(h:eI B g b n 0 T u=b0 (A,l,μ')):
  ∃Wd:Nat->Nat->St->Hp->Prop,(∃m,Wd 0 m σ1 H1)/\∀i m X H,Wd i m X H->
   (J.stop i H/\E.nx X H)\/(J.go i H/\∃N,(∀w s,N w s->∃m',m'<m/\Wd (i+1) m' w s)/\∀x s,J.yld i H x s->ū K g x X s λσ2 H2=>ľ K b {E with nx:=N,ct:=N,bk:=E.nx} σ2 H2):=by
 have lift:∀{a:Nat->Addr}{n2:Nat}{H2:Hp}(e:à π Q O a n2 H2){A:Fl}{l:aF}{μ':Hm},n9 K E π Q O A l μ'->n9 K E a n2 H2 A l μ':=λ{a n2 H2} e {A l μ'} k=>by
  cases A with
  |nx=>show λv r H3 e3 R3 M=>k v r H3 (e.trans e3) R3 M|bk=>show λv r H3 e3 R3 M=>k v r H3 (e.trans e3) R3 M|ct=>show λv r H3 e3 R3 M=>k v r H3 (e.trans e3) R3 M|rt d=>show KC.after k e
 show⟨λi m X H=>∃a j I,à π Q O a j.length H/\Rp K a H j/\En K a j.length H X I/\eI B g b m i I j=b0 (A,l,μ'),⟨n,G,u,T,e1,R1,E1,h⟩,?_⟩;rintro i m X H ⟨a,j,I,z,R2,E2,h2⟩;cases m with
 |zero=>cases h2|succ m=>
  obtain⟨o,h3,h4⟩:=ZS.mp h2;cases o with
  |none=>cases h4;show .inl ⟨W.stop a _ H i z R2 h3,hE a X H z R2 E2⟩|some d=>
   obtain⟨g1,g2⟩:=W.go a j H i d z R2 h3;obtain⟨ρ3,h5,h6⟩:=ZS.mp h4;obtain⟨⟨f4,U,R⟩,h7,h8⟩:=ZS.mp h6;show .inr ⟨g1,λw s=>∃c L p,à π Q O c p.length s/\Rp K c s p/\En K c p.length s w L/\eI B g b m (i+1) L p=b0 (A,l,μ'),
    λw s ⟨c,L,p,a1,a2,a3,a4⟩=>⟨m,ϛ _,c,p,L,a1,a2,a3,a4⟩,λx s y=>?_⟩
   obtain⟨ex,Rx,hx⟩:=g2 x s y;have z:=z.trans ex;show⟨a,I,j,d,ρ3,Rx,E2.mono ex,hx,h5,λr M=>⟨a,ρ3,j,f4,U,R,Rx,M,h7,?_⟩⟩;cases f4 with
   |nx=>show λc Y H5 e5 R5 Z=>⟨c,U,R,z.trans e5,R5,Z,h8⟩|ct=>show λc Y H5 e5 R5 Z=>⟨c,U,R,z.trans e5,R5,Z,h8⟩|bk=>cases h8;show λc Y H5 e5 R5 Z=>hE c Y H5 (z.trans e5) R5 Z|rt d'=>cases h8;show KC.after hE z
abbrev jH(lo:Int)(n:Nat):Hm->Nat->Option (Option D):=λ_ i=>b0<|if i<n then b0 (.int<|lo+i)else b5
def Eg:Wk K (mE lo k) (jH lo k) π n H:=by
 show⟨λb o c i e R z=>?_,λb o c i d e R z=>?_⟩
 .have a:=ñ z;split at a
  .cases a
  .show km.mp<|by assumption
 .have a:=ñ z;split at a
  .cases a;rename_i h;show⟨h,λx p ⟨j,l⟩=>by subst j;rw[l];show⟨.refl,R,.int _⟩⟩
  .cases a
abbrev pY(y:Str):Str:="#"++y
abbrev bJ(xs N:List Str):List Str:=N.map λy=>if xs.contains y then pY y else y
def oB xs N:(bJ xs N).length=N.length:=by unfold bJ;simp
def a9r{i:Nat}(h:(bJ xs N)[i]?=b0 y):∃a,N[i]?=b0 a/\((xs.contains a=eA/\y=pY a)\/(xs.contains a=dI/\y=a)):=by
 unfold bJ at h;rw[þ]at h;obtain⟨a,c,b⟩:=ZX.mp h;show⟨a,c,?_⟩;cases hc:xs.contains a with
 |true=>rw[hc]at b;show .inl ⟨rfl,by simpa using b.symm⟩|false=>rw[hc]at b;show .inr ⟨rfl,by simpa using b.symm⟩
abbrev cH(X:Cx)(scope:Ź)(cl:List (Str×Addr))(C:Addr)(N:List Str)(s₀:ZZ)(H₀:Hp)(a:List Addr):Cx:=
 {X with N:=N,s₀:=s₀,H₀:=H₀,env:=ϗ scope cl C X.env,outer:=X.stack,stack:=X.stack,ex:=a,fn:=λ_=>dI,pn:=[],xe:=λ_ _=>False}
def Eh{env:Δ}:∀(names:List (Str×Ϙ))x,(names.map λ(n,k)=>if(k==ϫ&&env.scope.kind==.function&&env.kindOf n==b0 .cell)then(n,WF)else(n,k)).lookup x
  = (names.lookup x).map λk=>if(k==ϫ&&env.scope.kind==.function&&env.kindOf x==b0 .cell)then WF else k
 |[],_=>rfl|(n,k)::r,x=>by
  have d:=Eh (env:=env) r x;rw[é];by_cases c:x=n
  .subst c;have a:∀(k':Ϙ)(l:List (Str×Ϙ)),dg x ((x,k')::l)=b0 k':=λk' l=>by simp[uq]
   rw[a];change dg x ((if(k==ϫ&&env.scope.kind==.function&&env.kindOf x==b0 .cell)=eA then(x,WF)else(x,k))::_)=b0 (if(k==ϫ&&env.scope.kind==.function&&env.kindOf x==b0 .cell)=eA then WF else k);split
   .rw[a]
   .rw[a]
  .have b:(x==n)=false:=by simpa using c
   have a:∀(k':Ϙ)(l:List (Str×Ϙ)),dg x ((n,k')::l)=dg x l:=λk' l=>by simp only[uq,b]
   rw[a];change dg x ((if(k==ϫ&&env.scope.kind==.function&&env.kindOf n==b0 .cell)=eA then(n,WF)else(n,k))::_)=_;split
   .rw[a];show d
   .rw[a];show d
structure ì(X:Cx)(scope:Ź)(cl:List (Str×Addr))(xs:List Str):Prop where
 clos:Ld scope X.env=pure cl
 nocell:∀y∈scope.names,y.2≠.cell
 kind:scope.kind=.function
 names:∀y∈scope.names,y.2=.local->scope.names.lookup y.1=b0 .local
 here:∀x∈xs,scope.names.lookup x=b0 .local
 sub:∀y c,cl.lookup y=b0 c->X.env.cells.lookup y=b0 c
 free:∀y,scope.names.lookup y=b0 .free->(X.env.kindOf y=b0 .cell\/X.env.kindOf y=b0 .free)/\∃c,cl.lookup y=b0 c
 own:∀y,scope.names.lookup y=b0 .local->y∉bJ xs X.N
 hidn:∀y∈X.N,xs.contains y=eA->scope.names.lookup (pY y)=b5
def ì.kindOf(O:ì X scope cl xs)C y:(ϗ scope cl C X.env).kindOf y=(scope.names.lookup y).map λk=>if(k==ϫ&&X.env.scope.kind==.function&&X.env.kindOf y==b0 .cell)then WF else k:=
 Eh scope.names y
def ì.outer(O:ì X scope cl xs){C:Addr}(h:(ϗ scope cl C X.env).kindOf y=b0 .cell\/(ϗ scope cl C X.env).kindOf y=b0 .free):scope.names.lookup y=b0 .free:=by
 rw[O.kindOf]at h;cases q:scope.names.lookup y with
 |none=>rw[q]at h;rcases h with h|h<;>cases h
 |some k=>
  rw[q]at h;cases k with
  |free=>rfl|cell=>show absurd rfl (O.nocell _<|Ϡ q)| «local»=>rcases h with h|h<;>simp at h
  |globalExplicit=>rcases h with h|h<;>simp at h
  |globalImplicit=>rcases h with h|h<;>simp at h
def ì.inv{σ:St}(O:ì X scope cl xs)(I:Inv X Dn σ H s)(B:∀b∈Y,gW X Dn H b)(hob:∀b∈Y,∃o,s.heap.get? b=b0 o)(hns:d.Ns s.heap.objs.size m)(N:∀b o,s.heap.get? b=b0 o->d.get? b=b0 o):
  Inv (cH X scope cl s.heap.objs.size (bJ xs X.N++xs) s H Y) [] (σ++aa xs.length b5) H {s with heap:=d,toks:=tk}:=by
 show⟨⟨I.ok.mod,O.kind,I.ok.glob,I.ok.blt,Z2 _,λy z c Z A=>?_,λy hy=>?_,(λy c h=>by cases h),I.ok.hd,I.ok.frames,.inl rfl,λb G=>?_,λb o e=>I.bs b o e,ė I.ok.bsz I.sz,λb o e G=>?_,λb G hb2=>?_,I.stack,I.stkFree⟩,
  rfl,I.bare,Un.kept N,⟨m,hns,λi y v Z A w=>?_⟩,λy c h=>?_,I.hok.fresh<|Z2 _,λy c h=>I.freeC y c<|O.sub y c h,λp hp=>absurd (show p∈([]:jw)from hp)<|by simp,I.hok.kept N,?_⟩
 .show I.ok.inj y z c (O.sub y c Z)<|O.sub z c A
 .show(O.free y<|O.outer hy).2
 .obtain⟨f0,R,T,x,U,f5⟩:=B b G;obtain⟨o,M⟩:=hob b G;show⟨ð<|Z8 M,λy c h=>U y c<|O.sub y c h⟩
 .obtain⟨f0,R,T,x,U,f5⟩:=B b G;rcases x with x|x
  .show I.ok.noex b o e x
  .show absurd (ĭ (Z8 (I.ok.bs b o e).1) x)<|Ų _
 .obtain⟨f0,R,T,x,U,f5⟩:=B b G;rcases Ě.mp (I.stkSub b hb2)with z|z
  .show R z
  .show T z
 .have L:i<σ.length:=by
   by_cases L:i<σ.length
   .show L
   .rw[Ž<|km.mp L,zr]at A;split at A<;>cases A
  rw[ō L]at A;have K:(bJ xs X.N)[i]?=b0 y:=by have n:(bJ xs X.N++xs)[i]?=b0 y:=Z;rw[ō<|by rw[oB,<- I.len];show L]at n;show n
  have j:scope.names.lookup y≠b0 .local:=λz=>O.own y z<|Ĳ K;have E:=O.kindOf s.heap.objs.size y;have h1':X.N[i]?=b0 y:=by
   obtain⟨y0,q1,Q⟩:=a9r K;rcases Q with⟨Q,q3⟩|⟨Q,q3⟩
   .exfalso;have hz:=O.hidn y0 (Ĳ q1) Q;rw[<- q3]at hz;rw[hz]at E;have a:(ϗ scope cl s.heap.objs.size X.env).kindOf y=b0 .local\/(ϗ scope cl s.heap.objs.size X.env).kindOf y=b0 .cell\/(ϗ scope cl s.heap.objs.size X.env).kindOf y=b0 .free:=w;rw[E]at a;rcases a with a|a|a<;>cases a
   .rw[q3];show q1
  have a:(ϗ scope cl s.heap.objs.size X.env).kindOf y=b0 .cell\/(ϗ scope cl s.heap.objs.size X.env).kindOf y=b0 .free:=by
   rcases w with w|w|w
   .exfalso;have a:(ϗ scope cl s.heap.objs.size X.env).kindOf y=b0 .local:=w;rw[E]at a;cases q:scope.names.lookup y with
    |none=>rw[q]at a;cases a|some k=>
     rw[q]at a;cases k with
     | «local»=>show j q|cell=>simp at a|free=>simp only[Ę]at a;split at a<;>cases a|globalExplicit=>simp at a|globalImplicit=>simp at a
   .show .inl w
   .show .inr w
  obtain⟨g,c,hc⟩:=O.free y<|O.outer a;obtain⟨m0,hn0,hl0⟩:=I.loc;obtain⟨u,r,l⟩:=hl0 i y v h1' A (by rcases g with g|g;show .inr<|.inl g;show .inr<|.inr g);show⟨u,r,.inr ⟨a,c,hc,?_⟩⟩;rcases l with⟨lk,_⟩|⟨_,c',e',z⟩
  .exfalso;rcases g with g|g
   .rw[g]at lk;cases lk
   .rw[g]at lk;cases lk
  .rw[O.sub y c hc]at e';cases e';obtain⟨o,M,hd⟩:=z;show⟨o,N c o M,hd⟩
 .obtain⟨v,q⟩:=I.cell y c<|O.sub y c h;show⟨v,by obtain⟨o,M,hd⟩:=q;show⟨o,N c o M,hd⟩⟩
 .change(σ++aa xs.length b5).length=(bJ xs X.N++xs).length;rw[Z4,Z4,I.len,uh,oB]
def ì.back{σ L:St}(I:Inv X Dn σ H s)(A:∀b∈l,gW X Dn H b)(J:Inv (cH X scope cl s.heap.objs.size N s H l) U L i j)(y:∀b o,b≠s.heap.objs.size->j.heap.get? b=b0 o->h'.get? b=b0 o):Inv X Dn σ i {j with heap:=h'}:=by
 have u:Un (iI X.stack) l H i s.heap h':=by
  have h:Un (iI X.stack) l H i s.heap j.heap:=J.base;have ne:∀b o,s.heap.get? b=b0 o->b≠s.heap.objs.size:=λb o e=>ð<|Z8 e;show⟨λb o e n p x=>y b o (ne b o e)<|h.keep b o e n p x,λb o e n p x=>?_,h.free,λb o e x=>?_,h.tups,h.frzs,h.tbls⟩
  .obtain⟨Y,q⟩:=h.slot b o e n p x;show⟨Y,y b _ (ne b o e) q⟩
  .obtain⟨T,q⟩:=h.there b o e x;show⟨T,y b _ (ne b o e) q⟩
 have a:i s.heap.objs.size=none:=J.free;have B:Ī X.prog X.w i h':=λb v e=>by
  show(J.hok b v e).stay (λc w hc q=>y c w ?_ q) (λ_ q=>q) λ_ _ q=>q;rcases hc with z|z
  .rw[z];intro K;rw[K,a]at e;cases e
  .intro K;rw[K,a]at z;cases z
 have E:j.os=s.os:=J.os;obtain⟨hh,g,d,t,G⟩:=j;obtain rfl:G=s.os:=E;have r:=Inv.call (X:=X) (Dn:=Dn) (σ:=σ) (H:=H) (s:=s) (h':=h') (g':=g) (d':=d) (t':=t) (ch:=l) I u B J.bare λb p=>let⟨Z,M,f2,O,Q,R⟩:=A b p;⟨O,M,Q,R⟩;show r
def a9q(I:Nat->ZZ->Prop)(turn:∀n s,I n s->Ç (Å prog w) A (ņ E) (λr d=>match r with
   |none=>R (.ok .next) d
   |some v=>Ç (Å prog w) A (Kj a E v) (λ_ e=>Ç (Å prog w) A (ϻ a env v) (λ_ l=>
     Ç (Å prog w) A (forIn ifs eA λc r=>if r=eA then do let ok <- qp c env (eval c env);pure (az ok)else pure (az r)) (λok g=>
      if ok=eA then Ç (Å prog w) A (eval elt env) (λx o=>
       Ç (Å prog w) A (call (.builtin "list.append") [acc,x]) (λ_ p=>∃m,m<n/\I m p) (λ_ _=>False) o) (λ_ _=>False) g
      else ∃m,m<n/\I m g) (λ_ _=>False) l) (λ_ _=>False) e) (λ_ _=>False) d) (λ_ _=>False) s)n(h:I n s):
  ź (Å prog w) A (.compLoop (.ListComp elt [⟨a,iter,ifs,0⟩] scope pos) 0 E acc env) R s:=by
 show codeAny_loop rfl I (λn s G=>?_) n h;change Ç _ A ((compTurn (.ListComp elt [⟨a,iter,ifs,0⟩] scope pos) 0 E acc env).onRaise λx=>do noteFrame x env;theTreesLotGoes x) _ _ s;show wpAny_noted ?_;rw[compTurn_list];show ZU<|Lr<|ZU<|Ĭ (turn n s G) (λr d i=>?_) λ_ _ b=>b.elim;cases r with
 |none=>show Z3 i|some v=>
  show ZU<|Ĭ i (λ_ e u=>?_) λ_ _ b=>b.elim;show ZU<|Ĭ u (λ_ l y=>ZU<|Ĭ y (λok g j=>?_) λ_ _ b=>b.elim) λ_ _ b=>b.elim;cases ok with
  |false=>show Z3 ⟨rfl,j⟩|true=>show ZU<|ZU<|Ĭ j (λx o z=>ZU<|Ĭ z (λ_ p B=>Z3<|Z3 ⟨rfl,B⟩) λ_ _ b=>b.elim) λ_ _ b=>b.elim
abbrev pZ(b:Hm)(a:Nat)(y:D):Option Hm:=match b[a]? with
 |some (.lst xs)=>if xs.length<Z7 then b0 (b.set a<|.lst<|xs++[y])else b5|_=>b5
noncomputable abbrev BD:=D->Hm->Option aF
abbrev qA:BD:=λd _=>b0 [b0 d]
abbrev jZ(k:Nat):BD:=λd a=>(bL a d).bind λxs=>if xs.length=k then b0 (xs.map b0)else b5
abbrev hZ(a:Hm->Nat->Option (Option D))(h:BD)(c:MT)(e:ME)(b:aF)(g:Nat):Nat->Nat->Hm->Option Hm
 |0,_,_=>b5|n+1,i,μ=>(a μ i).bind λo=>match o with
  |none=>b0 μ|some d=>(h d μ).bind λx=>(c (b++x) μ).bind λp=>match p.1 with
   |true=>(e (b++x) p.2).bind λq=>(pZ q.2 g q.1).bind λj=>hZ a h c e b g n (i+1) j|false=>hZ a h c e b g n (i+1) p.2
abbrev d9:MT:=λ_ a=>b0 (eA,a)
abbrev oC(X:Cx)(ifs:List Expr)(m:MT):Prop:=
 ∀(Dn:jw)(s:ZZ)(σ:St)(H:Hp)(Q:Bool->Hp->Prop),Inv X Dn σ H s->ķ X.K m σ H Q->
  Ç (Å X.prog X.w) X.A (forIn ifs eA λc r=>if r=eA then do let ok <- qp c X.env (eval c X.env);pure (az ok)else pure (az r)) (TP X Dn σ Q) X.xe s
def a9p:oC X [] d9:=by intro a s j H Q I h;obtain⟨e,i,g,b,d,R,E,c,k⟩:=h;cases c;show wpAny_tests_nil ⟨H,I,k e H .refl R⟩
def a9o(h:PT X c (ķ X.K m)):oC X [c] m:=λDn s σ H Q I q=>wpAny_tests_one<|h Dn s σ H Q I q
def Ei(h:t≠e):∀n i s(Q:gw->ZZ->Prop),s.heap.IsListIter e t i->s.heap.IsList t items->i+n<=items.size->
  (∀l,l.IsListIter e t (i+n)->γ e s.heap l->Q ((items.toList.drop i).take n) {s with heap:=l})->Ç (Å prog w) A (draw (.ref e) n) Q E s
 |0,i,s,Q,hit,_,_,hQ=>by change Ç _ _ (pure []) Q E s;show Z3<|by simpa using hQ s.heap hit (LM ..)
 |n+1,i,s,Q,hit,ht,hle,hQ=>by
  have g:i<items.size:=by lia
  change Ç _ _ (ņ (.ref e) >>= _) Q E s;show ZU (P0 hit ht (x:=items[i]) (by simp[g]) λo b a=>?_);show ZU (Ķ<|Ei h n (i+1) _ _ b (ht.extBut a.extBut h) ⋯ λj c d=>Z3 ?_);have hd:items.toList.drop i=items[i]::items.toList.drop (i+1):=by simp[il,g]
  have:=hQ j (by rw[show i+(n+1)=i+1+n by lia];show c)<|a.trans d;rw[hd,MY]at this;show this
def a9n{Q:gw->ZZ->Prop}(v:A.handled=b5)(j:s.heap.IsList t items)(u:∀p,yf s.heap.objs.size s.heap p->Q items.toList {s with heap:=p}):Ç (Å prog w) A (unpackItems (.ref t) items.size b5) Q E s:=by
 have i:t≠s.heap.objs.size:=by obtain⟨o,x,_⟩:=j;show ð<|Z8 x
 unfold unpackItems;show ZU ?_
 .unfold notIterableAtAll;show ZU<|rT j.typeIs slot_list_iter.lookup ?_;show Z3 ?_;simp only[Į,if_false];show ZU<|Ķ<|L9 j ?_;show ZU (Ķ<|Ei i items.size 0 _ _ ⟨_,Ă _ rfl,rfl,rfl⟩ (j.push _) ⋯ λl c a=>?_);have h:List.take items.size (List.drop 0 items.toList)=items.toList:=by rw[Ϭ];show ϳ<|by simp
  rw[h];rw[if_neg<|by simp];have g:l.IsList t items:=(j.push _).extBut a.extBut i;show ZU (Ķ<|O8 v c g (by simp) λn d=>?_);simp only[Option.isSome_none,Į,if_false];show Z3<|u n λb o r e=>d b o r<|a.extBut b o r<|Z1 _ e
def a9m{x1}(d:A.handled=b5)(g:s.heap.IsList t items)(e:(Η a env).length=items.size)(b:(Η a env).findIdx? (·.1)=b5)(h:∀c,yf s.heap.objs.size s.heap c->Ç (Å prog w) A (assignInOrder ((Η a env).map (·.2)) items.toList) Q E {s with heap:=c}):
  Ç (Å prog w) A (ϻ (.Tuple a x1 pos) env<|.ref t) Q E s:=by
 rw[b2q];show ZU<|Lr ?_;unfold unpack;rw[e,b];show ZU<|Ķ<|a9n d g h
abbrev oD:aF->List Nat->List D->aF
 |ρ,i::is,x::xs=>oD (ρ.set i<|b0 x) is xs|ρ,_,_=>ρ
abbrev j6(a:List Nat):MG:=λd c b=>(bL b d).bind λxs=>if xs.length=a.length then b0 (oD c a xs)else b5
abbrev vJ:List Nat->pN
 |[]=>C1|i::r=>C2 (yM i)<|vJ r
def z9:∀a{vs}{xs}{σ}{c}{Q},Ã K π n H vs xs->En K π n H σ c->xs.length=a.length->(∀b,En K π n H b (oD c a xs)->Q b H)->vJ a vs σ H Q
 |[],vs,xs,σ,c,Q,h,E,hl,k=>by
  cases h with
  |nil=>show⟨rfl,k σ E⟩|cons h t=>cases hl
 |i::a,vs,xs,σ,c,Q,h,E,hl,k=>by
  cases h with
  |nil=>cases hl|cons h t=>show⟨_,_,rfl,z9 a t (E.set h i) (by simpa using hl) k⟩
def a9l(hc:X.calm=eA)(h:rY X es (vJ l))(M:(Η es X.env).length=l.length:=by rfl)(p:(Η es X.env).findIdx? (·.1)=none:=by rfl):
  PG X (.Tuple es k pos) (ū X.K<|j6 l):=by
 intro i s y H v u Q I r hw;obtain⟨T,ρ,O,d,ρ',R,E,hd,Z,N⟩:=hw;obtain⟨L,j,B⟩:=ZS.mp Z;split at B
 .rename_i x;cases B;have both:(∃a g,v=.ref a/\Ó X.K H a g/\Ã X.K T O.length H g L)\/(∃a g,v=.ref a/\ê X.K H a g/\Ã X.K T O.length H g L):=by
   cases hd with
   |tup q t=>cases j;show .inl ⟨_,_,rfl,q,t⟩|rol q t=>cases j;show .inr ⟨_,_,rfl,q.sq,t⟩|@loc a ha=>
    simp only[bL]at j;split at j
    .rename_i ys hy;cases j;obtain⟨g,U,Y⟩:=R.lst a L hy;show .inr ⟨_,g,rfl,.of U,Y⟩
    .cases j
   |_=>cases j
  rcases both with⟨a,g,rfl,q,t⟩|⟨a,g,rfl,q,t⟩
  .cases r;obtain⟨n,w,G,hz⟩:=I.tuple q;have c:n.length=l.length:=by rw[<- w.length,t.length];show x
   show b2p (I.ok.hd hc) G (by simp[M,c]) p λA K=>?_;have z:Inv X i y H {s with heap:=A}:=I.kept (t':=s.toks) λb o e=>K b o (ð<|Z8 e) e;show h i _ y H g _ Q z (by simpa using w)<|z9 l t E x N
  .cases r;obtain⟨n,w,G,hz⟩:=I.list q;have c:n.length=l.length:=by rw[<- w.length,t.length];show x
   show a9m (I.ok.hd hc) G.isList (by simp[M,c]) p λA K=>?_;have z:Inv X i y H {s with heap:=A}:=I.kept (t':=s.toks) λb o e=>K b o (ð<|Z8 e) e;show h i _ y H g _ Q z (by simpa using w)<|z9 l t E x N
 .cases B
abbrev oE(m:ME)(g:MG):MS:=λb c=>(m b c).bind λp=>(g p.1 b p.2).map λa=>(.nx,a,p.2)
def a9h(r:PE X e (tM X.K m))(s:PG X tg (ū X.K g))(u:swapsWithSole [tg] e pos.line X.env=pure false:=by rfl)(hw:Lp [tg] e X.env=pure none:=by rfl)(h1:(Η [tg] X.env).map (·.2)=[ϻ tg X.env]:=by rfl):PS X (.Assign [tg] e pos) (ľ X.K<|oE m g):=iL (b1k r s u hw h1)<|by
 rintro E K H ⟨z,l,w,G,A,y,R,h,a,k⟩;obtain⟨⟨x,c⟩,h1,a⟩:=ZS.mp a;obtain⟨B,p,a⟩:=ZX.mp a;cases a;show⟨z,l,w,x,c,R,h,h1,λb I o j i v=>⟨b,l,_,x,_,i,h.mono j,v,p,λd n=>k b d o j i n⟩⟩
abbrev sE:MF:=λds a=>match ds with
 |[.str z]=>if z.length<=Z7 then b0 (.int z.length,a)else b5|[x]=>(bL a x).map λb=>(.int b.length,a)|_=>b5
abbrev Aa(K:ZV):gz->Hp->VK->Prop:=λxs H Q=>(∃p a,xs=[.ref p]/\(ê K H p a\/Ó K H p a)/\Q (.int a.length) H)\/(∃z,xs=[.str z]/\z.length<=Z7/\Q (.int z.length) H)
def Φ:Î X (.builtin "len") (Aa X.K):=ŗ.or a7z
def qB(R:Rp K π H b)(h:Í K π b.length H v x)(e:bL b x=b0 xs):∃p vs,v=.ref p/\(ê K H p vs\/Ó K H p vs)/\Ã K π b.length H vs xs:=by
 cases h with
 |tup q t=>cases e;show⟨_,_,rfl,.inr q,t⟩|rol q t=>cases e;show⟨_,_,rfl,.inl q.sq,t⟩|@loc a i=>
  simp only[bL]at e;split at e
  .rename_i j g;cases e;obtain⟨vs,c,d⟩:=R.lst a xs g;show⟨_,vs,rfl,.inl<|.of c,d⟩
  .cases e
 |_=>cases e
def Ej:d8 K sE (Aa K):=by
 intro b H r n d j l Q R i a k;unfold sE at a;split at a
 .split at a
  .rename_i g;cases a;cases i with
   |cons i t=>cases i;cases t;show .inr ⟨_,rfl,g,k b _ H .refl R<|.int _⟩
  .cases a
 .obtain⟨o,c,e⟩:=ZX.mp a;cases e;cases i with
  |cons i t=>cases t;obtain⟨p,h,rfl,q,hd⟩:=qB R i c;show .inl ⟨p,h,rfl,q,?_⟩;rw[hd.length];show k b _ H .refl R<|.int _
 .cases a
abbrev sF:MF:=λds a=>match ds with
 |[x]=>(bL a x).map λb=>(.loc a.length,a++[.lst b])|_=>b5
def Ek:d8 K sF (λxs H Q=>∃p a,xs=[.ref p]/\(ê K H p a\/Ó K H p a)/\∀l,H l=b5->Q (.ref l) (upd H l<|.lst a)):=by
 intro s H r xs d n o Q R i b k;unfold sF at b;split at b
 .obtain⟨a,g,h⟩:=ZX.mp b;cases h;cases i with
  |cons i t=>cases t;obtain⟨p,c,rfl,q,hd⟩:=qB R i g;show⟨p,c,rfl,q,λl j=>?_⟩;obtain⟨e,R2,_⟩:=R.alloc (c:=.lst a) (o:=.lst c) j hd;show k _ _ _ e R2 jY
 .cases b
abbrev Em(K:ZV):gz->Hp->VK->Prop:=λvs H Q=>∃π a x v t c b,vs=[v,.ty c]/\Rp K π H a/\Í K π a.length H v x/\vG a x=b0 t/\vH t c=b0 b/\Q (.bl b) H
def a9e:d8 K hG (Em K):=by
 intro c H r p d n o Q R i a k;unfold hG at a;split at a
 .obtain⟨t,e,a⟩:=ZS.mp a;obtain⟨b,g,a⟩:=ZX.mp a;cases a;cases i with
  |cons i j=>
   cases j with
   |cons h l=>cases l;cases h;show⟨c,_,_,_,t,_,b,rfl,R,i,e,g,k c _ H .refl R<|.bl _⟩
 .cases a
def a9d:Î X (.builtin "isinstance") (Em X.K):=by
 intro M s σ H U us Q I r h;obtain⟨O,μ,x,v,t,c,b,rfl,R,i,d,l,q⟩:=h;obtain⟨u,u2,rfl,A,r2⟩:=r9 r;cases r2;have fin:∀N,EP X M σ Q (.bool b) {s with toks:=N}:=λN=>⟨.bl b,H,I.tok N,rfl,q⟩;cases i with
 |non=>cases d;cases A;show aq PySem.W.kitx_none I.kIn ŭ (lE X.K (by simp) l) (λz=>nomatch z) fin|bl y=>cases d;cases A;show aq PySem.W.kitx_bool I.kIn ŭ (lE X.K (by simp) l) (λz=>nomatch z) fin|int y=>cases d;obtain⟨t,rfl⟩:=A;show aq PySem.W.kitx_int I.kIn ŭ (lE X.K (by simp) l) (λz=>nomatch z) fin|str y=>cases d;obtain⟨t,rfl⟩:=A;show aq PySem.W.kitx_str I.kIn ŭ (lE X.K (by simp) l) (λz=>nomatch z) fin|tup g t=>cases d;cases A;obtain⟨G,T,p,_⟩:=I.tuple g;obtain⟨o,e,j,_⟩:=p;show aq PySem.W.kitx_tuple I.kIn ⟨o,e,j⟩ (lE X.K (by simp) l) (λz=>nomatch z) fin|rol g t=>cases d;cases A;obtain⟨G,T,p,_⟩:=I.list g.sq;obtain⟨o,e,j,_⟩:=p.isList;show aq PV I.kIn ⟨o,e,j⟩ (lE X.K (by simp) l) (λz=>nomatch z) fin|@loc a ha=>
  cases A;simp only[vG]at d;split at d
  .rename_i U E;cases d;obtain⟨L,B,h4⟩:=R.lst a U E;obtain⟨G,T,p,_⟩:=I.list<|ê.of (K:=X.K) B;obtain⟨o,e,j,_⟩:=p.isList;show aq PV I.kIn ⟨o,e,j⟩ (lE X.K (by simp) l) (λz=>nomatch z) fin
  .rename_i w E;cases d;obtain⟨L,B,_⟩:=R.dK a w E;obtain⟨_,_,ws,_,p⟩:=(show Ì X.prog X.w H s.heap (O a) (.dK L)from I.hok _ _ B);obtain⟨o,Z,Y,e,j,_⟩:=p;show aq PU I.kIn ⟨o,e,j.1⟩ (lE X.K (by simp) l) (λz=>nomatch z) fin
  .rename_i w E;cases d;obtain⟨L,B,_⟩:=R.dT a w E;obtain⟨⟨ws,_,_,_,o,Z,Y,e,j,_⟩,_⟩:=(show Ì X.prog X.w H s.heap (O a) (aS (O a) L)from I.hok _ _ B);show aq PU I.kIn ⟨o,e,j.1⟩ (lE X.K (by simp) l) (λz=>nomatch z) fin
  .cases d
 |ty n=>cases d
abbrev iR:D->Option aK
 |.int i=>b0 (.inl i)|.str x=>b0 (.inr x)|_=>b5
abbrev sG(kvs:List (aK×D))(k:aK)(d:D):List (aK×D):=
 if(kvs.any λa=>decide<|a.1=k)=eA then kvs.map (λa=>if a.1=k then(a.1,d)else a)else kvs++[(k,d)]
abbrev j7(kvs more:List (aK×D)):List (aK×D):=more.foldl (λacc a=>sG acc a.1 a.2) kvs
abbrev eW(kvs:List (aK×D))(k:aK):Option D:=(kvs.find? λa=>decide<|a.1=k).map (·.2)
inductive Ö (K:ZV)(π:Nat->Addr)(n:Nat)(H:Hp):List (aK×V)->List (aK×D)->Prop where
 |nil:Ö K π n H [] []
 |cons {k:aK}{v:V}{d:D}{vs:List (aK×V)}{ds:List (aK×D)}(h:Í K π n H v d)(t:Ö K π n H vs ds):Ö K π n H ((k,v)::vs)<|(k,d)::ds
def Ö.maps(h:Ö K π n H vs ds):vs.map (·.1)=ds.map (·.1)/\Ã K π n H (vs.map (·.2)) (ds.map (·.2)):=by
 induction h with
 |nil=>show⟨rfl,.nil⟩|cons h t a=>show⟨by rw[é,é,a.1],.cons h a.2⟩
def Ö.of:∀{vs}{ds},vs.map (·.1)=ds.map (·.1)->Ã K π n H (vs.map (·.2)) (ds.map (·.2))->Ö K π n H vs ds
 |[],[],_,_=>.nil|[],_::_,h,_=>by cases h
 |_::_,[],h,_=>by cases h
 |(k,v)::vs,(k',d)::ds,h,t=>by
  rw[é,é]at h t;injection h with h1 h2;dsimp only at h1;subst h1;cases t with
  |cons a b=>show .cons a<|Ö.of h2 b
def Ö.append(h:Ö K π n H vs ds)(a:Ö K π n H ws es):Ö K π n H (vs++ws) (ds++es):=by
 induction h with
 |nil=>show a|cons h t b=>show .cons h b
def Ö.any(h:Ö K π n H vs ds)k:(vs.any λa=>decide<|a.1=k)=ds.any λa=>decide (a.1=k):=by
 induction h with
 |nil=>rfl|cons h t b=>rw[dh,dh,b]
def Ö.repl(h:Ö K π n H vs ds)(c:Í K π n H v d)k:Ö K π n H (vs.map λa=>if a.1=k then(a.1,v)else a) (ds.map λa=>if a.1=k then(a.1,d)else a):=by
 induction h with
 |nil=>show .nil|@cons g j i vs ds h t b=>
  rw[é,é];by_cases e:g=k
  .simp only[e,if_true];show .cons c b
  .simp only[e,if_false];show .cons h b
def Ö.put(h:Ö K π n H vs ds)(a:Í K π n H v d)k:Ö K π n H (eV vs k v) (sG ds k d):=by
 unfold eV sG;rw[h.any k];split
 .show h.repl a k
 .show h.append<|.cons a .nil
def Ö.merge(a:Ö K π n H ws es):∀{vs}{ds},Ö K π n H vs ds->Ö K π n H (n6 vs ws) (j7 ds es):=by
 induction a with
 |nil=>show λh=>h|cons h t c=>show λb=>c<|b.put h _
def Ö.val(h:Ö K π n H vs ds)k:(eW ds k=b5/\fD vs k=b5)\/∃v d,eW ds k=b0 d/\fD vs k=b0 v/\Í K π n H v d:=by
 induction h with
 |nil=>show .inl ⟨rfl,rfl⟩|@cons a c b vs ds h t j=>
  by_cases e:a=k
  .show .inr ⟨c,b,by simp[eW,Ş,e],by simp[fD,Ş,e],h⟩
  .have g:eW ((a,b)::ds) k=eW ds k:=by simp[eW,Ş,e]
   have i:fD ((a,c)::vs) k=fD vs k:=by simp[fD,Ş,e]
   rw[g,i];show j
def Ö.length(h:Ö K π n H vs ds):vs.length=ds.length:=by
 induction h with
 |nil=>rfl|cons h t a=>rw[ć,ć,a]
def sH(h:Í K π n H y d)(e:iR d=b0 k):y=kV k:=by cases h<;>first|cases e;done|(cases e;rfl)
abbrev oF:List (ME×ME)->aF->Hm->Option (List (aK×D)×Hm)
 |[],_,μ=>b0 ([],μ)|(k,v)::r,ρ,μ=>(k ρ μ).bind λp=>(v ρ p.2).bind λq=>(iR p.1).bind λa=>(oF r ρ q.2).map λt=>((a,q.1)::t.1,t.2)
abbrev oG(b:List (ME×ME)):ME:=λc a=>(oF b c<|a++[.dK []]).bind λp=>match p.2[a.length]? with
 |some (.dK [])=>if p.1.length<=15 then b0 (.loc a.length,p.2.set a.length<|.dK<|j7 [] p.1)else b5|_=>b5
abbrev qC(K:ZV)(a:List (ME×ME)):List (TE×TE):=a.map λp=>(tM K p.1,tM K p.2)
def Eo:∀e{π}{d}{b μ'}{H}{σ}{kvs}{Q},Rp K π H b->En K π b.length H σ d->oF e d b=b0 (kvs,μ')->
  (∀c h i,à π b.length H c μ'.length h->Rp K c h μ'->Ö K c μ'.length h i kvs->Q (i.map λu=>(kV u.1,u.2)) h)->uW (qC K e) σ H Q
 |[],π,d,b,μ',H,σ,kvs,Q,R,E,a,k=>by cases a;show k π H [] .refl R .nil
 |(mk,mv)::r,π,d,b,μ',H,σ,kvs,Q,R,E,a,k=>by obtain⟨⟨x,g⟩,A,a⟩:=ZS.mp a;obtain⟨⟨y,l⟩,B,a⟩:=ZS.mp a;obtain⟨O,G,a⟩:=ZS.mp a;obtain⟨⟨ts,U⟩,I,a⟩:=ZX.mp a;cases a;show⟨π,d,b,x,g,R,E,A,λn v1 Y j w L=>⟨n,d,g,y,l,w,E.mono j,B,λX T Z p R2 M=>?_⟩⟩;show Eo r R2 ((E.mono j).mono p) I λo v i s z N=>?_;have:=sH L G;subst this;show k o v ((O,T)::i) ((j.trans p).trans s) z<|.cons (M.mono s) N
def a9c:k8 X pos [] [] (qC X.K []):=a6k
def a9b(e:PE X k (tM X.K mk))(h:PE X v (tM X.K mv))(g:k8 X pos ks vs (qC X.K d)):k8 X pos (b0 k::ks) (v::vs) (qC X.K<|(mk,mv)::d):=a6g e h g
def a9a(h:k8 X pos keys e (qC X.K i))(j:keys.all (·.isSome)=eA)(U:keys.length=e.length)(N:keys≠[])(u:keys.length<=15):PE X (.Dict keys e pos) (tM X.K<|oG i):=cU (a6T h j U N u)<|by
 rintro σ H Q ⟨π,ρ,r,d,μ',R,E,g,k⟩ p Y;obtain⟨⟨w,x⟩,O,g⟩:=ZS.mp g;split at g
 .rename_i hc;split at g
  .rename_i l;cases g;obtain⟨A,M,Z⟩:=R.alloc (c:=.dK []) (o:=.dK []) Y ⟨rfl,.nil⟩;show Eo i M (E.mono A) O λs H2 K B R2 I=>?_;have n:r.length<x.length:=(ZW.mp hc).1;have o:s r.length=p:=by rw[B.pi r.length<|by simp,Z]
   obtain⟨L,v,T,h5⟩:=R2.dK r.length [] hc;have hw:L=[]:=by
    cases L with
    |nil=>rfl|cons z zs=>cases T
   subst hw;obtain⟨G,y⟩:=R2.put (a:=r.length) (c:=.dK (j7 [] w)) (o:=.dK (n6 [] K)) n v (.inr<|.inl ⟨_,rfl⟩)<|Ö.maps<|I.merge .nil;rw[o]at v G y;show⟨v,K,rfl,by rw[I.length];show l,k s _ _ ((A.trans B).trans G) y ?_⟩;rw[<- o];show .loc<|by rw[ξ];show n
  .cases g
 .cases g
abbrev sI:D->D->Hm->jk
 |.loc a,y,μ=>match μ[a]? with
  |some (.dK kvs)=>(iR y).bind λk=>(eW kvs k).map λd=>(d,μ)|_=>b5
 |_,_,_=>b5
def a9Z(R:Rp K π H i)(h:i[a]?=b0 (.dK kvs))(u:Í K π i.length H y n)(s:iR n=b0 k):
  (eW kvs k=b5/\Ŝ H (π a) y b5)\/∃v d,eW kvs k=b0 d/\Ŝ H (π a) y (b0 v)/\Í K π i.length H v d:=by
 obtain⟨x,o,p,r⟩:=R.dK a kvs h;have e:=sH u s;subst e;have g:=Ŝ.k (k:=k) o;rcases(Ö.of p r).val k with⟨j,l⟩|⟨v,d,j,l,w⟩
 .show .inl ⟨j,by rw[<- l];show g⟩
 .show .inr ⟨v,d,j,by rw[<- l];show g,w⟩
def a9O(p:X.A.units+1<â)(l:PE X a (tM X.K ma))(n:PE X b (tM X.K mb))(o:uV b):PE X (.Subscript a b pos) (tM X.K<|aC sI ma mb):=cU (a5W p l n o)<|by
 intro E H Q h;show pS (r:=λx y H Q=>∃a v,x=.ref a/\Ŝ H a y (b0 v)/\Q v H) ?_ E H Q h;intro B H N x y d A L M Q R r s e k;unfold sI at e;split at e
 .split at e
  .rename_i u hc;obtain⟨K,j,e⟩:=ZS.mp e;obtain⟨G,g,e⟩:=ZX.mp e;cases e;cases r;rcases a9Z R hc s j with⟨i,_⟩|⟨v,I,i,w,z⟩
   .rw[i]at g;cases g
   .rw[i]at g;cases g;show⟨_,v,rfl,w,k B _ H .refl R z⟩
  .cases e
 .cases e
def eX(r:Ô k A):A.units+1<â:=by have:=r.un;lia
abbrev fT(a:ME):ME:=λc b=>(a c b).bind λp=>(Ea p.1).map λd=>(d,p.2)
abbrev gO(cells:List (Str×Addr)):List (Str×Ϙ)->List (Str×Addr)->List (Str×Addr)
 |[],acc=>acc|(n,k)::r,acc=>if k=.free then(match cells.lookup n with|some c=>gO cells r ((n,c)::acc)|none=>gO cells r acc)else gO cells r acc
def Ep:∀names acc,(∀y∈names,y.2=.free->∃c,env.cells.lookup y.1=b0 c)->
  (forIn names acc λx b=>(do
   if x.2==.free then(do let c <- cellOf env x.1;pure (az<|(x.1,c)::b))else pure (az b):ĕ (ForInStep<|List<|Str×Addr)))=pure (gO env.cells names acc)
 |[],acc,_=>rfl|(n,k)::r,acc,h=>by
  have d:=λacc=>Ep r acc λy g=>h y<|ň _ g;rw[OR];by_cases a:k=.free
  .subst a;obtain⟨c,hc⟩:=h (n,.free) (Ś ..) rfl;dsimp only at hc;have e:cellOf env n=pure c:=by unfold cellOf;rw[hc]
   simp only[gO,hc,e,beq_self_eq_true,if_true,pure_bind];show d _
  .have e:(k==ϫ)=false:=by simpa using a
   simp only[gO,e,a,if_false,Į,pure_bind];show d _
def a9L(h:∀y∈scope.names,y.2=.free->∃c,env.cells.lookup y.1=b0 c):Ld scope env=pure (gO env.cells scope.names []):=by have:=Ep (env:=env) scope.names [] h;unfold Ld;simp only[bind_pure]at *;show this
def vK:∀names acc,(∀y c,acc.lookup y=b0 c->cells.lookup y=b0 c)->∀y c,(gO cells names acc).lookup y=b0 c->cells.lookup y=b0 c
 |[],acc,h=>h|(n,k)::r,acc,h=>by
  unfold gO;split
  .split
   .rename_i b hc;show vK r _ λy c e=>?_;rw[uq]at e;by_cases a:y=n
    .subst a;simp only[beq_self_eq_true]at e;cases e;show hc
    .have:(y==n)=false:=by simpa using a
     rw[this]at e;show h y c e
   .show vK r acc h
  .show vK r acc h
def vL:∀names acc y,(∃c,acc.lookup y=b0 c)->∃c,(gO cells names acc).lookup y=b0 c
 |[],acc,y,h=>h|(n,k)::r,acc,y,h=>by
  unfold gO;split
  .split
   .show vL r _ y ?_;rw[uq];by_cases a:(y==n)=eA
    .rw[a];show⟨_,rfl⟩
    .have:(y==n)=false:=by simpa using a
     rw[this];show h
   .show vL r acc y h
  .show vL r acc y h
def vM:∀names acc y,(y,ϫ)∈names->(∃c,cells.lookup y=b0 c)->∃c,(gO cells names acc).lookup y=b0 c
 |[],acc,y,h,_=>by cases h
 |(n,k)::r,acc,y,h,hc=>by
  unfold gO;rcases Ě.mp h with h|h
  .cases h;obtain⟨c,hc⟩:=hc;rw[if_pos rfl,hc];show vL r _ _ ⟨c,by simp[uq]⟩
  .split
   .split
    .show vM r _ y h hc
    .show vM r _ y h hc
   .show vM r _ y h hc
structure Ĵ(osc:Ź)(N:List Str)(scope:Ź)(xs:List Str):Prop where
 nocell:∀y∈scope.names,y.2≠.cell
 kind:scope.kind=.function
 names:∀y∈scope.names,y.2=.local->scope.names.lookup y.1=b0 .local
 here:∀x∈xs,scope.names.lookup x=b0 .local
 free:∀y∈scope.names,y.2=.free->osc.names.lookup y.1=b0 .cell\/osc.names.lookup y.1=b0 .free
 own:∀y∈scope.names,y.2=.local->y.1∉bJ xs N
 nd:N.Nodup
 hnd:(bJ xs N).Nodup
 hidn:∀y∈N,xs.contains y=eA->scope.names.lookup (pY y)=b5
def Ĵ.ok(S:Ĵ X.env.scope X.N scope xs)(ok:X.Ok):ì X scope (gO X.env.cells scope.names []) xs:=by
 have has:∀y∈scope.names,y.2=.free->∃c,X.env.cells.lookup y.1=b0 c:=λy d b=>ok.has y.1 (S.free y d b);show⟨a9L has,S.nocell,S.kind,S.names,S.here,vK scope.names [] (λy c e=>by cases e),λy e=>?_,λy e=>?_,S.hidn⟩
 .have a:=Ϡ e;show⟨S.free _ a rfl,vM scope.names [] y a (has _ a rfl)⟩
 .show S.own _ (Ϡ e) rfl
abbrev eY(e:Expr):Bool:=!(e.ctorIdx==22)
def fF(h:eY e=eA):æ (e::es) env=(dI,eval e env)::æ es env:=by cases e<;>first|rfl|cases h
def mL:∀{es},es.all eY=eA->(ĸ pos<|æ es env).any (·.1)=dI
 |[],_=>rfl|e::es,h=>by rw[Ĺ,Z9]at h;rw[fF h.1];have:=mL (pos:=pos) (env:=env) h.2;simpa[ĸ]using this
def vO(h:eY e=eA):Η (e::es) env=(dI,ϻ e env)::Η es env:=by cases e<;>first|rfl|cases h
def Er:∀{es},es.all eY=eA->(Η es env).length=es.length
 |[],_=>rfl|e::es,h=>by rw[Ĺ,Z9]at h;rw[vO h.1,ć,ć,Er h.2]
def Es:∀{es},es.all eY=eA->(Η es env).findIdx? (·.1)=b5
 |[],_=>rfl|e::es,h=>by rw[Ĺ,Z9]at h;rw[vO h.1,List.findIdx?_cons,Es h.2];rfl
structure QE(X:Cx)(e:Expr)(m:ME):Prop where
 h:PE X e<|tM X.K m
structure QT(X:Cx)(e:Expr)(m:MT):Prop where
 h:PT X e<|ķ X.K m
structure QW(X:Cx)(e:Expr)(m:MT):Prop where
 h:PW X e<|ķ X.K m
structure QA(X:Cx)(es:List Expr)(m:MA)(n:Nat):Prop where
 h:PA X es<|Ŭ X.K m
 l:∀ρ μ ds μ',m ρ μ=b0 (ds,μ')->ds.length=n
 s:es.all eY=eA
structure QO(X:Cx)(e:Option Expr)(m:MO):Prop where
 h:PO X e<|qj X.K m
structure QS(X:Cx)(st:Stmt)(m:MS):Prop where
 h:PS X st<|ľ X.K m
structure QB(X:Cx)(st:List Stmt)(m:MS):Prop where
 h:Ņ X st<|ľ X.K m
structure QG(X:Cx)(e:Expr)(g:MG):Prop where
 h:PG X e<|ū X.K g
structure vm(X:Cx)(es:List Expr)(is:List Nat):Prop where
 h:rY X es<|vJ is
 n:es.length=is.length
 s:es.all eY=eA
structure QI(X:Cx)(ifs:List Expr)(m:MT):Prop where
 h:oC X ifs m
structure QP(X:Cx)(pos:ß)(keys:List (Option Expr))(values:List Expr)(prs:List (ME×ME)):Prop where
 h:k8 X pos keys values<|qC X.K prs
 a:keys.all (·.isSome)=eA
 l:keys.length=values.length
def a9K i(g:X.N[i]?=b0 x:=by rfl)(h:nX X.env.scope x:=by first|show jm rfl|show J3 (jm rfl)|show J3<|J3 rfl)(hd:(x==("__debug__":Str))=false:=by decide)(d:(x==("__classdict__":Str))=false:=by decide):QE X (.Name x pos) (aA i):=⟨a8B i<|CW g h hd d⟩
def a9J:QE X (.Constant (.int i) j pos) (mC<|.int i):=⟨b1m⟩
def b0h:QE X (.Constant (.bool i) j pos) (mC<|.bl i):=⟨b1j⟩
def b0g:QE X (.Constant (.str i) j pos) (mC<|.str i):=⟨b1i⟩
def b0f:QE X (.Constant .none j pos) (mC .non):=⟨b1g⟩
def sJ(i:ÿ X (υ op) r)(h:cZ X.K f r)(d:QE X a ma)(g:QE X b mb):QE X (.BinOp a op b pos) (aC f ma mb):=⟨b1d i h d.h g.h⟩
def b0e(d:QE X a ma)(g:QE X b mb):QE X (.BinOp a .Add b pos) (aC bA ma mb):=sJ RyI CrJ d g
def b0d(d:QE X a ma)(g:QE X b mb):QE X (.BinOp a .Sub b pos) (aC cW ma mb):=sJ a8v b1o d g
def b0c(d:QE X a ma)(g:QE X b mb):QE X (.BinOp a .Mult b pos) (aC cB ma mb):=sJ b1q a4A d g
def b0b(d:QE X a ma)(g:QE X b mb):QE X (.BinOp a .FloorDiv b pos) (aC cS ma mb):=sJ b1p a3Y d g
def b0a(d:QE X a ma)(g:QE X b mb):QE X (.BinOp a .Mod b pos) (aC aX ma mb):=sJ a8s WbI d g
def b0Z(d:QE X a ma):QE X (.UnaryOp .USub a pos) (fT ma):=⟨CiI d.h⟩
def b0Y(d:QE X a ma):QE X (.UnaryOp .Not a pos) (pT ma):=⟨b1L d.h⟩
def b0X(h:Ô k X.A)(d:QE X a ma)(g:QE X b mb):QE X (.Compare a [.Eq] [b] pos) (aC (a8 dI) ma mb):=⟨fP (Eb<|vF h) vD d.h g.h<|dZ _⟩
def b0V(h:Ô k X.A)(d:QE X a ma)(g:QE X b mb):QE X (.Compare a [.NotEq] [b] pos) (aC (a8 eA) ma mb):=⟨fP (Ec<|vF h) vD d.h g.h<|dZ _⟩
def b0U(d:QE X a ma)(g:QE X b mb):QE X (.Compare a [.Lt] [b] pos) (aC dB ma mb):=⟨fP yT iQ d.h g.h<|dZ _⟩
def b0R(d:QE X a ma)(g:QE X b mb):QE X (.Compare a [.LtE] [b] pos) (aC pX ma mb):=⟨fP yU iQ d.h g.h<|dZ _⟩
def b0Q(d:QE X a ma)(g:QE X b mb):QE X (.Compare a [.Gt] [b] pos) (aC k9 ma mb):=⟨fP yV iQ d.h g.h<|dZ _⟩
def b0M(d:QE X a ma)(g:QE X b mb):QE X (.Compare a [.GtE] [b] pos) (aC sD ma mb):=⟨fP yW iQ d.h g.h<|dZ _⟩
abbrev gD(e:Expr):Bool:=!(e.ctorIdx==7)
def iS(h:gD b=eA):dw op b=false:=by cases b<;>first|rfl|cases h
def b0L(h:QE X a m):QE X (.BoolOp op [a] pos) m:=⟨b1R h.h⟩
def b0K{Ä:List Expr}(d:QE X a ma)(g:QE X (.BoolOp .And (b::Ä) pos) mb):QE X (.BoolOp .And (a::b::Ä) pos) (d7 ma mb):=⟨b1Q d.h g.h⟩
def b0J{Ä:List Expr}(d:QE X a ma)(g:QE X (.BoolOp .Or (b::Ä) pos) mb):QE X (.BoolOp .Or (a::b::Ä) pos) (zN ma mb):=⟨b1M d.h g.h⟩
def b0I{mt:MT}(hc:QT X c mt)(d:QE X a ma)(g:QE X b mb):QE X (.IfExp c a b pos) (gN mt ma mb):=⟨b1K hc.h d.h g.h⟩
def b0H:QA X [] aD 0:=⟨b1J,b1B,rfl⟩
def b0G(g:QE X e m)(d:QA X es ms n)(h:eY e=true:=by rfl):QA X (e::es) (aB m ms) (n+1):=⟨b1H g.h d.h<|fF h,b1A d.l,by rw[Ĺ,h,d.s];rfl⟩
def b0F(h:QA X es ms n):QE X (.Tuple es d pos) (aW ms):=⟨b1F h.h⟩
def b0B(h:QA X es ms n):QE X (.List es pos) (bU ms):=⟨b1E h.h⟩
abbrev mM(e:Expr):Bool:=!(e.ctorIdx==26)
def vP(h:mM b=eA):zH b:=by intro o i;cases b<;>first|rfl|cases h
def a9z(d:QE X a ma)(g:QE X b mb)(h:mM b=true:=by rfl):QE X (.Subscript a b pos) (aC gZ ma mb):=⟨b2r d.h g.h<|vP h⟩
def a9y(i:Ô k X.A)(d:QE X a ma)(g:QE X b mb)(h:mM b=true:=by rfl):QE X (.Subscript a b pos) (aC sI ma mb):=⟨a9O (eX i) d.h g.h<|vP h⟩
def b0u:QO X b5 jE:=⟨b2e⟩
def b0r(h:QE X e m):QO X (b0 e) (jF m):=⟨b2d h.h⟩
def b0q(i:QE X a ma)(j:QO X lo h)(l:QO X d g):QE X (.Subscript a (.Slice lo d b5 o) pos) (oA ma h g):=⟨b2b i.h j.h l.h⟩
def b0p(F:ī X.prog X.w X.K X.mg X.base gC k f i ps (jD X.K n j))(u:Ô k X.A)(s:X.mg x=b0 (.ref f))(r:Ϛ X.K (.ref f)=eA)(l:Ď X.K i ps [])(d:QA X (e::es) ms n)(o:Gl X x:=by rfl)(g:(x==("__debug__":Str))=false:=by decide):QE X (.Call (.Name x p) (e::es) [] pos) (aG j ms):=by
 have h:=d.s;rw[Ĺ,Z9]at h;show⟨b0v F u o s r l d.h d.l g (fF h.1)<|mL h.2⟩
def b0o{id:String}(hc:Î X (.builtin id) r)(i:d8 X.K f r)(l:X.mg x=b5)(s:Ż x=b0 (.builtin id))(h:QA X (e::es) ms n)(j:Gl X x:=by rfl)(o:x ≠ "__name__":=by decide)(d:(x==("__debug__":Str))=false:=by decide):QE X (.Call (.Name x p) (e::es) [] pos) (aG f ms):=by
 have g:=h.s;rw[Ĺ,Z9]at g;show⟨BmI hc i j l s h.h o d (fF g.1)<|mL g.2⟩
def b0n(hc:Î X (.type T) r)(i:d8 X.K f r)(l:X.mg x=b5)(s:Ż x=b0 (.type T))(h:QA X (e::es) ms n)(j:Gl X x:=by rfl)(o:x ≠ "__name__":=by decide)(d:(x==("__debug__":Str))=false:=by decide):QE X (.Call (.Name x p) (e::es) [] pos) (aG f ms):=by
 have g:=h.s;rw[Ĺ,Z9]at g;show⟨h16 hc i j l s h.h o d (fF g.1)<|mL g.2⟩
def b0m(g:X.mg x=b5)(i:Ż x=b0 (.type n))(d:Gl X x:=by rfl)(h:x ≠ "__name__":=by decide)(hd:(x==("__debug__":Str))=false:=by decide):QE X (.Name x pos) (mC<|.ty n):=⟨BsI d g i h hd⟩
def b0l:QP X pos [] [] []:=⟨a9c,rfl,rfl⟩
def b0k(h:QE X k mk)(i:QE X v mv)(g:QP X pos ks vs d):QP X pos (b0 k::ks) (v::vs) ((mk,mv)::d):=
 ⟨a9b h.h i.h g.h,by rw[Ĺ,g.a];rfl,by rw[ć,ć,g.l]⟩
def b0i(h:QP X pos (k::keys) d g)(i:(k::keys).length<=15:=by decide):QE X (.Dict (k::keys) d pos) (oG g):=⟨a9a h.h h.a h.l (by simp) i⟩
def a8T(h:Ô k X.A)(d:QE X a ma)(g:QE X b mb):QT X (.Compare a [.Eq] [b] pos) (aR<|aC (a8 dI) ma mb):=⟨fQ (Eb<|vF h) vD d.h g.h<|dZ _⟩
def a8S(h:Ô k X.A)(d:QE X a ma)(g:QE X b mb):QT X (.Compare a [.NotEq] [b] pos) (aR<|aC (a8 eA) ma mb):=⟨fQ (Ec<|vF h) vD d.h g.h<|dZ _⟩
def a8R(d:QE X a ma)(g:QE X b mb):QT X (.Compare a [.Lt] [b] pos) (aR<|aC dB ma mb):=⟨fQ yT iQ d.h g.h<|dZ _⟩
def a8Q(d:QE X a ma)(g:QE X b mb):QT X (.Compare a [.LtE] [b] pos) (aR<|aC pX ma mb):=⟨fQ yU iQ d.h g.h<|dZ _⟩
def a8P(d:QE X a ma)(g:QE X b mb):QT X (.Compare a [.Gt] [b] pos) (aR<|aC k9 ma mb):=⟨fQ yV iQ d.h g.h<|dZ _⟩
def a8O(d:QE X a ma)(g:QE X b mb):QT X (.Compare a [.GtE] [b] pos) (aR<|aC sD ma mb):=⟨fQ yW iQ d.h g.h<|dZ _⟩
abbrev Ab:Expr->Bool
 |.UnaryOp .Not ..=>dI|.BoolOp ..=>dI|.IfExp ..=>dI|.Compare ..=>dI|_=>eA
def a8N(h:Ab e=eA):∀d,qp e env d=(do let v <- d;standAt e.pos;holding [v] (truthy v)):=by
 intro d;cases e<;>first|rfl|cases h|skip
 rename_i g x p;cases g<;>first|rfl|cases h
def a8M{mt:MT}(d:QT X a mt):QT X (.UnaryOp .Not a pos) (iN mt):=⟨b1T d.h⟩
def a7x{mt:MT}(d:QT X a mt):QW X (.BoolOp .And [a] pos) mt:=⟨b1b d.h⟩
def a7v{mt:MT}(d:QT X a mt):QW X (.BoolOp .Or [a] pos) mt:=⟨b1a d.h⟩
def a7u{mt:MT}{Ä:List Expr}(d:QT X a mt)(g:QW X (.BoolOp .And (b::Ä) pos) mu):QW X (.BoolOp .And (a::b::Ä) pos) (fR mt mu):=⟨b1V d.h g.h⟩
def a7o{mt:MT}{Ä:List Expr}(d:QT X a mt)(g:QW X (.BoolOp .Or (b::Ä) pos) mu):QW X (.BoolOp .Or (a::b::Ä) pos) (iM mt mu):=⟨b1U d.h g.h⟩
def a7n{mt:MT}(h:QW X e mt):QT X e mt:=⟨h.h.pt⟩
def a7m:QI X [] d9:=⟨a9p⟩
def a7j{mt:MT}(h:QT X c mt):QI X [c] mt:=⟨a9o h.h⟩
def a7i:QB X [] bI:=⟨b2a⟩
def a7b{Ä:List Stmt}(h1:QS X st ms)(d:QB X Ä mr):QB X (st::Ä) (aH ms mr):=⟨b2M h1.h d.h⟩
def a7Z(h1:QS X st ms):QB X [st] ms:=⟨b2L h1.h⟩
def a7U:QS X (.Pass pos) bI:=⟨b2H⟩
def a7T(d:QE X e m):QS X (.Return (b0 e) pos) (aN m):=⟨b2E d.h⟩
abbrev jI(e:Expr):Bool:=!(e.ctorIdx==8||e.ctorIdx==9||e.ctorIdx==10)
def sL(h:jI e=eA):Ϧ e t n env=pure false:=by cases e<;>first|rfl|cases h
def a7S(d:QE X e m)(h:jI e=true:=by rfl):QS X (.Expr e pos) (cV m):=⟨b2D d.h<|sL h⟩
def a7Q{mt:MT}(hc:QT X c mt)(d:QB X body ms)(h:QB X orelse mu):QS X (.If c body orelse pos) (bG mt ms mu):=⟨b2C hc.h d.h h.h⟩
def a7P i(j:X.N.Nodup)(l:QE X e m)(h:jI e=true:=by rfl)(p:X.N[i]?=b0 x:=by rfl)(r:Loc X.env.scope x:=by first|show jm rfl|show J3 rfl)(o:X.fn x=eA\/X.env.scope.names.lookup x=b0 .local:=by first|show .inl rfl|show .inr rfl):QS X (.Assign [.Name x d] e pos) (aM i m):=⟨DZ j p r l.h (sL h) o⟩
def a8z i(d:X.N.Nodup)(j:X.N[i]?=b0 x:=by rfl)(l:Loc X.env.scope x:=by first|show jm rfl|show J3 rfl)(h:X.fn x=eA\/X.env.scope.names.lookup x=b0 .local:=by first|show .inl rfl|show .inr rfl):QG X (.Name x pos) (cC i):=⟨Ef d j l h⟩
def Et:vm X [] []:=⟨b2G,rfl,rfl⟩
def Eu i(h:X.N.Nodup)(d:vm X es is)(l:X.N[i]?=b0 x:=by rfl)(o:Loc X.env.scope x:=by first|show jm rfl|show J3 rfl)(j:X.fn x=eA\/X.env.scope.names.lookup x=b0 .local:=by first|show .inl rfl|show .inr rfl):vm X (.Name x pos::es) (i::is):=
 ⟨b1l (C0 h l o j) d.h<|by rw[vO (e:=.Name x pos) rfl];rfl,by rw[ć,ć,d.n],by rw[Ĺ,d.s];rfl⟩
def Ac(h:vm X es is)(hc:X.calm=true:=by rfl):QG X (.Tuple es k pos) (j6 is):=⟨a9l hc h.h ((Er h.s).trans h.n)<|Es h.s⟩
abbrev Ad(e:Expr):Bool:=!(e.ctorIdx==25)
def a8y(h:Ad e=eA):Lp [.Tuple es k pt] e env=pure none:=by cases e<;>first|rfl|cases h
def a8x(d:QE X e m)(i:QG X (.Tuple es k pt) g)(h:Ad e=true:=by rfl):QS X (.Assign [.Tuple es k pt] e pos) (oE m g):=
 ⟨a9h d.h i.h (by cases e<;>rfl) (a8y h)<|by rw[vO (e:=.Tuple es k pt) rfl];rfl⟩
def a8w(F:ϑ K x a st f g)(S:Ĕ N ps (cG st))(e:ps.length<=N.length)(d:fN st=body)(c:∀b A outer s H E,Ô k (A.deeper<|Q0 a (cG st) s.heap.objs.size f b)->
   QB (k7 gC P w K mg base N a (cG st) f b A outer s H E).nox body m):ī P w K mg base gC (k+1) f g ps (jD K ps.length<|zP N.length m):=
 b1y F S e λb A outer s H E h=>by rw[d];show(c b A outer s H E h).h
noncomputable abbrev eJ:=Hm->Nat->Option (Option D)
noncomputable abbrev MI:=aF->Hm->Option (eJ×Nat×Hm)
inductive τ (K:ZV)(m:MI)(σ:St)(H:Hp)(R:It->Hp->Prop):Prop
 |mk (π:Nat->Addr)(ρ:aF)(μ:Hm)(src:eJ)(n:Nat)(μ':Hm)(r:Rp K π H μ)(E:En K π μ.length H σ ρ)(hm:m ρ μ=b0 (src,n,μ'))(k:∀π' H' J,à π μ.length H π' μ'.length H'->Rp K π' H' μ'->Wk K J src π' μ'.length H'->R J H'):τ K m σ H R
structure QJ(X:Cx)(e:Expr)(m:MI):Prop where
 h:∀tg,PI X tg e (τ X.K m)
abbrev Ew:MI:=λ_ _=>b5
def Ex:QJ X e Ew:=⟨λtg Dn s σ H R I hw=>by
 obtain⟨h,i,g,b,n,c,d,E,a,k⟩:=hw;cases a⟩
abbrev lH(x:Str):List D:=x.cps.toList.map λc=>.str ⟨#[c]⟩
abbrev jJ(a:Hm):D->Option (List D)
 |.str x=>b0 (lH x)|d=>bL a d
abbrev c7(x:D):eJ:=λa i=>(jJ a x).map λxs=>xs[i]?
abbrev Ae(x:Str):It:=⟨λi _=>i<x.cps.size,λi H v a=>a=H/\∃c,x.cps[i]?=b0 c/\v=.str ⟨#[c]⟩,λi _=>x.cps.size<=i⟩
def a8u(L:T="str_ascii_iterator"\/T="str_iterator")a x t:ħ Qc P w K tg (Ae x) [a] a (λi h=>h.IsStrIter a T x t i) where
 mem:=by simp
 obj:=λi h st b g=>by
  have e:b=a:=by simpa using g
  subst e;obtain⟨o,e,c,d⟩:=st;show⟨o,e,λv z=>by rw[d]at z;cases z⟩
 keep:=λi h l st k=>let⟨o,e,c,d⟩:=st;⟨o,k a (by simp) o e,c,d⟩;item:=by
  intro X Q hw O hc i j s Y H E I M st R;subst Q hw O;obtain⟨r,y,f2,A,B,G⟩:=M a (by simp);have W:Walks X.prog X.w X.A a [a] [a] x.cps.size (SignAt x) (λi h=>h.IsStrIter a T x t i):=by
   rcases L with rfl|rfl
   .show Walks.strAscii (I.ok.hd hc) a x t
   .show Walks.strWide (I.ok.hd hc) a x t
  show W.item i s _ _ R st λv l U hv p kk=>?_;obtain⟨c,u,hx,rfl⟩:=hv;have Z:Inv X j Y H {s with heap:=l,toks:=U}:=I.turned (λb o g e=>kk b o (by simpa using g) e) r y A B G;obtain⟨o,e,c1,d⟩:=id p;show⟨_,rfl,nY (s:={s with heap:=l,toks:=U}) e c1 d (by rcases L with rfl|rfl<;>decide) ⟨.str ⟨#[c]⟩,H,Z,⟨u,rfl⟩,⟨rfl,c,hx,rfl⟩,p,λb g=>(M b g).1⟩⟩
 done:=by
  intro X Q hw O hc i j s Y H E I M st R;subst Q hw O;obtain⟨r,y,f2,A,B,G⟩:=M a (by simp);have n:x.cps.size<=i:=R;rcases L with rfl|rfl
  .show wpAny_pyNext_ascii_end (I.ok.hd hc) st (by simp[n]) λl N=>⟨rfl,I.turned (t':=s.toks) (λb o g e=>N b o g e) r y A B G⟩
  .show wpAny_pyNext_wide_end (I.ok.hd hc) st (by simp[n]) λl N=>⟨rfl,I.turned (t':=s.toks) (λb o g e=>N b o g e) r y A B G⟩
 self:=λ_ _ _ _ _ st h=>by
  rcases L with rfl|rfl
  .show wpAny_pyIter_striter_ascii st h
  .show wpAny_pyIter_striter_wide st h
def a8t(r:PE X l j):PI X tg l (λσ H R=>j σ H λv d=>∃x,v=.str x/\R (Ae x) d):=by
 intro c s σ H R I h;show aP (r c s σ H _ I h) λv a ⟨y,d,g,w,u⟩=>?_;obtain⟨x,e,q⟩:=u;subst e;obtain⟨t,rfl⟩:=w;have fin:∀T,(T="str_ascii_iterator"\/T="str_iterator")->yN X c σ tg R (.ref a.heap.objs.size) {a with heap:=a.heap.push {cls:=.type T,data:=.fields #[.str x t,.int 0 0]}}:=λT n=>by
  show⟨a.heap.objs.size,[a.heap.objs.size],_,_,d,rfl,g.kept (t':=a.toks) λb o e=>Z1 _ e,a8u n _ x t,⟨_,Ă _ rfl,rfl,rfl⟩,λb p=>?_,q⟩;have e:b=a.heap.objs.size:=by simpa using p
  subst e;show g.fpOk (Z2 _)<|g.hok.fresh<|Z2 _
 cases i:x.cps.all (·<128)
 .show wpAny_pyIter_wide i<|fin _<|.inr rfl
 .show wpAny_pyIter_ascii i<|fin _<|.inl rfl
def a8q:Wk K (Ae x) (c7<|.str x) π n H:=by
 show⟨λb r j i e R z=>?_,λb r j i d e R z=>?_⟩
 .have a:(lH x)[i]?=none:=ñ z;have:=Ξ.mp a;rw[lH,ZT,pF]at this;show this
 .have a:(lH x)[i]?=b0 d:=ñ z;unfold lH at a;rw[þ,ϲ]at a;obtain⟨c,h,p⟩:=ZX.mp a;subst p;show⟨(Mp.mp h).1,λv s ⟨l,u,g,o⟩=>?_⟩;subst l;rw[h]at g;cases g;rw[o];show⟨.refl,R,.str _⟩
abbrev b8(m:ME):MI:=λb a=>(m b a).bind λp=>(jJ p.2 p.1).map λxs=>(c7 p.1,xs.length+1,p.2)
def a8n(h:QE X e m):QJ X e (b8 m):=⟨λtg Dn s σ H R I hw=>by
 obtain⟨B,G,A,M,n,Q,r,E,d,k⟩:=hw;obtain⟨⟨x,p⟩,u,d⟩:=ZS.mp d;obtain⟨O,K,d⟩:=ZX.mp d;cases d;have l:∀(w:bL p x=b0 O)(y:c7 x=lG x),Ç (Å X.prog X.w) X.A (eval e X.env) (λv L=>Ç (Å X.prog X.w) X.A (cg v) (yN X Dn σ tg R) X.xe L) X.xe s:=λw y=>by
  show BmJ h.h Dn s σ H R I ⟨B,G,A,x,_,r,E,u,λb N g i c j=>?_⟩;obtain⟨a,e,q⟩:=a9t c j w;subst e;show⟨a,rfl,?_⟩;dsimp only at k;rw[y]at k;rcases q with⟨o,W⟩|⟨o,W⟩
  .show .inl ⟨o,k b g _ i c W⟩
  .show .inr ⟨o,k b g _ i c W⟩
 cases x with
 |str z=>show a8t h.h Dn s σ H R I ⟨B,G,A,.str z,_,r,E,u,λb N g i c j=>?_⟩;cases j;show⟨z,rfl,k b g _ i c a8q⟩
 |_=>show l K rfl⟩
abbrev iT(ms:MA):MI:=λb a=>(ms b a).bind λp=>match p.1 with
 |[.int j]=>if -(2^62)<=j/\j<2^62 then b0 (jH 0 j.toNat,j.toNat+1,p.2)else b5|_=>b5
def a8j(tr:∀l lo n,ħ q X.prog X.w X.K tg (mE lo n) [l] l λi h=>lF h l (lo+(i:Nat)*1) ((n:Int)-(i:Nat)) 1)(c:Gl X "range")(d:X.mg "range"=b5)(u:QA X [a] ms n):rZ q X tg (.Call (.Name "range" p) [a] [] pos) (τ X.K<|iT ms):=λDn s σ H R I hw=>by
 have w:=u.s;rw[Ĺ,Z9]at w;obtain⟨O,Q,M,K,T,N,A,E,b,k⟩:=hw;obtain⟨⟨x,o⟩,G,b⟩:=ZS.mp b;show b0w tr c d u.h (fF w.1) Dn s σ H R I ⟨O,Q,M,x,o,A,E,G,λr U y B z g=>?_⟩;dsimp only at b;split at b
 .rename_i j;split at b
  .rename_i v;cases b;cases g with
   |cons g L=>cases g;cases L;show⟨j,rfl,v.1,v.2,k r y _ B z Eg⟩
  .cases b
 .cases b
def a8i(b:Gl X "range")(c:X.mg "range"=b5)(d:QA X [a] ms n):QJ X (.Call (.Name "range" p) [a] [] pos) (iT ms):=⟨λtg=>a8j C4 b c d⟩
abbrev mN(ms:MA):MI:=λb a=>(ms b a).bind λp=>match p.1 with
 |[.int i,.int j]=>if -(2^62)<=i/\i<2^62/\-(2^62)<=j/\j<2^62 then b0 (jH i (j-i).toNat,(j-i).toNat+1,p.2)else b5|_=>b5
def a8h(g:Gl X "range")(h:X.mg "range"=b5)(u:QA X [a,b] ms n):QJ X (.Call (.Name "range" p) [a,b] [] pos) (mN ms):=⟨λtg Dn s σ H R I hw=>by
 have d:=u.s;rw[Ĺ,Z9,Ĺ,Z9]at d;obtain⟨Q,T,N,K,U,O,y,E,c,k⟩:=hw;obtain⟨⟨x,o⟩,A,c⟩:=ZS.mp c;show b0j g h u.h (by rw[fF d.1,fF d.2.1];rfl) (by rw[fF d.2.1];rfl) Dn s σ H R I ⟨Q,T,N,x,o,y,E,A,λr Y v z w l=>?_⟩;dsimp only at c;split at c
 .rename_i i j;split at c
  .rename_i B;cases c;cases l with
   |cons l L=>
    cases l;cases L with
    |cons G M=>cases G;cases M;show⟨i,j,rfl,B,k r v _ z w Eg⟩
  .cases c
 .cases c⟩
abbrev cD(c:MI)(g:MG)(b:MS):MS:=λa d=>(c a d).bind λp=>eI p.1 g b p.2.1 0 a p.2.2
abbrev eK(d:BD)(g:MI)(c:MT)(e:ME):ME:=λb h=>(g b h).bind λp=>(hZ p.1 d c e b p.2.2.length p.2.1 0<|p.2.2++[.lst []]).map λa=>(.loc p.2.2.length,a)
noncomputable abbrev dR(a:MI)(c:MT)(e:ME):ME:=eK qA a c e
abbrev gB(n:Nat)(a:BD):MG:=λd c b=>(a d b).map λx=>c.take n++x
def a8f(j:X.N.length=n+1)(h:PG X (.Name x i) (ū X.K<|cC n)):PG X (.Name x i) (ū X.K<|gB n qA):=by
 intro b s z H v u Q I r hw;obtain⟨w,a,p,d,y,R,E,hd,l,k⟩:=hw;cases l;show h b s z H v u Q I r ⟨w,a,p,d,_,R,E,hd,rfl,λc g=>k c ?_⟩;have o:a.length=n+1:=by rw[<- E.len,I.len,j]
 have e:a.set n (b0 d)=a.take n++[b0 d]:=by rw[List.set_eq_take_append_cons_drop,if_pos<|by lia,LI<|by lia]
 rw[e]at g;show g
def Ey:∀xs a b,b.length=xs.length->oD (a++b) (ak a.length xs.length) xs=a++xs.map b0
 |[],a,[],_=>by simp[oD]
 |x::xs,a,y::b,h=>by have c:=Ey xs (a++[b0 x]) b (by simpa using h);rw[ć,zm];change oD ((a++y::b).set a.length<|b0 x) (ak (a.length+1) xs.length) xs=_;rw[LO _ _<|Z2 _,du,yz];rw[Z4,Ms]at c;rw[ú,List.singleton_append]at c;rw[c];simp
def a8Z(x:X.N.length=n+k)(h:PG X tg (ū X.K<|j6<|ak n k)):PG X tg (ū X.K<|gB n<|jZ k):=by
 intro b s M H v u Q I r hw;obtain⟨K,a,G,d,L,R,E,hd,z,B⟩:=hw;obtain⟨y,o,p⟩:=ZX.mp z;obtain⟨l,w,c⟩:=ZS.mp o;split at c
 .rename_i j;cases c;subst p;have A:a.length=n+k:=by rw[<- E.len,I.len,x]
  show h b s M H v u Q I r ⟨K,a,G,d,oD a (ak n k) l,R,E,hd,(by simp only[j6,w,Ē,List.length_range',if_pos j]),λg i=>B g ?_⟩;have e:=Ey l (a.take n) (a.drop n) (by rw[Λ];lia);rw[ŵ,Ġ,dq<|by lia,j]at e;rw[e]at i;show i
 .cases c
def a8Y(E:En K π n H σ (b++o))(c:o.length=k):En K π n H σ (b++aa k b5):=by
 show⟨by rw[E.len,Z4,Z4,uh,c],λi d q=>?_⟩;by_cases a:i<b.length
 .rw[ō a]at q;show E.get i d<|by rw[ō a];show q
 .rw[Ž<|km.mp a,zr]at q;split at q<;>cases q
inductive Qu (Y:Cx)(K:ZV)(tn:Nat->ç->Prop)(fp:List Addr)(π:Nat->Addr)(k:Nat)(H:Hp)(ρ:aF)(l:Nat)(F:Nat->Nat->Hm->Option Hm)(μ':Hm)(n:Nat)(s:ZZ):Prop
 |mk (i:Nat){σ':St}{H':Hp}{π':Nat->Addr}{μi:Hm}{o:aF}(I:Inv Y [] σ' H' s)(st:tn i s.heap)(fr:∀b∈fp,H' b=b5)(e:à π k H π' μi.length H')(R:Rp K π' H' μi)(E:En K π' μi.length H' σ' (ρ++o))(hl:o.length=l)(g:F n i μi=b0 μ')
def Ez(O:ì X scope cl xs)(hq:∀Dn σ H s j,Inv X Dn σ H s->q (cH X scope cl s.heap.objs.size (bJ xs X.N++xs) s H j))(hi:rZ q X tg iter (τ X.K mi))(hb':∀d μ z,bd d μ=b0 z->z.length=xs.length)(hg:∀C s₀ H₀ j,PG (cH X scope cl C (bJ xs X.N++xs) s₀ H₀ j) tg (ū X.K<|gB X.N.length bd))(hc:∀C s₀ H₀ j,oC (cH X scope cl C (bJ xs X.N++xs) s₀ H₀ j) ifs mc)(he:∀C s₀ H₀ j,PE (cH X scope cl C (bJ xs X.N++xs) s₀ H₀ j) elt (tM X.K me))(hs:∀x,ur iter X.env x=pure x){σ:St}(I:Inv X Dn σ H s)(R:Rp X.K π H μ)(E:En X.K π μ.length H σ N)(hm:eK bd mi mc me N μ=b0 (d,μ'))(fin:∀p C π' B(s':ZZ),à π μ.length H π' μ'.length B->Rp X.K π' B μ'->Í X.K π' μ'.length B (.ref p) d->(∃m,s'.heap.Ns C m)->X.s₀.heap.objs.size<=C->C≠X.env.locals->B C=b5->
   (∀y c,X.env.cells.lookup y=b0 c->c≠C)->(∀q∈X.pn++Dn,q.1≠C)->(∀h',(∀b o,b≠C->s'.heap.get? b=b0 o->h'.get? b=b0 o)->Inv X Dn σ B {s' with heap:=h'})->
   compPost (Å X.prog X.w) X.A X.xe use QQ (.ref p) C (.ok .next) s'):
  Ç (Å X.prog X.w) X.A (comprehension (.ListComp elt [⟨tg,iter,ifs,0⟩] scope pos) scope X.env ppos (newList []) dI (eval iter X.env) use) QQ X.xe s:=by
 obtain⟨⟨src,nt,a⟩,h1,hm⟩:=ZS.mp hm;obtain⟨μ2,h3,hm⟩:=ZX.mp hm;cases hm;have hit:Ç (Å X.prog X.w) X.A (eval iter X.env) (λv s1=>Ç (Å X.prog X.w) X.A (cg v) (Ϣ q X Dn σ tg λJ H1=>∃Q,à π μ.length H Q a.length H1/\Rp X.K Q H1 a/\Wk X.K J src Q a.length H1) X.xe s1) X.xe s:=
  hi Dn s σ H _ I ⟨π,N,μ,src,nt,a,R,E,h1,λQ H1 J e1 R1 W=>⟨Q,e1,R1,W⟩⟩
 show wpAny_comprehension_free rfl hs O.clos O.kind O.names<|Ĭ hit (λv s1 hv=>Ĭ hv (λitv A h4=>?_) λ_ _ z=>z) λ_ _ z=>z;obtain⟨it,j,tn,J,H2,rfl,I2,T,st2,f2,Q,e1,R1,W⟩:=h4;show ο (wpAny_newFunctionEnv O.nocell (by intro y hy;simp at hy) (λU K L=>?_) O.kind);dsimp only at K L ⊢;have hfr:H2 A.heap.objs.size=none:=I2.hok.fresh<|Z2 _;have I3:Inv X Dn σ (upd H2 A.heap.objs.size<|.lst []) {A with heap:=A.heap.push {cls:=.type "list",dict:=b5,data:=.seq ([]:gw).toArray}}:=
  I2.laid (t':=A.toks) (λb u e=>Z1 _ e) (Z2 _) ⟨ŀ _,[],0,.nil,Ă _ rfl⟩
 obtain⟨e2,R2,q2⟩:=R1.alloc (c:=.lst []) (o:=.lst []) hfr .nil;generalize hs3:({A with heap:=A.heap.push {cls:=.type "list",dict:=b5,data:=.seq ([]:gw).toArray}}:ZZ)=s3 at I3;have G:A.heap.push {cls:=.type "list",dict:=b5,data:=.seq ([]:gw).toArray}=s3.heap:=by rw[<- hs3]
 have J9:=e1.trans e2;generalize hH3:upd H2 A.heap.objs.size (.lst [])=H3 at I3 e2 R2 J9;generalize hπ3:iK Q a.length A.heap.objs.size=π3 at e2 R2 q2 J9;have hob:∀b∈j,∃o,s3.heap.get? b=b0 o:=λb w=>by obtain⟨o,ho,_⟩:=T.obj 0 _ st2 b w;show⟨o,by rw[<- G];show Z1 _ ho⟩
 have f3:∀b∈j,gW X Dn H3 b:=λb w=>by obtain⟨o,ho,_⟩:=T.obj 0 _ st2 b w;show⟨?_,(f2 b w).2⟩;rw[<- hH3,bC<|ð<|Z8 ho];show(f2 b w).1
 have st3:tn 0 s3.heap:=T.keep 0 _ _ st2 λb w o e=>by rw[<- G];show Z1 _ e
 have hC:(A.heap.push {cls:=.type "list",dict:=b5,data:=.seq ([]:gw).toArray}).objs.size=s3.heap.objs.size:=by rw[G]
 rw[G]at K L;have hk1:∀b o,s3.heap.get? b=b0 o->U.get? b=b0 o:=λb o e=>L.extBut b o (ð<|Z8 e)<|Z1 _ e;have E3:En X.K π3 (a++[C.lst []]).length H3 (σ++aa xs.length b5) (N++aa xs.length b5):=by
  have E':=E.mono J9;show⟨by rw[Z4,Z4,E'.len,uh,uh],λi d' q=>?_⟩;by_cases hi:i<N.length
  .rw[ō hi]at q;obtain⟨v,h5,h6⟩:=E'.get i d' q;show⟨v,by rw[ō<|by rw[E'.len];show hi];show h5,h6⟩
  .rw[Ž<|km.mp hi,zr]at q;split at q<;>cases q
 have hlen:N.length=X.N.length:=by rw[<- E.len];show I.len
 have stat:∀{B:Hp}{pl:jw},(∀b∈j,B b=b5)->pl=[]->∀b∈j,gW (cH X scope cl s3.heap.objs.size (bJ xs X.N++xs) s3 H3 j) pl B b:=λ{B pl} hn hpl b w=>by
  obtain⟨f0,f1,f2',f3',f4,f5⟩:=f3 b w;obtain⟨o,ho⟩:=hob b w;show⟨hn b w,ð<|Z8 ho,λz=>?_,.inl w,λy c h=>f4 y c<|O.sub y c h,λp hp=>?_⟩
  .rcases Ě.mp (I3.stkSub b z)with z|z
   .show f1 z
   .show f2' z
  .subst hpl;show absurd (show p∈([]:jw)from hp)<|by simp
 have loop:∀s4:ZZ,(∃tk,s4={s3 with heap:=U,toks:=tk})->
   ź (Å X.prog X.w) X.A (.compLoop (.ListComp elt [⟨tg,iter,ifs,0⟩] scope pos) 0 (.ref it) (.ref A.heap.objs.size)<|ϗ scope cl s3.heap.objs.size X.env)
    (compPost (Å X.prog X.w) X.A X.xe use QQ (.ref A.heap.objs.size) s3.heap.objs.size) s4:=by
  rintro s4 ⟨tk,rfl⟩;have I4:=O.inv (tk:=tk) I3 f3 hob K hk1;show a9q (Qu (cH X scope cl s3.heap.objs.size (bJ xs X.N++xs) s3 H3 j) X.K tn j π3 (a++[C.lst []]).length H3 N xs.length (hZ src bd mc me N a.length) μ') ?_ nt
  <|.mk 0 I4 (T.keep 0 _ _ st3 λb w o e=>hk1 b o e) (λb w=>(f3 b w).1) .refl R2 E3 uh h3
  rintro n s5 hI5;cases hI5 with
  |@mk i σ5 H5 M μ5 o5 I5 st5 fr5 e5 R5 E5 l5 g5=>
  cases n with
  |zero=>cases g5|succ n=>
   obtain⟨o,h6,h7⟩:=ZS.mp g5;cases o with
   |none=>
    cases h7;have stop:=W.stop M _ H5 i (e2.trans e5) R5 h6;show Ĭ (T.done (cH X scope cl s3.heap.objs.size (bJ xs X.N++xs) s3 H3 j) rfl rfl rfl (hq Dn σ H3 s3 j I3) i [] s5 σ5 H5 (λ_ _=>False) I5 (stat fr5 rfl) st5 stop) (λr s6 Z=>?_) λ_ _ z=>z;obtain⟨hr,I6⟩:=Z;subst hr;obtain⟨m6,hn6,_⟩:=id I6.loc;have hp:M a.length=A.heap.objs.size:=by rw[e5.pi a.length<|by simp,q2]
    show fin A.heap.objs.size s3.heap.objs.size M H5 s6 (J9.trans e5) R5 ?_ ⟨m6,hn6⟩ I3.sz (ó<|ð I3.lt) I6.free (λy c hc z=>?_) (λq hq z=>?_) λh' hh=>ì.back I3 f3 I6 hh
    .rw[<- hp];show .loc<|ĭ (by simp) e5.le
    .obtain⟨v,o,ho,_⟩:=I3.cell y c hc;show ð (Z8 ho) z
    .show ð (Z8 (I3.pin q hq).1) z
   |some d=>
    obtain⟨z,hz,h7⟩:=ZS.mp h7;obtain⟨⟨b,μ6⟩,h8,h9⟩:=ZS.mp h7;obtain⟨g1,g2⟩:=W.go M μ5 H5 i d (e2.trans e5) R5 h6;show Ĭ (T.item (cH X scope cl s3.heap.objs.size (bJ xs X.N++xs) s3 H3 j) rfl rfl rfl (hq Dn σ H3 s3 j I3) i [] s5 σ5 H5 (λ_ _=>False) I5 (stat fr5 rfl) st5 g1) (λr s6 Z=>?_) λ_ _ z=>z;obtain⟨u,hr,h10⟩:=Z;subst hr;show Ĭ h10 (λ_ s7 Z=>?_) λ_ _ z=>z;obtain⟨v,H7,I7,r7,y7,st7,fr7⟩:=Z;obtain⟨e7,R7,hd⟩:=g2 v H7 y7;have I7':=I7.pinned (stat fr7 rfl)<|T.obj _ _ st7;have e5:=e5.trans e7;show Ĭ (hg _ _ _ _ _ s7 σ5 H7 v u (λσ' B=>En X.K M μ5.length H7 σ' (N++z)/\B=H7) I7' r7
     ⟨M,N++aa xs.length b5,μ5,d,N++z,R7,a8Y (E5.mono e7) l5,hd,(by
      change(bd d μ5).map (λx=>(N++aa xs.length b5).take X.N.length++x)=_;rw[hz,<- hlen,MN];rfl),λσ' E'=>⟨E',rfl⟩⟩) (λ_ s8 Z=>?_) λ_ _ z=>z
    obtain⟨σ8,H8,I8,E8,z2⟩:=Z;subst z2;have again:∀{s9:ZZ}{H9:Hp}{g:Nat->Addr}{μ9:Hm},Inv (cH X scope cl s3.heap.objs.size (bJ xs X.N++xs) s3 H3 j) ([]++r6 j s7.heap) σ8 H9 s9->à π3 (a++[C.lst []]).length H3 g μ9.length H9->Rp X.K g H9 μ9->
      En X.K g μ9.length H9 σ8 (N++z)->hZ src bd mc me N a.length n (i+1) μ9=b0 μ'->
      ∃m,m<n+1/\Qu (cH X scope cl s3.heap.objs.size (bJ xs X.N++xs) s3 H3 j) X.K tn j π3 (a++[C.lst []]).length H3 N xs.length (hZ src bd mc me N a.length) μ' m s9:=λ{s9 H9 g μ9} I9 e9 R9 E9 g9=>by
     show⟨n,ϛ _,.mk (i+1) I9.unpinned (T.keep _ _ _ st7 λb w o e=>(I9.pin (b,o)<|ϱ _<|ϱ _<|uQ w e).1) (λb w=>?_) e9 R9 E9 (hb' _ _ _ hz) g9⟩;obtain⟨o,e,_⟩:=T.obj _ _ st7 b w;show(I9.pin (b,o)<|ϱ _<|ϱ _<|uQ w e).2.1
    show Ĭ (hc _ _ _ _ _ s8 _ H8 (λb' B=>∃g,b'=b/\à M μ5.length H8 g μ6.length B/\Rp X.K g B μ6) I8 ⟨M,_,μ5,b,μ6,R7,E8,h8,λg H9 e9 R9=>⟨g,rfl,e9,R9⟩⟩) (λok s9 Z=>?_) λ_ _ z=>z;obtain⟨H9,I9,g,w,e9,R9⟩:=Z;subst w;cases ok with
    |false=>rw[if_neg Z6];show again I9 (e5.trans e9) R9 (E8.mono e9) h9|true=>
     rw[if_pos rfl];obtain⟨⟨dy,μ7⟩,h11,h12⟩:=ZS.mp h9;obtain⟨μ8,Y,h14⟩:=ZS.mp h12;show Ĭ (he _ _ _ _ _ s9 _ H9 (λy B=>∃l,à g μ6.length H9 l μ7.length B/\Rp X.K l B μ7/\Í X.K l μ7.length B y dy) I9 ⟨g,_,μ6,dy,μ7,R9,E8.mono e9,h11,λl y H10 K0 R10 LX=>⟨l,K0,R10,LX⟩⟩)
      (λu' s10 Z=>?_) λ_ _ z=>z
     obtain⟨y,H10,I10,ry,l,K0,R10,LX⟩:=Z;unfold pZ at Y;split at Y
     .rename_i zs hz;split at Y
      .rename_i hl;cases Y;obtain⟨vs,LY,NB⟩:=R10.lst _ zs hz;have eall:=(e5.trans e9).trans K0;have hp:l a.length=A.heap.objs.size:=by rw[eall.pi a.length<|by simp,q2]
       obtain⟨LZ,R11⟩:=R10.put (a:=a.length) (c:=.lst (zs++[dy])) (o:=.lst (vs++[y])) (ZW.mp hz).1 LY (.inl ⟨vs,rfl⟩)<|NB.append<|.cons LX .nil;rw[hp]at LY LZ R11;show Ĭ (DE (X:=cH X scope cl s3.heap.objs.size (bJ xs X.N++xs) s3 H3 j) _ s10 _ H10 (.ref A.heap.objs.size) [y] (.ref A.heap.objs.size) [u'] (λ_ B=>B=upd H10 A.heap.objs.size (.lst<|vs++[y])) I10 rfl (.cons ry .nil)
        ⟨A.heap.objs.size,vs,y,rfl,rfl,LY,by rw[NB.length];show hl,rfl⟩) (λ_ s11 Z=>?_) λ_ _ z=>z
       obtain⟨_,H11,I11,_,z⟩:=Z;subst z;show again I11 (eall.trans LZ) R11 ((E8.mono<|e9.trans K0).mono LZ) h14
      .cases Y
     .cases Y
 have l4:=loop {s3 with heap:=U,toks:=A.toks+([]:List (Str×Value)).length} ⟨_,rfl⟩;have hst4:tn 0 U:=T.keep 0 _ _ st3 λb w o e=>hk1 b o e;subst hs3;show codeAny_compStart_list l4<|T.self _ 0 _ _ _ hst4 l4
def a8X(O:ì X scope cl xs)(N:∀Dn σ H s a,Inv X Dn σ H s->q (cH X scope cl s.heap.objs.size (bJ xs X.N++xs) s H a))(G:rZ q X tg iter (τ X.K mi))(c:∀d r z,bd d r=b0 z->z.length=xs.length)(B:∀C s₀ H₀ a,PG (cH X scope cl C (bJ xs X.N++xs) s₀ H₀ a) tg (ū X.K<|gB X.N.length bd))(hc:∀C s₀ H₀ a,oC (cH X scope cl C (bJ xs X.N++xs) s₀ H₀ a) ifs mc)(A:∀C s₀ H₀ a,PE (cH X scope cl C (bJ xs X.N++xs) s₀ H₀ a) elt (tM X.K me))(T:∀x,ur iter X.env x=pure x):PE X (.ListComp elt [⟨tg,iter,ifs,0⟩] scope pos) (tM X.K<|eK bd mi mc me):=by
 intro Dn s σ H Q I hw;obtain⟨π,ρ,r,d,μ',R,E,K,k⟩:=hw;rw[eval_ListComp];show Ez (use:=b5) O N G c B hc A T I R E K λp C i j s' v u Y h U M g l n back=>?_;obtain⟨m,L⟩:=h;show⟨m,L,λw Z=>⟨.ref p,j,back w λb o y e=>(Z.2 b y).trans e,rfl,k i _ j v u Y⟩⟩
def a8W(O:ì X scope cl xs)(a:X.calm=eA)(h:PI X tg iter (τ X.K mi))(c:∀d j z,bd d j=b0 z->z.length=xs.length)(g:∀C s₀ H₀ b,PG (cH X scope cl C (bJ xs X.N++xs) s₀ H₀ b) tg (ū X.K<|gB X.N.length bd))(hc:∀C s₀ H₀ b,oC (cH X scope cl C (bJ xs X.N++xs) s₀ H₀ b) ifs mc)(e:∀C s₀ H₀ b,PE (cH X scope cl C (bJ xs X.N++xs) s₀ H₀ b) elt (tM X.K me))(i:∀x,ur iter X.env x=pure x):PE X (.ListComp elt [⟨tg,iter,ifs,0⟩] scope pos) (tM X.K<|eK bd mi mc me):=a8X O (λ_ _ _ _ _ _=>a) h c g hc e i
def a8U(O:ì X scope cl xs)(hN:X.N.Nodup)(h:X.calm=eA)(hi:PI X tg iter (τ X.K mi))(G:∀d μ z,bd d μ=b0 z->z.length=xs.length)(hg:∀C s₀ H₀ n,PG (cH X scope cl C (bJ xs X.N++xs) s₀ H₀ n) tg (ū X.K<|gB X.N.length bd))(hc:∀C s₀ H₀ n,oC (cH X scope cl C (bJ xs X.N++xs) s₀ H₀ n) ifs mc)(he:∀C s₀ H₀ n,PE (cH X scope cl C (bJ xs X.N++xs) s₀ H₀ n) elt (tM X.K me))(hs:∀x,ur iter X.env x=pure x)(hy:X.N[i]?=b0 y)(Z:X.env.scope.names.lookup y=b0 .local)(M:Ϧ (.ListComp elt [⟨tg,iter,ifs,0⟩] scope pos) (b0<|.Name y py) g.line X.env=pure eA):
  PS X (.Assign [.Name y py] (.ListComp elt [⟨tg,iter,ifs,0⟩] scope pos) g) (ľ X.K<|aM i<|eK bd mi mc me):=by
 intro l s σ H EN I hw;obtain⟨π,ρ,μ,fl,ρ',μ',R,E,K,k⟩:=hw;obtain⟨⟨d,μ1⟩,h1,K⟩:=ZX.mp K;cases K;rw[exec_Assign_Name_used _ _ _ _ M];show ZU<|Lr ?_;show ZU<|ZU ?_;show Ez (use:=b0 (ϻ (.Name y py) X.env)) (QQ:=λ_ v=>Ç (Å X.prog X.w) X.A (pure ()) (λ_ Q=>Ç (Å X.prog X.w) X.A (pure Flow.next) (SP X l EN) X.xe Q) X.xe v) O (λ_ _ _ _ _ _=>h) hi G hg hc he hs I R E h1 λp C U w v Y R1 i1 L N r j c u back=>?_;obtain⟨m,hn⟩:=L;have I1:Inv X l σ w v:=back v.heap λb o _ e=>e;change Ç (Å X.prog X.w) X.A (ϻ (.Name y py) X.env<|.ref p) _ X.xe v;show NU ?_;show CU I1 hN hy (.inl Z) (show Æ (.ref p) (.ref p)from rfl) (λs2 I2 ⟨a,sb,B⟩=>?_)<|.inr Z;have A:C≠a:=by
  rcases B with rfl|B
  .show r
  .show ó<|c _ _ B
 show⟨m,hn.sameBut sb A,λh' T=>Z3<|Z3 ?_⟩;show⟨σ.set i<|b0<|.ref p,w,I2.turned (t':=s2.toks) (λb o hb e=>(T.2 b hb).trans e) j r (.inr N) c u,?_⟩;show k U _ w Y R1<|(E.mono Y).set i1 i
abbrev b6:ME:=λ_ _=>b5
abbrev oH:MT:=λ_ _=>b5
abbrev dH:MS:=λ_ _=>b5
section
variable{X:Cx}{e a b c o:Expr}{m m1 m2 ma mb mc:ME}{pos:ß}{mt mu:MT}{Ä es:List Expr}{ms:MA}{n:Nat}
def bR:QE X e b6:=⟨λDn s σ H Q I h=>by
 obtain⟨l,p,j,d,i,R,E,g,k⟩:=h;cases g⟩
def vQ:QT X e oH:=⟨λDn s σ H Q I h=>by
 obtain⟨l,p,j,d,i,R,E,g,k⟩:=h;cases g⟩
def a9I:QW X e oH:=⟨λj Dn s σ H Q I h=>by
 obtain⟨p,r,l,d,i,R,E,g,k⟩:=h;cases g⟩
def eZ:QS X st dH:=⟨λDn s σ H D I h=>by
 obtain⟨p,r,l,j,i,g,R,E,d,k⟩:=h;cases d⟩
def vT(p:∀d l j,g d l j=b5):QG X e g:=⟨λDn s σ H v u Q I r h=>by
 obtain⟨x,l,j,d,w,R,E,hd,i,k⟩:=h;rw[p]at i;cases i⟩
def mO(h1:QE X e m1)(p:QE X e m2)(h:∀i g r,m i g=b0 r->m1 i g=b0 r\/m2 i g=b0 r):QE X e m:=⟨λDn s σ H Q I q=>by
 obtain⟨l,i,g,d,j,R,E,u,k⟩:=q;rcases h i g _ u with z|z
 .show h1.h Dn s σ H Q I ⟨l,i,g,d,j,R,E,z,k⟩
 .show p.h Dn s σ H Q I ⟨l,i,g,d,j,R,E,z,k⟩⟩
def qD{m m1 m2:MT}(h1:QT X e m1)(p:QT X e m2)(h:∀i g r,m i g=b0 r->m1 i g=b0 r\/m2 i g=b0 r):QT X e m:=⟨λDn s σ H Q I q=>by
 obtain⟨l,i,g,d,j,R,E,u,k⟩:=q;rcases h i g _ u with z|z
 .show h1.h Dn s σ H Q I ⟨l,i,g,d,j,R,E,z,k⟩
 .show p.h Dn s σ H Q I ⟨l,i,g,d,j,R,E,z,k⟩⟩
def gP{f j l:D->D->Hm->jk}(h:∀x y d r,f x y d=b0 r->j x y d=b0 r\/l x y d=b0 r) :
  ∀i d r,aC f ma mb i d=b0 r->aC j ma mb i d=b0 r\/aC l ma mb i d=b0 r:=by
 intro i d r g;obtain⟨p,s,g⟩:=ZS.mp g;obtain⟨q,u,g⟩:=ZS.mp g;rcases h _ _ _ _ g with z|z
 .show .inl<|ZS.mpr ⟨p,s,ZS.mpr ⟨q,u,z⟩⟩
 .show .inr<|ZS.mpr ⟨p,s,ZS.mpr ⟨q,u,z⟩⟩
def qE(h:∀g d r,m g d=b0 r->m1 g d=b0 r\/m2 g d=b0 r):∀g d r,aR m g d=b0 r->aR m1 g d=b0 r\/aR m2 g d=b0 r:=by
 intro g d r i;obtain⟨p,j,i⟩:=ZS.mp i;rcases h _ _ _ j with z|z
 .show .inl<|ZS.mpr ⟨p,z,i⟩
 .show .inr<|ZS.mpr ⟨p,z,i⟩
abbrev qF:List D->Option (List Int)
 |[]=>b0 []|.int i::r=>(qF r).map (i::·)|_=>b5
abbrev cM:D->Option (List Int)
 |.tup ds=>qF ds|_=>b5
abbrev aY(kvs:jx)(k:List Int):Option D:=(kvs.find? λp=>decide<|p.1=k).map (·.2)
abbrev bW(kvs:jx)(k:List Int)(d:D):jx:=if(aY kvs k).isSome then kvs.map (λp=>if p.1=k then(p.1,d)else p)else kvs++[(k,d)]
abbrev aE:D->D->Hm->jk:=λx y g=>match x with
 |.loc a=>match g[a]? with
  |some (.dK kvs)=>(iR y).bind λk=>(eW kvs k).map λd=>(d,g)|some (.dT kvs)=>(cM y).bind λk=>(aY kvs k).map λd=>(d,g)|some (.dF kvs)=>(cM y).bind λk=>(aY kvs k).map λd=>(d,g)|_=>gZ x y g
 |_=>gZ x y g
abbrev sM(kvs:List (aK×D))(mb:ME):ME:=λh g=>(mb h g).bind λp=>(iR p.1).bind λk=>(eW kvs k).map λd=>(d,p.2)
structure Ο(X:Cx)(x:Str)(kvs:List (aK×D)):Prop where
 ex:∃(p:Addr)(vs:List (aK×V))(ws:List (aK×Value)),X.mg x=b0 (.ref p)/\(p==ğ)=dI/\(∀h:ç,X.K.In h->h.DictOf (dA X.prog X.w) p ws)/\KV vs ws/\∀π n H,Ö X.K π n H vs kvs
def a9H(T:Ο X x kvs)(hg:Gl X x)(hd:(x==("__debug__":Str))=dI)(hb:QE X b mb)(h:mM b=eA):QE X (.Subscript (.Name x p) b pos) (sM kvs mb):=⟨by
 obtain⟨q,vs,ws,hm,_,O,hv,hk⟩:=T.ex;intro r s σ H Q I hw;obtain⟨π,ρ,Z,d,μ',R,E,i,k⟩:=hw;obtain⟨⟨y,j⟩,h1,i⟩:=ZS.mp i;obtain⟨K,h2,i⟩:=ZS.mp i;obtain⟨d',u,i⟩:=ZX.mp i;cases i;have M:∀{H':Hp}{U:ZZ},Inv X r σ H' U->U.TypeIs (.ref q) "dict":=λI'=>(O _ I'.kIn).typeIs;show zD Mq.lookup (vP h)<|rX I hg hm ?_ hd;show aP (hb.h r s σ H _ I ⟨π,ρ,Z,y,_,R,E,h1,λg Y l A z G=>(⟨g,A,z,G⟩:∃g,à π Z.length H g j.length l/\Rp X.K g l j/\Í X.K g j.length l Y y)⟩) λiv s2 ⟨Y,l,w,r1,g,A,z,G⟩=>?_;show⟨M w,?_⟩;have ev:=sH G h2;subst ev;have dd:=O _ w.kIn;rcases(hk g j.length l).val K with⟨N,_⟩|⟨v,d2,N,z2,z3⟩
 .rw[N]at u;cases u
 .rw[N]at u;cases u;obtain⟨w',B,L⟩:=ġ.some_of (v:=v) (o:=Iv ws K) (by rw[<- z2];show hv.val K);show Np (pP r1) dd.mapOf B ⟨v,l,w.tok _,L,k g v l A z z3⟩⟩
abbrev Af(kvs:List (aK×D))(ma:ME):ME:=λg d=>(ma g d).bind λp=>(iR p.1).map λk=>(.bl (eW kvs k).isSome,p.2)
def a9G(T:Ο X x kvs)(hg:Gl X x)(hd:(x==("__debug__":Str))=dI)(ha:QE X a ma):QE X (.Compare a [.In] [.Name x p] pos) (Af kvs ma):=⟨by
 obtain⟨q,vs,ws,hm,hs,hD,hv,hk⟩:=T.ex;intro w s σ H Q I hw;obtain⟨M,ρ,L,d,μ',R,E,h,k⟩:=hw;obtain⟨⟨y,i⟩,Y,h⟩:=ZS.mp h;obtain⟨l,Z,h⟩:=ZX.mp h;cases h;show NN (aP (ha.h w s σ H _ I ⟨M,ρ,L,y,_,R,E,Y,λg B j z u A=>(⟨g,z,u,A⟩:∃g,à M L.length H g i.length j/\Rp X.K g j i/\Í X.K g i.length j B y)⟩) λiv s2 ⟨B,j,r,r1,g,z,u,A⟩=>rX r hg hm ?_ hd) rfl;have U:=sH A Z;subst U;have N:=hD _ r.kIn;show wpAny_in_of (pP r1) hs N.mapOf ⟨.bl _,j,r.tok _,rfl,?_⟩;have O:(Iv ws l).isSome=(eW kvs l).isSome:=by rw[<- (hv.val l).isSome_eq];rcases(hk g i.length j).val l with⟨G,K⟩|⟨v,d2,G,K,z3⟩<;>rw[G,K]<;>rfl
 rw[O];show k g _ j z u<|.bl _⟩
def EA{σ:St}(I:Inv X Dn σ H s)(h:X.K.lookup p=b0 d):H p=none:=(I.bs p d<|I.mod.kin p d h).2
def EB(R:Rp K π H i)(p:g<i.length):∃u,H (π g)=b0 u/\(∀vs,u≠.tup vs)/\∀j v,(∀l,v≠HO.ext l)->u≠.frz j v:=by
 cases q:i[g]? with
 |none=>show absurd (Ξ.mp q) ⋯|some cl=>
  cases cl with
  |lst d=>obtain⟨vs,h,_⟩:=R.lst g d q;show⟨_,h,(λ_ z=>nomatch z),λ_ _ _ z=>nomatch z⟩|dK d=>obtain⟨vs,h,_⟩:=R.dK g d q;show⟨_,h,(λ_ z=>nomatch z),λ_ _ _ z=>nomatch z⟩|st d=>obtain⟨vs,h,_⟩:=R.st g d q;show⟨_,h,(λ_ z=>nomatch z),λ_ _ _ z=>nomatch z⟩|dT d=>obtain⟨vs,h,_⟩:=R.dT g d q;show⟨_,h,(λ_ z=>nomatch z),λ_ _ _ z=>nomatch z⟩|dF d=>obtain⟨j,vs,h,_⟩:=R.dF g d q;show⟨_,h,(λ_ z=>nomatch z),λ_ _ n z=>n _<|by cases z;rfl⟩
section
variable{Dn:jw}{σ:St}{H:Hp}{s:ZZ}{π:Nat->Addr}{μ:Hm}
def EC(I:Inv X Dn σ H s)(R:Rp X.K π H μ)(l:g<μ.length)(h:Ó X.K H (π g) vs):False:=by
 obtain⟨u,d,i,j⟩:=EB R l;rcases h with(h|⟨v,h⟩)|⟨v,r,n,p,_⟩
 .rw[d]at h;show i _<|ñ h
 .rw[d]at h;show j _ (.tup vs) (λw z=>nomatch z)<|ñ h
 .rw[EA I p]at d;cases d
def ED(I:Inv X Dn σ H s)(R:Rp X.K π H μ)(j:g<μ.length)(h:ϴ X.K H (π g) vs):False:=by
 obtain⟨u,d,v,i⟩:=EB R j;rcases h with⟨r,h⟩|⟨r,p,n,l,_⟩
 .rw[d]at h;show i _ (.lst vs) (λw z=>nomatch z)<|ñ h
 .rw[EA I l]at d;cases d
def EE(I:Inv X Dn σ H s)(h:Ó X.K H p vs)(h':ϴ X.K H p ws):False:=by obtain⟨g,_,t,_⟩:=I.tuple h;obtain⟨d,_,l,_⟩:=I.list h'.sq;show absurd rfl<|oh l.isList t
mutual
theorem Ag(I:Inv X Dn σ H s)(R:Rp X.K π H μ){v:V}{d d':D}:Í X.K π μ.length H v d->Í X.K π μ.length H v d'->d=d'
 |.non,h'=>by cases h';rfl
 |.bl _,h'=>by cases h';rfl
 |.int _,h'=>by cases h';rfl
 |.str _,h'=>by cases h';rfl
 |.ty _,h'=>by cases h';rfl
 |.tup h t,h'=>by
  cases h' with
  |tup g i=>have:=I.tuple_inj h g;subst this;rw[Ah I R t i]|rol g i=>show(EE I h g).elim|loc g=>show(EC I R g h).elim
 |.rol h t,h'=>by
  cases h' with
  |tup g i=>show(EE I g h).elim|rol g i=>have:=I.list_inj h.sq g.sq;subst this;rw[Ah I R t i]|loc g=>show(ED I R g h).elim
 |.loc (a:=a1) ha,h'=>by
  generalize hz:V.ref (π a1)=z at h';cases h' with
  |tup g i=>cases hz;show(EC I R ha g).elim|rol g i=>cases hz;show(ED I R ha g).elim|loc g=>have:=R.inj _ _ ha g<|V.ref.inj hz;rw[this]|_=>cases hz
theorem Ah(I:Inv X Dn σ H s)(R:Rp X.K π H μ){vs:gz}{ds d:List D}:Ã X.K π μ.length H vs ds->Ã X.K π μ.length H vs d->ds=d
 |.nil,h'=>by cases h';rfl
 |.cons h t,h'=>by
  cases h' with
  |cons g i=>rw[Ag I R h g,Ah I R t i]
end
end
abbrev lI(a:Hm)(x:D):List D->Option Bool
 |[]=>b0 dI|y::r=>(dG 8 a y x).bind λb=>(lI a x r).map λc=>b||c
abbrev oI(a:Bool):D->D->Hm->jk:=λx y c=>(bL c y).bind λd=>(lI c x d).map λb=>(.bl<|if a then !b else b,c)
abbrev Ai(K:ZV)(c:Bool):R2:=λx y H Q=>∃π a d e g b,Rp K π H a/\Í K π a.length H x d/\Í K π a.length H y e/\bL a e=b0 g/\lI a d g=b0 b/\Q (.bl<|if c then !b else b) H
def vU{c:Bool}:cZ K (oI c) (Ai K c):=by intro e H r x y d n o p Q R i j a k;obtain⟨l,g,a⟩:=ZS.mp a;obtain⟨b,h,a⟩:=ZX.mp a;cases a;show⟨e,_,x,y,l,b,R,i,j,g,h,k e _ H .refl R<|.bl _⟩
def vV{σ:St}(I:Inv X Dn σ H s)(R:Rp X.K π H i)(hu:A.units+8<â){o:D}(rx:Æ x v)(ix:Í X.K π i.length H x o):
  ∀{e}{vs}{us}{b},Ã X.K π i.length H vs e->Á vs us->lI i o e=b0 b->
   ∃g,(∀u∈us,J4 A s u v (g u))/\us.any g=b:=by
 classical
 intro e vs us b l n d
 have B:∀{e:List D}{vs:gz}{us:gw}{b:Bool},Ã X.K π i.length H vs e->Á vs us->lI i o e=b0 b->(∀u∈us,∃c,J4 A s u v c/\∃w p,Æ w u/\Í X.K π i.length H w p/\dG 8 i p o=b0 c):=by
  intro e
  induction e with
  |nil=>
   intro vs us b l n d u a
   cases l
   cases n
   cases a
  |cons y e N=>
   intro vs us b l n d u a
   cases l with
   |cons h t=>
    cases n with
    |cons r rt=>
     obtain⟨c,K,d⟩:=ZS.mp d
     obtain⟨U,L,d⟩:=ZX.mp d
     rcases Ě.mp a with rfl|a
     .show⟨c,zU I R 8 hu r rx h ix K,_,_,r,h,K⟩
     .show N t rt L u a
 have E:=B l n d
 show⟨λu=>if h:u∈us then ut (E u h)else dI,λu a=>?_,?_⟩
 .simp only[dif_pos a]
  show(LK<|E u a).1
 .have O:∀u (h:u∈us) w p c,Æ w u->Í X.K π i.length H w p->dG 8 i p o=b0 c->ut (E u h)=c:=by
   intro u h w p c Q iw T
   obtain⟨_,w2,Y,r2,i2,Z⟩:=LK<|E u h
   have:w2=w:=r2.inj Q
   subst this
   have:=Ag I R i2 iw
   subst this
   rw[Z]at T
   show ñ T
  have G:∀{e:List D}{vs:gz}{j:gw}{b:Bool},(∀u∈j,u∈us)->Ã X.K π i.length H vs e->Á vs j->lI i o e=b0 b->j.any (λu=>if h:u∈us then ut (E u h)else dI)=b:=by
   intro e
   induction e with
   |nil=>
    intro vs j b M l n d
    cases l
    cases n
    cases d
    rfl
   |cons y e N=>
    intro vs j b M l n d
    cases l with
    |cons h t=>
     cases n with
     |@cons _ u _ us2 r rt=>
      obtain⟨c,K,d⟩:=ZS.mp d
      obtain⟨U,L,d⟩:=ZX.mp d
      have eX:u∈us:=M u<|Ś ..
      rw[dh,N (λz hz=>M z<|ň _ hz) t rt L,dif_pos eX,O u eX _ _ c r h K]
      show d
  show G (λ_ h=>h) l n d
def vW(r:Ô k A):A.units+9<â:=by have:=r.un;lia
def EF(L:X.A.units+9<â):ÿ X (Ĥ .In) (Ai X.K dI):=by
 intro o s U H x y v u Q I n E h;obtain⟨T,O,G,K,N,b,R,l,B,z,j,q⟩:=h;obtain⟨p,M,rfl,c,hd⟩:=qB R B z;cases E;rcases c with c|c
 .obtain⟨a,r,i,A⟩:=I.list c;obtain⟨g,d,e⟩:=vV I R (A:=X.A.in1) (by rw[iP];lia) n l hd r j;show SeqAt.in_listAt g i.isList (λw hw=>d w<|by simpa using hw) ⟨.bl _,H,I,rfl,?_⟩;rw[show a.toArray.any g=a.any g by simp,e];show q
 .obtain⟨a,r,i,A⟩:=I.tuple c;obtain⟨g,d,e⟩:=vV I R (A:=X.A.in1) (by rw[iP];lia) n l hd r j;show SeqAt.in_tupleAt g i (λw hw=>d w<|by simpa using hw) ⟨.bl _,H,I,rfl,?_⟩;rw[show a.toArray.any g=a.any g by simp,e];show q
def EG(L:X.A.units+9<â):ÿ X (Ĥ .NotIn) (Ai X.K eA):=by
 intro o s U H x y v u Q I n E h;obtain⟨T,O,G,K,N,b,R,l,B,z,j,q⟩:=h;obtain⟨p,M,rfl,c,hd⟩:=qB R B z;cases E;rcases c with c|c
 .obtain⟨a,r,i,A⟩:=I.list c;obtain⟨g,d,e⟩:=vV I R (A:=X.A.in1) (by rw[iP];lia) n l hd r j;show SeqAt.notIn_listAt g i.isList (λw hw=>d w<|by simpa using hw) ⟨.bl _,H,I,rfl,?_⟩;rw[show a.toArray.any g=a.any g by simp,e];show q
 .obtain⟨a,r,i,A⟩:=I.tuple c;obtain⟨g,d,e⟩:=vV I R (A:=X.A.in1) (by rw[iP];lia) n l hd r j;show SeqAt.notIn_tupleAt g i (λw hw=>d w<|by simpa using hw) ⟨.bl _,H,I,rfl,?_⟩;rw[show a.toArray.any g=a.any g by simp,e];show q
abbrev c3(b:Bool):D->D->Hm->jk
 |.str i,.str j,μ=>b0 (.bl<|if b then !(!(ig j i 0 j.length 1).isEmpty)else !(ig j i 0 j.length 1).isEmpty,μ)|x,.loc a,μ=>match μ[a]? with
  |some (.dT kvs)=>(cM x).map λk=>(.bl<|if b then !(aY kvs k).isSome else(aY kvs k).isSome,μ)|some (.dF kvs)=>(cM x).map λk=>(.bl<|if b then !(aY kvs k).isSome else(aY kvs k).isSome,μ)|_=>oI b x (.loc a) μ
 |x,y,μ=>oI b x y μ
abbrev Aj:D->D->Hm->jk
 |.str i,.str j,μ=>b0 (.bl<|!(!(ig j i 0 j.length 1).isEmpty),μ)|_,_,_=>b5
def EH:cZ K Aj (λx y H Q=>∃i j,x=.str i/\y=.str j/\Q (.bl<|!(!(ig j i 0 j.length 1).isEmpty)) H):=by
 intro g H n x y d e h l Q R b c a k;unfold Aj at a;split at a
 .cases a;cases b;cases c;show⟨_,_,rfl,rfl,k g _ H .refl R<|.bl _⟩
 .cases a
abbrev j8(a:Bool):D->D->Hm->jk
 |x,.non,μ=>b0 (.bl<|match x with|.non=>!a|_=>a,μ)|_,_,_=>b5
def EI:cZ K (j8 dI) (λx y H Q=>y=.non/\Q (.bl<|decide<|x=.non) H):=by
 intro g H j x y d e h i Q R b c a k;unfold j8 at a;split at a
 .cases a;cases c;show⟨rfl,?_⟩;cases b<;>show k g _ H .refl R<|.bl _
 .cases a
def EJ:cZ K (j8 eA) (λx y H Q=>y=.non/\Q (.bl<|!decide (x=.non)) H):=by
 intro g H j x y d e h i Q R b c a k;unfold j8 at a;split at a
 .cases a;cases c;show⟨rfl,?_⟩;cases b<;>show k g _ H .refl R<|.bl _
 .cases a
def a9F(c:QE X a ma)(d:QE X b mb):QE X (.Compare a [.Is] [b] pos) (aC (j8 dI) ma mb):=⟨fP C8 EI c.h d.h<|dZ _⟩
def a9E(c:QE X a ma)(d:QE X b mb):QE X (.Compare a [.IsNot] [b] pos) (aC (j8 eA) ma mb):=⟨fP C9 EJ c.h d.h<|dZ _⟩
def a9D(c:QE X a ma)(d:QE X b mb):QT X (.Compare a [.Is] [b] pos) (aR<|aC (j8 dI) ma mb):=⟨fQ C8 EI c.h d.h<|dZ _⟩
def a9C(c:QE X a ma)(d:QE X b mb):QT X (.Compare a [.IsNot] [b] pos) (aR<|aC (j8 eA) ma mb):=⟨fQ C9 EJ c.h d.h<|dZ _⟩
end
abbrev qG(d:Hm):D->Bool
 |.rol _=>eA|.loc a=>match d[a]? with|some (.lst _)=>eA|_=>dI
 |_=>dI
abbrev c4(f:D->List D->Hm->jk)(mo:ME)(ms:MA):ME:=λd g=>(mo d g).bind λp=>match qG p.2 p.1 with
 |true=>(ms d p.2).bind λq=>f p.1 q.1 q.2|false=>b5
abbrev iU(K:ZV)(f:D->List D->Hm->jk)(r:V->gz->Hp->VK->Prop):Prop:=
 ∀i H g x l d h v j Q,Rp K i H g->Í K i g.length H v x->Ã K i g.length H j l->f x l g=b0 (d,h)->KC K Q i g.length H d h->r v j H Q
def a9B(R:Rp K π H d)(h:Í K π d.length H v x)(e:qG d x=eA):zK K "list" v H:=by
 cases h with
 |rol h t=>show .inl ⟨rfl,_,h.sq⟩|@loc a p=>
  simp only[qG]at e;split at e
  .rename_i l i;obtain⟨j,g,_⟩:=R.lst a l i;show .inl ⟨rfl,j,.of g⟩
  .cases e
 |_=>cases e
def a9A(I:iU K f r):∀σ H Q,tM K (c4 f mo ms) σ H Q->DB K "list" r (tM K mo) (Ŭ K ms) σ H Q:=by
 rintro σ H Q ⟨U,z,T,d,j,R,E,g,k⟩;obtain⟨⟨x,h⟩,B,g⟩:=ZS.mp g;dsimp only at g;split at g
 .rename_i L;obtain⟨⟨y,i⟩,G,g⟩:=ZS.mp g;show⟨U,z,T,x,h,R,E,B,λl N Y u s w=>⟨a9B s w L,l,z,h,y,i,s,E.mono u,G,λp O A v R2 M=>?_⟩⟩;show I p A i x y d j N O Q R2 (w.mono v) M g<|k.after<|u.trans v
 .cases g
abbrev j9:Expr->Bool
 |.Call (.Name _ _) [] [] _=>dI|_=>eA
def oJ(h:j9 o=eA):lz o i env d=d:=by
 cases o with
 |Call f g j p=>
  cases f with
  |Name id q=>
   cases g with
   |nil=>
    cases j with
    |nil=>cases h|cons _ _=>rfl
   |cons _ _=>rfl
  |_=>rfl
 |_=>rfl
def EK(h:(e::es).all eY=eA)(i:(e::es).length<30):
  ((ĸ cpos (æ (e::es) env)).all (λx=>!x.1)&&(xm cpos (yg [] env)).all (λx=>x.1.isSome)
   && decide ((e::es).length+([]:List Ζ).length+(if([]:List Ζ).isEmpty then 0 else 1)<30))=true:=by
 have d:(ĸ cpos (æ (e::es) env)).all (λx=>!x.1)=true:=by have:=mL (pos:=cpos) (env:=env) h;rw[List.all_eq_not_any_not];simpa using this
 rw[d];have g:(e::es).length+([]:List Ζ).length+(if([]:List Ζ).isEmpty then 0 else 1)<30:=by change(e::es).length+0+0<30;lia
 rw[decide_eq_true g];rfl
def sN{id:String}(h:Slot "list" name id)(i:K4 (.builtin id)=pure (.type "method_descriptor"))(s:jC X id r)(l:iU X.K f r)(v:QE X o mo)(j:QA X (e::es) ms n)(w:j9 o=eA)(p:(apos.endLine==cpos.line)=eA)(u:(e::es).length<30):QE X (.Call (.Attribute o name apos) (e::es) [] cpos) (c4 f mo ms):=by
 have g:=j.s;have d:=g;rw[Ĺ,Z9]at d;show⟨cU (a7k PySem.F.plainAttrs_list h i s v.h j.h (oJ w) (EK g u) p (fF d.1)<|mL d.2)<|a9A l⟩
abbrev e6:D->List D->Hm->jk
 |.loc a,[y],μ=>(pZ μ a y).map λd=>(.non,d)|_,_,_=>b5
abbrev lJ:D->List D->Hm->jk
 |.loc a,[.loc b],μ=>match μ[a]?,μ[b]? with
  |some<|.lst xs,b0 (.lst ys)=>if xs.length+ys.length<=Z7 then b0 (.non,μ.set a<|.lst<|xs++ys)else b5|_,_=>b5
 |_,_,_=>b5
def TiV(h:Ã K π n H vs ds):Ã K π n H vs.reverse ds.reverse:=by
 induction ds generalizing vs with
 |nil=>cases h;show .nil|cons d ds g=>
  cases h with
  |cons h t=>rw[yw,yw];show(g t).append<|.cons h .nil
def TaI:iU K e6 DD:=by
 intro L H O x N d G v M Q R B i h k;unfold e6 at h;split at h
 .rename_i a y;obtain⟨I,g,h⟩:=ZX.mp h;cases h;unfold pZ at g;split at g
  .rename_i s r;split at g
   .rename_i z;cases g;obtain⟨j,l,p⟩:=R.lst a s r;cases B;cases i with
    |cons E A=>cases A;obtain⟨w,u⟩:=R.put (a:=a) (c:=.lst (s++[y])) (o:=.lst (j++[_])) (ZW.mp r).1 l (.inl ⟨j,rfl⟩)<|p.append<|.cons E .nil;show⟨_,j,_,rfl,rfl,l,by rw[p.length];show z,k L _ _ w u .non⟩
   .cases g
  .cases g
 .cases h
def SoI:iU K lJ DF:=by
 intro N H U x T d M v O Q R I h g k;unfold lJ at g;split at g
 .rename_i a b;split at g
  .rename_i w u r E;split at g
   .rename_i B;cases g;obtain⟨i,j,l⟩:=R.lst a w r;obtain⟨s,A,p⟩:=R.lst b u E;cases I;cases h with
    |cons L G=>cases G;cases L;obtain⟨z,y⟩:=R.put (a:=a) (c:=.lst (w++u)) (o:=.lst (i++s)) (ZW.mp r).1 j (.inl ⟨i,rfl⟩)<|l.append p;show⟨_,_,i,s,rfl,rfl,j,A,by rw[l.length,p.length];show B,k N _ _ z y .non⟩
   .cases g
  .cases g
 .cases g
abbrev oK:D->List D->Hm->jk
 |.loc a,[.int i],μ=>match μ[a]? with
  |some (.lst xs)=>if 0<=i/\i<2^62 then(xs[i.toNat]?).map λy=>(y,μ.set a<|.lst<|xs.eraseIdx i.toNat)else b5|_=>b5
 |_,_,_=>b5
def SfI(h:Ã K π n H vs ds)k:Ã K π n H (vs.eraseIdx k) (ds.eraseIdx k):=by rw[Pr,Pr];show(h.take k).append<|h.drop<|k+1
def SPr(d:0<=i)(h:i.toNat<n):xj i n=b0 i.toNat:=by have e:(if i<0 then i+(n:Int)else i)=i:=if_neg ⋯;unfold xj;dsimp only;rw[e,if_pos<|by rw[Z9,decide_eq_true_iff,decide_eq_true_iff];lia]
def RxI:iU K oK DG:=by
 intro N H U x T d M v O Q R I h g k;unfold oK at g;split at g
 .split at g
  .rename_i u s;split at g
   .rename_i E;obtain⟨y,A,g⟩:=ZX.mp g;cases g;obtain⟨i,l,p⟩:=R.lst _ u s;cases I;cases h with
    |cons G L=>cases G;cases L;obtain⟨w,r,B⟩:=p.get A;obtain⟨j,z⟩:=R.put (c:=.lst (u.eraseIdx _)) (o:=.lst (i.eraseIdx _)) (ZW.mp s).1 l (.inl ⟨i,rfl⟩)<|SfI p _;have hw:=(ZW.mp r).1;show⟨_,i,_,_,w,rfl,rfl,l,by lia,by lia,SPr E.1 hw,r,k N w _ j z<|B.mono j⟩
   .cases g
  .cases g
 .cases g
abbrev kE(d:Hm):D->Option Bool
 |.non=>b0 dI|.bl b=>b0 b|.int i=>b0 (i != 0)|.str z=>if z.length<=Z7 then b0 ((z.length:Int) != 0)else b5|.tup xs=>b0 (!xs.isEmpty)|.rol xs=>b0 (!xs.isEmpty)|.loc a=>match d[a]? with|some (.lst xs)=>b0 (!xs.isEmpty)|some (.dK kvs)=>b0 (!kvs.isEmpty)|_=>b5
 |.ty _=>b5
def vX{g i:Type}{xs:List g}{d:List i}(h:xs.length=d.length):xs.isEmpty=d.isEmpty:=by cases xs<;>cases d<;>first|rfl|cases h
def RwI(R:Rp K π H r)(h:Í K π r.length H v x)(e:kE r x=b0 b):yY K v H b:=by
 cases h with
 |non=>cases e;rfl|bl c=>cases e;rfl|int i=>cases e;rfl|str z=>
  simp only[kE]at e;split at e
  .rename_i s;cases e;show⟨s,rfl⟩
  .cases e
 |tup h t=>cases e;show .inr (.inl ⟨_,h,by rw[vX t.length]⟩)|rol h t=>cases e;show .inl ⟨_,h.sq,by rw[vX t.length]⟩|@loc a w=>
  simp only[kE]at e;split at e
  .rename_i u j;cases e;obtain⟨p,d,g⟩:=R.lst a u j;show .inl ⟨p,.of d,by rw[vX g.length]⟩
  .rename_i l j;cases e;obtain⟨p,d,g,_⟩:=R.dK a l j;show .inr<|.inr ⟨p,d,?_⟩;have:=congrArg Ģ g;rw[ZT,ZT]at this;rw[vX this]
  .cases e
 |ty n=>cases e
abbrev c8(m:ME):MT:=λg d=>(m g d).bind λp=>(kE p.2 p.1).map λb=>(b,p.2)
def RvJ(h:QE X e m)(s:Ab e=eA):QT X e (c8 m):=⟨u7 (a5A h.h<|a8N s)<|by
 rintro I H Q ⟨z,A,v,b,w,R,E,d,k⟩;obtain⟨⟨x,y⟩,p,d⟩:=ZS.mp d;obtain⟨B,r,d⟩:=ZX.mp d;cases d;show⟨z,A,v,x,_,R,E,p,λg G j l i u=>⟨_,RwI i u r,k g j l i⟩⟩⟩
def RuI(F:ī X.prog X.w X.K X.mg X.base gC k f j ps (jD X.K 0 l))(w:Ô k X.A)(g:X.mg x=b0 (.ref f))(v:Ϛ X.K (.ref f)=eA)(s:Ď X.K j ps [])(u:Gl X x)(h:(x==("__debug__":Str))=dI):QE X (.Call (.Name x p) [] [] pos) (aG l aD):=
 ⟨cU (a3H F w u g v s .nil (E:=E0) DK h)<|by
  rintro I H Q ⟨A,G,y,d,i,R,E,g,k⟩;obtain⟨⟨B,z⟩,r,g⟩:=ZS.mp g;cases r;show⟨rfl,A,[],y,d,i,R,.nil,g,k⟩⟩
abbrev oM(c:MT)(b:MS):Nat->MS
 |0,_,_=>b5|n+1,ρ,μ=>(c ρ μ).bind λp=>match p.1 with
  |false=>b0 (.nx,ρ,p.2)|true=>(b ρ p.2).bind λq=>match q.1 with
   |.nx=>oM c b n q.2.1 q.2.2|.ct=>oM c b n q.2.1 q.2.2|.bk=>b0 (.nx,q.2.1,q.2.2)|.rt d=>b0 (.rt d,q.2.1,q.2.2)
abbrev mP(n:Nat)(c:MT)(b:MS):MS:=oM c b n
def RoI{mt:MT}n(hc:QT X c mt)(hb:QB X body mb)(hp:xf (Å X.prog X.w) X.A X.env X.xe):QS X (.While c body [] pos) (mP n mt mb):=⟨iL (b1c hp hc.h hb.h)<|by
 rintro E σ H ⟨π,ρ,Z,U,G,A,R,EN,hm,k⟩;have r:∀{h:Nat->Addr}{n2:Nat}{H2:Hp}(e:à π Z.length H h n2 H2),n9 X.K E h n2 H2 U G A:=λ{h n2 H2} e=>by
  cases U with
  |nx=>show λi u z j y L=>k i u z (e.trans j) y L|bk=>show λi u z j y L=>k i u z (e.trans j) y L|ct=>show λi u z j y L=>k i u z (e.trans j) y L|rt d=>show KC.after k e
 show⟨λm w x=>∃h l s,à π Z.length H h l.length x/\Rp X.K h x l/\En X.K h l.length x w s/\oM mt mb m s l=b0 (U,G,A),⟨n,π,Z,ρ,.refl,R,EN,hm⟩,?_⟩;rintro m σ1 H1 ⟨h,l,s,O,R2,E2,h2⟩;cases m with
 |zero=>cases h2|succ m=>
  obtain⟨⟨b,T⟩,h3,h4⟩:=ZS.mp h2;show⟨h,s,l,b,T,R2,E2,h3,λi z j y=>?_⟩;cases b with
  |false=>show mH ?_;cases h4;show r O i σ1 z j y (E2.mono j)|true=>
   show mI ?_;obtain⟨⟨f4,I,B⟩,h5,Y⟩:=ZS.mp h4;show⟨λw x=>∃g v p,à π Z.length H g p.length x/\Rp X.K g x p/\En X.K g p.length x w v/\oM mt mb m v p=b0 (U,G,A),
    λw x ⟨g,v,p,a1,a2,a3,a4⟩=>⟨m,ϛ _,g,p,v,a1,a2,a3,a4⟩,i,s,T,f4,I,B,y,E2.mono j,h5,?_⟩
   cases f4 with
   |nx=>show λg K H5 Q N M=>⟨g,I,B,(O.trans j).trans Q,N,M,Y⟩|ct=>show λg K H5 Q N M=>⟨g,I,B,(O.trans j).trans Q,N,M,Y⟩|bk=>cases Y;show λg K H5 Q N M=>r (O.trans j) g K H5 Q N M|rt d'=>
    cases Y;show r<|O.trans j⟩
def RaI:QS X (.Return b5 pos) (aN<|mC .non):=⟨iL b1t<|by
 rintro E s H ⟨h,r,p,l,i,g,R,j,d,k⟩;cases d;show k h .non H .refl R .non⟩
abbrev qH:List D->Option (List Bool)
 |[]=>b0 []|.bl b::r=>(qH r).map (b::·)|_=>b5
abbrev vY:MF:=λds a=>match ds with
 |[x]=>(bL a x).bind λb=>(qH b).map λbs=>(.bl<|bs.all id,a)|_=>b5
def EL:∀{xs}{vs}{bs},Ã K π n H vs xs->qH xs=b0 bs->vs=bs.map V.bl
 |[],_,bs,h,e=>by cases h;cases e;rfl
 |x::xs,vs,bs,h,e=>by
  cases h with
  |cons h t=>
   cases x with
   |bl b=>obtain⟨a,c,d⟩:=ZX.mp e;subst d;cases h;rw[EL t c];rfl|_=>cases e
abbrev EM(K:ZV)(g:List Bool->Bool):gz->Hp->VK->Prop:=λxs H Q=>∃p bs,xs=[.ref p]/\(ê K H p (bs.map V.bl)\/Ó K H p (bs.map V.bl))/\Q (.bl<|g bs) H
def MrI{f:MF}(h:f=λds b=>match ds with|[x]=>(bL b x).bind λxs=>(qH xs).map λbs=>(.bl<|g bs,b)|_=>b5):d8 K f (EM K g):=by
 subst h;intro l H b xs d j n Q R i a k;dsimp only at a;split at a
 .obtain⟨r,c,a⟩:=ZS.mp a;obtain⟨bs,e,a⟩:=ZX.mp a;cases a;cases i with
  |cons i t=>cases t;obtain⟨p,o,rfl,q,hd⟩:=qB R i c;have:=EL hd e;subst this;show⟨p,bs,rfl,q,k l _ H .refl R<|.bl _⟩
 .cases a
def EO{bs:List Bool}(a:n=bs.length):(ă n).all (λi=>bs.getD i dI)=bs.all id:=by
 subst a;induction bs with
 |nil=>rfl|cons b bs c=>rw[ć,Mw,Ĺ,M9,Ĺ,<- c];rfl
def ER{bs:List Bool}(r:Á (bs.map V.bl) its):TruthOf prog w A (λi v=>its.toArray[i]?=b0 v) (λi=>bs.getD i dI):=by
 intro i v s Q E h b;have a:its[i]?=b0 v:=by simpa using h
 have d:i<bs.length:=by have:=(ZW.mp a).1;have:=r.length;rw[ZT]at this;lia
 obtain⟨u,c,g⟩:=r.get (i:=i) (x:=.bl bs[i]) (by rw[þ,ZY d];rfl);rw[a]at c;cases c;cases g;have e:bs.getD i dI=bs[i]:=by simp[Ğ,d]
 dsimp only at b;rw[e]at b;show ό b
def LqI(hc:X.calm=eA):Î X (.builtin "all") (EM X.K (·.all id)):=by
 intro z s L H K G Q I r h;obtain⟨p,bs,rfl,j,q⟩:=h;obtain⟨u,rfl,E⟩:=fM r;cases E;have y:X.A.in1.handled=none:=I.ok.hd hc;rcases j with j|j
 .obtain⟨a,l,g,B⟩:=I.list j;show call_all_walk<|L9 g.isList ?_;have d:p≠s.heap.objs.size:=by obtain⟨o,v,_⟩:=g.isList;show ð<|Z8 v
  show⟨s.heap.objs.size,_,_,_,_,_,λi=>bs.getD i dI,rfl,Nm y _ p d a.toArray,⟨⟨_,Ă _ rfl,rfl,rfl⟩,g.isList.push _⟩,ER l,λA x w=>?_⟩;have c:a.toArray.size=bs.length:=by rw[Z5,<- l.length,ZT]
  show⟨.bl _,H,I.kept (t':=x) λb o e=>w b o ?_<|Z1 _ e,rfl,?_⟩
  .intro n;have:b=s.heap.objs.size:=by simpa using n
   show ð (Z8 e) this
  .rw[EO c];show q
 .obtain⟨a,l,g,B⟩:=I.tuple j;show call_all_walk<|uw (show s.heap.IsTuple p a.toArray from g) ?_;have d:p≠s.heap.objs.size:=by obtain⟨o,v,_⟩:=g;show ð<|Z8 v
  show⟨s.heap.objs.size,_,_,_,_,_,λi=>bs.getD i dI,rfl,KW y _ p d a.toArray,⟨⟨_,Ă _ rfl,rfl,rfl⟩,Q7 g _⟩,ER l,λA x w=>?_⟩;have c:a.toArray.size=bs.length:=by rw[Z5,<- l.length,ZT]
  show⟨.bl _,H,I.kept (t':=x) λb o e=>w b o ?_<|Z1 _ e,rfl,?_⟩
  .intro n;have:b=s.heap.objs.size:=by simpa using n
   show ð (Z8 e) this
  .rw[EO c];show q
open PyProof.Rows (IntsAre)
open PySem.W (KasT kas_asc kas_desc kas_tail3 kas_descPart kas_count kas_place kas_bin kas_sort kas_rev kas_ask)
abbrev cI(lt:Nat->Nat->Bool)(n:Nat):List Nat:=(ă n).mergeSort λi j=>!(lt j i)
def LbI lt(_:0<n):(cI lt n).Perm (ă n):=List.mergeSort_perm _ _
section
open PyProof.Rows
def ES{us:gw}(h:us.length<2)(g:s.heap.get? c=b0 (ċ "list" us.toArray z))(q:R (.done<|.ret .none) {s with heap:=xu s.heap c us us.toArray}):
  Ç (Å prog w) A (Builtin.«list.sort» ⟨[.ref c],[]⟩) R E s:=by
 rw[NH];have lt:c<s.heap.objs.size:=Z8 g;show ZU<|listItems_at g rfl<|ZU<|KZ g rfl ?_;obtain⟨y,d⟩:∃y,(s.heap.update c<|a1i λ_=>#[]).get? c=b0 (ċ "list" #[] y):=⟨_,NF g _⟩;show ZU<|KO d rfl<|ZU<|M7<|ZU<|Kb<|Ķ ?_;have e:(((s.heap.update c<|a1i λ_=>#[]).push<|ċ "tuple" us.toArray 0).push<|ċ "list" #[] 0).get? c=b0 (ċ "list" #[] y):=
  Z1 _<|Z1 _ d
 change Ç (Å prog w) A _ R E ⟨((s.heap.update c<|a1i λ_=>#[]).push<|ċ "tuple" us.toArray 0).push<|ċ "list" #[] 0,s.gens,s.drawn,s.toks,s.os⟩;dsimp only;have a:us.toArray.size<2:=by simpa using h
 rw[if_pos a,if_pos a];show ZU<|Z3 ?_;rw[StateT.run_pure];show ZU<|Z3 ?_;dsimp only;have b:NP (λx=>x.2) (jl<|ą general' (us.toArray.zip us.toArray) #[] 7 b5)=us.toArray:=by change NP (λx=>x.2) (us.toArray.zip us.toArray)=us.toArray;show Array.ext (by simp) λi j l=>by simp
 show ZU (KO e rfl<|ZU<|KZ e rfl ?_ (hsz2:=by rw[b,è];lia));rw[b];simp only[bne_self_eq_false,Į,if_false];show Z3 q
end
def ET lt:cI lt 1=[0]:=List.mergeSort_singleton ..
def Ak lt:cI lt 0=[]:=List.mergeSort_nil
def fU lt n:(cI lt n).Perm (ă n):=by
 cases n with
 |zero=>rw[Ak];show .nil|succ n=>show LbI lt<|yp n
def L0I(h:Á (ns.map V.int) us):Ÿ us ns:=zE h
end L3
namespace L3
open PySem L2 PySem.W PyProof.Rows
abbrev vZ:Bool->Keyed->Array Keyed->Nat->Nat->Nat->StateT đ ĕ (Option Nat):=sortPriv% PySem.Builtin.gallop
def EU{f:Nat->a->StateT σ ĕ (ForInStep a)}{st:σ}{Q:a->σ->ZZ->Prop}(d:Nat->a->Prop)(j:a->Prop)n(step:∀i x b,i<n->d i b->á M A E (f x b) (λr g v=>g=st/\v=s/\match r with|.done c=>j c|.yield c=>d (i+1) c) st s)(fin:∀b,d n b->j b)(k:∀b,j b->Q b st s):
  ∀(l:List Nat)i b,i+l.length=n->d i b->á M A E (forIn l b f) Q st s
 |[],i,b,h,hI=>kasC_nil (k b<|fin b<|by simp at h;subst h;show hI)|x::l,i,b,h,hI=>by
  rw[ć]at h;show kasC_cons (Ĭ (step i x b ⋯ hI) (λr v q=>?_) λ_ _ e=>e);obtain⟨r,g⟩:=r;obtain⟨o,p,u⟩:=q;dsimp only at o p;subst o p;cases r with
  |done c=>show k c u|yield c=>show EU d j n step fin k l (i+1) c ⋯ u
def jK{st:σ}{Q:β->σ->ZZ->Prop}{f:σ->StateT σ ĕ β}(h:á M A E (f st) Q st s):á M A E (get >>= f) Q st s:=Đ<|kasC_get h
def lK{st:σ}{Q:β->σ->ZZ->Prop}{g:σ->σ}{f:PUnit->StateT σ ĕ β}(h:á M A E (f ⟨⟩) Q (g st) s):á M A E (modify g >>= f) Q st s:=Đ<|Ln h
def qI{st:σ}{Q:β->σ->ZZ->Prop}{f:Unit->StateT σ ĕ β}(h:á M A E (f ()) Q st s):á M A E ((liftM (rule a):StateT σ ĕ Unit) >>= f) Q st s:=Đ<|kasC_lift<|ϧ h
def sO{st:σ}{Q:β->σ->ZZ->Prop}{c:d}{f:Nat->d->StateT σ ĕ (ForInStep d)}{g:d->StateT σ ĕ β}(h:á M A E (forIn (ak a<|b-a) c f) (λc e i=>á M A E (g c) Q e i) st s):á M A E (forIn [a:b] c f >>= g) Q st s:=Đ<|kasC_range h
def mQ{st:σ}{Q:β->σ->ZZ->Prop}{c:d}{f:Nat->d->StateT σ ĕ (ForInStep d)}{g:d->StateT σ ĕ β}(e:Nat->d->Prop)(h:d->Prop)n(step:∀i x b,i<n->e i b->á M A E (f x b) (λr j p=>j=st/\p=s/\match r with|.done c=>h c|.yield c=>e (i+1) c) st s)(fin:∀b,e n b->h b)(k:∀b,h b->á M A E (g b) Q st s)(o:0+(ak a<|b-a).length=n)(l:e 0 c):á M A E (forIn [a:b] c f >>= g) Q st s:=sO<|EU e h n step fin k _ 0 _ o l
abbrev fV(prog:ĥ)(w:Ĉ)(A:ĺ)(κ:ϊ)(s:ZZ)(X:Keyed->Prop)(an:Keyed->Keyed->Bool):Prop:=
 ∀(x y:Keyed)(C:Bool->ZZ->Prop),X x->X y->C (an x y) s->Ç (Å prog w) A (wz κ x.1 y.1) C (λ_ _=>False) s
def v7{st:đ}(hC:fV prog w A κ s X an)(c:kindOf st=κ)(d:X x)(e:X y)(q:Q (b0<|an x y) st s):á (Å prog w) A E (lt' x y) Q st s:=by rw[lt'_eq];show jK ?_;rw[c];show Đ<|kasC_lift<|Lq<|Ĭ (hC x y (λb a=>b=an x y/\a=s) d e ⟨rfl,rfl⟩) (λb a z=>by obtain⟨rfl,rfl⟩:=z;show Ò q) λ_ _ f=>f.elim
def GaI{st:đ}(h:Q ⟨⟩ x s):á (Å prog w) A E (set x:StateT đ ĕ PUnit) Q st s:=by unfold á;rw[StateT.run_set];show Z3 h
def Al{st:đ}(h:a[i]?=b0 x)(q:Q x st s):á (Å prog w) A E (elem' a i) Q st s:=by rw[elem'_eq,h];show Ò q
abbrev EV:Array Keyed->Array Keyed->StateT đ ĕ (Array Keyed):=sortPriv% PySem.Builtin.mergeLo
abbrev EW:Array Keyed->Array Keyed->StateT đ ĕ (Array Keyed):=sortPriv% PySem.Builtin.mergeHi
def EX:∀l(b:Array Keyed)o k,o+k+l.length<=b.size->((l.zipIdx k).foldl (λa x=>a.setIfInBounds (o+x.2) x.1) b).toList=b.toList.take (o+k)++l++b.toList.drop (o+k+l.length)
 |[],b,o,k,h=>by simp
 |x::l,b,o,k,h=>by
  rw[List.zipIdx_cons,MU,EX l _ o (k+1)<|by rw[Array.size_setIfInBounds];rw[ć]at h;lia];rw[ć]at h;have c:o+k<b.toList.length:=by simp;lia
  rw[Px,ć];dsimp only;rw[show o+(k+1)=o+k+1 by lia,OE,Ν c,List.take_set_of_le<|Z2 _,List.drop_set_of_lt<|by lia];simp[show o+k+1+l.length=o+k+(l.length+1) by lia]
def FoI{st:đ}(hC:fV prog w A κ s X an)(c:b2k st=κ)(a:(jl st)[i]?=b0 x)(b:(jl st)[j]?=b0 y)(d:X x)(e:X y)(q:Q (b0<|an x y) st s):á (Å prog w) A E (ltAt' i j) Q st s:=by rw[ltAt'_eq];show jK ?_;show Đ<|Al a<|Đ<|Al b<|v7 hC c d e q
def F2I(us:gw):(us.toArray.zip us.toArray).toList=us.map λu=>(u,u):=by
 simp only[Array.toList_zip];induction us with
 |nil=>rfl|cons u us a=>simpa using a
structure Near(us:gw)(n K:Nat)(an:Value->Value->Bool):Prop where
 len:us.length=n+1
 le:K<=n
 asc:∀(i:Nat)(x z:Value),i+1<n->us[i+1]?=b0 x->us[i]?=b0 z->an x z=dI
 ris:∀x z,us[0]?=b0 x->us[n-1]?=b0 z->an x z=eA
 at_:∀(i:Nat)(x z:Value),i<n->us[i]?=b0 x->us[n]?=b0 z->an z x=decide (K<=i)
abbrev Am(prog:ĥ)(w:Ĉ)(A:ĺ)(us:gw)(an:Value->Value->Bool)(s:ZZ):Prop:=
 Ç (Å prog w) A (keyKind' us.toArray) (λb a=>a=s/\∀(x y:Value)(C:Bool->ZZ->Prop),x∈us->y∈us->C (an x y) s->Ç (Å prog w) A (wz b x y) C (λ_ _=>False) s) (λ_ _=>False) s
def An{σ:L2.St}(I:L2.Inv X Dn σ H s){t:List Int}(h:Ó X.K H a (t.map V.int))(h':Ó X.K H a (t'.map V.int)):t=t':=
 (List.map_inj_right λx y h=>by cases h;rfl).mp<|I.tuple_inj h h'
open Classical in
abbrev tv(K:ZV)(H:Hp):Value->List Int
 |.ref a=>if h:∃t:List Int,Ó K H a (t.map V.int)then h.choose else[]|_=>[]
end L3
namespace L3
open PySem PySem.Spec
namespace Tb
noncomputable abbrev IsT(prog:ĥ)(w:Ĉ)(h:ç)(k:List Int)(b:Addr):Prop:=IsTupleKey (Ř prog w) h k b
noncomputable abbrev gD(a:Bool):Obj:={cls:=.type "set",dict:=b5,data:=.set #[] 0<|.fresh 0 0 a}
end Tb
end L3
namespace L3
open PySem L2
open PyProof.Rows (IntsAre)
def Ao:∀{ds}{k},qF ds=b0 k->ds=k.map D.int
 |[],k,h=>by cases h;rfl
 |d::ds,k,h=>by
  cases d with
  |int i=>obtain⟨c,a,b⟩:=ZX.mp h;subst b;rw[Ao a];rfl|_=>cases h
def sP(h:cM x=b0 k):x=.tup (k.map D.int):=by
 cases x with
 |tup ds=>rw[Ao h]|_=>cases h
abbrev e8(b:Hm):D->Option (List D)
 |.rol xs=>b0 xs|.loc a=>match b[a]? with
  |some (.lst xs)=>b0 xs|_=>b5
 |_=>b5
def qJ(R:Rp K π H μ)(h:Í K π μ.length H v x)(e:e8 μ x=b0 xs):∃p vs,v=.ref p/\ê K H p vs/\Ã K π μ.length H vs xs:=by
 cases h with
 |rol q t=>cases e;show⟨_,_,rfl,q.sq,t⟩|@loc a g=>
  simp only[e8]at e;split at e
  .rename_i i d;cases e;obtain⟨vs,b,c⟩:=R.lst a xs d;show⟨_,vs,rfl,.of b,c⟩
  .cases e
 |_=>cases e
def Ċ:∀{vs}{k:List Int},Ã K π n H vs (k.map D.int)->vs=k.map V.int
 |_,[],h=>by cases h;rfl
 |_,i::k,h=>by
  cases h with
  |cons h t=>cases h;rw[Ċ t];rfl
def Ap:∀(k:List Int),Ã K π n H (k.map V.int) (k.map D.int)
 |[]=>.nil|i::k=>.cons (.int i)<|Ap k
def EY{X:Cx}:∀{k}{xs},Á (k.map V.int) xs->ItemsAre (Ř X.prog X.w) k xs
 |[],_,h=>by cases h;show .nil
 |i::k,_,h=>by
  cases h with
  |cons h t=>obtain⟨a,rfl⟩:=h;show .cons (intKind_is _ _ _ _)<|EY t
def kF{σ:St}(I:Inv X Dn σ H s)(h:Ó X.K H b (k.map V.int)):Tb.IsT X.prog X.w s.heap k b:=by obtain⟨i,g,⟨a,e,c,n,d⟩,_⟩:=I.tuple h;show⟨a,i.toArray,n,e,c,d,by simpa using EY g⟩
def Υ:Î X (.builtin "len") (λxs H Q=>∃a L,xs=[V.ref a]/\H a=b0 (uZ a L)/\Q (.int L.length) H):=by
 intro Dn s σ H xs B Q I r h;obtain⟨a,L,rfl,e,q⟩:=h;obtain⟨u,rfl,z⟩:=fM r;cases z;obtain⟨⟨o,v,y,d,A,t,R,c,hd,g,ok,w,p,l,i,x,j⟩,_,_⟩:=I.hok a _ e;have b:d.size=L.length:=by have:=w.length_eq;simpa using this
 have n:t.mask<=511:=by rcases l with h|h|h|h<;>lia
 show call_len_set v c hd (Tb.fits_of ok g) (by rw[b];lia) ?_;rw[b];show⟨.int L.length,H,I.tok _,⟨_,rfl⟩,q⟩
end L3
namespace L3
open PySem L2
def EZ:∀{vs}{xs}i,Ã K π n H vs xs->Í K π n H (vs.getD i .non) (xs.getD i .non)
 |_,_,i,.nil=>by simp;show .non
 |_,_,0,.cons h _=>h|_,_,i+1,.cons _ t=>by simpa using EZ i t
def E4(h:Ã K π n H vs xs):∀(l:List Nat),Ã K π n H (l.map λi=>vs.getD i .non) (l.map λi=>xs.getD i .non)
 |[]=>.nil|i::l=>.cons (EZ i h)<|E4 h l
end L3
namespace L3
open PySem L2 PySem.W PyProof.Rows
def F1I{st:đ}(q:Q () (setArr st<|K2 (jl st) i j<|(j-i)/2) s):á (Å prog w) A E (reverseSlice' i j) Q st s:=by rw[reverseSlice'_eq];show Ln q
def qK{f:Nat->g->StateT σ ĕ (ForInStep g)}{Q:g->σ->ZZ->Prop}(j:Nat->g->σ->Prop)(l:g->σ->Prop)a n(step:∀i b st,i<n->j i b st->á M A E (f (a+i) b) (λr d p=>p=s/\match r with|.done c=>l c d|.yield c=>j (i+1) c d) st s)(fin:∀b st,j n b st->l b st)(k:∀b st,l b st->Q b st s):
  ∀m i b st,i+m=n->j i b st->á M A E (forIn (ak (a+i) m) b f) Q st s
 |0,i,b,st,h,hI=>kasC_nil (k b st<|fin b st<|by simp at h;subst h;show hI)|m+1,i,b,st,h,hI=>by
  rw[zm];show kasC_cons (Ĭ (step i b st ⋯ hI) (λr p q=>?_) λ_ _ e=>e);obtain⟨r,d⟩:=r;obtain⟨u,o⟩:=q;subst u;cases r with
  |done c=>show k c _ o|yield c=>show qK j l a n step fin k m (i+1) c d ⋯ o
def qL{st:σ}{Q:β->σ->ZZ->Prop}{c:d}{f:Nat->d->StateT σ ĕ (ForInStep d)}{g:d->StateT σ ĕ β}(e:Nat->d->σ->Prop)(j:d->σ->Prop)(step:∀i c st,i<b-a->e i c st->á M A E (f (a+i) c) (λr h n=>n=s/\match r with|.done c=>j c h|.yield c=>e (i+1) c h) st s)(fin:∀c st,e (b-a) c st->j c st)(k:∀c st,j c st->á M A E (g c) Q st s)(l:e 0 c st):á M A E (forIn [a:b] c f >>= g) Q st s:=
 Đ<|kasC_range<|qK e j a (b-a) step fin k (b-a) 0 c st (Ω _) l
inductive N7 (K n i:Nat):Option (Option Nat)×Nat×Nat->Prop
 |mk {lo hg:Nat}(h1:lo<=K)(h2:K<=hg)(h3:hg<=n)(h4:hg-lo<=n-i):N7 K n i (b5,lo,hg)
inductive N8 (K:Nat):Option (Option Nat)×Nat×Nat->Prop
 |mk {lo:Nat}:N8 K (b5,lo,K)
def E6{lo:Nat}(h:a<=n)(c:a-lo<=n-i)(j:¬ lo >= a):lo+(a-lo)/2<n/\a-(lo+(a-lo)/2+1)<=n-(i+1)/\lo+(a-lo)/2-lo<=n-(i+1):=by
 obtain⟨d,rfl⟩:=PD<|OS j;have e:lo+d+1-lo=d+1:=by rw[uc,pB]
 rw[e]at c ⊢;have b:(d+1)/2<=d:=LB (Nat.div_lt_self (yp d)<|by decide);generalize(d+1)/2=m at b;have g:d<=n-(i+1):=Nat.le_sub_one_of_lt c;show⟨ĭ (Nat.lt_succ_of_le<|P8 b lo) h,?_,?_⟩
 .rw[Nat.add_sub_add_right,Oi];show ė (Nat.sub_le _ _) g
 .rw[pB];show ė b g
def E7{st:đ}(hC:fV prog w A κ s X an)(hk:kindOf st=κ){O:Bool}(hn:h<n)(y:Nat->Keyed)(ha:∀i,i<n->T[b+i]?=b0 (y i))(hX:∀i,i<n->X (y i))(hy:X I)K(hK:K<=n)(hB:∀i,i<n->(if O then an (y i) I else !(an I<|y i))=decide (i<K))(q:Q (b0 K) st s):á (Å prog w) A E (vZ O I T b n h) Q st s:=by
 have M:∀{i:Nat}{R:Option Bool->đ->ZZ->Prop},i<n->R (b0<|decide<|i<K) st s->á (Å prog w) A E (do let x <- elem' T (b+i);if O then lt' x I else return(<- lt' I x).map (!·)) R st s:=by
  intro i R z r;rw[elem'_eq,ha i z];show Đ<|Ò ?_;have:=hB i z;cases O with
  |true=>simp only[if_true]at this ⊢;show v7 hC hk (hX i z) hy (by rw[this];show r)|false=>simp only[Į,if_false]at this ⊢;show Đ<|v7 hC hk hy (hX i z)<|Ò ?_;change R (b0<|!(an I<|y i)) st s;rw[this];show r
 unfold vZ;show Đ<|M hn ?_;by_cases Y:h<K
 .simp only[Y,decide_true,if_true];show mQ (λi c=>c.1=b5/\h+c.2.1<K/\c.2.1<c.2.2/\i+1<=c.2.2) (λc=>c.1=b5/\h+c.2.1<K/\c.2.1<c.2.2/\K<=h+min c.2.2 (n-h)) n (λi x c z a=>?_) (λc a=>⟨a.1,a.2.1,a.2.2.1,by lia⟩) (λc H=>?_) (by simp) ⟨rfl,Y,by decide,Z2 _⟩
  .obtain⟨U,Z,of⟩:=c;obtain⟨v,j,l,L⟩:=a;dsimp only at v j l L ⊢;by_cases d:of >= n-h
   .rw[if_pos d];show Ò ⟨rfl,rfl,rfl,j,l,by dsimp only;lia⟩
   .rw[if_neg d];show Đ (M (i:=h+of) ⋯ ?_);by_cases e:h+of<K
    .simp only[e,decide_true,yr,Į,if_false];show Ò ⟨rfl,rfl,rfl,by dsimp only;lia,by dsimp only;lia,by dsimp only;lia⟩
    .simp only[e,decide_false,Kn,if_true];show Ò ⟨rfl,rfl,rfl,j,l,by dsimp only;lia⟩
  .obtain⟨U,Z,of⟩:=c;obtain⟨v,j,l,L⟩:=H;dsimp only at v j l L ⊢;subst v;dsimp only;show mQ (N7 K n) (N8 K) n (λi x c z a=>?_) (λc a=>?_) (λc H=>?_) (by simp)<|.mk ⋯ ⋯ ⋯<|by lia
   .cases a with
    |@mk u g o p B G=>
    dsimp only;by_cases d:u >= g
    .rw[if_pos d];obtain rfl:g=K:=yj (ė d o) p;show Ò ⟨rfl,rfl,.mk⟩
    .obtain⟨N,m2,m3⟩:=E6 B G d;rw[if_neg d];show Đ<|M N ?_;by_cases e:u+(g-u)/2<K
     .simp only[e,decide_true,if_true];show Ò ⟨rfl,rfl,.mk e p B m2⟩
     .simp only[e,decide_false,Į,if_false];show Ò ⟨rfl,rfl,.mk o (zc e) (ż N) m3⟩
   .cases a with
    |@mk u g o p B G=>
    obtain rfl:g=K:=yj (ė (Ph.mp<|Lo.mp<|du n▸G) o) p;show .mk
   .cases H;show Ò q
 .simp only[Y,decide_false,Į,if_false];show mQ (λi c=>c.1=b5/\K+c.2.1<=h/\c.2.1<c.2.2/\i+1<=c.2.2) (λc=>c.1=b5/\K+c.2.1<=h/\c.2.1<c.2.2/\h+1<=K+min c.2.2 (h+1)) n (λi x c z a=>?_) (λc a=>⟨a.1,a.2.1,a.2.2.1,by lia⟩) (λc H=>?_) (by simp) ⟨rfl,by dsimp only;lia,by decide,Z2 _⟩
  .obtain⟨U,Z,of⟩:=c;obtain⟨v,j,l,L⟩:=a;dsimp only at v j l L ⊢;by_cases d:of >= h+1
   .rw[if_pos d];show Ò ⟨rfl,rfl,rfl,j,l,by dsimp only;lia⟩
   .rw[if_neg d];show Đ (M (i:=h-of) ⋯ ?_);by_cases e:h-of<K
    .simp only[e,decide_true,if_true];show Ò ⟨rfl,rfl,rfl,j,l,by dsimp only;lia⟩
    .simp only[e,decide_false,Į,if_false];show Ò ⟨rfl,rfl,rfl,by dsimp only;lia,by dsimp only;lia,by dsimp only;lia⟩
  .obtain⟨U,Z,of⟩:=c;obtain⟨v,j,l,L⟩:=H;dsimp only at v j l L ⊢;subst v;dsimp only;show mQ (N7 K n) (N8 K) n (λi x c z a=>?_) (λc a=>?_) (λc H=>?_) (by simp)<|.mk ⋯ ⋯ ⋯<|by lia
   .cases a with
    |@mk u g o p B G=>
    dsimp only;by_cases d:u >= g
    .rw[if_pos d];obtain rfl:g=K:=yj (ė d o) p;show Ò ⟨rfl,rfl,.mk⟩
    .obtain⟨N,m2,m3⟩:=E6 B G d;rw[if_neg d];show Đ<|M N ?_;by_cases e:u+(g-u)/2<K
     .simp only[e,decide_true,if_true];show Ò ⟨rfl,rfl,.mk e p B m2⟩
     .simp only[e,decide_false,Į,if_false];show Ò ⟨rfl,rfl,.mk o (zc e) (ż N) m3⟩
   .cases a with
    |@mk u g o p B G=>
    obtain rfl:g=K:=yj (ė (Ph.mp<|Lo.mp<|du n▸G) o) p;show .mk
   .cases H;show Ò q
section
variable{α:Type}{r:α->Int}{A B O:List α}{ia ib:Nat}
abbrev Sr(r:α->Int)(l:List α):Prop:=l.Pairwise λx y=>r x<=r y
structure J(r:α->Int)(A B O:List α)(ia ib:Nat):Prop where
 sa:Sr r<|O++A.drop ia
 sb:Sr r<|O++B.drop ib
 pm:O.Perm<|A.take ia++B.take ib
def J.swap(h:J r A B O ia ib):J r B A O ib ia:=⟨h.sb,h.sa,h.pm.trans um⟩
def J.blockB(h:J r A B O ia ib)(i:∀x∈(B.drop ib).take k,∀y∈A.drop ia,r x<=r y):J r A B (O++(B.drop ib).take k) ia (ib+k):=by
 obtain⟨a,b,g⟩:=h;have e:O++(B.drop ib).take k++B.drop (ib+k)=O++B.drop ib:=by rw[ú,<- ML,ŵ]
 show⟨?_,by rw[e];show b,?_⟩
 .unfold Sr at a b ⊢;rw[ú,Ϯ];rw[Ϯ]at a b;show⟨a.1,?_,λx d y c=>?_⟩
  .rw[Ϯ];show⟨b.2.1.sublist<|uv _ _,a.2.1,i⟩
  .rcases ù.mp c with c|c
   .show b.2.2 x d y<|Mc c
   .show a.2.2 x d y c
 .rw[List.take_add];show((g.append_right _).trans<|by rw[ú])
def J.blockA(h:J r A B O ia ib)(a:∀x∈(A.drop ia).take k,∀y∈B.drop ib,r x<=r y):J r A B (O++(A.drop ia).take k) (ia+k) ib:=(h.swap.blockB a).swap
def sQ{l:List α}(h:l[i]?=b0 x):l.drop i=x::l.drop (i+1):=by obtain⟨a,rfl⟩:=ZW.mp h;show il a
def Sr.head(h:Sr r (x::l)):∀y∈x::l,r x<=r y:=λy a=>by
 rcases Ě.mp a with rfl|a
 .show Kh _
 .show List.rel_of_pairwise_cons h a
def J.lowA(h:J r A B O ia ib)(a:A[ia]?=b0 x):∀y∈A.drop ia,r x<=r y:=by have:=(Ϯ.mp h.sa).2.1;rw[sQ a]at this ⊢;show Sr.head this
def J.lowB(h:J r A B O ia ib)(a:B[ib]?=b0 x):∀y∈B.drop ib,r x<=r y:=h.swap.lowA a
def J.pushB(h:J r A B O ia ib)(d:A[ia]?=b0 x)(a:B[ib]?=b0 y)(e:r y<=r x):J r A B (O++[y]) ia (ib+1):=by
 have:=h.blockB (k:=1)<|by
  rw[sQ a];intro z b u c;rw[MY,ų,ā]at b;subst b;have:=h.lowA d u c;lia
 rwa [sQ a,MY,ų]at this
def J.pushA(h:J r A B O ia ib)(b:A[ia]?=b0 x)(c:B[ib]?=b0 y)(a:r x<=r y):J r A B (O++[x]) (ia+1) ib:=(h.swap.pushB c b a).swap
def Fb{l:List α}(h:x∈(l.drop i).take k):∃j,j<k/\l[i+j]?=b0 x:=by obtain⟨j,a,e⟩:=L6 h;rw[Ġ]at a;show⟨j,by lia,?_⟩;rw[<- e,Me,OC,ZY]
def J.gallA(h:J r A B O ia ib)(d:B[ib]?=b0 y)(b:∀j x,j<k->A[ia+j]?=b0 x->r x<=r y):J r A B (O++(A.drop ia).take k) (ia+k) ib:=h.blockA λx c z hz=>by obtain⟨j,a,e⟩:=Fb c;have g:=b j x a e;have i:=h.lowB d z hz;lia
def J.gallB(h:J r A B O ia ib)(b:A[ia]?=b0 x)(a:∀j y,j<k->B[ib+j]?=b0 y->r y<=r x):J r A B (O++(B.drop ib).take k) ia (ib+k):=(h.swap.gallA b a).swap
abbrev Fi(r:α->Int)(A B R:List α):Prop:=R.Perm (A++B)/\Sr r R
def J.endB(h:J r A B O ia ib)(a:B.length<=ib):Fi r A B (O++A.drop ia++B.drop ib):=by rw[LI a,Ň];show⟨?_,h.sa⟩;have:=h.pm.append_right<|A.drop ia;show this.trans ?_;rw[ϳ a];show um.trans ?_;rw[<- ú];show(List.Perm.append_right B<|um).trans ?_;rw[ŵ]
def J.endA(h:J r A B O ia ib)(a:A.length<=ia):Fi r A B (O++A.drop ia++B.drop ib):=by have:=h.swap.endB a;rw[LI a,Ň]at this ⊢;show⟨this.1.trans um,this.2⟩
def J.last(h:J r A B O ia ib)(d:A.length=ia+1)(b:∀x,A[ia]?=b0 x->∀y∈B,r y<=r x):Fi r A B (O++B.drop ib++A.drop ia):=by have a:A[ia]?=b0 A[ia]:=ZY ⋯;have g:=h.gallB (k:=B.length-ib) a λj y _ c=>b _ a y<|Ĳ c;have e:(B.drop ib).take (B.length-ib)=B.drop ib:=ϳ (by rw[Λ];show Z2 _);rw[e]at g;have:=g.endB ⋯;rwa [LI (l:=B) (i:=ib+(B.length-ib))<|by lia,Ň]at this
end
def Fc(A:List Keyed)i:(A.toArray.extract i A.toArray.size).toList=A.drop i:=by rw[Pa,PN,ϭ,Z5,ϳ<|by rw[Λ];show Z2 _]
def sR(A:List Keyed)i j:(A.toArray.extract i j).toList=(A.drop i).take (j-i):=by rw[Pa,PN,ϭ]
def Aq(A:List Keyed)i k:(A.toArray.extract i<|i+k).toList=(A.drop i).take k:=by rw[sR,pB]
def gF{st:đ}{A:List Keyed}{Q:a->đ->ZZ->Prop}{f:Keyed->StateT đ ĕ a}(h:A[i]?=b0 x)(q:á (Å prog w) A₀ E (f x) Q st s):á (Å prog w) A₀ E (elem' A.toArray i >>= f) Q st s:=Đ<|Al (by rw[ϰ];show h) q
abbrev oN(p:Keyed->Bool)(l:List Keyed):Nat:=(l.takeWhile p).length
def Fd p l:oN p l<=l.length:=b2t<|List.takeWhile_sublist _
def Ar:∀{l},l.Pairwise (λx y=>p y=eA->p x=eA)->∀i x,l[i]?=b0 x->p x=decide (i<oN p l)
 |[],_,i,x,h=>by cases h
 |a::l,hp,i,x,h=>by
  unfold oN;rw[L1]at hp;cases b:p a with
  |true=>
   rw[Oh,b,if_pos rfl,ć];cases i with
   |zero=>cases h;rw[b];simp|succ i=>have:=Ar hp.2 i x h;unfold oN at this;rw[this];simp
  |false=>
   rw[Oh,b,if_neg Z6,ao];cases i with
   |zero=>cases h;rw[b];simp|succ i=>
    cases c:p x with
    |false=>simp|true=>have:=hp.1 x (Ĳ h) c;rw[b]at this;cases this
noncomputable abbrev lr(r:Keyed->Int)(x y:Keyed):Bool:=decide<|r x<r y
def Sr.le{r:Keyed->Int}(h:Sr r l)b:l.Pairwise (λx y=>decide (r y<=b)=eA->decide (r x<=b)=eA):=h.imp λ{x y} h1 a=>by rw[decide_eq_true_eq]at a ⊢;lia
def Sr.lt{r:Keyed->Int}{l:List Keyed}(h:Sr r l)(b:Int):l.Pairwise (λx y=>decide (r y<b)=eA->decide (r x<b)=eA):=h.imp λ{x y} h1 a=>by rw[decide_eq_true_eq]at a ⊢;lia
def Sr.part{r:Keyed->Int}(h:Sr r l)i k:Sr r ((l.drop i).take k):=(fj (uv _ _)<|fj (LH _ _) h)
def Au{st:đ}{A:List Keyed}(hC:fV prog w A₀ κ s X (lr r))(v:kindOf st=κ)(y:h<n)(G:b+n<=A.length)(u:∀x∈A,X x)(z:X a)(p:Sr r ((A.drop b).take n)){Q:o->đ->ZZ->Prop}{f:Option Nat->StateT đ ĕ o}(q:∀K,K<=n->(∀j x,j<n->A[b+j]?=b0 x->(r x<=r a↔j<K))->á (Å prog w) A₀ E (f<|b0 K) Q st s):á (Å prog w) A₀ E (vZ dI a A.toArray b n h >>= f) Q st s:=by
 have e:∀i,i<n->A[b+i]?=b0 (A.getD (b+i) (.none,.none)):=λi c=>by rw[Ń,ZY<|by lia];rfl
 have hc:=Ar<|p.le<|r a;have l:=Fd (λx=>decide<|r x<=r a)<|(A.drop b).take n;rw[Ġ,Λ]at l;have d:∀j x,j<n->A[b+j]?=b0 x->((A.drop b).take n)[j]?=b0 x:=λj x g h=>by rw[uz g,Mi];show h
 show Đ<|E7 hC v y (λi=>A.getD (b+i) (.none,.none)) (λi c=>by rw[ϰ];show e i c) (λi c=>u _<|Ĳ<|e i c) z _ ⋯ (λi c=>?_)<|q (oN (λx=>decide<|r x<=r a)<|(A.drop b).take n) ⋯ λj x g h=>?_
 .have:=hc i _<|d i _ c<|e i c;rw[if_neg Z6,<- this];unfold lr;by_cases h:r a<r (A.getD (b+i) (.none,.none))
  .rw[decide_eq_true h,decide_eq_false<|by lia];rfl
  .rw[decide_eq_false h,decide_eq_true<|by lia];rfl
 .have:=hc j x<|d j x g h;rw[<- decide_eq_true_eq (p:=r x<=r a),this,decide_eq_true_eq]
def Av{st:đ}{A:List Keyed}(hC:fV prog w A₀ κ s X (lr r))(v:kindOf st=κ)(y:h<n)(G:b+n<=A.length)(u:∀x∈A,X x)(z:X c)(p:Sr r ((A.drop b).take n)){Q:o->đ->ZZ->Prop}{f:Option Nat->StateT đ ĕ o}(q:∀K,K<=n->(∀j x,j<n->A[b+j]?=b0 x->(r x<r c↔j<K))->á (Å prog w) A₀ E (f<|b0 K) Q st s):á (Å prog w) A₀ E (vZ eA c A.toArray b n h >>= f) Q st s:=by
 have e:∀i,i<n->A[b+i]?=b0 (A.getD (b+i) (.none,.none)):=λi a=>by rw[Ń,ZY<|by lia];rfl
 have hc:=Ar<|p.lt<|r c;have l:=Fd (λx=>decide<|r x<r c)<|(A.drop b).take n;rw[Ġ,Λ]at l;have d:∀j x,j<n->A[b+j]?=b0 x->((A.drop b).take n)[j]?=b0 x:=λj x g h=>by rw[uz g,Mi];show h
 show Đ<|E7 hC v y (λi=>A.getD (b+i) (.none,.none)) (λi a=>by rw[ϰ];show e i a) (λi a=>u _<|Ĳ<|e i a) z _ ⋯ (λi a=>?_)<|q (oN (λx=>decide<|r x<r c)<|(A.drop b).take n) ⋯ λj x g h=>?_
 .have:=hc i _<|d i _ a<|e i a;rw[if_pos rfl,<- this]
 .have:=hc j x<|d j x g h;rw[<- decide_eq_true_eq (p:=r x<r c),this,decide_eq_true_eq]
def qM{st:đ}{A:List Keyed}{X:Keyed->Prop}{Q:β->đ->ZZ->Prop}{f:Keyed->StateT đ ĕ β}(b:∀x∈A,X x)(a:i<A.length)(q:∀x,A[i]?=b0 x->X x->á (Å prog w) A₀ E (f x) Q st s):á (Å prog w) A₀ E (elem' A.toArray i >>= f) Q st s:=gF (ZY a)<|q _ (ZY a)<|b _<|Ŧ a
def Fe{st:đ}{Q:β->đ->ZZ->Prop}(hC:fV prog w A₀ κ s X an)(a:kindOf st=κ)(b:X x)(c:X y){f:Option Bool->StateT đ ĕ β}(q:á (Å prog w) A₀ E (f<|b0<|an x y) Q st s):á (Å prog w) A₀ E (lt' x y >>= f) Q st s:=Đ<|v7 hC a b c q
section
variable{prog:ĥ}{w:Ĉ}{A₀:ĺ}{E:Value->ZZ->Prop}{κ:ϊ}{s:ZZ}{A B:List Keyed}{X:Keyed->Prop}{r:Keyed->Int}
def bS{Q:i->σ->ZZ->Prop}{st:σ}[Decidable c]{a b:StateT σ ĕ i}(j:¬ c->á M d e b Q st g)(h1:c->á M d e a Q st g):á M d e (if c then a else b) Q st g:=by
 by_cases h:c
 .rw[if_pos h];show h1 h
 .rw[if_neg h];show j h
def Ff{Q:g->σ->ZZ->Prop}{st:σ}{a:StateT σ ĕ g}(h:∀e,(∀x y z,Q x y z->e x y z)->á M b c a e st d):á M b c a Q st d:=h Q λ_ _ _ x=>x
def lO out i j:(out++A.toArray.extract i A.toArray.size++B.toArray.extract j B.toArray.size).toList=out.toList++A.drop i++B.drop j:=by rw[ph,ph,Fc,Fc]
inductive ſ (r:Keyed->Int)(A B:List Keyed)(κ:ϊ)(ar:Array Keyed)(pd:Array (Nat×Nat×Nat)){M:Type}(n:Nat):Option (Array Keyed)×Array Keyed×Nat×Nat×M->đ->Prop
 |mk {mg:Nat}{out:Array Keyed}{ia ib:Nat}{m:M}(g1:J r A B out.toList ia ib)(g2:ia+1<A.length)(g3:ib<B.length)(g4:n<=ia+ib):ſ r A B κ ar pd n (b5,out,ia,ib,m)<|ą κ ar pd mg b5
inductive ϣ (P:List Keyed->Prop)(κ:ϊ)(ar:Array Keyed)(pd:Array (Nat×Nat×Nat)){T:Type}:Option (Array Keyed)×T->đ->Prop
 |mk {mg:Nat}{R:Array Keyed}{x:T}(h:P R.toList):ϣ P κ ar pd (b0 R,x)<|ą κ ar pd mg b5
def CpI(hC:fV prog w A₀ κ s X (lr r))(hXA:∀x∈A,X x)(T:∀x∈B,X x)(hA:Sr r A)(hB:Sr r B)(hA0:0<A.length)(hB0:0<B.length)(hf:∀y,B[0]?=b0 y->∀x∈A,r y<=r x)(hl:∀x,A[A.length-1]?=b0 x->∀y∈B,r y<=r x)(q:∀R Y,Fi r A B R.toList->Q R (ą κ v H Y b5) s):
  á (Å prog w) A₀ E (EV A.toArray B.toArray) Q (ą κ v H mg b5) s:=by
 have getA:∀i,i<A.length->∃x,A[i]?=b0 x/\X x:=λi hi=>⟨A[i],ZY hi,hXA _<|Ŧ hi⟩;have Z:∀i,i<B.length->∃x,B[i]?=b0 x/\X x:=λi hi=>⟨B[i],ZY hi,T _<|Ŧ hi⟩;have last:∀{O:List Keyed}{ia ib:Nat},J r A B O ia ib->ia+1=A.length->Fi r A B (O++B.drop ib++A.drop ia):=λ{O ia ib} h e=>h.last e.symm λx d=>hl x (by rw[show A.length-1=ia by lia];show d);unfold EV;show qI<|qM T hB0 λy0 U _=>?_;have j0:J r A B [y0] 0 1:=by
  show⟨?_,?_,?_⟩
  .change Sr r (y0::A.drop 0);unfold Sr;rw[Ϭ,L1];show⟨λx d=>hf y0 U x d,hA⟩
  .change Sr r (y0::B.drop 1);rw[<- sQ U,Ϭ];show hB
  .rw[ų,mj];cases B with
   |nil=>cases U|cons b B=>cases U;show LA _
 show bS (λK=>bS (λh2=>?_) λh2=>?_) λK=>?_;rotate_left
 .have h2:A.length=1:=by have h2:(0+1==A.toArray.size)=true:=h2;rw[Z5,beq_iff_eq]at h2;show h2.symm
  show Ò<|q _ _ ?_;rw[lO];show last j0<|by lia
 .have K:B.length=1:=by have K:(1==B.toArray.size)=true:=K;rw[Z5,beq_iff_eq]at K;show K.symm
  show Ò<|q _ _ ?_;rw[lO];show j0.endB<|by lia
 have K:¬ B.length=1:=λe=>K (by rw[Z5,e];rfl);have h2:¬ A.length=1:=λe=>h2 (by rw[Z5,e];rfl);show jK ?_;have htot:A.toArray.size+B.toArray.size=A.length+B.length:=by rw[Z5,Z5]
 show qL (λi c st=>ſ r A B κ v H (i+1) c st) (ϣ (Fi r A B) κ v H) (λi c st hi M=>?_) (λc st M=>?_) (λc st L=>?_)<|.mk j0 ⋯ ⋯<|by lia
 .show ſ.casesOn M @λmg I ia ib m l n o G=>?_;clear M c st
    -- one by one
  show qL (λj c st=>ſ r A B κ v H (i+1+j) c st) (λc st=>ϣ (Fi r A B) κ v H c st\/ſ r A B κ v H (i+2) c st) (λj c st hj N=>?_) (λc st N=>?_) (λc st L=>?_)<|.mk l n o G
  .clear l n o G;show ſ.casesOn N @λmg I ia ib m l n o G=>?_;clear N c st;show qM T o λy hy Xy=>qM hXA (ύ n) λx d Xx=>Fe hC rfl Xy Xx ?_;show bS (λhc=>?_) λhc=>?_;rotate_left
   .have hc:r y<r x:=of_decide_eq_true hc;show gF hy ?_;have u:=l.pushB d hy<|mU hc;rw[<- Ϫ]at u;show bS (λa=>?_) λa=>?_;rotate_left
    .have a:ib+1=B.length:=by simpa using a
     show Ò ⟨rfl,.inl<|.mk ?_⟩;rw[lO];show u.endB<|by lia
    .have a:¬ ib+1=B.length:=λe=>a (by rw[Z5,beq_iff_eq];show e);show bS (λ_=>Ò ⟨rfl,.mk (ia:=ia) (ib:=ib+1) u n ⋯<|by lia⟩) λ_=>Ò ⟨rfl,.inr<|.mk (ia:=ia) (ib:=ib+1) u n ⋯<|by lia⟩
   .have hc:¬ r y<r x:=λe=>hc<|decide_eq_true e;show gF d ?_;have u:=l.pushA d hy ⋯;rw[<- Ϫ]at u;show bS (λa=>?_) λa=>?_;rotate_left
    .have a:ia+1+1=A.length:=by simpa using a
     show Ò ⟨rfl,.inl<|.mk ?_⟩;rw[lO];show last u a
    .have a:¬ ia+1+1=A.length:=λe=>a (by rw[Z5,beq_iff_eq];show e);show bS (λ_=>Ò ⟨rfl,.mk (ia:=ia+1) (ib:=ib) u ⋯ o<|by lia⟩) λ_=>Ò ⟨rfl,.inr<|.mk (ia:=ia+1) (ib:=ib) u ⋯ o<|by lia⟩
  .show ſ.casesOn N @λ_ _ _ _ _ l n o G=>.inr<|.mk l n o<|by lia
  .clear l n o G;show L.elim (λL=>ϣ.casesOn L @λ_ _ _ hR=>Ò ⟨rfl,.mk hR⟩) λM=>ſ.casesOn M @λmg I ia ib m l n o G=>qI ?_;clear M L c st
      -- by leaps
   show qL (λj c st=>ſ r A B κ v H (i+2) c st) (λc st=>ϣ (Fi r A B) κ v H c st\/ſ r A B κ v H (i+2) c st) (λj c st hj N=>?_) (λc st N=>.inr N) (λc st L=>?_)<|.mk l n o G
   .clear l n o G;show ſ.casesOn N @λmg I ia ib m l n o G=>Ff λQ' hQ=>?_;clear N c st;obtain⟨y,hy,Xy⟩:=Z ib o;extract_lets z1 o1 z2 a1 z3 b1 z4 m1 z5 ac1 bc1 jb1 jp mm;have hj:∀m' Y,á (Å prog w) A₀ E (jp () m') Q' (ą κ v H Y b5) s:=by
     intro m' Y;clear_value m1 ac1;dsimp -zeta -zetaHave only[jp];show lK (gF hy<|Au hC rfl (b:=ia) (n:=A.toArray.size-ia) (h:=0) (by rw[Z5];lia) (by rw[Z5];lia) hXA Xy (hA.part _ _) λk hk1 hk2=>?_);rw[Z5]at hk1;have u:=l.gallA (k:=k) hy λj x hj d=>(hk2 j x (by rw[Z5];lia) d).mpr hj;have nx:∀x,A[ia+k]?=b0 x->r y<r x:=λx d=>by have K:=(ZW.mp d).1;have:=hk2 k x (by rw[Z5];lia) d;lia
     have e1:(I++A.toArray.extract ia (ia+k)).toList=I.toList++(A.drop ia).take k:=by rw[ph,Aq]
     rw[<- e1]at u;dsimp -zeta -zetaHave only;extract_lets ac2 jp2 o2 a2;have hj2:∀p g,ia<=g->J r A B p.toList g ib->g+1<A.length->(∀x,A[g]?=b0 x->r y<r x)->á (Å prog w) A₀ E (jp2 () p g) Q' (ą κ v H m' b5) s:=by
      intro p g t0 t1 t2 t3;obtain⟨x,d,Xx⟩:=getA g ⋯;have t5:=t1.pushB d hy<|mU<|t3 x d;rw[<- Ϫ]at t5;clear_value ac2;dsimp -zeta -zetaHave only[jp2];show gF hy ?_;extract_lets o3 a3;have hjb:jb1=ib+1:=rfl;show bS (λa=>?_) λa=>?_;rotate_left
      .rw[Z5,beq_iff_eq]at a;show Ò<|hQ _ _ _ ⟨rfl,.inl<|.mk ?_⟩;rw[lO];show t5.endB<|by lia
      rw[Z5,beq_iff_eq]at a;show gF d (Av hC rfl (b:=ib+1) (n:=B.toArray.size-(ib+1)) (h:=0) (by rw[Z5];lia) (by rw[Z5];lia) T Xx (hB.part _ _) λk' hm1 hm2=>?_);rw[Z5]at hm1;have u5:=t5.gallB (k:=k') d λj z hj hz=>mU ((hm2 j z (by rw[Z5];lia) hz).mpr hj);have nz:∀z,B[ib+1+k']?=b0 z->r x<=r z:=λz hz=>by have K:=(ZW.mp hz).1;have:=hm2 k' z (by rw[Z5];lia) hz;lia
      have e2:(p.push y++B.toArray.extract (ib+1) (ib+1+k')).toList=(p.push y).toList++(B.drop<|ib+1).take k':=by rw[ph,Aq]
      rw[<- e2]at u5;dsimp -zeta -zetaHave only;extract_lets bc2 jp3 o4 b4;have hj3:∀ou jb,J r A B ou.toList g jb->jb<B.length->(∀z,B[jb]?=b0 z->r x<=r z)->ib<jb->á (Å prog w) A₀ E (jp3 () ou jb) Q' (ą κ v H m' b5) s:=by
       intro ou jb v1 v2 v3 v4;obtain⟨z,hz,Xz⟩:=Z jb v2;have v5:=v1.pushA d hz<|v3 z hz;rw[<- Ϫ]at v5;clear_value bc2;dsimp -zeta -zetaHave only[jp3];show gF d ?_;extract_lets o5;have ha3:a3=g+1:=rfl;show bS (λhf=>?_) λhf=>?_
       .rw[Z5,beq_iff_eq]at hf;show bS (λ_=>Ò<|hQ _ _ _ ⟨rfl,.mk v5 ⋯ v2<|by lia⟩) λ_=>Ò<|hQ _ _ _ ⟨rfl,.inr<|.mk v5 ⋯ v2<|by lia⟩
       .rw[Z5,beq_iff_eq]at hf;show Ò<|hQ _ _ _ ⟨rfl,.inl<|.mk ?_⟩;rw[lO];show last v5 hf
      clear_value jp3;show bS (λhk0=>hj3 _ _ t5 ⋯ (by rw[show k'=0 by lia]at nz;show nz)<|by lia) λhk0=>bS (λhb=>?_) λhb=>?_
      .rw[Z5,beq_iff_eq]at hb;have hb4:b4=ib+1+k':=rfl;show hj3 _ _ u5 ⋯ nz<|by lia
      .rw[Z5,beq_iff_eq]at hb;have hb4:b4=ib+1+k':=rfl;show Ò<|hQ _ _ _ ⟨rfl,.inl<|.mk ?_⟩;rw[lO];show u5.endB<|by lia
     clear_value jp2;show bS (λhk0=>hj2 _ _ (Z2 _) l n<|by rw[show k=0 by lia]at nx;show nx) λhk0=>bS (λa=>bS (λhe2=>?_) λhe2=>?_) λa=>?_
     .rw[Z5,beq_iff_eq]at a he2;have ha2:a2=ia+k:=rfl;show hj2 _ _ ⋯ u ⋯ nx
     .rw[Z5,beq_iff_eq]at he2;have ha2:a2=ia+k:=rfl;show Ò<|hQ _ _ _ ⟨rfl,.inl<|.mk ?_⟩;rw[lO];show u.endA<|by lia
     .rw[Z5,beq_iff_eq]at a;show Ò<|hQ _ _ _ ⟨rfl,.inl<|.mk ?_⟩;rw[lO];show last u a
    clear_value jp;show bS (λ_=>hj _ _) λ_=>hj _ _
   .clear l n o G;show L.elim (λL=>ϣ.casesOn L @λ_ _ _ hR=>Ò ⟨rfl,.mk hR⟩) λM=>ſ.casesOn M @λ_ _ _ _ _ l n o G=>lK<|Ò ⟨rfl,.mk l n o G⟩
 .cases M with
  |mk l n o G=>lia
 .cases L with
  |mk hR=>show Ò<|q _ _ hR
end
section
variable{r:Keyed->Int}{A B O:List Keyed}{na nb:Nat}
abbrev JH(r:Keyed->Int)(A B O:List Keyed)(na nb:Nat):Prop:=na<=A.length/\nb<=B.length/\J (λx=>-r x) B.reverse A.reverse O (B.length-nb) (A.length-na)
def qN{l:List Keyed}(h:l[n-1]?=b0 x)(h1:1<=n)(a:n<=l.length):l.reverse[l.length-n]?=b0 x:=by rw[ϯ<|by lia,<- h];congr 1;lia
def JH.pushA(h:JH r A B O na nb)(e:A[na-1]?=b0 x)(g:B[nb-1]?=b0 y)(h1:1<=na)(d:1<=nb)(i:r y<=r x):JH r A B (O++[x]) (na-1) nb:=by obtain⟨b,a,c⟩:=h;show⟨by lia,a,?_⟩;have:=c.pushB (qN g d a) (qN e h1 b) ⋯;rw[show A.length-(na-1)=A.length-na+1 by lia];show this
def JH.pushB(h:JH r A B O na nb)(e:A[na-1]?=b0 x)(g:B[nb-1]?=b0 y)(h1:1<=na)(d:1<=nb)(i:r x<=r y):JH r A B (O++[y]) na (nb-1):=by obtain⟨a,b,c⟩:=h;show⟨a,by lia,?_⟩;have:=c.pushA (qN g d b) (qN e h1 a) ⋯;rw[show B.length-(nb-1)=B.length-nb+1 by lia];show this
def oO{l:List Keyed}:l.reverse.drop (l.length-n)=(l.take n).reverse:=by rw[List.reverse_take]
def Fg{l:List Keyed}(h1:t<=n)(a:n<=l.length):(l.reverse.drop<|l.length-n).take (n-t)=((l.drop t).take<|n-t).reverse:=by rw[oO,List.take_reverse,Ġ,dq a,Nat.sub_sub_self h1,List.drop_take]
def JH.gallA(h:JH r A B O na nb)(l:B[nb-1]?=b0 y)(e:1<=nb)(i:t<=na)(g:∀j x,t<=j->j<na->A[j]?=b0 x->r y<=r x):JH r A B (O++((A.drop t).take<|na-t).reverse) t nb:=by
 obtain⟨c,b,d⟩:=h;show⟨by lia,b,?_⟩;have:=d.gallB (k:=na-t) (qN l e b) λj z o n=>by
  have a:A[A.length-1-(A.length-na+j)]?=b0 z:=by rw[<- n,ϯ<|by lia]
  have:=g _ z ⋯ ⋯ a;lia
 rw[Fg i c]at this;rw[show A.length-t=A.length-na+(na-t) by lia];show this
def JH.gallB(h:JH r A B O na nb)(i:A[na-1]?=b0 x)(h1:1<=na)(g:t<=nb)(e:∀j y,t<=j->j<nb->B[j]?=b0 y->r x<=r y):JH r A B (O++((B.drop t).take<|nb-t).reverse) na t:=by
 obtain⟨b,c,d⟩:=h;show⟨b,by lia,?_⟩;have:=d.gallA (k:=nb-t) (qN i h1 b) λj z n l=>by
  have a:B[B.length-1-(B.length-nb+j)]?=b0 z:=by rw[<- l,ϯ<|by lia]
  have:=e _ z ⋯ ⋯ a;lia
 rw[Fg g c]at this;rw[show B.length-t=B.length-nb+(nb-t) by lia];show this
def Fi.rev(h:Fi (λx=>-r x) B.reverse A.reverse R):Fi r A B R.reverse:=by show⟨(Kz R).trans<|h.1.trans<|(List.Perm.append (Kz B)<|Kz A).trans um,?_⟩;unfold Sr;rw[Mt];show h.2.imp λ{x y} h=>by dsimp only at h;lia
def JH.endA(h:JH r A B O na nb)(d:na=0):Fi r A B (A.take na++B.take nb++O.reverse):=by obtain⟨b,c,a⟩:=h;have:=(a.endB<|by rw[Ι];lia).rev;rw[oO,oO]at this;simpa using this
def JH.endB(h:JH r A B O na nb)(d:nb=0):Fi r A B (A.take na++B.take nb++O.reverse):=by obtain⟨b,c,a⟩:=h;have:=(a.endA<|by rw[Ι];lia).rev;rw[oO,oO]at this;simpa using this
def JH.last(h:JH r A B O na nb)(j:nb=1)(c:∀y,B[0]?=b0 y->∀x∈A,r y<=r x):Fi r A B (B.take nb++A.take na++O.reverse):=by
 obtain⟨g,i,b⟩:=h;have:=(b.last (by rw[Ι];lia) λy e x d=>by
  have a:B[0]?=b0 y:=by rw[<- e,ϯ<|by lia];congr 1;lia
  have:=c y a x<|O4.mp d;lia).rev
 rw[oO,oO]at this;simpa using this
variable{prog:ĥ}{w:Ĉ}{A₀:ĺ}{E:Value->ZZ->Prop}{κ:ϊ}{s:ZZ}{X:Keyed->Prop}
def lP(out:Array Keyed)i j:(A.toArray.extract 0 i++B.toArray.extract 0 j++out.reverse).toList=A.take i++B.take j++out.toList.reverse:=by rw[ph,ph,sR,sR,Pb,Ϭ,Ϭ,yo,yo]
def Fh out(A:List Keyed)t n:(out++(A.toArray.extract t n).reverse).toList=out.toList++((A.drop t).take<|n-t).reverse:=by rw[ph,Pb,sR]
inductive ϐ (r:Keyed->Int)(A B:List Keyed)(κ:ϊ)(ar:Array Keyed)(pd:Array (Nat×Nat×Nat)){M:Type}(n:Nat):Option (Array Keyed)×Nat×Nat×Array Keyed×M->đ->Prop
 |mk {mg:Nat}{out:Array Keyed}{na nb:Nat}{m:M}(g1:JH r A B out.toList na nb)(g2:1<=na)(g3:2<=nb)(g4:n+na+nb<=A.length+B.length):ϐ r A B κ ar pd n (b5,na,nb,out,m)<|ą κ ar pd mg b5
def CoI(hC:fV prog w A₀ κ s X (lr r))(M:∀x∈A,X x)(hXB:∀x∈B,X x)(hA:Sr r A)(hB:Sr r B)(hA0:0<A.length)(hB0:0<B.length)(hf:∀y,B[0]?=b0 y->∀x∈A,r y<=r x)(hl:∀x,A[A.length-1]?=b0 x->∀y∈B,r y<=r x)(q:∀R U,Fi r A B R.toList->Q R (ą κ n v U b5) s):
  á (Å prog w) A₀ E (EW A.toArray B.toArray) Q (ą κ n v mg b5) s:=by
 have getA:∀i,i<A.length->∃x,A[i]?=b0 x/\X x:=λi hi=>⟨A[i],ZY hi,M _<|Ŧ hi⟩;have getB:∀i,i<B.length->∃x,B[i]?=b0 x/\X x:=λi hi=>⟨B[i],ZY hi,hXB _<|Ŧ hi⟩;unfold EW;show qI<|qM M (Nat.sub_lt hA0 Nat.one_pos) λx0 hx0 _=>?_;rw[Z5]at hx0;have j0:JH r A B [x0] (A.length-1) B.length:=by
  show⟨by lia,Z2 _,?_⟩;have e:A.reverse=x0::A.reverse.drop 1:=by have:=sQ (l:=A.reverse) (i:=0) (x:=x0) (by rw[ϯ<|by lia];show hx0);rwa [Ϭ]at this
  rw[du,show A.length-(A.length-1)=1 by lia];show⟨?_,?_,?_⟩
  .unfold Sr;rw[Ϭ];change(x0::B.reverse).Pairwise _;rw[L1];show⟨λy H=>?_,?_⟩
   .have:=hl x0 hx0 y<|O4.mp H;dsimp only;lia
   .rw[Mt];show hB.imp λ{x y} h=>by dsimp only;lia
  .change Sr _ (x0::A.reverse.drop 1);rw[<- e];unfold Sr;rw[Mt];show hA.imp λ{x y} h=>by dsimp only;lia
  .rw[ų,mj,e];show LA _
 try dsimp -zeta -zetaHave only
 rw[Z5,Z5];show bS (λh1=>bS (λh2=>?_) λh2=>?_) λh1=>?_;rotate_left
 .rw[beq_iff_eq]at h2;show Ò<|q _ _ ?_;rw[lP];show j0.last h2 hf
 .rw[beq_iff_eq]at h1;show Ò<|q _ _ ?_;rw[lP];show j0.endA h1
 rw[beq_iff_eq]at h1 h2;show jK ?_;show qL (λi c st=>ϐ r A B κ n v (i+1) c st) (ϣ (Fi r A B) κ n v) (λi c st hi K=>?_) (λc st K=>?_) (λc st G=>?_)<|.mk j0 ⋯ ⋯<|by lia
 .show ϐ.casesOn K @λmg out na nb m a d l o=>?_;clear K c st;show qL (λj c st=>ϐ r A B κ n v (i+1+j) c st) (λc st=>ϣ (Fi r A B) κ n v c st\/ϐ r A B κ n v (i+2) c st) (λj c st hj L=>?_) (λc st L=>?_) (λc st G=>?_)<|.mk a d l o
  .clear a d l o;show ϐ.casesOn L @λmg out na nb m a d l o=>?_;clear L c st;have l1:=a.1;have l2:=a.2.1;show qM hXB (show nb-1<B.length by lia) λy H Xy=>qM M (show na-1<A.length by lia) λx b Xx=>Fe hC rfl Xy Xx ?_;show bS (λhc=>?_) λhc=>?_
   .unfold lr at hc;rw[decide_eq_true_eq]at hc;have p:=a.pushB b H ⋯ ⋯ ⋯;rw[<- Ϫ]at p;show gF H ?_;show bS (λg=>?_) λg=>?_
    .have g:¬ nb-1=1:=λe=>g<|beq_iff_eq.mpr e;show bS (λ_=>Ò ⟨rfl,.mk (na:=na) (nb:=nb-1) p ⋯ ⋯<|by lia⟩) λ_=>Ò ⟨rfl,.inr<|.mk (na:=na) (nb:=nb-1) p ⋯ ⋯<|by lia⟩
    .rw[beq_iff_eq]at g;show Ò ⟨rfl,.inl<|.mk ?_⟩;rw[lP];show p.last g hf
   .unfold lr at hc;rw[decide_eq_true_eq]at hc;have p:=a.pushA b H ⋯ ⋯ ⋯;rw[<- Ϫ]at p;show gF b ?_;show bS (λg=>?_) λg=>?_
    .have g:¬ na-1=0:=λe=>g<|beq_iff_eq.mpr e;show bS (λ_=>Ò ⟨rfl,.mk (na:=na-1) (nb:=nb) p ⋯ ⋯<|by lia⟩) λ_=>Ò ⟨rfl,.inr<|.mk (na:=na-1) (nb:=nb) p ⋯ ⋯<|by lia⟩
    .rw[beq_iff_eq]at g;show Ò ⟨rfl,.inl<|.mk ?_⟩;rw[lP];show p.endA g
  .show ϐ.casesOn L @λ_ _ _ _ _ a d l o=>.inr<|.mk a d l<|by lia
  .clear a d l o;show G.elim (λG=>ϣ.casesOn G @λ_ _ _ hR=>Ò ⟨rfl,.mk hR⟩) λK=>ϐ.casesOn K @λmg out na nb m a d l o=>qI ?_;clear K G c st;show qL (λj c st=>ϐ r A B κ n v (i+2) c st) (λc st=>ϣ (Fi r A B) κ n v c st\/ϐ r A B κ n v (i+2) c st) (λj c st hj L=>?_) (λc st L=>.inr L) (λc st G=>?_)<|.mk a d l o
   .clear a d l o;show ϐ.casesOn L @λmg out na nb m a d l o=>Ff λQ' hQ=>?_;clear L c st;have l1:=a.1;have l2:=a.2.1;obtain⟨y,H,Xy⟩:=getB (nb-1) ⋯;extract_lets z1 o1 z2 a1 z3 b1 z4 m1 z5 ac1 bc1 jb1 jp mm;have hj:∀m' U,á (Å prog w) A₀ E (jp () m') Q' (ą κ n v U b5) s:=by
     intro m' U;clear_value m1 ac1;dsimp -zeta -zetaHave only[jp];show lK (gF H<|Au hC rfl (b:=0) (n:=na) (h:=na-1) ⋯ ⋯ M Xy (hA.part _ _) λt ht1 ht2=>?_);have p:=a.gallA (t:=t) H ⋯ ht1 λj x h1 h2 b=>by have:=ht2 j x h2 (by rw[Ω];show b);lia
     have nx:∀x,1<=t->A[t-1]?=b0 x->r x<=r y:=λx h1 b=>(ht2 (t-1) x ⋯<|by rw[Ω];show b).mpr ⋯;rw[<- Fh]at p;dsimp -zeta -zetaHave only;extract_lets k2 ac2 jp2 o2 Z;have hjb:jb1=nb-1:=rfl;have hk2:k2=na-t:=rfl;have hj2:∀Y ou,Y<=na->JH r A B ou.toList Y nb->1<=Y->(∀x,A[Y-1]?=b0 x->r x<=r y)->á (Å prog w) A₀ E (jp2 () Y ou) Q' (ą κ n v m' b5) s:=by
      intro Y ou t0 t1 t2 t3;obtain⟨x,b,Xx⟩:=getA (Y-1) ⋯;have t5:=t1.pushB b H t2 ⋯<|t3 x b;rw[<- Ϫ]at t5;clear_value ac2 k2;dsimp -zeta -zetaHave only[jp2];show gF H ?_;extract_lets o3 a3;show bS (λhq=>?_) λhq=>?_;rotate_left
      .rw[beq_iff_eq]at hq;show Ò<|hQ _ _ _ ⟨rfl,.inl<|.mk ?_⟩;rw[lP];show t5.last hq hf
      rw[beq_iff_eq]at hq;show gF b (Av hC rfl (b:=0) (n:=nb-1) (h:=nb-1-1) ⋯ ⋯ hXB Xx (hB.part _ _) λu eX hu2=>?_);have u5:=t5.gallB (t:=u) b t2 eX λj z h1 h2 I=>by have:=hu2 j z h2 (by rw[Ω];show I);lia
      have nz:∀z,1<=u->B[u-1]?=b0 z->r z<=r x:=λz h1 I=>mU ((hu2 (u-1) z ⋯<|by rw[Ω];show I).mpr<|by lia);rw[<- Fh]at u5;dsimp -zeta -zetaHave only;extract_lets k3 bc2 jp3 o4 b4;have hk3:k3=nb-1-u:=rfl;have hj3:∀Z oz,Z<nb->JH r A B oz.toList Y Z->2<=Z->(∀z,B[Z-1]?=b0 z->r z<=r x)->á (Å prog w) A₀ E (jp3 () Z oz) Q' (ą κ n v m' b5) s:=by
       intro Z oz v0 v1 v2 v3;have l3:=v1.2.1;obtain⟨z,I,Xz⟩:=getB (Z-1) ⋯;have v5:=v1.pushA b I t2 ⋯<|v3 z I;rw[<- Ϫ]at v5;clear_value bc2 k3;dsimp -zeta -zetaHave only[jp3];have ha3:a3=Y-1:=rfl;show gF b ?_;extract_lets o5;show bS (λhw=>?_) λhw=>?_
       .rw[beq_iff_eq]at hw;show bS (λ_=>Ò<|hQ _ _ _ ⟨rfl,.mk v5 ⋯ v2<|by lia⟩) λ_=>Ò<|hQ _ _ _ ⟨rfl,.inr<|.mk v5 ⋯ v2<|by lia⟩
       .rw[beq_iff_eq]at hw;show Ò<|hQ _ _ _ ⟨rfl,.inl<|.mk ?_⟩;rw[lP];show v5.endA hw
      clear_value jp3;show bS (λhk1=>hj3 _ _ ⋯ t5 ⋯ λz I=>?_) λhk1=>bS (λN=>bS (λT=>?_) λT=>?_) λN=>?_
      .have e:u=nb-1:=by lia
       rw[e]at nz;show nz z ⋯ I
      .rw[beq_iff_eq]at N T;have hb4:b4=u:=rfl;show hj3 _ _ ⋯ u5 ⋯ λz I=>nz z ⋯ I
      .rw[beq_iff_eq]at T;show Ò<|hQ _ _ _ ⟨rfl,.inl<|.mk ?_⟩;rw[lP];show u5.endB T
      .rw[beq_iff_eq]at N;show Ò<|hQ _ _ _ ⟨rfl,.inl<|.mk ?_⟩;rw[lP];show u5.last N hf
     clear_value jp2;show bS (λhk0=>hj2 _ _ (Z2 _) a d λx b=>?_) λhk0=>bS (λg=>?_) λg=>?_
     .have e:t=na:=by lia
      rw[e]at nx;show nx x d b
     .rw[beq_iff_eq]at g;have hn2:Z=t:=rfl;show hj2 _ _ ht1 p ⋯ λx b=>nx x ⋯ b
     .rw[beq_iff_eq]at g;show Ò<|hQ _ _ _ ⟨rfl,.inl<|.mk ?_⟩;rw[lP];show p.endA g
    clear_value jp;show bS (λ_=>hj _ _) λ_=>hj _ _
   .clear a d l o;show G.elim (λG=>ϣ.casesOn G @λ_ _ _ hR=>Ò ⟨rfl,.mk hR⟩) λK=>ϐ.casesOn K @λ_ _ _ _ _ a d l o=>lK<|Ò ⟨rfl,.mk a d l o⟩
 .cases K with
  |mk a d l o=>lia
 .cases G with
  |mk hR=>show Ò<|q _ _ hR
end
def Fj{P:List Keyed}(h:i<c1.length):(P++c1++c2++S)[P.length+i]?=c1[i]?:=by rw[ú,ú,Ž<|by lia,ō<|by lia];congr 1;lia
def Fm{P:List Keyed}(h:i<c2.length):(P++c1++c2++S)[P.length+c1.length+i]?=c2[i]?:=by rw[ú,Ž<|by rw[Z4];lia,ō<|by rw[Z4];lia];congr 1;rw[Z4];lia
def BaI{P:List Keyed}:((P++c1++c2++S).drop P.length).take c1.length=c1:=by rw[ú,ú,MM,MN]
def AnI{P:List Keyed}:((P++c1++c2++S).drop<|P.length+c1.length).take c2.length=c2:=by rw[ú,OP<|by rw[Z4],MN]
def Qy{P:List Keyed}(a:k<=c1.length):(P++c1++c2++S).toArray.extract (P.length+k) (P.length+c1.length)=(c1.drop k).toArray:=by apply g8.mp;rw[sR,<- ML,ú,ú,MM,My a,ϭ,List.take_left'<|by rw[Λ];lia]
def Qz{P:List Keyed}(a:k<=c2.length):(P++c1++c2++S).toArray.extract (P.length+c1.length) (P.length+c1.length+k)=(c2.take k).toArray:=by apply g8.mp;rw[Aq,ú,OP<|by rw[Z4],ϭ,Mz a]
def a6b{P:List Keyed}(e:k<=c1.length)(g:l<=c2.length)(d:R.length=c1.length-k+l):(R.zipIdx.foldl (λa x=>a.setIfInBounds (P.length+k+x.2) x.1) (P++c1++c2++S).toArray)=(P++(c1.take k++R++c2.drop l)++S).toArray:=by
 apply g8.mp;have:=EX R (P++c1++c2++S).toArray (P.length+k) 0 (by simp;lia);rw[this,ϭ,ϭ,Nj,d];have b:(P++c1++c2++S).take (P.length+k)=P++c1.take k:=by rw[ú,ú,O5,ϳ<|by lia,pB,Mz e]
 have c:(P++c1++c2++S).drop (P.length+k+(c1.length-k+l))=c2.drop l++S:=by rw[show P.length+k+(c1.length-k+l)=(P++c1).length+l by rw[Z4];lia,ú,<- ML,MM,My g]
 rw[b,c];simp
def Sr.both{V:List Keyed}(e:Sr r R)(g:Sr r U)(h:Sr r V)(h1:∀x∈U,∀y∈R,r x<=r y)(c:∀x∈R,∀y∈V,r x<=r y)(d:∀x∈U,∀y∈V,r x<=r y):Sr r (U++R++V):=by
 unfold Sr at *;rw[ú,Ϯ];show⟨g,?_,λx b y a=>?_⟩
 .rw[Ϯ];show⟨e,h,c⟩
 .rcases ù.mp a with a|a
  .show h1 x b y a
  .show d x b y a
def Sr.at(h:Sr r l){i:Nat}{x y:Keyed}(c:i<=j)(d:l[i]?=b0 x)(g:l[j]?=b0 y):r x<=r y:=by
 obtain⟨a,rfl⟩:=ZW.mp d;obtain⟨b,rfl⟩:=ZW.mp g;by_cases e:i=j
 .subst e;show Kh _
 .show ϋ.mp h i j a b<|by lia
def qO{l:List Keyed}(h:x∈l.take k):∃j,j<k/\l[j]?=b0 x:=by have:=Fb (l:=l) (i:=0) (k:=k) (x:=x) (by rw[Ϭ];show h);obtain⟨j,b,a⟩:=this;show⟨j,b,by rw[Ω]at a;show a⟩
def qP{l:List Keyed}(h:x∈l.drop k):∃j,k<=j/\l[j]?=b0 x:=by obtain⟨j,a,e⟩:=L6 h;show⟨k+j,by lia,by rw[<- e,OC,ZY]⟩
def a6Y(hC:fV prog w A₀ κ s X (lr r))(hX:∀x∈P++c1++c2++S,X x)(h1:Sr r c1)(B:Sr r c2)(l1:0<c1.length)(l2:0<c2.length)(p1:M[i]?=b0 (P.length,c1.length,w1))(p2:M[i+1]?=b0 (P.length+c1.length,c2.length,w2))(q:∀c n,Sr r c->c.Perm (c1++c2)->Q eA (ą κ (P++c++S).toArray ((M.setIfInBounds i (P.length,c1.length+c2.length,w1)).eraseIdxIfInBounds<|i+1) n b5) s):
  á (Å prog w) A₀ E (KI i) Q (ą κ (P++c1++c2++S).toArray M mg b5) s:=by
 unfold KI;show jK ?_;dsimp only;simp only[p1,p2];show Đ<|GaI ?_;have gA:∀j,j<c1.length->c1[j]?=b0 (c1.getD j (.none,.none)):=λj d=>by rw[Ń,ZY d];rfl
 have gB:∀j,j<c2.length->c2[j]?=b0 (c2.getD j (.none,.none)):=λj d=>by rw[Ń,ZY d];rfl
 have H:∀x∈c1,X x:=λx b=>hX x (by simp[b]);have I:∀x∈c2,X x:=λx b=>hX x (by simp[b]);have hlen:(P++c1++c2++S).length=P.length+c1.length+c2.length+S.length:=by simp;lia
 have L:=gB 0 l2;show gF (x:=c2.getD 0 (.none,.none)) (by rw[<- L];show Fm l2) ?_;show Au hC rfl (b:=P.length) (n:=c1.length) (h:=0) l1 ⋯ hX (I _<|Ĳ L) (by rw[BaI];show h1) λk T hk2=>?_;have u:∀j x,c1[j]?=b0 x->(r x<=r (c2.getD 0 (.none,.none))↔j<k):=λj x b=>by have d:=(ZW.mp b).1;show hk2 j x d<|by rw[Fj d];show b
 generalize c2.getD 0 (.none,.none)=y0 at *;dsimp only;have e0:(P++c1++c2++S)=P++(c1++c2)++S:=by simp
  -- all as it is
 have G:(∀x∈c1,∀y∈c2,r x<=r y)->Q eA (ą κ (P++c1++c2++S).toArray ((M.setIfInBounds i (P.length,c1.length+c2.length,w1)).eraseIdxIfInBounds<|i+1) mg b5) s:=λh=>by rw[e0];show q _ _ (by unfold Sr at *;rw[Ϯ];show⟨h1,B,h⟩)<|LA _
 show bS (λhe=>?_) λhe=>?_;rotate_left
 .rw[beq_iff_eq]at he;show Ò<|G λx b y g=>?_;obtain⟨j,d⟩:=pq b;obtain⟨p,o⟩:=pq g;have a1:=(u j x d).mpr (by have:=(ZW.mp d).1;lia);have a2:=B.at (ŀ p) L o;lia
 rw[beq_iff_eq]at he;have z0:=gA (c1.length-1) ⋯;generalize c1.getD (c1.length-1) (.none,.none)=x1 at *;show gF (x:=x1) (by rw[show P.length+k+(c1.length-k)-1=P.length+(c1.length-1) by lia,Fj<|by lia];show z0) ?_;show Av hC rfl (b:=P.length+c1.length) (n:=c2.length) (h:=c2.length-1) ⋯ ⋯ hX (H _<|Ĳ z0) (by rw[AnI];show B) λl U hl2=>?_;have K:∀j x,c2[j]?=b0 x->(r x<r x1↔j<l):=λj x b=>by have d:=(ZW.mp b).1;show hl2 j x d<|by rw[Fm d];show b
 dsimp only;show bS (λhf=>?_) λhf=>?_;rotate_left
 .rw[beq_iff_eq]at hf;show Ò<|G λx b y g=>?_;obtain⟨j,d⟩:=pq b;obtain⟨p,o⟩:=pq g;have a1:=h1.at (by have:=(ZW.mp d).1;lia) d z0;have a2:=K p y o;lia
 rw[beq_iff_eq]at hf;rw[Qy T,Qz U];have hA:Sr r (c1.drop k):=fj (LH _ _) h1;have hB:Sr r (c2.take l):=fj (uv _ _) B;have O:∀y,(c2.take l)[0]?=b0 y->∀x∈c1.drop k,r y<=r x:=λy g x b=>by rw[uz<|by lia,L]at g;cases g;obtain⟨j,d,e⟩:=qP b;have:=u j x e;lia
 have Y:∀x,(c1.drop k)[(c1.drop k).length-1]?=b0 x->∀y∈c2.take l,r y<=r x:=λx b y g=>by rw[Λ,Mi,show k+(c1.length-k-1)=c1.length-1 by lia,z0]at b;cases b;obtain⟨j,d,e⟩:=qO g;have:=K j y e;lia
 have v:∀(R:Array Keyed)(n:Nat),Fi r (c1.drop k) (c2.take l) R.toList->Q eA (ą κ (R.toList.zipIdx.foldl (λ(a:Array Keyed)(x:Keyed×Nat)=>a.setIfInBounds (P.length+k+x.2) x.1) (P++c1++c2++S).toArray) ((M.setIfInBounds i (P.length,c1.length+c2.length,w1)).eraseIdxIfInBounds<|i+1) n b5) s:=λR n N=>by
  obtain⟨f1,f2⟩:=N;have hRl:=f1.length_eq;rw[Z4,Λ,Ġ]at hRl;rw[a6b T U<|by lia];have Z:∀z∈R.toList,z∈c1.drop k\/z∈c2.take l:=λz hz=>ù.mp<|f1.mem_iff.mp hz;show q _ _ (f2.both (fj (uv _ _) h1) (fj (LH _ _) B) (λx b y g=>?_) (λx b y g=>?_) λx b y g=>?_) ?_
  .obtain⟨j,d,e⟩:=qO b;rcases Z y g with g|g
   .obtain⟨p,o,A⟩:=qP g;show h1.at ⋯ e A
   .obtain⟨p,o,A⟩:=qO g;have a1:=(u j x e).mpr d;have a2:=B.at (ŀ p) L A;lia
  .obtain⟨p,o,A⟩:=qP g;rcases Z x b with b|b
   .obtain⟨j,d,e⟩:=qP b;have a1:=h1.at (by have:=(ZW.mp e).1;lia) e z0;have a2:=K p y A;lia
   .obtain⟨j,d,e⟩:=qO b;show B.at ⋯ e A
  .obtain⟨j,d,e⟩:=qO b;obtain⟨p,o,A⟩:=qP g;have a1:=(u j x e).mpr d;have a2:=B.at (ŀ p) L A;lia
  .have e1:c1++c2=c1.take k++(c1.drop k++c2.take l)++c2.drop l:=by rw[<- ú,ŵ,ú,ŵ]
   rw[e1];show((f1.append_left _).append_right _)
 have d1:0<(c1.drop k).length:=by rw[Λ];lia
 have d2:0<(c2.take l).length:=by rw[Ġ];lia
 show bS (λ_=>?_) λ_=>?_
 .show Đ<|CoI hC (λx b=>H x<|Oq b) (λx b=>I x<|Mc b) hA hB d1 d2 O Y λR n N=>lK<|jK<|Ò<|v R n N
 .show Đ<|CpI hC (λx b=>H x<|Oq b) (λx b=>I x<|Mc b) hA hB d1 d2 O Y λR n N=>lK<|jK<|Ò<|v R n N
abbrev kr(r:Keyed->Int)(T:List Keyed)(i:Nat):Int:=r<|T.getD i (.none,.none)
def lQ(h:T[i]?=b0 x):kr r T i=r x:=by unfold kr;rw[Ń,h];rfl
def Aw{T:List Keyed}(h:i<T.length):T[i]?=b0 (T.getD i (.none,.none)):=by rw[Ń,ZY h];rfl
def v8(hC:fV prog w A₀ κ s X (lr r))(b:∀x∈T,X x)(a:i<T.length)(c:j<T.length)(q:Q (b0<|decide<|kr r T i<kr r T j) (ą κ (P++T).toArray pd mg b5) s):
  á (Å prog w) A₀ E (ltAt' (P.length+i)<|P.length+j) Q (ą κ (P++T).toArray pd mg b5) s:=by
 have e:∀i,i<T.length->(jl<|ą κ (P++T).toArray pd mg b5)[P.length+i]?=b0 (T.getD i (.none,.none)):=λi a=>by change(P++T).toArray[P.length+i]?=_;rw[ϰ,Ž<|by lia,pB];show Aw a
 show FoI hC rfl (e i a) (e j c) (b _<|Ĳ<|Aw a) (b _<|Ĳ<|Aw c) q
def Ax(hC:fV prog w A₀ κ s X (lr r))(g:∀x∈T,X x)(h:i<T.length)(l:j<T.length)(c:a=P.length+i)(d:b=P.length+j)(e:decide (kr r T i<kr r T j)=v)(q:Q (b0 v) (ą κ (P++T).toArray pd mg b5) s):
  á (Å prog w) A₀ E (ltAt' a b) Q (ą κ (P++T).toArray pd mg b5) s:=by
 subst c d e;show v8 hC g h l q
abbrev ŉ(R:Int->Int->Prop)(r:Keyed->Int)(T:List Keyed)(n:Nat):Prop:=∀j,j+1<n->R (kr r T j) (kr r T<|j+1)
def ŉ.one:ŉ R r T 1:=λ_ h=>nomatch Nat.lt_of_succ_lt_succ h
def ŉ.succ(h:ŉ R r T (n+1))(k:R (kr r T n) (kr r T<|n+1)):ŉ R r T (n+2):=λj a=>by
 rcases OG (LB a)with e|e
 .show h j e
 .cases e;show k
def ŉ.snoc(a:0<n)(h:ŉ R r T n)(k:R (kr r T<|n-1) (kr r T n)):ŉ R r T (n+1):=by
 cases n with
 |zero=>show nomatch a|succ n=>show h.succ k
def Ay(h:ŉ (·<=·) r T n):∀{i j},i<=j->j<n->kr r T i<=kr r T j
 |i,0,h1,_=>by rw[Lo.mp h1];show Kh _
 |i,j+1,h1,h2=>by
  rcases OG h1 with e|e
  .show Kc (Ay h (LB e)<|ύ h2)<|h j h2
  .rw[e];show Kh _
def a6V(h:ŉ (·<=·) r T n):Sr r (T.take n):=by show ϋ.mpr λi j e d b=>?_;have a:=ĭ e<|Mb n T;have c:=ĭ d<|Mb n T;have:=Ay h (ż b)<|ĭ d<|Of n T;rw[lQ<|ZY a,lQ<|ZY c]at this;rw[Me,Me];show this
def a6U(g:n<=T.length)(h:ŉ (· >= ·) r T n):ŉ (·<=·) r ((T.take n).reverse++T.drop n) n:=λj c=>by
 have a:(T.take n).length=n:=by rw[Ġ,dq g]
 have b:∀i,i<n->kr r ((T.take n).reverse++T.drop n) i=kr r T (n-1-i):=λi e=>by
  have:((T.take n).reverse++T.drop n)[i]?=T[n-1-i]?:=by rw[ō<|by rw[Ι,a];show e,ϯ<|a.symm▸e,a,uz<|by lia]
  unfold kr;rw[Ń,Ń,this]
 rw[b j<|ύ c,b (j+1) c];obtain⟨d,rfl⟩:=PD c;rw[show j+1+d+1-1-(j+1)=d by lia,show j+1+d+1-1-j=d+1 by lia];show h d<|by lia
def a6O(P U V:List Keyed):K2 (P++U++V).toArray P.length (P.length+U.length) ((P.length+U.length-P.length)/2)=(P++U.reverse++V).toArray:=by
 apply g8.mp;apply yu;intro k;rw[ϲ,getElem?_mirror_all<|by simp,ϭ];by_cases h:P.length<=k/\k<P.length+U.length
 .have b:∀(W:List Keyed)(m:Nat),W.length=U.length->P.length<=m->m<P.length+U.length->(P++W++V)[m]?=W[m-P.length]?:=λW m d a c=>by rw[ú,Ž a,ō<|by lia]
  rw[if_pos h,ϰ,b U _ rfl ⋯<|by lia,b U.reverse k (by rw[Ι]) h.1 h.2,ϯ<|by lia];congr 1;lia
 .rw[if_neg h,ϰ];by_cases a:k<P.length
  .rw[ú,ú,ō a,ō a]
  .rw[Ž<|by rw[Z4];lia,Ž<|by rw[Z4,Ι];lia];simp
abbrev qe(r:Keyed->Int)(T:List Keyed):Prop:=T.Pairwise λx y=>r x≠r y
def qe.at(h:qe r T)(a:i<T.length)(b:j<T.length)(c:i≠j):kr r T i≠kr r T j:=by
 rw[lQ<|ZY a,lQ<|ZY b];have:=ϋ.mp h;by_cases l:i<j
 .show this i j a b l
 .show(this j i b a<|by lia).symm
inductive CR {α:Type}(p:Nat->Prop):Option α×Nat->Prop
 |mk {n:Nat}:p n->CR p (b5,n)
inductive N5 {α:Type}(p:Nat->Prop):Option α×Nat×Nat->Prop
 |mk {n:Nat}:p n->N5 p (b5,n,0)
def QL(hC:fV prog w A₀ κ s X (lr r))(y:∀x∈T,X x)(hD:qe r T)(H:0<T.length)(q:∀c t,0<c.length->Sr r c->(c++t).Perm T->Q (b0 c.length) (ą κ (P++(c++t)).toArray pd mg b5) s):á (Å prog w) A₀ E (countRun' P.length T.length) Q (ą κ (P++T).toArray pd mg b5) s:=by
 have j:∀U n,U.Perm T->0<n->n<=T.length->ŉ (·<=·) r U n->Q (b0 n) (ą κ (P++U).toArray pd mg b5) s:=λU n z v u h=>by
  have e:(U.take n).length=n:=by rw[Ġ,z.length_eq,dq u]
  have:=q (U.take n) (U.drop n) (e.symm▸v) (a6V h) (by rw[ŵ];show z);rwa [ŵ,e]at this
 unfold countRun';show mQ (λi=>CR λn=>n=i+1/\ŉ (·<=·) r T n) (CR λn=>0<n/\n<=T.length/\ŉ (·<=·) r T n/\(n<T.length->kr r T n<kr r T (n-1))) (T.length-1) (λi x c K d=>?_) (λc d=>?_) (λc l=>?_) (by simp)<|.mk ⟨rfl,.one⟩
 .obtain⟨rfl,d⟩:=d;dsimp only;show Đ (v8 hC y (i:=i+1) (j:=i) ⋯ ⋯ ?_);dsimp only;show bS (λhc=>?_) λhc=>?_
  .rw[decide_eq_true_eq]at hc;show Ò ⟨rfl,rfl,.mk ⟨rfl,d.succ<|Ll.mp hc⟩⟩
  .rw[decide_eq_true_eq]at hc;show Ò ⟨rfl,rfl,.mk ⟨yp i,by lia,d,λ_=>hc⟩⟩
 .obtain⟨rfl,d⟩:=d;show .mk ⟨yp _,by lia,d,λh=>absurd h<|by lia⟩
 .obtain @⟨n,v,u,d,B⟩:=l;dsimp only;show bS (λI=>?_) λI=>?_;rotate_left
  .show Ò<|j T n (.refl _) v u d
  rw[beq_iff_eq]at I;show bS (λN=>?_) λN=>?_;rotate_left
  .have a:=Ay d (ŀ<|n-1) ⋯;have b:=hD.at (i:=0) (j:=n-1) H ⋯ ⋯;show Đ (Ax hC y (i:=0) (j:=n-1) (v:=eA) H ⋯ rfl ⋯ (decide_eq_true<|by lia) ?_);dsimp only;rw[if_pos rfl];show Ò<|j T n (.refl _) v u d
  obtain rfl:n=1:=by lia
  have G:2<=T.length:=by lia
  have hd0:=B G;show qI ?_;show mQ (λi=>N5 λn=>n=i+2/\ŉ (· >= ·) r T n) (N5 λn=>2<=n/\n<=T.length/\ŉ (· >= ·) r T n) (T.length-2) (λi x c K d=>?_) (λc d=>?_) (λc l=>?_) (by simp)<|.mk ⟨rfl,ŉ.one.succ<|mU hd0⟩
  .obtain⟨rfl,d⟩:=d;dsimp only;have g:i+2<T.length:=by lia
   show Đ<|v8 hC y (i:=i+2) (j:=i+1) g (ύ g) ?_;dsimp only;by_cases hc:kr r T (i+2)<kr r T (i+1)
   .rw[decide_eq_true hc,if_pos rfl,if_neg<|by lia];show Ò ⟨rfl,rfl,.mk ⟨rfl,d.succ<|mU hc⟩⟩
   .rw[decide_eq_false hc,if_neg Z6];have Y:=hD.at (i:=i+1) (j:=i+2) (ύ g) g<|ð<|ϛ _;show Đ (Ax hC y (i:=i+1) (j:=i+2) (v:=eA) (ύ g) g rfl rfl (decide_eq_true<|by lia) ?_);dsimp only;rw[if_pos rfl];show Ò ⟨rfl,rfl,.mk ⟨MP ..,ż g,d⟩⟩
  .obtain⟨rfl,d⟩:=d;show .mk ⟨MP ..,by lia,d⟩
  .obtain @⟨n,G,u,d⟩:=l;dsimp only;rw[if_neg<|by lia];show Đ<|F1I ?_;have M:K2 (P++T).toArray P.length (P.length+n) ((P.length+n-P.length)/2)=(P++((T.take n).reverse++T.drop n)).toArray:=by have:=a6O P (T.take n)<|T.drop n;rw[Ġ,dq u,ú,ú,ŵ]at this;show this
   change á _ _ _ _ _ (ą κ (K2 (P++T).toArray P.length (P.length+n)<|(P.length+n-P.length)/2) pd mg b5) s;rw[M];have o:((T.take n).reverse++T.drop n).Perm T:=by show((Kz _).append_right _).trans ?_;rw[ŵ]
   have p:=a6U u d;generalize(T.take n).reverse++T.drop n=U at o p;have z:=o.length_eq;have A:∀x∈U,X x:=λx R=>y x<|o.mem_iff.mp R;show mQ (λi=>CR λm=>m=n+i/\ŉ (·<=·) r U m) (CR λm=>0<m/\m<=T.length/\ŉ (·<=·) r U m) (T.length-n) (λi x c K d=>?_) (λc d=>?_) (λc l=>?_) (by simp)<|.mk ⟨rfl,p⟩
   .obtain⟨rfl,d⟩:=d;dsimp only;have L:n+i<U.length:=by lia
    show Đ (Ax hC A (i:=n+i) (j:=n+i-1) L ⋯ rfl ⋯ rfl ?_);dsimp only;show bS (λhc=>?_) λhc=>?_
    .rw[decide_eq_true_eq]at hc;show Ò ⟨rfl,rfl,.mk ⟨rfl,ŉ.snoc ⋯ d<|Ll.mp hc⟩⟩
    .show Ò ⟨rfl,rfl,.mk ⟨by lia,ż<|z▸L,d⟩⟩
   .obtain⟨rfl,d⟩:=d;show .mk ⟨by lia,by lia,d⟩
   .obtain @⟨m,v,O,d⟩:=l;show Ò<|j U m o v O d
section
variable{prog:ĥ}{w:Ĉ}{A₀:ĺ}{E:Value->ZZ->Prop}{κ:ϊ}{s:ZZ}{X:Keyed->Prop}{r:Keyed->Int}{P:List Keyed}{pd:Array (Nat×Nat×Nat)}{mg:Nat}
def a6B{a:Type}L R(x y:a):(L++y::x::R).toArray.swapIfInBounds (L.length+1) L.length=(L++x::y::R).toArray:=by unfold PZ;rw[dif_pos<|by simp,dif_pos<|by simp];simp[Array.swap]
def Fn P C V(x:g):∀d l,l+d=C.length->K1 (P++(C++x::V)).toArray (P.length+C.length) d=(P++(C.take l++x::C.drop l++V)).toArray
 |0,l,h=>by obtain rfl:l=C.length:=h;rw[š,List.drop_length,ú];rfl
 |d+1,l,h=>by
  have e:=Fn P C V x d (l+1)<|(Mf l 1 d).trans h;have a:l<C.length:=h▸Nat.lt_add_of_pos_right (yp d);have i:(P++C.take l).length=P.length+l:=by rw[Z4,Ġ,dq<|ż a]
  have j:P.length+C.length-d=(P++C.take l).length+1:=by rw[i,<- h,<- uc,<- uc,Mf,Mg]
  unfold K1 at e ⊢;rw[su,OA,e];change PZ _ (P.length+C.length-d) (P.length+C.length-d-1)=_;have b:=List.take_succ_eq_append_getElem a;have c:=il a;generalize C[l]=y at b c;rw[j,Mg,b,c,ú,ú,<- ú P,ú<|C.take l,<- ú P];show a6B (P++C.take l) (C.drop (l+1)++V) x y
def a5t P C V(x:Keyed)(a:l<=C.length):K1 (P++(C++x::V)).toArray (P.length+C.length) (P.length+C.length-(P.length+l))=(P++(C.take l++x::C.drop l++V)).toArray:=by rw[Oi];show Fn P C V x _ l<|Nat.add_sub_cancel' a
inductive NA (κ:ϊ)(r:Keyed->Int)(P t:List Keyed)(pd:Array (Nat×Nat×Nat))(mg:Nat)(L:List Keyed)(n:Nat){α:Type}:Option α×Unit->đ->Prop
 |mk {c D:List Keyed}:Sr r c->c.length=n->(c++D).Perm L->NA κ r P t pd mg L n (b5,()) (ą κ (P++(c++(D++t))).toArray pd mg b5)
inductive N9 (r:Keyed->Int)(c:List Keyed)(v:Int)(d:Nat){α:Type}:Option α×Nat×Nat->Prop
 |mk {l u:Nat}:l<=u->u<=c.length->u-l<=d->(∀m,m<l->kr r c m<=v)->(∀m,u<=m->m<c.length->v<kr r c m)->N9 r c v d (b5,l,u)
def a5s{D:List Keyed}l(a:(c++x::D).Perm L):(c.take l++x::c.drop l++D).Perm L:=by
 have:(c.take l++x::c.drop l).Perm (c++[x]):=by show List.perm_middle.trans ?_;rw[ŵ];show um (l₁:=[x])
 show(this.append_right D).trans ?_;rw[ú];show a
def a5f(h1:Sr r c)(o:∀m,m<l->kr r c m<=r x)(p:∀m,l<=m->m<c.length->r x<kr r c m):Sr r (c.take l++x::c.drop l):=by
 have i:∀z∈c.take l,r z<=r x:=λz h=>by obtain⟨m,g,e⟩:=qO h;rw[<- lQ (r:=r) e];show o m g
 have j:∀z∈c.drop l,r x<=r z:=λz h=>by obtain⟨m,g,e⟩:=qP h;rw[<- lQ (r:=r) e];show mU<|p m g (ZW.mp e).1
 show Ϯ.mpr ⟨fj (uv _ _) h1,L1.mpr ⟨j,fj (LH _ _) h1⟩,λa n b d=>?_⟩;rcases Ě.mp d with rfl|d
 .show i a n
 .show Kc (i a n)<|j b d
def a5X(hC:fV prog w A₀ κ s X (lr r)){D:List Keyed}(Y:∀x∈c++D++t,X x)(hc:Sr r c)(U:0<c.length)(q:∀a,Sr r a->a.Perm (c++D)->Q eA (ą κ (P++(a++t)).toArray pd mg b5) s):á (Å prog w) A₀ E (binarySort' P.length (c.length+D.length) c.length) Q (ą κ (P++(c++D++t)).toArray pd mg b5) s:=by
 unfold binarySort';show sO ?_;rw[Nat.max_eq_left U,ú c];show(qK (λi=>NA κ r P t pd mg (c++D)<|c.length+i) (NA κ r P t pd mg (c++D)<|c.length+D.length) c.length D.length (λi b st hi I=>?_) (λb st I=>I) (λb st n=>?_) (c.length+D.length-c.length) 0 _ _ ⋯<|.mk hc rfl<|.refl _)
 .obtain @⟨a,d,A,R,e⟩:=I;match d,e with
  |[],e=>have:=e.length_eq;rw[Ň,Z4]at this;lia|x::d,e=>
   dsimp only;have L:∀z∈a++(x::d++t),X z:=λz hz=>Y z<|by
    have:z∈(a++x::d)++t:=by rw[ú];show hz
    rcases ù.mp this with h|h
    .show ù.mpr<|.inl<|e.mem_iff.mp h
    .show ù.mpr<|.inr h
   rw[<- R];have N:kr r (a++(x::d++t)) a.length=r x:=lQ (by rw[Ž<|Z2 _,du];rfl);have M:∀m,m<a.length->kr r (a++(x::d++t)) m=kr r a m:=λm g=>by unfold kr;rw[Ń,Ń,ō g]
   have mono:∀{m H:Nat},m<=H->H<a.length->kr r a m<=kr r a H:=λ{m H} h o=>by rw[lQ<|ZY<|OF h o,lQ<|ZY o];show A.at h (ZY _)<|ZY _
   show mQ (λj=>N9 r a (r x)<|a.length-j) (N9 r a (r x) 0) a.length (λj y b hj K=>?_) (λb K=>du a.length▸K) (λb n=>?_) (by simp)<|.mk (ŀ _) (Z2 _) (Z2 _) (λm g=>nomatch g) λm h o=>absurd h<|Nat.not_le_of_lt o
   .obtain @⟨l,u,T,p,j3,B,G⟩:=K;dsimp only;show bS (λO=>?_) λO=>?_;rotate_left
    .show Ò ⟨rfl,rfl,.mk T p ⋯ B G⟩
    have g:l<=(l+u)/2/\(l+u)/2<u:=by lia
    generalize(l+u)/2=m at g ⊢;show Đ (v8 hC L (i:=a.length) (j:=m) (by simp) (by simp;lia) ?_);rw[N,M _<|by lia];dsimp only;show bS (λhc=>?_) λhc=>?_
    .rw[decide_eq_true_eq]at hc;show Ò ⟨rfl,rfl,.mk g.2 p ⋯ (λk Z=>Kc (mono (LB Z)<|ĭ g.2 p)<|Ll.mp hc) G⟩
    .rw[decide_eq_true_eq]at hc;show Ò ⟨rfl,rfl,.mk g.1 ⋯ ⋯ B λk h o=>Int.lt_of_lt_of_le hc<|mono h o⟩
   .obtain @⟨l,u,T,p,j3,B,G⟩:=n;obtain rfl:u=l:=by lia
    dsimp only;have mv:∀{v:Unit->đ->ZZ->Prop},v () (ą κ (P++((a.take u++x::a.drop u)++(d++t))).toArray pd mg b5) s->á (Å prog w) A₀ E (moveDown' (P.length+a.length)<|P.length+u) v (ą κ (P++(a++x::(d++t))).toArray pd mg b5) s:=λ{v} h=>by rw[moveDown'_eq];show Ln ?_;change v () (ą κ (K1 (P++(a++x::(d++t))).toArray (P.length+a.length)<|P.length+a.length-(P.length+u)) pd mg b5) s;rw[a5t P a (d++t) x p];show h
    show Đ<|mv ?_;show Ò ⟨rfl,.mk (a5f A B G) (by simp;lia)<|a5s u e⟩
 .obtain @⟨a,d,A,R,e⟩:=n;have hl:=e.length_eq;rw[Z4,Z4]at hl;obtain rfl:d=[]:=pC.mp ⋯;rw[Ň]at e;show Ò<|q a A e
end
noncomputable abbrev dS:=List Keyed×Nat
abbrev bE(a:List dS):List Keyed:=(a.map (·.1)).flatten
abbrev pos:Nat->List dS->List (Nat×Nat×Nat)
 |_,[]=>[]|p,(c,w)::t=>(p,c.length,w)::pos (p+c.length) t
def kG c w t:bE ((c,w)::t)=c++bE t:=rfl
def oP a b:bE (a++b)=bE a++bE b:=by unfold bE;simp
def oQ:∀a b p,pos p (a++b)=pos p a++pos (p+(bE a).length) b
 |[],b,p=>rfl|(c,w)::a,b,p=>by change(p,c.length,w)::pos (p+c.length) (a++b)=_;rw[oQ a b,kG,Z4,uc];rfl
def mR:∀a p,(pos p a).length=a.length
 |[],_=>rfl|(c,w)::a,p=>by change(pos (p+c.length) a).length+1=_;rw[mR a];rfl
structure Rn(r:Keyed->Int)(L Ä:List Keyed)(rs:List dS):Prop where
 ok:∀p∈rs,Sr r p.1/\0<p.1.length
 pm:(bE rs++Ä).Perm L
section
variable{prog:ĥ}{w:Ĉ}{A₀:ĺ}{E:Value->ZZ->Prop}{κ:ϊ}{s:ZZ}{X:Keyed->Prop}{r:Keyed->Int}{L Ä:List Keyed}{mg:Nat}
noncomputable abbrev kH(κ:ϊ)(Ä:List Keyed)(a:List dS)(mg:Nat):đ:=ą κ (bE a++Ä).toArray (pos 0 a).toArray mg b5
def a5Q(hC:fV prog w A₀ κ s X (lr r))(B:∀x∈L,X x){a:List dS}(h:Rn r L Ä (pre++(b,w1)::(d,w2)::a))(q:∀c g,Rn r L Ä (pre++(c,w1)::a)->c.length=b.length+d.length->Q eA (kH κ Ä (pre++(c,w1)::a) g) s)(G:i=pre.length):
  á (Å prog w) A₀ E (KI i) Q (kH κ Ä (pre++(b,w1)::(d,w2)::a) mg) s:=by
 subst G;obtain⟨j,v⟩:=h;have o1:=j (b,w1) (by simp);have o2:=j (d,w2) (by simp);have l:bE (pre++(b,w1)::(d,w2)::a)++Ä=bE pre++b++d++(bE a++Ä):=by rw[oP,kG,kG];simp
 have z:pos 0 (pre++(b,w1)::(d,w2)::a)=pos 0 pre++((bE pre).length,b.length,w1)::((bE pre).length+b.length,d.length,w2)::pos ((bE pre).length+b.length+d.length) a:=by rw[oQ,Ω];rfl
 unfold kH;rw[l,z];show a6Y hC (λx H=>B x<|v.mem_iff.mp<|by rw[l];show H) o1.1 o2.1 o1.2 o2.2 (w1:=w1) (w2:=w2) ?_ ?_ λc g A u=>?_
 .rw[ϰ,Ž<|by rw[mR];show Z2 _,mR,du];rfl
 .rw[ϰ,Ž<|by rw[mR];lia,mR,pB];rfl
 .have n:=u.length_eq;rw[Z4]at n;have o:bE pre++c++(bE a++Ä)=bE (pre++(c,w1)::a)++Ä:=by rw[oP,kG];simp
  have y:((pos 0 pre++((bE pre).length,b.length,w1)::((bE pre).length+b.length,d.length,w2)::pos ((bE pre).length+b.length+d.length) a).toArray.setIfInBounds pre.length ((bE pre).length,b.length+d.length,w1)).eraseIdxIfInBounds (pre.length+1)=(pos 0<|pre++(c,w1)::a).toArray:=by apply g8.mp;have e:(pos 0 pre).length=pre.length:=mR _ _;rw[Array.toList_eraseIdxIfInBounds,Px,ϭ,ϭ,oQ,Ω,<- e,LO _ _<|Z2 _,du,yz,List.eraseIdx_append_of_length_le<|by lia,pB];change _=pos 0 pre++((bE pre).length,c.length,w1)::pos ((bE pre).length+c.length) a;rw[n,<- uc];rfl
  rw[o,y];show q c g ⟨λp e=>?_,?_⟩ n
  .rcases ù.mp e with e|e
   .show j p<|by simp[e]
   .rcases Ě.mp e with rfl|e
    .have:=o1.2;dsimp only at this;show⟨A,by dsimp only;lia⟩
    .show j p<|by simp[e]
  .rw[<- o];show List.Perm.trans ?_ v;rw[l];have:=(u.append_left<|bE pre).append_right<|bE a++Ä;simpa using this
def Fo(hC:fV prog w A₀ κ s X (lr r))(A:∀x∈L,X x)(h:Rn r L Ä a)(H:i+1<a.length)(q:∀b g,Rn r L Ä b->b.length+1=a.length->(bE b).length=(bE a).length->Q eA (kH κ Ä b g) s):á (Å prog w) A₀ E (KI i) Q (kH κ Ä a mg) s:=by
 have e:a=a.take i++(a[i].1,a[i].2)::(a[i+1].1,a[i+1].2)::a.drop (i+1+1):=by have v:=il (l:=a) (i:=i) ⋯;have y:=il (l:=a) (i:=i+1) ⋯;have n:=ŵ i a;rw[v,y]at n;show n.symm
 obtain⟨pre,j,o,l,p,d,u,B⟩:∃pre j o l p d,a=pre++(j,o)::(l,p)::d/\i=pre.length:=⟨_,_,_,_,_,_,e,by rw[Ġ];lia⟩;subst u;show a5Q hC A h (λc g z G=>q _ g z ?_ ?_) B
 .simp;lia
 .rw[oP,oP,kG,kG,kG];simp;lia
def Fp{b:Type}f:∀l(x:b),(l++[x]).modify l.length f=l++[f x]
 |[],x=>rfl|a::l,x=>by change a::(l++[x]).modify l.length f=_;rw[Fp f l x];rfl
def a5F a c w:(pos 0 a).toArray.push ((bE a).length,c.length,w)=(pos 0<|a++[(c,w)]).toArray:=by rw[oQ,Ω];apply g8.mp;rw[Ϫ];rfl
def TzI(a:List dS)c w b:((pos 0<|a++[(c,w)]).toArray.modify ((pos 0<|a++[(c,w)]).toArray.size-1) λx=>(x.1,x.2.1,b))=(pos 0<|a++[(c,b)]).toArray:=by rw[oQ,oQ,Ω];apply g8.mp;have:=Fp (λx:Nat×Nat×Nat=>(x.1,x.2.1,b)) (pos 0 a) ((bE a).length,c.length,w);simp[pos];show this
def a7L a c w:(pos 0<|a++[(c,w)]).toArray.back?=b0 ((bE a).length,c.length,w):=by rw[oQ,Ω];simp[pos]
inductive Mk (κ:ϊ)(r:Keyed->Int)(L:List Keyed)(i:Nat):Option Unit×Nat->đ->Prop
 |mk {rs:List dS}{Ä:List Keyed}{mg:Nat}:Rn r L Ä rs->i<=(bE rs).length->Mk κ r L i (b5,(bE rs).length) (kH κ Ä rs mg)
inductive vg (κ:ϊ)(r:Keyed->Int)(L Ä:List Keyed)(p:List dS->Prop){α:Type}:Option Unit×α->đ->Prop
 |mk {rs:List dS}{mg:Nat}{n:α}:Rn r L Ä rs->p rs->vg κ r L Ä p (b5,n) (kH κ Ä rs mg)
def a7K{G P:Prop}(T:G)(f:G->P):P:=f T
def Fq{e a:List dS}{b h:List Keyed}{i d:Nat}(l:Rn r L (b++h) a)(n:(bE a).length=(bE e).length)(o:0<b.length)(v:Sr r b)(u:i<=(bE e).length):Mk κ r L (i+1) (b5,(bE e).length+b.length) (ą κ (bE a++(b++h)).toArray ((pos 0 a).toArray.push ((bE e).length,b.length,0)) d b5):=by
 have g:bE (a++[(b,0)])=bE a++b:=by rw[oP,kG];change _++(b++[])=_;rw[Ň]
 have j:(bE<|a++[(b,0)]).length=(bE e).length+b.length:=by rw[g,Z4,n]
 have:=@Mk.mk κ r L (i+1) (a++[(b,0)]) h d ⟨λp c=>?_,?_⟩<|j▸NZ u o
 .rw[j]at this;unfold kH at this;rw[<- a5F,g,n,ú]at this;show this
 .rcases ù.mp c with c|c
  .show l.ok p c
  .rw[ā.mp c];show⟨v,o⟩
 .rw[g,ú];show l.pm
def Fs:(KJ<|kH κ Ä a mg).size=a.length:=by change(pos 0 a).toArray.size=_;rw[Z5,mR]
def Ft:∀{a},(∀p∈a,Sr r p.1/\0<p.1.length)->a.length<=(bE a).length
 |[],_=>Z2 _|(c,w)::a,h=>by rw[kG,Z4,ć,Nat.add_comm];show NZ (h _<|Ś ..).2<|Ft λp b=>h p<|ň _ b
def a7J(b:Rn r L [] a)(d:a.length<=1):Sr r (bE a++[]):=by
 rw[Ň];match a,d,b with
 |[],_,_=>show Mv|[(c,w)],_,b=>have:=(b.ok (c,w)<|Ś ..).1;rw[kG];change Sr r (c++[]);rw[Ň];show this|_::_::_,d,_=>show absurd d<|by simp
def Az(h:Rn r L Ä a):(bE a).length+Ä.length=L.length:=by rw[<- Z4];show h.pm.length_eq
def Fu(h:Rn r L Ä a)(b:L.length<=(bE a).length):Ä=[]:=pC.mp<|by have:=Az h;lia
def a7I(hC:fV prog w A₀ κ s X (lr r))(hX:∀x∈L,X x)(hD:qe r L)(h2:2<=L.length)(q:∀R pd mg',Sr r R->R.Perm L->Q () (ą κ R.toArray pd mg' b5) s):á (Å prog w) A₀ E sortRuns' Q (ą κ L.toArray #[] mg b5) s:=by
 have hsz:(jl<|ą κ L.toArray #[] mg b5).size=L.length:=Z5;rw[sortRuns'_eq];show jK ?_;dsimp only;simp only[hsz];generalize minRun' L.length L.length 0=mr;show sO<|qK (Mk κ r L) (vg κ r L [] λ_=>True) 0 L.length (λi b st hi U=>?_) (λb st U=>?_) (λb st y=>?_) (L.length-0) 0 _ _ ⋯<|@Mk.mk κ r L 0 [] L mg ⟨λp G=>(by cases G),LA _⟩<|ŀ _
 .obtain @⟨g,Ä,H,d,B⟩:=U;have O:=Az d;dsimp only;show bS (λhlo=>?_) λhlo=>?_;rotate_left
  .obtain rfl:=Fu d hlo;show Ò ⟨rfl,.mk d trivial⟩
  have hXr:∀x∈Ä,X x:=λx hx=>hX x<|d.pm.mem_iff.mp<|ù.mpr<|.inr hx;have hDr:qe r Ä:=by have:qe r (bE g++Ä):=hD.perm d.pm.symm λh=>h.symm;show(Ϯ.mp this).2.1
  rw[show L.length-(bE g).length=Ä.length by lia];have h0:0<Ä.length:=by lia
  apply a7K;rotate_left
  .intro T;show Đ<|QL hC hXr hDr h0 λc t N h2 h3=>?_;dsimp only;have hct:=h3.length_eq;rw[Z4]at hct;show bS (λhmr=>?_) λhmr=>?_
   .revert N h2 h3;clear hct hmr;revert t c;show T
   show qI ?_;have ht:t=t.take (min Ä.length mr-c.length)++t.drop (min Ä.length mr-c.length):=(ŵ _ _).symm;have hD1:(t.take<|min Ä.length mr-c.length).length=min Ä.length mr-c.length:=by rw[Ġ];lia
   generalize t.take (min Ä.length mr-c.length)=D at ht hD1;generalize t.drop (min Ä.length mr-c.length)=t' at ht;subst ht;rw[<- ú c D t',show min Ä.length mr=c.length+D.length by lia];show Đ (a5X hC (λx hx=>hXr x<|h3.mem_iff.mp<|by rw[<- ú];show hx) h2 N λc' v A=>?_);have hc':=A.length_eq;rw[Z4]at hc';rw[<- hc',if_neg<|by decide];show T c' t' ⋯ v<|(A.append_right t').trans<|by rw[ú];show h3
  .intro M Z k1 k2 k3;show jK ?_;have hR':Rn r L (M++Z) g:=⟨d.ok,(k3.append_left _).trans d.pm⟩;rcases Pf g with z|⟨I,⟨cl,wl⟩,z⟩
   .have Y:(KJ<|ą κ (bE g++(M++Z)).toArray (pos 0 g).toArray H b5).back?=none:=by rw[z];rfl
    simp only[Y];show lK<|Ò ⟨rfl,Fq hR' rfl k1 k2 B⟩
   .rw[Pe]at z;have Y:(KJ<|ą κ (bE g++(M++Z)).toArray (pos 0 g).toArray H b5).back?=b0 ((bE I).length,cl.length,wl):=by rw[z];show a7L I cl wl
    simp only[Y];generalize power' L.length (2*(bE I).length+cl.length) (2*(bE I).length+cl.length+cl.length+M.length) L.length=pw;show sO<|qK (λ_=>vg κ r L (M++Z) λa=>a≠[]/\(bE a).length=(bE g).length) (vg κ r L (M++Z) λa=>a≠[]/\(bE a).length=(bE g).length) 0 L.length (λj b st hj hJ=>?_) (λb st hJ=>hJ) (λb st y=>?_) (L.length-0) 0 _ _ ⋯<|.mk hR' ⟨by rw[z];simp,rfl⟩
    .obtain @⟨a,l,_,v,A⟩:=hJ;show jK ?_;rw[Fs];by_cases N:a.length>1;rotate_left
     .rw[if_neg N];show Ò ⟨rfl,.mk v A⟩
     rw[if_pos N];obtain⟨⟨o1,o2,o3⟩,ho⟩:∃o,(KJ<|kH κ (M++Z) a l)[a.length-2]?=b0 o:=by change ∃o,(pos 0 a).toArray[a.length-2]?=b0 o;rw[ϰ];show⟨_,ZY<|by rw[mR];lia⟩
     rw[ho];dsimp only;show bS (λG=>?_) λG=>Ò ⟨rfl,.mk v A⟩;show Đ (Fo hC hX v ⋯ λrs2 mg3 a1 a2 a3=>?_);rw[if_neg<|by decide];show Ò ⟨rfl,.mk a1 ⟨λe=>by rw[e]at a2;simp at a2;lia,a3.trans A.2⟩⟩
    .obtain @⟨a,l,_,v,A,g3⟩:=y;dsimp only;show lK ?_;rcases Pf a with u|⟨K,⟨cm,wm⟩,u⟩
     .show absurd u A
     rw[Pe]at u;subst u;have f1:bE (K++[(cm,wm)])=bE (K++[(cm,pw)]):=by rw[oP,oP];rfl
     show lK<|Ò ⟨rfl,?_⟩;have:=@Fq κ r L g (K++[(cm,pw)]) M Z i l ⟨λp G=>?_,by rw[<- f1];show v.pm⟩ (by rw[<- f1];show g3) k1 k2 B
     .rw[<- TzI K cm wm pw,<- f1]at this;show this
     .rcases ù.mp G with G|G
      .show v.ok p<|by simp[G]
      .rw[ā.mp G];show v.ok (cm,wm)<|by simp
 .obtain @⟨g,Ä,H,d,B⟩:=U;obtain rfl:=Fu d B;show .mk d trivial
 .obtain @⟨g,H,n,d,-⟩:=y;dsimp only;have hfl:=Ft d.ok;have O:=Az d;show sO<|qK (λi=>vg κ r L [] λg=>g.length+i<=L.length) (vg κ r L [] λg=>g.length<=1) 0 L.length (λi b st hi U=>?_) (λb st U=>?_) (λb st y=>?_) (L.length-0) 0 _ _ ⋯<|.mk d<|O▸hfl
  .obtain @⟨g,l,_,d,Y⟩:=U;show jK ?_;rw[Fs];show bS (λN=>?_) λN=>?_
   .show Đ<|Fo hC hX d ?_ λa mg' v A g3=>?_
    .split<;>(try split)<;>lia
    .rw[if_neg<|by decide];show Ò ⟨rfl,.mk v<|by lia⟩
   .show Ò ⟨rfl,.mk d N⟩
  .obtain @⟨g,l,_,d,Y⟩:=U;show .mk d<|by lia
  .obtain @⟨g,l,_,d,Y⟩:=y;show Ò<|q (bE g++[]) (pos 0 g).toArray l (a7J d Y) d.pm
end
def a7D{rk:Value->Int}(N:us.Pairwise λx y=>rk x≠rk y)(h1:2<=us.length)(h2:us.length<=Z7)(g:s.heap.get? c=b0 (ċ "list" us.toArray z))(H:∀n,(∀b o,b≠c->s.heap.get? b=b0 o->n.get? b=b0 o)->Am prog w A us (λx y=>decide<|rk x<rk y) {s with heap:=n})(q:∀a:gw,a.Perm us->a.Pairwise (λx y=>rk x<=rk y)->R (.done<|.ret .none) {s with heap:=xu s.heap c us a.toArray}):
  Ç (Å prog w) A (Builtin.«list.sort» ⟨[.ref c],[]⟩) R E s:=by
 rw[NH]
 have lt:c<s.heap.objs.size:=Z8 g
 show ZU<|listItems_at g rfl<|ZU<|KZ g rfl ?_ (by rw[Z5];lia)<|ŀ _
 obtain⟨y,Q⟩:∃y,(s.heap.update c<|a1i λ_=>#[]).get? c=b0 (ċ "list" #[] y):=⟨_,NF g _⟩
 show ZU<|KO Q rfl<|ZU<|M7 (ZU<|Kb (Ķ ?_)<|ŀ _)<|by change us.length<=_;lia
 have U:(((s.heap.update c<|a1i λ_=>#[]).push<|ċ "tuple" us.toArray 0).push<|ċ "list" #[] 0).get? c=b0 (ċ "list" #[] y):=
  Z1 _<|Z1 _ Q
 have B:=H (((s.heap.update c<|a1i λ_=>#[]).push<|ċ "tuple" us.toArray 0).push<|ċ "list" #[] 0) λb o hb e=>Z1 _<|Z1 _<|(Μ _ _<|ó hb).trans e
 change Ç (Å prog w) A _ R E ⟨((s.heap.update c<|a1i λ_=>#[]).push<|ċ "tuple" us.toArray 0).push<|ċ "list" #[] 0,s.gens,s.drawn,s.toks,s.os⟩
 dsimp only
 have i:¬ us.toArray.size<2:=by rw[Z5];lia
 rw[if_neg i,if_neg i]
 show ZU<|Ĭ B (λκ O I=>?_) λ_ _ x=>x.elim
 obtain⟨rfl,I⟩:=I
 have Z:us.toArray.zip us.toArray=(us.map λu=>(u,u)).toArray:=by
  apply g8.mp
  rw[F2I,ϭ]
 have run:=a7I (prog:=prog) (w:=w) (A₀:=A) (E:=E) (κ:=κ) (X:=λp=>∃u∈us,p=(u,u)) (r:=λp=>rk p.1)
  (s:={s with heap:=((s.heap.update c<|a1i λ_=>#[]).push<|ċ "tuple" us.toArray 0).push<|ċ "list" #[] 0}) (L:=us.map λu=>(u,u)) (mg:=7)
  (λx y C l M hc=>by
   obtain⟨u,L,rfl⟩:=l
   obtain⟨v,hv,rfl⟩:=M
   show I u v C L hv hc) (λx l=>by
   obtain⟨u,L,rfl⟩:=Õ.mp l
   show⟨u,L,rfl⟩) (by unfold qe;rw[Ϗ];show N) (by rw[ZT];show h1)
  (Q:=λ_ j O=>O={s with heap:=((s.heap.update c<|a1i λ_=>#[]).push<|ċ "tuple" us.toArray 0).push<|ċ "list" #[] 0}/\failedOf j=b5/\∃a:gw,(jl j).map (·.2)=a.toArray/\a.Perm us/\a.Pairwise λx y=>rk x<=rk y) λT pd mg' n G=>⟨rfl,rfl,T.map (·.2),by
   change T.toArray.map (·.2)=_
   rw[List.map_toArray],by
   have:=G.map (·.2)
   rw[Û]at this
   show this.trans<|by rw[show((λp:Keyed=>p.2)∘λu:Value=>(u,u))=id from rfl,Ni],by
   rw[Ϗ]
   show zx (R:=λx y:Keyed=>rk x.1<=rk y.1) (λ{x y} l M h=>?_) n
   obtain⟨u,_,rfl⟩:=Õ.mp<|G.mem_iff.mp l
   obtain⟨v,_,rfl⟩:=Õ.mp<|G.mem_iff.mp M
   show h⟩
 rw[Z]
 show ZU<|Ĭ run (λr O hr=>?_) λ_ _ e=>e
 obtain⟨⟨⟩,j⟩:=r
 obtain⟨rfl,X,a,d,Y,K⟩:=hr
 dsimp only at X d ⊢
 rw[d]
 have hol:=Y.length_eq
 show ZU<|KO U rfl<|ZU<|KZ U rfl ?_ (hsz2:=by rw[Z5];lia)
 rw[X]
 simp only[bne_self_eq_false,Į,if_false]
 show Z3<|q a Y K
section
variable{α:Type}{lt:α->α->Bool}
structure ĩ(lt:α->α->Bool):Prop where
 ir:∀x,lt x x=dI
 tr:∀x y z,lt x y=eA->lt y z=eA->lt x z=eA
 to:∀x y,lt x y=dI->lt y x=dI->x=y
abbrev fW(lt:α->α->Bool)(l:List α)(x:α):Int:=(l.countP λy=>lt y x:Nat)
def Fv(h:ĩ lt)(b:x∈l):lt x y=eA->fW lt l x<fW lt l y:=λe=>by
 unfold fW;have:∀l:List α,l.countP (λz=>lt z x)<=l.countP (λz=>lt z y):=λl=>List.countP_mono_left λz _ d=>h.tr z x y d e;have i:l.countP (λz=>lt z x)<l.countP (λz=>lt z y):=by
  induction l with
  |nil=>cases b|cons a l g=>
   rw[O1,O1];rcases Ě.mp b with rfl|b
   .rw[h.ir,e,if_neg Z6,if_pos rfl];have:=this l;lia
   .have:=g b;by_cases c:lt a x=eA
    .rw[if_pos c,if_pos<|h.tr _ _ _ c e];lia
    .rw[if_neg c];split<;>lia
 lia
def v9(h:ĩ lt)(b:x∈l)(c:y∈l):lt x y=decide (fW lt l x<fW lt l y):=by
 cases e:lt x y with
 |true=>rw[decide_eq_true<|Fv h b e]|false=>
  symm;rw[decide_eq_false_iff_not];cases a:lt y x with
  |true=>have:=Fv h c a;lia|false=>rw[h.to x y e a];lia
def Fw(h:ĩ lt)(c:x∈l)(d:y∈l)(g:x≠y):fW lt l x≠fW lt l y:=λe=>by have a:=v9 h c d;have b:=v9 h d c;rw[e,decide_eq_false<|by lia]at a;rw[e,decide_eq_false<|by lia]at b;show g<|h.to x y a b
end
end L3
namespace L3
open PySem L2
open PyProof.Rows (IntsAre Fr News seqObj)
def Fx:∀a,HT.lexLt a a=dI
 |[]=>rfl|x::a=>by rw[HT.lexLt_cons,if_pos rfl];show Fx a
def Fy:∀{a b},a≠b->HT.lexLt a b=!HT.lexLt b a
 |[],[],h=>absurd rfl h|[],_::_,_=>rfl|_::_,[],_=>rfl|x::a,y::b,h=>by
  rw[HT.lexLt_cons,HT.lexLt_cons];by_cases e:x=y
  .subst e;rw[if_pos rfl,if_pos rfl];show Fy λz=>h<|by rw[z]
  .rw[if_neg e,if_neg<|ó e];rcases Int.lt_or_gt_of_ne e with z|z
   .rw[decide_eq_true z,decide_eq_false<|by lia];rfl
   .rw[decide_eq_false<|by lia,decide_eq_true z];rfl
def Fz:∀{a b c},HT.lexLt a b=eA->HT.lexLt b c=eA->HT.lexLt a c=eA
 |_,[],[],_,h=>absurd h (by intro z;cases z)|_,_::_,[],_,h=>absurd h (by intro z;cases z)|[],_,_::_,_,_=>rfl|_::_,[],_::_,h,_=>absurd h (by intro z;cases z)|x::a,y::b,z::c,h1,h2=>by
  rw[HT.lexLt_cons]at h1 h2 ⊢;by_cases e:x=y
  .subst e;rw[if_pos rfl]at h1;by_cases d:x=z
   .subst d;rw[if_pos rfl]at h2 ⊢;show Fz h1 h2
   .rw[if_neg d]at h2 ⊢;show h2
  .rw[if_neg e]at h1;by_cases d:y=z
   .subst d;rw[if_neg e];show h1
   .rw[if_neg d]at h2;rw[decide_eq_true_eq]at h1 h2;rw[if_neg<|by lia,decide_eq_true_eq];lia
end L3
namespace L3
open PySem
open PySem.W (KasT kas_asc kas_desc kas_tail3 kas_descPart kas_count kas_place kas_bin kas_sort kas_rev)
open PyProof.Rows (mirror bubble getElem?_bubble getElem?_mirror_all mirror_size bubble_size)
section
variable{α:Type}{lt:α->α->Bool}(irr:∀a,lt a a=dI)(tr:∀a b c,lt a b=eA->lt b c=eA->lt a c=eA)(nt:∀a b c,lt a b=eA->lt a c=eA\/lt c b=eA)
include irr tr nt in
def FA(d:α)(xs:List α){n:Nat}(_:1<=n):(cI (λi j=>lt (xs.getD i d)<|xs.getD j d) n).Pairwise λi j=>lt (xs.getD j d) (xs.getD i d)=false:=by
 have h:=List.pairwise_mergeSort (le:=λi j=>!(lt (xs.getD j d)<|xs.getD i d)) (λa b c g l=>by
  rw[yt]at g l ⊢;cases e:lt (xs.getD c d) (xs.getD a d)with
  |false=>rfl|true=>
   rcases nt _ _ (xs.getD b d) e with z|z
   .rw[z]at l;cases l
   .rw[z]at g;cases g) (λa b=>by
  cases e:lt (xs.getD b d) (xs.getD a d)with
  |false=>rfl|true=>
   cases o:lt (xs.getD a d) (xs.getD b d)with
   |false=>rfl
   |true=>have:=tr _ _ _ e o;rw[irr]at this;cases this)<|ă n
 show h.imp λh=>by simpa using h
end
end L3
namespace L3
open PySem L2 PySem.W PyProof.Rows
def ã:ĩ HT.lexLt:=⟨Fx,λ_ _ _=>Fz,λa b h1 c=>LS λd=>by
 have:=Fy d;rw[h1,c]at this;cases this⟩
end L3
namespace L3
open PySem L2
abbrev gG(f g:D->D->Hm->jk)(a b c:ME):ME:=λd e=>(a d e).bind λp=>(b d p.2).bind λq=>(f p.1 q.1 q.2).bind λr=>match r.1 with
 |.bl eA=>(c d r.2).bind λt=>g q.1 t.1 t.2|.bl dI=>b0 (.bl dI,r.2)|_=>b5
def FC(hf:cZ K f r)(hg:cZ K g N):∀σ H Q,tM K (gG f g ma mb mc) σ H Q->yX r N (tM K ma) (tM K mb) (tM K mc) σ H Q:=by
 rintro σ H Q ⟨π,B,μ,d,u,R,E,e,k⟩;obtain⟨⟨x,h⟩,h1,e⟩:=ZS.mp e;obtain⟨⟨y,i⟩,h2,e⟩:=ZS.mp e;obtain⟨⟨z,j⟩,h3,e⟩:=ZS.mp e;show⟨π,B,μ,x,h,R,E,h1,λv v1 H1 o Z i1=>⟨v,B,h,y,i,Z,E.mono o,h2,λw O T p R2 M=>?_⟩⟩;show hf w T i x y z j v1 O _ R2 (i1.mono p) M h3 λn v3 U s G i3=>?_;cases z with
 |bl I=>
  cases i3;show⟨I,rfl,?_⟩;cases I with
  |true=>show mI ?_;obtain⟨⟨t,l⟩,h4,e⟩:=ZS.mp e;show⟨n,B,j,t,l,G,((E.mono o).mono p).mono s,h4,λA v4 Y L R4 i4=>hg A Y l y t d u O v4 Q R4 ((M.mono s).mono L) i4 e<|k.after<|((o.trans p).trans s).trans L⟩|false=>show mH ?_;cases e;show k n _ U ((o.trans p).trans s) G<|.bl dI
 |_=>cases e
abbrev gH:rm->Option (Int->Int->Bool)
 |.Lt=>b0 λi j=>decide (i<j)|.LtE=>b0 λi j=>decide (i<=j)|.Gt=>b0 λi j=>decide (j<i)|.GtE=>b0 λi j=>decide (j<=i)|_=>b5
def qQ(h:gH op=b0 p):ÿ X (Ĥ op) (gX λi j=>.bl<|p i j)/\(op=.Lt\/op=.LtE\/op=.Gt\/op=.GtE):=by cases op<;>first|(cases h;first|show⟨yT,by simp⟩|show⟨yU,by simp⟩|show⟨yV,by simp⟩|show⟨yW,by simp⟩)|cases h
def FD(h':d=.Lt\/d=.LtE\/d=.Gt\/d=.GtE):Lh [op,d] [b,c]=false:=by change dw d c=dI;rcases h' with rfl|rfl|rfl|rfl<;>show dZ _
def a7C{pos:ß}(h:gH op=b0 p)(h':gH d=b0 q)(e:QE X a ma)(g:QE X b mb)(hc:QE X c mc):QE X (.Compare a [op,d] [b,c] pos) (gG (fS p) (fS q) ma mb mc):=
 ⟨cU (a5E (qQ h).1 (qQ h').1 e.h g.h hc.h<|FD (qQ (X:=X) h').2)<|FC iQ iQ⟩
def a6y{pos:ß}(h:gH op=b0 p)(h':gH d=b0 q)(g:QE X a ma)(i:QE X b mb)(hc:QE X c mc):QT X (.Compare a [op,d] [b,c] pos) (aR<|gG (fS p) (fS q) ma mb mc):=
 ⟨u7 (a5D (qQ h).1 (qQ h').1 g.h i.h hc.h<|FD (qQ (X:=X) h').2) λe H Q h=>FC iQ iQ e H _<|DV e H Q h⟩
abbrev wA(d:Bool):D->D->Hm->jk
 |.bl b,.bl c,μ=>b0 (.bl<|if d then !(b==c)else b==c,μ)|.int _,.bl _,μ=>b0 (.bl d,μ)|_,_,_=>b5
abbrev fA(d:Bool):D->D->Hm->jk:=λx y e=>match y with
 |.bl _=>wA d x y e|_=>j8 d x y e
abbrev AA(d:Bool):R2:=λx y H Q=>∃c,y=.bl c/\((∃b,x=.bl b/\Q (.bl<|if d then !(b==c)else b==c) H)\/((∃i,x=.int i)/\Q (.bl d) H))
def wB:cZ K (wA g) (AA g):=by
 intro j H p x y d l n o Q R h i e k;unfold wA at e;split at e
 .cases e;cases h;cases i;show⟨_,rfl,.inl ⟨_,rfl,k j _ H .refl R<|.bl _⟩⟩
 .cases e;cases h;cases i;show⟨_,rfl,.inr ⟨⟨_,rfl⟩,k j _ H .refl R<|.bl _⟩⟩
 .cases e
def FE:ÿ X (Ĥ .Is) (AA dI):=by
 intro e s j H x y v u Q I d g h;obtain⟨c,rfl,h⟩:=h;cases g;rcases h with⟨b,rfl,q⟩|⟨⟨i,rfl⟩,q⟩
 .cases d;show Z3<|nZ I q<|by cases b<;>cases c<;>rfl
 .obtain⟨t,rfl⟩:=d;show Z3<|nZ I q rfl
def FF:ÿ X (Ĥ .IsNot) (AA eA):=by
 intro e s j H x y v u Q I d g h;obtain⟨c,rfl,h⟩:=h;cases g;rcases h with⟨b,rfl,q⟩|⟨⟨i,rfl⟩,q⟩
 .cases d;show Z3<|nZ I q<|by cases b<;>cases c<;>rfl
 .obtain⟨t,rfl⟩:=d;show Z3<|nZ I q rfl
def wC x y e r(h:fA d x y e=b0 r):wA d x y e=b0 r\/j8 d x y e=b0 r:=by
 unfold fA at h;split at h
 .show .inl h
 .show .inr h
def a6o{pos:ß}(d:QE X a ma)(e:QE X b mb):QE X (.Compare a [.Is] [b] pos) (aC (fA dI) ma mb):=mO ⟨fP FE wB d.h e.h<|dZ _⟩ (a9F d e)<|gP wC
def a6e{pos:ß}(d:QE X a ma)(e:QE X b mb):QE X (.Compare a [.IsNot] [b] pos) (aC (fA eA) ma mb):=mO ⟨fP FF wB d.h e.h<|dZ _⟩ (a9E d e)<|gP wC
def a6c{pos:ß}(d:QE X a ma)(e:QE X b mb):QT X (.Compare a [.Is] [b] pos) (aR<|aC (fA dI) ma mb):=qD ⟨fQ FE wB d.h e.h<|dZ _⟩ (a9D d e)<|qE<|gP wC
def Ra{pos:ß}(d:QE X a ma)(e:QE X b mb):QT X (.Compare a [.IsNot] [b] pos) (aR<|aC (fA eA) ma mb):=qD ⟨fQ FF wB d.h e.h<|dZ _⟩ (a9C d e)<|qE<|gP wC
abbrev jL:MF:=λds a=>match ds with
 |[x]=>(bL a x).bind λc=>(qF c).map λb=>(.int b.sum,a)|_=>b5
abbrev FG(K:ZV):gz->Hp->VK->Prop:=λxs H Q=>∃(p:Addr)(a:List Int),xs=[.ref p]/\(ê K H p (a.map V.int)\/Ó K H p (a.map V.int))/\Q (.int a.sum) H
def Rb:d8 K jL (FG K):=by
 intro h H r n d g j Q R i a k;unfold jL at a;split at a
 .obtain⟨o,b,a⟩:=ZS.mp a;obtain⟨e,c,a⟩:=ZX.mp a;cases a;cases i with
  |cons i t=>cases t;obtain⟨p,l,rfl,q,hd⟩:=qB R i b;rw[Ao c]at hd;have:=Ċ hd;subst this;show⟨p,e,rfl,q,k h _ H .refl R<|.int _⟩
 .cases a
def FH(a:List Int):∀n,n<=a.length->preSum (λi=>a.getD i 0) n=(a.take n).sum
 |0,_=>rfl|n+1,h=>by
  have b:=FH a n ⋯;have e:a.take (n+1)=a.take n++[a[n]]:=by rw[di,ZY<|by lia];rfl
  change preSum (λi=>a.getD i 0) n+a.getD n 0=_;rw[b,e,List.sum_append];simp[Ğ,ZY<|show n<a.length by lia]
def FI{σ:St}(I:Inv X Dn σ H s)(m:Moved n (λa b=>b=a) d c)(p:∀b o,s.heap.get? b=b0 o->d.heap.get? b=b0 o)(hw:∀b∈n,s.heap.objs.size<=b)(g:d.gens=s.gens/\d.drawn=s.drawn/\d.os=s.os):Inv X Dn σ H c:=by have l:∀b o,s.heap.get? b=b0 o->c.heap.get? b=b0 o:=λb o e=>m.heap b o (λz=>absurd (ĭ (Z8 e)<|hw b z)<|Ų _)<|p b o e;have h:c.gens=s.gens:=m.gens.trans g.1;have i:c.drawn=s.drawn:=m.drawn.trans g.2.1;have j:c.os=s.os:=m.os.trans g.2.2;obtain⟨w,v,u,r,x⟩:=c;dsimp only at h i j l;subst h i j;show I.kept (t':=r) l
def FJ{a:List Int}(r:Á (a.map V.int) its){i:Nat}(h:its.toArray[i]?=b0 v):∃t,v=.int (a.getD i 0) t:=by
 have b:its[i]?=b0 v:=by simpa using h
 have d:i<a.length:=by have:=(ZW.mp b).1;have:=r.length;rw[ZT]at this;lia
 obtain⟨u,c,e⟩:=r.get (i:=i) (x:=.int a[i]) (by rw[þ,ZY d];rfl);rw[b]at c;cases c;obtain⟨t,rfl⟩:=e;show⟨t,by simp[Ğ,d]⟩
def Rf(hc:X.calm=eA):Î X (.builtin "sum") (FG X.K):=by
 intro E s O H N M Q I r h;obtain⟨p,d,rfl,x,q⟩:=h;obtain⟨u,rfl,K⟩:=fM r;cases K;have B:X.A.in1.handled=none:=I.ok.hd hc;have fin:∀a:gw,Á (d.map V.int) a->preSum (λi=>d.getD i 0) a.toArray.size=d.sum:=λa n=>by
  have w:a.toArray.size=d.length:=by rw[Z5,<- n.length,ZT]
  rw[w,FH d _<|Z2 _,š]
 rcases x with x|x
 .obtain⟨a,n,g,G⟩:=I.list x;show NT<|L9 g.isList ?_;have j:p≠s.heap.objs.size:=by obtain⟨o,l,_⟩:=g.isList;show ð<|Z8 l
  show⟨s.heap.objs.size,_,_,_,_,_,_,λi=>d.getD i 0,rfl,(Nm B _ p j a.toArray).toS,⟨⟨_,Ă _ rfl,rfl,rfl⟩,g.isList.push _⟩,?_,λi v z=>FJ n z,λL A m=>?_⟩
  .intro b c;change b<(s.heap.push _).objs.size;rw[WP];obtain⟨o,l,_⟩:=g.isList;have y:=Z8 l;simp only[Ě,fu,or_false]at c;rcases c with rfl|rfl
   .show ϛ _
   .show LC y
  .show⟨.int d.sum,H,FI I m (λb o e=>Z1 _ e) (λb c=>?_) ⟨rfl,rfl,rfl⟩,⟨A,?_⟩,q⟩
   .have e:b=s.heap.objs.size:=by simpa using c
    show ym e.symm
   .rw[fin a n]
 .obtain⟨a,n,g,G⟩:=I.tuple x;show NT<|uw (show s.heap.IsTuple p a.toArray from g) ?_;have j:p≠s.heap.objs.size:=by obtain⟨o,l,_⟩:=g;show ð<|Z8 l
  show⟨s.heap.objs.size,_,_,_,_,_,_,λi=>d.getD i 0,rfl,(KW B _ p j a.toArray).toS,⟨⟨_,Ă _ rfl,rfl,rfl⟩,Q7 g _⟩,?_,λi v z=>FJ n z,λL A m=>?_⟩
  .intro b c;change b<(s.heap.push _).objs.size;rw[WP];obtain⟨o,l,_⟩:=g;have y:=Z8 l;simp only[Ě,fu,or_false]at c;rcases c with rfl|rfl
   .show ϛ _
   .show LC y
  .show⟨.int d.sum,H,FI I m (λb o e=>Z1 _ e) (λb c=>?_) ⟨rfl,rfl,rfl⟩,⟨A,?_⟩,q⟩
   .have e:b=s.heap.objs.size:=by simpa using c
    show ym e.symm
   .rw[fin a n]
abbrev AB:MF:=λds a=>match ds with
 |[.int i,.int j]=>b0 (.int<|if j<i then j else i,a)|_=>b5
abbrev AD:MF:=λds a=>match ds with
 |[.int i,.int j]=>b0 (.int<|if j>i then j else i,a)|_=>b5
def Rg:d8 K AB (λxs H Q=>∃i j,xs=[.int i,.int j]/\Q (.int<|if j<i then j else i) H):=by
 intro g H l xs d e h Q R i a k;unfold AB at a;split at a
 .cases a;cases i with
  |cons i t=>
   cases i;cases t with
   |cons b c=>cases b;cases c;show⟨_,_,rfl,k g _ H .refl R<|.int _⟩
 .cases a
def Rh:d8 K AD (λxs H Q=>∃i j,xs=[.int i,.int j]/\Q (.int<|if j>i then j else i) H):=by
 intro g H l xs d e h Q R i a k;unfold AD at a;split at a
 .cases a;cases i with
  |cons i t=>
   cases i;cases t with
   |cons b c=>cases b;cases c;show⟨_,_,rfl,k g _ H .refl R<|.int _⟩
 .cases a
abbrev eM{b:Type}(xs:List b)(lo a st:Option Int):List b:=(Le (Ϩ lo a st xs.length).1 (Ϩ lo a st xs.length).2.1 (Ϩ lo a st xs.length).2.2).filterMap (xs[·]?)
abbrev mS(a:ME)(lo d st:MO):ME:=λb e=>(a b e).bind λp=>(lo b p.2).bind λq=>(d b q.2).bind λr=>(st b r.2).bind λt=>if t.1≠b0 0 then(e8 t.2 p.1).bind λc=>if(eM c q.1 r.1 t.1).length<=Z7 then b0 (.loc t.2.length,t.2++[.lst<|eM c q.1 r.1 t.1])else b5 else b5
def Ri(h:Ã K π n H vs ds)lo a st:Ã K π n H (eM vs lo a st) (eM ds lo a st):=by
 unfold eM;rw[h.length];generalize Le _ _ _=l;induction l with
 |nil=>show .nil|cons i l b=>
  rw[pD,pD];cases a:ds[i]? with
  |none=>
   have:vs[i]?=none:=by rw[Ξ]at a ⊢;rw[h.length];show a
   rw[this];show b
  |some d=>obtain⟨v,c,e⟩:=h.get a;rw[c];show .cons e b
def Rj(r:Á vs its)lo a st:Á (eM vs lo a st) (eM its lo a st):=by
 unfold eM;rw[r.length];generalize Le _ _ _=l;induction l with
 |nil=>show .nil|cons i l b=>
  rw[pD,pD];cases a:vs[i]? with
  |none=>
   have:its[i]?=none:=by rw[Ξ]at a ⊢;rw[<- r.length];show a
   rw[this];show b
  |some v=>obtain⟨u,c,d⟩:=r.get a;rw[c];show .cons d b
abbrev Rk(K:ZV)(te:TE)(tl th tt:TO):TE:=λσ H Q=>te σ H λx c=>tl σ c λl d=>th σ d λu g=>tt σ g λt b=>t≠b0 0/\∃a xs,x=.ref a/\ê K b a xs/\(eM xs l u t).length<=Z7/\∀p,b p=b5->Q (.ref p) (upd b p<|.lst<|eM xs l u t)
open PyProof.Rows in
def Rl{X:Cx}{e:Expr}{te:TE}{lo hi:Option Expr}{st:Expr}{tl th tt:TO}{pos p2:ß}(R:PE X e te)(T:PO X lo tl)(Y:PO X hi th)(U:PO X (b0 st) tt):PE X (.Subscript e (.Slice lo hi (b0 st) p2) pos) (Rk X.K te tl th tt):=by
 intro c s i H Q I h;show KR<|aP (R c s i H _ I h) λv s1 ⟨x,A,K,r1,q1⟩=>?_;show wpAny_Slice<|aP (T c s1 i A _ K q1) λw s2 ⟨l,B,L,pl,q2⟩=>aP (Y c s2 i B _ L q2) λz s3 ⟨u,E,M,pu,q3⟩=>aP (U c s3 i E _ M q3) λy d ⟨t,G,N,pt,q4⟩=>?_;obtain⟨O,a,xs,rfl,Z,hz,q⟩:=q4;cases r1;have o:Inv X c i G {d with heap:=d.heap.push {cls:=.type "slice",data:=.fields #[w,z,y]}}:=N.kept (t':=d.toks) λb ob q=>Z1 _ q;obtain⟨n,r,j,hz'⟩:=o.list Z;have p:=r.length;change Ç (Å X.prog X.w) X.A (Ka e (.Slice lo hi (b0 st) p2) (.ref a)<|.ref d.heap.objs.size) (EP X c i Q) X.xe {d with heap:=d.heap.push {cls:=.type "slice",data:=.fields #[w,z,y]}};show La (ops:=[.ref a,.ref d.heap.objs.size]) j.isList.typeIs MR.lookup ?_ (by with_unfolding_all rfl);show Oj j.isList (Q5 ..) pl pu pt O ?_ (by rw[Z5]<;>lia);have g:KL n.toArray l u t=(eM n l u t).toArray:=by unfold KL eM;simp
 rw[g];show⟨.ref _,_,o.laid (t':=d.toks) (o:=.lst (eM xs l u t)) (λb ob q=>Z1 _ q) (Z2 _) ?_,rfl,q _<|o.hok.fresh<|Z2 _⟩;show⟨hz,_,0,Rj r l u t,Ă _ rfl⟩
def Rm{pos:ß}(he:QE X e A)(hl:QO X lo G)(hu:QO X hi B)(ht:QO X (b0 st) I):QE X (.Subscript e (.Slice lo hi (b0 st) p2) pos) (mS A G B I):=⟨cU (Rl he.h hl.h hu.h ht.h)<|by
 rintro σ H Q ⟨π,n,μ,d,μ',R,E,a,k⟩;obtain⟨⟨x,c⟩,U,a⟩:=ZS.mp a;obtain⟨⟨l,g⟩,Y,a⟩:=ZS.mp a;obtain⟨⟨u,h⟩,Z,a⟩:=ZS.mp a;obtain⟨⟨t,r⟩,h4,a⟩:=ZS.mp a;show⟨π,n,μ,x,c,R,E,U,λs v1 H1 i L i1=>⟨s,n,c,l,g,L,E.mono i,Y,λv H2 j R2=>⟨v,n,g,u,h,R2,(E.mono i).mono j,Z,λw H3 o M=>⟨w,n,h,t,r,M,((E.mono i).mono j).mono o,h4,λπ4 H4 z y=>?_⟩⟩⟩⟩;split at a
 .rename_i T;obtain⟨xs,h5,a⟩:=ZS.mp a;split at a
  .rename_i hz;cases a;obtain⟨p,K,rfl,q,hd⟩:=qJ y (((i1.mono j).mono o).mono z) h5;have b:=Ri hd l u t;show⟨T,p,K,rfl,q,by rw[b.length];show hz,λp' hp=>?_⟩;obtain⟨O,N,_⟩:=y.alloc (c:=.lst (eM xs l u t)) (o:=.lst (eM K l u t)) hp b;show k _ _ _ ((((i.trans j).trans o).trans z).trans O) N jY
  .cases a
 .cases a⟩
def AE{σ:St}{ch:List Addr}{a:Addr}(I:Inv X Dn σ H s)(k:∀b u,b∉ch->s.heap.get? b=b0 u->h'.get? b=b0 u)(i:∀b∈ch,gW X Dn H b)(j:s.heap.objs.size<=a)(new:Ì X.prog X.w (upd H a o) h' a o):Inv X Dn σ (upd H a o) {s with heap:=h',toks:=t'}:=by
 have d:=I.hok.fresh j;have g:∀b u,H b=b0 u->b∉ch:=λb u e z=>by have:=(i b z).1;rw[e]at this;cases this
 show I.step (g':=s.gens) (d':=s.drawn) (ch:=ch) (λb h=>let⟨L,x,M,y,A,B⟩:=i b h;⟨y,x,A,B⟩) (λb o _ _ hc e _=>k b o hc e) (λb o _ _ hc e _=>⟨o.slots,k b o hc e⟩) (λb K hc e n=>?_)
  (λb o hc e=>⟨o,k b o hc e⟩) (λb l q=>?_) (λb K l q=>?_) (λb N q=>?_) (λm E=>?_) (λb u e=>?_) I.bare
 .rw[bC<|ð<|ĭ (Z8 e) j];show n
 .rw[bC<|iH q d];show q
 .rw[bC<|iH q d];show q
 .show⟨#[],by rw[bC<|iH q d,q];simp⟩
 .obtain⟨o,w,p,G,r⟩:=E;show⟨o,w,p,k _ o (λz=>(i _ z).2.1 rfl) G,r⟩
 .by_cases h:b=a
  .subst h;rw[cQ]at e;cases e;show new
  .rw[bC h]at e;show(I.hok b u e).stay (λc v hc q=>k c v ?_ q) (λc q=>by rw[bC<|iH q d];show q) λc l q=>by rw[bC<|iH q d];show q
   rcases hc with z|z
   .rw[z];show g b u e
   .show g c _ z
def FK{σ:St}{ch:List Addr}(I:Inv X Dn σ H s)(k:∀b u,b∉ch->s.heap.get? b=b0 u->h'.get? b=b0 u)(d:∀b∈ch,gW X Dn H b):Inv X Dn σ H {s with heap:=h',toks:=t'}:=by
 have a:∀b u,H b=b0 u->b∉ch:=λb u e z=>by have:=(d b z).1;rw[e]at this;cases this
 show I.step (g':=s.gens) (d':=s.drawn) (ch:=ch) (λb x=>let⟨E,j,G,l,p,w⟩:=d b x;⟨l,j,p,w⟩) (λb o _ _ hc e _=>k b o hc e) (λb o _ _ hc e _=>⟨o.slots,k b o hc e⟩) (λb B hc e n=>n)
  (λb o hc e=>⟨o,k b o hc e⟩) (λb g q=>q) (λb B g q=>q) (λb K q=>⟨#[],by rw[q];simp⟩) (λm y=>?_) (λb u e=>?_) I.bare
 .obtain⟨o,i,h,A,r⟩:=y;show⟨o,i,h,k _ o (λz=>(d _ z).2.1 rfl) A,r⟩
 .show(I.hok b u e).stay (λc v hc q=>k c v ?_ q) (λc q=>q) λc g q=>q;rcases hc with z|z
  .rw[z];show a b u e
  .show a c _ z
abbrev AF(K:ZV)(a:Addr):It:=
 ⟨λi H=>∃b x,ê K H a b/\b[i]?=b0 x,λi H x c=>∃p v,x=.ref p/\H p=b5/\c=upd H p (.tup [.int i,v])/\∀b,ê K H a b->b[i]?=b0 v,λi H=>∃b,ê K H a b/\b.length<=i⟩
def Ro a e l(y:e≠l):
  ħ Qc P w K (.Tuple es kx pt) (AF K a) [e,l] e (λi h=>∃old,IsEnum h e l i old/\h.IsListIter l a i) where
 mem:=by simp
 obj:=λi h ⟨old,st,j⟩ b n=>by
  have g:b=e\/b=l:=by simpa using n
  rcases g with rfl|rfl
  .show⟨_,st,λv z=>by
    have z':İ _=lu v:=z;cases z'⟩
  .obtain⟨o,M,c,d⟩:=j;show⟨o,M,λv z=>by rw[d]at z;cases z⟩
 keep:=λi h h' ⟨old,st,j⟩ k=>⟨old,k e (by simp) _ st,j.at λo M=>k l (by simp) o M⟩;item:=by
  intro X Q hw O hc i L s σ H E I B ⟨old,st,j⟩ U;subst Q hw O;obtain⟨xs,x,G,hx⟩:=U;obtain⟨its,rv,p,hz⟩:=I.list G;obtain⟨u,hu,ru⟩:=rv.get hx;show wpAny_pyNext_enum_item st j p.isList (x:=u) (by simpa using hu) y λh1 ho hit ht hsz hk=>⟨_,rfl,wpAny_letOwnedTupleGo_enum ho λh2 R r=>?_⟩;have A:e<s.heap.objs.size:=Z8 st;have Y:s.heap.objs.size≠e:=ů A;have ht2:h2.get? s.heap.objs.size=b0 {cls:=.type "tuple",data:=.seq #[.int i s.toks,u]}:=(r.2 _ Y).trans ht;have T:H s.heap.objs.size=none:=I.hok.fresh<|Z2 _;show⟨.ref s.heap.objs.size,upd H s.heap.objs.size<|.tup [.int i,x],?_,rfl,⟨s.heap.objs.size,x,rfl,T,rfl,λys hy=>by rw[I.list_inj hy G];show hx⟩,⟨u,R,hit.extBut r.extBut<|ó y⟩,λb n=>?_⟩
  .show AE (s:=s) (h':=h2) (t':=s.toks+1) (ch:=[e,l]) I (λb ob n N=>?_) B (Z2 _) ?_
   .have g:b≠e/\b≠l:=by simpa using n
    show(r.2 b g.1).trans<|hk b ob g.1 g.2 N
   .show⟨by change(2:Nat)<=Z7;decide,[.int i s.toks,u],.cons ⟨_,rfl⟩<|.cons ru .nil,_,ht2,rfl,0,rfl,rfl⟩
  .have g:b=e\/b=l:=by simpa using n
   have hn:=(B b n).1;obtain⟨o,Z,_⟩:=j;rw[bC]
   .show hn
   .rcases g with rfl|rfl
    .show ð A
    .show ð<|Z8 Z
 done:=by
  intro X Q hw O hc i L s σ H E I B ⟨old,st,j⟩ U;subst Q hw O;obtain⟨xs,G,hx⟩:=U;obtain⟨its,rv,p,hz⟩:=I.list G;have hl:=rv.length;show wpAny_pyNext_enum_end (I.ok.hd hc) st j p.isList (by simp;lia) λh' N=>⟨rfl,FK (t':=s.toks) (ch:=[e,l]) I (λb o n z=>N b o ?_ z) B⟩;have g:b≠e/\b≠l:=by simpa using n
  show g.2
 self:=λ_ _ _ _ _ ⟨old,st,_⟩ h=>NV st h
structure vh(X:Cx)(e:Expr)(m:MI):Prop where
 h:∀es k p,PI X (.Tuple es k p) e (τ X.K m)
def QJ.t(h:QJ X e m):vh X e m:=⟨λes k p=>h.h _⟩
abbrev sS(x:D):eJ:=λa i=>(bL a x).map λxs=>(xs[i]?).map λd=>.tup [.int i,d]
abbrev qR(ms:MA):MI:=λc b=>(ms c b).bind λp=>match p.1 with
 |[x]=>(e8 p.2 x).map λa=>(sS x,a.length+1,p.2)|_=>b5
def Rq(R:Rp K π H u)(h:Í K π u.length H v x)(A:e8 u x=b0 xs):∃a,v=.ref a/\(∃vs,ê K H a vs)/\Wk K (AF K a) (sS x) π u.length H:=by
 have hw:bL u x=b0 xs:=by
  cases x with
  |rol l=>show A|loc b=>show A|_=>cases A
 obtain⟨p,vs,rfl,X,_⟩:=qJ R h A;show⟨p,rfl,⟨vs,X⟩,?_⟩
  -- the list as it stands j
 have j:∀g c n,à π u.length H g c.length n->Rp K g n c->∀l,bL c x=b0 l->∃o,ê K n p o/\Ã K g c.length n o l:=λg c n e r l M=>by
  have Z:=h.mono e;have T:e8 c x=b0 l:=by
   cases x with
   |rol zs=>show M|loc b=>show M|_=>cases A
  obtain⟨p',o,N,s,w⟩:=qJ r Z T;cases N;show⟨o,s,w⟩
 show⟨λg c n i e r z=>?_,λg c n i d e r z=>?_⟩
 .obtain⟨l,E,B⟩:=ZX.mp z;obtain⟨o,s,w⟩:=j g c n e r l E;have G:l[i]?=none:=by
   cases q:l[i]? with
   |none=>rfl|some d=>rw[q]at B;cases B
  show⟨o,s,by rw[w.length];show Ξ.mp G⟩
 .obtain⟨l,E,B⟩:=ZX.mp z;obtain⟨d',G,O⟩:=ZX.mp B;subst O;obtain⟨o,s,w⟩:=j g c n e r l E;obtain⟨v,L,Q⟩:=w.get G;show⟨⟨o,v,s,L⟩,?_⟩;rintro y H2 ⟨t,v',rfl,U,rfl,Y⟩;have:=Y o s;rw[L]at this;cases this;obtain⟨I,R2⟩:=r.fresh (o:=.tup [.int i,v]) U;show⟨I,R2,.tup (.of cQ)<|.cons (.int _)<|.cons (Q.mono I) .nil⟩
abbrev Rt(K:ZV)(c:TA):TI:=λσ H R=>c σ H λvs b=>∃a,vs=[.ref a]/\(∃xs,ê K b a xs)/\R (AF K a) b
open PyProof.Rows in
def Ru{X:Cx}{a:Expr}{l:TA}{p pos pt:ß}{es:List Expr}{L:Nat}(y:Gl X "enumerate") (A:X.mg "enumerate"=b5) (w:PA X [a] l)(E:æ [a] X.env=[(dI,eval a X.env)]):PI X (.Tuple es L pt) (.Call (.Name "enumerate" p) [a] [] pos) (Rt X.K l):=by
 intro e s n H R I h;show qm<|gU I y A Boot.«enumerate»<|callWith_type1 (aP (w pos e s n H _ I h) λY c ⟨Z,i,d,O,N⟩=>?_) E rfl;obtain⟨r,rfl,⟨ws,B⟩,q⟩:=N;obtain⟨u,rfl,Q⟩:=fM O;cases Q;obtain⟨K,U,M,T⟩:=d.list B;show call_enumerate_list M.isList λv j hit G z=>?_;show NV j ?_;have o:Inv X e n i {c with heap:=v}:=d.kept (t':=c.toks) z;show⟨c.heap.objs.size+1,[c.heap.objs.size+1,c.heap.objs.size],_,_,i,rfl,o,Ro r _ _<|Nat.succ_ne_self _,⟨_,j,hit⟩,λb x=>?_,q⟩;have g:b=c.heap.objs.size+1\/b=c.heap.objs.size:=by simpa using x
 rcases g with rfl|rfl
 .show d.fpOk (m8 _)<|d.hok.fresh<|m8 _
 .show d.fpOk (Z2 _)<|d.hok.fresh<|Z2 _
def Rv{pos:ß}(c:Gl X "enumerate")(d:X.mg "enumerate"=b5)(j:QA X [a] ms n):vh X (.Call (.Name "enumerate" p) [a] [] pos) (qR ms):=⟨λes N pt Dn s σ H R I hw=>by
 have l:=j.s;rw[Ĺ,Z9]at l;obtain⟨L,M,G,A,O,K,r,E,b,k⟩:=hw;obtain⟨⟨x,g⟩,w,b⟩:=ZS.mp b;show Ru c d j.h (fF l.1) Dn s σ H R I ⟨L,M,G,x,g,r,E,w,λh Q o v i e=>?_⟩;dsimp only at b;split at b
 .rename_i x;obtain⟨T,y,b⟩:=ZX.mp b;cases b;cases e with
  |cons e B=>cases B;obtain⟨u,rfl,z,W⟩:=Rq i e y;show⟨u,rfl,z,k h o _ v i W⟩
 .cases b⟩
def AG{pos:ß}(L:PI X tg iter (τ X.K y))(K:QG X tg g)(I:QB X body x)(M:xf (Å X.prog X.w) X.A X.env X.xe)(hc:X.calm=eA)(N:gD iter=eA):
  QS X (.For tg iter body [] pos) (cD y g x):=⟨iL (a9k M hc L K.h I.h<|by intro z;cases iter<;>first|rfl|cases N)<|by
 rintro E Y H ⟨T,U,Q,w,u,r,R,v,o,k⟩;obtain⟨⟨p,n,l⟩,G,o⟩:=ZS.mp o;show⟨T,U,Q,p,n,l,R,v,G,λs A J i B W=>?_⟩;have O:n9 X.K E s l.length A w u r:=by
  cases w with
  |nx=>show λa b e j h c=>k a b e (i.trans j) h c|bk=>show λa b e j h c=>k a b e (i.trans j) h c|ct=>show λa b e j h c=>k a b e (i.trans j) h c|rt d=>show KC.after k i
 show a9s W O .refl B (v.mono i) o⟩
def FL(h1:QS X st g)(l:QS X st i)(h:∀b a r,m b a=b0 r->g b a=b0 r\/i b a=b0 r):QS X st m:=⟨λDn s σ H D I q=>by
 obtain⟨j,b,a,e,d,c,R,E,n,k⟩:=q;rcases h b a _ n with z|z
 .show h1.h Dn s σ H D I ⟨j,b,a,e,d,c,R,E,z,k⟩
 .show l.h Dn s σ H D I ⟨j,b,a,e,d,c,R,E,z,k⟩⟩
abbrev lR(put:D->D->D->Hm->Option Hm)(o i v:ME):MS:=λa b=>(v a b).bind λp=>(o a p.2).bind λq=>(i a q.2).bind λr=>(put q.1 r.1 p.1 r.2).map λμ'=>(.nx,a,μ')
abbrev oR:D->D->D->Hm->Option Hm
 |.loc a,.int i,d,μ=>match μ[a]? with
  |some (.lst xs)=>(gY xs.length i).map λj=>μ.set a (.lst<|xs.set j d)|_=>b5
 |_,_,_,_=>b5
abbrev sT:D->D->D->Hm->Option Hm
 |.loc a,k,d,μ=>match μ[a]? with
  |some (.dK kvs)=>(iR k).bind λb=>if kvs.length<Z7 then b0 (μ.set a<|.dK<|sG kvs b d)else b5|_=>b5
 |_,_,_,_=>b5
abbrev oS:D->D->D->Hm->Option Hm
 |.loc a,y,d,μ=>match μ[a]? with
  |some (.dT kvs)=>(cM y).bind λk=>if kvs.length<Z7 then b0 (μ.set a<|.dT<|bW kvs k d)else b5|_=>b5
 |_,_,_,_=>b5
abbrev mT:D->D->D->Hm->Option Hm:=λo i d b=>match o with
 |.loc a=>match b[a]? with
  |some (.dK _)=>sT o i d b|some (.dT _)=>oS o i d b|_=>oR o i d b
 |_=>b5
abbrev kI:=lR mT
def FN:∀{vs}{ds}j{v}{d},Ã K π n H vs ds->Í K π n H v d->Ã K π n H (vs.set j v) (ds.set j d)
 |_,_,j,_,_,.nil,h=>by simp;show .nil
 |_,_,0,_,_,.cons _ t,h=>.cons h t|_,_,j+1,_,_,.cons h0 t,h=>.cons h0<|FN j t h
abbrev Rw(e ty tv:TE):TS:=λD σ H=>tv σ H λv a=>e σ a λx b=>ty σ b λy c=>zI x y v c λd=>D.nx σ d
open PyProof.Rows in
def Ry{X:Cx}{pos:ß}{o i a:Expr}{c:ß}{e ty tv:TE}(E:PE X o e)(B:PE X i ty)(K:PE X a tv)(G:Ϧ a (b0<|.Subscript o i c) pos.line X.env=pure dI):PS X (.Assign [.Subscript o i c] a pos) (Rw e ty tv):=by intro b s d H D I h;show MZ (aP (K b s d H _ I h) λr Y ⟨v,g,p,R,M⟩=>aP (E b Y d g _ p M) λu Z ⟨x,j,w,T,N⟩=>aP (B b Z d j _ w N) λL s3 ⟨y,l,z,U,O⟩=>?_) G;show aP (a4V b s3 d l x y v u L r _ z T U R O) λ_ s4 ⟨n,A,Q⟩=>⟨d,n,A,Q⟩
def Rz(R:Rp K π H b)(A:Í K π b.length H o y)(B:Í K π b.length H i z)(w:Í K π b.length H v x)(h:oR y z x b=b0 μ')(k:∀c,à π b.length H π μ'.length c->Rp K π c μ'->Q c):zI o i v H Q:=by
 cases y with
 |loc a=>
  cases z with
  |int i=>
   simp only[oR]at h;split at h
   .rename_i n l;obtain⟨j,s,u⟩:=ZX.mp h;subst u;obtain⟨d,e,g⟩:=R.lst _ n l;cases A;cases B;obtain⟨r,p⟩:=R.put (c:=.lst (n.set j x)) (o:=.lst (d.set j v)) (ZW.mp l).1 e (.inl ⟨d,rfl⟩)<|FN j g w;show⟨_,d,i,j,rfl,rfl,e,by rw[g.length];show s,k _ r p⟩
   .cases h
  |_=>simp[oR]at h
 |_=>simp[oR]at h
def RA{pos:ß}(Y:QE X o G)(U:QE X i B)(T:QE X e A)(h:jI e=eA):QS X (.Assign [.Subscript o i b] e pos) (lR oR G B A):=
 ⟨iL (Ry Y.h U.h T.h<|sL h)<|by
 rintro E σ H ⟨π,v,μ,fl,ρ',μ',R,g,a,k⟩;obtain⟨⟨x,c⟩,M,a⟩:=ZS.mp a;obtain⟨⟨y,d⟩,N,a⟩:=ZS.mp a;obtain⟨⟨z,p⟩,O,a⟩:=ZS.mp a;obtain⟨μ4,Q,a⟩:=ZX.mp a;cases a;show⟨π,v,μ,x,c,R,g,M,λr v1 H1 j I Z=>⟨r,v,c,y,d,I,g.mono j,N,λs v2 H2 l R2 i2=>⟨s,v,d,z,p,R2,(g.mono j).mono l,O,λu v3 H3 n K i3=>Rz K (i2.mono n) i3 ((Z.mono l).mono n) Q λH4 w L=>k u σ _ (((j.trans l).trans n).trans w) L<|(((g.mono j).mono l).mono n).mono w⟩⟩⟩⟩
def RB{pos:ß}(hr:Ô g X.A)(ho:QE X o Z)(hi:QE X i Y)(he:QE X e U)(h:jI e=eA):QS X (.Assign [.Subscript o i l] e pos) (lR sT Z Y U):=
 ⟨iL (a5P (DL hr) ho.h hi.h he.h<|sL h)<|by
 rintro E σ H ⟨π,M,μ,fl,ρ',μ',R,r,b,k⟩;obtain⟨⟨x,n⟩,h1,b⟩:=ZS.mp b;obtain⟨⟨y,p⟩,h2,b⟩:=ZS.mp b;obtain⟨⟨z,G⟩,h3,b⟩:=ZS.mp b;obtain⟨μ4,c,b⟩:=ZX.mp b;cases b;show⟨π,M,μ,x,n,R,r,h1,λI v1 H1 s R1 i1=>⟨I,M,n,y,p,R1,r.mono s,h2,λK v2 H2 u R2 i2=>⟨K,M,p,z,G,R2,(r.mono s).mono u,h3,λL v3 H3 v N i3=>?_⟩⟩⟩;dsimp only at c;cases y with
 |loc a=>
  simp only[sT]at c;split at c
  .rename_i j T;obtain⟨g,h5,w⟩:=ZS.mp c;split at w
   .rename_i hl;cases w;obtain⟨vs,Q,h8,h9⟩:=N.dK _ j T;have B:=i2.mono v;cases B;have hk:=sH i3 h5;subst hk;have A:=(ZW.mp T).1;have iv:=(i1.mono u).mono v;have d:=Ö.of h8 h9;show⟨_,_,rfl,Ϥ.k Q<|by rw[d.length];show hl,?_⟩;obtain⟨O,R4⟩:=N.put (c:=.dK (sG j g x)) (o:=.dK (eV vs g v1)) A Q (.inr<|.inl ⟨vs,rfl⟩) (d.put iv g).maps;show k L σ _ (((s.trans u).trans v).trans O) R4<|(((r.mono s).mono u).mono v).mono O
   .cases w
  .cases c
 |_=>simp[sT]at c⟩
def FP(h:∀x y z b r,f x y z b=b0 r->j x y z b=b0 r\/l x y z b=b0 r):∀d b r,lR f i g e d b=b0 r->lR j i g e d b=b0 r\/lR l i g e d b=b0 r:=by
 intro d b r a;obtain⟨p,n,a⟩:=ZS.mp a;obtain⟨q,o,a⟩:=ZS.mp a;obtain⟨t,s,a⟩:=ZS.mp a;obtain⟨c,u,a⟩:=ZX.mp a;rcases h _ _ _ _ _ u with z|z
 .show .inl<|ZS.mpr ⟨p,n,ZS.mpr ⟨q,o,ZS.mpr ⟨t,s,ZX.mpr ⟨c,z,a⟩⟩⟩⟩
 .show .inr<|ZS.mpr ⟨p,n,ZS.mpr ⟨q,o,ZS.mpr ⟨t,s,ZX.mpr ⟨c,z,a⟩⟩⟩⟩
def FQ:QS X st (aM i b6):=⟨λDn s σ H D I q=>by
 obtain⟨g,h,e,d,c,b,R,E,a,k⟩:=q;cases a⟩
abbrev kJ(a:Hm)(x:D):List D->Option (List Bool)
 |[]=>b0 []|y::r=>(dG 8 a y x).bind λb=>(kJ a x r).map λc=>b::c
abbrev qS:D->List D->Hm->jk
 |.loc a,[x],μ=>match μ[a]? with
  |some (.lst xs)=>(kJ μ x xs).bind λbs=>if bs.findIdx id<bs.length/\bs.length<=Z7 then b0 (.int (bs.findIdx id:Nat),μ)else b5|_=>b5
 |_,_,_=>b5
abbrev FR(K:ZV):V->gz->Hp->VK->Prop:=λx vs H Q=>∃π b a xs y c bs,Rp K π H b/\x=.ref (π a)/\vs=[y]/\b[a]?=b0 (.lst xs)/\Í K π b.length H y c/\kJ b c xs=b0 bs/\bs.findIdx id<bs.length/\Q (.int (bs.findIdx id:Nat)) H
def RC:iU K qS (FR K):=by
 intro b H o x ds d p v r Q R j i a k;unfold qS at a;split at a
 .split at a
  .rename_i n g;obtain⟨bs,c,a⟩:=ZS.mp a;split at a
   .rename_i e;cases a;cases i with
    |cons h l=>cases l;cases j;show⟨b,o,_,n,_,_,bs,R,rfl,rfl,g,h,c,e.1,k b _ H .refl R<|.int _⟩
   .cases a
  .cases a
 .cases a
def FT{σ:St}(I:Inv X Dn σ H s)(R:Rp X.K π H i)(hu:A.units+8<â)(rx:Æ x v)(ix:Í X.K π i.length H x o):
  ∀{e}{vs}{us}{bs},Ã X.K π i.length H vs e->Á vs us->kJ i o e=b0 bs->
   ∃g,(∀u∈us,J4 A s u v (g u))/\us.map g=bs:=by
 classical
 intro e vs us bs l n d
 have B:∀{e:List D}{vs:gz}{us:gw}{bs:List Bool},Ã X.K π i.length H vs e->Á vs us->kJ i o e=b0 bs->(∀u∈us,∃c,J4 A s u v c/\∃w p,Æ w u/\Í X.K π i.length H w p/\dG 8 i p o=b0 c):=by
  intro e
  induction e with
  |nil=>
   intro vs us b l n d u a
   cases l
   cases n
   cases a
  |cons y e N=>
   intro vs us b l n d u a
   cases l with
   |cons h t=>
    cases n with
    |cons r rt=>
     obtain⟨c,K,d⟩:=ZS.mp d
     obtain⟨U,L,d⟩:=ZX.mp d
     rcases Ě.mp a with rfl|a
     .show⟨c,zU I R 8 hu r rx h ix K,_,_,r,h,K⟩
     .show N t rt L u a
 have E:=B l n d
 show⟨λu=>if h:u∈us then ut (E u h)else dI,λu a=>?_,?_⟩
 .simp only[dif_pos a]
  show(LK<|E u a).1
 .have O:∀u (h:u∈us) w p c,Æ w u->Í X.K π i.length H w p->dG 8 i p o=b0 c->ut (E u h)=c:=by
   intro u h w p c Q iw T
   obtain⟨_,w2,Y,r2,i2,Z⟩:=LK<|E u h
   have:w2=w:=r2.inj Q
   subst this
   have:=Ag I R i2 iw
   subst this
   rw[Z]at T
   show ñ T
  have G:∀{e:List D}{vs:gz}{j:gw}{bs:List Bool},(∀u∈j,u∈us)->Ã X.K π i.length H vs e->Á vs j->kJ i o e=b0 bs->j.map (λu=>if h:u∈us then ut (E u h)else dI)=bs:=by
   intro e
   induction e with
   |nil=>
    intro vs j b M l n d
    cases l
    cases n
    cases d
    rfl
   |cons y e N=>
    intro vs j b M l n d
    cases l with
    |cons h t=>
     cases n with
     |@cons _ u _ us2 r rt=>
      obtain⟨c,K,d⟩:=ZS.mp d
      obtain⟨U,L,d⟩:=ZX.mp d
      have eX:u∈us:=M u<|Ś ..
      rw[é,N (λz hz=>M z<|ň _ hz) t rt L,dif_pos eX,O u eX _ _ c r h K]
      show d
  show G (λ_ h=>h) l n d
def RD(hu:X.A.units+20<â):jC X "list.index" (FR X.K):=by
 intro G s σ H x vs v us Q I rx Z h
 obtain⟨π,μ,a,xs,y,dy,bs,R,rfl,rfl,O,U,N,w,q⟩:=h
 cases rx
 obtain⟨u,rfl,Y⟩:=Z.one
 obtain⟨ws,L,hd⟩:=R.lst a xs O
 obtain⟨z,b,n,r,hl,e⟩:=I.lstM L
 obtain⟨g,K,E⟩:=FT I R (A:=X.A.in1) (by rw[iP];lia) Y U hd r N
 have j:bs.length=b.length:=by rw[<- E,ZT]
 have A:bs.findIdx id<b.toArray.size:=by rw[Z5,<- j];show w
 have c:∀m (p:m<b.length),bs[m]?=b0 (g b[m]):=λm p=>by
  rw[<- E,þ,ZY p];rfl
 have small:((bs.findIdx id:Nat):Int)<2^63-1:=by
  have l:bs.findIdx id<b.length:=by simpa using A
  have d:=mF
  have i:(bs.findIdx id:Nat)<Z7:=by lia
  have o:((Z7:Nat):Int)<=2^63-1:=by decide
  lia
 show qt F.slot_list_index ⟨_,e,rfl⟩ F.entry_list_index (F.args_list_index_2 _ _) (SeqAt.list_indexAt (π a) b.toArray n b5 #[] u g (bs.findIdx id) A small ?_ ?_) ⟨e,λy T=>K y<|by simpa using T,⟨.int (bs.findIdx id:Nat),H,I.tok _,⟨_,rfl⟩,q⟩⟩
 .have l:bs.findIdx id<b.length:=by simpa using A
  have d:=Om (p:=id) (xs:=bs) (w:=w)
  have i:=c _ l
  rw[ZY w]at i
  have o:=ñ i
  rw[o]at d
  simpa using d
 .intro m p B
  have l:m<b.length:=by simpa using p
  have d:=PC (p:=id) (xs:=bs) B
  have i:=c _ l
  have M:m<bs.length:=by lia
  rw[ZY M]at i
  have o:=ñ i
  rw[o]at d
  simpa using d
def RE:xx (.type "list_reverseiterator") "__len__"=pure none:=by rw[Lv,MV];kernel_rfl
def RF:xx (.type "list_reverseiterator") "__length_hint__"=pure (b0<|.builtin "list_reverseiterator.__length_hint__"):=by rw[Lv,MV];kernel_rfl
def RG(b:s.TypeIs (.ref r) "list_reverseiterator")(h:Q dI s):Ç (Å prog w) A (QM<|.ref r) Q E s:=by unfold QM;show ZU<|rT b RE ?_;dsimp only;show ni (λa=>absurd a<|by decide +kernel) λ_=>?_;show ni (λa=>absurd a<|by decide) λ_=>?_;show ZU<|rT b RF ?_;generalize bJ:("list_reverseiterator.__length_hint__":String)=id0;wp_delta;rw[show splitId id0=b0 ("list_reverseiterator","__length_hint__")from by subst bJ;decide +kernel];subst bJ;show ZU (za (T:="list_reverseiterator") (b:=eA) b (by rw[isSubtype_type];kernel_rfl) ?_);show ni (λa=>absurd a<|by decide) λ_=>?_;show ni (λ_=>?_) (λa=>absurd (by decide +kernel) a);show ni (λa=>absurd a<|by decide +kernel) λ_=>?_;show Z3 h
def RH(hh:A.handled=b5)(hit:s.heap.IsRevIter p a ((its.size:Int)-1))(hl:s.heap.IsList a its)(K:a≠p)S(u:S≠p)(G:S≠a)res j(hS:s.heap.get? S=b0 {cls:=.type "list",data:=.seq #[] j})(Z:∀z tk c r,(∀b o,b≠S->b≠p->s.heap.get? b=b0 o->z.get? b=b0 o)->z.get? S=b0 {cls:=.type "list",dict:=b5,data:=.seq c r,slots:=#[]}->ItemsOf (λi v=>its[its.size-1-i]?=b0 v) c its.size->R (.ok<|.ret res) {s with heap:=z,toks:=tk})(hn:its.size<=Z7):
  Ç (Å prog w) A.in1 (uy (.ref S) (.ref p) res)
   (λfin n=>match fin with|.done f=>R (.ok f) n|.again r=>r.quiet=eA/\ź (Å prog w) A r R n) (λe n=>R (.error e) n) s:=by
 have H:S∉[p,a]:=by simp only[Ě,fu,or_false,not_or];show⟨u,G⟩
 have W:=Walks.listRev (prog:=prog) (w:=w) (A:=A.in1) hh p a K its;have N:∀(h:ç)(d tk:Nat),h.IsRevIter p a ((its.size:Int)-1)->h.IsList a its->(∀b o,b≠S->s.heap.get? b=b0 o->h.get? b=b0 o)->
   h.get? S=b0 {cls:=.type "list",data:=.seq #[] d}->ź (Å prog w) A (.builtin "list.extend.loop" ⟨[.ref S,.ref p,res],[]⟩) R {s with heap:=h,toks:=tk}:=by
  intro h d tk M y hk l;show codeAny_extend_loopS W.toS hn S H res its.size 0 _ #[] d rfl (ŀ _) ⟨ŀ _,by simpa using M,y⟩ l (ItemsOf.nil _) λn c r Q B x=>?_;rw[Moved.eq_with Q];show Z n.heap n.toks c r (λb o O L e=>Q.heap b o (λg=>?_)<|hk b o O e) B x;rcases Ě.mp g with T|g
  .show O T
  .show L<|ā.mp g
 unfold uy;show ZU<|yd (T:="list_reverseiterator") hit.typeIs ?_;have U:LR (.ref S) (.ref p)=false:=by simp[LR,u]
 have X:(ä "list_reverseiterator"==ä "list")=false:=by decide +kernel
 have Y:(ä "list_reverseiterator"==ä "tuple")=false:=by decide +kernel
 simp only[U,X,Y,Kw,Į,if_false];show ZU<|Mh hit ?_;show ZU<|Ķ<|RG hit.typeIs ?_;show ni (λI=>absurd I<|by decide +kernel) λ_=>Z3 ⟨ŧ PySem.F.plain_extend_loop _,?_⟩;show N _ j s.toks hit hl (λb o _ e=>e) hS
def RI(L:A.handled=b5)(hit:s.heap.IsRevIter p a ((its.size:Int)-1))(N:s.heap.IsList a its)(G:a≠p)S(n:S≠p)(l:S≠a)(z:s.heap.get? S=b0 {cls:=.type "list",data:=.seq #[]})(K:∀j I c h,(∀b o,b≠S->b≠p->s.heap.get? b=b0 o->j.get? b=b0 o)->j.get? S=b0 {cls:=.type "list",dict:=b5,data:=.seq c h,slots:=#[]}->ItemsOf (λi v=>its[its.size-1-i]?=b0 v) c its.size->R (.ok<|.ret .none) {s with heap:=j,toks:=I})(O:its.size<=Z7):
  Ç (Å prog w) A.in1 (Builtin.«list.__init__» ⟨[.ref S,.ref p],[]⟩)
   (λfin y=>match fin with|.done f=>R (.ok f) y|.again h=>h.quiet=eA/\ź (Å prog w) A h R y) (λe y=>R (.error e) y) s:=by
 change Ç _ _ (do let old <- Po (.ref S);b2v (.ref S) λ_=>#[];letGo old.toList.reverse;uy (.ref S) (.ref p) .none) _ _ s;show ZU ?_;unfold Po;show ZU<|UV z rfl<|Z3 ?_;change Ç _ _ (Sd S (λ_=>#[]) >>= λ_=>letGo (#[]:Array Value).toList.reverse >>= λ_=>uy (.ref S) (.ref p) .none) _ _ s;show ZU<|ζ z rfl ?_;have d:=Κ (a1i λ_=>(#[]:Array Value)) z rfl;have g:∀b o,b≠S->s.heap.get? b=b0 o->(s.heap.update S<|a1i λ_=>(#[]:Array Value)).get? b=b0 o:=
  λb o u e=>(Μ _ _<|ó u).trans e
 show ZU<|ψ ?_;show RH L (hit.at λo e=>g p o (ó n) e) (let⟨o,Q,x⟩:=N;⟨o,g a o (ó l) Q,x⟩) G S n l .none _ d (λj I c h M B r=>?_) O;show K j I c h (λb o u H e=>M b o u H<|g b o u e) B r
def RJ(L:A.handled=b5)(hit:s.heap.IsRevIter p a ((its.size:Int)-1))(G:s.heap.IsList a its)(y:a≠p)(N:its.size<=Z7)(H:∀g z c r,(∀b o,b≠p->s.heap.get? b=b0 o->g.get? b=b0 o)->g.get? s.heap.objs.size=b0 {cls:=.type "list",dict:=b5,data:=.seq c r,slots:=#[]}->ItemsOf (λi v=>its[its.size-1-i]?=b0 v) c its.size->Q (.ref s.heap.objs.size) {s with heap:=g,toks:=z}):
  Ç (Å prog w) A (call (.type "list") [.ref p]) Q E s:=by
 show NK (Q₁:=λn d=>n=.ref s.heap.objs.size/\d={s with heap:=s.heap.push {cls:=.type "list",data:=.seq #[]}}) PySem.F.called_list (PySem.F.typeCall_list_1 _) PySem.F.entry_list_init
  (code_list_new _ ⟨rfl,rfl⟩) λn d l=>?_
 obtain⟨rfl,rfl⟩:=l;have B:(s.heap.push {cls:=.type "list",data:=.seq #[]}).get? s.heap.objs.size=b0 {cls:=.type "list",data:=.seq #[]}:=Ă _ rfl;have O:p<s.heap.objs.size:=let⟨o,j,_⟩:=hit;Z8 j;have I:a<s.heap.objs.size:=let⟨o,j,_⟩:=G;Z8 j;show⟨⟨_,B,rfl⟩,PySem.F.args_list_init_2 _ _,RI (A:=A.in1) L (hit.at λo e=>Z1 _ e) (let⟨o,j,x⟩:=G;⟨o,Z1 _ j,x⟩) y _ (ů O) (ů I) B (λg z c r M u h=>?_) N⟩;show⟨rfl,H g z c r (λb o K e=>M b o (ð<|Z8 e) K<|Z1 _ e) u h⟩
abbrev FU(K:ZV):gz->Hp->VK->Prop:=λxs H Q=>∃(p:Addr)(a:gz),xs=[.ref p]/\ê K H p a/\∀l,H l=b5->Q (.ref l) (upd H l<|.lst a.reverse)
def FV:∀{a}{its},Á a its->Á a.reverse its.reverse
 |_,_,.nil=>.nil|_,_,.cons h t=>by rw[yw,yw];show(FV t).append<|.cons h .nil
def RK{pos:ß}(hc:X.calm=eA)(R:Gl X "list")(U:X.mg "list"=b5)(v:Gl X "reversed")(y:X.mg "reversed"=b5)(O:PA X [e] t)(Z:æ [e] X.env=(dI,eval e X.env)::æ [] X.env):
  PE X (.Call (.Name "list" p) [.Call (.Name "reversed" K) [e] [] d] [] pos) (uT (FU X.K) t):=by
 intro n s σ H Q I h;show gh (gU I R U N0 ?_ (by decide)<|by decide);show iu ?_ rfl rfl;change Ç _ _ (spliced<|(dI,eval (.Call (.Name "reversed" K) [e] [] d) X.env)::ĸ pos (æ [] X.env)) _ _ s;show L4 (gh<|gU I v y a9R ?_ (by decide)<|by decide);show iu (aP (O d n s σ H _ I h) λus j ⟨vs,H1,l,r1,q1⟩=>?_) Z rfl;obtain⟨q,ys,rfl,Y,k⟩:=q1;obtain⟨u,rfl,ru⟩:=fM r1;cases ru;obtain⟨a,L,pl,hz⟩:=l.list Y;have G:=L.length;have w:=pl.isList;have A:q<j.heap.objs.size:=let⟨o,z,_⟩:=w;Z8 z;show Nc w ?_;show L0 ?_;show RJ (l.ok.hd hc) (p:=j.heap.objs.size) (a:=q) (its:=a.toArray) ⟨_,Ă _ rfl,rfl,rfl⟩ (let⟨o,z,x⟩:=w;⟨o,Z1 _ z,x⟩) (ð A) (by simp only[Z5]<;>lia) λh' tk c M kp E g=>?_;have r:c.toList=a.reverse:=by
  show yu λi=>?_;have hn:c.size=a.length:=by simpa using g.1
  by_cases T:i<a.length
  .have N:=g.2 i c[i] (Mn<|by lia);rw[ϲ,Mn<|by lia,<- N,ϯ T,Z5,ϰ]
  .rw[fc<|by rw[pF];lia,fc<|by rw[Ι];lia]
 have B:(j.heap.push<|revObj q<|(a.toArray.size:Int)-1).objs.size=j.heap.objs.size+1:=by simp[Heap.push]
 rw[B]at E ⊢;show⟨.ref<|j.heap.objs.size+1,_,l.laid (t':=tk) (a:=j.heap.objs.size+1) (o:=.lst ys.reverse) (λb o e=>kp b o (ð<|Z8 e)<|Z1 _ e) ⋯ ⟨by rw[Ι];show hz,a.reverse,M,FV L,by rw[<- r];simpa using E⟩,rfl,k _<|l.hok.fresh<|by lia⟩
abbrev mV:MF:=λds b=>match ds with
 |[.loc a]=>match b[a]? with
  |some (.lst xs)=>b0 (.loc b.length,b++[.lst xs.reverse])|_=>b5
 |_=>b5
def RL:d8 K mV (FU K):=by
 intro v H u s d p r Q R i b k;unfold mV at b;split at b
 .rename_i a;split at b
  .rename_i e o;cases b;cases i with
   |cons i t=>cases t;cases i;obtain⟨c,h,j⟩:=R.lst a e o;show⟨_,c,rfl,.of h,λl n=>?_⟩;obtain⟨g,R2,_⟩:=R.alloc (c:=.lst e.reverse) (o:=.lst c.reverse) n<|TiV j;show k _ _ _ g R2 jY
  .cases b
 .cases b
def RM{pos:ß}(hc:X.calm=eA)(d:X.mg "list"=b5)(g:X.mg "reversed"=b5)(h:QA X [e] ms n)(b:Gl X "list")(c:Gl X "reversed"):
  QE X (.Call (.Name "list" p) [.Call (.Name "reversed" j) [e] [] a] [] pos) (aG mV ms):=by
 have i:=h.s;rw[Ĺ,Z9]at i;show⟨cU (RK hc b d c g h.h<|fF i.1)<|zO RL⟩
abbrev AH(lo c:Int)(n:Nat):It:=⟨λi _=>i<n,λi H x a=>a=H/\x=.int (lo+(i:Nat)*c),λi _=>n<=i⟩
def RN a lo c n:ħ Qc P w K tg (AH lo c n) [a] a (λi h=>lF h a (lo+(i:Nat)*c) ((n:Int)-(i:Nat)) c) where
 mem:=by simp
 obj:=λi h st b d=>by
  have e:b=a:=by simpa using d
  subst e;show⟨_,st,λv z=>by
   have Y:İ _=lu v:=z;cases Y⟩
 keep:=λi h l st k=>k a (by simp) _ st;item:=by intro X G hw B hc i g s N H E I p st L;subst G hw B;obtain⟨r,u,R,x,y,A⟩:=p a (by simp);have W:=NR (prog:=X.prog) (w:=X.w) (I.ok.hd hc) a lo c n;show W.item i s _ _ L st λv l M T j U=>?_;obtain⟨t,rfl⟩:=T;have O:Inv X g N H {s with heap:=l,toks:=M}:=I.turned (λb o d e=>U b o (by simpa using d) e) r u x y A;show⟨_,rfl,nY (s:={s with heap:=l,toks:=M}) (n:="range_iterator") j rfl rfl (by decide) ⟨.int<|lo+(i:Nat)*c,H,O,⟨t,rfl⟩,⟨rfl,rfl⟩,j,λb d=>(p b d).1⟩⟩
 done:=by intro X G hw B hc i g s N H E I p st L;subst G hw B;obtain⟨r,u,R,x,y,A⟩:=p a (by simp);show P1 (I.ok.hd hc) st (by have:n<=i:=L;lia) λl Q=>⟨rfl,I.turned (t':=s.toks) (λb o d e=>Q b o d e) r u x y A⟩
 self:=λ_ _ _ _ _ st h=>Oz st h
abbrev wD(a b c:Int):Bool:=b1Z a b c&&decide (c≠0)&&decide (c.natAbs<1073741824)&&decide (0<=ϟ a b c)
abbrev RO(e:TA):TI:=λσ H R=>e σ H λvs d=>∃a b c:Int,vs=[.int a,.int b,.int c]/\wD a b c=eA/\R (AH a c (ϟ a b c).toNat) d
open PyProof.Rows in
def RP{X:Cx}{tg a b c:Expr}{G:TA}{p pos:ß}(T:Gl X "range") (U:X.mg "range"=b5) (O:PA X [a,b,c] G)(Z:æ [a,b,c] X.env=(dI,eval a X.env)::æ [b,c] X.env)(z:(ĸ pos<|æ [b,c] X.env).any (·.1)=dI) :
  PI X tg (.Call (.Name "range" p) [a,b,c] [] pos) (RO G):=by
 intro n s K H R I h;show qm<|gU I T U Lb<|iu (aP (O pos n s K H _ I h) λus l ⟨vs,E,L,r1,q1⟩=>?_) Z z;obtain⟨i,j,k,e,g,q⟩:=q1;subst e;unfold wD at g;rw[Z9,Z9,Z9,decide_eq_true_eq,decide_eq_true_eq,decide_eq_true_eq]at g;obtain⟨⟨⟨A,x⟩,y⟩,Y⟩:=g;cases r1 with
 |cons r u=>
  cases u with
  |cons r' u=>
   cases u with
   |cons B u=>
    cases u;obtain⟨t,rfl⟩:=r;obtain⟨v,rfl⟩:=r';obtain⟨d,rfl⟩:=B;show call_range_3 x ?_<|.inl<|PyProof.noPylong_small y;show Nh (OM ..) A ?_;have w:Inv X n K E {l with heap:=l.heap.push {cls:=.type "range",data:=.fields #[.int i t,.int j v,.int k d]},toks:=l.toks}:=L.kept λb o e=>Z1 _ e;show⟨(l.heap.push {cls:=.type "range",data:=.fields #[.int i t,.int j v,.int k d]}).objs.size,[(l.heap.push {cls:=.type "range",data:=.fields #[.int i t,.int j v,.int k d]}).objs.size],_,_,E,rfl,
     w.kept (t':=l.toks) λb o e=>Z1 _ e,RN _ i k (ϟ i j k).toNat,?_,λb Q=>?_,q⟩
    .have M:i+((0:Nat):Int)*k=i:=by simp
     have N:(((ϟ i j k).toNat:Nat):Int)-((0:Nat):Int)=ϟ i j k:=by lia
     change lF _ _ (i+((0:Nat):Int)*k) ((((ϟ i j k).toNat:Nat):Int)-((0:Nat):Int)) k;rw[M,N];show Ă _ rfl
    .have e:b=(l.heap.push {cls:=.type "range",data:=.fields #[.int i t,.int j v,.int k d]}).objs.size:=by simpa using Q
     subst e;show w.fpOk (Z2 _)<|w.hok.fresh<|Z2 _
abbrev AI(lo c:Int)(n:Nat):eJ:=λ_ i=>b0<|if i<n then b0 (.int<|lo+(i:Nat)*c)else b5
def RQ:Wk K (AH lo c k) (AI lo c k) π n H:=by
 show⟨λb o g i e R z=>?_,λb o g i d e R z=>?_⟩
 .have a:=ñ z;split at a
  .cases a
  .show km.mp<|by assumption
 .have a:=ñ z;split at a
  .cases a;rename_i h;show⟨h,λx p ⟨j,l⟩=>by subst j;rw[l];show⟨.refl,R,.int _⟩⟩
  .cases a
abbrev qT(ms:MA):MI:=λb a=>(ms b a).bind λp=>match p.1 with
 |[.int i,.int j,.int c]=>if wD i j c=eA then b0 (AI i c (ϟ i j c).toNat,(ϟ i j c).toNat+1,p.2)else b5|_=>b5
def RR{pos:ß}(e:Gl X "range")(g:X.mg "range"=b5)(u:QA X [a,b,c] ms n):QJ X (.Call (.Name "range" p) [a,b,c] [] pos) (qT ms):=⟨λtg Dn s σ H R I hw=>by
 have h:=u.s;rw[Ĺ,Z9]at h;obtain⟨U,Y,Q,L,Z,T,y,E,d,k⟩:=hw;obtain⟨⟨x,o⟩,A,d⟩:=ZS.mp d;show RP e g u.h (fF h.1) (mL h.2) Dn s σ H R I ⟨U,Y,Q,x,o,y,E,A,λr vs v z w l=>?_⟩;dsimp only at d;split at d
 .rename_i i j c;split at d
  .rename_i B;cases d;cases l with
   |cons l M=>
    cases l;cases M with
    |cons G N=>
     cases G;cases N with
     |cons K O=>cases K;cases O;show⟨i,j,c,rfl,B,k r v _ z w RQ⟩
  .cases d
 .cases d⟩
abbrev AJ(K:ZV)(a:Addr)(n:Nat):It:=⟨λi H=>i<n/\∃xs x,ê K H a xs/\xs[n-1-i]?=b0 x,λi H x b=>b=H/\∀xs,ê K H a xs->xs[n-1-i]?=b0 x,λi _=>i=n⟩
def RS a j n:ħ Qc P w K tg (AJ K a n) [j] j (λi h=>h.IsRevIter j a<|(n:Int)-1-(i:Nat)) where
 mem:=by simp
 obj:=λi h st b g=>by
  have e:b=j:=by simpa using g
  subst e;obtain⟨o,e,c,d⟩:=st;show⟨o,e,λv z=>by rw[d]at z;cases z⟩
 keep:=λi h y st k=>st.at λo e=>k j (by simp) o e;item:=by
  intro X Q hw O hc i r s Z H E I A st R;subst Q hw O;obtain⟨hi,xs,x,U,Y⟩:=R;obtain⟨its,rv,p,hz⟩:=I.list U;obtain⟨u,hu,ru⟩:=rv.get Y;obtain⟨B,G,f2,L,M,N⟩:=A j (by simp);have T:(n:Int)-1-(i:Nat)=((n-1-i:Nat):Int):=by lia
  rw[T]at st;show wpAny_pyNext_rev_item st p.isList (x:=u) (by simpa using hu) λy l sb=>?_;have I1:Inv X r Z H {s with heap:=y}:=I.turned (t':=s.toks) (λb o g e=>(sb.2 b g).trans e) B G L M N;rw[<- T,show(n:Int)-1-(i:Nat)-1=(n:Int)-1-((i+1:Nat):Nat) by lia]at l;obtain⟨o,e,c,d⟩:=id l;show⟨u,rfl,nY (s:={s with heap:=y}) e c d (by decide) ⟨x,H,I1,ru,⟨rfl,λys hy=>by rw[I.list_inj hy U];show Y⟩,l,λb g=>(A b g).1⟩⟩
 done:=by intro X Q hw O hc i r s Z H E I A st R;subst Q hw O;have hg':i=n:=R;obtain⟨B,G,f2,L,M,N⟩:=A j (by simp);rw[show(n:Int)-1-(i:Nat)=-1 by lia]at st;show wpAny_pyNext_rev_end (I.ok.hd hc) st λy eb=>⟨rfl,I.turned (t':=s.toks) (λb o g e=>eb b o g e) B G L M N⟩
 self:=λ_ _ _ _ _ st h=>Mh st h
abbrev RT(K:ZV)(c:TA):TI:=λσ H R=>c σ H λvs b=>∃a xs,vs=[.ref a]/\ê K b a xs/\R (AJ K a xs.length) b
open PyProof.Rows in
def RU{X:Cx}{tg a:Expr}{r:TA}{p pos:ß}(y:Gl X "reversed") (z:X.mg "reversed"=b5) (w:PA X [a] r)(B:æ [a] X.env=[(dI,eval a X.env)]):PI X tg (.Call (.Name "reversed" p) [a] [] pos) (RT X.K r):=by
 intro j s N H R I h;show qm<|gU I y z Boot.«reversed»<|callWith_type1 (aP (w pos j s N H _ I h) λQ d ⟨T,v,g,K,G⟩=>?_) B rfl;obtain⟨i,l,rfl,A,q⟩:=G;obtain⟨u,rfl,L⟩:=fM K;cases L;obtain⟨c,M,E,O⟩:=g.list A;have n:=M.length;show Nc E.isList ?_;have hit:(d.heap.push<|revObj i<|(c.toArray.size:Int)-1).IsRevIter d.heap.objs.size i ((c.toArray.size:Int)-1):=⟨_,Ă _ rfl,rfl,rfl⟩;show Mh hit ?_;show⟨d.heap.objs.size,[d.heap.objs.size],_,_,v,rfl,g.kept (t':=d.toks) λb o e=>Z1 _ e,RS i _ l.length,?_,λb x=>?_,q⟩
 .have e:(l.length:Int)-1-((0:Nat):Int)=(c.toArray.size:Int)-1:=by simp only[Z5];lia
  change Heap.IsRevIter _ _ _ ((l.length:Int)-1-((0:Nat):Int));rw[e];show hit
 .have e:b=d.heap.objs.size:=by simpa using x
  subst e;show g.fpOk (Z2 _)<|g.hok.fresh<|Z2 _
abbrev kK(a n:Nat):eJ:=λb i=>match b[a]? with
 |some (.lst xs)=>if i<n then(xs[n-1-i]?).map b0 else if i=n then b0 b5 else b5|_=>b5
def RV(u:a<n):Wk K (AJ K (π a) k) (kK a k) π n H:=by
 show⟨λc G l i e R z=>?_,λc G l i d e R z=>?_⟩
 .unfold kK at z;split at z
  .split at z
   .obtain⟨y,_,h⟩:=ZX.mp z;cases h
   .split at z
    .assumption
    .cases z
  .cases z
 .unfold kK at z;split at z
  .rename_i E A;split at z
   .rename_i x;obtain⟨y,B,h⟩:=ZX.mp z;cases h;obtain⟨j,b,r⟩:=R.lst a E A;rw[e.pi a u]at b;obtain⟨w,g,s⟩:=r.get B;show⟨⟨x,j,w,.of b,g⟩,λv I ⟨o,p⟩=>?_⟩;subst o;have:=p j<|.of b;rw[g]at this;cases this;show⟨.refl,R,s⟩
   .split at z
    .cases z
    .cases z
  .cases z
abbrev sU(ms:MA):MI:=λc b=>(ms c b).bind λp=>match p.1 with
 |[.loc a]=>match p.2[a]? with
  |some (.lst xs)=>b0 (kK a xs.length,xs.length+1,p.2)|_=>b5
 |_=>b5
def RW{pos:ß}(d:Gl X "reversed")(e:X.mg "reversed"=b5)(l:QA X [a] ms n):QJ X (.Call (.Name "reversed" p) [a] [] pos) (sU ms):=⟨λtg Dn s σ H R I hw=>by
 have o:=l.s;rw[Ĺ,Z9]at o;obtain⟨Q,T,N,G,U,O,v,E,c,k⟩:=hw;obtain⟨⟨x,h⟩,y,c⟩:=ZS.mp c;show RU d e l.h (fF o.1) Dn s σ H R I ⟨Q,T,N,x,h,v,E,y,λi Y u w j g=>?_⟩;dsimp only at c;split at c
 .rename_i b;split at c
  .rename_i M r;cases c;cases g with
   |cons g K=>cases K;cases g;obtain⟨L,z,A⟩:=j.lst b M r;have B:=(ZW.mp r).1;show⟨_,L,rfl,.of z,?_⟩;rw[A.length];show k i u _ w j<|RV B
  .cases c
 .cases c⟩
noncomputable abbrev bK:=List<|List Int×Addr×V
abbrev bP(ps:bK)(ws:gw):List (List Int×Addr×Value):=yq (λp w=>(p.1,p.2.1,w)) ps ws
def wF:∀(ps:bK)(ws:gw),yq u6 ps ws=(bP ps ws).map (xr<|Ű<|Ř P w)
 |[],_=>by simp[bP]
 |p::ps,[]=>by simp[bP]
 |p::ps,u::ws=>by have a:=wF (P:=P) (w:=w) ps ws;unfold bP at a ⊢;rw[ι,ι,é,a];rfl
def lT:∀{ps}{ws},Á (ps.map (·.2.2)) ws->(bP ps ws).map (·.1)=ps.map (·.1)
 |[],_,_=>by simp[bP]
 |p::ps,_,.cons r t=>by have a:=lT (ps:=ps) t;unfold bP at a ⊢;rw[ι,é,é,a]
def AK:∀{ps}{ws}{x},x∈bP ps ws->∃p∈ps,p.1=x.1/\p.2.1=x.2.1
 |[],_,x,h=>by simp[bP]at h
 |p::ps,[],x,h=>by simp[bP]at h
 |p::ps,u::ws,x,h=>by
  unfold bP at h;rw[ι]at h;rcases Ě.mp h with e|h
  .subst e;show⟨p,Ś ..,rfl,rfl⟩
  .obtain⟨q,a,e⟩:=AK (ps:=ps) (ws:=ws) h;show⟨q,ň _ a,e⟩
abbrev eB(ps:bK)(k:List Int):Option V:=(ps.find? λp=>decide<|p.1=k).map (·.2.2)
abbrev dJ(ps:bK)(k:List Int)(b:Addr)(v:V):bK:=if(eB ps k).isSome then ps.map (λp=>if p.1=k then(p.1,p.2.1,v)else p)else ps++[(k,b,v)]
def oT:∀{ps}{ws},Á (ps.map (·.2.2)) ws->∀k,ġ (eB ps k) ((Ŀ (bP ps ws) k).map (·.2))
 |[],_,.nil,k=>by simp[eB,bP,Ŀ];show ŭ
 |p::ps,_,.cons r t,k=>by
  have a:=oT (ps:=ps) t k;unfold eB Ŀ bP at a ⊢;rw[ι,Ş,Ş];by_cases e:p.1=k
  .simp only[e,decide_true];show r
  .simp only[e,decide_false];show a
def sV ps k b v:(dJ ps k b v).length<=ps.length+1:=by unfold dJ;split<;>simp
def FW(d:Æ v u):∀{ps}{ws},Á (ps.map (·.2.2)) ws->
  ∃a,Á ((ps.map λp=>if p.1=k then(p.1,p.2.1,v)else p).map (·.2.2)) a/\(bP ps ws).map (ql k u)=bP (ps.map λp=>if p.1=k then(p.1,p.2.1,v)else p) a
 |[],_,.nil=>⟨[],.nil,by simp[bP]⟩|p::ps,_,.cons (b:=w) r t=>by
  obtain⟨a,c,b⟩:=FW d (ps:=ps) t;by_cases e:p.1=k
  .show⟨u::a,?_,?_⟩
   .rw[é,é,if_pos e];show .cons d c
   .unfold bP at b ⊢;rw[ι,é,b,é,if_pos e,ι];unfold ql;rw[if_pos e]
  .show⟨w::a,?_,?_⟩
   .rw[é,é,if_neg e];show .cons r c
   .unfold bP at b ⊢;rw[ι,é,b,é,if_neg e,ι];unfold ql;rw[if_neg e]
def FX:∀{ps}{ws},Á (ps.map (·.2.2)) ws->bP ps ws++[(k,b,u)]=bP (ps++[(k,b,v)]) (ws++[u])
 |[],_,.nil=>by simp[bP]
 |p::ps,_,.cons r t=>by have a:=FX (k:=k) (b:=b) (v:=v) (u:=u) (ps:=ps) t;unfold bP at a ⊢;rw[ι,mq,a,mq,mq,ι]
def wG(r:Á (ps.map (·.2.2)) ws)k b(c:Æ v u):
  ∃a,Á ((dJ ps k b v).map (·.2.2)) a/\Ε (bP ps ws) k b u=bP (dJ ps k b v) a:=by
 have e:=(oT r k).isSome_eq;rw[yx]at e;unfold dJ Ε;rw[e];by_cases h:(Ŀ (bP ps ws) k).isSome=eA
 .rw[if_pos h,if_pos h];show FW c r
 .rw[if_neg h,if_neg h];show⟨ws++[u],?_,FX r⟩;rw[ý];show Kr r c
abbrev dC(K:ZV)(H:Hp)(ps:bK):Prop:=∀p∈ps,Ó K H p.2.1 (p.1.map V.int)
def iV{σ:St}{ps:bK}(I:Inv X Dn σ H s)(e:Rd H a (aS a ps))(v:dC X.K H ps):(a==ğ)=dI/\ps.length<=Z7 /\
  ∃b,Á (ps.map (·.2.2)) b/\s.heap.DictOfH (Ű<|Ř X.prog X.w) a (bP ps b):=by
 obtain⟨⟨b,r,z,w,o,h,g,i,j,l,n,u⟩,_⟩:=(show Ì X.prog X.w H s.heap a (aS a ps)from e.ok I.hok);show⟨z,w,b,r,o,h,g,i,j,l,by rw[n];show wF ps b,λx A=>?_,by rw[lT r];show u⟩;obtain⟨p,y,c,d⟩:=AK A;rw[<- c,<- d];show kF I<|v p y
def sW{ps:bK}(n:(a==ğ)=dI)(l:ps.length<=Z7)(r:Á (ps.map (·.2.2)) ws)(d:h'.DictOfH (Ű<|Ř P w) a (bP ps ws)):Ì P w p h' a (aS a ps):=by obtain⟨o,e,c,b,g,h,i,_,j⟩:=d;show⟨⟨ws,r,n,l,o,e,c,b,g,h,by rw[i,wF (P:=P) (w:=w)],by rw[<- lT r];show j⟩,⟨o,b⟩,?_⟩;rintro v x ⟨ws,r,n,l,o,e,c,b,g,h,i,j⟩ u;show⟨ws,r,n,l,o,e,c,u o b,g,h,i,j⟩
def RX{σ:St}{ps:bK}(I:Inv X Dn σ H s)(e:Rd H a (aS a ps))(b:dC X.K H ps):s.TypeIs (.ref a) "dict":=by obtain⟨_,_,c,_,d⟩:=iV I e b;show d.typeIs
def oU{X:Cx}{A:ĺ}(b:A.units+1<â):(Ű<|Ř X.prog X.w).room A.in1:=by change A.in1.units<â;rw[iP];lia
def RY{σ:St}{ps:bK}(u:A.units+1<â)(I:Inv X Dn σ H s)(e:Rd H a (aS a ps))(n:dC X.K H ps)(l:Ó X.K H b (k.map V.int))(w:eB ps k=b0 v)(h:∀c j,Inv X Dn σ H j->Æ v c->Q c j):Ç (Å X.prog X.w) A (ju (.ref a)<|.ref b) Q E s:=by
 obtain⟨z,y,x,r,d⟩:=iV I e n;obtain⟨c,hw,i⟩:=ġ.some_of (v:=v) (o:=(Ŀ (bP ps x) k).map (·.2)) (by rw[<- w];show oT r k);obtain⟨p,o,g⟩:=ZX.mp hw;show Ng (oU u) (kF I l) d o ?_;rw[g];show h c _ (I.tok _) i
def RZ{σ:St}{ps:bK}(l:A.units+1<â)(I:Inv X Dn σ H s)(e:Rd H a (aS a ps))(i:dC X.K H ps)(g:Ó X.K H b (k.map V.int))(h:∀c,Inv X Dn σ H c->Q (.bool (eB ps k).isSome) c):Ç (Å X.prog X.w) A (Ĥ .In (.ref b)<|.ref a) Q E s:=by
 obtain⟨j,n,o,r,d⟩:=iV I e i;show wpAny_in_heap (oU l) (kF I g) j d ?_;have q:=(oT r k).isSome_eq;rw[yx]at q;rw[<- q];show h _<|I.tok _
def R0{σ:St}{ps:bK}(l:A.units+1<â)(I:Inv X Dn σ H s)(e:Rd H a (aS a ps))(i:dC X.K H ps)(g:Ó X.K H b (k.map V.int))(h:∀c,Inv X Dn σ H c->Q (.bool<|!(eB ps k).isSome) c):Ç (Å X.prog X.w) A (Ĥ .NotIn (.ref b)<|.ref a) Q E s:=by
 obtain⟨j,n,o,r,d⟩:=iV I e i;show b2g (oU l) (kF I g) j d ?_;have q:=(oT r k).isSome_eq;rw[yx]at q;rw[<- q];show h _<|I.tok _
def R6{σ:St}{ps:bK}(y:A.units+1<â)(I:Inv X Dn σ H s)(e:H a=b0 (aS a ps))(p:dC X.K H ps)(n:Ó X.K H b (k.map V.int))(hz:ps.length<Z7)(G:Æ v u)(h:∀i,Inv X Dn σ (upd H a<|aS a<|dJ ps k b v) i->Q () i):Ç (Å X.prog X.w) A (setItem (.ref a) (.ref b) u) Q E s:=by
 obtain⟨x,M,K,r,d⟩:=iV I (.of e) p;have z:(bP ps K).length<=Z7:=by have:=congrArg Ģ<|lT r;rw[ZT,ZT]at this;lia
 show OI (hsz:=z) (oU y) (kF I n) d λl c g=>h _ ?_;obtain⟨L,B,j⟩:=wG r k b G;rw[j]at c;have o:∃q,l.get? a=b0 q:=let⟨q,_,_,w,_⟩:=c;⟨q,w⟩;show n5 I (by rw[e];show ŭ) g o<|sW x (by have:=sV ps k b v;lia) B c
abbrev Þ(K:ZV)(π:Nat->Addr)(n:Nat)(H:Hp):bK->jx->Prop:=Ť λp q=>p.1=q.1/\Ó K H p.2.1 (p.1.map V.int)/\Í K π n H p.2.2 q.2
def R8{k:List Int}(h:Í K π n H (.ref b) (.tup<|k.map D.int)):Ó K H b (k.map V.int):=by
 cases h with
 |tup q t=>rw[Ċ t]at q;show q
def Þ.of:∀{ps}{kvs},ps.map (·.1)=kvs.map (·.1)->Ã K π n H (ps.map λp=>V.ref p.2.1) (kvs.map λk=>D.tup<|k.1.map D.int)->Ã K π n H (ps.map (·.2.2)) (kvs.map (·.2))->Þ K π n H ps kvs
 |[],[],_,_,_=>.nil|[],_::_,h,_,_=>by cases h
 |_::_,[],h,_,_=>by cases h
 |p::ps,q::kvs,h,h2,h3=>by
  cases h2 with
  |cons a b=>
   cases h3 with
   |cons c d=>rw[é,é,Ol]at h;show .cons ⟨h.1,?_,c⟩<|Þ.of h.2 b d;rw[h.1];show R8 a
def Þ.keys:∀{ps}{kvs},Þ K π n H ps kvs->dC K H ps
 |_,_,.nil=>λp a=>nomatch a|_,_,.cons h t=>λp a=>by
  rcases Ě.mp a with e|a
  .subst e;show h.2.1
  .show Þ.keys t p a
def Þ.to:∀{ps}{kvs},Þ K π n H ps kvs->ps.map (·.1)=kvs.map (·.1)/\Ã K π n H (ps.map λp=>V.ref p.2.1) (kvs.map λk=>D.tup<|k.1.map D.int)/\Ã K π n H (ps.map (·.2.2)) (kvs.map (·.2))
 |_,_,.nil=>⟨rfl,.nil,.nil⟩|_,_,.cons (a:=p) (b:=q) h t=>by obtain⟨a,b,c⟩:=Þ.to t;show⟨by rw[é,é,h.1,a],.cons ?_ b,.cons h.2.2 c⟩;change Í K π n H (.ref p.2.1) (.tup<|q.1.map D.int);rw[<- h.1];show .tup h.2.1<|Ap p.1
def Þ.val k:∀{ps}{kvs},Þ K π n H ps kvs->(eB ps k=b5/\aY kvs k=b5)\/∃v d,eB ps k=b0 v/\aY kvs k=b0 d/\Í K π n H v d
 |_,_,.nil=>.inl ⟨rfl,rfl⟩|_,_,.cons (a:=p) (b:=q) h t=>by
  have a:=Þ.val k t;unfold eB aY at a ⊢;rw[Ş,Ş,<- h.1];by_cases e:p.1=k
  .simp only[e,decide_true];show .inr ⟨_,_,rfl,rfl,h.2.2⟩
  .simp only[e,decide_false];show a
def Þ.put(h:Þ K π n H ps kvs)k(i:Ó K H b (k.map V.int))(g:Í K π n H v d):Þ K π n H (dJ ps k b v) (bW kvs k d):=by
 have e:(eB ps k).isSome=(aY kvs k).isSome:=by rcases h.val k with⟨a,c⟩|⟨v,d,a,c,_⟩<;>rw[a,c]<;>rfl
 have repl:∀{ps:bK}{kvs:jx},Þ K π n H ps kvs->Þ K π n H (ps.map λp=>if p.1=k then(p.1,p.2.1,v)else p) (kvs.map λp=>if p.1=k then(p.1,d)else p):=by
  intro ps kvs h;unfold Þ at h;induction h with
  |nil=>show .nil|@cons p q ps l h t j=>
   rw[é,é];show .cons ?_ j;by_cases z:p.1=k
   .rw[if_pos z,if_pos<|h.1.symm.trans z];show⟨h.1,h.2.1,g⟩
   .rw[if_neg z,if_neg λy=>z<|h.1.trans y];show h
 unfold dJ bW;rw[e];split
 .show repl h
 .show Kr h ⟨rfl,i,g⟩
def iA{kvs:jx}(R:Rp K π H μ)(h:μ[a]?=b0 (.dT kvs)):∃ps,H (π a)=b0 (aS (π a) ps)/\Þ K π μ.length H ps kvs:=by obtain⟨ps,b,c,d,e⟩:=R.dT a kvs h;show⟨ps,b,.of c d e⟩
def wH{kvs:jx}(R:Rp K π H μ)(h:μ[a]?=b0 (.dF kvs)):∃b ps,H (π a)=b0 (.frz b<|aS (π a) ps)/\Þ K π μ.length H ps kvs:=by obtain⟨b,ps,c,d,e,g⟩:=R.dF a kvs h;show⟨b,ps,c,.of d e g⟩
def mW(h:Í K π n H v x)(e:cM x=b0 k):∃b,v=.ref b/\Ó K H b (k.map V.int):=by
 have:=sP e;subst this;cases h with
 |tup q t=>rw[Ċ t]at q;show⟨_,rfl,q⟩
abbrev lU:ME:=λ_ a=>b0 (.loc a.length,a++[.dT []])
def FY(h:ç)(a:ğ<h.objs.size):Ì P w H (h.push {cls:=.type "dict",data:=.dict #[]}) h.objs.size (aS h.objs.size []):=
 sW (ws:=[]) (beq_eq_false_iff_ne.mpr<|ó<|ð a) (ŀ _) .nil<|b2u h
abbrev Sa:TE:=λ_ H Q=>∀p,H p=b5->Q (.ref p) (upd H p<|aS p [])
def Sb{pos:ß}:PE X (.Dict [] [] pos) Sa:=λDn s σ H Q I h=>wpAny_Dict_empty ⟨.ref s.heap.objs.size,_,I.laid (a:=s.heap.objs.size) (o:=aS s.heap.objs.size []) (t':=s.toks) (λ_ _ q=>Z1 _ q) (Z2 _)<|FY s.heap I.big,rfl,h _<|I.hok.fresh<|Z2 _⟩
def Se{pos:ß}:QE X (.Dict [] [] pos) lU:=⟨cU Sb<|by
 rintro n H Q ⟨j,l,i,d,g,R,E,c,k⟩ p e;cases c;obtain⟨b,a,h⟩:=R.alloc (c:=.dT []) (o:=aS p []) e ⟨[],rfl,rfl,.nil,.nil⟩;show k _ _ _ b a jY⟩
abbrev oV:D->D->Hm->jk
 |.loc a,y,μ=>match μ[a]? with
  |some (.dT kvs)=>(cM y).bind λk=>(aY kvs k).map λd=>(d,μ)|some (.dF kvs)=>(cM y).bind λk=>(aY kvs k).map λd=>(d,μ)|_=>b5
 |_,_,_=>b5
abbrev FZ(K:ZV):R2:=λx y H Q=>∃a b ps k v,x=.ref a/\y=.ref b/\Rd H a (aS a ps)/\dC K H ps/\Ó K H b (k.map V.int)/\eB ps k=b0 v/\Q v H
def Sf{pos:ß}(E:X.A.units+1<â)(A:PE X a td)(z:PE X b ty)(B:uV b):PE X (.Subscript a b pos) (λσ H Q=>td σ H λx d=>ty σ d λy g=>FZ X.K x y g Q):=by intro c s σ H Q I h;show zD Mq.lookup B<|aP (A c s σ H _ I h) λu R ⟨x,d,n,N,L⟩=>aP (z c R σ d _ n L) λK U ⟨y,g,j,O,a,b,T,k,v,p,r,e,l,w,G,M⟩=>?_;subst p r;obtain rfl:u=Ð a:=N;obtain rfl:K=Ð b:=O;show⟨RX j e l,RY E j e l w G λZ Y o i=>⟨v,g,o,i,M⟩⟩
def Sg:cZ K oV (FZ K):=by
 intro A H N x y d I L M Q R u w c k;unfold oV at c;split at c
 .split at c
  .rename_i n hc;obtain⟨h,j,c⟩:=ZS.mp c;obtain⟨B,g,c⟩:=ZX.mp c;cases c;cases u;obtain⟨o,i,T⟩:=iA R hc;obtain⟨b,rfl,l⟩:=mW w j;rcases T.val h with⟨_,z⟩|⟨v,E,p,r,s⟩
   .rw[z]at g;cases g
   .rw[r]at g;cases g;show⟨_,b,o,h,v,rfl,rfl,.of i,T.keys,l,p,k A _ H .refl R s⟩
  .rename_i n hc;obtain⟨h,j,c⟩:=ZS.mp c;obtain⟨B,g,c⟩:=ZX.mp c;cases c;cases u;obtain⟨G,o,i,T⟩:=wH R hc;obtain⟨b,rfl,l⟩:=mW w j;rcases T.val h with⟨_,z⟩|⟨v,E,p,r,s⟩
   .rw[z]at g;cases g
   .rw[r]at g;cases g;show⟨_,b,o,h,v,rfl,rfl,.inr ⟨G,i⟩,T.keys,l,p,k A _ H .refl R s⟩
  .cases c
 .cases c
def Sh{pos:ß}(g:Ô k X.A)(c:QE X a ma)(d:QE X b mb)(h:mM b=eA):QE X (.Subscript a b pos) (aC oV ma mb):=⟨cU (Sf (eX g) c.h d.h<|vP h)<|pS Sg⟩
abbrev Si(K:ZV)(td ty tv:TE):TS:=λD σ H=>tv σ H λv d=>td σ d λx g=>ty σ g λy c=>∃a b ps k,x=.ref a/\y=.ref b/\c a=b0 (aS a ps)/\dC K c ps/\Ó K c b (k.map V.int)/\ps.length<Z7/\D.nx σ (upd c a<|aS a<|dJ ps k b v)
def Sj{pos:ß}{tv:TE}(M:X.A.units+1<â)(K:PE X o td)(E:PE X i ty)(N:PE X e tv)(L:Ϧ e (b0<|.Subscript o i tpos) pos.line X.env=pure dI):
  PS X (.Assign [.Subscript o i tpos] e pos) (Si X.K td ty tv):=by
 intro c s d H D I h;show MZ (aP (N c s d H _ I h) λr s1 ⟨v,g,l,Y,R⟩=>aP (K c s1 d g _ l R) λu s2 ⟨x,j,n,Z,T⟩=>aP (E c s2 d j _ n T) λQ s3 ⟨y,H3,p,ry,a,b,ps,k,z,A,e,G,B,O,U⟩=>?_) L;subst z A;obtain rfl:u=Ð a:=Z;obtain rfl:Q=Ð b:=ry;show R6 M p e G B O Y λs4 w=>⟨d,_,w,U⟩
def Sk{pos:ß}(hr:Ô g X.A)(ho:QE X o mo)(hi:QE X i mi)(he:QE X e me)(h:jI e=eA):QS X (.Assign [.Subscript o i tpos] e pos) (lR oS mo mi me):=
 ⟨iL (Sj (DL hr) ho.h hi.h he.h<|sL h)<|by
 rintro E σ H ⟨π,M,μ,fl,ρ',μ',R,n,d,k⟩;obtain⟨⟨x,j⟩,h1,d⟩:=ZS.mp d;obtain⟨⟨y,l⟩,h2,d⟩:=ZS.mp d;obtain⟨⟨z,G⟩,h3,d⟩:=ZS.mp d;obtain⟨μ4,c,d⟩:=ZX.mp d;cases d;show⟨π,M,μ,x,j,R,n,h1,λI v1 H1 p Y i1=>⟨I,M,j,y,l,Y,n.mono p,h2,λK v2 H2 r R2 i2=>⟨K,M,l,z,G,R2,(n.mono p).mono r,h3,λL v3 H3 s N i3=>?_⟩⟩⟩;cases y with
 |loc a=>
  simp only[oS]at c;split at c
  .rename_i A hc;obtain⟨g,h5,c⟩:=ZS.mp c;split at c
   .rename_i hz;cases c;have w:=i2.mono s;cases w with
    |loc u=>
     obtain⟨B,Q,T⟩:=iA N hc;obtain⟨b,rfl,U⟩:=mW i3 h5;have hv:=(i1.mono r).mono s;have T':=T.put g U hv;obtain⟨g1,g2,g3⟩:=T'.to;have v:B.length<Z7:=by have:=congrArg Ģ (T.to).1;rw[ZT,ZT]at this;lia
     show⟨_,b,B,g,rfl,rfl,Q,T.keys,U,v,?_⟩;obtain⟨O,Z⟩:=N.put (c:=.dT (bW A g x)) (o:=aS _ (dJ B g b v1)) u Q (.inr<|.inr ⟨_,rfl⟩) ⟨_,rfl,g1,g2,g3⟩;show k L σ _ (((p.trans r).trans s).trans O) Z<|(((n.mono p).mono r).mono s).mono O
   .cases c
  .cases c
 |_=>simp[oS]at c⟩
abbrev sX(b:Bool):D->D->Hm->jk
 |x,.loc a,μ=>match μ[a]? with
  |some (.dT kvs)=>(cM x).map λk=>(.bl<|if b then !(aY kvs k).isSome else(aY kvs k).isSome,μ)|some (.dF kvs)=>(cM x).map λk=>(.bl<|if b then !(aY kvs k).isSome else(aY kvs k).isSome,μ)|_=>b5
 |_,_,_=>b5
abbrev AL(K:ZV)(c:Bool):R2:=λx y H Q=>∃a b ps k,x=.ref b/\y=.ref a/\Rd H a (aS a ps)/\dC K H ps/\Ó K H b (k.map V.int)/\Q (.bl<|if c then !(eB ps k).isSome else(eB ps k).isSome) H
def F0(j:X.A.units+1<â):ÿ X (Ĥ .In) (AL X.K dI):=by intro d s r H x y v u Q I l n h;obtain⟨a,b,o,k,rfl,rfl,e,i,g,q⟩:=h;obtain rfl:v=Ð b:=l;obtain rfl:u=Ð a:=n;show RZ j I e i g λp c=>⟨.bl _,H,c,rfl,q⟩
def F1(j:X.A.units+1<â):ÿ X (Ĥ .NotIn) (AL X.K eA):=by intro d s r H x y v u Q I l n h;obtain⟨a,b,o,k,rfl,rfl,e,i,g,q⟩:=h;obtain rfl:v=Ð b:=l;obtain rfl:u=Ð a:=n;show R0 j I e i g λp c=>⟨.bl _,H,c,rfl,q⟩
def wI:cZ K (sX j) (AL K j):=by
 intro s H B x y d w z A Q R p r a k;unfold sX at a;split at a
 .split at a
  .rename_i h hc;obtain⟨g,c,a⟩:=ZX.mp a;cases a;cases r;obtain⟨l,n,T⟩:=iA R hc;obtain⟨b,rfl,o⟩:=mW p c;have e:(eB l g).isSome=(aY h g).isSome:=by rcases T.val g with⟨c,i⟩|⟨v,d,c,i,_⟩<;>rw[c,i]<;>rfl
   show⟨_,b,l,g,rfl,rfl,.of n,T.keys,o,?_⟩;rw[e];show k s _ H .refl R<|.bl _
  .rename_i h hc;obtain⟨g,c,a⟩:=ZX.mp a;cases a;cases r;obtain⟨u,l,n,T⟩:=wH R hc;obtain⟨b,rfl,o⟩:=mW p c;have e:(eB l g).isSome=(aY h g).isSome:=by rcases T.val g with⟨c,i⟩|⟨v,d,c,i,_⟩<;>rw[c,i]<;>rfl
   show⟨_,b,l,g,rfl,rfl,.inr ⟨u,n⟩,T.keys,o,?_⟩;rw[e];show k s _ H .refl R<|.bl _
  .cases a
 .cases a
abbrev ò(h:ç)(d:Addr)(es:Array DictEntry)(ep:Nat):Prop:=∃z,h.get? d=b0 z/\z.ExactDict/\z.data=.dict es ep
def ò.ty{s:ZZ}{es ep}(g:ò s.heap d es ep):s.TypeIs (.ref d) "dict":=let⟨z,a,b,_⟩:=g;⟨z,a,b.1⟩
def ò.stay{es ep}(g:ò h d es ep)(k:∀o,h.get? d=b0 o->h'.get? d=b0 o):ò h' d es ep:=let⟨z,a,b⟩:=g;⟨z,k z a,b⟩
def ò.lt{h:ç}{d:Addr} {es ep} (g:ò h d es ep):d<h.objs.size:=let⟨_,a,_⟩:=g;Z8 a
def F2(lo:(d==ğ)=dI)(g:ò s.heap d es ep)(q:Q (.ref s.heap.objs.size) {s with heap:=s.heap.push {cls:=.type "dict_keyiterator",data:=.fields #[.ref d,.int 0 0,.int es.size 0,.int ep 0]}}):Ç (Å P w) A (cg<|.ref d) Q E s:=by
 obtain⟨z,a,c,b⟩:=id g;show NW g.ty F.slot_dict_iter<|au F.slot_dict_iter g.ty F.entry_dict_iter ?_<|F.args_dict_iter_1 _;unfold Builtin.«dict.__iter__» b2B;show ZU<|ZU<|zz g.ty ?_;change Ç _ _ (pure<|Ð d) _ _ _;show Z3 ?_;change Ç _ _ (zq d >>= _) _ _ _;unfold zq;rw[if_neg λx=>Z6<|lo.symm.trans x];show ZU<|Z3<|ZU<|Ϝ a b<|ZU<|qz a b<|ZU<|ο<|Z3 ?_;show⟨_,rfl,"dict_keyiterator",_,⟨_,Ă _ rfl,rfl⟩,F.slot_dict_keyiterator_next.lookup,by simpa[ŷ]using q⟩
def wJ(r:A.handled=b5)(j:s.heap.IsKeyIter it d i es.size ep)(g:ò s.heap d es ep)(B:∀e a,es[i]?=b0 e->a.IsKeyIter it d (i+1) es.size ep->γ it s.heap a->Q (b0 e.key) {s with heap:=a})(G:es[i]?=b5->∀a,yf it s.heap a->Q b5 {s with heap:=a}):Ç (Å P w) A (ņ<|.ref it) Q E s:=by
 obtain⟨y,c,v,b⟩:=id j;obtain⟨z,n,H,o⟩:=id g;have l:∀{Q:String->ZZ->Prop}{A:ĺ}{E:Value->ZZ->Prop},Q "dict_keyiterator" s->Ç (Å P w) A (NI<|.ref it) Q E s:=λq=>wpAny_typeNameOfWhole_keyiter j.typeIs q;unfold ņ;show ZU<|Lq<|Ob (name:=ϝ "__next__") j.typeIs F.slot_dict_keyiterator_next<|au F.slot_dict_keyiterator_next j.typeIs F.entry_dict_keyiterator_next ?_<|F.args_dict_keyiterator_next_1 _;show ZU<|Z3<|ZU<|ZU<|ZU<|l<|Z3<|ZU<|NO c b ?_;rw[show N1 "dict_keyiterator"=dI by decide,if_neg Z6];change Ç _ _ (if(Ð d==ŝ)=eA then _ else _) _ _ _;rw[if_neg<|show ¬ (Ð d==ŝ)=eA from λx=>Z6 x];show ZU<|Z3<|ZU<|Ϝ n o ?_;rw[if_neg λx=>by simp at x];show ZU<|Z3<|ZU<|qz n o ?_;rw[if_neg λx=>by simp at x];show Z3 ?_;dsimp only;rw[if_neg<|show ¬ ((i:Int)<0) by lia,gf];cases p:es[i]? with
 |some e=>
  show ZU<|ZU<|l<|Z3<|ZU<|O7 j.typeIs ?_;change Ç _ _ (K9 (.ref it) 1 (ŷ<|(i:Int)+1) >>= _) _ _ _;show ZU (M8 c b (by simp) ?_);have h:(s.heap.update it<|Nw (·.setIfInBounds 1<|ŷ<|(i:Int)+1)).IsKeyIter it d (i+1) es.size ep:=
   ⟨_,Κ _ c<|Obj.isFreed_of_fields<|OH b _,(Obj.cls_mapFields ..).trans v,by simp[OH b,ŷ]⟩
  generalize hu:s.heap.update it (Nw (·.setIfInBounds 1<|ŷ<|(i:Int)+1))=u at h;show ZU<|Ķ<|ZU<|O7 (s:={s with heap:=u}) h.typeIs ?_;change Ç _ _ (pure e.key) _ _ _;show Z3<|Z3 ⟨_,rfl,Z3<|B e u p h<|hu▸θ ..⟩
 |none=>show ZU<|ZU<|l<|Z3 ?_;change Ç _ _ (K9 (.ref it) 0 .none >>= _) _ _ _;show ZU (M8 c b (by simp) ?_);change Ç _ _ (K3 (.type "StopIteration") [] >>= _) _ _ _;simp only[K3,K8];show ZU (ZU<|ο ?_<|by size_fits);show ZU (m:=Kt _ _) (KQ (a:=ŝ) (by first|rfl|(simp only[Kt];rfl))<|ο ?_<|by size_fits);unfold raiseNew;show ZU<|wpAny_handled ?_;rw[show A.in1.handled=b5 from r];show ZU<|Z3<|wpAny_throw ?thrown;case thrown=>show ZU<|za (T:="StopIteration") (b:=eA) ⟨_,Ă _ rfl,rfl⟩ NL<|Z3<|G p _<|((θ ..).extBut.push _).push _
def Sn(n:A.handled=b5)(l:d≠it)es ep:Walks P w A it [it,d] [it] es.size (λi v=>∃e,es[i]?=b0 e/\v=e.key) (λi h=>h.IsKeyIter it d i es.size ep/\ò h d es ep) where
 sub:=λb a=>by rw[ā.mp a];show Ś ..
 frame:=λ_ _ _ st k=>⟨st.1.at λo e=>k it (by simp) o e,st.2.stay λo e=>k d (by simp) o e⟩
 item:=λi s Q E u st q=>wJ n st.1 st.2 (λe j c r p=>q _ j s.toks ⟨e,c,rfl⟩ ⟨r,st.2.stay λo g=>p.extBut d o l g⟩ λb o a g=>p.extBut b o (λz=>a<|by simp[z]) g) λc=>by simp at c;lia
 done:=λs Q E st q=>wJ n st.1 st.2 (λe j c=>by simp at c) λ_ j x=>q j s.toks λb o a g=>x b o (λz=>a<|by simp[z]) g
 self:=λ_ _ _ _ st q=>Nz st.1 q
def So(lo:(d==ğ)=dI):PySem.W.KdlSrc P w "dict" d d es.size (λi v=>∃e,es[i]?=b0 e/\v=e.key) (λh=>ò h d es ep) where
 type:=λ_ g=>g.ty
 there:=λ_ g=>⟨g.lt,g.lt⟩
 keep:=λ_ _ g k=>g.stay λo e=>k d (.inl rfl) o e
 notList:=by decide
 notTuple:=by decide
 hint:=λ_ _ _ _ g q=>PySem.W.kdl_hint_dict g.ty q
 iter:=λ_ _ a g=>⟨_,_,(λ_ _ q=>F2 lo g q),Sn a (ð g.lt) es ep,⟨⟨_,Ă _ rfl,rfl,rfl⟩,g.stay λo e=>Z1 _ e⟩⟩
def Sq(lo:(d==ğ)=dI):K7 P w (Builtin.«dict.__len__» ⟨[.ref d],[]⟩) (λ_ R s=>∃es ep,ò s.heap d es ep/\R (.ok<|.ret<|.int (es.size:Nat) s.toks) {s with toks:=s.toks+1}):=
 .of_wp λA R s ⟨es,ep,⟨z,a,c,b⟩,q⟩=>by change Ç _ _ (dictSize d >>= _) _ _ _;unfold dictSize;show ZU<|ZU<|Ϝ a b<|Z3 ?_;change Ç _ _ (b2x d >>= _) _ _ _;show ZU<|wpAny_pendingCount_other lo<|wpAny_ret_mkInt ?_;rw[Nj];show q
def Ss{s:ZZ}(lo:(d==ğ)=dI)(g:ò s.heap d es ep)(hz:es.size<=Z7)(q:Q (.int (es.size:Nat)<|s.toks+1) {s with toks:=s.toks+1+1}):Ç (Å P w) A (call (.builtin "len") [.ref d]) Q E s:=
 b2o g.ty F.slot_dict_len (λb a=>qu F.slot_dict_len g.ty F.entry_dict_len (F.args_dict_len_1 _) (Sq lo) ⟨es,ep,g,a⟩) ⋯ (by rw[è]at hz;lia) q
def AM:∀{ps}{ws},Á (ps.map (·.2.2)) ws->(bP ps ws).map (λx=>Ð x.2.1)=ps.map λp=>Ð p.2.1
 |[],_,_=>by simp[bP]
 |p::ps,_,.cons r t=>by have a:=AM (ps:=ps) t;unfold bP at a ⊢;rw[ι,é,é,a]
def F3:∀ps:bK,Á (ps.map λp=>V.ref p.2.1) (ps.map λp=>Ð p.2.1)
 |[]=>.nil|p::ps=>.cons rfl<|F3 ps
def wK{σ:St}{ps:bK}(I:Inv X Dn σ H s)(e:H a=b0 (aS a ps))(h:dC X.K H ps):(a==ğ)=dI/\ps.length<=Z7/\∃es ep,ò s.heap a es ep/\es.toList.map (·.key)=ps.map λp=>Ð p.2.1:=by obtain⟨j,i,l,r,z,es,ep,b,c,d,g,_⟩:=iV I (.of e) h;show⟨j,i,es,ep,⟨z,b,c,d⟩,?_⟩;rw[g,Û,<- AM r];rfl
abbrev F5(K:ZV):gz->Hp->VK->Prop:=λxs H Q=>∃a ps,xs=[V.ref a]/\H a=b0 (aS a ps)/\dC K H ps/\Q (.int ps.length) H
def Su:Î X (.builtin "len") (F5 X.K):=by
 intro Dn s σ H v p Q I r h;obtain⟨a,ps,rfl,c,e,q⟩:=h;obtain⟨u,rfl,l⟩:=fM r;cases l;obtain⟨j,o,b,n,g,d⟩:=wK I c e;have i:b.size=ps.length:=by have:=congrArg Ģ d;simpa using this
 show Ss j g ⋯ ?_;rw[i];show⟨.int ps.length,H,(I.tok _).tok _,⟨_,rfl⟩,q⟩
abbrev F6(K:ZV):gz->Hp->VK->Prop:=λxs H Q=>∃a ps,xs=[V.ref a]/\H a=b0 (aS a ps)/\dC K H ps/\∀l,H l=b5->Q (.ref l) (upd H l<|.lst<|ps.map λp=>V.ref p.2.1)
def Sv(hc:X.calm=eA):Î X (.type "list") (F6 X.K):=by
 intro Dn s σ H T R Q I r h;obtain⟨a,ps,rfl,z,A,q⟩:=h;obtain⟨u,rfl,K⟩:=fM r;cases K;obtain⟨G,B,o,M,g,d⟩:=wK I z A;have O:o.size=ps.length:=by have:=congrArg Ģ d;simpa using this
 show PySem.W.kdl_call (So G) (I.ok.hd hc) g ⋯ λN L b l E y c=>?_;show⟨.ref s.heap.objs.size,_,I.laid (t':=L) (a:=s.heap.objs.size) (o:=.lst (ps.map λp=>V.ref p.2.1)) E (Z2 _) ?_,rfl,q _<|I.hok.fresh<|Z2 _⟩;show⟨by rw[ZT];show B,b.toList,l,?_,by simpa using y⟩;have n:b.toList=ps.map λp=>Ð p.2.1:=by
  rw[<- d];show yu λi=>?_;rw[þ,ϲ,ϲ];cases j:b[i]? with
  |some v=>obtain⟨e,w,x⟩:=c.2 i v j;rw[w,x];rfl|none=>
   have:b.size<=i:=by simpa using j
   rw[PF<|by rw[<- c.1];show this];rfl
 rw[n];show F3 ps
def Sw{pos:ß}(n:Ô k X.A)(j:QE X a ma)(l:QE X b mb)(h:mM b=eA):QE X (.Subscript a b pos) (aC aE ma mb):=
 mO (mO (m:=aC (λx y g=>match oV x y g with|some r=>b0 r|none=>sI x y g) ma mb) (Sh n j l h) (a9y n j l h)<|gP λx y g r c=>by
  split at c
  .rename_i z;rw[z];show .inl c
  .show .inr c) (a9z j l h)<|gP λx y g r c=>by
  unfold aE at c;split at c
  .split at c
   .rename_i d hc;show .inl ?_;simp only[oV,sI,hc];show c
   .rename_i d hc;show .inl ?_;simp only[oV,hc];rw[c]
   .rename_i d hc;show .inl ?_;simp only[oV,hc];rw[c]
   .show .inr c
  .show .inr c
abbrev qU(c:Bool):D->D->Hm->jk:=λx y d=>match sX c x y d with
 |some r=>b0 r|none=>oI c x y d
def wL x y d r(h:qU c x y d=b0 r):sX c x y d=b0 r\/oI c x y d=b0 r:=by
 unfold qU at h;split at h
 .rename_i z;rw[z];show .inl h
 .show .inr h
def F7 x y l r(h:c3 g x y l=b0 r):(∃i j,x=.str i/\y=.str j)\/qU g x y l=b0 r:=by
 cases y with
 |loc a=>
  show .inr ?_;have e:c3 g x (.loc a) l=(match l[a]? with
   |some (.dT d)=>(cM x).map λk=>(D.bl<|if g then !(aY d k).isSome else(aY d k).isSome,l)|some (.dF d)=>(cM x).map λk=>(D.bl<|if g then !(aY d k).isSome else(aY d k).isSome,l)
   |_=>oI g x (.loc a) l):=by cases x<;>rfl
  rw[e]at h;unfold qU;simp only[sX];cases hc:l[a]? with
  |none=>rw[hc]at h;show h|some c=>
   rw[hc]at h;cases c with
   |dT d=>dsimp only at h ⊢;rw[h]|dF d=>dsimp only at h ⊢;rw[h]|_=>show h
 |str j=>
  cases x with
  |str i=>show .inl ⟨i,j,rfl,rfl⟩|_=>show .inr h
 |_=>cases x<;>show .inr h
def F8 x y c r(h:c3 dI x y c=b0 r):z8 x y c=b0 r\/qU dI x y c=b0 r:=by
 rcases F7 x y c r h with⟨i,j,rfl,rfl⟩|z
 .show .inl h
 .show .inr z
def F9 x y c r(h:c3 eA x y c=b0 r):Aj x y c=b0 r\/qU eA x y c=b0 r:=by
 rcases F7 x y c r h with⟨i,j,rfl,rfl⟩|z
 .show .inl h
 .show .inr z
def Sx{pos:ß}(g:Ô k X.A)(c:QE X a ma)(d:QE X b mb)(h:gD b=eA):QE X (.Compare a [.In] [b] pos) (aC (c3 dI) ma mb):=
 mO ⟨fP C7 Ee c.h d.h<|iS h⟩ (mO ⟨fP (F0<|eX g) wI c.h d.h<|iS h⟩ ⟨fP (EF<|vW g) vU c.h d.h<|iS h⟩<|gP wL)<|gP F8
def Sy{pos:ß}(g:Ô k X.A)(c:QE X a ma)(d:QE X b mb)(h:gD b=eA):QE X (.Compare a [.NotIn] [b] pos) (aC (c3 eA) ma mb):=
 mO ⟨fP DA EH c.h d.h<|iS h⟩ (mO ⟨fP (F1<|eX g) wI c.h d.h<|iS h⟩ ⟨fP (EG<|vW g) vU c.h d.h<|iS h⟩<|gP wL)<|gP F9
def Sz{pos:ß}(g:Ô k X.A)(c:QE X a ma)(d:QE X b mb)(h:gD b=eA):QT X (.Compare a [.In] [b] pos) (aR<|aC (c3 dI) ma mb):=
 qD ⟨fQ C7 Ee c.h d.h<|iS h⟩ (qD ⟨fQ (F0<|eX g) wI c.h d.h<|iS h⟩ ⟨fQ (EF<|vW g) vU c.h d.h<|iS h⟩<|qE<|gP wL)<|qE<|gP F8
def SA{pos:ß}(g:Ô k X.A)(c:QE X a ma)(d:QE X b mb)(h:gD b=eA):QT X (.Compare a [.NotIn] [b] pos) (aR<|aC (c3 eA) ma mb):=
 qD ⟨fQ DA EH c.h d.h<|iS h⟩ (qD ⟨fQ (F1<|eX g) wI c.h d.h<|iS h⟩ ⟨fQ (EG<|vW g) vU c.h d.h<|iS h⟩<|qE<|gP wL)<|qE<|gP F9
abbrev putU:D->D->D->Hm->Option Hm:=λo i d c=>match oS o i d c with
 |some r=>b0 r|none=>sT o i d c
def SE{pos:ß}(l:Ô k X.A)(j:QE X o mo)(g:QE X i mi)(d:QE X e me)(h:jI e=eA):QS X (.Assign [.Subscript o i tpos] e pos) (kI mo mi me):=
 FL (FL (m:=lR putU mo mi me) (Sk l j g d h) (RB l j g d h)<|FP λx y z p r c=>by
  unfold putU at c;split at c
  .rename_i q;rw[q];show .inl c
  .show .inr c) (RA j g d h)<|FP λx y z p r c=>by
  unfold mT at c;split at c
  .split at c
   .rename_i a n hc;show .inl ?_;unfold putU;simp only[oS,hc];show c
   .show .inl ?_;unfold putU;rw[c]
   .show .inr c
  .cases c
abbrev AN(K:ZV)(a b:Addr):It:=
 ⟨λi H=>∃c d x y,ê K H a c/\ê K H b d/\c[i]?=b0 x/\d[i]?=b0 y,
   λi H z e=>∃p v u,z=.ref p/\H p=b5/\e=upd H p (.tup [v,u])/\(∀c,ê K H a c->c[i]?=b0 v)/\∀d,ê K H b d->d[i]?=b0 u,
   λi H=>∃c d,ê K H a c/\ê K H b d/\(c.length<=i\/d.length<=i)⟩
def SF(B:ZipApart z r to l n a b):
  ħ Qc P w K (.Tuple es kx pt) (AN K a b) [z,r,to,l,n] z (λi h=>IsZip h z r to .none/\IsPair h r (.ref l) (.ref n)/\(∃u v,IsPair h to u v)/\h.IsListIter l a i/\h.IsListIter n b i) where
 mem:=by simp
 obj:=λi h ⟨A,G,⟨u,v,M⟩,N,O⟩ c hc=>by
  have hc':c=z\/c=r\/c=to\/c=l\/c=n:=by simpa using hc
  rcases hc' with rfl|rfl|rfl|rfl|rfl
  .show⟨_,A,λq e=>by
    have U:İ _=lu q:=e;cases U⟩
  .show⟨_,G,λq e=>by
    have U:KN _ _=lu q:=e;cases U⟩
  .show⟨_,M,λq e=>by
    have U:KN _ _=lu q:=e;cases U⟩
  .obtain⟨o,e1,c,d⟩:=N;show⟨o,e1,λv e=>by rw[d]at e;cases e⟩
  .obtain⟨o,e1,c,d⟩:=O;show⟨o,e1,λv e=>by rw[d]at e;cases e⟩
 keep:=λi h h' ⟨A,G,⟨u,v,M⟩,N,O⟩ k=>⟨k z (by simp) _ A,k r (by simp) _ G,⟨u,v,k to (by simp) _ M⟩,N.at λo e=>k l (by simp) o e,O.at λo e=>k n (by simp) o e⟩;item:=by
  intro X hP hw hK hc i Dn s σ H E I Z ⟨A,G,⟨u,v,M⟩,N,O⟩ hg;subst hP hw hK;obtain⟨xs,ys,x,y,hq,L,T,hy⟩:=hg;obtain⟨its,rv,p,hz⟩:=I.list hq;obtain⟨Y,Q,p2,hz2⟩:=I.list L;obtain⟨u1,eX,ru1⟩:=rv.get T;obtain⟨u2,hu2,ru2⟩:=Q.get hy;show wpAny_pyNext_zip_item B A G M N O p.isList p2.isList (x:=u1) (y:=u2) (by simpa using eX) (by simpa using hu2) λh1 a1 a2 a3 a4 a5 a6 hk=>⟨_,rfl,wpAny_letOwnedTupleGo_zip a1 λh2 b1 j=>?_⟩;have ne:∀{c o},s.heap.get? c=b0 o->s.heap.objs.size≠c:=λe=>ů<|Z8 e;have l4:∃o,s.heap.get? l=b0 o:=let⟨o,e,_⟩:=N;⟨o,e⟩;have l5:∃o,s.heap.get? n=b0 o:=let⟨o,e,_⟩:=O;⟨o,e⟩;have ht2:h2.get? s.heap.objs.size=b0 {cls:=.type "tuple",data:=.seq #[u1,u2]}:=(j.2 _<|ne A).trans a5;have hfr:H s.heap.objs.size=none:=I.hok.fresh<|Z2 _;have g2':IsPair h2 r (.ref l) (.ref n):=(j.2 _ B.TIz).trans<|hk _ _ B.TIz B.TITO B.TIi1 B.TIi2 G;show⟨.ref s.heap.objs.size,upd H s.heap.objs.size<|.tup [x,y],?_,rfl,⟨s.heap.objs.size,x,y,rfl,hfr,rfl,λws hw=>by rw[I.list_inj hw hq];show T,λws hw=>by rw[I.list_inj hw L];show hy⟩,
   ⟨b1,g2',⟨_,_,(j.2 _ B.TOz).trans a2⟩,a3.extBut j.extBut B.i1z,a4.extBut j.extBut B.i2z⟩,λc R=>?_⟩
  .show AE (s:=s) (h':=h2) (t':=s.toks) (ch:=[z,r,to,l,n]) I (λc oc R ec=>?_) Z (Z2 _) ?_
   .have g:c≠z/\c≠r/\c≠to/\c≠l/\c≠n:=by simpa using R
    show(j.2 c g.1).trans<|hk c oc g.1 g.2.2.1 g.2.2.2.1 g.2.2.2.2 ec
   .show⟨by change(2:Nat)<=Z7;decide,[u1,u2],.cons ru1<|.cons ru2 .nil,_,ht2,rfl,0,rfl,rfl⟩
  .have g:c=z\/c=r\/c=to\/c=l\/c=n:=by simpa using R
   have hn:=(Z c R).1;rw[bC]
   .show hn
   .rcases g with rfl|rfl|rfl|rfl|rfl
    .show(ne A).symm
    .show(ne G).symm
    .show(ne M).symm
    .show(ne l4.choose_spec).symm
    .show(ne l5.choose_spec).symm
 done:=by
  intro X hP hw hK hc i Dn s σ H E I Z ⟨A,G,⟨u,v,M⟩,N,O⟩ hg;subst hP hw hK;obtain⟨xs,ys,hq,L,T⟩:=hg;obtain⟨its,rv,p,hz⟩:=I.list hq;obtain⟨Y,Q,p2,hz2⟩:=I.list L;have hl:=rv.length;have hl2:=Q.length;show wpAny_pyNext_zip_end (I.ok.hd hc) B A G M N O p.isList p2.isList ?_ λh' eb=>⟨rfl,FK (t':=s.toks) (ch:=[z,r,to,l,n]) I (λc o R e=>?_) Z⟩
  .rcases T with T|T
   .show .inl<|by simp;lia
   .show .inr<|by simp;lia
  .have g:c≠z/\c≠r/\c≠to/\c≠l/\c≠n:=by simpa using R
   show eb c o g.1 g.2.2.1 g.2.2.2.1 g.2.2.2.2 e
 self:=λ_ _ _ _ _ ⟨A,_⟩ h=>Nq A h
abbrev sY(x y:D):eJ:=λa i=>(bL a x).bind λxs=>(bL a y).map λb=>(xs[i]?).bind λd=>(b[i]?).map λe=>.tup [d,e]
abbrev sZ(ms:MA):MI:=λd c=>(ms d c).bind λp=>match p.1 with
 |[x,y]=>(e8 p.2 x).bind λa=>(e8 p.2 y).map λb=>(sY x y,min a.length b.length+1,p.2)|_=>b5
def Ga(R:Rp K π H j)(h:Í K π j.length H v x)(l:e8 j x=b0 xs):∃p,v=.ref p/\(∃vs,ê K H p vs) /\
  ∀c a d,à π j.length H c a.length d->Rp K c d a->∀i,bL a x=b0 i->∃g,ê K d p g/\Ã K c a.length d g i:=by
 obtain⟨p,vs,rfl,w,_⟩:=qJ R h l;show⟨p,rfl,⟨vs,w⟩,λc a d e o i n=>?_⟩;have u:e8 a x=b0 i:=by
  cases x with
  |rol A=>show n|loc b=>show n|_=>cases l
 obtain⟨z,g,s,y,r⟩:=qJ o (h.mono e) u;cases s;show⟨g,y,r⟩
def SG(R:Rp K π H n)(h:Í K π n.length H v x)(h':Í K π n.length H v' y)(hs:e8 n x=b0 xs)(I:e8 n y=b0 ys):
  ∃a b,v=.ref a/\v'=.ref b/\(∃N,ê K H a N)/\(∃N,ê K H b N)/\Wk K (AN K a b) (sY x y) π n.length H:=by
 obtain⟨a,rfl,qa,U⟩:=Ga R h hs;obtain⟨b,rfl,qb,X⟩:=Ga R h' I;show⟨a,b,rfl,rfl,qa,qb,λg c o i e j z=>?_,λg c o i d e j z=>?_⟩
 .obtain⟨p,E,z⟩:=ZS.mp z;obtain⟨bs,G,z⟩:=ZX.mp z;obtain⟨w,r,A⟩:=U g c o e j p E;obtain⟨u,s,B⟩:=X g c o e j bs G;show⟨w,u,r,s,?_⟩;rw[A.length,B.length];cases O:p[i]? with
  |none=>show .inl (Ξ.mp O)|some d=>
   cases l:bs[i]? with
   |none=>show .inr (Ξ.mp l)|some d'=>rw[O,l]at z;cases z
 .obtain⟨p,E,z⟩:=ZS.mp z;obtain⟨bs,G,z⟩:=ZX.mp z;obtain⟨d1',h3,z⟩:=ZS.mp z;obtain⟨d2',h4,h5⟩:=ZX.mp z;subst h5;obtain⟨w,r,A⟩:=U g c o e j p E;obtain⟨u,s,B⟩:=X g c o e j bs G;obtain⟨w1,Q,k1⟩:=A.get h3;obtain⟨w2,T,k2⟩:=B.get h4;show⟨⟨w,u,w1,w2,r,s,Q,T⟩,?_⟩;rintro y H2 ⟨t,v1,v2,rfl,hn,rfl,L,M⟩;have Y:=L w r;have Z:=M u s;rw[Q]at Y;rw[T]at Z;cases Y;cases Z;obtain⟨l,R2⟩:=j.fresh (o:=.tup [w1,w2]) hn;show⟨l,R2,.tup (.of cQ)<|.cons (k1.mono l)<|.cons (k2.mono l) .nil⟩
abbrev SJ(K:ZV)(d:TA):TI:=λσ H R=>d σ H λvs c=>∃a b,vs=[.ref a,.ref b]/\(∃xs,ê K c a xs)/\(∃e,ê K c b e)/\R (AN K a b) c
open PyProof.Rows in
def SK{X:Cx}{a b:Expr}{B:TA}{p pos pt:ß}{es:List Expr}{kx:Nat}(U:Gl X "zip") (Z:X.mg "zip"=b5) (T:PA X [a,b] B)(hs:æ [a,b] X.env=(dI,eval a X.env)::æ [b] X.env)(u:(ĸ pos<|æ [b] X.env).any (·.1)=dI) :
  PI X (.Tuple es kx pt) (.Call (.Name "zip" p) [a,b] [] pos) (SJ X.K B):=by
 intro i s E H R I h;show qm<|gU I U Z Boot.«zip»<|iu (aP (T pos i s E H _ I h) λus d ⟨vs,x,g,r1,q1⟩=>?_) hs u;obtain⟨n,o,rfl,⟨ws,hq⟩,⟨ws2,r⟩,q⟩:=q1;cases r1 with
 |cons ru v=>
  cases v with
  |cons w v=>
   cases v;cases ru;cases w;obtain⟨its,rv,A,hz⟩:=g.list hq;obtain⟨z,rv2,l,hz2⟩:=g.list r;have la:n<d.heap.objs.size:=let⟨_,e,_⟩:=A.isList;Z8 e;have lb:o<d.heap.objs.size:=let⟨_,e,_⟩:=l.isList;Z8 e;show call_zip_2 A.isList l.isList λQ y L M N O hsz Y=>Nq y ?_;have G:Inv X i E x {d with heap:=Q}:=g.kept (t':=d.toks) Y;have K:ZipApart (d.heap.objs.size+4) (d.heap.objs.size+2) (d.heap.objs.size+3) d.heap.objs.size (d.heap.objs.size+1) n o:=by have la':@LT.lt Nat _ n d.heap.objs.size:=la;have lb':@LT.lt Nat _ o d.heap.objs.size:=lb;constructor<;>(change @Ne Nat _ _;lia)
   show⟨d.heap.objs.size+4,[d.heap.objs.size+4,d.heap.objs.size+2,d.heap.objs.size+3,d.heap.objs.size,d.heap.objs.size+1],_,_,x,rfl,G,SF K,⟨y,L,⟨_,_,M⟩,N,O⟩,λc hc=>?_,q⟩;have j:d.heap.objs.size<=c:=by simp only[Ě,fu,or_false]at hc;rcases hc with rfl|rfl|rfl|rfl|rfl<;>first|show Nat.le_add_right _ _|show Z2 _
   show g.fpOk j<|g.hok.fresh j
def SM{pos:ß}(d:Gl X "zip")(e:X.mg "zip"=b5)(o:QA X [a,b] ms n):vh X (.Call (.Name "zip" p) [a,b] [] pos) (sZ ms):=⟨λes kx pt Dn s σ H R I hw=>by
 have g:=o.s;rw[Ĺ,Z9,Ĺ,Z9]at g;obtain⟨Y,Z,T,N,n',U,u,E,c,k⟩:=hw;obtain⟨⟨x,i⟩,A,c⟩:=ZS.mp c;show SK d e o.h (fF g.1) (by rw[fF g.2.1];rfl) Dn s σ H R I ⟨Y,Z,T,x,i,u,E,A,λj vs r z l h=>?_⟩;dsimp only at c;split at c
 .rename_i x y;obtain⟨xs,B,c⟩:=ZS.mp c;obtain⟨ys,G,c⟩:=ZX.mp c;cases c;cases h with
  |cons h O=>
   cases O with
   |cons K Q=>cases Q;obtain⟨v,w,rfl,rfl,L,M,W⟩:=SG l h K B G;show⟨v,w,rfl,L,M,k j r _ z l W⟩
 .cases c⟩
def SN:xx (.type "tuple") "keys"=pure none:=by rw[Lv,MV];kernel_rfl
def SO(g:s.heap.get? a=b0 o)(j:o.cls=.type "tuple")(l:o.data=.seq xs k)(n:o.dict=b5)(hA:A.handled=b5)(q:∀h p,(∀b u,s.heap.get? b=b0 u->h.get? b=b0 u)->Q b5 {s with heap:=h,toks:=p}):Ç (Å P w) A (getAttr? (.ref a) "keys") Q E s:=by
 obtain⟨c,v,r,G⟩:=o;dsimp only at j l n;subst j l n;obtain⟨z,y,x,p,B⟩:=s;have ty:∀d,(⟨z,y,x,d,B⟩:ZZ).TypeIs (.ref a) "tuple":=λ_=>⟨_,g,rfl⟩;have H:=sub_AttributeError;have I:=F.slot_tuple_getattribute.lookup;have K:=F.slot_tuple_getattribute.bind<|.ref a;have L:=am_tuple_getattr_none;unfold getAttr? getAttrBy? getAttrBy;repeat (any_goals (first|assumption|show ty _|((with_reducible change Ç _ _ (call (ω "tuple.__getattribute__") _ _) _ _ _);show qt F.slot_tuple_getattribute (ty _) am_entry_tuple_getattribute (F.args_tuple_getattribute_2 _ _) (meets_getattribute_miss_tuple a xs k G "keys" _ SN<|by decide +kernel) ⟨g,hA,λh d e ne=>?_⟩)|wp_step))
 obtain⟨M,N,i⟩:=ne.there;change Ç _ _ (Nd _ _ _ _ b5 dI dI) _ _ _;unfold Nd;repeat (any_goals (first|assumption|wp_step))
 show q _ _ ne.of.keeps
def Gb:entryFor table "dict.update.loop"=b0 Builtin.«dict.update.loop»:=entryFor_of_tree<|by kernel_rfl
def wM:plainId "dict.update.loop"=true:=by decide +kernel
abbrev oW(ps:bK):List (Addr×List Int×Addr×V)->bK
 |[]=>ps|r::L=>oW (dJ ps r.2.1 r.2.2.1 r.2.2.2) L
def SQ{σ:St}{ps:bK}(B:A.units<â)(I:Inv X Dn σ H s)(e:H d=b0 (aS d ps))(x:dC X.K H ps)(p:Ó X.K H b (k.map V.int))(hz:ps.length<Z7)(L:Æ v u)(h:∀i,Inv X Dn σ (upd H d<|aS d<|dJ ps k b v) i->(∀c o,c≠d->s.heap.get? c=b0 o->i.heap.get? c=b0 o)->Q () i):Ç (Å X.prog X.w) A (dictSet d (.ref b) u) Q E s:=by
 obtain⟨z,O,M,r,j⟩:=iV I (.of e) x;have G:(bP ps M).length<=Z7:=by have:=congrArg Ģ<|lT r;rw[ZT,ZT]at this;lia
 show wpAny_dictSet_heap (hsz:=G) (show(Ű<|Ř X.prog X.w).room A from B) (kF I p) j λn g a=>h _ ?_ λc o hc e=>a.extBut c o hc e;obtain⟨N,K,l⟩:=wG r k b L;rw[l]at g;have w:∃q,n.get? d=b0 q:=let⟨q,_,_,y,_⟩:=g;⟨q,y⟩;show n5 I (by rw[e];show ŭ) a w<|sW z (by have:=sV ps k b v;lia) K g
def tB{ps:bK}(e:H d=b0 (aS d ps))(h:Ó K H b vs):Ó K (upd H d o) b vs:=by
 have ne:∀{u},H b=b0 u->(∀c,u≠aS d c)->b≠d:=λz f y=>by rw[y,e]at z;cases z;show f ps rfl
 rcases h with(h|⟨a,h⟩)|h
 .show .inl<|.inl<|by rw[bC<|ne h λ_ z=>by cases z];show h
 .show .inl<|.inr ⟨a,by rw[bC<|ne h λ_ z=>by cases z];show h⟩
 .show .inr h
def SR(h:dC K H ps)(g:Ó K H b (k.map V.int)):dC K H (dJ ps k b v):=by
 intro p a;unfold dJ at a;split at a
 .obtain⟨d,c,e⟩:=Õ.mp a;by_cases z:d.1=k
  .rw[if_pos z]at e;subst e;show h d c
  .rw[if_neg z]at e;subst e;show h d c
 .rcases ù.mp a with a|a
  .show h p a
  .rw[ā.mp a];show g
def Gd:upd (upd H d o) d a=upd H d a:=by
 funext b;unfold upd;split
 .rfl
 .rfl
def SS{Q:gw->ZZ->Prop}(h:jj s.heap p xs)(q:Q xs.toList s):Ç (Å P w) A (Pn<|.ref p) Q E s:=by obtain⟨o,g,c,n,a⟩:=h;have ty:s.TypeIs (.ref p) "tuple":=⟨o,g,c⟩;unfold Pn;show ZU<|yd ty ?_;rw[if_pos<|by decide];unfold Rr;show ZU<|ZU<|KS g ?_;rw[a];show Z3<|Z3 q
def SU{σ:St}(hh:A.handled=b5)(hu:A.in1.units<â):∀L i(ps:bK)H s,Inv X Dn σ H s->H d=b0 (aS d ps)->dC X.K H ps->Ó X.K H t ys->ys.drop i=L.map (λr=>V.ref r.1)->
  (∀r∈L,Ó X.K H r.1 [.ref r.2.2.1,r.2.2.2]/\Ó X.K H r.2.2.1 (r.2.1.map V.int))->gW X Dn H it->s.heap.IsTupleIter it t i->ps.length+L.length<=Z7->
  (∀K,Inv X Dn σ (upd H d<|aS d<|oW ps L) K->R (.ok<|.ret .none) K)->ź (Å X.prog X.w) A (.builtin "dict.update.loop" ⟨[.ref d,.ref it,ŷ i,.none],[]⟩) R s:=by
 intro L;induction L with
 |nil=>
  intro i ps H s I e T B hd E Q st Y q;obtain⟨g,rv,p,Z⟩:=I.tuple B;obtain⟨j,n,f2,v,w,y⟩:=Q;have hl:=rv.length;have hlen:ys.length<=i:=by have:=congrArg Ģ hd;simp at this;lia
  show ű Gb ?_;rw[Ŵ wM _];change Ç _ A.in1 (ņ (.ref it) >>= _) _ _ s;show ZU (P2 hh st (show s.heap.IsTuple t g.toArray from p) (by simp;lia) λM eb=>?_);have l:Inv X Dn σ H {s with heap:=M}:=I.turned (t':=s.toks) (λb o N e=>eb b o N e) j n v w y;change Ç _ _ (QF d [] >>= _) _ _ _;show ZU<|Z3<|Z3<|q _ ?_;have:upd H d (aS d<|oW ps [])=H:=by
   funext b;unfold upd;split
   .rename_i z;rw[z];show e.symm
   .rfl
  rw[this];show l
 |cons r L ih=>
  intro i ps H s I e T B hd E Q st Y q;obtain⟨g,rv,p,Z⟩:=I.tuple B;obtain⟨j,n,f2,v,w,y⟩:=id Q;have G:ys[i]?=b0 (.ref r.1):=by have:=congrArg (·[0]?) hd;simpa using this
  obtain⟨u,eX,ru⟩:=rv.get G;cases ru;show ű Gb ?_;rw[Ŵ wM _];change Ç _ A.in1 (ņ (.ref it) >>= _) _ _ s;show ZU (Oc st (show s.heap.IsTuple t g.toArray from p) (x:=.ref r.1) (by simpa using eX) λM st' sb=>?_);have l:Inv X Dn σ H {s with heap:=M}:=I.turned (t':=s.toks) (λb o N e=>(sb.2 b N).trans e) j n v w y;have a:=E r<|Ś ..;obtain⟨its2,rv2,p2,_⟩:=l.tuple a.1;cases rv2 with
  |cons rk rr=>
   cases rr with
   |cons rw' rr=>
    cases rr;cases rk;rename_i w0;show ZU<|Ķ<|ZU<|Ϟ<|SS p2 ?_;have U:ps.length<Z7:=by rw[ć]at Y;lia
    show Ķ<|SQ hu l e T a.2 U rw' λK I2 kp=>?_;show Z3 ⟨ŧ wM _,?_⟩;have bJ:it≠d:=λz=>by rw[<- z,j]at e;cases e
    have c:∀x∈L,Ó X.K (upd H d<|aS d<|dJ ps r.2.1 r.2.2.1 r.2.2.2) x.1 [.ref x.2.2.1,x.2.2.2]/\Ó X.K (upd H d<|aS d<|dJ ps r.2.1 r.2.2.1 r.2.2.2) x.2.2.1 (x.2.1.map V.int):=λx G=>⟨tB e (E x<|ň _ G).1,tB e (E x<|ň _ G).2⟩;have O:ys.drop (i+1)=L.map (λr=>V.ref r.1):=by have:=congrArg List.tail hd;simpa[List.tail_drop]using this
    show ih (i+1) (dJ ps r.2.1 r.2.2.1 r.2.2.2) _ K I2 cQ (SR (λp hp=>tB e<|T p hp)<|tB e a.2) (tB e B) O c ⟨by rw[bC bJ];show j,n,f2,v,w,y⟩ (st'.at λo ho=>kp it o bJ ho) ?_ λs'' h=>q s'' ?_
    .have:=sV ps r.2.1 r.2.2.1 r.2.2.2;rw[ć]at Y;lia
    .rw[Gd]at h;show h
abbrev Ge(K:ZV):gz->Hp->VK->Prop:=λxs H Q=>∃(t:Addr)(L:List (Addr×List Int×Addr×V)),xs=[V.ref t]/\Ó K H t (L.map λr=>V.ref r.1) /\
 (∀r∈L,Ó K H r.1 [.ref r.2.2.1,r.2.2.2]/\Ó K H r.2.2.1 (r.2.1.map V.int))/\∀d,H d=b5->Q (.ref d) (upd H d<|aS d<|oW [] L)
def SV(hc:X.calm=eA)(Z:X.A.units+64<â):Î X (.type "dict") (Ge X.K):=by
 intro d s O H xs us Q I r h;obtain⟨t,L,rfl,w,N,k⟩:=h;obtain⟨u,rfl,ru⟩:=fM r;cases ru;have M:H s.heap.objs.size=none:=I.hok.fresh<|Z2 _;show NK (Q₁:=λi c=>i=.ref s.heap.objs.size/\c={s with heap:=s.heap.push {cls:=.type "dict",data:=.dict #[]}}) F.kt_called_dict (F.kt_typeCall_dict_1 _) F.entry_dict_init (kt_code_dict_new _ ⟨rfl,rfl⟩) ?_;rintro i c ⟨rfl,rfl⟩;have E:Inv X d O (upd H s.heap.objs.size<|aS s.heap.objs.size []) {s with heap:=s.heap.push {cls:=.type "dict",data:=.dict #[]}}:=I.laid (a:=s.heap.objs.size) (o:=aS s.heap.objs.size []) (t':=s.toks) (λ_ _ q=>Z1 _ q) (Z2 _)<|FY s.heap I.big;have ty:({s with heap:=s.heap.push {cls:=.type "dict",data:=.dict #[]}}:ZZ).TypeIs (.ref s.heap.objs.size) "dict":=⟨_,Ă _ rfl,rfl⟩;show⟨ty,F.args_dict_init_2 _ _,?_⟩;unfold Builtin.«dict.__init__»;show ZU ?_;unfold QH;show ZU<|zz ty ?_;change Ç _ _ (pure (s.heap.objs.size,[Ð t])) _ _ _;show Z3 ?_;change Ç _ _ (LQ "dict.__init__" s.heap.objs.size (.ref t) [] .none) _ _ _;unfold LQ;have mono:∀{b:Addr}{vs:gz},Ó X.K H b vs->Ó X.K (upd H s.heap.objs.size<|aS s.heap.objs.size []) b vs:=λ{b vs} z=>by
  have ne:H b≠b5->b≠s.heap.objs.size:=λf y=>by rw[y]at f;show f M
  rcases z with(z|⟨A,z⟩)|z
  .show .inl<|.inl<|by rw[bC<|ne<|by rw[z];show λy=>nomatch y];show z
  .show .inl<|.inr ⟨A,by rw[bC<|ne<|by rw[z];show λy=>nomatch y];show z⟩
  .show .inr z
 obtain⟨its,rv,A,G,K,n,T,U⟩:=E.tupN<|mono w;show ZU<|yd ⟨A,G,K⟩ ?_;rw[if_pos<|by decide];show ZU<|SO G K T U (I.ok.hd hc) λv l kp=>?_;have j:Inv X d O (upd H s.heap.objs.size<|aS s.heap.objs.size []) {s with heap:=v,toks:=l}:=E.kept (t':=l) kp;change Ç _ _ (rule _ >>= _) _ _ _;show ZU<|ϧ ?_;obtain⟨a,rv',p',x⟩:=j.tuple<|mono w;show ZU<|uw (t:=t) (items:=a.toArray) (show({s with heap:=v,toks:=l}:ZZ).heap.IsTuple t a.toArray from p') ?_;have R:=j.kept (t':=l) (h':=v.push {cls:=.type "tuple_iterator",data:=.fields #[.ref t,.int 0 0]}) λb o e=>Z1 _ e;show Z3 ⟨ŧ wM _,?_⟩;show SU (A:=X.A.in1) (I.ok.hd hc) ?_ L 0 [] _ _ R cQ (λp Y=>nomatch Y) (mono w) rfl (λr g=>⟨mono (N r g).1,mono (N r g).2⟩) (j.fpOk (Z2 _)<|j.hok.fresh<|Z2 _) ⟨_,Ă _ rfl,rfl,rfl⟩ ?_ λs' B=>?_
 .change X.A.units+1+1<â;lia
 .have:=x;simp at this ⊢;show this
 .rw[Gd]at B;show⟨rfl,.ref s.heap.objs.size,_,B,rfl,k _ M⟩
abbrev qV:List D->Option (jx)
 |[]=>b0 []|.tup [x,v]::r=>(cM x).bind λk=>(qV r).map λl=>(k,v)::l|_::_=>b5
abbrev oX:MF:=λds a=>match ds with
 |[.tup xs]=>(qV xs).map λl=>(.loc a.length,a++[.dT<|l.foldl (λq p=>bW q p.1 p.2) []])|_=>b5
noncomputable abbrev Gf(K:ZV)(π:Nat->Addr)(n:Nat)(H:Hp):List (Addr×List Int×Addr×V)->jx->Prop:=
 Ť λr p=>r.2.1=p.1/\Ó K H r.1 [.ref r.2.2.1,r.2.2.2]/\Ó K H r.2.2.1 (r.2.1.map V.int)/\Í K π n H r.2.2.2 p.2
def Gg:∀{xs}{ws}{l},Ã K π n H ws xs->qV xs=b0 l->∃L,ws=L.map (λr=>V.ref r.1)/\Gf K π n H L l
 |[],_,_,.nil,h=>by cases h;show⟨[],rfl,.nil⟩
 |x::xs,_,l,.cons i t,h=>by
  unfold qV at h;split at h
  .rename_i a;cases a
  .rename_i y v r a;cases a;obtain⟨k,d,h⟩:=ZS.mp h;obtain⟨o,e,rfl⟩:=ZX.mp h;obtain⟨L,rfl,P⟩:=Gg t e;cases i with
   |tup q z=>
    cases z with
    |cons g z=>
     cases z with
     |cons j z=>cases z;obtain⟨b,rfl,c⟩:=mW g d;show⟨(_,k,b,_)::L,rfl,.cons ⟨rfl,q,c,j⟩ P⟩
  .cases h
def Gh:∀{L}{l},Gf K π n H L l->∀{ps}{kvs},Þ K π n H ps kvs->Þ K π n H (oW ps L) (l.foldl (λq p=>bW q p.1 p.2) kvs)
 |_,_,.nil,_,_,h=>h|r::L,p::l,.cons e t,ps,kvs,h=>by obtain⟨a,_,b,c⟩:=e;change Þ K π n H (oW (dJ ps r.2.1 r.2.2.1 r.2.2.2) L) (l.foldl _<|bW kvs p.1 p.2);rw[<- a];show Gh t<|h.put r.2.1 b c
def SW:d8 K oX (Ge K):=by
 intro x H w o d s v Q R i a k;unfold oX at a;split at a
 .rename_i o;obtain⟨l,c,j⟩:=ZX.mp a;cases j;cases i with
  |cons i t=>
   cases t;cases i with
   |tup q z=>
    obtain⟨L,rfl,P⟩:=Gg z c;show⟨_,L,rfl,q,?_,λd hd=>?_⟩
    .clear q z k a c;induction P with
     |nil=>show λr b=>nomatch b|cons e t n=>
      intro r b;rcases Ě.mp b with rfl|b
      .show⟨e.2.1,e.2.2.1⟩
      .show n r b
    .have T:=Gh P (ps:=[]) (kvs:=[]) .nil;obtain⟨h,g,u⟩:=R.alloc (c:=.dT (l.foldl (λq p=>bW q p.1 p.2) [])) (o:=aS d (oW [] L)) hd ⟨_,rfl,T.to.1,T.to.2.1,T.to.2.2⟩;show k _ _ _ h g jY
 .cases a
abbrev vq(h:ç)(c d S:Addr)(i n ep:Nat):Prop:=∃(b ok g:Value)(e:Bool),h.get? c=b0 {cls:=.type "dict_itemiterator",dict:=b5,data:=.fields #[b,.bool e,.ref d,.int i 0,.int n 0,.int ep 0,ok,g],slots:=#[]} /\
 (b=.none\/∃(a:Addr)(o:Obj),b=ŷ a/\h.get? a=b0 o/\a≠c/\a≠S)
def vq.stay{i n ep}(j:vq h c d S i n ep)(l:c≠S)(k:∀b o,b≠S->h.get? b=b0 o->h'.get? b=b0 o):vq h' c d S i n ep:=by
 obtain⟨w,ok,p,g,e,r⟩:=j;show⟨w,ok,p,g,k _ _ l e,?_⟩;rcases r with r|⟨a,o,s,u,v,r4⟩
 .show .inl r
 .show .inr ⟨a,o,s,k _ _ r4 u,v,r4⟩
def AO{i ep:Nat}(hh:A.handled=b5)(G:s.heap.get? it=b0 {cls:=.type "dict_itemiterator",dict:=b5,data:=.fields #[r,.bool O,.ref d,.int i 0,.int es.size 0,.int ep 0,ok,I],slots:=#[]})(jr:r=.none\/∃(a:Addr)(o:Obj),r=ŷ a/\s.heap.get? a=b0 o/\a≠it/\a≠S)(g:ò s.heap d es ep)(hS:S<s.heap.objs.size)(q1:∀e j,es[i]?=b0 e->vq j it d S (i+1) es.size ep->(r=.none->KU j it d (i+1) es.size ep e.key e.val s.heap.objs.size)->j.get? s.heap.objs.size=b0 {cls:=.type "tuple",data:=.seq #[e.key,e.val]}->j.objs.size=s.heap.objs.size+1->(∀b o,b≠it->s.heap.get? b=b0 o->j.get? b=b0 o)->Q (b0<|.ref s.heap.objs.size) {s with heap:=j})(q2:es[i]?=b5->∀j,yf it s.heap j->Q b5 {s with heap:=j}):Ç (Å P w) A (ņ<|.ref it) Q E s:=by
 obtain⟨z,g1,g2,g3⟩:=id g;have ty:s.TypeIs (.ref it) "dict_itemiterator":=⟨_,G,rfl⟩;obtain⟨c,B,y,K,H⟩:=s;have Y:∀{Q:String->ZZ->Prop}{A:ĺ}{E:Value->ZZ->Prop},Q "dict_itemiterator" ⟨c,B,y,K,H⟩->Ç (Å P w) A (NI<|.ref it) Q E ⟨c,B,y,K,H⟩:=λq=>wpAny_typeNameOfWhole_itemiter ty q;unfold ņ;show ZU<|Lq<|Ob (name:=ϝ "__next__") ty F.slot_dict_itemiterator_next<|au F.slot_dict_itemiterator_next ty F.entry_dict_itemiterator_next ?_<|F.args_dict_itemiterator_next_1 _;show ZU<|Z3<|ZU<|ZU<|ZU<|Y<|Z3<|ZU<|NO G rfl ?_;rw[show N1 "dict_itemiterator"=eA by decide,if_pos rfl];change Ç _ _ (if(Ð d==ŝ)=eA then _ else _) _ _ _;rw[if_neg<|show ¬ (Ð d==ŝ)=eA from λx=>Z6 x];show ZU<|Z3<|ZU<|Ϝ g1 g3 ?_;rw[if_neg λx=>by simp at x];show ZU<|Z3<|ZU<|qz g1 g3 ?_;rw[if_neg λx=>by simp at x];show Z3 ?_;dsimp only;rw[if_neg<|show ¬ ((i:Int)<0) by lia,gf];have X:it<c.objs.size:=Z8 G;cases he:es[i]? with
 |some e=>
  show ZU<|ZU<|Y<|Z3<|ZU<|Ma ty ?_;change Ç _ _ (K9 (.ref it) 3 (ŷ<|(i:Int)+1) >>= _) _ _ _;show ZU (ux G (by simp) λu T U=>?_);replace U:γ it c u:=U;replace T:u.get? it=b0 {cls:=.type "dict_itemiterator",dict:=b5,data:=.fields #[r,.bool O,.ref d,.int ((i+1:Nat):Int) 0,.int es.size 0,.int ep 0,ok,I],slots:=#[]}:=by rw[show((i+1:Nat):Int)=(i:Int)+1 by lia];simpa[ŷ]using T
  have L:Shared.TypeIs ⟨u,B,y,K,H⟩ (.ref it) "dict_itemiterator":=⟨_,T,rfl⟩;show ZU<|Ķ<|ZU<|Ma L<|ZU<|Ma L ?_;change Ç _ _ (QY (.ref it) 6 e.key e.val) _ _ _;unfold QY;show ZU<|M7 ?_;have zu:u.objs.size=c.objs.size:=U.1;have l:=Z1 {cls:=.type "tuple",data:=.seq #[e.key,e.val]} T;have vt:(u.push {cls:=.type "tuple",data:=.seq #[e.key,e.val]}).get? c.objs.size=b0 {cls:=.type "tuple",data:=.seq #[e.key,e.val]}:=zu▸Ă u rfl;have vz:(u.push {cls:=.type "tuple",data:=.seq #[e.key,e.val]}).objs.size=c.objs.size+1:=by rw[WP,zu]
  have M:∀b o,b≠it->c.get? b=b0 o->(u.push {cls:=.type "tuple",data:=.seq #[e.key,e.val]}).get? b=b0 o:=λb o R x=>Z1 _<|U.extBut b o R x;change Ç _ _ (QR (.ref it) >>= _) _ _ ⟨u.push {cls:=.type "tuple",data:=.seq #[e.key,e.val]},B,y,K,H⟩;rw[zu];generalize u.push {cls:=.type "tuple",data:=.seq #[e.key,e.val]}=v at l vt vz M;have h:c.objs.size≠it:=ů X;have fin:∀n:ç,vq n it d S (i+1) es.size ep->(r=.none->KU n it d (i+1) es.size ep e.key e.val c.objs.size)->γ it v n->Q (b0<|.ref c.objs.size) ⟨n,B,y,K,H⟩:=λn j' jo sb=>q1 e n he j' jo (sb.extBut _ _ h vt) (by change n.objs.size=_;rw[sb.1,vz]) λb o R x=>sb.extBut b o R<|M b o R x;show ZU ?_;unfold QR;rcases jr with rfl|⟨a,o,rfl,Z,p,r4⟩
  .show ZU<|qy l rfl (x:=.none) rfl<|Z3 ?_;simp only[if_true];show ZU<|qy l rfl (x:=ok) rfl<|ZU<|qy l rfl (x:=I) rfl ?_;show ZU (ux l (by simp) λv3 x3 N=>ZU<|ux x3 (by simp) λv4 x4 y4=>ZU<|ux x4 (by simp) λv5 x5 y5=>ZU<|ux x5 (by simp) λv6 x6 y6=>?_);have x7:KU v6 it d (i+1) es.size ep e.key e.val c.objs.size:=x6;show ZU<|ψ<|Z3<|Z3 ⟨_,rfl,Z3<|fin v6 ?_ (λ_=>x7) ?_⟩
   .show⟨ŷ c.objs.size,e.key,e.val,dI,x7,.inr ⟨c.objs.size,_,rfl,y6.extBut _ _ h<|y5.extBut _ _ h<|y4.extBut _ _ h<|N.extBut _ _ h vt,h,ů hS⟩⟩
   .show((N.trans y4).trans y5).trans y6
  .show ZU<|qy l rfl (x:=ŷ a) rfl ?_;change Ç _ _ (loadIfAlive ((a:Int).toNat) >>= _) _ _ _;rw[gf];show ZU<|PySem.W.kdx_alive (M a o p Z) ?_;simp only[Option.isNone_some,Į,if_false];show ZU<|qy l rfl (x:=.bool O) rfl ?_;cases O with
   |true=>rw[if_neg<|show ¬ ((Ů eA != Ů eA)=eA)from λx=>Z6 x];show Z3 ?_;simp only[Į,if_false];show Z3 (Z3 ⟨_,rfl,Z3<|fin v ⟨_,ok,I,eA,l,.inr ⟨a,o,rfl,M a o p Z,p,r4⟩⟩ (λz=>nomatch z)<|LM _ _⟩)|false=>rw[if_pos<|show(Ů dI != Ů eA)=eA from rfl];show ZU (ux l (by simp) λv3 x3 N=>Z3 ?_);simp only[Į,if_false];show Z3<|Z3 ⟨_,rfl,Z3<|fin v3 ⟨_,ok,I,eA,by simpa using x3,.inr ⟨a,o,rfl,N.extBut a o p<|M a o p Z,p,r4⟩⟩ (λz=>nomatch z) N⟩
 |none=>show ZU<|ZU<|Y<|Z3 ?_;change Ç _ _ (K9 (.ref it) 2 .none >>= _) _ _ _;show ZU (M8 G rfl (by simp) ?_);change Ç _ _ (K3 (.type "StopIteration") [] >>= _) _ _ _;simp only[K3,K8];show ZU (ZU<|ο ?_<|by size_fits);show ZU (m:=Kt _ _) (KQ (a:=ŝ) (by first|rfl|(simp only[Kt];rfl))<|ο ?_<|by size_fits);unfold raiseNew;show ZU<|wpAny_handled ?_;rw[show A.in1.handled=b5 from hh];show ZU<|Z3<|wpAny_throw ?thrown;case thrown=>show ZU<|za (T:="StopIteration") (b:=eA) ⟨_,Ă _ rfl,rfl⟩ NL<|Z3<|q2 he _<|((θ ..).extBut.push _).push _
def Gi(a:s.heap.IsItemsView r d)(g:ò s.heap d es ep)(q:Q (.ref s.heap.objs.size) {s with heap:=s.heap.push {cls:=.type "dict_itemiterator",data:=.fields #[.none,.bool dI,.ref d,.int 0 0,.int es.size 0,.int ep 0,.none,.none]}}):Ç (Å P w) A (cg<|.ref r) Q E s:=by
 obtain⟨y,e,l,h⟩:=id a;obtain⟨z,b,j,c⟩:=id g;show NW a.typeIs F.slot_dict_items_iter<|au F.slot_dict_items_iter a.typeIs F.entry_dict_items_iter ?_<|F.args_dict_items_iter_1 _;unfold Builtin.«dict_items.__iter__» b0t b0s;show ZU<|Z3<|ZU<|ZU<|qy e h (x:=.ref d) rfl<|Z3<|ZU<|ZU<|Ϝ b c<|ZU<|qz b c ?_;simp only[show N1 "dict_itemiterator"=eA by decide,if_true];show ο (Z3 ⟨_,rfl,"dict_itemiterator",_,⟨_,Ă _ rfl,rfl⟩,F.slot_dict_itemiterator_next.lookup,?_⟩) (by simp only[sizeOk,QN,Z5,Z4,ć,ao];rw[è];lia);simpa[ŷ,QN]using q
structure ô(es:Array DictEntry)(lo:Addr)(h:ç)(as:List Addr):Prop where
 up:as.Pairwise (·<·)
 over:∀a∈as,lo<a
 prs:∀(j:Nat)(a:Addr),as[j]?=b0 a->∃e,es[j]?=b0 e/\h.get? a=b0 {cls:=.type "tuple",data:=.seq #[e.key,e.val]}
def ô.stay(p:ô es lo h as)(k:∀b o,lo<b->h.get? b=b0 o->h'.get? b=b0 o):ô es lo h' as:=
 ⟨p.up,p.over,λj a c=>let⟨e,d,g⟩:=p.prs j a c;⟨e,d,k a _ (p.over a<|Ĳ c) g⟩⟩
def ô.lt{es:Array DictEntry}{lo:Addr}{h:ç}{as:List Addr}(p:ô es lo h as){a:Addr}(b:a∈as):a<h.objs.size:=by obtain⟨j,c⟩:=ul.mp b;obtain⟨_,_,e⟩:=p.prs j a c;show Z8 e
def ô.snoc(p:ô es lo h as)(l:∀a∈as,a<b)(o:lo<b)(n:es[as.length]?=b0 e)(r:h.get? b=b0 {cls:=.type "tuple",data:=.seq #[e.key,e.val]}):ô es lo h (as++[b]):=by
 show⟨Ϯ.mpr ⟨p.up,List.pairwise_singleton _ _,λa d c hc=>by rw[ā.mp hc];show l a d⟩,λa d=>?_,λj a g=>?_⟩
 .rcases ù.mp d with d|d
  .show p.over a d
  .rw[ā.mp d];show o
 .rcases LF j as.length with i|i|i
  .rw[ō i]at g;show p.prs j a g
  .subst i;have:b=a:=by simpa using g
   subst this;show⟨e,n,r⟩
  .rw[fc<|by simp;lia]at g;cases g
def SX{s:ZZ}(U:A.handled=b5)(v:S<I)(K:d≠S)(H:d≠I)(hn:es.size<=Z7)res{h1:ç}(X:∀h' tk acc c as,(∀b o,b≠S->b≠I->h1.get? b=b0 o->h'.get? b=b0 o)->h'.get? S=b0 {cls:=.type "list",dict:=b5,data:=.seq acc c,slots:=#[]}->as.length=es.size->ô es I h' as->acc.toList=as.map Ð->R (.ok<|.ret res) {s with heap:=h',toks:=tk}):
  ∀k i h tk c acc as,es.size-i=k->i<=es.size->vq h I d S i es.size ep->ò h d es ep->(∀b o,b≠S->b≠I->h1.get? b=b0 o->h.get? b=b0 o)->h.get? S=b0 {cls:=.type "list",dict:=b5,data:=.seq acc c,slots:=#[]}->
   acc.toList=as.map Ð->as.length=i->ô es I h as->I<h.objs.size->ź (Å P w) A (.builtin "list.extend.loop" ⟨[.ref S,.ref I,res],[]⟩) R {s with heap:=h,toks:=tk}:=by
 have ne:S≠I:=ð v;intro k;induction k with
 |zero=>intro i h tk c acc as Z Y ⟨_,_,_,_,N,O⟩ g Q n E y G lt;show ű F.entry_extend_loop ?_;rw[Ŵ F.plain_extend_loop _];show ZU (m:=ņ (.ref I)) (AO (s:={s with heap:=h,toks:=tk}) (A:=A.in1) U N O g (Z8 n) (λe h' l=>?_) λ_ h' x=>Z3<|X h' tk acc c as (λb o B r z=>x b o r<|Q b o B r z) (x S _ ne n) ⋯ (G.stay λb o p z=>x b o (ů p) z) E);rw[PF<|by lia]at l;cases l|succ k ih=>
  intro i h tk c acc as Z Y ⟨_,_,_,_,N,O⟩ g Q n E y G lt;have sz:acc.size=i:=by rw[<- pF,E,ZT,y]
  show ű F.entry_extend_loop ?_;rw[Ŵ F.plain_extend_loop _];show ZU (m:=ņ (.ref I))<|AO (s:={s with heap:=h,toks:=tk}) (A:=A.in1) U N O g (Z8 n) (λe h' l j' _ M hz j=>?_) λl=>?_
  .dsimp only at M hz j ⊢;have u:=j S _ ne n;have T:S<h.objs.size:=Z8 n;have up:∀b o,b≠S->h'.get? b=b0 o->(h'.update S<|a1i (·.push<|Ð h.objs.size)).get? b=b0 o:=λb o p z=>(Μ _ _<|ó p).trans z;show ZU (m:=Sd S (·.push<|Ð h.objs.size)) (ζ u rfl (Z3 ⟨ŧ F.plain_extend_loop _,?_⟩) (by rw[sz];lia)<|by change(acc.push<|Ð h.objs.size).size<=Z7+1;rw[Array.size_push,sz];lia);show ih (i+1) _ tk _ (acc.push<|Ð h.objs.size) (as++[h.objs.size]) ⋯ ⋯ (j'.stay (ó ne) up) (g.stay λo z=>up d o K<|j d o H z) (λb o B r z=>up b o B<|j b o r<|Q b o B r z) (Κ _ u rfl) (by rw[Ϫ,E,ý];rfl) (by rw[Z4,y];rfl) ?_ ?_
   .show((G.stay λb o p z=>up b o (ů<|Kd v p)<|j b o (ů p) z)).snoc (λa L=>G.lt L) lt (by rw[y];show l)<|up _ _ (ů T) M
   .show Kd lt<|Z8<|up _ _ (ů T) M
  .rw[Mn<|by lia]at l;cases l
def SY(M:A.handled=b5)(v:s.heap.IsItemsView r d)(g:ò s.heap d es ep)(Sr:S≠r)(B:d≠S)(G:s.heap.get? S=b0 {cls:=.type "list",data:=.seq #[] c0})(O:es.size<=Z7)(K:∀h' tk acc c as,(∀b o,b≠S->s.heap.get? b=b0 o->h'.get? b=b0 o)->h'.get? S=b0 {cls:=.type "list",dict:=b5,data:=.seq acc c,slots:=#[]}->as.length=es.size->ô es s.heap.objs.size h' as->acc.toList=as.map Ð->R (.ok<|.ret res) {s with heap:=h',toks:=tk}):
  Ç (Å P w) A.in1 (uy (.ref S) (.ref r) res) (λfin p=>match fin with|.done f=>R (.ok f) p|.again c'=>c'.quiet=eA/\ź (Å P w) A c' R p) (λe p=>R (.error e) p) s:=by
 have z:S<s.heap.objs.size:=Z8 G;have H:d<s.heap.objs.size:=g.lt;have run:∀(h:ç)(u tk:Nat),(∀b o,b≠S->(s.heap.push {cls:=.type "dict_itemiterator",data:=.fields #[.none,.bool dI,.ref d,.int 0 0,.int es.size 0,.int ep 0,.none,.none]}).get? b=b0 o->h.get? b=b0 o)->h.get? S=b0 {cls:=.type "list",data:=.seq #[] u}->
   ź (Å P w) A (.builtin "list.extend.loop" ⟨[.ref S,.ref s.heap.objs.size,res],[]⟩) R {s with heap:=h,toks:=tk}:=by
  intro h u tk x i;have E:=x s.heap.objs.size _ (ů z)<|Ă _ rfl;show SX (s:=s) (h1:=s.heap) (ep:=ep) M z B (ð H) O res (λh' y acc c as T U X Y Z=>K h' y acc c as (λb o l e=>T b o l (ð<|Z8 e) e) U X Y Z) es.size 0 h tk u #[] [] (yo _) (ŀ _)
   ⟨.none,.none,.none,dI,E,.inl rfl⟩ (g.stay λo e=>x d o B<|Z1 _ e) (λb o l _ e=>x b o l<|Z1 _ e) i rfl rfl ⟨Mv,λ_ L=>(by cases L),λj a N=>(by simp at N)⟩<|Z8 E
 unfold uy;show ZU<|yd (T:="dict_items") v.typeIs ?_;simp only[show LR (.ref S) (.ref r)=dI by simp[LR,Sr],show(ä "dict_items"==ä "list")=dI by decide,show(ä "dict_items"==ä "tuple")=dI by decide,Kw,Į,if_false];show ZU<|Gi v g ?_;have i:=Z1 {cls:=.type "dict_itemiterator",data:=.fields #[.none,.bool dI,.ref d,.int 0 0,.int es.size 0,.int ep 0,.none,.none]} G;show ZU<|Ķ<|PySem.W.kdx_hint (let⟨o,Q,hc,_⟩:=v;⟨o,Z1 _ Q,hc⟩) ?_;show ni (λ_=>?_) λ_=>Z3 ⟨ŧ F.plain_extend_loop _,run _ c0 _ (λb o _ e=>e) i⟩;show ZU<|ϧ<|ZU ?_;show ZU (m:=Sd S (·.push .none))<|ζ i rfl ?_;have n:=Κ (a1i (·.push ŝ)) i rfl;show ζ (hz:=by seq_fits) n rfl<|Z3 ⟨ŧ F.plain_extend_loop _,run _ _ _ (λb o l e=>?_)<|Κ (a1i (·.pop)) n rfl⟩;show(Μ _ _<|ó l).trans<|(Μ _ _<|ó l).trans e
def S0{T:gw->ZZ->Prop}(H:A.handled=b5)(v:s.heap.IsItemsView r d)(g:ò s.heap d es ep)(K:es.size<=Z7)(q:∀h' tk as,(∀b o,s.heap.get? b=b0 o->h'.get? b=b0 o)->as.length=es.size->ô es s.heap.objs.size h' as->s.heap.objs.size<=h'.objs.size->T (as.map Ð) {s with heap:=h',toks:=tk}):Ç (Å P w) A (collect<|.ref r) T E s:=by
 have L:r<s.heap.objs.size:=let⟨_,p,_⟩:=v;Z8 p
 unfold collect
 show ZU<|wpAny_runValue<|ű b2m ?_
 rw[Ŵ F.plain_proto_collect _]
 show ZU (m:=newList [])<|ο<|Z3 ⟨ŧ F.plain_list_iadd _,ű b2n ?_⟩
 rw[Ŵ F.plain_list_iadd _]
 have B:(s.heap.push {cls:=.type "list",data:=.seq ([]:gw).toArray}).get? s.heap.objs.size=b0 {cls:=.type "list",data:=.seq #[]}:=Ă _ rfl
 have all:=SY (A:=A) (s:={s with heap:=s.heap.push {cls:=.type "list",data:=.seq ([]:gw).toArray}}) (P:=P) (w:=w) (es:=es) (ep:=ep) (res:=.ref s.heap.objs.size) (c0:=0)
  (R:=λ(q:QK)(u:ZZ)=>∃(h':ç)(tk:Nat)(acc:Array Value)(c:Nat)(as:List Addr),q=.ok (.ret<|.ref s.heap.objs.size)/\u={s with heap:=h',toks:=tk}/\(∀b o,s.heap.get? b=b0 o->h'.get? b=b0 o)/\h'.get? s.heap.objs.size=b0 {cls:=.type "list",dict:=b5,data:=.seq acc c,slots:=#[]}/\as.length=es.size/\ô es s.heap.objs.size h' as/\acc.toList=as.map Ð)
  H (let⟨o,p,x⟩:=v;⟨o,Z1 _ p,x⟩) (g.stay λo e=>Z1 _ e) (ů L) (ð g.lt) B K
  λh' tk acc c as j h l i n=>⟨h',tk,acc,c,as,rfl,rfl,λb o e=>j b o (ð<|Z8 e)<|Z1 _ e,h,l,⟨i.up,λa G=>Kd (ϛ _)<|by have:=i.over a G;rw[WP]at this;show this,i.prs⟩,n⟩
 show Ĭ all (λfin u x=>?_) λe u x=>?_
 .cases fin with
  |done f=>
   obtain⟨h',tk,acc,c,as,e,rfl,j,h,l,i,n⟩:=x
   cases e
   show ZU (m:=load s.heap.objs.size)<|KS h<|Z3 ?_
   change T acc.toList _
   rw[n]
   show q h' tk as j l i<|ż<|Z8 h
  |again M=>
   show⟨x.1,Kf x.2 λy N x=>?_⟩
   obtain⟨h',tk,acc,c,as,rfl,rfl,j,h,l,i,n⟩:=x
   show ZU (m:=load s.heap.objs.size)<|KS h<|Z3 ?_
   change T acc.toList _
   rw[n]
   show q h' tk as j l i<|ż<|Z8 h
 .obtain⟨_,_,_,_,_,z,_⟩:=x
  cases z
end L3
namespace L3
open PySem L2 PySem.W PyProof.Rows
def Gj(q:Q eA s):Ç (Å P w) A (eqBool v v) Q E s:=by unfold eqBool;show Ķ ?_;rw[if_pos<|by simp];show ZU<|ϧ<|Z3 q
def wN:∀k,HT.lexLt k k=dI
 |[]=>rfl|a::k=>by simp[HT.lexLt,wN k]
abbrev jM(P:ĥ)(w:Ĉ)(h:ç)(b:Addr)(k:List Int):Prop:=Tb.IsT P w h k b/\∃xs:gw,jj h b xs.toArray/\Ÿ xs k
def S3{C:Bool->ZZ->Prop}(j:A.units<â)(n:s.heap.get? a=b0 {cls:=.type "tuple",data:=.seq #[.ref b,v]})(d:s.heap.get? g=b0 {cls:=.type "tuple",data:=.seq #[.ref h,l]})(i:jM P w s.heap b k)(c:jM P w s.heap h k')(o:k=k'->v=l)(q:C (HT.lexLt k k') s):Ç (Å P w) A (wz (tuples' dI) (.ref a)<|.ref g) C (λ_ _=>False) s:=by
 show kat_lt n rfl d rfl ?_;show xq<|(Ű<|Ř P w).eqBool j i.1 c.1 ?_;by_cases e:k=k'
 .obtain rfl:=o e;subst e;rw[decide_eq_true rfl];show K5<|xq<|Gj<|K5<|kat_nil ?_;rw[wN]at q;show q
 .rw[decide_eq_false e];obtain⟨y,u,p⟩:=i.2;obtain⟨z,x,r⟩:=c.2;show kat_no (kat_one _ _<|HT.lt_tupInts u x (by simpa using p) (by simpa using r) j ?_);show q
abbrev mX(P:ĥ)(w:Ĉ)(A:ĺ)(us:gw)(an:Nat->Nat->Bool)(s:ZZ):Prop:=
 Ç (Å P w) A (keyKind' us.toArray) (λb a=>a=s/\∀(i j:Nat)(C:Bool->ZZ->Prop),i<us.length->j<us.length->C (an i j) s->Ç (Å P w) A (wz b (us.getD i .none)<|us.getD j .none) C (λ_ _=>False) s) (λ_ _=>False) s
def S4{lo:Addr}{bs:List Addr}{ks:List (List Int)}(hu:A.units<â)(p:ô es lo s.heap as)(h0:0<as.length)(hl:as.length=es.size)(hk:ks.length=es.size)(hbl:bs.length=es.size)(key:∀j e,es[j]?=b0 e->e.key=.ref (bs.getD j 0)/\jM P w s.heap (bs.getD j 0) (ks.getD j []))(nd:ks.Nodup):mX P w A (as.map Ð) (λi j=>HT.lexLt (ks.getD i [])<|ks.getD j []) s:=by
 have g:∀i,i<as.length->∃(e:DictEntry),es[i]?=b0 e/\s.heap.get? (as.getD i 0)=b0 {cls:=.type "tuple",data:=.seq #[.ref (bs.getD i 0),e.val]}/\jM P w s.heap (bs.getD i 0) (ks.getD i []):=λi d=>by
  have R:as[i]?=b0 (as.getD i 0):=by simp[Ğ,d]
  obtain⟨e,G,u⟩:=p.prs i _ R;obtain⟨k1,H⟩:=key i e G;rw[k1]at u;show⟨e,G,u,H⟩
 unfold mX;have B:KatTups s.heap (as.map Ð) (bs.map Ð):=by
  have go:∀(n:Nat)(a c:List Addr),a.length=n->c.length=n->(∀i,i<n->∃v:Value,s.heap.get? (a.getD i 0)=b0 {cls:=.type "tuple",data:=.seq #[.ref (c.getD i 0),v]})->KatTups s.heap (a.map Ð) (c.map Ð):=by
   intro n;induction n with
   |zero=>intro a c l r _;rw[pC.mp l,pC.mp r];show .nil|succ n ih=>
    intro a c l r O;match a,c,l,r with
    |x::a,y::c,l,r=>obtain⟨v,M⟩:=O 0 ⋯;show .cons M rfl rfl (by simp) (ih a c (by simpa using l) (by simpa using r) λi d=>?_);have:=O (i+1) ⋯;simpa using this
  show go as.length as bs rfl ⋯ λi d=>?_;obtain⟨e,_,u,_⟩:=g i d;show⟨_,u⟩
 show kat_kind (T:=.type "tuple") B (by rw[ZT];lia) (λv M=>?_) (by decide) ⟨rfl,λi j C d L Z=>?_⟩
 .obtain⟨b,hb,rfl⟩:=Õ.mp M;obtain⟨i,d⟩:=ul.mp hb;have I:i<as.length:=by have:=(ZW.mp d).1;lia
  obtain⟨e,_,_,H⟩:=g i I;have:bs.getD i 0=b:=by simp[Ğ,d]
  rw[this]at H;obtain⟨xs,⟨o,o1,o2,_⟩,_⟩:=H.2;show kitAt_ty _ _ ⟨o,o1,o2⟩
 .rw[ZT]at d L;obtain⟨e,G,u,Q⟩:=g i d;obtain⟨e',N,T,U⟩:=g j L;have X:(as.map Ð).getD i .none=.ref (as.getD i 0):=by simp[Ğ,d]
  have Y:(as.map Ð).getD j .none=.ref (as.getD j 0):=by simp[Ğ,L]
  rw[X,Y];show S3 hu u T Q U (λz=>?_) Z;have K:i=j:=by
   have l:ks.getD i []=ks[i]:=by simp[Ğ,show i<ks.length by lia]
   have r:ks.getD j []=ks[j]:=by simp[Ğ,show j<ks.length by lia]
   rw[l,r]at z;rcases LF i j with h|h|h
   .show absurd z<|(ϋ.mp nd) i j ⋯ ⋯ h
   .show h
   .show absurd z.symm<|(ϋ.mp nd) j i ⋯ ⋯ h
  subst K;rw[G]at N;cases N;rfl
open Classical in
abbrev dU(us:gw)(v:Value):Nat:=if h:∃i,us[i]?=b0 v then h.choose else 0
def wO(nd:us.Nodup)(h:us[i]?=b0 v):dU us v=i:=by
 unfold dU;have b:∃i,us[i]?=b0 v:=⟨i,h⟩;rw[dif_pos b];have j:=b.choose_spec;obtain⟨e,c⟩:=ZW.mp h;obtain⟨g,d⟩:=ZW.mp j;have:=ϋ.mp nd;rcases LF i b.choose with a|a|a
 .show absurd (c.trans d.symm)<|this _ _ e g a
 .show a.symm
 .show absurd (d.trans c.symm)<|this _ _ g e a
def Gk{e:Type}d{ks:List e}(u:ks.length=us.length)(o:ks.Nodup)(p:us.Nodup):(∀i,i<us.length->ks.getD i d∈ks)/\(∀i j,i<us.length->j<us.length->i≠j->ks.getD i d≠ks.getD j d)/\∀v∈us,∃i,i<us.length/\us[i]?=b0 v/\dU us v=i:=by
 have l:∀i,i<us.length->ks.getD i d∈ks:=λi a=>by rw[Ń,ZY<|by lia];show Ŧ _
 have n:∀i j,i<us.length->j<us.length->i≠j->ks.getD i d≠ks.getD j d:=λi j a r b=>by
  rw[Ń,Ń,ZY<|by lia,ZY<|by lia];have:=ϋ.mp o;rcases Nat.lt_or_gt_of_ne b with h|h
  .show this i j ⋯ ⋯ h
  .show(this j i ⋯ ⋯ h).symm
 have c:∀v∈us,∃i,i<us.length/\us[i]?=b0 v/\dU us v=i:=λv g=>by obtain⟨i,a⟩:=pq g;show⟨i,(ZW.mp a).1,a,wO p a⟩
 show⟨l,n,c⟩
def S5{lt:z->z->Bool}(O:ĩ lt)d{ks:List z}{us out:gw}(Z:ks.length=us.length)(nk:ks.Nodup)(R:us.Nodup)(N:2<=us.length)(o1:out.Perm us)(o2:out.Pairwise λx y=>fW lt ks (ks.getD (dU us x) d)<=fW lt ks (ks.getD (dU us y) d)):out=(cI (λi j=>lt (ks.getD i d)<|ks.getD j d) us.length).map λi=>us.getD i ŝ:=by
 obtain⟨r,Q,o⟩:=Gk d Z nk R;have p:∀i∈cI (λi j=>lt (ks.getD i d)<|ks.getD j d) us.length,i<us.length:=λi n=>Ō.mp<|(fU _ _).mem_iff.mp n;have X:∀i,i<us.length->us[i]?=b0 (us.getD i .none):=λi n=>by rw[Ń,ZY n];rfl
 have H:∀v∈out,v∈us:=λv I=>o1.mem_iff.mp I
  -- the places of what came out
 have l:out.map (dU us)=cI (λi j=>lt (ks.getD i d)<|ks.getD j d) us.length:=by
  have g:(out.map<|dU us).Perm (ă us.length):=by
   show(o1.map<|dU us).trans ?_;have:us.map (dU us)=ă us.length:=by
    apply yu;intro i;rw[þ];by_cases n:i<us.length
    .rw[ZY n,MX n];show congrArg b0<|wO R<|ZY n
    .rw[fc<|by lia,fc<|by simp;lia];rfl
   rw[this]
  have s1:(out.map<|dU us).Pairwise λi j=>lt (ks.getD i d) (ks.getD j d)=true:=by rw[Ϗ];have nd:(out.map<|dU us).Nodup:=g.nodup_iff.mpr MK;unfold yh at nd;rw[Ϗ]at nd;show zx (R:=λx y=>fW lt ks (ks.getD (dU us x) d)<=fW lt ks (ks.getD (dU us y) d)/\dU us x≠dU us y) (λ{x y} hx hy h=>?_)<|o2.and nd;obtain⟨i,u,M,G⟩:=o x<|H x hx;obtain⟨j,K,gj,T⟩:=o y<|H y hy;rw[G,T]at h ⊢;rw[v9 O (r i u)<|r j K,decide_eq_true_eq];have:=Fw O (r i u) (r j K)<|Q i j u K h.2;have:=h.1;lia
  have s2:(cI (λi j=>lt (ks.getD i d)<|ks.getD j d) us.length).Pairwise λi j=>lt (ks.getD i d) (ks.getD j d)=true:=by
   have a:=FA (lt:=lt) O.ir O.tr (λa b c h=>by
    cases e:lt a c with
    |true=>show .inl rfl|false=>
     cases B:lt c b with
     |true=>show .inr rfl|false=>
      cases L:lt c a with
      |true=>rw[O.tr _ _ _ L h]at B;cases B
      |false=>rw[O.to _ _ e L,B]at h;cases h) d ks (n:=us.length)<|by lia
   have nd:(cI (λi j=>lt (ks.getD i d)<|ks.getD j d) us.length).Nodup:=(fU _ _).nodup_iff.mpr MK;show zx (R:=λi j=>lt (ks.getD j d) (ks.getD i d)=dI/\i≠j) (λ{i j} n Y h=>?_)<|a.and nd;cases e:lt (ks.getD i d) (ks.getD j d)with
   |true=>rfl|false=>show absurd (O.to _ _ e h.1)<|Q i j (p i n) (p j Y) h.2
  show Pk (le:=λi j=>lt (ks.getD i d) (ks.getD j d)=eA) (λi j _ _ U N=>by
   have:=O.tr _ _ _ U N;rw[O.ir]at this;cases this) s1 s2<|g.trans (fU _ _).symm
 rw[<- l,Û];symm;conv=>rhs;rw[<- Ni out]
 show eG λv I=>?_;obtain⟨i,u,M,G⟩:=o v<|H v I;change us.getD (dU us v) .none=v;rw[G,Ń,M];rfl
def S6{lt:g->g->Bool}(O:ĩ lt)d{ks:List g}(L:ks.length=us.length)(R:ks.Nodup)(p:us.Nodup):(us.Pairwise λx y=>fW lt ks (ks.getD (dU us x) d)≠fW lt ks (ks.getD (dU us y) d)) /\
  ∀s,mX P w A us (λi j=>lt (ks.getD i d)<|ks.getD j d) s->Am P w A us (λx y=>decide<|fW lt ks (ks.getD (dU us x) d)<fW lt ks (ks.getD (dU us y) d)) s:=by
 obtain⟨c,Q,b⟩:=Gk d L R p;show⟨?_,λs a=>?_⟩
 .show ϋ.mpr λi j l n K=>?_;rw[wO p<|ZY l,wO p<|ZY n];show Fw O (c i l) (c j n)<|Q i j l n<|by lia
 .unfold mX at a;unfold Am;show Ĭ a (λU T o=>?_) λ_ _ x=>x;obtain⟨e,o⟩:=o;show⟨e,λx y C M N h=>?_⟩;obtain⟨i,r,H,B⟩:=b x M;obtain⟨j,u,I,G⟩:=b y N;dsimp only at h;rw[B,G,<- v9 O (c i r)<|c j u]at h;have:=o i j C r u h;have v:us.getD i .none=x:=by rw[Ń,H];rfl
  have z:us.getD j .none=y:=by rw[Ń,I];rfl
  rw[v,z]at this;show this
def Gm{lt:e->e->Bool}(O:ĩ lt)d{ks:List e}(l:ks.length=us.length)(n:ks.Nodup)(p:us.Nodup)(h:2<=us.length)(hz:us.length<=Z7)(g:s.heap.get? c=b0 (ċ "list" us.toArray z))(H:∀a,(∀b o,b≠c->s.heap.get? b=b0 o->a.get? b=b0 o)->mX P w A us (λi j=>lt (ks.getD i d)<|ks.getD j d) {s with heap:=a})(q:R (.done<|.ret .none) {s with heap:=xu s.heap c us ((cI (λi j=>lt (ks.getD i d)<|ks.getD j d) us.length).map λi=>us.getD i ŝ).toArray}):Ç (Å P w) A (Builtin.«list.sort» ⟨[.ref c],[]⟩) R E s:=by
 obtain⟨r,u⟩:=S6 (P:=P) (w:=w) (A:=A) O d l n p;show a7D (rk:=λv=>fW lt ks<|ks.getD (dU us v) d) r h hz g (λa x=>u _<|H a x) λy o1 o2=>?_;rw[S5 O d l n p h o1 o2];show q
def S7{lt:z->z->Bool}(O:ĩ lt)d0{ks:List z}(B:an=λi j=>lt (ks.getD i d0)<|ks.getD j d0)(Y:ks.length=es.size)(nk:ks.Nodup)(X:A.handled=b5)(Z:s.heap.IsItemsView r d)(g:ò s.heap d es ep)(R:es.size<=Z7)(H:2<=es.size->∀l tk as,(∀b o,s.heap.get? b=b0 o->l.get? b=b0 o)->as.length=es.size->ô es s.heap.objs.size l as->mX P w A.in1.in1 (as.map Ð) an {s with heap:=l,toks:=tk})(q:∀l tk as(L e:Nat),(∀b o,s.heap.get? b=b0 o->l.get? b=b0 o)->as.length=es.size->ô es s.heap.objs.size l as->s.heap.objs.size<=L->(∀a∈as,a≠L)->l.get? L=b0 (ċ "list" ((cI an es.size).map λi=>Ð<|as.getD i 0).toArray e)->Q (.ref L) {s with heap:=l,toks:=tk}):
  Ç (Å P w) A (call (.builtin "sorted") [.ref r]) Q E s:=by
 show Pt kind_sorted plain_sorted entry_sorted (args_sorted1 _) ?_;unfold Pc;show ZU (m:=checkCount "sorted" 1 1 _) (Z3<|ZU<|S0 (A:=A.in1) X Z g ⋯ λc tk as N v y u=>?_);have K:(as.map Ð).length=es.size:=by rw[ZT,v]
 show ZU (Kb ?_<|by rw[K];lia);have nu:(as.map Ð).Nodup:=by unfold yh;rw[Ϗ];show y.up.imp λh e=>by cases e;show absurd h<|Ų _
 subst B;have p:(c.push<|ċ "list" (as.map Ð).toArray 0).get? c.objs.size=b0 (ċ "list" (as.map Ð).toArray 0):=Ă _ rfl;have fin:∀n:gw,n=((cI (λi j=>lt (ks.getD i d0)<|ks.getD j d0) es.size).map λi=>Ð<|as.getD i 0)->Q (.ref c.objs.size) {s with heap:=xu (c.push<|ċ "list" (as.map Ð).toArray 0) c.objs.size (as.map Ð) n.toArray,toks:=tk}:=by
  rintro n rfl;obtain⟨e,U⟩:=sortedHeap_at (h:=c.push (ċ "list" (as.map Ð).toArray 0)) (out:=((cI (λi j=>lt (ks.getD i d0)<|ks.getD j d0) es.size).map λi=>Ð<|as.getD i 0).toArray) p;have old:∀b o,c.get? b=b0 o->(xu (c.push<|ċ "list" (as.map Ð).toArray 0) c.objs.size (as.map Ð) ((cI (λi j=>lt (ks.getD i d0)<|ks.getD j d0) es.size).map λi=>Ð<|as.getD i 0).toArray).get? b=b0 o:=λb o x=>by rw[sortedHeap_old (ð<|Z8 x)<|by rw[WP];show LC<|Z8 x];show Z1 _ x
  show q _ tk as c.objs.size e (λb o x=>old b o<|N b o x) v (y.stay λb o _ x=>old b o x) u (λa T=>ð<|y.lt T) U
 by_cases G:2<=es.size
 .show ZU<|Ķ<|au Ku (s:={s with heap:=c.push<|ċ "list" (as.map Ð).toArray 0,toks:=tk}) ⟨_,p,rfl⟩ Ki (Gm O d0 (by rw[K];show Y) nk nu ⋯ ⋯ p (λl M=>?_) ⟨_,rfl,?_⟩)<|Ks _
  .show H G l tk as (λb o e=>M b o (ð<|ĭ (Z8 e) u)<|Z1 _<|N b o e) v<|y.stay λb o hb e=>M b o (ð<|Z8 e)<|Z1 _ e
  .show Z3 ⟨_,rfl,fin _ ?_⟩;rw[K];show eG λi I=>?_;have I:i<as.length:=by have:=Ō.mp<|(fU _ es.size).mem_iff.mp I;lia
   simp[Ğ,I]
 .show ZU (Ķ<|au Ku (s:={s with heap:=c.push<|ċ "list" (as.map Ð).toArray 0,toks:=tk}) ⟨_,p,rfl⟩ Ki (ES ⋯ p ⟨_,rfl,?_⟩)<|Ks _);show Z3 ⟨_,rfl,fin (as.map Ð) ?_⟩;match as,v with
  |[],e=>rw[<- e];change[]=(cI _ 0).map _;rw[Ak];rfl|[b],e=>rw[<- e];change[Ð b]=(cI _ 1).map _;rw[ET];rfl|_::_::_,e=>rw[<- e]at G;simp at G
end L3
namespace L3
open PySem L2
def Gn d(hd:(d==ğ)=dI):K7 P w (Builtin.«dict.items» ⟨[.ref d],[]⟩) (λ_ R s=>(∃es ep,ò s.heap d es ep) /\
   R (.ok<|.ret<|.ref s.heap.objs.size) {s with heap:=s.heap.push {cls:=.type "dict_items",data:=.fields #[.ref d]}}):=
 .of_wp λA R s ⟨⟨es,ep,g⟩,h⟩=>by unfold Builtin.«dict.items»;show ZU ?_;unfold b2y;show ZU<|zz g.ty ?_;change Ç _ _ (pure d) _ _ s;show Z3 ?_;change Ç _ _ (zq d >>= _) _ _ s;unfold zq;rw[if_neg<|by rw[hd];show Z6];show ZU<|Z3 ?_;show ZU<|ο<|Z3 ⟨_,rfl,h⟩
abbrev wQ(kvs:jx):jx:=(cI (λi j=>HT.lexLt ((kvs.map (·.1)).getD i [])<|(kvs.map (·.1)).getD j []) kvs.length).map λi=>kvs.getD i ([],.non)
def S8{R:b->c->Prop}{as:List b}{bs:List c}(h:Ť R as bs)d g:∀i,i<as.length->R (as.getD i d) (bs.getD i g):=by
 induction h with
 |nil=>show λi a=>nomatch a|cons e t j=>
  intro i a;cases i with
  |zero=>show e|succ i=>show j i<|by simpa using a
def Gp{R:a->b->Prop}{f:Nat->a}{g:Nat->b}:∀{l:List Nat},(∀i∈l,R (f i) (g i))->Ť R (l.map f) (l.map g)
 |[],_=>.nil|i::l,h=>.cons (h i<|Ś ..)<|Gp λj c=>h j<|ň _ c
def Inv.freeze{σ:St}{ps:bK}(I:Inv X Dn σ H s)(e:H a=b0 (aS a ps))(c:s.heap.get? a=b0 ob):Inv X Dn σ (upd H a<|.frz ob<|aS a ps) s:=by have ok:Ì X.prog X.w H s.heap a (aS a ps):=I.hok a _ e;show I.write (x:=a) (e:=a) (h':=s.heap) (t':=s.toks) (by rw[e];show ŭ) (.inl rfl) (λb q _ z=>z) ⟨ob,c⟩ ⟨c,ok⟩
def Inv.thaw{σ σ0:St}{ps ps0:bK}(r:Inv X pins0 σ0 H0 s0)(v:H0 a=b0 (aS a ps0))(I:Inv X Dn σ H s)(e:H a=b0 (.frz ob<|aS a ps)):Inv X Dn σ (upd H a<|aS a ps) s:=by
 have ne:∀{b:Addr},H b=b5->b≠a:=λ{b} h z=>by rw[z,e]at h;cases h
 show⟨I.ok,I.os,I.bare,⟨I.base.keep,I.base.slot,λb o d g i=>?_,I.base.there,λb l h=>?_,λb o u h=>?_,λb y h=>?_⟩,I.loc,I.cell,?_,λx c h=>?_,λp w=>?_,λb u q=>?_,I.len⟩
 .have:=I.base.free b o d g i;rw[bC<|ne this];show this
 .have:=I.base.tups b l h;rw[bC λz=>by rw[z,e]at this;cases this];show this
 .have:=I.base.frzs b o u h;rw[bC λz=>by
   have n:=r.base.frzs b o u h;rw[z,v]at n;cases n]
  show this
 .obtain⟨more,d⟩:=I.base.tbls b y h;show⟨more,by rw[bC λz=>by rw[z,e]at d;cases d];show d⟩
 .rw[bC<|ne I.free];show I.free
 .have:=I.freeC x c h;rw[bC<|ne this];show this
 .obtain⟨d,g,i⟩:=I.pin p w;show⟨d,by rw[bC<|ne g];show g,i⟩
 .by_cases j:b=a
  .subst j;rw[cQ]at q;cases q;show(show Ì X.prog X.w H s.heap b (.frz ob<|aS b ps)from I.hok b _ e).2
  .rw[bC j]at q;show(I.hok b u q).stay (λ_ _ _ z=>z) (λc h=>by rw[bC λz=>by rw[z,e]at h;cases h];show h) λc l h=>by rw[bC λz=>by rw[z,e]at h;cases h];show h
abbrev mY(i:Nat)(c:aF)(b:Hm):Option (Nat×jx):=match c[i]? with
 |some (b0<|.loc a)=>match b[a]? with
  |some (.dT kvs)=>b0 (a,kvs)|_=>b5
 |_=>b5
def Gq(h:mY i c b=b0 (a,kvs)):b[a]?=b0 (.dT kvs):=by
 unfold mY at h;split at h
 .split at h
  .rename_i hc;cases h;show hc
  .cases h
 .cases h
abbrev qW(i:Nat)(d e:ME):ME:=λc b=>match mY i c b with
 |some (a,kvs)=>(d c<|b.set a<|.dF kvs).bind λr=>match r.2[a]? with
  |some (.dF kvs')=>b0 (r.1,r.2.set a<|.dT kvs')|_=>b5
 |none=>e c b
abbrev oY(i:Nat)(d e:MS):MS:=λc b=>match mY i c b with
 |some (a,kvs)=>(d c<|b.set a<|.dF kvs).bind λr=>match r.2.2[a]? with
  |some (.dF kvs')=>b0 (r.1,r.2.1,r.2.2.set a<|.dT kvs')|_=>b5
 |none=>e c b
def Gs{σ:St}{kvs:jx}(I:Inv X Dn σ H s)(R:Rp X.K π H μ)(E:En X.K π μ.length H σ ρ)(hc:μ[a]?=b0 (.dT kvs)):∃b ps,H (π a)=b0 (aS (π a) ps)/\Inv X Dn σ (upd H (π a)<|.frz b<|aS (π a) ps) s /\
  Rp X.K π (upd H (π a)<|.frz b<|aS (π a) ps) (μ.set a<|.dF kvs)/\En X.K π (μ.set a<|.dF kvs).length (upd H (π a)<|.frz b<|aS (π a) ps) σ ρ:=by
 obtain⟨ps,c,T⟩:=iA R hc;obtain⟨_,⟨b,e⟩,_⟩:=(show Ì X.prog X.w H s.heap (π a) (aS (π a) ps)from I.hok _ _ c);obtain⟨d,R2⟩:=R.put (c:=.dF kvs) (o:=.frz b (aS (π a) ps)) (ZW.mp hc).1 c (.inr<|.inr ⟨_,rfl⟩) ⟨b,ps,rfl,T.to⟩;show⟨b,ps,c,Inv.freeze I c e,R2,E.mono d⟩
def tD{σ:St}{μ:Hm}{kvs:jx}{r:St}{ps:bK}{d:jx}(I:Inv X Dn σ H s)(e:H (π a)=b0 (aS (π a) ps))(B:a<μ.length)(A:Inv X g r j y)(R':Rp X.K c j μ')(l:à π (μ.set a<|.dF kvs).length (upd H (π a)<|.frz G<|aS (π a) ps) c μ'.length j)(hc:μ'[a]?=b0 (.dF d)):
  ∃v,Inv X g r v y/\à π μ.length H c (μ'.set a<|.dT d).length v/\Rp X.K c v (μ'.set a<|.dT d)/\Ļ c μ'.length j c (μ'.set a<|.dT d).length v:=by
 have w:c a=π a:=l.pi a (by rw[ξ];show B);obtain⟨K,i,x,T⟩:=wH R' hc;obtain⟨M,R2⟩:=R'.put0 (c:=.dT d) (o:=aS (c a) i) (ZW.mp hc).1 x (.inr<|.inr<|.inr ⟨_,_,rfl⟩) ⟨i,rfl,T.to⟩;rw[w]at x;show⟨upd j (c a)<|aS (c a) i,?_,⟨?_,λb E=>l.pi b<|by rw[ξ];show E,λp L h=>?_,λp o u h=>?_⟩,R2,M⟩
 .rw[w];show Inv.thaw I e A x
 .have:=l.le;rw[ξ]at this ⊢;show this
 .have n:p≠π a:=λz=>by rw[z,e]at h;cases h
  have:=l.tup p L (by rw[bC n];show h);rw[w,bC n];show this
 .have n:p≠π a:=λz=>by rw[z,e]at h;cases h
  have:=l.frz p o u (by rw[bC n];show h);rw[w,bC n];show this
def En.mono0(E:En K π n H σ ρ)(e:Ļ π n H b g c):En K b g c σ ρ:=
 ⟨E.len,λi d h=>let⟨v,j,l⟩:=E.get i d h;⟨v,j,l.mono0 e⟩⟩
def S9(h1:QE X e A)(h2:QE X e B):QE X e (qW i A B):=⟨by
 intro j s L H Q I hw;obtain⟨l,K,G,d,w,R,E,c,k⟩:=hw;unfold qW at c;split at c
 .rename_i a r hv;obtain⟨⟨x,g⟩,g1,c⟩:=ZS.mp c;dsimp only at c;split at c
  .rename_i z o;cases c;have hc:=Gq hv;obtain⟨ob,ps,Z,N,U,M⟩:=Gs I R E hc;show aP (h1.h j s L _ (λv h=>∃b,à l (G.set a<|.dF r).length (upd H (l a)<|.frz ob<|aS (l a) ps) b g.length h/\Rp X.K b h g/\Í X.K b g.length h v d) N ⟨l,K,_,d,g,U,M,g1,λb v h n R2 p=>⟨b,n,R2,p⟩⟩) λu s2 ⟨v,h,O,rv,b,n,R2,p⟩=>?_;obtain⟨y,T,e3,Y,x3⟩:=tD I Z (ZW.mp hc).1 O R2 n o;show⟨v,y,T,rv,k b v y e3 Y<|p.mono0 x3⟩
  .cases c
 .show h2.h j s L H Q I ⟨l,K,G,d,w,R,E,c,k⟩⟩
def Gu(h1:QS X st m1)(h2:QS X st m2):QS X st (oY i m1 m2):=⟨by
 intro L s σ H D I hw;obtain⟨l,ρ,M,G,p,Y,R,E,w,k⟩:=hw;unfold oY at w;split at w
 .rename_i a x hv;obtain⟨⟨fl1,ρ1,g⟩,g1,w⟩:=ZS.mp w;dsimp only at w;split at w
  .rename_i Z r;cases w;have hc:=Gq hv;have O:=(ZW.mp hc).1;obtain⟨Q,T,N,I1,R1,E1⟩:=Gs I R E hc;show aP (h1.h L s σ _ ⟨λc h=>G=.nx/\∃b,à l (M.set a<|.dF x).length (upd H (l a)<|.frz Q<|aS (l a) T) b g.length h/\Rp X.K b h g/\En X.K b g.length h c p,
     λv h=>∃d,G=.rt d/\∃b,à l (M.set a<|.dF x).length (upd H (l a)<|.frz Q<|aS (l a) T) b g.length h/\Rp X.K b h g/\Í X.K b g.length h v d,
     λc h=>G=.bk/\∃b,à l (M.set a<|.dF x).length (upd H (l a)<|.frz Q<|aS (l a) T) b g.length h/\Rp X.K b h g/\En X.K b g.length h c p,
     λc h=>G=.ct/\∃b,à l (M.set a<|.dF x).length (upd H (l a)<|.frz Q<|aS (l a) T) b g.length h/\Rp X.K b h g/\En X.K b g.length h c p⟩ I1 ⟨l,ρ,_,G,p,g,R1,E1,g1,?_⟩) λf s2 q=>?_
   .cases G with
    |nx=>show λb c h j R2 n=>⟨rfl,b,j,R2,n⟩|bk=>show λb c h j R2 n=>⟨rfl,b,j,R2,n⟩|ct=>show λb c h j R2 n=>⟨rfl,b,j,R2,n⟩|rt d=>show λb v h j R2 U=>⟨d,rfl,b,j,R2,U⟩
   .cases f with
    |next=>obtain⟨c,h,y,rfl,b,j,R2,n⟩:=q;obtain⟨o,z,B,A,K⟩:=tD I N O y R2 j r;show⟨c,o,z,k b c o B A<|En.mono0 n K⟩|brk=>obtain⟨c,h,y,rfl,b,j,R2,n⟩:=q;obtain⟨o,z,B,A,K⟩:=tD I N O y R2 j r;show⟨c,o,z,k b c o B A<|En.mono0 n K⟩|cont=>obtain⟨c,h,y,rfl,b,j,R2,n⟩:=q;obtain⟨o,z,B,A,K⟩:=tD I N O y R2 j r;show⟨c,o,z,k b c o B A<|En.mono0 n K⟩|ret u=>obtain⟨v,c,h,y,rv,d,rfl,b,j,R2,U⟩:=q;obtain⟨o,z,B,A,K⟩:=tD I N O y R2 j r;show⟨v,c,o,z,rv,k b v o B A<|U.mono0 K⟩
  .cases w
 .show h2.h L s σ H D I ⟨l,ρ,M,G,p,Y,R,E,w,k⟩⟩
abbrev AQ(d:Addr)(a:Obj)(ps:bK):It:=⟨λi H=>H d=b0 (.frz a<|aS d ps)/\i<ps.length,λi H x b=>b=H/\∃p,ps[i]?=b0 p/\x=.ref p.2.1,λi H=>H d=b0 (.frz a<|aS d ps)/\ps.length<=i⟩
def oZ{σ:St}{ps:bK}(I:Inv X Dn σ H s)(e:H d=b0 (.frz c<|aS d ps)):
  (d==ğ)=dI/\ps.length<=Z7/\∃a b,ò s.heap d a b/\c.data=.dict a b/\a.toList.map (·.key)=ps.map λp=>Ð p.2.1:=by
 obtain⟨g,⟨w,r,u,n,o,a,b,h,j,i,l,v⟩,_⟩:=(show Ì X.prog X.w H s.heap d (.frz c<|aS d ps)from I.hok d _ e);rw[g]at h;cases h;show⟨u,n,a,b,⟨c,g,j,i⟩,i,?_⟩;rw[l,wF (P:=X.prog) (w:=X.w),Û,<- AM r];rfl
def Gv:∀(ps:bK)(ws:gw),ps.length=ws.length->(yq u6 ps ws).map (·.val)=ws
 |[],[],_=>rfl|[],_::_,h=>by cases h
 |_::_,[],h=>by cases h
 |p::ps,u::ws,h=>by rw[ι,é,Gv ps ws<|by simpa using h];rfl
def Ta{σ:St}{ps:bK}(I:Inv X Dn σ H s)(e:H d=b0 (.frz c<|aS d ps)):
  (d==ğ)=dI/\ps.length<=Z7/\∃a b,ò s.heap d a b/\c.data=.dict a b/\Á (ps.map (·.2.2)) (a.toList.map (·.val)):=by
 obtain⟨h,⟨g,r,v,u,o,a,b,i,n,j,p,w⟩,_⟩:=(show Ì X.prog X.w H s.heap d (.frz c<|aS d ps)from I.hok d _ e);rw[h]at i;cases i;show⟨v,u,a,b,⟨c,h,n,j⟩,j,?_⟩;have l:(yq u6 ps g).map (·.val)=g:=Gv ps g<|by
  have:=r.length;rw[ZT]at this;show this
 rw[p,l];show r
def Tc(hd:ob.data=.dict es ep):ħ Qc P w K tg (AQ d ob ps) [p] p (λi h=>h.IsKeyIter p d i es.size ep) where
 mem:=by simp
 obj:=λi h st b j=>by
  have e:b=p:=by simpa using j
  subst e;obtain⟨o,e,c,d⟩:=st;show⟨o,e,λv z=>by rw[d]at z;cases z⟩
 keep:=λi h u st k=>st.at λo e=>k p (by simp) o e;item:=by
  intro X T hw R hc i r s σ H E I A st U;subst T hw R;obtain⟨n,x⟩:=U;obtain⟨lo,hl,G,B,g,a,y⟩:=oZ I n;rw[hd]at a;cases a;have hs:es.size=ps.length:=by have:=congrArg Ģ y;simpa using this
  obtain⟨L,M,f2,N,O,Q⟩:=A p (by simp);show wJ (I.ok.hd hc) st g (λe u l Z sb=>?_) λhn=>by simp at hn;lia
  have I1:Inv X r σ H {s with heap:=u}:=I.turned (t':=s.toks) (λb o j e=>(sb.2 b j).trans e) L M N O Q;obtain⟨o,e1,c,d1⟩:=id Z;have Y:ps[i]?=b0 ps[i]:=ZY x;have ek:e.key=.ref (ps[i]).2.1:=by have:=congrArg (·[i]?) y;simp only[þ,ϲ,l,Y,Ę]at this;show ñ this
  show⟨e.key,rfl,nY (s:={s with heap:=u}) e1 c d1 (by decide) ⟨.ref (ps[i]).2.1,H,I1,ek,⟨rfl,ps[i],Y,rfl⟩,Z,λb j=>(A b j).1⟩⟩
 done:=by
  intro X T hw R hc i r s σ H E I A st U;subst T hw R;obtain⟨n,x⟩:=U;obtain⟨lo,hl,G,B,g,a,y⟩:=oZ I n;rw[hd]at a;cases a;have hs:es.size=ps.length:=by have:=congrArg Ģ y;simpa using this
  obtain⟨L,M,f2,N,O,Q⟩:=A p (by simp);show wJ (I.ok.hd hc) st g (λe u l=>by
   have:=(Mp.mp l).1;lia) λ_ u eb=>⟨rfl,I.turned (t':=s.toks) (λb o j e=>eb b o j e) L M N O Q⟩
 self:=λ_ _ _ _ _ st h=>Nz st h
def Td(p:PE X l r):PI X tg l (λσ H R=>r σ H λv a=>∃d n ps,v=.ref d/\a d=b0 (.frz n<|aS d ps)/\R (AQ d n ps) a):=by
 intro j s σ H R I h;show aP (p j s σ H _ I h) λv i ⟨y,a,c,A,z⟩=>?_;obtain⟨d,n,ps,e,w,q⟩:=z;subst e;obtain rfl:v=Ð d:=A;obtain⟨x,p,E,B,g,hd,G⟩:=oZ c w;show F2 x g ⟨i.heap.objs.size,[i.heap.objs.size],_,_,a,rfl,c.kept (t':=i.toks) λb o e=>Z1 _ e,Tc hd,⟨_,Ă _ rfl,rfl,rfl⟩,λb u=>?_,q⟩;have e:b=i.heap.objs.size:=by simpa using u
 subst e;show c.fpOk (Z2 _)<|c.hok.fresh<|Z2 _
abbrev eN(kvs:jx):List D:=kvs.map λk=>D.tup<|k.1.map D.int
def Te{ps:bK}(c:H d=b0 (.frz h<|aS d ps))(T:Þ K π n H ps kvs):Wk K (AQ d h ps) (c7<|.tup<|eN kvs) π n H:=by
 have y:ps.length=kvs.length:=by have:=congrArg Ģ T.to.1;simpa using this
 show⟨λb w j i e R z=>?_,λb w j i l e R z=>?_⟩
 .have a:(eN kvs)[i]?=none:=ñ z;have:=Ξ.mp a;rw[eN,ZT]at this;show⟨e.frz _ _ _ c,by lia⟩
 .have a:(eN kvs)[i]?=b0 l:=ñ z;have A:i<kvs.length:=by have:=(ZW.mp a).1;rwa [eN,ZT]at this
  show⟨⟨e.frz _ _ _ c,by lia⟩,λv x ⟨o,p,r,s⟩=>?_⟩;subst o s;obtain⟨B,g,u⟩:=(T.to.2.1.mono e).get a;rw[þ,r]at g;cases g;show⟨.refl,R,u⟩
abbrev iW(m:ME):MI:=λc b=>(m c b).bind λp=>match p.1 with
 |.loc a=>match p.2[a]? with
  |some (.dF kvs)=>b0 (c7<|.tup<|eN kvs,kvs.length+1,p.2)|_=>b5
 |_=>b5
def AR(h:QE X e m):QJ X e (iW m):=⟨λtg Dn s σ H R I hw=>by
 obtain⟨A,B,w,v,n,y,i,E,a,k⟩:=hw;obtain⟨⟨x,z⟩,l,a⟩:=ZS.mp a;dsimp only at a;split at a
 .split at a
  .rename_i p hc;cases a;show Td h.h Dn s σ H R I ⟨A,B,w,_,_,i,E,l,λb G g j c o=>?_⟩;cases o;obtain⟨r,u,d,T⟩:=wH c hc;show⟨_,r,u,rfl,d,k b g _ j c<|Te d T⟩
  .cases a
 .cases a⟩
end L3
namespace L3
open PySem L2 PySem.W PyProof.Rows
end L3
namespace L3
open PySem L2
abbrev tE(b:Hm):D->Bool
 |.loc a=>match b[a]? with|some (.dT _)=>eA|_=>dI
 |_=>dI
abbrev iX(f:D->List D->Hm->jk)(b:ME)(ms:MA):ME:=λa c=>(b a c).bind λp=>match tE p.2 p.1 with
 |true=>(ms a p.2).bind λq=>f p.1 q.1 q.2|false=>b5
abbrev kL(K:ZV)(x:V)(H:Hp):Prop:=∃a ps,x=.ref a/\H a=b0 (aS a ps)/\dC K H ps
def Tf(R:Rp K π H b)(h:Í K π b.length H v x)(e:tE b x=eA):kL K v H:=by
 cases h with
 |@loc a i=>
  simp only[tE]at e;split at e
  .rename_i j d;obtain⟨g,c,T⟩:=iA R d;show⟨_,g,rfl,c,T.keys⟩
  .cases e
 |_=>cases e
def Tg{id:String}(u:Slot "dict" name id)(B:K4 (.builtin id)=pure (.type "method_descriptor"))(U:jC X id r)(Y:PE X o to)(R:PA X (e::es) t)(i:lz o name X.env (eval o X.env)=eval o X.env)(p:((ĸ cpos<|æ (e::es) X.env).all (λx=>!x.1)&&(xm cpos<|yg [] X.env).all (λx=>x.1.isSome)&&decide ((e::es).length+([]:List Ζ).length+(if([]:List Ζ).isEmpty then 0 else 1)<30))=eA)(j:(apos.endLine==cpos.line)=eA)(Z:æ (e::es) X.env=(dI,eval e X.env)::æ es X.env)(c:(ĸ cpos<|æ es X.env).any (·.1)=dI):
  PE X (.Call (.Attribute o name apos) (e::es) [] cpos) (λl H Q=>to l H λx w=>kL X.K x w/\t l w λy A=>r x y A Q):=by
 intro d s l H Q I h;show Oy i p j rfl<|aP (Y d s l H _ I h) λv s1 ⟨x,w,E,r1,ty,q1⟩=>?_;obtain⟨a,ps,rfl,M,T⟩:=ty;obtain rfl:v=Ð a:=r1;obtain⟨lo,hl,y,ep,g,_⟩:=wK E M T;show⟨"dict",id,Mm,u,B,g.ty,λb L=>?_,?_⟩
 .cases L;obtain⟨z,N,O,_⟩:=g;show⟨z,N,O.2.1⟩
 have G:=R cpos d s1 l w _ E q1;rw[Z]at G ⊢;show LJ (by change(dI||(ĸ cpos<|æ es X.env).any (·.1))=dI;rw[c]<;>rfl)<|Pd ?_;show aP G λus s2 ⟨y,A,K,r2,q2⟩=>U d s2 l A (.ref a) y _ us Q K rfl r2 q2
def Th(B:iU K f r):∀σ H Q,tM K (iX f mo ms) σ H Q->tM K mo σ H λx g=>kL K x g/\Ŭ K ms σ g λvs h=>r x vs h Q:=by
 rintro σ H Q ⟨N,y,M,d,i,R,E,a,k⟩;obtain⟨⟨x,b⟩,z,a⟩:=ZS.mp a;dsimp only at a;split at a
 .rename_i G;obtain⟨⟨w,c⟩,A,a⟩:=ZS.mp a;show⟨N,y,M,x,b,R,E,z,λj L g s p v=>⟨Tf p v G,j,y,b,w,c,p,E.mono s,A,λl vs h u R2 I=>?_⟩⟩;show B l h c x w d i L vs Q R2 (v.mono u) I a<|k.after<|s.trans u
 .cases a
def AS{id:String}(c:Slot "dict" name id)(d:K4 (.builtin id)=pure (.type "method_descriptor"))(j:jC X id r)(h:iU X.K f r)(p:QE X o mo)(g:QA X (e::es) ms n)(s:j9 o=eA)(i:(apos.endLine==cpos.line)=eA)(l:(e::es).length<30):QE X (.Call (.Attribute o name apos) (e::es) [] cpos) (iX f mo ms):=by
 have b:=g.s;have a:=b;rw[Ĺ,Z9]at a;show⟨cU (Tg c d j p.h g.h (oJ s) (EK b l) i (fF a.1)<|mL a.2)<|Th h⟩
abbrev iB:D->List D->Hm->jk
 |.loc a,[y,z],μ=>match μ[a]? with
  |some (.dT kvs)=>(cM y).map λk=>((aY kvs k).getD z,μ)|_=>b5
 |_,_,_=>b5
abbrev Gw(K:ZV):V->gz->Hp->VK->Prop:=λx vs H Q=>∃a b ps k z,x=.ref a/\vs=[.ref b,z]/\H a=b0 (aS a ps)/\dC K H ps/\Ó K H b (k.map V.int)/\Q ((eB ps k).getD z) H
def Tj:iU K iB (Gw K):=by
 intro y H E x B d w v A Q R n c a k;unfold iB at a;split at a
 .split at a
  .rename_i r hc;obtain⟨h,j,a⟩:=ZX.mp a;cases a;cases n;cases c with
   |cons o t=>
    cases t with
    |cons p t=>
     cases t;obtain⟨s,i,T⟩:=iA R hc;obtain⟨b,rfl,l⟩:=mW o j;show⟨_,b,s,h,_,rfl,rfl,i,T.keys,l,k y _ H .refl R ?_⟩;rcases T.val h with⟨e,g⟩|⟨v,z,e,g,u⟩
     .rw[e,g];show p
     .rw[e,g];show u
  .cases a
 .cases a
def Tn(A:X.A.units+1<â):jC X "dict.get" (Gw X.K):=by
 intro n s R H x N v M Q I G E h;obtain⟨a,b,g,k,z,rfl,rfl,e,p,o,q⟩:=h;cases G;obtain⟨u,K,rfl,B,i⟩:=E.two;obtain rfl:u=Ð b:=B;obtain⟨w,L,l,r,d⟩:=iV I (.of e) p;show qu PL d.typeIs PySem.F.entry_dict_get (PySem.F.args_dict_get_3 _ _ _) (meetsH_dict_get_default (Ű<|Ř X.prog X.w) a b w K) ⟨oU A,k,_,kF I o,d,?_⟩;show⟨(eB g k).getD z,H,I.tok _,?_,q⟩;have:=oT r k;cases j:eB g k with
 |none=>
  rw[j]at this;cases c:(Ŀ (bP g l) k).map (·.2)with
  |none=>show i|some y=>rw[c]at this;show this.elim
 |some O=>
  rw[j]at this;cases c:(Ŀ (bP g l) k).map (·.2)with
  |none=>rw[c]at this;show this.elim|some y=>rw[c]at this;show this
section
variable{P:ĥ}{w:Ĉ}{K:Type} [DecidableEq K] {knd:KA P w K}{A:ĺ}{E:Value->ZZ->Prop}{s:ZZ}{d a:Addr}{k:K}{xs:List (K×Addr×Value)}
def To(G:knd.room A)(u:knd.is s.heap k a)(M:s.heap.DictOfH knd d xs)(hz:xs.length<=Z7)(h1:∀p,Ŀ xs k=b0 p->Q p.2 {s with toks:=s.toks+knd.draws k})(L:Ŀ xs k=b5->∀r,r.DictOfH knd d (Ε xs k a v)->γ d s.heap r->Q v {s with heap:=r,toks:=s.toks+knd.draws k}):
  Ç (Å P w) A (M6 d (.ref a) v) Q E s:=by
 obtain⟨o,N,I,g,hc,hd,n,h,z⟩:=id M;unfold M6;show Ķ<|ZU<|knd.pyHash G u<|ZU<|OO (s:={s with toks:=s.toks+knd.draws k}) G u g hd n h z (λi=>?_) λj p B=>?_
 .have b:=NS i;have l:k∉xs.map (·.1):=ON i;show ZU<|ϧ<|ZU<|O0 (hz:=by have e:=Kk n;lia) (s:={s with toks:=s.toks+knd.draws k}) g hd<|Z3<|L b _ ⟨_,_,I+1,Κ _ g<|L5<|uf hd _,hc.mapDictKeys _,uf hd _,?_,λx c=>?_,?_⟩<|θ ..
  .rw[lg b];simp[n,xr]
  .rw[lg b]at c;rcases ù.mp c with c|c
   .show knd.keeps (h x c) g hd<|θ ..
   .rw[ā]at c;subst c;show knd.keeps u g hd<|θ ..
  .rw[lg b,ý,ϩ];show⟨z,by simp,λx c y H e=>by
    simp only[é,qx,ā]at H;subst H;show l<|e▸c⟩
 .show ZU<|Ϝ (s:={s with toks:=s.toks+knd.draws k}) g hd ?_;rw[entry_at n j,B];show ZU<|ϧ<|Z3<|h1 _<|atKey_of_get z B
def Tp(knd:KA P w K)d a(hd:(d==ğ)=dI)v:K7 P w (Builtin.«dict.setdefault» ⟨[.ref d,.ref a,v],[]⟩) (λA R s=>knd.room A.in1/\∃k xs,knd.is s.heap k a/\s.heap.DictOfH knd d xs/\xs.length<=Z7 /\
   (∀p,Ŀ xs k=b0 p->R (.ok<|.ret p.2) {s with toks:=s.toks+knd.draws k})/\(Ŀ xs k=b5->∀b,b.DictOfH knd d (Ε xs k a v)->γ d s.heap b->R (.ok<|.ret v) {s with heap:=b,toks:=s.toks+knd.draws k})):=
 .of_wp λA R s ⟨o,k,xs,j,g,r,h,i⟩=>by unfold Builtin.«dict.setdefault»;show ZU ?_;unfold b2A;show ZU<|zz g.typeIs<|Z3 ?_;change Ç _ _ (if(d==ğ)=eA then _ else(M6 d (.ref a) v >>= _)) _ _ s;rw[if_neg<|by rw[hd];show Z6];show ZU<|To o j g r (λp n=>Z3 ⟨_,rfl,h p n⟩) λl b c e=>Z3 ⟨v,rfl,i l b c e⟩
end
abbrev kM:D->List D->Hm->jk
 |.loc a,[y,z],μ=>match μ[a]? with
  |some (.dT kvs)=>(cM y).bind λk=>match aY kvs k with
   |some d=>b0 (d,μ)|none=>if kvs.length<Z7 then b0 (z,μ.set a<|.dT<|bW kvs k z)else b5
  |_=>b5
 |_,_,_=>b5
abbrev Gx(K:ZV):V->gz->Hp->VK->Prop:=λx vs H Q=>∃a b ps k z,x=.ref a/\vs=[.ref b,z]/\H a=b0 (aS a ps)/\dC K H ps/\Ó K H b (k.map V.int)/\((∃v,eB ps k=b0 v/\Q v H)\/(eB ps k=b5/\ps.length<Z7/\Q z (upd H a<|aS a<|dJ ps k b z)))
def Tq:iU K kM (Gx K):=by
 intro s H O x N d G v M Q R A h a k;unfold kM at a;split at a
 .split at a
  .rename_i e hc;obtain⟨c,y,a⟩:=ZS.mp a;cases A with
   |loc g=>
    cases h with
    |cons B t=>
     cases t with
     |cons r t=>
      cases t;obtain⟨i,n,T⟩:=iA R hc;obtain⟨b,rfl,p⟩:=mW B y;show⟨_,b,i,c,_,rfl,rfl,n,T.keys,p,?_⟩;have z:i.length=e.length:=by have:=congrArg Ģ T.to.1;simpa using this
      rcases T.val c with⟨j,l⟩|⟨v,I,j,l,E⟩
      .rw[l]at a;dsimp only at a;split at a
       .rename_i L;cases a;have w:=T.put c p r;obtain⟨o,u⟩:=R.put (c:=.dT (bW e c d)) (o:=aS _ (dJ i c b _)) g n (.inr<|.inr ⟨_,rfl⟩) ⟨_,rfl,w.to⟩;show .inr ⟨j,by lia,k s _ _ o u<|r.mono o⟩
       .cases a
      .rw[l]at a;cases a;show .inl ⟨v,j,k s _ H .refl R E⟩
  .cases a
 .cases a
def Tr(O:X.A.units+1<â):jC X "dict.setdefault" (Gx X.K):=by
 intro y s σ H x vs v us Q I Z Y h;obtain⟨a,b,o,k,z,rfl,rfl,e,K,E,q⟩:=h;cases Z;obtain⟨u,u2,rfl,U,i⟩:=Y.two;obtain rfl:u=Ð b:=U;obtain⟨n,hl,ws,r,d⟩:=iV I (.of e) K;have R:(bP o ws).length<=Z7:=by have:=congrArg Ģ<|lT r;rw[ZT,ZT]at this;lia
 have c:=oT r k;show qu QD d.typeIs PySem.F.entry_dict_setdefault (PySem.F.args_dict_setdefault_3 _ _ _) (Tp (Ű<|Ř X.prog X.w) a b n u2) ⟨oU O,k,_,kF I E,d,R,λp M=>?_,λL B j l=>?_⟩
 .rw[M]at c;rcases q with⟨w,g,q⟩|⟨g,_⟩
  .rw[g]at c;show⟨w,H,I.tok _,c,q⟩
  .rw[g]at c;show c.elim
 .rw[L]at c;rcases q with⟨w,g,q⟩|⟨g,hz,q⟩
  .rw[g]at c;show c.elim
  .obtain⟨ws',T,A⟩:=wG r k b i;rw[A]at j;have G:∃q,B.get? a=b0 q:=let⟨q,_,_,N,_⟩:=j;⟨q,N⟩;show⟨z,_,n5 I (by rw[e];show ŭ) l G<|sW n (by have:=sV o k b z;lia) T j,i,q⟩
def Ts{bs:List Addr}(g:ò s.heap d es ep)(o:es.toList.map (·.key)=bs.map Ð)(H:∀b∈bs,s.TypeIs (.ref b) "tuple")(nd:(es.toList.map (·.hash)).Nodup)(q:Q es s):Ç (Å P w) A (Q6 G d) Q E s:=by
 obtain⟨z,r,I,u⟩:=id g;unfold Q6;show ZU<|Ϝ r u<|ZU ?_;rw[<- Array.forIn_toList];show M3 _ (λÄ _ c=>c=s/\∀e∈Ä,e∈es.toList) _ (λe Ä b c ⟨h,j⟩=>?_) (λb c ⟨h,_⟩=>?_) _ _ ⟨rfl,λe i=>i⟩
 .subst h;have i:=j e<|Ś ..;have y:e.key∈bs.map Ð:=by rw[<- o];show Õ.mpr ⟨e,i,rfl⟩
  obtain⟨a,v,p⟩:=Õ.mp y;have quiet:∀{Q:Bool->ZZ->Prop},Q dI c->Ç (Å P w) A (Q4 e.key) Q E c:=λ{Q} q=>by rw[<- p];unfold Q4;show ZU<|rT (H a v) PySem.F.slot_tuple_eq.lookup<|Z3 q
  show ZU<|quiet ?_;have one:((es.filter (·.hash==e.hash)).size>1)=False:=by
   show eq_false λz=>?_;have K:1<(es.toList.filter λx=>x.hash==e.hash).length:=by have l:(es.filter (·.hash==e.hash)).toList=es.toList.filter λx=>x.hash==e.hash:=Array.toList_filter ..;have n:=congrArg Ģ l;simp only[pF]at n;lia
   have oN:(es.toList.filter λx=>x.hash==e.hash).length=(es.toList.map (·.hash)).count e.hash:=by rw[List.count,List.countP_map,<- List.countP_eq_length_filter];rfl
   have:=List.nodup_iff_count.mp nd e.hash;lia
  simp only[Kn,if_true,one,if_false];show Z3 ⟨rfl,λx B=>j x<|ň _ B⟩
 .subst h;show Z3 q
noncomputable abbrev tF:=List<|List Int×Addr×Value
inductive bh (A:ĺ)(s:ZZ)(ys:tF):tF->Bool->Prop
 |nil:bh A s ys [] eA
 |miss {x:List Int×Addr×Value}{r:tF}:Ŀ ys x.1=b5->bh A s ys (x::r) dI
 |hit {x:List Int×Addr×Value}{p:Addr×Value}{r:tF}{e b:Bool}:Ŀ ys x.1=b0 p->J4 A s x.2.2 p.2 e->bh A s ys r b->bh A s ys (x::r) (e&&b)
noncomputable abbrev wR(_:Nat):Prop:=True
def Tt{σ:St}(I:Inv X Dn σ H s)(k:∀b u,s.heap.get? b=b0 u->h'.get? b=b0 u)(old:∀b,b<s.heap.objs.size->H' b=H b)(new:∀b o,s.heap.objs.size<=b->H' b=b0 o->Ì X.prog X.w H' h' b o):
  Inv X Dn σ H' {s with heap:=h',toks:=t'}:=by
 have lt:∀b u,H b=b0 u->b<s.heap.objs.size:=λb u e=>OS λz=>by rw[I.hok.fresh z]at e;cases e
 have a:∀b u,H b=b0 u->H' b=b0 u:=λb u e=>by rw[old b<|lt b u e];show e
 show I.un ⟨λb u q _ _ _=>k b u q,λb u q _ _ _=>⟨u.slots,k b u q⟩,λb u q n _=>by rw[old b<|Z8 q];show n,λb u q _=>⟨u,k b u q⟩,λb g q=>a b _ q,λb u g q=>a b _ q,λb h q=>⟨#[],by rw[a b _ q];simp⟩⟩ λb u e=>?_;by_cases d:b<s.heap.objs.size
 .rw[old b d]at e;show(I.hok b u e).stay (λc v _ q=>k c v q) (λc q=>a c _ q) λc g q=>a c _ q
 .show new b u (zc d) e
abbrev fX(H:Hp):List Addr->bK->Hp
 |a::as,p::ps=>fX (upd H a<|.tup [.ref p.2.1,p.2.2]) as ps|_,_=>H
def o7:∀{as}{ps}{H}{b},b∉as->fX H as ps b=H b
 |[],_,_,_,_=>by simp[fX]
 |a::as,[],_,_,_=>rfl|a::as,p::ps,H,b,h=>by rw[Ě,not_or]at h;change fX (upd H a _) as ps b=H b;rw[o7 h.2,bC h.1]
def wU:∀{as:List Addr}{ps:bK}{H:Hp}{i:Nat}{a:Addr}{p:List Int×Addr×V},as.Nodup->as[i]?=b0 a->ps[i]?=b0 p->fX H as ps a=b0 (.tup [.ref p.2.1,p.2.2])
 |[],_,_,_,_,_,_,h,_=>by simp at h
 |_::_,[],_,_,_,_,_,_,h=>by simp at h
 |x::as,y::ps,H,0,a,p,nd,h1,h2=>by
  obtain rfl:x=a:=by simpa using h1
  obtain rfl:y=p:=by simpa using h2
  rw[Š]at nd;change fX (upd H x _) as ps x=_;rw[o7 nd.1,cQ]
 |x::as,y::ps,H,i+1,a,p,nd,h1,h2=>by rw[Š]at nd;show wU (as:=as) (ps:=ps) (i:=i) nd.2 (by simpa using h1)<|by simpa using h2
abbrev cE(ps:bK):List Nat:=cI (λi j=>HT.lexLt ((ps.map (·.1)).getD i [])<|(ps.map (·.1)).getD j []) ps.length
abbrev fG(as:List Addr)(ps:bK):gz:=(cE ps).map λi=>V.ref<|as.getD i 0
def Tu{σ:St}(hc:X.calm=eA)(hun:X.A.units+64<â)(I:Inv X Dn σ H s){ps:bK}(e:H d=b0 (aS d ps))(hk:dC X.K H ps)(h64:wR ps.length)(hv:s.heap.IsItemsView r d)(k:∀as L l,as.length=ps.length->(l::L::as).Nodup->(∀a∈l::L::as,H a=b5)->Q (.ref l) (upd (upd (fX H as ps) L<|.lst<|fG as ps) l<|.tup<|fG as ps)):
  Ç (Å X.prog X.w) X.A (call (.builtin "sorted") [.ref r]) (λv s'=>Ç (Å X.prog X.w) X.A (call (.type "tuple") [v]) (EP X Dn σ Q) X.xe s') X.xe s:=by
 obtain⟨lo,hl,ws,rv,z,es,ep,z1,z2,z3,z4,z5,z6⟩:=iV I (.of e) hk;have hwl:ws.length=ps.length:=by have:=rv.length;rw[ZT]at this;show this.symm
 have hxl:(bP ps ws).length=ps.length:=by unfold bP;rw[List.length_zipWith,hwl,Nat.min_self]
 have n:es.size=ps.length:=by rw[<- pF,z4,ZT,hxl]
 have nd:(ps.map (·.1)).Nodup:=by rw[lT rv]at z6;show z6
 have O:∀(j:Nat)(y:DictEntry),es[j]?=b0 y->∃p u,ps[j]?=b0 p/\ws[j]?=b0 u/\y.key=.ref p.2.1/\y.val=u:=λj y h=>by
  rw[<- ϲ,z4,þ]at h;obtain⟨x,A,rfl⟩:=ZX.mp h;unfold bP at A;rw[Pg]at A;cases E:ps[j]? with
  |none=>rw[E]at A;simp at A|some p=>
   cases hw:ws[j]? with
   |none=>rw[E,hw]at A;simp at A|some u=>
    rw[E,hw]at A;have:(p.1,p.2.1,u)=x:=by simpa using A
    subst this;show⟨p,u,rfl,rfl,rfl,rfl⟩
 show S7 ã [] (ks:=ps.map (·.1)) (an:=λi j=>HT.lexLt ((ps.map (·.1)).getD i [])<|(ps.map (·.1)).getD j []) rfl (by rw[ZT,n]) nd (I.ok.hd hc) hv ⟨z,z1,z2,z3⟩ ⋯ (λh22 h3 N as kp Z M=>?_) λh3 N as L y kp Z M hL nL gL=>?_
 .have I3:Inv X Dn σ H {s with heap:=h3,toks:=N}:=I.kept (t':=N) kp;show S4 (A:=X.A.in1.in1) (s:={s with heap:=h3,toks:=N}) (bs:=ps.map (·.2.1)) (ks:=ps.map (·.1)) (by change X.A.units+1+1<â;lia) M ⋯ Z (by rw[ZT,n]) (by rw[ZT,n]) (λj y B=>?_) nd;obtain⟨p,u,K,p2,p3,p4⟩:=O j y B;have w:j<ps.length:=(ZW.mp K).1;have g:(ps.map (·.2.1)).getD j 0=p.2.1:=by simp[Ğ,K]
  have ek:(ps.map (·.1)).getD j []=p.1:=by simp[Ğ,K]
  rw[g,ek];have sq:=hk p<|Ĳ K;show⟨p3,kF I3 sq,?_⟩;obtain⟨xs,rx,t,_⟩:=I3.tuple sq;show⟨xs,t,L0I rx⟩
 .rw[n]at gL Z;have G:as.Nodup:=M.up.imp λh=>ð h;have hin:∀i∈cE ps,i<ps.length:=λi hi=>Ō.mp<|(fU _ _).mem_iff.mp hi;have Y:(cE ps).length=ps.length:=by have:=(fU (λi j=>HT.lexLt ((ps.map (·.1)).getD i [])<|(ps.map (·.1)).getD j []) ps.length).length_eq;rw[ώ]at this;show this
  have nLa:L∉as:=λh=>nL L h rfl;have I1:Inv X Dn σ (upd (fX H as ps) L<|.lst<|fG as ps) {s with heap:=h3,toks:=N}:=by
   show Tt (t':=N) I kp (λb hb=>?_) λb o hb g=>?_
   .rw[bC<|ð<|ĭ hb hL,o7 λh=>Nat.lt_asymm hb<|M.over b h]
   .by_cases T:b=L
    .subst T;rw[cQ]at g;cases g;show⟨by unfold fG;rw[ZT,Y];show hl,(cE ps).map λi=>Ð<|as.getD i 0,y,?_,gL⟩;unfold fG;show Gp λi _=>rfl
    .rw[bC T]at g;by_cases U:b∈as
     .obtain⟨j,B⟩:=ul.mp U;have w:j<ps.length:=by have:=(ZW.mp B).1;lia
      have E:ps[j]?=b0 ps[j]:=ZY w;rw[wU G B E]at g;cases g;obtain⟨x,x1,x2⟩:=M.prs j _ B;obtain⟨p,u,K,p2,p3,p4⟩:=O j x x1;rw[E]at K;cases K;obtain⟨u',g1,g2⟩:=rv.get (i:=j) (x:=ps[j].2.2) (by rw[þ,E];rfl);rw[p2]at g1;cases g1;rw[p3,p4]at x2;show⟨by change(2:Nat)<=Z7;decide,[.ref ps[j].2.1,u],.cons rfl<|.cons g2 .nil,_,x2,rfl,0,rfl,rfl⟩
     .rw[o7 U,I.hok.fresh hb]at g;cases g
  show a7y Dn _ σ _ [.ref L] [.ref L] Q I1 (.cons rfl .nil) ⟨L,fG as ps,rfl,.inl ⟨.inl<|.inl cQ,λl c=>?_⟩⟩;have lL:l≠L:=λh=>by rw[h,cQ]at c;cases c
  rw[bC lL]at c;have la:l∉as:=λh=>by
   obtain⟨j,B⟩:=ul.mp h;have w:j<ps.length:=by have:=(ZW.mp B).1;lia
   rw[wU G B<|ZY w]at c;cases c
  rw[o7 la]at c;show k as L l Z ?_ λa R=>?_
  .rw[Š,Š];show⟨λh=>(Ě.mp h).elim lL la,nLa,G⟩
  .rcases Ě.mp R with rfl|R
   .show c
   rcases Ě.mp R with rfl|R
   .show I.hok.fresh hL
   .show I.hok.fresh<|ż<|M.over a R
abbrev tG(k:List Int×D):D:=.tup [.tup<|k.1.map D.int,k.2]
abbrev wV:D->Hm->jk
 |.loc a,μ=>match μ[a]? with
  |some (.dT kvs)=>if wR kvs.length then b0 (.tup<|(wQ kvs).map tG,μ)else b5|_=>b5
 |_,_=>b5
abbrev wW(m:ME):ME:=λb a=>(m b a).bind λr=>wV r.1 r.2
abbrev Gy(K:ZV):V->Hp->VK->Prop:=λx H Q=>∃a ps,x=.ref a/\H a=b0 (aS a ps)/\dC K H ps/\wR ps.length /\
 ∀(as:List Addr)(L l:Addr),as.length=ps.length->(l::L::as).Nodup->(∀a∈l::L::as,H a=b5)->Q (.ref l) (upd (upd (fX H as ps) L<|.lst<|fG as ps) l<|.tup<|fG as ps)
def Tv{pos:ß}(hc:X.calm=eA)(A:X.A.units+64<â)(w:X.mg "sorted"=b5)(y:X.mg "tuple"=b5)(r:Gl X "sorted")(u:Gl X "tuple")(U:PE X o to)(c:lz o "items" X.env (eval o X.env)=eval o X.env)(d:(apos.endLine==cpos.line)=eA):
  PE X (.Call (.Name "tuple" p) [.Call (.Name "sorted" p2) [.Call (.Attribute o "items" apos) [] [] cpos] [] pos2] [] pos) (λj H Q=>to j H λx l=>Gy X.K x l Q):=by
 intro i s j H Q I h;show gh<|gU I u y QV ?_;show iu ?_ rfl rfl;show L4 ?_;show gh<|gU I r w QX ?_;show Q8 ?_ rfl rfl;show L4 ?_;show Oa c d<|aP (U i s j H _ I h) λv B ⟨x,l,E,r1,a,ps,O,e,G,n,q⟩=>?_;subst O;obtain rfl:v=Ð a:=r1;obtain⟨Z,hl,N,M,g,he⟩:=wK E e G;show⟨"dict","dict.items",Mm,LP,Pw,g.ty,λb L=>?_,LJ rfl<|PY ?_⟩
 .cases L;obtain⟨z,R,T,_⟩:=g;show⟨z,R,T.2.1⟩
 show qu LP g.ty Q2 (Pj _) (Gn a Z) ⟨⟨N,M,g⟩,?_⟩;show L0 ?_;have K:Inv X i j l {B with heap:=B.heap.push {cls:=.type "dict_items",data:=.fields #[.ref a]}}:=E.kept (t':=B.toks) λb o e=>Z1 _ e;show aP (Tu hc A K e G n ⟨_,Ă _ rfl,rfl,rfl⟩ q) λv s' Y=>L0 Y
def Gz:∀{as}{ps}{H},Rp K π H c->as.Nodup->(∀a∈as,H a=b5)->à π c.length H π c.length (fX H as ps)/\Rp K π (fX H as ps) c
 |[],_,H,R,_,_=>by simp only[fX];show⟨.refl,R⟩
 |a::as,[],H,R,_,_=>⟨.refl,R⟩|a::as,p::ps,H,R,nd,hf=>by
  rw[Š]at nd;obtain⟨g,e⟩:=R.fresh (o:=.tup [.ref p.2.1,p.2.2])<|hf a<|Ś ..;obtain⟨h,R2⟩:=Gz (as:=as) (ps:=ps) e nd.2 λb d=>by rw[bC λw:b=a=>nd.1<|w▸d];show hf b<|ň _ d
  show⟨g.trans h,R2⟩
def Tw:∀σ H Q,tM K (wW Z) σ H Q->tM K Z σ H λx n=>Gy K x n Q:=by
 rintro σ H Q ⟨π,ρ,μ,d,o,R,E,g,k⟩;obtain⟨⟨x,G⟩,h1,g⟩:=ZS.mp g;show⟨π,ρ,μ,x,G,R,E,h1,λh v1 n e1 I i1=>?_⟩;have k1:=k.after e1;dsimp only at g;unfold wV at g;split at g
 .split at g
  .rename_i b hc;split at g
   .rename_i hb;cases g;cases i1;obtain⟨c,e2,T⟩:=iA I hc;have Y:c.length=b.length:=by have:=congrArg Ģ T.to.1;simpa using this
    show⟨_,c,rfl,e2,T.keys,by rw[Y];show hb,λe L l al nd y=>?_⟩;rw[Š,Š]at nd;obtain⟨M,R3⟩:=Gz (ps:=c) I nd.2.2 λa ha=>y a<|ň _<|ň _ ha;have hL:fX n e c L=none:=by rw[o7 nd.2.1];show y L<|ň _<|Ś ..
    obtain⟨N,R4⟩:=R3.fresh (o:=.lst (fG e c)) hL;have hl:upd (fX n e c) L (.lst<|fG e c) l=none:=by rw[bC λw:l=L=>nd.1<|by rw[w];show Ś ..,o7 λw=>nd.1<|ň _ w];show y l<|Ś ..
    obtain⟨O,R5⟩:=R4.fresh (o:=.tup (fG e c)) hl;show k1 h _ _ ((M.trans N).trans O) R5<|.tup (.of cQ) ?_;have A:c.map (·.1)=b.map (·.1):=T.to.1;have B:∀p:List Nat,(∀i∈p,i<b.length)->Ã K h o.length (upd (upd (fX n e c) L<|.lst<|fG e c) l<|.tup<|fG e c) (p.map λi=>V.ref<|e.getD i 0) (p.map<|tG∘λi=>b.getD i ([],.non)):=λp s=>by
     induction p with
     |nil=>show .nil|cons i p ih=>
      have u:=s i<|Ś ..;have r:e[i]?=b0 (e.getD i 0):=by simp[Ğ,show i<e.length by lia]
      have z:c[i]?=b0 c[i]:=ZY ⋯;have hik:b[i]?=b0 b[i]:=ZY u;have U:b.getD i ([],.non)=b[i]:=by simp[Ğ,u]
      have ep:c.getD i ([],0,.non)=c[i]:=by simp[Ğ,show i<c.length by lia]
      have pa:=S8 T ([],0,.non) ([],.non) i ⋯;rw[ep,U]at pa;obtain⟨q1,q2,q3⟩:=pa;show .cons ?_<|ih λj hj=>s j<|ň _ hj;have v:upd (upd (fX n e c) L<|.lst<|fG e c) l (.tup<|fG e c) (e.getD i 0)=b0 (.tup [.ref c[i].2.1,c[i].2.2]):=by have g:=Ĳ r;rw[bC λw:e.getD i 0=l=>nd.1<|by rw[<- w];show ň _ g,bC λw:e.getD i 0=L=>nd.2.1<|by rw[<- w];show g];show wU nd.2.2 r z
      change Í K h o.length _ (.ref<|e.getD i 0) (tG<|b.getD i ([],.non));rw[U];have X:=(M.trans N).trans O;have ik:Í K h o.length n (.ref c[i].2.1) (.tup<|b[i].1.map D.int):=by rw[<- q1];show .tup q2<|Ap _
      show .tup (.of v)<|.cons (ik.mono X)<|.cons (q3.mono X) .nil
    have ey:fG e c=(cI (λi j=>HT.lexLt ((b.map (·.1)).getD i [])<|(b.map (·.1)).getD j []) b.length).map λi=>V.ref (e.getD i 0):=by unfold fG cE;rw[A,Y]
    have fin:=B (cI (λi j=>HT.lexLt ((b.map (·.1)).getD i [])<|(b.map (·.1)).getD j []) b.length) λi u=>Ō.mp<|(fU _ _).mem_iff.mp u;rw[<- ey]at fin;unfold wQ;rw[Û];show fin
   .cases g
  .cases g
 .cases g
def Tx{pos:ß}(hc:X.calm=eA)(i:X.A.units+64<â)(g:X.mg "sorted"=b5)(h:X.mg "tuple"=b5)(d:Gl X "sorted")(e:Gl X "tuple")(n:QE X o j)(r:j9 o=eA)(l:(a.endLine==b.line)=eA):
  QE X (.Call (.Name "tuple" p) [.Call (.Name "sorted" s) [.Call (.Attribute o "items" a) [] [] b] [] c] [] pos) (wW j):=
 ⟨cU (Tv hc i g h d e n.h (oJ r) l) Tw⟩
end L3
namespace L3
open PySem L2 PySem.W PyProof.Rows
def Tz{s:ZZ}{lt:h->h->Bool}(O:ĩ lt)d{ks:List h}(n:ks.length=us.length)(u:ks.Nodup)(v:us.Nodup)(hz:us.length<=Z7)(p:s.heap.IsList l us.toArray)(H:2<=us.length->∀c,(∀b o,s.heap.get? b=b0 o->c.get? b=b0 o)->mX P w A.in1.in1 us (λi j=>lt (ks.getD i d)<|ks.getD j d) {s with heap:=c})(q:Q (.ref<|s.heap.objs.size+1) {s with heap:=sortedAll s.heap us ((cI (λi j=>lt (ks.getD i d)<|ks.getD j d) us.length).map λi=>us.getD i ŝ).toArray}):Ç (Å P w) A (call (.builtin "sorted") [.ref l]) Q E s:=by
 show Pt kind_sorted plain_sorted entry_sorted (args_sorted1 _) ?_;unfold Pc;show ZU (m:=checkCount "sorted" 1 1 _) (Z3<|ZU<|collect_list p (ZU<|Kb ?_<|by lia)<|by lia);have z:((s.heap.push<|ċ "list" #[] 0).update s.heap.objs.size<|a1i (·++us.toArray)).objs.size=s.heap.objs.size+1:=by rw[Heap.size_update,size_push']
 have g:(((s.heap.push<|ċ "list" #[] 0).update s.heap.objs.size<|a1i (·++us.toArray)).push<|ċ "list" us.toArray 0).get? (s.heap.objs.size+1)=b0 (ċ "list" us.toArray 0):=z▸Ă _ rfl;change Ç _ _ _ _ _ ⟨((s.heap.push<|ċ "list" #[] 0).update s.heap.objs.size<|a1i (·++us.toArray)).push<|ċ "list" us.toArray 0,s.gens,s.drawn,s.toks,s.os⟩;rw[z];by_cases a:2<=us.length
 .show ZU<|Ķ<|au Ku ⟨_,g,rfl⟩ Ki (Gm O d n u v a hz g (λc r=>H a c λb o e=>r b o ?_ ?_) ⟨_,rfl,?_⟩)<|Ks _
  .show ð<|LC<|Z8 e
  .show Z1 _<|(Μ _ _<|ů<|Z8 e).trans<|Z1 _ e
  .show Z3 ⟨_,rfl,q⟩
 .show ZU (Ķ<|au Ku ⟨_,g,rfl⟩ Ki (ES (us:=us) ⋯ g ⟨_,rfl,?_⟩)<|Ks _);show Z3 ⟨_,rfl,?_⟩;match us,a,q with
  |[],_,q=>rw[ao,Ak]at q;show q|[b],_,q=>rw[Ms,ET]at q;show q|_::_::_,a,_=>simp at a
end L3
namespace L3
open PySem L2
def GA(h:A.handled=b5)(j:IsItemIter s.heap it d i es.size ep ok ov)(g:ò s.heap d es ep)(p:∀e a,es[i]?=b0 e->KU a it d (i+1) es.size ep e.key e.val s.heap.objs.size->a.get? s.heap.objs.size=b0 {cls:=.type "tuple",data:=.seq #[e.key,e.val]}->
   (∀b o,b≠it->s.heap.get? b=b0 o->a.get? b=b0 o)->Q (b0<|.ref s.heap.objs.size) {s with heap:=a})(r:es[i]?=b5->∀a,yf it s.heap a->Q b5 {s with heap:=a}):Ç (Å P w) A (ņ<|.ref it) Q E s:=
 AO (S:=d) h j (.inl rfl) g g.lt (λe a c _ o n _ l=>p e a c (o rfl) n l) r
abbrev AU(d:Addr)(a:Obj)(ps:bK):It:=⟨λi H=>H d=b0 (.frz a<|aS d ps)/\i<ps.length,λi H x b=>∃t p,x=.ref t/\H t=b5/\ps[i]?=b0 p/\b=upd H t (.tup [.ref p.2.1,p.2.2]),λi H=>H d=b0 (.frz a<|aS d ps)/\ps.length<=i⟩
def TB(hd:ob.data=.dict es ep):ħ Qc P w K (.Tuple el kx pt) (AU d ob ps) [j] j (λi h=>∃ok r,IsItemIter h j d i es.size ep ok r) where
 mem:=by simp
 obj:=λi h ⟨ok,r,st⟩ b p=>by
  have e:b=j:=by simpa using p
  subst e;show⟨_,st,λv z=>by
   have z':İ _=lu v:=z;cases z'⟩
 keep:=λi h U ⟨ok,r,st⟩ k=>⟨ok,r,k j (by simp) _ st⟩;item:=by
  intro X Z hw Y hc i O s σ H E I M ⟨ok,r,st⟩ hg;subst Z hw Y;obtain⟨n,B⟩:=hg;obtain⟨lo,hl,T,R,g,a,N⟩:=oZ I n;rw[hd]at a;cases a;obtain⟨_,_,es2,ep2,_,y,he⟩:=Ta I n;rw[hd]at y;cases y;have hs:es.size=ps.length:=by have:=congrArg Ģ N;simpa using this
  show GA (I.ok.hd hc) st g (λe U l a1 a2 a3=>⟨_,rfl,wpAny_letOwnedTupleGo_items a1 λh2 b1 L=>?_⟩) λhn=>by simp at hn;lia
  have hp:ps[i]?=b0 ps[i]:=ZY B;have ek:e.key=.ref (ps[i]).2.1:=by have:=congrArg (·[i]?) N;simp only[þ,ϲ,l,hp,Ę]at this;show ñ this
  obtain⟨u,u1,u2⟩:=he.get (i:=i) (x:=ps[i].2.2) (by rw[þ,hp];rfl);rw[þ,ϲ,l]at u1;cases u1;have G:j<s.heap.objs.size:=Z8 st;have ht2:h2.get? s.heap.objs.size=b0 {cls:=.type "tuple",data:=.seq #[e.key,e.val]}:=(L.2 _<|ů G).trans a2;have hfr:H s.heap.objs.size=none:=I.hok.fresh<|Z2 _;show⟨.ref s.heap.objs.size,upd H s.heap.objs.size<|.tup [.ref (ps[i]).2.1,(ps[i]).2.2],?_,rfl,⟨_,ps[i],rfl,hfr,hp,rfl⟩,⟨_,_,b1⟩,λc p=>?_⟩
  .show AE (s:=s) (h':=h2) (t':=s.toks) (ch:=[j]) I (λc oc p ec=>?_) M (Z2 _) ?_
   .have x:c≠j:=by simpa using p
    show(L.2 c x).trans<|a3 c oc x ec
   .show⟨by change(2:Nat)<=Z7;decide,[e.key,e.val],.cons ek<|.cons u2 .nil,_,ht2,rfl,0,rfl,rfl⟩
  .rw[bC]
   .show(M c p).1
   .have e:c=j:=by simpa using p
    rw[e];show ð G
 done:=by
  intro X Z hw Y hc i O s σ H E I M ⟨ok,r,st⟩ hg;subst Z hw Y;obtain⟨n,B⟩:=hg;obtain⟨lo,hl,T,R,g,a,N⟩:=oZ I n;rw[hd]at a;cases a;have hs:es.size=ps.length:=by have:=congrArg Ģ N;simpa using this
  obtain⟨f0,f1,f2,f3,f4,f5⟩:=M j (by simp);show GA (I.ok.hd hc) st g (λe U l=>by
   have:=(Mp.mp l).1;lia) λ_ U eb=>⟨rfl,I.turned (t':=s.toks) (λb o p e=>eb b o p e) f0 f1 f3 f4 f5⟩
 self:=λA i s Q E ⟨ok,r,st⟩ h=>PySem.W.kcp_self st h
def TC(M:PE X l O)(j:lz l "items" X.env (eval l X.env)=eval l X.env)(n:(a.endLine==c.line)=eA):
  PI X (.Tuple K N pt) (.Call (.Attribute l "items" a) [] [] c) (λu H R=>O u H λv p=>∃d B E,v=.ref d/\p d=b0 (.frz B<|aS d E)/\R (AU d B E) p):=by
 intro i s u H R I h;show Oa j n<|aP (M i s u H _ I h) λv r ⟨y,p,G,r1,q1⟩=>?_;obtain⟨d,B,E,e,L,q⟩:=q1;subst e;obtain rfl:v=Ð d:=r1;obtain⟨lo,M,Y,T,g,hd,he⟩:=oZ G L;show⟨"dict","dict.items",Mm,LP,Pw,g.ty,λb Q=>?_,LJ rfl<|PY ?_⟩
 .cases Q;obtain⟨z,g1,x,_⟩:=g;show⟨z,g1,x.2.1⟩
 show qu LP g.ty Q2 (Pj _) (Gn d lo) ⟨⟨Y,T,g⟩,?_⟩;have w:Inv X i u p {r with heap:=r.heap.push {cls:=.type "dict_items",data:=.fields #[.ref d]}}:=G.kept (t':=r.toks) λb o e=>Z1 _ e;obtain⟨lo2,hl2,Z,U,x,A,he2⟩:=oZ w L;change Ç (Å X.prog X.w) X.A (cg<|.ref r.heap.objs.size) (yN X i u (.Tuple K N pt) R) X.xe _;show Gi ⟨_,Ă _ rfl,rfl,rfl⟩ x ⟨_,[_],_,_,p,rfl,w.kept (t':=r.toks) λb o e=>Z1 _ e,TB A,⟨_,_,Ă _ rfl⟩,λb hb=>?_,q⟩;have e:=ā.mp hb;subst e;show w.fpOk (Z2 _)<|w.hok.fresh<|Z2 _
abbrev kN(kvs:jx):List D:=kvs.map λk=>.tup [.tup<|k.1.map D.int,k.2]
def TF{ps:bK}(h:H d=b0 (.frz o<|aS d ps))(T:Þ K π n H ps kvs):Wk K (AU d o ps) (c7<|.tup<|kN kvs) π n H:=by
 have L:ps.length=kvs.length:=by have:=congrArg Ģ T.to.1;simpa using this
 show⟨λg G r i e R z=>?_,λg G r i s e R z=>?_⟩
 .have a:(kN kvs)[i]?=none:=ñ z;have:=Ξ.mp a;rw[kN,ZT]at this;show⟨e.frz _ _ _ h,by lia⟩
 .have a:(kN kvs)[i]?=b0 s:=ñ z;have E:i<kvs.length:=by have:=(ZW.mp a).1;rwa [kN,ZT]at this
  show⟨⟨e.frz _ _ _ h,by lia⟩,λv I ⟨t,p,u,w,x,y⟩=>?_⟩;subst u y;have b:kvs[i]?=b0 kvs[i]:=ZY E;obtain⟨M,j,A⟩:=(T.to.2.1.mono e).get (i:=i) (d:=D.tup ((kvs[i]).1.map D.int)) (by rw[þ,b];rfl);obtain⟨N,l,B⟩:=(T.to.2.2.mono e).get (i:=i) (d:=(kvs[i]).2) (by rw[þ,b];rfl);rw[þ,x]at j l;cases j;cases l;obtain⟨c,R2⟩:=R.fresh (o:=.tup [.ref p.2.1,p.2.2]) w;rw[kN,þ,b]at a;cases a;show⟨c,R2,.tup (.of cQ)<|.cons (A.mono c)<|.cons (B.mono c) .nil⟩
def TH(j:PE X l i):PE X l (λσ H Q=>i σ H λv a=>∃d ps,v=.ref d/\a d=b0 (aS d ps)/\∀c,Q v (upd a d<|.frz c<|aS d ps)):=by intro b s σ H Q I h;show aP (j b s σ H _ I h) λv r ⟨y,a,g,p,o⟩=>?_;obtain⟨d,ps,rfl,e,q⟩:=o;obtain⟨_,⟨c,n⟩,_⟩:=(show Ì X.prog X.w a r.heap d (aS d ps)from g.hok _ _ e);show⟨_,_,Inv.freeze g e n,p,q c⟩
abbrev tH(m:ME):MI:=λc b=>(m c b).bind λp=>match p.1 with
 |.loc a=>match p.2[a]? with
  |some (.dT kvs)=>b0 (c7<|.tup<|kN kvs,kvs.length+1,p.2.set a<|.dF kvs)|_=>b5
 |_=>b5
def TJ(h:QE X e m)(y:j9 e=eA)(w:(a.endLine==b.line)=eA):vh X (.Call (.Attribute e "items" a) [] [] b) (tH m):=⟨λes O pt Dn s σ H R I hw=>by
 obtain⟨L,M,B,A,n,G,r,E,c,k⟩:=hw;obtain⟨⟨x,K⟩,v,c⟩:=ZS.mp c;dsimp only at c;split at c
 .split at c
  .rename_i i hc;cases c;show TC (TH h.h) (oJ y) w Dn s σ H R I ⟨L,M,B,_,_,r,E,v,λl Q N u o z=>?_⟩;cases z;obtain⟨d,p,T⟩:=iA o hc;show⟨_,d,rfl,p,λj=>?_⟩;obtain⟨g,R2⟩:=o.put (c:=.dF i) (o:=.frz j (aS _ d)) (ZW.mp hc).1 p (.inr<|.inr ⟨_,rfl⟩) ⟨j,d,rfl,T.to⟩;show⟨_,j,d,rfl,cQ,k l _ _ (u.trans g) R2<|TF cQ<|Þ.of T.to.1 (T.to.2.1.mono g)<|T.to.2.2.mono g⟩
  .cases c
 .cases c⟩
abbrev qX:D->List D->Hm->jk
 |.loc a,[x],μ=>match μ[a]? with
  |some (.lst xs)=>(kJ μ x xs).bind λbs=>if bs.findIdx id<bs.length/\bs.length<=Z7 then b0 (.non,μ.set a<|.lst<|xs.eraseIdx<|bs.findIdx id)else b5|_=>b5
 |_,_,_=>b5
inductive ŕ (K:ZV):V->gz->Hp->VK->Prop
 |mk {H:Hp}{Q:VK}{π:Nat->Addr}{μ:Hm}{a:Nat}{xs:List D}{y:V}{dy:D}{bs:List Bool}{ws:gz}(R:Rp K π H μ)(hx:μ[a]?=b0 (.lst xs))(iy:Í K π μ.length H y dy)(he:kJ μ dy xs=b0 bs)(hf:bs.findIdx id<bs.length)(hH:H (π a)=b0 (.lst ws))(q:Q .non (upd H (π a)<|.lst<|ws.eraseIdx<|bs.findIdx id)):ŕ K (.ref<|π a) [y] H Q
def GB:∀{vs}{ds},Ã K π n H vs ds->∀k,Ã K π n H (vs.eraseIdx k) (ds.eraseIdx k)
 |_,_,.nil,_=>.nil|_,_,.cons _ t,0=>t|_,_,.cons h t,k+1=>.cons h<|GB t k
def GC:∀{vs}{us},Á vs us->∀k,Á (vs.eraseIdx k) (us.eraseIdx k)
 |_,_,.nil,_=>.nil|_,_,.cons _ t,0=>t|_,_,.cons h t,k+1=>.cons h<|GC t k
def TK:iU K qX (ŕ K):=by
 intro w H z x ds d u v y Q R r p a k;unfold qX at a;split at a
 .split at a
  .rename_i g b;obtain⟨bs,j,a⟩:=ZS.mp a;split at a
   .rename_i n;cases a;cases p with
    |cons o s=>cases s;cases r;obtain⟨e,c,l⟩:=R.lst _ g b;obtain⟨i,h⟩:=R.put (c:=.lst (g.eraseIdx<|bs.findIdx id)) (o:=.lst (e.eraseIdx<|bs.findIdx id)) (ZW.mp b).1 c (.inl ⟨e,rfl⟩)<|GB l _;show .mk R b o j n.1 c<|k w _ _ i h .non
   .cases a
  .cases a
 .cases a
def GD{g:Value->Bool}(p:j<us.size)(hz:us.size<=Z7)(hit:g us[j]=eA):
  ∀(k i:Nat),i+k=j->(∀m (u:m<us.size),i<=m->m<j->g us[m]=dI)->Meets (Builtin.«list.remove.loop» ⟨[.ref l,x,ŷ i],[]⟩)
   λA R s=>(s.heap.get? l=b0 {cls:=.type "list",dict:=b5,data:=.seq us n,slots:=#[]}/\∀y∈us,J4 A.in1 s y x (g y))/\R (.ok<|.ret .none) {s with heap:=s.heap.update l<|a1i (·.eraseIdxIfInBounds j)}
 |0,i,e,_,prog,w,A,R,s,h=>by
  obtain⟨z,v,d,E,B⟩:=s;obtain⟨⟨c,o⟩,h⟩:=h;obtain rfl:i=j:=e;wp_walk using rE c;rw[show us[((i:Nat):Int).toNat]?=b0 us[i] by simp[p]];show ZU<|o _ (P4 p) prog w _ _ ?_;rw[hit];have r:(us.eraseIdxIfInBounds i).size<=Z7+1:=by
   have:(us.eraseIdxIfInBounds i).size<=us.size:=by unfold PM;split<;>simp
   lia
  wp_walk using(ζ c rfl (hz:=hz) (_hz':=r)),rE c;simpa using h
 |k+1,i,e,no,prog,w,A,R,s,h=>by
  obtain⟨z,v,d,E,B⟩:=s;obtain⟨⟨c,o⟩,h⟩:=h;have lt:i<us.size:=by lia
  wp_walk using rE c;rw[show us[((i:Nat):Int).toNat]?=b0 us[i] by simp[lt]];show ZU<|o _ (P4 lt) prog w _ _ ?_;rw[no i lt (Z2 _)<|by lia];wp_walk;rw[show((i:Int)+1)=((i+1:Nat):Int) by lia];show⟨ŧ LU _,ű Pp ?_⟩;rw[Ŵ LU _];show GD p hz hit k (i+1) ⋯ (λm u a b=>no m u ⋯ b) prog w A R _ ⟨⟨c,o⟩,h⟩
def TL{g:Value->Bool}(o:j<us.size)(hz:us.size<=Z7)(hit:g us[j]=eA)(no:∀m (e:m<us.size),m<j->g us[m]=dI):Meets (Builtin.«list.remove» ⟨[.ref l,x],[]⟩)
   λA R s=>(s.heap.get? l=b0 {cls:=.type "list",dict:=b5,data:=.seq us n,slots:=#[]}/\∀y∈us,J4 A.in1 s y x (g y))/\R (.ok<|.ret .none) {s with heap:=s.heap.update l<|a1i (·.eraseIdxIfInBounds j)}:=by
 intro a w A R s h;obtain⟨r,p,d,v,u⟩:=s;obtain⟨⟨c,i⟩,h⟩:=h;wp_walk using rE c;show⟨ŧ LU _,ű Pp ?_⟩;rw[Ŵ LU _];show GD o hz hit j 0 (Ω _) (λm e _ b=>no m e b) a w A R _ ⟨⟨c,i⟩,h⟩
def TM(hu:X.A.units+20<â):jC X "list.remove" (ŕ X.K):=by
 intro L s σ H x vs v us Q I rx rv h;obtain⟨R,T,Y,O,w,p,q⟩:=h;rename_i π μ a xs y dy bs K;cases rx;obtain⟨u,rfl,Z⟩:=rv.one;obtain⟨E,j,hd⟩:=R.lst a xs T;obtain rfl:K=E:=by rw[p]at j;cases j;rfl
 obtain⟨z,b,n,r,hl,e⟩:=I.lstM p;obtain⟨g,M,G⟩:=FT I R (A:=X.A.in1) (by rw[iP];lia) Z Y hd r O;have l:bs.length=b.length:=by rw[<- G,ZT]
 have A:bs.findIdx id<b.length:=by rw[<- l];show w
 have c:∀m (o:m<b.length),bs[m]?=b0 (g b[m]):=λm o=>by rw[<- G,þ,ZY o];rfl
 show qt F.slot_list_remove ⟨_,e,rfl⟩ F.entry_list_remove (F.args_list_remove_2 _ _) (TL (l:=π a) (us:=b.toArray) (n:=n) (x:=u) (g:=g) (j:=bs.findIdx id) (by simpa using A) (by rw[Z5];lia) ?_ ?_) ⟨⟨e,λy U=>M y<|by simpa using U⟩,⟨.non,_,I.lset (its':=b.eraseIdx (bs.findIdx id)) p e ?_ (GC r _) ?_,rfl,q⟩⟩
 .have d:=Om (p:=id) (xs:=bs) (w:=w);have i:=c _ A;rw[ZY w]at i;rw[ñ i]at d;simpa using d
 .intro m o B;have N:m<b.length:=by simpa using o
  have d:=PC (p:=id) (xs:=bs) B;have i:=c _ N;rw[ZY<|by lia]at i;rw[ñ i]at d;simpa using d
 .unfold PM;rw[dif_pos<|by simpa using A];simp
 .have:=List.length_eraseIdx_le K<|bs.findIdx id;lia
open PyProof.Rows (IsTup IntsAre)
abbrev tI(h:ç)(v:Value)(p:Int×Int):Prop:=∃a xs,v=.ref a/\jj h a xs/\Ÿ xs.toList [p.1,p.2]
def TN(c:A.units<â)(a:tI s.heap u p)(b:tI s.heap v q)(h:Q (.bool<|HT.lexLt [p.1,p.2] [q.1,q.2]) s):Ç (Å P w) A (aj .Lt u v) Q E s:=by obtain⟨a,j,rfl,g,d⟩:=a;obtain⟨b,l,rfl,i,e⟩:=b;show HT.lt_tupInts g i d e c h
def TQ(O:A.units+2<â)(a:tI s.heap u p)(b:tI s.heap v q)(h:Q (.bool<|HT.lexLt [q.1,q.2] [p.1,p.2]) s):Ç (Å P w) A (aj .Gt u v) Q E s:=by
 obtain⟨a,K,rfl,⟨B,n,r,R,N⟩,d⟩:=a;obtain⟨b,L,rfl,⟨G,l,o,T,M⟩,g⟩:=b;obtain⟨K⟩:=K;obtain⟨L⟩:=L;show wpAny_richCompare_same_room (op:=.Gt) ⟨B,n,r⟩ ⟨G,l,o⟩ F.slot_tuple_gt (au F.slot_tuple_gt ⟨B,n,r⟩ F.entry_tuple_gt ?_<|F.args_tuple_gt_2 _ _) ⋯;show ZU (m:=isInstance (.ref b) (.type "tuple"))<|za ⟨G,l,o⟩ isSubtype_tuple_tuple ?_;simp only[yr,Į,if_false];show ZU<|OJ n N<|ZU<|OJ l M<|ZU ?_;cases d with
 |cons x t d=>
 cases d with
 |cons U H d=>
 cases d;cases g with
 |cons y u g=>
 cases g with
 |cons X I g=>
 cases g;change Ç _ _ (forIn [(Ć p.1 t,Ć q.1 u),(Ć p.2 H,Ć q.2 I)] _ _) _ _ s;simp only[OR,List.forIn_nil];have c:∀(i:Int)(t:Ϻ),(Ř P w).is i (.int i t)=true:=λi t=>by simp[Ř,M5]
 show ZU<|ZU<|(Ř P w).eqBool (c p.1 t) (c q.1 u) ?_;by_cases e:p.1=q.1
 .rw[decide_eq_true e];simp only[yr,Į,if_false];show Z3<|ZU<|ZU<|(Ř P w).eqBool (c p.2 H) (c q.2 I) ?_;by_cases j:p.2=q.2
  .rw[decide_eq_true j];rw[e,j,wN]at h;simp only[yr,Į,if_false];show Z3<|Z3<|Z3 ⟨.bool dI,rfl,(λz=>nomatch z),h⟩
  .rw[decide_eq_false j];simp only[Kn,if_true];show ZU<|ϧ<|ZU<|Q1 ?_;have:HT.lexLt [q.1,q.2] [p.1,p.2]=decide (q.2<p.2):=by simp[HT.lexLt,e,ó j]
   rw[this]at h;show ZU<|Z3<|Z3<|Z3<|Z3 ⟨_,rfl,(λz=>nomatch z),h⟩
 .rw[decide_eq_false e];simp only[Kn,if_true];show ZU<|ϧ<|ZU<|Q1 ?_;have:HT.lexLt [q.1,q.2] [p.1,p.2]=decide (q.1<p.1):=by simp[HT.lexLt,ó e]
  rw[this]at h;show ZU<|Z3<|Z3<|Z3<|Z3 ⟨_,rfl,(λz=>nomatch z),h⟩
def TR{St:Nat->ç->Prop}(K:Walks P w A.in1 I X B 2 (λi v=>(#[a,b]:Array Value)[i]?=b0 v) St)(O:S∉X)(st:St 0 s.heap)(H:s.heap.get? S=b0 {cls:=.type "list",dict:=b5,data:=.seq #[] z,slots:=#[]})(hc:∀t (Q E:Value->ZZ->Prop),(∀x o,x∉B->x≠S->s.heap.get? x=b0 o->t.heap.get? x=b0 o)->Q (.bool c) t->Ç (Å P w) A.in1 (aj .Lt b a) Q E t)(q:∀h' tk,(∀x o,x∉B->x≠S->s.heap.get? x=b0 o->h'.get? x=b0 o)->R (.ok<|.ret<|if c then b else a) {s with heap:=h',toks:=tk}):ź (Å P w) A (.builtin "min.loop" ⟨[.ref I,.none,.ref S],[]⟩) R s:=by
 have r:S∉B:=λz=>O<|K.sub _ z;have T:(toString "min"++toString ".loop":String)="min.loop":=by decide
 have d:∀{h:ç}{u:Value}(x:Addr)(o:Obj),x≠S->h.get? x=b0 o->(h.update S<|a1i λ_=>#[u,u]).get? x=b0 o:=λx o n e=>(Μ _ _<|ó n).trans e;show ű F.entry_min_loop ?_;rw[Ŵ F.plain_min_loop _];show ZU (m:=Rr (.ref S)) (UV H rfl<|ZU (m:=tryCatch (ņ<|.ref I) _)<|Ϟ<|K.item 0 s _ _ (by decide) st λv h1 tk1 pv U M=>?_);obtain rfl:a=v:=by simpa using pv
 show ZU (m:=Sd S λ_=>#[a,a])<|ζ (M S _ r H) rfl ?_;rw[T];show Z3 ⟨ŧ F.plain_min_loop _,ű F.entry_min_loop ?_⟩;rw[Ŵ F.plain_min_loop _];have Y:=Κ (a1i λ_=>#[a,a]) (M S _ r H) rfl;show ZU (m:=Rr (.ref S)) (UV Y rfl<|ZU (m:=tryCatch (ņ<|.ref I) _)<|Ϟ<|K.item 1 _ _ _ (by decide) (K.frame _ _ _ U λx L o e=>d x o (λz=>O<|z▸L) e) λv h2 tk2 pv y k2=>?_);obtain rfl:b=v:=by simpa using pv
 have N:∀x o,x∉B->x≠S->s.heap.get? x=b0 o->h2.get? x=b0 o:=λx o g j e=>k2 x o g<|d x o j<|M x o g e;have G:=k2 S _ r Y;change Ç _ A.in1 (tryCatch (holding [b,b]<|aj .Lt b a >>= _) _ >>= _) _ _ _;show ZU<|Ϟ<|Ķ<|ZU<|hc _ _ _ N<|ZU<|Ķ<|ό<|ZU<|ψ<|Z3 ?_;cases c with
 |true=>simp only[if_true]at q ⊢;show ZU<|ζ G rfl<|ZU<|ψ ?_;rw[T];show Z3 ⟨ŧ F.plain_min_loop _,ű F.entry_min_loop ?_⟩;rw[Ŵ F.plain_min_loop _];have Z:=Κ (a1i λ_=>#[b,b]) G rfl;show ZU (m:=Rr (.ref S))<|UV Z rfl<|ZU (m:=tryCatch (ņ<|.ref I) _)<|Ϟ<|K.done _ _ _ (K.frame _ _ _ y λx L o e=>d x o (λz=>O<|z▸L) e) λh4 l p=>?_;show ZU (m:=Sd S λ_=>#[])<|ζ (p S _ r Z) rfl<|ZU<|ψ<|Z3 ?_;show q _ l λx o g j e=>(Μ _ _<|ó j).trans (p x o g<|d x o j<|N x o g j e)|false=>simp only[Į,if_false]at q ⊢;show ZU<|ψ ?_;rw[T];show Z3 ⟨ŧ F.plain_min_loop _,ű F.entry_min_loop ?_⟩;rw[Ŵ F.plain_min_loop _];show ZU (m:=Rr (.ref S))<|UV G rfl<|ZU (m:=tryCatch (ņ<|.ref I) _)<|Ϟ<|K.done _ _ _ y λh4 l p=>?_;show ZU (m:=Sd S λ_=>#[])<|ζ (p S _ r G) rfl<|ZU<|ψ<|Z3 ?_;show q _ l λx o g j e=>(Μ _ _<|ó j).trans<|p x o g<|N x o g j e
def TU(u:A.handled=b5)(hc:∀t (Q E:Value->ZZ->Prop),(∀x o,s.heap.get? x=b0 o->t.heap.get? x=b0 o)->Q (.bool c) t->Ç (Å P w) A.in1 (aj .Lt b a) Q E t)(q:∀g j,(∀x o,s.heap.get? x=b0 o->g.get? x=b0 o)->Q (if c then b else a) {s with heap:=g,toks:=j}):Ç (Å P w) A (call (.builtin "min") [a,b]) Q E s:=by
 have v:(toString "min"++toString ".loop":String)="min.loop":=by decide
 show Nb F.kind_min F.plain_min F.entry_min (F.args_min2 _ _) ?_;show ZU (m:=Q9 "min" ["key","default"] 0 ⟨[],[]⟩)<|KQ (show _=pure [b5,b5]from rfl) ?_;show ZU (m:=K8 [a,b])<|ο ?_;have n:(s.heap.push {cls:=.type "tuple",data:=.seq #[a,b]}).IsTuple s.heap.objs.size #[a,b]:=⟨_,Ă _ rfl,rfl,0,rfl⟩;have i:(s.heap.push {cls:=.type "tuple",data:=.seq #[a,b]}).objs.size=s.heap.objs.size+1:=WP ..;show ZU<|uw n<|ZU<|ο ?_;have d:((s.heap.push {cls:=.type "tuple",data:=.seq #[a,b]}).push {cls:=.type "tuple_iterator",data:=.fields #[.ref s.heap.objs.size,.int 0 0]}).objs.size=s.heap.objs.size+2:=by rw[WP,i]
 rw[v];have old:∀x o,s.heap.get? x=b0 o->x<s.heap.objs.size:=λx o e=>Z8 e;show Z3 ⟨ŧ F.plain_min_loop _,TR (c:=c) (KW (A:=A.in1) u _ s.heap.objs.size (by rw[i];show ð<|ϛ _) #[a,b]) ?_ ⟨⟨_,Z1 _<|Ă _ rfl,rfl,rfl⟩,(n.push _).push _⟩ (Ă _ rfl) (λt r p k h=>hc t r p (λx o e=>?_) h) λg j k=>q g j λx o e=>?_⟩
 .rw[d,i];simp
 all_goals
  have l:=old x o e;show k x o (λz=>?_) (λz=>?_)<|Z1 _<|Z1 _<|Z1 _ e
  .rw[i]at z;rw[ā.mp z]at l;show Ų _<|ύ l
  .rw[z,d]at l;show Ų _<|ύ<|ύ l
def TV{St:Nat->ç->Prop}(K:Walks P w A.in1 I X B 2 (λi v=>(#[a,b]:Array Value)[i]?=b0 v) St)(O:S∉X)(st:St 0 s.heap)(H:s.heap.get? S=b0 {cls:=.type "list",dict:=b5,data:=.seq #[] z,slots:=#[]})(hc:∀t (Q E:Value->ZZ->Prop),(∀x o,x∉B->x≠S->s.heap.get? x=b0 o->t.heap.get? x=b0 o)->Q (.bool c) t->Ç (Å P w) A.in1 (aj .Gt b a) Q E t)(q:∀h' tk,(∀x o,x∉B->x≠S->s.heap.get? x=b0 o->h'.get? x=b0 o)->R (.ok<|.ret<|if c then b else a) {s with heap:=h',toks:=tk}):ź (Å P w) A (.builtin "max.loop" ⟨[.ref I,.none,.ref S],[]⟩) R s:=by
 have r:S∉B:=λz=>O<|K.sub _ z;have T:(toString "max"++toString ".loop":String)="max.loop":=by decide
 have d:∀{h:ç}{u:Value}(x:Addr)(o:Obj),x≠S->h.get? x=b0 o->(h.update S<|a1i λ_=>#[u,u]).get? x=b0 o:=λx o n e=>(Μ _ _<|ó n).trans e;show ű F.entry_max_loop ?_;rw[Ŵ F.plain_max_loop _];show ZU (m:=Rr (.ref S)) (UV H rfl<|ZU (m:=tryCatch (ņ<|.ref I) _)<|Ϟ<|K.item 0 s _ _ (by decide) st λv h1 tk1 pv U M=>?_);obtain rfl:a=v:=by simpa using pv
 show ZU (m:=Sd S λ_=>#[a,a])<|ζ (M S _ r H) rfl ?_;rw[T];show Z3 ⟨ŧ F.plain_max_loop _,ű F.entry_max_loop ?_⟩;rw[Ŵ F.plain_max_loop _];have Y:=Κ (a1i λ_=>#[a,a]) (M S _ r H) rfl;show ZU (m:=Rr (.ref S)) (UV Y rfl<|ZU (m:=tryCatch (ņ<|.ref I) _)<|Ϟ<|K.item 1 _ _ _ (by decide) (K.frame _ _ _ U λx L o e=>d x o (λz=>O<|z▸L) e) λv h2 tk2 pv y k2=>?_);obtain rfl:b=v:=by simpa using pv
 have N:∀x o,x∉B->x≠S->s.heap.get? x=b0 o->h2.get? x=b0 o:=λx o g j e=>k2 x o g<|d x o j<|M x o g e;have G:=k2 S _ r Y;change Ç _ A.in1 (tryCatch (holding [b,b]<|aj .Gt b a >>= _) _ >>= _) _ _ _;show ZU<|Ϟ<|Ķ<|ZU<|hc _ _ _ N<|ZU<|Ķ<|ό<|ZU<|ψ<|Z3 ?_;cases c with
 |true=>simp only[if_true]at q ⊢;show ZU<|ζ G rfl<|ZU<|ψ ?_;rw[T];show Z3 ⟨ŧ F.plain_max_loop _,ű F.entry_max_loop ?_⟩;rw[Ŵ F.plain_max_loop _];have Z:=Κ (a1i λ_=>#[b,b]) G rfl;show ZU (m:=Rr (.ref S))<|UV Z rfl<|ZU (m:=tryCatch (ņ<|.ref I) _)<|Ϟ<|K.done _ _ _ (K.frame _ _ _ y λx L o e=>d x o (λz=>O<|z▸L) e) λh4 l p=>?_;show ZU (m:=Sd S λ_=>#[])<|ζ (p S _ r Z) rfl<|ZU<|ψ<|Z3 ?_;show q _ l λx o g j e=>(Μ _ _<|ó j).trans (p x o g<|d x o j<|N x o g j e)|false=>simp only[Į,if_false]at q ⊢;show ZU<|ψ ?_;rw[T];show Z3 ⟨ŧ F.plain_max_loop _,ű F.entry_max_loop ?_⟩;rw[Ŵ F.plain_max_loop _];show ZU (m:=Rr (.ref S))<|UV G rfl<|ZU (m:=tryCatch (ņ<|.ref I) _)<|Ϟ<|K.done _ _ _ y λh4 l p=>?_;show ZU (m:=Sd S λ_=>#[])<|ζ (p S _ r G) rfl<|ZU<|ψ<|Z3 ?_;show q _ l λx o g j e=>(Μ _ _<|ó j).trans<|p x o g<|N x o g j e
def TX(u:A.handled=b5)(hc:∀t (Q E:Value->ZZ->Prop),(∀x o,s.heap.get? x=b0 o->t.heap.get? x=b0 o)->Q (.bool c) t->Ç (Å P w) A.in1 (aj .Gt b a) Q E t)(q:∀g j,(∀x o,s.heap.get? x=b0 o->g.get? x=b0 o)->Q (if c then b else a) {s with heap:=g,toks:=j}):Ç (Å P w) A (call (.builtin "max") [a,b]) Q E s:=by
 have v:(toString "max"++toString ".loop":String)="max.loop":=by decide
 show Nb F.kind_max F.plain_max F.entry_max (F.args_max2 _ _) ?_;show ZU (m:=Q9 "max" ["key","default"] 0 ⟨[],[]⟩)<|KQ (show _=pure [b5,b5]from rfl) ?_;show ZU (m:=K8 [a,b])<|ο ?_;have n:(s.heap.push {cls:=.type "tuple",data:=.seq #[a,b]}).IsTuple s.heap.objs.size #[a,b]:=⟨_,Ă _ rfl,rfl,0,rfl⟩;have i:(s.heap.push {cls:=.type "tuple",data:=.seq #[a,b]}).objs.size=s.heap.objs.size+1:=WP ..;show ZU<|uw n<|ZU<|ο ?_;have d:((s.heap.push {cls:=.type "tuple",data:=.seq #[a,b]}).push {cls:=.type "tuple_iterator",data:=.fields #[.ref s.heap.objs.size,.int 0 0]}).objs.size=s.heap.objs.size+2:=by rw[WP,i]
 rw[v];have old:∀x o,s.heap.get? x=b0 o->x<s.heap.objs.size:=λx o e=>Z8 e;show Z3 ⟨ŧ F.plain_max_loop _,TV (c:=c) (KW (A:=A.in1) u _ s.heap.objs.size (by rw[i];show ð<|ϛ _) #[a,b]) ?_ ⟨⟨_,Z1 _<|Ă _ rfl,rfl,rfl⟩,(n.push _).push _⟩ (Ă _ rfl) (λt r p k h=>hc t r p (λx o e=>?_) h) λg j k=>q g j λx o e=>?_⟩
 .rw[d,i];simp
 all_goals
  have l:=old x o e;show k x o (λz=>?_) (λz=>?_)<|Z1 _<|Z1 _<|Z1 _ e
  .rw[i]at z;rw[ā.mp z]at l;show Ų _<|ύ l
  .rw[z,d]at l;show Ų _<|ύ<|ύ l
abbrev AV(x:D):Option (Int×Int):=(cM x).bind λk=>match k with
 |[a,b]=>b0 (a,b)|_=>b5
abbrev wX(f:Int×Int->Int×Int->Bool)(g:MF):MF:=λds a=>match ds with
 |[x,y]=>(match AV x,AV y with
  |some p,b0 q=>b0 (if f p q then y else x,a)
  |_,_=>g ds a)
 |_=>g ds a
abbrev AW:MF:=wX (λp q=>HT.lexLt [q.1,q.2] [p.1,p.2]) AB
abbrev AX:MF:=wX (λp q=>HT.lexLt [p.1,p.2] [q.1,q.2]) AD
inductive J8 (f:Int×Int->Int×Int->Bool)(K:ZV):gz->Hp->VK->Prop
 |mk {H:Hp}{Q:VK}{a b:Addr}{p q:Int×Int}(ha:Ó K H a ([p.1,p.2].map V.int))(hb:Ó K H b ([q.1,q.2].map V.int))(k:Q (.ref<|if f p q then b else a) H):J8 f K [.ref a,.ref b] H Q
def GF(h:AV x=b0 p):x=.tup ([p.1,p.2].map D.int):=by
 obtain⟨k,b,a⟩:=ZS.mp h;rw[sP b];split at a
 .cases a;rfl
 .cases a
def tJ{p:List Int}(h:Í K π n H v (.tup<|p.map D.int)):∃a,v=.ref a/\Ó K H a (p.map V.int):=by
 cases h with
 |@tup a c ds b hd=>have:=Ċ hd;subst this;show⟨a,rfl,b⟩
def GG(j:d8 K g r):d8 K (wX f g) (λxs H Q=>J8 f K xs H Q\/r xs H Q):=by
 intro h H u xs d e s Q R i c k;unfold wX at c;split at c
 .split at c
  .rename_i v w;cases c;cases i with
   |cons l t=>
   cases t with
   |cons n t=>
   cases t;have o:=l;have p:=n;rw[GF v]at o;rw[GF w]at p;obtain⟨a,rfl,x⟩:=tJ o;obtain⟨b,rfl,y⟩:=tJ p;show .inl<|.mk x y<|k h _ H .refl R ?_;split
   .show n
   .show l
  .show .inr<|j h H u _ d e s Q R i c k
 .show .inr<|j h H u _ d e s Q R i c k
def wY{σ:St}(I:Inv X Dn σ H s)(h:Ó X.K H a ([p.1,p.2].map V.int))(c:∀x o,s.heap.get? x=b0 o->h'.get? x=b0 o):tI h' (.ref a) p:=by obtain⟨b,r,⟨o,e,z⟩,_⟩:=I.tuple h;show⟨a,_,rfl,⟨o,c _ _ e,z⟩,zE r⟩
def TY(hc:X.calm=eA)(n:X.A.units+64<â):Î X (.builtin "min") (J8 (λp q=>HT.lexLt [q.1,q.2] [p.1,p.2]) X.K):=by intro b s y H x w Q I r h;obtain⟨c,d,k⟩:=h;obtain⟨u,v,rfl,e,g⟩:=r9 r;cases e;cases g;show TU (I.ok.hd hc) (λt j i a h=>TN (by rw[iP];lia) (wY I d a) (wY I c a) h) λl o a=>⟨_,H,I.kept a,?_,k⟩;split<;>rfl
def TZ(hc:X.calm=eA)(n:X.A.units+64<â):Î X (.builtin "max") (J8 (λp q=>HT.lexLt [p.1,p.2] [q.1,q.2]) X.K):=by intro b s y H x w Q I r h;obtain⟨c,d,k⟩:=h;obtain⟨u,v,rfl,e,g⟩:=r9 r;cases e;cases g;show TX (I.ok.hd hc) (λt j i a h=>TQ (by rw[iP];lia) (wY I d a) (wY I c a) h) λl o a=>⟨_,H,I.kept a,?_,k⟩;split<;>rfl
end L3
namespace L3
open PySem L2 PySem.W PyProof.Rows
noncomputable abbrev Ti:=List Int×List Int×Bool×List Int
abbrev gJ:Ti:=([],[],dI,[])
abbrev o8(x y:Ti):Bool:=if x.1=y.1 then(if x.2.1=y.2.1 then(if x.2.2.1=y.2.2.1 then HT.lexLt x.2.2.2 y.2.2.2 else y.2.2.1)else HT.lexLt x.2.1 y.2.1)else HT.lexLt x.1 y.1
section
variable{P:ĥ}{w:Ĉ}{A:ĺ}{E:Value->ZZ->Prop}{s:ZZ}
inductive q9 (P:ĥ)(w:Ĉ)(h:ç)(a:Addr)(t:Ti):Prop
 |mk (o:Obj)(n:Nat)(b c e:Addr)(g:h.get? a=b0 o)(k:o.cls=.type "tuple") (d:o.data=.seq #[.ref b,.ref c,.bool t.2.2.1,.ref e] n)(h1:jM P w h b t.1)(h2:jM P w h c t.2.1)(h3:jM P w h e t.2.2.2)
def T1(h:a≠b):J4 A s (.bool a) (.bool b) false:=λprog w E Q q=>by unfold eqBool;show Ķ ?_;rw[if_neg<|by simpa using h];show ZU<|SeqAt.RcAt.bool_bool a b prog w E _<|ό ?_;rw[show(a==b)=dI by simpa using h];show q
def AY(g:A.units<â)(d:jM P w s.heap b k)(a:jM P w s.heap c k')(l:k=k'->KatLex P w A dI fin Q r (i+1) s)(n:k≠k'->Q (HT.lexLt k k') s):
  KatLex P w A dI fin Q ((.ref b,.ref c)::r) i s:=by
 show xq<|(Ű<|Ř P w).eqBool g d.1 a.1 ?_;by_cases e:k=k'
 .rw[decide_eq_true e];show K5<|l e
 .rw[decide_eq_false e];obtain⟨u,o,h⟩:=d.2;obtain⟨v,p,j⟩:=a.2;show kat_no<|kat_one _ _<|HT.lt_tupInts o p (by simpa using h) (by simpa using j) g<|n e
def T3{C:Bool->ZZ->Prop}(h:A.units<â)(x:q9 P w s.heap a t)(y:q9 P w s.heap i t')(q:C (o8 t t') s):Ç (Å P w) A (wz (tuples' dI) (.ref a)<|.ref i) C (λ_ _=>False) s:=by
 obtain⟨o,n,b,c,e,g,_,d,G,H,I⟩:=x;obtain⟨O,N,j,l,r,B,_,p,K,L,M⟩:=y;unfold o8 at q;show kat_lt g d B p ?_;change KatLex P w A dI _ C [(.ref b,.ref j),(.ref c,.ref l),(.bool t.2.2.1,.bool t'.2.2.1),(.ref e,.ref r)] 0 s;show AY h G K (λz=>?_) λz=>by rw[if_neg z]at q;show q
 rw[if_pos z]at q;show AY h H L (λz=>?_) λz=>by rw[if_neg z]at q;show q
 rw[if_pos z]at q;by_cases f:t.2.2.1=t'.2.2.1
 .rw[if_pos f]at q;rw[f];show xq<|Gj<|K5<|AY h I M (λz=>kat_nil ?_) λ_=>q;rw[z,wN]at q;show q
 .rw[if_neg f]at q;show xq<|T1 f P w _ _<|kat_no<|kat_one _ _<|lt_bool ?_;have:decide (b2i t.2.2.1<b2i t'.2.2.1)=t'.2.2.1:=by generalize t.2.2.1=u at f;generalize t'.2.2.1=v at f;cases u<;>cases v<;>first|show absurd rfl f|decide
  rw[this];show q
def T4{as:List Addr}{ts:List Ti}(L:A.units<â)(I:0<as.length)(x:ts.length=as.length)(d:∀i,i<as.length->q9 P w s.heap (as.getD i 0) (ts.getD i gJ)):mX P w A (as.map Ð) (λi j=>o8 (ts.getD i gJ)<|ts.getD j gJ) s:=by
 have l:∃fs:gw,fs.length=as.length/\KatTups s.heap (as.map Ð) fs/\∀v∈fs,∃b k,v=Ð b/\jM P w s.heap b k:=by
  clear I;induction as generalizing ts with
  |nil=>show⟨[],rfl,.nil,λv g=>nomatch g⟩|cons a as M=>
   match ts,x with
   |t::ts,x=>
    obtain⟨fs,y,p,r⟩:=M (ts:=ts) (by simpa using x) λi h=>by simpa using d (i+1) (by simpa using h)
    obtain⟨o,n,b,c,e,z,B,G,H,_⟩:=d 0 (by simp);show⟨.ref b::fs,by simp[y],.cons z B G (by simp) p,λv g=>?_⟩;rcases Ě.mp g with rfl|g
    .show⟨b,_,rfl,H⟩
    .show r v g
 obtain⟨fs,y,p,r⟩:=l;show kat_kind (T:=.type "tuple") p ⋯ (λv g=>?_) (by decide) ⟨rfl,λi j C h u K=>?_⟩
 .obtain⟨b,k,rfl,N⟩:=r v g;obtain⟨O,⟨o,o1,o2,_⟩,_⟩:=N.2;show kitAt_ty _ _ ⟨o,o1,o2⟩
 .rw[ZT]at h u;rw[show(as.map Ð).getD i .none=.ref (as.getD i 0) by simp[Ğ,h],show(as.map Ð).getD j .none=.ref (as.getD j 0) by simp[Ğ,u]];show T3 L (d i h) (d j u) K
end
abbrev mZ{a b:Type} [DecidableEq a] (f:a->a->Bool)(g:b->b->Bool)(x y:a×b):Bool:=if x.1=y.1 then g x.2 y.2 else f x.1 y.1
def AZ[DecidableEq i]{f:i->i->Bool}{g:j->j->Bool}(F:ĩ f)(G:ĩ g):ĩ (mZ f g):=by
 show⟨λx=>?_,λx y z c d=>?_,λx y c d=>?_⟩
 .unfold mZ;rw[if_pos rfl];show G.ir _
 .unfold mZ at c d ⊢;by_cases a:x.1=y.1<;>by_cases b:y.1=z.1
  .rw[if_pos a]at c;rw[if_pos b]at d;rw[if_pos<|a.trans b];show G.tr _ _ _ c d
  .rw[if_neg b]at d;rw[if_neg λe=>b<|a.symm.trans e,a];show d
  .rw[if_neg a]at c;rw[if_neg λe=>a<|e.trans b.symm,<- b];show c
  .rw[if_neg a]at c;rw[if_neg b]at d;have h:=F.tr _ _ _ c d;rw[if_neg λe=>by rw[e,F.ir]at h;cases h];show h
 .unfold mZ at c d;by_cases a:x.1=y.1
  .rw[if_pos a]at c;rw[if_pos a.symm]at d;show cu a<|G.to _ _ c d
  .rw[if_neg a]at c;rw[if_neg λe=>a e.symm]at d;show absurd (F.to _ _ c d) a
def T5:o8=mZ HT.lexLt (mZ HT.lexLt<|mZ (λa b=>!a&&b) HT.lexLt):=by
 funext x y;unfold o8 mZ;by_cases h:x.2.2.1=y.2.2.1
 .rw[if_pos h,if_pos h]
 .rw[if_neg h,if_neg h];cases c:x.2.2.1<;>cases d:y.2.2.1<;>first|rfl|(rw[c,d]at h;show absurd rfl h)
def T6:ĩ λa b=>!a&&b:=⟨by decide,by decide,by decide⟩
def T7:ĩ o8:=T5▸AZ ã (AZ ã<|AZ T6 ã)
noncomputable abbrev jN(ts:List Ti):Prop:=ts.Nodup
abbrev T8:D->Option Bool
 |.bl b=>b0 b|_=>b5
abbrev T9:List D->Option Ti
 |[x,y,z,w]=>(cM x).bind λk=>(cM y).bind λm=>(T8 z).bind λb=>(cM w).map λn=>(k,m,b,n)|_=>b5
abbrev wZ:D->Option Ti
 |.tup l=>T9 l|_=>b5
abbrev dM(t:Ti):D:=.tup [.tup<|t.1.map D.int,.tup<|t.2.1.map D.int,.bl t.2.2.1,.tup<|t.2.2.2.map D.int]
def Ua(h:wZ x=b0 t):x=dM t:=by
 cases x with
 |tup l=>
  rcases l with _|⟨x,_|⟨y,_|⟨z,_|⟨w,_|⟨_,_⟩⟩⟩⟩⟩;all_goals first|cases h;done|skip
  obtain⟨k,c,h⟩:=ZS.mp h;obtain⟨m,d,h⟩:=ZS.mp h;obtain⟨b,a,h⟩:=ZS.mp h;obtain⟨n,e,rfl⟩:=ZX.mp h;rw[sP c,sP d,sP e];cases z with
  |bl=>cases a;rfl|_=>cases a
 |_=>cases h
abbrev tK:List D->Option (List Ti)
 |[]=>b0 []|x::r=>(wZ x).bind λt=>(tK r).map (t::·)
def GH:∀{xs}{ts},tK xs=b0 ts->xs=ts.map dM
 |[],_,h=>by cases h;rfl
 |x::xs,ts,h=>by obtain⟨t,a,h⟩:=ZS.mp h;obtain⟨r,b,rfl⟩:=ZX.mp h;rw[Ua a,GH b];rfl
abbrev m5(ts:List Ti):Nat->Nat->Bool:=λi j=>o8 (ts.getD i gJ)<|ts.getD j gJ
abbrev qY:MF:=λds b=>match ds with
 |[x]=>(e8 b x).bind λc=>(tK c).bind λa=>if jN a then b0 (.loc b.length,b++[.lst<|(cI (m5 a) a.length).map λi=>c.getD i .non])else b5|_=>b5
inductive Qa (K:ZV)(H:Hp)(v:V)(t:Ti):Prop
 |mk (a b c e:Addr)(g:v=.ref a)(s:Ó K H a [.ref b,.ref c,.bl t.2.2.1,.ref e])(s1:Ó K H b (t.1.map V.int))(s2:Ó K H c (t.2.1.map V.int))(s3:Ó K H e (t.2.2.2.map V.int))
inductive Ŕ (K:ZV):gz->Hp->VK->Prop
 |mk {H:Hp}{Q:VK}{q:Addr}{ws:gz}{ts:List Ti}(hq:ê K H q ws)(hw:Ť (Qa K H) ws ts)(h:jN ts)(k:∀l,H l=b5->Q (.ref l) (upd H l<|.lst<|(cI (m5 ts) ws.length).map λi=>ws.getD i .non)):Ŕ K [.ref q] H Q
def GI{K:ZV}:∀{vs}{ts},Ã K π n H vs (ts.map dM)->Ť (Qa K H) vs ts
 |_,[],h=>by cases h;show .nil
 |_,t::ts,h=>by
  cases h with
  |cons h r=>
  show .cons ?_<|GI r;cases h with
  |@tup a vs ds l hd=>
  cases hd with
  |cons d hd=>
  cases hd with
  |cons g hd=>
  cases hd with
  |cons i hd=>
  cases hd with
  |cons j hd=>
  cases hd;cases i;obtain⟨b,rfl,o⟩:=tJ d;obtain⟨c,rfl,p⟩:=tJ g;obtain⟨e,rfl,s⟩:=tJ j;show⟨a,b,c,e,rfl,l,o,p,s⟩
def Ub{K:ZV}:d8 K qY (Ŕ K):=by
 intro y H x w d u v Q R i a k;unfold qY at a;split at a
 .obtain⟨s,j,a⟩:=ZS.mp a;obtain⟨c,n,a⟩:=ZS.mp a;split at a
  .rename_i o;cases a;cases i with
   |cons i t=>
    cases t;obtain⟨p,g,rfl,q,hd⟩:=qJ R i j;have b:=hd;rw[GH n]at b;have r:g.length=c.length:=by rw[b.length,ZT]
    show .mk q (GI b) o λl e=>?_;obtain⟨h,R2,_⟩:=R.alloc (c:=.lst ((cI (m5 c) c.length).map λi=>s.getD i .non)) (o:=.lst ((cI (m5 c) g.length).map λi=>g.getD i .non)) e<|by
     change Ã _ _ _ _ _ _;rw[r];show E4 hd _
    show k _ _ _ h R2 jY
  .cases a
 .cases a
def GJ(h:Á vs us):∀l:List Nat,Á (l.map λi=>vs.getD i .non) (l.map λi=>us.getD i .none)
 |[]=>.nil|i::l=>by
  show .cons ?_<|GJ h l;have z:=h.length;cases e:vs[i]? with
  |some v=>obtain⟨u,a,b⟩:=h.get e;simp only[Ğ,e,a];show b|none=>have:=h.none_of e;simp only[Ğ,e,this];rfl
def A1{σ:L2.St}(I:Inv X Dn σ H s)(h:Ó X.K H b (k.map V.int)):jM X.prog X.w s.heap b k:=by obtain⟨a,r,t,_⟩:=I.tuple h;show⟨kF I h,a,t,zE r⟩
def A2(h:Á [.ref b,.ref c,.bl t,.ref e] us):us=[.ref b,.ref c,.bool t,.ref e]:=by
 cases h with
 |cons a h=>
 cases h with
 |cons d h=>
 cases h with
 |cons g h=>
 cases h with
 |cons r4 h=>
 cases h;cases a;cases d;cases g;cases r4;rfl
def Uc(hun:X.A.units+64<â):Î X (.builtin "sorted") (Ŕ X.K):=by
 intro G s σ H xs us Q I r h;obtain⟨hq,hw,A,k⟩:=h;rename_i q ws l;obtain⟨u,rfl,ru⟩:=fM r;cases ru;obtain⟨p,E,pl,hz⟩:=I.list hq;have y:=E.length;have Y:l.length=ws.length:=hw.length.symm;have B:∃v:List Addr,p=v.map Ð/\∀i,i<v.length->∃b c e,Ó X.K H (v.getD i 0) [.ref b,.ref c,.bl (l.getD i gJ).2.2.1,.ref e]/\Ó X.K H b ((l.getD i gJ).1.map V.int)/\Ó X.K H c ((l.getD i gJ).2.1.map V.int)/\Ó X.K H e ((l.getD i gJ).2.2.2.map V.int):=by
  clear hz pl k hq I y Y A;induction hw generalizing p with
  |nil=>cases E;show⟨[],rfl,λi x=>nomatch x⟩|cons h _ ih=>
   cases E with
   |cons r1 r2=>
    obtain⟨v,e,f⟩:=ih _ r2;obtain⟨a,b,c,d,rfl,t,t1,t2,t3⟩:=h;cases r1;show⟨a::v,by rw[e];rfl,λi x=>?_⟩;cases i with
    |zero=>show⟨b,c,d,t,t1,t2,t3⟩|succ i=>simpa using f i (by simpa using x)
 obtain⟨v,N,Z⟩:=B;have hal:v.length=p.length:=by rw[N,ZT]
 have nd:p.Nodup:=by rw[N];unfold yh;rw[Ϗ];show ϋ.mpr λi j x hj U e=>?_;replace e:=L7 e;obtain⟨b,c,e4,g,O,R,T⟩:=Z i x;obtain⟨b',c',e4',f,f1,f2,f3⟩:=Z j hj;rw[show v.getD i 0=v[i] by simp[Ğ,x]]at g;rw[show v.getD j 0=v[j] by simp[Ğ,hj],<- e]at f;obtain⟨x1,r1,⟨o1,a1,_,n1,d1⟩,_⟩:=I.tuple g;obtain⟨x2,r2,⟨o2,a2,_,n2,w⟩,_⟩:=I.tuple f;rw[a1]at a2;cases a2;rw[d1]at w;injection w with w;obtain rfl:=A2 r1;obtain rfl:=A2 r2;injection congrArg Lu w with K w;injection w with L w;injection w with M w;injection w with e5 w;have k3:=Value.bool.inj M;rw[<- L7 K]at f1;rw[<- L7 L]at f2;rw[<- L7 e5]at f3;have k0:l.getD i gJ=l.getD j gJ:=cu (An I O f1)<|cu (An I R f2)<|cu k3<|An I T f3;rw[show l.getD i gJ=l[i]'⋯ by simp[Ğ,show i<l.length by lia],show l.getD j gJ=l[j]'⋯ by simp[Ğ,show j<l.length by lia]]at k0;show(ϋ.mp A) i j ⋯ ⋯ U k0
 show Tz T7 gJ (ks:=l) ⋯ A nd ⋯ pl.isList (λh2 h3 kp=>?_) ?_
 .rw[N];show T4 (by rw[iP,iP];lia) ⋯ ⋯ λi x=>?_;obtain⟨b,c,e,g,O,R,T⟩:=Z i x;have J:Inv X G σ H {s with heap:=h3,toks:=s.toks}:=I.kept (t':=s.toks) kp;obtain⟨us,ru,⟨o,K,L,n,M⟩,_⟩:=J.tuple g;obtain rfl:=A2 ru;show⟨o,n,b,c,e,K,L,M,A1 J O,A1 J R,A1 J T⟩
 .obtain⟨e,he⟩:=sortedAll_at s.heap p ((cI (m5 l) p.length).map λi=>p.getD i ŝ).toArray;show⟨.ref<|s.heap.objs.size+1,_,I.laid (t':=s.toks) (a:=s.heap.objs.size+1) (o:=.lst ((cI (m5 l) ws.length).map λi=>ws.getD i .non)) (λb ob z=>sortedAll_old z) (m8 _) ?_,rfl,k _<|I.hok.fresh<|m8 _⟩;show⟨?_,_,e,?_,he⟩
  .rw[ZT,(fU _ _).length_eq,ώ];show hz
  .rw[<- y];show GJ E _
end L3
namespace L3
open PySem L2
section
variable{P:ĥ}{w:Ĉ}{K:Type} [DecidableEq K] {knd:KA P w K}{A:ĺ}{E:Value->ZZ->Prop}{s:ZZ}{d o a:Addr}{k:K}{xs ys:List (K×Addr×Value)}
def Ud(N:knd.room A)(I:knd.is s.heap k a)(M:s.heap.DictOfH knd d xs)(hz:xs.length<=Z7)(q:∀h',h'.DictOfH knd d (Ε xs k a v)->γ d s.heap h'->Q () {s with heap:=h'}):
  Ç (Å P w) A (KY d (.ref a) (knd.hash k) v) Q E s:=by
 obtain⟨O,L,G,c,hc,hd,z,h,n⟩:=id M;unfold KY;show Ķ<|ZU<|OO N I c hd z h n (λr=>?_) λj p H=>?_
 .have i:=NS r;have u:k∉xs.map (·.1):=ON r;show ZU<|ϧ<|O0 (hz:=by have e:=Kk z;lia) c hd<|q _ ⟨_,_,G+1,Κ _ c<|L5<|uf hd _,hc.mapDictKeys _,uf hd _,?_,λx b=>?_,?_⟩<|θ ..
  .rw[lg i];simp[z,xr]
  .rw[lg i]at b;rcases ù.mp b with b|b
   .show knd.keeps (h x b) c hd<|θ ..
   .rw[ā]at b;subst b;show knd.keeps I c hd<|θ ..
  .rw[lg i,ý,ϩ];show⟨n,by simp,λx b y B e=>by
    simp only[é,qx,ā]at B;subst B;show u<|e▸b⟩
 .have g:=atKey_of_get n H;show ZU<|ϧ<|ZU<|wpAny_updateDict c hd<|wpAny_point<|q _ ⟨_,_,G,Κ _ c<|L5<|OU hd _,hc.mapDict _,OU hd _,?_,λx b=>?_,?_⟩<|θ ..
  .have t:=modify_map_putAt (xr knd) (λe:DictEntry=>{e with val:=v}) k v (λ_ _=>rfl) n H;rw[Lk g];rw[<- z]at t;obtain⟨l⟩:=L;simpa using t
  .rw[Lk g]at b;obtain⟨y,B,rfl⟩:=Õ.mp b;unfold ql;split<;>show knd.keeps (h y B) c hd<|θ ..
  .rw[Lk g,keys_map_putAt];show n
abbrev iY(xs ys:List (K×Addr×Value)):List (K×Addr×Value):=ys.foldl (λacc x=>Ε acc x.1 x.2.1 x.2.2) xs
def Ue xs(k:K)a v:(Ε xs k a v).length<=xs.length+1:=by
 unfold Ε;split
 .rw[ZT];lia
 .rw[Z4];show Z2 _
def GK:∀(ys xs:List (K×Addr×Value)),(iY xs ys).length<=xs.length+ys.length
 |[],xs=>Z2 _|y::ys,xs=>by have b:=GK ys<|Ε xs y.1 y.2.1 y.2.2;have c:=Ue xs y.1 y.2.1 y.2.2;change(iY (Ε xs y.1 y.2.1 y.2.2) ys).length<=_;rw[ć];lia
def GL:∀(ys xs:List (K×Addr×Value)),((xs++ys).map (·.1)).Nodup->iY xs ys=xs++ys
 |[],xs,_=>(Ň xs).symm|y::ys,xs,h=>by
  have b:Ŀ xs y.1=none:=by
   unfold Ŀ;rw[ie.mpr]
   .rfl
   .intro x c;rw[decide_eq_true_iff];intro e;rw[ý,é]at h;show(ϩ.mp h).2.2 x.1 (Õ.mpr ⟨x,c,rfl⟩) y.1 (.head _) e
  change iY (Ε xs y.1 y.2.1 y.2.2) ys=_;rw[lg b,GL ys _<|by rw[ú];show h,ú];rfl
def Ug(hu:knd.room A)(p:(d==o)=dI)(hoS:(o==ğ)=dI)(hd:s.heap.DictOfH knd d xs)(ho:s.heap.DictOfH knd o ys)(tt:∀y∈ys,s.TypeIs (.ref y.2.1) "tuple")(nh:(ys.map λy=>knd.hash y.1).Nodup)(hz:xs.length+ys.length<=Z7)(q:∀c,c.DictOfH knd d (iY xs ys)->γ d s.heap c->Q () {s with heap:=c}):Ç (Å P w) A (Pm nm d o) Q E s:=by
 obtain⟨od,ed,epd,U,d2,I,d4,d5,d6⟩:=id hd
 obtain⟨oo,g,epo,o1,o2,H,T,o5,o6⟩:=id ho
 have hne:d≠o:=λe=>by rw[e,beq_self_eq_true]at p;cases p
 have lo:=Kk T
 unfold Pm
 rw[if_neg<|by rw[p];show Z6]
 unfold zq
 rw[if_neg<|by rw[hoS];show Z6]
 show ZU<|Z3<|ZU<|Ϝ o1 H ?_
 have j:Ç (Å P w) A (do
   let n <- dictEpoch o
   let l <- dictEntries o
   forIn [:l.size] Ke λi (_:PUnit)=>(do
     let l' <- dictEntries o
     match l'[i]? with
      |some e=>do
       holding [e.key,e.val] (KY d e.key e.hash e.val)
       let Z <- dictEpoch o
       if(Z != n)=eA then do
         (unsupported (toString nm++toString ":source-changed-during-callback"):ĕ PUnit)
         pure (az Ke)
        else pure (az Ke)
      |_=>do
       (unsupported "internal:dict-merge":ĕ PUnit)
       pure (az Ke):ĕ (ForInStep PUnit))
   pure ()) Q E s:=by
  show ZU<|qz o1 H<|ZU<|Ϝ o1 H<|ZU ?_
  rw[b0T]
  simp only[b0S,yo,Mg,Nat.div_one]
  show M3 _ (λÄ _ s'=>∃c i,s'={s with heap:=c}/\Ä=ak i (g.size-i)/\i<=g.size/\c.DictOfH knd d (iY xs<|ys.take i)/\c.get? o=b0 oo/\(∀y∈ys,knd.is c y.1 y.2.1)/\γ d s.heap c)
   _ ?_ ?_ _ _ ⟨s.heap,0,rfl,by simp,ŀ _,by rw[ų];show hd,o1,o5,LM _ _⟩
  .rintro x Ä b s' ⟨c,i,rfl,u,hi,h,r,G,v⟩
   have hlt:i<g.size:=by
    rcases Nk i g.size with z|z
    .show z
    .rw[Nat.sub_eq_zero_of_le z]at u;cases u
   rw[show g.size-i=(g.size-(i+1))+1 by lia,zm]at u
   injection u with e1 e2
   subst e1
   have hx:x<ys.length:=by lia
   have en:=entry_at T x
   rw[ZY hx]at en
   show ZU<|Ϝ r H ?_
   rw[en]
   have hl2:(iY xs<|ys.take x).length<=Z7:=by
    have:=GK (ys.take x) xs
    rw[Ġ]at this
    lia
   obtain⟨od',_,_,X,_,Y,_⟩:=id h
   change Ç _ _ (holding [_,_] (KY d (.ref ys[x].2.1) (knd.hash ys[x].1) ys[x].2.2) >>= _) _ _ _
   show ZU<|Ķ<|Ud (s:={s with heap:=c}) hu (G _<|Ŧ hx) h hl2 λh2 L B=>?_
   have O:h2.get? o=b0 oo:=(B.2 o<|ó hne).trans r
   show ZU<|qz (s:={s with heap:=h2}) O H ?_
   rw[if_neg<|by simp]
   show Z3 ⟨h2,x+1,rfl,e2,hlt,?_,O,λy R=>knd.keeps (G y R) X Y B,v.trans B⟩
   have et:ys.take (x+1)=ys.take x++[ys[x]]:=by rw[di,ZY hx];rfl
   rw[et]
   unfold iY at L ⊢
   rw[OA]
   show L
  .rintro b s' ⟨c,i,rfl,u,hi,h,r,G,v⟩
   have hin:i=g.size:=by
    rcases Nk i g.size with z|z
    .rw[show g.size-i=(g.size-(i+1))+1 by lia,zm]at u;show nomatch u
    .show yj hi z
   rw[hin,lo,š]at h
   show Z3<|q c h v
 dsimp only
 split
 .show ZU<|Ϝ U I ?_
  split
  .rename_i M
   have xn:xs=[]:=by
    have z:ed=#[]:=P5.mp M
    have:=Kk d4
    rw[z]at this
    show pC.mp this.symm
   subst xn
   have ek:g.toList.map (·.key)=(ys.map (·.2.1)).map Ð:=by
    rw[T,Û,Û]
    rfl
   show ZU<|Ts (bs:=ys.map (·.2.1)) ⟨oo,o1,o2,H⟩ ek (λb hb=>?_) ?_ ?_
   .obtain⟨y,R,rfl⟩:=Õ.mp hb
    show tt y R
   .rw[T,Û]
    show nh
   have em:iY [] ys=ys:=GL ys [] o6
   rw[em]at q
   split
   .show ZU<|wpAny_updateDictKeysTo U I (Z3<|q _ ⟨_,_,epd+1,Κ _ U<|L5<|uf I _,d2.mapDictKeys _,uf I _,T,λy R=>knd.keeps (o5 y R) U I<|θ ..,o6⟩<|θ ..) ?_
    rw[ao,Ω]at hz
    lia
   .rename_i N
    have z:g=#[]:=P5.mp<|by simpa using N
    have yn:ys=[]:=by
     rw[z]at lo
     show pC.mp lo.symm
    subst yn
    show Z3<|q _ hd<|LM _ _
  .show j
 .show j
def Uh(knd:KA P w K)d o:K7 P w (Builtin.«dict.update» ⟨[.ref d,.ref o],[]⟩) (λA R s=>knd.room A.in1/\(d==o)=dI/\(o==ğ)=dI/\∃xs ys,s.heap.DictOfH knd d xs/\s.heap.DictOfH knd o ys/\(∀y∈ys,s.TypeIs (.ref y.2.1) "tuple")/\(ys.map λy=>knd.hash y.1).Nodup/\xs.length+ys.length<=Z7 /\
   ∀b,b.DictOfH knd d (iY xs ys)->γ d s.heap b->R (.ok<|.ret .none) {s with heap:=b}):=
 .of_wp λA R s ⟨j,g,h,xs,ys,hd,c,p,n,l,q⟩=>by unfold Builtin.«dict.update»;show ZU ?_;unfold QH;show ZU<|zz hd.typeIs<|Z3 ?_;change Ç _ _ (LQ "dict.update" d (.ref o) [] .none) _ _ s;unfold LQ;show ZU<|yd c.typeIs ?_;rw[if_neg<|by decide];show ZU ?_;unfold b2z b2w;show ZU<|ZU<|za c.typeIs isSubtype_dict_dict ?_;simp only[yr,Į,if_false];show ZU<|rT c.typeIs F.slot_dict_iter.lookup<|Z3 ?_;simp only[beq_self_eq_true,if_true];show ZU<|Z3<|Ug j g h hd c p n l λb e i=>?_;change Ç _ _ (QF d [] >>= _) _ _ _;show ZU<|Z3<|Z3 ⟨.none,rfl,q b e i⟩
end
abbrev o9(ps a:bK):bK:=a.foldl (λq p=>dJ q p.1 p.2.1 p.2.2) ps
abbrev lV(kvs more:jx):jx:=more.foldl (λq p=>bW q p.1 p.2) kvs
abbrev qZ:D->List D->Hm->jk
 |.loc a,[.loc b],μ=>match μ[a]?,μ[b]? with
  |some<|.dT kvs,b0 (.dT more)=>if kvs.length+more.length<=Z7/\(more.map λp=>Tb.hashT p.1).Nodup/\a≠b then b0 (.non,μ.set a<|.dT<|lV kvs more)else b5|_,_=>b5
 |_,_,_=>b5
abbrev GN(K:ZV):V->gz->Hp->VK->Prop:=λx vs H Q=>∃a b ps c,x=.ref a/\vs=[.ref b]/\H a=b0 (aS a ps)/\dC K H ps/\H b=b0 (aS b c)/\dC K H c/\a≠b/\ps.length+c.length<=Z7/\(c.map λp=>Tb.hashT p.1).Nodup/\Q .non (upd H a<|aS a<|o9 ps c)
def Þ.upd:∀{a}{more},Þ K π n H a more->∀{ps}{kvs},Þ K π n H ps kvs->Þ K π n H (o9 ps a) (lV kvs more)
 |_,_,.nil,_,_,h=>h|p::a,m::more,.cons e t,ps,kvs,h=>by obtain⟨c,d,g⟩:=e;have b:=h.put p.1 d g;rw[show bW kvs p.1 m.2=bW kvs m.1 m.2 by rw[c]]at b;show Þ.upd t b
def GO:∀a ps,(o9 ps a).length<=ps.length+a.length
 |[],ps=>Z2 _|q::a,ps=>by have b:=GO a<|dJ ps q.1 q.2.1 q.2.2;have c:=sV ps q.1 q.2.1 q.2.2;change(o9 (dJ ps q.1 q.2.1 q.2.2) a).length<=_;rw[ć];lia
def GP:∀{a}{us},Á (a.map (·.2.2)) us->∀{ps}{ws},Á (ps.map (·.2.2)) ws->∃b,Á ((o9 ps a).map (·.2.2)) b/\iY (bP ps ws) (bP a us)=bP (o9 ps a) b
 |[],_,.nil,ps,ws,r=>⟨ws,r,rfl⟩|q::a,_,.cons ru t,ps,ws,r=>by obtain⟨i,e,c⟩:=wG r q.1 q.2.1 ru;obtain⟨h,g,d⟩:=GP t e;show⟨h,g,?_⟩;change iY (Ε (bP ps ws) q.1 q.2.1 _) (bP a _)=_;rw[c];show d
def Ui:iU K qZ (GN K):=by
 intro M H X x O d L v N Q R z h a k;unfold qZ at a;split at a
 .split at a
  .rename_i i more hc g;split at a
   .rename_i y;obtain⟨U,G,I⟩:=y;cases a;cases z with
    |loc l=>
     cases h with
     |cons A t=>
      cases t;cases A with
      |loc w=>
       obtain⟨n,j,T⟩:=iA R hc;obtain⟨c,r,b⟩:=iA R g;have B:=congrArg Ģ T.to.1;have E:=congrArg Ģ b.to.1;rw[ZT,ZT]at B E;obtain⟨s,o⟩:=R.put (c:=.dT (lV i more)) (o:=aS _ (o9 n c)) l j (.inr<|.inr ⟨_,rfl⟩) ⟨_,rfl,(b.upd T).to⟩;show⟨_,_,n,c,rfl,rfl,j,T.keys,r,b.keys,λe=>I<|R.inj _ _ l w e,by lia,?_,k M _ _ s o .non⟩;have u:(c.map λp=>Tb.hashT p.1)=(c.map (·.1)).map Tb.hashT:=by rw[Û];rfl
       rw[u,b.to.1,Û];show G
   .cases a
  .cases a
 .cases a
def Uj(Y:X.A.units+1<â):jC X "dict.update" (GN X.K):=by
 intro z s σ H x vs v us Q I w rv h;obtain⟨a,b,ps,l,rfl,rfl,e,N,B,c,ne,hz,nh,q⟩:=h;cases w;obtain⟨u,rfl,ru⟩:=fM rv;obtain rfl:u=Ð b:=ru;obtain⟨U,hl,ws,r,d⟩:=iV I (.of e) N;obtain⟨j,O,o,n,A⟩:=iV I (.of B) c;have len:∀{ps:bK}{ws:gw},Á (ps.map (·.2.2)) ws->(bP ps ws).length=ps.length:=λr=>by have:=congrArg Ģ<|lT r;rwa [ZT,ZT]at this
 show qu Q3 d.typeIs PySem.F.entry_dict_update (PySem.F.args_dict_update_2 _ _) (Uh (Ű<|Ř X.prog X.w) a b) ⟨oU Y,beq_eq_false_iff_ne.mpr ne,j,_,_,d,A,λy Z=>?_,?_,by rw[len r,len n];show hz,λL g ss=>?_⟩
 .obtain⟨p,R,K⟩:=AK Z;obtain⟨its,w,⟨ot,E,i,_⟩,_⟩:=I.tuple<|c p R;rw[<- K.2];show⟨ot,E,i⟩
 .have G:((bP l o).map λy=>(Ű<|Ř X.prog X.w).hash y.1)=l.map λp=>Tb.hashT p.1:=by have:=congrArg (yc Tb.hashT)<|lT n;rw[Û,Û]at this;show this
  rw[G];show nh
 .obtain⟨w2,r2,i⟩:=GP n r;rw[i]at g;have M:∃q,L.get? a=b0 q:=let⟨q,_,_,T,_⟩:=g;⟨q,T⟩;show⟨.non,_,n5 I (by rw[e];show ŭ) ss M<|sW U (by have:=GO l ps;lia) r2 g,rfl,q⟩
structure ē where
 fn:List<|Str×Nat
 con:List<|Str×D
 tab:List<|Str×List (aK×D)
 no:List Str
 dIt:List Str
 dEq:List Str
 dMe:List Str
structure Cs where
 N:List Str
 ks:List<|Str×Ϙ
abbrev m7(x:Str):List Str->Option Nat
 |[]=>b5|y::r=>if x=y then b0 0 else(m7 x r).map (·+1)
def tL:∀{N}{i},m7 x N=b0 i->N[i]?=b0 x
 |[],_,h=>by cases h
 |y::r,i,h=>by
  unfold m7 at h;split at h
  .rename_i e;cases h;subst e;rfl
  .obtain⟨j,a,b⟩:=ZX.mp h;subst b;have:=tL a;simpa using this
abbrev glob(c:Cs)(x:Str):Bool:=decide (c.ks.lookup x=b0 .globalImplicit)&&!(x==("__debug__":Str))
abbrev n8(c:Cs)(x:Str):Bool:=(decide (c.ks.lookup x=b0 .local)||decide (c.ks.lookup x=b0 .cell)||decide (c.ks.lookup x=b0 .free))&&!(x==("__debug__":Str))&&!(x==("__classdict__":Str))
abbrev m9(c:Cs)(x:Str):Bool:=decide (c.ks.lookup x=b0 .local)||decide (c.ks.lookup x=b0 .cell)
def dW{κ b:Type} [BEq κ] [LawfulBEq κ] {x k:κ}{a n:b}{r:List (κ×b)}{P:Prop}(h:dg x ((k,a)::r)=b0 n)(h1:x=k->a=n->P)(c:dg x r=b0 n->P):P:=by
 rw[uq]at h;by_cases e:x=k
 .rw[beq_iff_eq.mpr e]at h;show h1 e<|ñ h
 .rw[beq_eq_false_iff_ne.mpr e]at h;show c h
abbrev GQ(x:Str):Option String:=dg x [("int","int"),("bool","bool"),("str","str"),("list","list"),("tuple","tuple"),("dict","dict")]
def Uk(h:GQ x=b0 n):Ż x=b0 (.type n)/\x ≠ "__name__":=by
 show dW h (λe g=>?_) λh=>?_
 .subst e;cases g;show⟨a9W,by decide⟩
 show dW h (λe g=>?_) λh=>?_
 .subst e;cases g;show⟨a9X,by decide⟩
 show dW h (λe g=>?_) λh=>?_
 .subst e;cases g;show⟨a9Q,by decide⟩
 show dW h (λe g=>?_) λh=>?_
 .subst e;cases g;show⟨N0,by decide⟩
 show dW h (λe g=>?_) λh=>?_
 .subst e;cases g;show⟨QV,by decide⟩
 show dW h (λe g=>?_) λh=>?_
 .subst e;cases g;show⟨QC,by decide⟩
 cases h
abbrev A3(S:ē)(c:Cs)(x:Str):ME:=
 if n8 c x=eA then(match m7 x c.N with|some i=>aA i|none=>b6)
 else if glob c x=eA then(match S.con.lookup x with
  |some d=>mC d
  |none=>if S.no.contains x=eA then(match GQ x with|some n=>mC (.ty n)|none=>b6)else b6)
 else b6
abbrev eQ(r:Expr->ME):List Expr->MA
 |[]=>aD|e::es=>aB (r e)<|eQ r es
abbrev w4(op:BoolOp):List ME->ME
 |[]=>b6|[m]=>m|m::r=>match op with
  |.And=>d7 m (w4 op r)|.Or=>zN m<|w4 op r
abbrev w5(op:BoolOp):List MT->MT
 |[]=>oH|[m]=>m|m::r=>match op with
  |.And=>fR m (w5 op r)|.Or=>iM m<|w5 op r
abbrev GR(op:a8K)(a b:ME):ME:=match op with
 |.Add=>aC bA a b|.Sub=>aC cW a b|.Mult=>aC cB a b|.FloorDiv=>aC cS a b|.Mod=>aC aX a b|_=>b6
abbrev nB(op:rm)(ns:Bool)(a b:ME):ME:=match op with
 |.Eq=>aC (a8 dI) a b|.NotEq=>aC (a8 eA) a b|.Lt=>aC dB a b|.LtE=>aC pX a b|.Gt=>aC k9 a b|.GtE=>aC sD a b|.In=>if ns=eA then aC (c3 dI) a b else b6|.NotIn=>if ns=eA then aC (c3 eA) a b else b6|.Is=>aC (fA dI) a b|.IsNot=>aC (fA eA) a b
abbrev A4(r:Expr->ME):List (Option Expr)->List Expr->Option (List<|ME×ME)
 |[],[]=>b0 []|some k::ks,v::vs=>(A4 r ks vs).map λt=>(r k,r v)::t|_,_=>b5
abbrev q8(r:Expr->ME):Option Expr->MO
 |none=>jE|some e=>jF<|r e
abbrev w8:Expr->Option (Expr×List Expr)
 |.Call f as [] _=>b0 (f,as)|_=>b5
def GS(h:w8 e=b0 (f,as)):∃pos,e=.Call f as [] pos:=by
 unfold w8 at h;split at h
 .cases h;show⟨_,rfl⟩
 .cases h
abbrev nC:Expr->Option Str
 |.Name x _=>b0 x|_=>b5
def tP(h:nC e=b0 x):∃p,e=.Name x p:=by
 unfold nC at h;split at h
 .cases h;show⟨_,rfl⟩
 .cases h
abbrev o1:List Expr->Option Expr
 |[e]=>b0 e|_=>b5
def w9(h:o1 l=b0 e):l=[e]:=by
 match l,h with
 |[_],h=>cases h;rfl
abbrev o2:List Expr->Option (Expr×Expr)
 |[a,b]=>b0 (a,b)|_=>b5
def Ul(h:o2 l=b0 (a,b)):l=[a,b]:=by
 match l,h with
 |[_,_],h=>cases h;rfl
abbrev A5(S:ē)(c:Cs)(e:Expr):Option (List<|aK×D):=(nC e).bind λx=>if glob c x=eA then S.tab.lookup x else b5
abbrev bX:MF:=λds b=>match ds with
 |[.loc a]=>match b[a]? with
  |some (.lst xs)=>b0 (.int xs.length,b)|some (.dK kvs)=>b0 (.int kvs.length,b)|some (.st ks)=>b0 (.int ks.length,b)|some (.dT kvs)=>b0 (.int kvs.length,b)|_=>b5
 |_=>sE ds b
abbrev kP:MF:=λds b=>match ds with
 |[.loc a]=>match b[a]? with
  |some (.dT kvs)=>b0 (.loc b.length,b++[.lst<|kvs.map λk=>D.tup<|k.1.map D.int])|_=>sF [.loc a] b
 |ds=>sF ds b
def Um:d8 K kP (λxs H Q=>(∃p g,xs=[.ref p]/\(ê K H p g\/Ó K H p g)/\∀l,H l=b5->Q (.ref l) (upd H l<|.lst g))\/F6 K xs H Q):=by
 intro o H n xs d c j Q R i b k;unfold kP at b;split at b
 .rename_i a;split at b
  .rename_i e v;cases b;cases i with
   |cons i t=>cases t;cases i;obtain⟨h,s,T⟩:=iA R v;show .inr ⟨_,h,rfl,s,T.keys,λl u=>?_⟩;obtain⟨r,R2,_⟩:=R.alloc (c:=.lst (e.map λk:List Int×D=>D.tup<|k.1.map D.int)) (o:=.lst (h.map λp:List Int×Addr×V=>V.ref p.2.1)) u T.to.2.1;show k _ _ _ r R2 jY
  .show .inl<|Ek o H n _ d c j Q R i b k
 .show .inl<|Ek o H n _ d c j Q R i b k
abbrev bltT:List (Str×MF):=[("len",bX)
 ,("isinstance",hG)
 ,("list",kP)
 ,("all",vY)
 ,("sorted",qY)
 ,("sum",jL)
 ,("min",AW) ,("max",AX)
 ]
abbrev GU(x:Str):Option MF:=bltT.lookup x
abbrev Uo(K:ZV):gz->Hp->VK->Prop:=λxs H Q=>Aa K xs H Q\/(∃a kvs,xs=[V.ref a]/\H a=b0 (.dK kvs)/\Q (.int kvs.length) H)\/(∃a L,xs=[V.ref a]/\H a=b0 (uZ a L)/\Q (.int L.length) H)\/F5 K xs H Q
def Up:d8 K bX (Uo K):=by
 intro j H o u d h n Q R i b k;unfold bX at b;split at b
 .rename_i a;split at b
  .rename_i v c;show .inl<|Ej j H o _ d h n Q R i ?_ k;simp only[sE,bL,c];show b
  .rename_i g c;cases b;cases i with
   |cons i t=>cases t;cases i;obtain⟨s,e,l,_⟩:=R.dK a g c;show .inr<|.inl ⟨_,s,rfl,e,?_⟩;have:=congrArg Ģ l;rw[ZT,ZT]at this;rw[this];show k j _ H .refl R<|.int _
  .rename_i p c;cases b;cases i with
   |cons i t=>cases t;cases i;obtain⟨L,e,l,_⟩:=R.st a p c;have:=congrArg Ģ l;rw[ZT]at this;show .inr<|.inr<|.inl ⟨_,L,rfl,e,?_⟩;rw[this];show k j _ H .refl R<|.int _
  .rename_i g c;cases b;cases i with
   |cons i t=>cases t;cases i;obtain⟨r,e,T⟩:=iA R c;have:=congrArg Ģ T.to.1;rw[ZT,ZT]at this;show .inr<|.inr<|.inr ⟨_,r,rfl,e,T.keys,?_⟩;rw[this];show k j _ H .refl R<|.int _
  .cases b
 .show .inl<|Ej j H o _ d h n Q R i b k
def Uq(a:X.calm=eA)(b:X.A.units+64<â)(h:GU x=b0 f):∃v r,Ż x=b0 v/\((∃id,v=.builtin id)\/∃T,v=.type T)/\Î X v r/\d8 X.K f r/\x ≠ "__name__":=by
 show dW h (λe g=>?_) λh=>?_
 .subst e;cases g;show⟨_,_,a9U,.inl ⟨_,rfl⟩,Φ.or<|Χ.or<|Υ.or Su,Up,by decide⟩
 show dW h (λe g=>?_) λh=>?_
 .subst e;cases g;show⟨_,_,a9V,.inl ⟨_,rfl⟩,a9d,a9e,by decide⟩
 show dW h (λe g=>?_) λh=>?_
 .subst e;cases g;show⟨_,_,N0,.inr ⟨_,rfl⟩,Ŗ.or<|Sv a,Um,by decide⟩
 show dW h (λe g=>?_) λh=>?_
 .subst e;cases g;show⟨_,_,a9Y,.inl ⟨_,rfl⟩,LqI a,MrI rfl,by decide⟩
 show dW h (λe g=>?_) λh=>?_
 .subst e;cases g;show⟨_,_,QX,.inl ⟨_,rfl⟩,Uc b,Ub,by decide⟩
 show dW h (λe g=>?_) λh=>?_
 .subst e;cases g;show⟨_,_,a9P,.inl ⟨_,rfl⟩,Rf a,Rb,by decide⟩
 show dW h (λe g=>?_) λh=>?_
 .subst e;cases g;show⟨_,_,a9S,.inl ⟨_,rfl⟩,(TY a b).or<|a4q a,GG Rg,by decide⟩
 show dW h (λe g=>?_) λh=>?_
 .subst e;cases g;show⟨_,_,a9T,.inl ⟨_,rfl⟩,(TZ a b).or<|a4x a,GG Rh,by decide⟩
 cases h
abbrev A6(x:Str):Option MF:=
 if x="dict" then b0 oX else
 GU x
def Ur(a:X.calm=eA)(b:X.A.units+64<â)(h:A6 x=b0 f):∃v r,Ż x=b0 v/\((∃id,v=.builtin id)\/∃T,v=.type T)/\Î X v r/\d8 X.K f r/\x ≠ "__name__":=by
 unfold A6 at h;split at h
 .rename_i e;subst e;cases h;show⟨_,_,QC,.inr ⟨_,rfl⟩,SV a b,SW,by decide⟩
 show Uq a b h
abbrev ww:List ((Str×Nat)×(D->List D->Hm->jk)):=[(("append",1),e6)
 ,(("extend",1),lJ)
 ,(("index",1),qS)
 ,(("remove",1),qX)
 ,(("pop",1),oK)
 ]
abbrev GV(m:Str)(n:Nat):Option (D->List D->Hm->jk):=ww.lookup (m,n)
abbrev NC:List ((Str×Nat)×(D->List D->Hm->jk)):=
 (("setdefault",2),kM) ::
 (("get",2),iB) ::
 (("update",1),qZ) ::
 []
abbrev GW(S:ē)(o:Expr)(m:Str)(n:Nat):Option (D->List D->Hm->jk):=
 NC.lookup (m,n)
abbrev A7(S:ē)(c:Cs)(tg:Expr):Expr->Option Nat
 |.Name x _=>match tg with
  |.Name _ _=>if S.dIt.contains x=eA then m7 x c.N else b5|_=>b5
 |_=>b5
abbrev A8(S:ē)(F:Str->MF)(r:Expr->ME)(c:Cs)(f:Expr)(args:List Expr)(a:ß):ME:=match f with
 |.Name x _=>if glob c x&&args.all eY then(match S.fn.lookup x with
   |some n=>if args.length=n then aG (F x) (eQ r args)else b6|none=>
   if S.no.contains x&&!args.isEmpty then(match A6 x with|some g=>aG g (eQ r args)|none=>b6)else b6)
  else b6
 |.Attribute o m apos=>if j9 o&&(apos.endLine==a.line)&&args.all eY then(
   match GW S o m args.length with
   |some g=>iX g (r o) (eQ r args)|none=>
   match GV m args.length with
   |some g=>c4 g (r o) (eQ r args)|none=>
    b6)
  else b6
 |_=>b6
abbrev A9(f:Expr)(args:List Expr):Option (Str×Str×Expr):=(nC f).bind λx=>(o1 args).bind λa=>(w8 a).bind λg=>(nC g.1).bind λy=>(o1 g.2).map λe=>(x,y,e)
def GX(h:A9 f args=b0 (x,y,e)):∃p c pos,f=.Name x p/\args=[.Call (.Name y c) [e] [] pos]:=by obtain⟨o,d,h⟩:=ZS.mp h;obtain⟨a,i,h⟩:=ZS.mp h;obtain⟨g,j,h⟩:=ZS.mp h;obtain⟨r,b,h⟩:=ZS.mp h;obtain⟨n,l,h⟩:=ZX.mp h;cases h;obtain⟨p,rfl⟩:=tP d;obtain⟨pos,rfl⟩:=GS j;obtain⟨c,b⟩:=tP b;show⟨p,c,pos,rfl,by rw[w9 i,b,w9 l]⟩
abbrev Us(f:Expr)(args:List Expr):Option (Bool×Expr):=(A9 f args).bind λt=>
 if t.1="list"/\t.2.1="reversed" then b0 (eA,t.2.2)else
 b5
abbrev GY:Bool->Str
 |false=>"range"|true=>"reversed"
abbrev lstM:Bool->MF
 |true=>mV|false=>mV
abbrev Ba(S:ē)(F:Str->MF)(r:Expr->ME)(c:Cs)(f:Expr)(args:List Expr)(a:ß):ME:=
 match Us f args with
 |some (b,e)=>if glob c "list" && glob c (GY b)&&S.no.contains "list" && S.no.contains (GY b)&&eY e then aG (lstM b) (eQ r [e])else b6|none=>A8 S F r c f args a
abbrev Bb:Expr->Option (Expr×ß×ß)
 |.Call g [] [] cpos=>match g with
  |.Attribute o m apos=>if m="items" then b0 (o,apos,cpos)else b5|_=>b5
 |_=>b5
def Ut(h:Bb e=b0 (o,a,b)):e=.Call (.Attribute o "items" a) [] [] b:=by
 unfold Bb at h;split at h
 .split at h
  .split at h
   .rename_i c;cases h;rw[c]
   .cases h
  .cases h
 .cases h
abbrev Uu(f:Expr)(args:List Expr):Option (Expr×ß×ß):=(A9 f args).bind λt=>if t.1="tuple"/\t.2.1="sorted" then Bb t.2.2 else b5
abbrev Bc(S:ē)(F:Str->MF)(r:Expr->ME)(c:Cs)(f:Expr)(args:List Expr)(a:ß):ME:=
 match Uu f args with
 |some q=>if glob c "sorted" && glob c "tuple" && S.no.contains "sorted" && S.no.contains "tuple" && j9 q.1&&(q.2.1.endLine==q.2.2.line)then wW (r q.1)else b6|none=>
 Ba S F r c f args a
abbrev rA(c:Cs)(scope:Ź)(xs:List Str):Bool:=
 (scope.names.all λy=>decide<|y.2≠.cell)&&decide (scope.kind=.function)&&(scope.names.all λy=>decide (y.2≠.local)||decide (scope.names.lookup y.1=b0 .local)) &&
 (xs.all λx=>decide<|scope.names.lookup x=b0 .local)&&decide xs.Nodup&&(scope.names.all λy=>decide (y.2≠.free)||decide (c.ks.lookup y.1=b0 .cell)||decide (c.ks.lookup y.1=b0 .free)) &&
 (scope.names.all λy=>decide (y.2≠.local)||!(bJ xs c.N).contains y.1)&&decide (bJ xs c.N).Nodup&&(c.N.all λy=>!xs.contains y||decide (scope.names.lookup (pY y)=b5))
abbrev tQ(c:Cs)(scope:Ź)(xs:List Str):Cs:=
 ⟨bJ xs c.N++xs,scope.names.map λ(n,k)=>if(k==ϫ&&c.ks.lookup n==b0 .cell)then(n,WF)else(n,k)⟩
abbrev GZ(r:Expr->MT):List Expr->MT
 |[]=>d9|[t]=>r t|_=>oH
abbrev lW(S:ē)(c:Cs)(x:Str)(e:Expr):Option (List Expr):=(w8 e).bind λg=>(nC g.1).bind λy=>if y=x/\(glob c x&&S.no.contains x&&g.2.all eY)=eA then b0 g.2 else b5
abbrev Uv(r:Expr->ME):List Expr->MI
 |[a]=>iT (eQ r [a])|[a,b]=>mN (eQ r [a,b])|[a,b,d]=>qT (eQ r [a,b,d])|_=>Ew
abbrev xA(S:ē)(r:Expr->ME)(c:Cs)(e:Expr):MI:=match lW S c "range" e with
 |some b=>Uv r b|none=>match(lW S c "reversed" e).bind o1 with
  |some a=>sU (eQ r [a])|none=>b8<|r e
abbrev Bd(S:ē)(r:Expr->ME)(c:Cs)(e:Expr):MI:=match(lW S c "enumerate" e).bind o1 with
 |some a=>qR (eQ r [a])|none=>xA S r c e
abbrev Be(S:ē)(r:Expr->ME)(c:Cs)(e:Expr):MI:=match(lW S c "zip" e).bind o2 with
 |some (a,b)=>sZ (eQ r [a,b])|none=>Bd S r c e
abbrev Bf:Expr->Option (List Str)
 |.Name x _=>b0 [x]|.Tuple es _ _=>es.mapM nC|_=>b5
abbrev Bg:Expr->Nat->BD
 |.Tuple ..,n=>jZ n|_,_=>qA
abbrev xB(S:ē)(r:Expr->ME)(c:Cs)(tg e:Expr):MI:=match tg with
 |.Tuple ..=>Be S r c e|_=>xA S r c e
abbrev nD(b:MI)(d:Cs->Expr->ME)(e:Cs->Expr->MT)(c:Cs)(elt tg iter:Expr)(ifs:List Expr)(scope:Ź):ME:=match Bf tg with
 |some a=>if rA c scope a&&gD iter then eK (Bg tg a.length) b (GZ (e<|tQ c scope a) ifs) (d (tQ c scope a) elt)else b6|none=>b6
abbrev Bh(S:ē)(a:Cs->Expr->ME)(b:Cs->Expr->MT)(c:Cs)(elt tg iter:Expr)(ifs:List Expr)(scope:Ź):ME:=
 match A7 S c tg iter with
 |some i=>qW i (nD (iW<|a c iter) a b c elt tg iter ifs scope) b6|none=>
 nD (xB S (a c) c tg iter) a b c elt tg iter ifs scope
abbrev G0:Const->ME
 |.int i=>mC (.int i)|.bool b=>mC (.bl b)|.str s=>mC (.str s)|.none=>mC .non|_=>b6
abbrev G1(m:ME):UnaryOp->ME
 |.USub=>fT m|.Not=>pT m|_=>b6
abbrev G2(S:ē)(r:Expr->ME)(a:Expr):List rm->List Expr->ME
 |[op],[b]=>nB op (gD b) (r a)<|r b
 |[op,op'],[b,b']=>(match gH op,gH op' with
  |some p,b0 q=>gG (fS p) (fS q) (r a) (r b)<|r b'
  |_,_=>b6)
 |_,_=>b6
abbrev G3(S:ē)(c:Cs):List rm->List Expr->Option (List<|aK×D)
 |[.In],[b]=>A5 S c b|_,_=>b5
abbrev Bi(S:ē)(c:Cs)(r:Expr->ME)(a:Expr)(ops:List rm)(bs:List Expr):ME:=match G3 S c ops bs with
 |some b=>Af b (r a)|none=>G2 S r a ops bs
abbrev Bj(r:Expr->ME)(keys:List (Option Expr))(a:List Expr):ME:=match A4 r keys a with
 |some b=>if !keys.isEmpty&&decide (keys.length<=15)then oG b else b6|none=>b6
abbrev Bk(r:Expr->ME):List (Option Expr)->List Expr->ME
 |[],[]=>lU|keys,values=>Bj r keys values
abbrev Bl(S:ē)(r:Expr->ME)(c:Cs)(a b:Expr):ME:=match b with
 |.Slice lo hi b5 _=>oA (r a) (q8 r lo) (q8 r hi)|.Slice lo hi (b0 st) _=>mS (r a) (q8 r lo) (q8 r hi) (q8 r<|b0 st)|b=>if mM b then(match A5 S c a with|some d=>sM d (r b)|none=>aC aE (r a)<|r b)else b6
abbrev Bm(r:Expr->ME)(es:List Expr):ME:=if es.all eY then aW (eQ r es)else b6
abbrev Bn(r:Expr->ME)(es:List Expr):ME:=if es.all eY then bU (eQ r es)else b6
abbrev Bo(S:ē)(F:Str->MF)(r:Expr->ME)(c:Cs)(f:Expr)(args:List Expr)(a:ß):List Ζ->ME
 |[]=>Bc S F r c f args a|_=>b6
abbrev G4(S:ē)(a:Cs->Expr->ME)(b:Cs->Expr->MT)(c:Cs)(elt:Expr)(scope:Ź):List Comprehension->ME
 |[⟨tg,iter,ifs,0⟩]=>Bh S a b c elt tg iter ifs scope|_=>b6
abbrev G5(S:ē)(F:Str->MF)(d:Cs->Expr->ME)(e:Cs->Expr->MT)(c:Cs):Expr->ME
 |.Name x _=>A3 S c x|.Constant v _ _=>G0 v|.BinOp a op b _=>GR op (d c a) (d c b)|.UnaryOp op a _=>G1 (d c a) op|.Compare a ops bs _=>Bi S c (d c) a ops bs|.BoolOp op vs _=>w4 op (vs.map<|d c)|.IfExp t a b _=>gN (e c t) (d c a) (d c b)|.Tuple es _ _=>Bm (d c) es|.List es _=>Bn (d c) es|.Dict keys values _=>Bk (d c) keys values|.Subscript a b _=>Bl S (d c) c a b|.Call f args kws cpos=>Bo S F (d c) c f args cpos kws|.ListComp elt gs scope _=>G4 S d e c elt scope gs|_=>b6
abbrev tR(r:Expr->ME)(e:Expr):MT:=if Ab e then c8 (r e)else oH
abbrev Bp(S:ē)(r:Expr->ME)(a:Expr)(ops:List rm)(bs:List Expr)(p:ß):MT:=match ops,bs with
 |[op],[b]=>aR<|nB op (gD b) (r a)<|r b
 |[op,op'],[b,b']=>(match gH op,gH op' with
  |some p,b0 q=>aR<|gG (fS p) (fS q) (r a) (r b)<|r b'
  |_,_=>oH)
 |ops,bs=>tR r<|.Compare a ops bs p
abbrev Uw(r:Expr->ME)(t:MT)(a:Expr)(p:ß):UnaryOp->MT
 |.Not=>t|op=>tR r<|.UnaryOp op a p
abbrev G6(S:ē)(b:Cs->Expr->ME)(d:Cs->Expr->MT)(c:Cs):Expr->MT
 |.BoolOp op vs _=>w5 op (vs.map<|d c)|.UnaryOp op a p=>Uw (b c) (iN<|d c a) a p op|.Compare a ops bs p=>Bp S (b c) a ops bs p|e=>tR (b c) e
abbrev tr(S:ē)(F:Str->MF):Nat->(Cs->Expr->ME)×(Cs->Expr->MT)
 |0=>(λ_ _=>b6,λ_ _=>oH)|n+1=>(G5 S F (tr S F n).1 (tr S F n).2,G6 S (tr S F n).1 (tr S F n).2)
structure å(S:ē)(F:Str->MF)(k:Nat)(c:Cs)(X:Cx):Prop where
 N:X.N=c.N
 nd:X.N.Nodup
 ks:X.env.scope.names=c.ks
 kind:X.env.scope.kind=.function
 calm:X.calm=eA
 room:Ô k X.A
 never:xf (Å X.prog X.w) X.A X.env X.xe
 fn:∀x n,S.fn.lookup x=b0 n->∃(f:Addr)(fd:my)(ps:List Str),ī X.prog X.w X.K X.mg X.base gC k f fd ps (jD X.K n<|F x)/\X.mg x=b0 (.ref f)/\Ϛ X.K (.ref f)=eA/\Ď X.K fd ps []
 con:∀x d,S.con.lookup x=b0 d->∃v u,X.mg x=b0 u/\Æ v u/\∀π n H,Í X.K π n H v d
 tab:∀x kvs,S.tab.lookup x=b0 kvs->Ο X x kvs
 no:∀x,S.no.contains x=eA->X.mg x=b5
def Ux(ks:X.env.scope.names=c.ks)(h:glob c x=eA):Gl X x/\(x==("__debug__":Str))=false:=by unfold glob at h;rw[Z9]at h;show⟨?_,by simpa using h.2⟩;change X.env.scope.names.lookup x=_;rw[ks];show of_decide_eq_true h.1
def Uy{X:Cx}(ks:X.env.scope.names=c.ks)(h:n8 c x=eA):nX X.env.scope x/\(x==("__debug__":Str))=dI/\(x==("__classdict__":Str))=false:=by
 unfold n8 at h;rw[Z9,Z9,rn,rn]at h;obtain⟨⟨a,b⟩,d⟩:=h;show⟨?_,by simpa using b,by simpa using d⟩;unfold nX;rw[ks];rcases a with(a|a)|a
 .show .inl<|of_decide_eq_true a
 .show .inr<|.inl<|of_decide_eq_true a
 .show .inr<|.inr<|of_decide_eq_true a
def å.gl(O:å S F k c X)(h:glob c x=eA):Gl X x/\(x==("__debug__":Str))=false:=Ux O.ks h
def å.vis(O:å S F k c X)(h:n8 c x=eA):nX X.env.scope x/\(x==("__debug__":Str))=dI/\(x==("__classdict__":Str))=false:=Uy O.ks h
def Uz(O:å S F k c X)x pos:QE X (.Name x pos) (A3 S c x):=by
 unfold A3;split
 .rename_i h;obtain⟨a,b,j⟩:=O.vis h;split
  .rename_i i l;show a9K i (by rw[O.N];show tL l) a b j
  .show bR
 split
 .rename_i h;obtain⟨a,b⟩:=O.gl h;split
  .rename_i d hd;obtain⟨v,u,m,r,i⟩:=O.con x d hd;show⟨pR (a6Z a m r b) i⟩
  .split
   .rename_i o;split
    .rename_i n p;obtain⟨e,g⟩:=Uk p;show b0m (O.no x o) e a g b
    .show bR
   .show bR
 .show bR
def iZ(a:∀e,QE X e (r e)):∀es,es.all eY=eA->QA X es (eQ r es) es.length
 |[],_=>b0H|e::es,h=>by rw[Ĺ,Z9]at h;show b0G (a e) (iZ a es h.2) h.1
def G7(a:∀e,QE X e (r e))op pos:∀vs,QE X (.BoolOp op vs pos) (w4 op<|vs.map r)
 |[]=>bR|[e]=>b0L (a e)|e::d::es=>by
  have b:=G7 a op pos<|d::es;cases op with
  |And=>show b0K (a e) b|Or=>show b0J (a e) b
def G8(a:∀e,QT X e (r e))op pos:∀vs,QW X (.BoolOp op vs pos) (w5 op<|vs.map r)
 |[]=>a9I|[e]=>by
  cases op with
  |And=>show a7x (a e)|Or=>show a7v<|a e
 |e::d::es=>by
  have b:=G8 a op pos<|d::es;cases op with
  |And=>show a7u (a e) b|Or=>show a7o (a e) b
def UA(d:QE X a g)(e:QE X b h)op pos:QE X (.BinOp a op b pos) (GR op g h):=by
 cases op with
 |Add=>show b0e d e|Sub=>show b0d d e|Mult=>show b0c d e|FloorDiv=>show b0b d e|Mod=>show b0a d e|_=>show bR
def UB(O:å S F k c X)(d:QE X a g)(e:QE X b i)op pos:QE X (.Compare a [op] [b] pos) (nB op (gD b) g i):=by
 cases op with
 |Eq=>show b0X O.room d e|NotEq=>show b0V O.room d e|Lt=>show b0U d e|LtE=>show b0R d e|Gt=>show b0Q d e|GtE=>show b0M d e|In=>
  simp only[nB];split
  .rename_i h;show Sx O.room d e h
  .show bR
 |NotIn=>
  simp only[nB];split
  .rename_i h;show Sy O.room d e h
  .show bR
 |Is=>show a6o d e|IsNot=>show a6e d e
def G9:QT X e (aR b6):=⟨λDn s σ H Q I h=>by
 obtain⟨i,j,g,d,b,R,E,a,k⟩:=h;cases a⟩
def UC(O:å S F k c X)(d:QE X a g)(e:QE X b i)op pos:QT X (.Compare a [op] [b] pos) (aR<|nB op (gD b) g i):=by
 cases op with
 |Eq=>show a8T O.room d e|NotEq=>show a8S O.room d e|Lt=>show a8R d e|LtE=>show a8Q d e|Gt=>show a8P d e|GtE=>show a8O d e|In=>
  simp only[nB];split
  .rename_i h;show Sz O.room d e h
  .show G9
 |NotIn=>
  simp only[nB];split
  .rename_i h;show SA O.room d e h
  .show G9
 |Is=>show a6c d e|IsNot=>show Ra d e
def Ha(b:∀e,QE X e (r e))pos:∀ks vs a,A4 r ks vs=b0 a->QP X pos ks vs a
 |[],[],a,h=>by cases h;show b0l
 |some k::ks,v::vs,a,h=>by obtain⟨t,d,g⟩:=ZX.mp h;subst g;show b0k (b k) (b v)<|Ha b pos ks vs t d
 |none::ks,vs,a,h=>by cases vs<;>cases h
 |some k::ks,[],a,h=>by cases h
 |[],v::vs,a,h=>by cases h
def tS(a:∀e,QE X e (r e)):∀o,QO X o (q8 r o)
 |none=>b0u|some e=>b0r<|a e
def Hb(O:å S F k c X)(h:A5 S c a=b0 kvs):∃x p,a=.Name x p/\Ο X x kvs/\Gl X x/\(x==("__debug__":Str))=false:=by
 obtain⟨x,e,g⟩:=ZS.mp h;obtain⟨p,rfl⟩:=tP e;by_cases b:glob c x=eA
 .rw[if_pos b]at g;obtain⟨d,i⟩:=O.gl b;show⟨_,_,rfl,O.tab _ _ g,d,i⟩
 .rw[if_neg b]at g;cases g
def UD(O:å S F k c X)(l:∀e,QE X e (r e))(h1:j9 o=eA)(i:(d.endLine==h.line)=eA)(j:QA X args (eQ r args) args.length)(b:GV m args.length=b0 g):QE X (.Call (.Attribute o m d) args [] h) (c4 g (r o)<|eQ r args):=by
 show dW b (λe g=>?_) λb=>?_
 .obtain⟨rfl,a⟩:=η e;cases g;cases args with
  |nil=>cases a|cons e n=>show sN PySem.F.slot_list_append PySem.F.type_list_append DE TaI (l o) j h1 i<|by rw[a];decide
 show dW b (λe g=>?_) λb=>?_
 .obtain⟨rfl,a⟩:=η e;cases g;cases args with
  |nil=>cases a|cons e n=>show sN PySem.F.slot_list_extend PySem.F.type_list_extend a7X SoI (l o) j h1 i<|by rw[a];decide
 show dW b (λe g=>?_) λb=>?_
 .obtain⟨rfl,a⟩:=η e;cases g;cases args with
  |nil=>cases a|cons e n=>show sN PySem.F.slot_list_index PySem.F.type_list_index (RD<|by have:=O.room.units;lia) RC (l o) j h1 i<|by rw[a];decide
 show dW b (λe g=>?_) λb=>?_
 .obtain⟨rfl,a⟩:=η e;cases g;cases args with
  |nil=>cases a|cons e n=>show sN PySem.F.slot_list_remove PySem.F.type_list_remove (TM<|by have:=O.room.units;lia) TK (l o) j h1 i<|by rw[a];decide
 show dW b (λe g=>?_) λb=>?_
 .obtain⟨rfl,a⟩:=η e;cases g;cases args with
  |nil=>cases a|cons e n=>show sN PySem.F.slot_list_pop PySem.F.type_list_pop a7V RxI (l o) j h1 i<|by rw[a];decide
 cases b
def UE(O:å S F k c X)(l:∀e,QE X e (r e))(h1:j9 o=eA)(i:(a.endLine==b.line)=eA)(j:QA X args (eQ r args) args.length)(h:NC.lookup (m,args.length)=b0 g):QE X (.Call (.Attribute o m a) args [] b) (iX g (r o)<|eQ r args):=by
 show dW h (λe g=>?_) λh=>?_
 .obtain⟨rfl,d⟩:=η e;cases g;cases args with
  |nil=>cases d|cons e n=>show AS QD PySem.F.type_dict_setdefault (Tr<|by have:=O.room.units;lia) Tq (l o) j h1 i<|by rw[d];decide
 show dW h (λe g=>?_) λh=>?_
 .obtain⟨rfl,d⟩:=η e;cases g;cases args with
  |nil=>cases d|cons e n=>show AS PL PySem.F.type_dict_get (Tn<|by have:=O.room.units;lia) Tj (l o) j h1 i<|by rw[d];decide
 show dW h (λe g=>?_) λh=>?_
 .obtain⟨rfl,d⟩:=η e;cases g;cases args with
  |nil=>cases d|cons e n=>show AS Q3 PySem.F.type_dict_update (Uj<|by have:=O.room.units;lia) Ui (l o) j h1 i<|by rw[d];decide
 cases h
def UG(O:å S F k c X)(u:∀e,QE X e (r e))f args b:QE X (.Call f args [] b) (A8 S F r c f args b):=by
 unfold A8;split
 .rename_i x p;split
  .rename_i i;rw[Z9]at i;obtain⟨j,l⟩:=O.gl i.1;have h:=iZ u args i.2;split
   .rename_i n Q;split
    .rename_i N;obtain⟨R,U,Y,w,d,I,s⟩:=O.fn x n Q;subst N;cases args with
     |nil=>show RuI w O.room d I s j l|cons e L=>show b0p w O.room d I s h j l
    .show bR
   .skip;split
    .rename_i a;rw[Z9]at a;split
     .rename_i g s;obtain⟨v,Z,z,K,A,B,E⟩:=Ur (X:=X) O.calm O.room.units s;cases args with
      |nil=>show absurd a.2 (by simp)|cons e L=>
       rcases K with⟨id,rfl⟩|⟨T,rfl⟩
       .show b0o A B (O.no x a.1) z h j E l
       .show b0n A B (O.no x a.1) z h j E l
     .show bR
    .show bR
  .show bR
 .rename_i o m y;split
  .rename_i i;rw[Z9,Z9]at i;obtain⟨⟨G,H⟩,M⟩:=i;have h:=iZ u args M;split
   .rename_i g d;unfold GW at d;show UE O u G H h d
   split
   .rename_i g d;show UD O u G H h d
   .skip
    .show bR
  .show bR
 .show bR
def UH(O:å S F k c X)(j:∀e,QE X e (r e))f args a:QE X (.Call f args [] a) (Ba S F r c f args a):=by
 unfold Ba;split
 .rename_i b e h;split
  .rename_i i;rw[Z9,Z9,Z9,Z9]at i;obtain⟨⟨⟨⟨l,n⟩,u⟩,v⟩,st⟩:=i;have s:=iZ j [e] (by rw[Ĺ,st];rfl);obtain⟨t,o,g⟩:=ZS.mp h;obtain⟨p,w,pos,rfl,rfl⟩:=GX o;split at g
   .rename_i d;cases g;rw[d.1,d.2];show RM O.calm (O.no _ u) (O.no _ v) s (O.gl l).1 (O.gl n).1
   .cases g
  .show bR
 .show UG O j f args a
def UI{X:Cx}(nd:X.N.Nodup)(e:X.N=c.N)(ks:X.env.scope.names=c.ks)(h:rA c scope xs=eA):Ĵ X.env.scope X.N scope xs/\xs.Nodup:=by
 unfold rA at h;rw[Z9,Z9]at h;obtain⟨⟨h,b⟩,s⟩:=h;have b:=of_decide_eq_true b;have d:∀y∈c.N,xs.contains y=eA->scope.names.lookup (pY y)=none:=λy a hc=>by have:=uo.mp s y a;rw[hc]at this;simpa using this
 simp only[Z9,uo,decide_eq_true_eq,rn,yt,List.contains_eq_mem,decide_eq_false_iff_not]at h;obtain⟨⟨⟨⟨⟨⟨i,j⟩,l⟩,n⟩,r⟩,o⟩,p⟩:=h;show⟨⟨i,j,λy a g=>(l y a).resolve_left λz=>z g,n,λy a u=>?_,λy a g=>?_,nd,by rw[e];show b,by rw[e];show d⟩,r⟩
 .rw[ks];rcases o y a with(z|z)|z
  .show absurd u z
  .show .inl z
  .show .inr z
 .rw[e];have:=(p y a).resolve_left λz=>z g;show this
def tT(O:å S F k c X)(h:rA c scope xs=eA):Ĵ X.env.scope X.N scope xs/\xs.Nodup:=UI O.nd O.N O.ks h
def Hc{N:List Str}(h:N.Nodup)(d:xs.Nodup)(g:∀x∈xs,x∉N):(N++xs).Nodup:=by rw[ϩ];show⟨h,d,λa i b j e=>by subst e;show g _ j i⟩
def Hd{X:Cx}(Q:Ĵ X.env.scope X.N scope xs/\xs.Nodup):(bJ xs X.N++xs).Nodup:=Hc Q.1.hnd Q.2 λx a=>Q.1.own (x,.local) (Ϡ<|Q.1.here x a) rfl
def UJ{X:Cx}(a:X.env.scope.kind=.function)(ks:X.env.scope.names=c.ks)scope xs:(K6 scope X.env).names=(tQ c scope xs).ks:=by
 unfold K6 tQ;dsimp only;show eG λy _=>?_;obtain⟨n,b⟩:=y;dsimp only;have:(X.env.scope.kind==ScopeKind.function)=true:=by rw[a];rfl
 rw[this,NX];change(if(b==ϫ&&X.env.scope.names.lookup n==b0 WF)=eA then _ else _)=_;rw[ks]
def å.comp(O:å S F k c X)(h:rA c scope xs=eA){C:Addr}:å S F k (tQ c scope xs) (cH X scope cl C (bJ xs X.N++xs) s₀ H₀ b):=
 ⟨show bJ xs X.N++xs=bJ xs c.N++xs by rw[O.N],Hd<|tT O h,UJ O.kind O.ks scope xs,(tT O h).1.kind,O.calm,O.room,Ot,O.fn,O.con,λy a q=>⟨(O.tab y a q).ex⟩,O.no
  ⟩
def He(j:∀e,QT X e (r e)):∀es,QI X es (GZ r es)
 |[]=>a7m|[t]=>a7j<|j t
 |a::b::es=>⟨λg s u H Q I h=>by
   obtain⟨o,p,n,d,l,R,E,i,k⟩:=h;cases i⟩
def xC(O:å S F k c X)(h:lW S c x e=b0 args):∃p pos,e=.Call (.Name x p) args [] pos/\Gl X x/\X.mg x=b5/\args.all eY=true:=by
 obtain⟨g,d,j⟩:=ZS.mp h;obtain⟨y,i,a⟩:=ZS.mp j;clear h j;by_cases z:y=x/\(glob c x&&S.no.contains x&&g.2.all eY)=eA
 .rw[if_pos z]at a;cases a;have b:=z.2;rw[Z9,Z9]at b;obtain⟨pos,d⟩:=GS d;obtain⟨p,i⟩:=tP i;show⟨p,pos,by rw[d,i,z.1],(O.gl b.1.1).1,O.no _ b.1.2,b.2⟩
 .rw[if_neg z]at a;cases a
def Hf(O:å S F k c X)(n:∀e,QE X e (r e))e:QJ X e (xA S r c e):=by
 unfold xA;cases h:lW S c "range" e with
 |some o=>
  obtain⟨p,pos,rfl,j,l,i⟩:=xC O h;match o,i with
  |[],_=>show Ex|[a],i=>show a8i j l (iZ n [a] i)|[a,b],i=>show a8h j l (iZ n [a,b] i)|[a,b,d],i=>show RR j l (iZ n [a,b,d] i)|_::_::_::_::_,_=>show Ex
 |none=>
  cases g:(lW S c "reversed" e).bind o1 with
  |some a=>obtain⟨o,s,u⟩:=ZS.mp g;obtain rfl:=w9 u;obtain⟨p,pos,rfl,j,l,i⟩:=xC O s;show RW j l (iZ n [a] i)|none=>show a8n<|n e
def UK(O:å S F k c X)(b:∀e,QE X e (r e))e:vh X e (Bd S r c e):=by
 unfold Bd;cases h:(lW S c "enumerate" e).bind o1 with
 |some a=>obtain⟨n,d,g⟩:=ZS.mp h;obtain rfl:=w9 g;obtain⟨p,pos,rfl,i,j,l⟩:=xC O d;show Rv i j (iZ b [a] l)|none=>show(Hf O b e).t
def UL(O:å S F k c X)(a:∀e,QE X e (r e))e:vh X e (Be S r c e):=by
 unfold Be;cases h:(lW S c "zip" e).bind o2 with
 |some t=>obtain⟨l,b,d⟩:=ZS.mp h;obtain rfl:=Ul (a:=t.1) (b:=t.2) d;obtain⟨p,pos,rfl,g,i,j⟩:=xC O b;show SM g i (iZ a [t.1,t.2] j)|none=>show UK O a e
def Bq(O:å S F k c X)(a:∀e,QE X e (r e))tg e:PI X tg e (τ X.K<|xB S r c tg e):=by
 cases tg with
 |Tuple=>show(UL O a e).h _ _ _|_=>show(Hf O a e).h _
def Hg(h:gD iter=eA):∀x,ur iter env x=pure x:=by intro z;cases iter<;>first|rfl|cases h
def Hh(b:X.N.Nodup):∀es xs n,es.mapM nC=b0 xs->(∀j x,xs[j]?=b0 x->X.N[n+j]?=b0 x/\X.env.scope.names.lookup x=b0 .local)->vm X es (ak n xs.length)
 |[],xs,n,h,hx=>by cases h;show Et
 |e::es,xs,n,h,hx=>by rw[List.mapM_cons]at h;obtain⟨x,c,h⟩:=ZS.mp h;obtain⟨i,d,h⟩:=ZS.mp h;cases h;obtain⟨p,rfl⟩:=tP c;rw[ć,zm];have a:=hx 0 x rfl;show Eu n b (Hh b es i (n+1) d λj z g=>?_) a.1 (.inl a.2)<|.inr a.2;have:=hx (j+1) z g;rw[<- uc,Mf]at this;show this
def UM{c:Cs}(Q:Ĵ X.env.scope X.N scope [x]/\[x].Nodup)cl C s₀ H₀ a:PG (cH X scope cl C (bJ [x] X.N++[x]) s₀ H₀ a) (.Name x p) (ū X.K<|gB X.N.length qA):=by have d:=Hd Q;have b:(K6 scope X.env).names.lookup x=b0 .local:=OX (Q.1.here x<|by simp);show a8f (X:=cH X scope cl C (bJ [x] X.N++[x]) s₀ H₀ a) (by change(bJ [x] X.N++[x]).length=_;rw[Z4,oB];rfl)<|Ef (X:=cH X scope cl C (bJ [x] X.N++[x]) s₀ H₀ a) d (by change(bJ [x] X.N++[x])[X.N.length]?=_;rw[<- oB [x] X.N];simp) (.inl b)<|.inr b
def xD(O:å S F k c X)(a:Bf tg=b0 xs)(h:rA c scope xs=eA)cl C s₀ H₀ b:
  PG (cH X scope cl C (bJ xs X.N++xs) s₀ H₀ b) tg (ū X.K<|gB X.N.length<|Bg tg xs.length)/\∀d n z,Bg tg xs.length d n=b0 z->z.length=xs.length:=by
 obtain⟨St,g⟩:=tT O h;have s:(bJ xs X.N++xs).Nodup:=Hc St.hnd g λx a=>St.own (x,.local) (Ϡ<|St.here x a) rfl;have e:∀x∈xs,(K6 scope X.env).names.lookup x=b0 .local:=λx a=>OX<|St.here x a;unfold Bf at a;split at a
 .rename_i x p;cases a;show⟨UM (c:=c) ⟨St,g⟩ cl C s₀ H₀ b,λd n z l=>?_⟩;cases l;rfl
 .rename_i r w pt;show⟨a8Z (X:=cH X scope cl C (bJ xs X.N++xs) s₀ H₀ b) (by change(bJ xs X.N++xs).length=_;rw[Z4,oB]) (Ac (X:=cH X scope cl C (bJ xs X.N++xs) s₀ H₀ b) (Hh (X:=cH X scope cl C (bJ xs X.N++xs) s₀ H₀ b) s r xs X.N.length a λj x o=>⟨?_,e x<|Ĳ o⟩) O.calm).h,λd n z l=>?_⟩
  .change(bJ xs X.N++xs)[X.N.length+j]?=b0 x;rw[Ž<|by rw[oB];lia,oB,show X.N.length+j-X.N.length=j by lia];show o
  .obtain⟨y,v,i⟩:=ZS.mp l;split at i
   .rename_i u;cases i;rw[ZT];show u
   .cases i
 .cases a
def UN(O:å S F k c X)(i:∀e,QE X e (r e))f args a:QE X (.Call f args [] a) (Bc S F r c f args a):=by
 unfold Bc;split
 .rename_i q h;split
  .rename_i g;rw[Z9,Z9,Z9,Z9,Z9]at g;obtain⟨⟨⟨⟨⟨j,l⟩,s⟩,u⟩,st⟩,o⟩:=g;obtain⟨t,n,d⟩:=ZS.mp h;split at d
   .rename_i b;obtain⟨p,v,pos,rfl,rfl⟩:=GX n;rw[b.1,b.2,Ut d];show Tx O.calm O.room.units (O.no _ s) (O.no _ u) (O.gl j).1 (O.gl l).1 (i _) st o
   .cases d
  .show bR
 show UH O i _ _ _
def Br(hE:∀c X,å S F k c X->∀e,QE X e (n c e))(p:∀c X,å S F k c X->∀e,QT X e (o c e))c X(O:å S F k c X)elt tg iter ifs scope pos(r:PI X tg iter (τ X.K l)):QE X (.ListComp elt [⟨tg,iter,ifs,0⟩] scope pos) (nD l n o c elt tg iter ifs scope):=by
 unfold nD;split
 .rename_i w j;split
  .rename_i h;rw[Z9]at h;show⟨λg s v H Q I q=>?_⟩;show a8W ((tT O h.1).1.ok I.ok) O.calm r (λd u z=>(xD O j h.1 [] 0 s H []).2 d u z) (λC b a i=>(xD O j h.1 _ C b a i).1) (λC b a i=>(He (p _ _<|O.comp h.1) _).h) (λC b a i=>(hE _ _ (O.comp h.1) _).h) (Hg h.2) g s v H Q I q
  .show bR
 .show bR
def UO(hE:∀c X,å S F k c X->∀e,QE X e (b c e))(a:∀c X,å S F k c X->∀e,QT X e (d c e))c X(O:å S F k c X)elt tg iter ifs scope pos:QE X (.ListComp elt [⟨tg,iter,ifs,0⟩] scope pos) (Bh S b d c elt tg iter ifs scope):=by
 unfold Bh;split
 .show S9 (Br hE a c X O elt tg iter ifs scope pos<|(AR<|hE c X O iter).h tg) bR
 show Br hE a c X O elt tg iter ifs scope pos<|Bq O (hE c X O) tg iter
def UP{pos:ß}(h:QP X pos keys a b)(d:(!keys.isEmpty)=eA)(c:keys.length<=15):QE X (.Dict keys a pos) (oG b):=by
 cases keys with
 |nil=>show absurd d (by simp)|cons e g=>show b0i h c
def UQ v n p:QE X (.Constant v n p) (G0 v):=by cases v<;>first|show a9J|show b0h|show b0g|show b0f|show bR
def UR{r:Expr->ME}(b:∀e,QE X e (r e))op a p:QE X (.UnaryOp op a p) (G1 (r a) op):=by cases op<;>first|show b0Z (b _)|show b0Y (b _)|show bR
def US(O:å S F k c X)(d:∀e,QE X e (r e))a ops bs p:QE X (.Compare a ops bs p) (G2 S r a ops bs):=by
 match ops,bs with
 |[op],[b]=>show UB O (d _) (d _) _ _|[op,op'],[b,b']=>
  change QE X _ (match gH op,gH op' with
  |some p,b0 q=>gG (fS p) (fS q) (r a) (r b)<|r b'
  |_,_=>b6)
  cases g:gH op with
  |none=>show bR|some p=>cases h:gH op' with
   |none=>show bR|some q=>show a7C g h (d _) (d _)<|d _
 |[],_=>show bR|[_],[]=>show bR|[_],_::_::_=>show bR|[_,_],[]=>show bR|[_,_],[_]=>show bR|[_,_],_::_::_::_=>show bR|_::_::_::_,_=>show bR
def UT(O:å S F k c X)(d:∀e,QE X e (r e))a ops bs p:QE X (.Compare a ops bs p) (Bi S c r a ops bs):=by
 unfold Bi;cases h:G3 S c ops bs with
 |none=>show US O d a ops bs p|some j=>
  match ops,bs,h with
  |[.In],[b],h=>obtain⟨x,q,rfl,T,g,i⟩:=Hb O h;show a9G T g i<|d _
def UU(b:∀e,QE X e (r e))ks vs p:QE X (.Dict ks vs p) (Bj r ks vs):=by
 unfold Bj;split
 .rename_i d h;split
  .rename_i a;rw[Z9]at a;show UP (Ha b _ _ _ _ h) a.1<|of_decide_eq_true a.2
  .show bR
 .show bR
def UW(O:å S F k c X)(a:∀e,QE X e (r e))ks vs p:QE X (.Dict ks vs p) (Bk r ks vs):=by
 unfold Bk;try split
 .show Se
 .show UU a _ _ _
def UX(O:å S F k c X)(d:∀e,QE X e (r e))a b p:QE X (.Subscript a b p) (Bl S r c a b):=by
 unfold Bl;split
 .show b0q (d _) (tS d _)<|tS d _
 .show Rm (d _) (tS d _) (tS d _)<|tS d _
 .split
  .rename_i h;split
   .rename_i l j;obtain⟨x,p,rfl,T,g,i⟩:=Hb O j;show a9H T g i (d _) h
   .show Sw O.room (d _) (d _) h
  .show bR
def lX(a:∀e,QE X e (r e))e:QT X e (tR r e):=by
 unfold tR;split
 .rename_i h;show RvJ (a _) h
 .show vQ
def UY(O:å S F k c X)(d:∀e,QE X e (r e))a ops bs p:QT X (.Compare a ops bs p) (Bp S r a ops bs p):=by
 match ops,bs with
 |[op],[b]=>show UC O (d _) (d _) _ _|[op,op'],[b,b']=>
  unfold Bp;dsimp only;cases g:gH op with
  |none=>show vQ|some p=>cases h:gH op' with
   |none=>show vQ|some q=>show a6y g h (d _) (d _)<|d _
 |[],_=>show lX d _|[_],[]=>show lX d _|[_],_::_::_=>show lX d _|[_,_],[]=>show lX d _|[_,_],[_]=>show lX d _|[_,_],_::_::_::_=>show lX d _|_::_::_::_,_=>show lX d _
def UZ(a:∀e,QE X e (r e))es n p:QE X (.Tuple es n p) (Bm r es):=by
 unfold Bm;split
 .rename_i h;show b0F<|iZ a _ h
 .show bR
def U0(a:∀e,QE X e (r e))es p:QE X (.List es p) (Bn r es):=by
 unfold Bn;split
 .rename_i h;show b0B<|iZ a _ h
 .show bR
def U1(O:å S F k c X)(b:∀e,QE X e (r e))f args a p:QE X (.Call f args a p) (Bo S F r c f args p a):=by
 unfold Bo;split
 .show UN O b _ _ _
 .show bR
def Hi(hE:∀c X,å S F k c X->∀e,QE X e (o c e))(B:∀c X,å S F k c X->∀e,QT X e (r c e))c X(O:å S F k c X):
  (∀e,QE X e (G5 S F o r c e))/\∀e,QT X e (G6 S o r c e):=by
 have d:=hE c X O;have w:=B c X O;constructor
 .intro e;cases e with
  |Name x p=>show Uz O _ _|Constant v n p=>show UQ v n p|BinOp a i b p=>show UA (d _) (d _) _ _|UnaryOp i a p=>show UR d i a p|Compare a g bs p=>show UT O d a g bs p|BoolOp i z p=>show G7 d _ _ _|IfExp t a b p=>show b0I (w _) (d _) (d _)|Tuple u n p=>show UZ d u n p|List u p=>show U0 d u p|Dict E z p=>show UW O d E z p|Subscript a b p=>show UX O d a b p|Call f j y l=>show U1 O d f j y l|ListComp s A h p=>
   change QE X _ (G4 S o r c s h A);match A with
   |[]=>show bR|[⟨_,_,_,.ofNat 0⟩]=>show UO hE B c X O _ _ _ _ _ _|[⟨_,_,_,.ofNat<|_+1⟩]=>show bR|[⟨_,_,_,.negSucc _⟩]=>show bR|⟨_,_,_,.ofNat 0⟩::_::_=>show bR|⟨_,_,_,.ofNat<|_+1⟩::_::_=>show bR|⟨_,_,_,.negSucc _⟩::_::_=>show bR
  |_=>show bR
 .intro e;cases e with
  |BoolOp i z p=>show a7n (G8 w _ _ _)|UnaryOp i a p=>
   cases i;case Not=>show a8M<|w _
   all_goals show lX d _
  |Compare a g bs p=>show UY O d a g bs p|_=>show lX d _
def Bs:∀n,(∀c X,å S F k c X->∀e,QE X e ((tr S F n).1 c e))/\∀c X,å S F k c X->∀e,QT X e ((tr S F n).2 c e)
 |0=>⟨λc X O e=>bR,λc X O e=>vQ⟩|n+1=>by have a:=Bs (S:=S) (F:=F) (k:=k) n;show⟨λc X O e=>(Hi a.1 a.2 c X O).1 e,λc X O e=>(Hi a.1 a.2 c X O).2 e⟩
abbrev xE:MG:=λ_ _ _=>b5
abbrev tU(c:Cs):List Expr->Option (List Nat)
 |[]=>b0 []|.Name x _::r=>if m9 c x then(m7 x c.N).bind λi=>(tU c r).map (i::·)else b5|_=>b5
abbrev tV(c:Cs):Expr->MG
 |.Name x _=>if m9 c x then(match m7 x c.N with|some i=>cC i|none=>xE)else xE|.Tuple es _ _=>match tU c es with|some a=>j6 a|none=>xE
 |_=>xE
abbrev lY(r:Stmt->MS):List Stmt->MS
 |[]=>bI|[s]=>r s|s::t=>aH (r s)<|lY r t
abbrev Bt(S:ē)(E:Cs->Expr->ME)(T:Cs->Expr->MT)(c:Cs)(i:Nat):Expr->MS
 |.ListComp elt [⟨tg,iter,ifs,0⟩] scope _=>match A7 S c tg iter with
  |some j=>oY j (aM i<|nD (iW<|E c iter) E T c elt tg iter ifs scope) dH|none=>aM i<|nD (xB S (E c) c tg iter) E T c elt tg iter ifs scope
 |_=>dH
abbrev Bu(S:ē)(E:Cs->Expr->ME)(T:Cs->Expr->MT)(c:Cs)(tg e:Expr):MS:=match tg with
 |.Name y _=>if m9 c y then(match m7 y c.N with
   |some i=>if jI e then aM i (E c e)else Bt S E T c i e
   |none=>dH)else dH
 |.Tuple es _ _=>if Ad e then(match tU c es with|some a=>oE (E c e) (j6 a)|none=>dH)
   else dH
 |.Subscript o i _=>if jI e&&mM i then kI (E c o) (E c i) (E c e)else dH|_=>dH
abbrev nE:Nat:=1000000000
abbrev Bv(tg:Expr):Expr->Option (Expr×ß×ß)
 |.Call g [] [] cpos=>match g with
  |.Attribute o m apos=>match tg with
   |.Tuple ..=>if m="items" then b0 (o,apos,cpos)else b5|_=>b5
  |_=>b5
 |_=>b5
def U2(h:Bv tg e=b0 q):e=.Call (.Attribute q.1 "items" q.2.1) [] [] q.2.2/\∃es b p,tg=.Tuple es b p:=by
 unfold Bv at h;split at h
 .split at h
  .split at h
   .split at h
    .rename_i a;cases h;rw[a];show⟨rfl,_,_,_,rfl⟩
    .cases h
   .cases h
  .cases h
 .cases h
abbrev Hj(S:ē)(E:Cs->Expr->ME)(T:Cs->Expr->MT)(c:Cs)(r:Stmt->MS):Stmt->MS
 |.Return (b0 e) _=>aN (E c e)|.Return b5 _=>aN (mC .non)|.If t a b _=>bG (T c t) (lY r a) (lY r b)|.Assign [tg] e _=>Bu S E T c tg e|.Expr e _=>if jI e then cV (E c e)else dH|.For tg iter body [] _=>if gD iter then
  (match Bv tg iter with
  |some q=>if j9 q.1&&(q.2.1.endLine==q.2.2.line)then cD (tH<|E c q.1) (tV c tg) (lY r body)else dH|none=>
  (match A7 S c tg iter with
  |some j=>oY j (cD (iW<|E c iter) (tV c tg)<|lY r body) dH
  |none=>cD (xB S (E c) c tg iter) (tV c tg)<|lY r body)
  )
  else dH
 |.While t body [] _=>mP nE (T c t) (lY r body)|.Pass _=>bI|_=>dH
abbrev Bw(S:ē)(F:Str->MF)(m:Nat)(c:Cs):Nat->Stmt->MS
 |0=>λ_=>dH|n+1=>Hj S (tr S F m).1 (tr S F m).2 c<|Bw S F m c n
def U3{X:Cx}(ks:X.env.scope.names=c.ks)(h:m9 c x=eA):L2.Loc X.env.scope x:=by unfold m9 at h;rw[rn]at h;unfold L2.Loc;rw[ks];show h.imp of_decide_eq_true of_decide_eq_true
def å.own(O:å S F k c X)(h:m9 c x=eA):L2.Loc X.env.scope x:=U3 O.ks h
def Bx(O:å S F k c X)(b:∀x,X.fn x=eA):∀es a,tU c es=b0 a->vm X es a
 |[],a,h=>by cases h;show Et
 |e::es,a,h=>by
  cases e with
  |Name x p=>
   unfold tU at h;split at h
   .rename_i j;obtain⟨i,d,h⟩:=ZS.mp h;obtain⟨l,g,h⟩:=ZX.mp h;subst h;show Eu i O.nd (Bx O b es l g) (by rw[O.N];show tL d) (O.own j)<|.inl<|b x
   .cases h
  |_=>cases h
def By(O:å S F k c X)(b:∀x,X.fn x=eA)e:QG X e (tV c e):=by
 unfold tV;split
 .split
  .rename_i d;split
   .rename_i i a;show a8z i O.nd (by rw[O.N];show tL a) (O.own d)<|.inl<|b _
   .show vT λ_ _ _=>rfl
  .show vT λ_ _ _=>rfl
 .split
  .rename_i g a;show Ac (Bx O b _ g a) O.calm
  .show vT λ_ _ _=>rfl
 .show vT λ_ _ _=>rfl
def nF(a:∀s,QS X s (r s)):∀b,QB X b (lY r b)
 |[]=>a7i|[s]=>a7Z (a s)|s::t::ts=>a7b (a s)<|nF a<|t::ts
def U4{pos:ß}:
  ∃b,Ϧ (.ListComp elt [⟨tg,iter,ifs,0⟩] scope pos) (b0<|.Name y py) n env=pure b/\(b=eA->env.kindOf y=b0 .local):=by
 show⟨env.blockKind==.function&&env.kindOf y==b0 .local&&py.line==pos.line&&!(scope.names.any λ(n,k)=>n==y&&(k==.local||k==.cell)),rfl,λh=>?_⟩;simp only[Z9,beq_iff_eq]at h;show h.1.1.2
def Hk(O:å S F k c X)(B:∀x,X.fn x=eA)(hE:∀c X,å S F k c X->∀e,QE X e (E c e))(u:∀c X,å S F k c X->∀e,QT X e (T c e))(v:X.N[i]?=b0 y)(G:m9 c y=eA)elt tg iter ifs scope pos(n:PI X tg iter (τ X.K A)):QS X (.Assign [.Name y py] (.ListComp elt [⟨tg,iter,ifs,0⟩] scope pos) j) (aM i<|nD A E T c elt tg iter ifs scope):=by
  obtain⟨b,l,r⟩:=U4 (elt:=elt) (tg:=tg) (iter:=iter) (ifs:=ifs) (scope:=scope) (pos:=pos) (py:=py) (y:=y) (n:=j.line) (env:=X.env);cases b with
  |false=>show⟨DZ O.nd v (O.own G) (Br hE u c X O elt tg iter ifs scope pos n).h l<|.inl<|B y⟩|true=>
   unfold nD;split
   .rename_i M w;split
    .rename_i h;rw[Z9]at h;show⟨λo s L H D I q=>?_⟩;show a8U ((tT O h.1).1.ok I.ok) O.nd O.calm n (λd K z=>(xD O w h.1 [] 0 s H []).2 d K z) (λC g a p=>(xD O w h.1 _ C g a p).1) (λC g a p=>(He (u _ _<|O.comp h.1) _).h) (λC g a p=>(hE _ _ (O.comp h.1) _).h) (Hg h.2) v (r rfl) l o s L H D I q
    .show FQ
   .show FQ
def U5(O:å S F k c X)(d:∀x,X.fn x=eA)(hE:∀c X,å S F k c X->∀e,QE X e (E c e))(b:∀c X,å S F k c X->∀e,QT X e (T c e))(g:X.N[i]?=b0 y)(h:m9 c y=eA)e:QS X (.Assign [.Name y py] e a) (Bt S E T c i e):=by
 unfold Bt;split
 .split
  .show Gu (Hk O d hE b g h _ _ _ _ _ _<|(AR<|hE c X O _).h _) eZ
  .show Hk O d hE b g h _ _ _ _ _ _<|Bq O (hE c X O) _ _
 .show eZ
def U6(O:å S F k c X)(b:∀x,X.fn x=eA)(hE:∀c X,å S F k c X->∀e,QE X e (E c e))(l:∀c X,å S F k c X->∀e,QT X e (T c e))tg e pos:
  QS X (.Assign [tg] e pos) (Bu S E T c tg e):=by
 unfold Bu;split
 .split
  .rename_i j;split
   .rename_i i d;have a:=tL d;rw[<- O.N]at a;split
    .rename_i g;show a7P i O.nd (hE c X O e) g a (O.own j)<|.inl<|b _
    .show U5 O b hE l a j e
   .show eZ
  .show eZ
 .split
  .rename_i g;split
   .rename_i n d;show a8x (hE c X O e) (Ac (Bx O b _ n d) O.calm) g
   .show eZ
  .show eZ
 .split
  .rename_i h;rw[Z9]at h;show SE O.room (hE c X O _) (hE c X O _) (hE c X O _) h.1
  .show eZ
 .show eZ
def U7(O:å S F k c X)(l:∀x,X.fn x=eA)(hE:∀c X,å S F k c X->∀e,QE X e (E c e))(n:∀c X,å S F k c X->∀e,QT X e (T c e))(g:∀s,QS X s (r s))st:
  QS X st (Hj S E T c r st):=by
 cases st with
 |Return o p=>
  cases o with
  |none=>show RaI|some e=>show a7T<|hE c X O _
 |If t a b p=>show a7Q (n c X O _) (nF g _) (nF g _)|Assign v e p=>
  cases v with
  |nil=>show eZ|cons B G=>
   cases G with
   |nil=>show U6 O l hE n _ _ _|cons _ _=>show eZ
 |Expr e p=>
  change QS X _ (if jI e then cV (E c e)else dH);split
  .rename_i h;show a7S (hE c X O _) h
  .show eZ
 |For B j i d p=>
  cases d with
  |cons _ _=>show eZ|nil=>
   change QS X _ (if gD j then _ else dH);split
   .rename_i h;split
    .rename_i q z;split
     .rename_i u;rw[Z9]at u;obtain⟨e,y,A,pt,w⟩:=U2 z;rw[e]at h ⊢;subst w;show AG ((TJ (hE c X O _) u.1 u.2).h y A pt) (By O l _) (nF g _) O.never O.calm h
     .show eZ
    split
    .show Gu (AG ((AR<|hE c X O _).h _) (By O l _) (nF g _) O.never O.calm h) eZ
    show AG (Bq O (hE c X O) _ _) (By O l _) (nF g _) O.never O.calm h
   .show eZ
 |While t i d p=>
  cases d with
  |nil=>show RoI _ (n c X O _) (nF g _) O.never|cons _ _=>show eZ
 |Pass p=>show a7U|_=>show eZ
def Hl(O:å S F k c X)(a:∀x,X.fn x=eA)m:∀n st,QS X st (Bw S F m c n st)
 |0,_=>eZ|n+1,st=>U7 O a (Bs m).1 (Bs m).2 (Hl O a m n) st
abbrev dX(st:Stmt):List Str:=(iJ st).args.map (·.arg)
abbrev nG(st:Stmt):List Str:=dX st++(cG st).names.filterMap λy=>if(y.2==NameKind.local||y.2==WF)&&!(dX st).contains y.1 then b0 y.1 else b5
abbrev nH(st:Stmt):Bool:=
 decide ((cG st).kind=.function)&&!(cG st).isCoroutine&&!(cG st).isGenerator&&decide (nG st).Nodup &&
 ((dX st).all λx=>decide ((cG st).names.lookup x=b0 .local)||decide ((cG st).names.lookup x=b0 .cell))&&((cG st).names.all λy=>decide<|y.2≠.free)
def U8(h:nH st=eA):Ĕ (nG st) (dX st) (cG st):=by unfold nH at h;simp only[Z9,decide_eq_true_eq,yt,uo,rn]at h;obtain⟨⟨⟨⟨⟨a,b⟩,c⟩,d⟩,e⟩,g⟩:=h;show⟨a,b,c,d,by unfold nG;simp,e,g⟩
abbrev Hn:Nat:=40
abbrev Ho:Nat:=40
noncomputable abbrev lk(_:ē)(ds:List (Str×Stmt))(x:Str):Option Stmt:=ds.lookup x
abbrev Bz(S:ē)(F:Str->MF)(st:Stmt):MF:=zP (nG st).length<|lY (Bw S F Hn ⟨nG st,(cG st).names⟩ Ho)<|fN st
abbrev jO(S:ē)(ds:List (Str×Stmt)):Nat->Str->MF
 |0,_=>λ_ _=>b5|k+1,x=>match lk S ds x with
  |none=>λ_ _=>b5|some st=>Bz S (jO S ds k) st
structure Ρ(K:ZV)(mg:Str->Option Value)(x:Str)(st:Stmt):Prop where
 ex:∃f fd,ϑ K x x st f fd/\mg x=b0 (.ref f)/\Ď K fd (dX st) []
structure Ŏ(P:ĥ)(w:Ĉ)(K:ZV)(mg:Str->Option Value)(S:ē)(ds:List (Str×Stmt)):Prop where
 fns:∀x n,S.fn.lookup x=b0 n->∃st,ds.lookup x=b0 st/\(dX st).length=n
 defs:∀x st,ds.lookup x=b0 st->Ρ K mg x st/\nH st=eA
 con:∀x d,S.con.lookup x=b0 d->∃v u,mg x=b0 u/\Æ v u/\∀π n H,Í K π n H v d
 tab:∀x kvs,S.tab.lookup x=b0 kvs->∃(p:Addr)(vs:List (aK×V))(ws:List (aK×Value)),mg x=b0 (.ref p)/\(p==ğ)=dI/\(∀h:ç,K.In h->h.DictOf (dA P w) p ws)/\KV vs ws/\∀π n H,Ö K π n H vs kvs
 no:∀x,S.no.contains x=eA->mg x=b5
def Hq(h:ds.lookup x=b0 st):lk S ds x=b0 st:=by unfold lk;rw[h]
def Ŏ.sc(T:Ŏ P w K mg S ds)(h:lk S ds x=b0 st):nH st=true:=(T.defs _ _ h).2
def U9(T:Ŏ P w K mg S ds)k:∀x st G q f j,lk S ds x=b0 st->ϑ K G q st f j->
  ī P w K mg base gC k f j (dX st) (jD K (dX st).length<|jO S ds k x):=by
 induction k using Nat.strongRecOn with
 |_ k l=>
 intro x st G q f j z N;cases k with
 |zero=>show⟨λvs H Q E h=>h.1,λA outer s H r us vs Q E B he hb hv X=>by
   obtain⟨_,π,L,μ,d,μ',R,i,U,kc⟩:=X;cases U⟩
 |succ k=>
  have Z:=l k<|ϛ k;have e:jO S ds (k+1) x=Bz S (jO S ds k) st:=by change(match lk S ds x with|none=>_|some st=>Bz S (jO S ds k) st)=_;rw[z]
  rw[e];have c:=U8<|T.sc z;show a8w N c (by unfold nG;simp) rfl λg A outer s H E B=>?_;have O:å S (jO S ds k) k ⟨nG st,(cG st).names⟩ (k7 gC P w K mg base (nG st) q (cG st) f g A outer s H E).nox:=by
   show⟨rfl,c.nd,rfl,c.kind,rfl,B,Ot,λy n Y=>?_,T.con,λy o q=>⟨T.tab y o q⟩,T.no
    ⟩
   .obtain⟨a,v,M⟩:=T.fns y n Y;obtain⟨u,b,p,m',I⟩:=(T.defs y a v).1.ex;subst M;show⟨u,b,dX a,Z y a _ _ u b (Hq v) p,m',p.kp,I⟩
  show nF (Hl O (λ_=>rfl) Hn Ho)<|fN st
def Va(T:Ŏ P w K mg S ds)k x st f a(c:ds.lookup x=b0 st)(b:ϑ K x x st f a):
  ī P w K mg base gC k f a (dX st) (jD K (dX st).length<|jO S ds k x):=U9 T k x st x x f a (Hq c) b
def Hr:∀{ns:List Int}{b},Mr (ns.map ud)<=b->∀n∈ns,Ũ n<=b
 |[],_,_,n,a=>nomatch a|m::ns,b,h,n,a=>by
  have e:Mr ((m::ns).map ud)=Pl (.int m)+1+Mr (ns.map ud):=rfl;have c:Pl (.int m)=Ũ m:=rfl;rw[e,c]at h;rcases Ě.mp a with rfl|a
  .lia
  .show Hr (b:=b) ⋯ n a
section
open PySem PySem.W PySem.Calls PyProof.Rows
def Vb{l:OY}(X:l.most=b0 n)(y:d.params.defaults=[])(call:∀w s₀ b mg B g o E s c a(vs:gw)ns,
   Ground q loose [] XP w s₀ mg B b.heap->YP w b.heap->
   b.heap.get? g=b0 o->o.data=.func (docDef d.name d.params d.body d.scope E s c)->b.heap.CodeRec s d.name->mg d.name=b0 (.ref g)->
   b.heap.get? a=b0 {cls:=.type "list",data:=.seq vs.toArray}->Ÿ vs ns->ns.length<=n->(∀m∈ns,Ũ m<=2^20)->b.gens=#[]->
   ź (Å l.prog w) jt (.call (.ref g) ⟨[.ref a],[]⟩) (λr u=>r=.ok (.ret<|.bool eA)/\OldK b.heap u.heap/\u.os=b.os/\cj u.gens) b):
  O6 q loose XP YP l.row.toRowW d [] (λf vs=>Nl f vs):=by
 intro w s₀ b mg B G Y g o E s c L kV Z hd x I z R H K as p h hrd A T;obtain rfl:L=.none:=Dflts.none I y;obtain rfl:kV=.none:=Dflts.noKw I;obtain⟨a,vs,ns,rfl,rfl,j,e,i⟩:=Att.script_of X p A;have Q:∀m∈ns,Ũ m<=2^20:=by
  have v:Pq (.list<|ns.map ud)=true:=by have:=h;unfold b1S at this;simpa using this
  unfold Pq at v;rw[Z9]at v;show Hr<|of_decide_eq_true v.2
 show enter_call<|Kf (call w s₀ b mg B g o E s c a vs ns G Y Z (fd_plain hd) x z j e i Q R) λr u hq=>?_;obtain⟨rfl,M,N,O⟩:=hq;show⟨.inl ⟨.bool eA,.bool eA,[],rfl,λ_=>rfl,.bool eA,Att.post_true l _,λ_=>⟨Mv,λ_ U=>(nomatch U)⟩⟩,M,N,O⟩
end
def walkM{l:OY}{K:ε->ZV}(hn:l.most=b0 63)(L:d.params.defaults=[])(hr:Ô k jt)(hY:∀w h,YP w h->(K w.params).In h)(hl:ds.lookup d.name=b0 st)(hx:dX st=[x])(T:∀w mg h,(K w.params).In h->h.Ns ř mg->Ŏ l.prog w (K w.params) mg S ds/\∃f E,ϑ (K w.params) d.name d.name st f E/\mg d.name=b0 (.ref f)/\∀s u,jn s E ⟨[u],[]⟩ [(x,u)])(M:∀b:List Int,b.length<=63->(∀m∈b,Ũ m<=2^20)->∃p,jO S ds k d.name [.rol<|b.map D.int] []=b0 (.bl eA,p)):
  O6 q loose XP YP l.row.toRowW d [] (λf vs=>Nl f vs):=by
 show Vb hn L λw X Z mg mb fa o pm cd doc a vs b G Y ho hd hcd O A g c I hg=>?_;have R:=hY w _ Y;obtain⟨hT,f,E,hF,U,hb⟩:=T w mg _ R G.T.g;rw[O]at U;cases U;show L2.law_call (CX:=gC) (sp:=jD (K w.params) 1 (jO S ds k d.name)) R G.T.g G.T.b G.T.builtins G.T.nolimit hg A g (ė c<|by decide) hr (λy hb1 hb2=>?_) hb (λH hO hS=>?_) λH e s' z=>z
 .have:=Va (base:=y) hT k d.name st fa E hl hF;rw[hx]at this;show this
 .obtain⟨p,hM⟩:=M b c I;have Q:ϴ (K w.params) H a (b.map V.int):=by
   rcases hS with(h|h)|h
   .rcases hO a with z|⟨o,B,z⟩
    .rw[z]at h;cases h
    .rw[z]at h;cases h
   .show .inl h
   .show .inr h
  show⟨rfl,λ_=>0,[.rol<|b.map D.int],[],.bl eA,p,⟨λi j N=>absurd N<|MQ _,λi N=>absurd N<|MQ _,λi B h=>(by cases h),λi B h=>(by cases h),λi B h=>(by cases h)
   ,λi B h=>(by cases h)
   ,λi B h=>(by cases h)
   ⟩,.cons (.rol Q ?_) .nil,hM,λπ' v H' _ _ hv=>?_⟩
  .have:∀b:List Int,Ã (K w.params) (λ_=>0) ([]:Hm).length H (b.map V.int) (b.map D.int):=λb=>by
    induction b with
    |nil=>show .nil|cons n r ih=>show .cons (.int n) ih
   show this b
  .cases hv;rfl
end L3
namespace L3
open PySem L2
def tW{a:Type}:∀{l:List (Str×a)}{x}{b},l.lookup x=b0 b->(x,b)∈l:=λh=>Ϡ h
def Vc{S:ē}{ds:List (Str×Stmt)}(h:(S.fn.all λp=>match ds.lookup p.1 with|some st=>decide ((dX st).length=p.2)|none=>dI)=eA):∀x n,S.fn.lookup x=b0 n->∃st,ds.lookup x=b0 st/\(dX st).length=n:=by
 intro x n e;have:=uo.mp h (x,n)<|tW e;dsimp only at this;split at this
 .rename_i st a;show⟨st,a,of_decide_eq_true this⟩
 .cases this
def Vd{ds:List (Str×Stmt)}(h:∀p∈ds,Ρ K mg p.1 p.2/\nH p.2=eA):∀x st,ds.lookup x=b0 st->Ρ K mg x st/\nH st=true:=λx st e=>h (x,st)<|tW e
def Ve{mg:Str->Option Value}{a:List (Str×D)}(h:∀p∈a,∃v u,mg p.1=b0 u/\Æ v u/\∀π n H,Í K π n H v p.2):∀x d,a.lookup x=b0 d->∃v u,mg x=b0 u/\Æ v u/\∀π n H,Í K π n H v d:=λx d e=>h (x,d)<|tW e
def Vf{mg:Str->Option Value}{ts:List (Str×List (aK×D))}(h:∀t∈ts,∃(p:Addr)(vs:List (aK×V))(ws:List (aK×Value)),mg t.1=b0 (.ref p)/\(p==ğ)=dI/\(∀h,K.In h->h.DictOf (dA P w) p ws)/\KV vs ws/\∀π n H,Ö K π n H vs t.2):
  ∀x a,ts.lookup x=b0 a->∃(p:Addr)(vs:List (aK×V))(ws:List (aK×Value)),mg x=b0 (.ref p)/\(p==ğ)=dI/\(∀h,K.In h->h.DictOf (dA P w) p ws)/\KV vs ws/\∀π n H,Ö K π n H vs a:=λx a e=>h (x,a)<|tW e
inductive č (w:Ĉ):List DictEntry->List (aK×Value)->Prop where
 |nil:č w [] []
 |cons {e:DictEntry}{k:aK}{v:Value}{es:List DictEntry}{kvs:List (aK×Value)}(h:kZ k e.key=eA)(hh:e.hash=CS w k)(hv:e.val=v)(t:č w es kvs):č w (e::es)<|(k,v)::kvs
def č.pairs(x:č w es kvs):Pairs (dA P w) es kvs:=by
 induction x with
 |nil=>show .nil|cons h c a _ b=>show .cons h a b
def č.keys(x:č w es kvs):∀e∈es,∃k,(dA P w).is k e.key=eA/\e.hash=(dA P w).hash k:=by
 induction x with
 |nil=>intro e a;show nomatch a|@cons e k v es kvs h c g _ d=>
  intro b a;rcases Ě.mp a with rfl|a
  .show⟨k,h,c⟩
  .show d b a
def Vg{h:ç}(b:h.get? p=b0 {cls:=.type "dict",data:=.dict es.toArray ep})(x:č w es kvs)(d:ks.Nodup)(c:kvs.map (·.1)=ks):h.DictOf (dA P w) p kvs:=
 ⟨_,es.toArray,ep,b,⟨rfl,rfl,rfl⟩,rfl,λe a=>x.keys e<|by simpa using a,by simpa using x.pairs,c▸d⟩
def Hs x t:kZ (.inr x) (.str x t)=true:=by simp[kZ,Lz]
def Vh{mg:Str->Option Value}{ns:List Str}(h:∀x∈ns,mg x=b5):∀x,ns.contains x=eA->mg x=none:=λx e=>h x<|by simpa using e
abbrev xF:Nat->(Nat->Value)->gw
 |0,_=>[]|n+1,u=>u 0::xF n λi=>u<|i+1
def Ht:∀us,∃u,us=xF us.length u
 |[]=>⟨λ_=>.none,rfl⟩|v::us=>let⟨u,a⟩:=Ht us;⟨λi=>match i with|0=>v|i+1=>u i,congrArg (v::·) a⟩
noncomputable abbrev Hu:Type:=Value->Value->Value->Option Addr->Value->Value->(Nat->Value)->ĕ (List<|Str×Value)
abbrev Vi(x:Str)(st:Stmt)(m:Value)(c:Addr):Obj:=⟨ä "function",b5,.func<|δ x x (iJ st) (fN st) (cG st) .none .none .none m b5 (.ref c) .none,#[]⟩
abbrev Hv(K:ZV)(d:(Str×Stmt)×Value×Addr×Addr):Option (Option Value)×Option Obj×Bool×Bool×Bool×Hu:=(tu K ř d.1.1,K.lookup d.2.2.2,L8 K (.ref d.2.2.1) d.1.1,Ϛ K<|.ref d.2.2.2,nH d.1.2,λkV b c an a ct u=>KH (δ d.1.1 d.1.1 (iJ d.1.2) (fN d.1.2) (cG d.1.2) .none kV b c an a ct) ⟨xF (dX d.1.2).length u,[]⟩)
abbrev Hw(d:(Str×Stmt)×Value×Addr×Addr):Option (Option Value)×Option Obj×Bool×Bool×Bool×Hu:=(b0<|b0<|.ref d.2.2.2,b0<|Vi d.1.1 d.1.2 d.2.1 d.2.2.1,eA,eA,eA,λ_ _ _ _ _ _ u=>pure<|(dX d.1.2).zip<|xF (dX d.1.2).length u)
abbrev xG(K:ZV)(d:Str×Stmt):(Str×Stmt)×Value×Addr×Addr:=(d,match tu K ř d.1 with
 |some (b0<|.ref f)=>(match K.lookup f with
  |some ⟨_,_,.func fd,_⟩=>(match fd.code with
   |.ref c=>(fd.pyModule,c,f)
   |_=>(.none,0,0))
  |_=>(.none,0,0))
 |_=>(.none,0,0))
abbrev xH(K:ZV)(ds:List (Str×Stmt)):Prop:=ds.map (λd=>Hv K<|xG K d)=ds.map λd=>Hw<|xG K d
def Hx(X:K.In h)(G:h.Ns ř mg)(q:xH K ds):∀p∈ds,(Ρ K mg p.1 p.2/\nH p.2=eA)/\∃f i,ϑ K p.1 p.1 p.2 f i/\mg p.1=b0 (.ref f)/\∀us:gw,us.length=(dX p.2).length->KH i ⟨us,[]⟩=pure ((dX p.2).zip us):=by
 intro g o;have t:=OD.mp q g o;have e:(xG K g).1=g:=rfl;generalize xG K g=d at t e;obtain⟨p,m,c,f⟩:=d;cases e;unfold Hv Hw at t;obtain⟨a,t⟩:=η t;obtain⟨l,t⟩:=η t;obtain⟨c,t⟩:=η t;obtain⟨k,t⟩:=η t;obtain⟨s,b⟩:=η t;have F:=a7E (st:=p.2) l c k;have D:=λkV doc pm an cdv ct (us:gw)(n:us.length=(dX p.2).length)=>(by
  obtain⟨u,j⟩:=Ht us;rw[n]at j;rw[j];show congrFun (congrFun (congrFun (congrFun (congrFun (congrFun (congrFun b kV) doc) pm) an) cdv) ct) u:KH (δ p.1 p.1 (iJ p.2) (fN p.2) (cG p.2) .none kV doc pm an cdv ct) ⟨us,[]⟩=pure ((dX p.2).zip us))
 show⟨⟨⟨_,_,F,Ko X G a,Ď.all<|D _ _ _ _ _ _⟩,s⟩,_,_,F,Ko X G a,D _ _ _ _ _ _⟩
def Vj(X:K.In h)(G:h.Ns ř mg)(q:xH K ds)(c:ds.lookup x=b0 st)(d:dX st=[y]):∃f a,ϑ K x x st f a/\mg x=b0 (.ref f)/\∀s u,jn s a ⟨[u],[]⟩ [(y,u)]:=by obtain⟨f,a,F,m,b⟩:=(Hx X G q (x,st)<|tW c).2;dsimp only at b;rw[d]at b;show⟨f,a,F,m,λs u=>.of_eq<|b [u] rfl⟩
def Vk(X:K.In h)(G:h.Ns ř mg){ns:List Str}(q:ns.map (tu K ř)=ns.map λ_=>b0 b5):∀x∈ns,mg x=none:=λx a=>PySem.W.mg_none_of X G<|OD.mp q x a
abbrev tX{c d:Type}(f:c->d->Bool):List c->List d->Bool
 |[],[]=>eA|a::as,b::bs=>f a b&&tX f as bs|_,_=>dI
abbrev tY(K:ZV):Nat->Value->D->Bool
 |0,_,_=>dI|k+1,u,d=>match d with
  |.non=>(match u with|.none=>eA|_=>dI)|.bl b=>(match u with|.bool c=>decide (b=c)|_=>dI)|.int i=>(match u with|.int j _=>decide (i=j)|_=>dI)|.str x=>(match u with|.str y _=>decide (x=y)|_=>dI)
  |.tup ds=>(match u with
   |.ref p=>(match K.lookup p with
    |some ⟨.type t,b5,.seq its _,_⟩=>decide (t="tuple")&&decide (its.size<=1000)&&tX (tY K k) its.toList ds
    |_=>dI)
   |_=>dI)
  |.rol ds=>(match u with
   |.ref p=>(match K.lookup p with
    |some ⟨.type t,b5,.seq its _,_⟩=>decide (t="list")&&decide (its.size<=1000)&&tX (tY K k) its.toList ds
    |_=>dI)
   |_=>dI)
  |_=>dI
def Hy(h:∀u d,f u d=eA->∃v,Æ v u/\∀π n H,Í K π n H v d):∀us ds,tX f us ds=eA->∃vs,Á vs us/\∀π n H,Ã K π n H vs ds
 |[],[],_=>⟨[],.nil,λ_ _ _=>.nil⟩|u::us,d::ds,e=>by obtain⟨a,b⟩:=ug.mp e;obtain⟨v,r,q⟩:=h u d a;obtain⟨vs,g,c⟩:=Hy h us ds b;show⟨v::vs,.cons r g,λ_ _ _=>.cons (q _ _ _)<|c _ _ _⟩
 |[],_::_,e=>nomatch e|_::_,[],e=>nomatch e
def Hz:∀k u d,tY K k u d=eA->∃v,Æ v u/\∀π n H,Í K π n H v d
 |0,_,_,e=>nomatch e|k+1,u,d,e=>by
  have seq:∀{p:Addr}{ds:List D}{c:String},(match K.lookup p with|some ⟨.type t,b5,.seq g _,_⟩=>decide (t=c)&&decide (g.size<=1000)&&tX (tY K k) g.toList ds|_=>dI)=eA->∃h g n l,K.lookup p=b0 ⟨.type c,b5,.seq g n,l⟩/\g.size<=Z7/\Á h g.toList/\∀π n H,Ã K π n H h ds:=λ{p ds c} e=>by
   split at e
   .rename_i t g n l j;obtain⟨e,q⟩:=ug.mp e;obtain⟨a,b⟩:=ug.mp e;cases of_decide_eq_true a;obtain⟨h,r,i⟩:=Hy (Hz k) _ _ q;show⟨h,g,n,l,j,ė (of_decide_eq_true b)<|by decide,r,i⟩
   .cases e
  cases d with
  |non=>cases u with
   |none=>show⟨.non,rfl,λ_ _ _=>.non⟩|_=>cases e
  |bl b=>cases u with
   |bool c=>cases of_decide_eq_true e;show⟨.bl b,rfl,λ_ _ _=>.bl _⟩|_=>cases e
  |int b=>cases u with
   |int c=>cases of_decide_eq_true e;show⟨.int b,⟨_,rfl⟩,λ_ _ _=>.int _⟩|_=>cases e
  |str b=>cases u with
   |str c=>cases of_decide_eq_true e;show⟨.str b,⟨_,rfl⟩,λ_ _ _=>.str _⟩|_=>cases e
  |tup ds=>cases u with
   |ref p=>obtain⟨h,g,n,l,j,o,r,i⟩:=seq e;show⟨.ref p,rfl,λ_ _ _=>.tup (vs:=h) (.inr ⟨_,g,n,j,rfl,rfl,rfl,o,r⟩)<|i _ _ _⟩|_=>cases e
  |rol ds=>cases u with
   |ref p=>obtain⟨h,g,n,l,j,o,r,i⟩:=seq e;show⟨.ref p,rfl,λ_ _ _=>.rol (vs:=h) (.inr ⟨_,g,n,j,rfl,rfl,rfl,o,r⟩)<|i _ _ _⟩|_=>cases e
  |_=>cases e
abbrev HA(K:ZV)(a:List (Str×D)):Bool:=a.all λc=>match tu K ř c.1 with|some (b0 u)=>tY K 8 u c.2|_=>dI
def Vl(X:K.In h)(G:h.Ns ř mg)(q:HA K a=eA):∀p∈a,∃v u,mg p.1=b0 u/\Æ v u/\∀π n H,Í K π n H v p.2:=λp b=>by
 have t:=uo.mp q p b;split at t
 .rename_i u c;obtain⟨v,r,i⟩:=Hz _ _ _ t;show⟨v,u,Ko X G c,r,i⟩
 .cases t
abbrev W{a:Type}(o:Option a)(Q:a->Prop):Prop:=∃r,o=b0 r/\Q r
def À{r:α}{Q:α->Prop}:W (b0 r) Q↔Q r:=⟨λ⟨_,h,q⟩=>by cases h;show q,λq=>⟨r,rfl,q⟩⟩
def Ú{Q:α->Prop}:W b5 Q↔False:=⟨λ⟨_,h,_⟩=>(by cases h),λh=>h.elim⟩
def Â{o:Option α}{g:α->Option β}{Q:β->Prop}:W (o.bind g) Q↔W o λr=>W (g r) Q:=by
 cases o with
 |none=>show⟨λ⟨_,h,_⟩=>(by cases h),λ⟨_,h,_⟩=>(by cases h)⟩|some a=>simp[À]
def iC{o:Option α}{g:α->β}{Q:β->Prop}:W (o.map g) Q↔W o λr=>Q (g r):=by
 cases o with
 |none=>show⟨λ⟨_,h,_⟩=>(by cases h),λ⟨_,h,_⟩=>(by cases h)⟩|some a=>simp[À]
def bH{o:Option α}{Q:α->Prop}{a:α->Prop}(h:W o Q)(k:∀r,Q r->a r):W o a:=let⟨r,e,q⟩:=h;⟨r,e,k r q⟩
def xI{Q:α->Prop}[Decidable c]{a b:Option α}:W (if c then a else b) Q↔if c then W a Q else W b Q:=by split<;>rfl
abbrev fin:Option (Fl×aF×Hm)->jk:=λo=>o.bind λp=>match p.1 with|.rt d=>b0 (d,p.2.2)|.nx=>b0 (.non,p.2.2)|_=>b5
def Ħ{Q:jz}:W (fin o) Q↔W o λp=>match p.1 with|.rt d=>Q (d,p.2.2)|.nx=>Q (.non,p.2.2)|_=>False:=by
 unfold fin;rw[Â];constructor
 .show λh=>bH h λp q=>by obtain⟨a,c,b⟩:=p;cases a<;>simpa[À,Ú]using q
 .show λh=>bH h λp q=>by obtain⟨a,c,b⟩:=p;cases a<;>simpa[À,Ú]using q
def aJ{b μ':Hm}(h:b<+:μ'){a:Nat}(e:b[a]?=b0 c):μ'[a]?=b0 c:=by obtain⟨t,rfl⟩:=h;have d:=(ZW.mp e).1;rw[ō d];show e
def aU(a:Hm)(c:C):a<+:a++[c]:=⟨[c],rfl⟩
def cX{b μ':Hm}(h:b<+:μ')(d:b.length<=a)c:b<+:μ'.set a c:=by obtain⟨t,rfl⟩:=h;rw[LO _ _ d];show⟨_,rfl⟩
def Ë{Q}:W (aH a b d c) Q↔W (a d c) λp=>match p.1 with|.nx=>W (b p.2.1 p.2.2) Q|_=>Q p:=by
 unfold aH;rw[Â];constructor
 .show λh=>bH h λp q=>by obtain⟨e,d,c⟩:=p;cases e<;>simpa[À,Ú]using q
 .show λh=>bH h λp q=>by obtain⟨e,d,c⟩:=p;cases e<;>simpa[À,Ú]using q
def Ù{Q}:W (aN m a b) Q↔W (m a b) λp=>Q (.rt p.1,a,p.2):=iC
def Ø{Q}:W (cV m a b) Q↔W (m a b) λp=>Q (.nx,a,p.2):=iC
def ø{Q}:W (aM i m a b) Q↔W (m a b) λp=>Q (.nx,a.set i<|b0 p.1,p.2):=iC
def Ï{Q}:W (bI b a) Q↔Q (.nx,b,a):=À
def Ñ{Q}:W (bG t a b c d) Q↔W (t c d) λp=>if p.1=eA then W (a c p.2) Q else W (b c p.2) Q:=by unfold bG;rw[Â];constructor<;>show λh=>bH h λp q=>by obtain⟨x,d⟩:=p;cases x<;>simpa using q
def Ĝ{Q}:W (gN t a b c d) Q↔W (t c d) λp=>if p.1=eA then W (a c p.2) Q else W (b c p.2) Q:=by unfold gN;rw[Â];constructor<;>show λh=>bH h λp q=>by obtain⟨x,d⟩:=p;cases x<;>simpa using q
def ģ{Q}:W (fR a b d c) Q↔W (a d c) λp=>if p.1=eA then W (b d p.2) Q else Q (dI,p.2):=by unfold fR;rw[Â];constructor<;>show λh=>bH h λp q=>by obtain⟨x,c⟩:=p;cases x<;>simpa[À]using q
def ő{Q}:W (iM a b d c) Q↔W (a d c) λp=>if p.1=eA then Q (eA,p.2)else W (b d p.2) Q:=by unfold iM;rw[Â];constructor<;>show λh=>bH h λp q=>by obtain⟨x,c⟩:=p;cases x<;>simpa[À]using q
def Ϸ{Q}:W (iN a c b) Q↔W (a c b) λp=>Q (!p.1,p.2):=iC
def ę{Q}:W (aC f a b c d) Q↔W (a c d) λp=>W (b c p.2) λq=>W (f p.1 q.1 q.2) Q:=by unfold aC;rw[Â];simp only[Â]
def nJ{Q}:W (mC d b a) Q↔Q (d,a):=À
def fY{b:aF}{Q}:W (aA 0 (b0 d::b) a) Q↔Q (d,a):=by change W (b0 (d,a)) Q↔_;show À
def jP{b:aF}{Q}:W (aA (i+1) (x::b) a) Q↔W (aA i b a) Q:=by unfold aA;rw[List.getElem?_cons_succ]
def jQ{Q}:W (aD b a) Q↔Q ([],a):=À
def Ý{Q}:W (aB a r b c) Q↔W (a b c) λp=>W (r b p.2) λq=>Q (p.1::q.1,q.2):=by unfold aB;simp only[Â,À]
def í{Q}:W (aW ms b a) Q↔W (ms b a) fun p=>p.1.length<=Z7/\Q (.tup p.1,p.2):=by
 unfold aW
 rw [Â]
 constructor<;>show fun h=>bH h fun p q=>by
  first
  | (rw [xI] at q;split at q
     .show ⟨by assumption,À.mp q⟩
     .show (Ú.mp q).elim)
  | (rw [if_pos q.1];show À.mpr q.2)
def Ā{Q}:W (bU ms b a) Q↔W (ms b a) fun p=>p.1.length<=Z7/\Q (.loc p.2.length,p.2++[.lst p.1]):=by
 unfold bU
 rw [Â]
 constructor<;>show fun h=>bH h fun p q=>by
  first
  | (rw [xI] at q;split at q
     .show ⟨by assumption,À.mp q⟩
     .show (Ú.mp q).elim)
  | (rw [if_pos q.1];show À.mpr q.2)
def û{Q}:W (aG f ms b a) Q↔W (ms b a) fun p=>W (f p.1 p.2) Q:=Â
def ļ{Q}:W (aR m c a) Q↔W (m c a) λp=>match p.1 with|.bl b=>Q (b,p.2)|_=>False:=by unfold aR;rw[Â];constructor<;>show λh=>bH h λp q=>by obtain⟨d,a⟩:=p;cases d<;>simpa[À,Ú]using q
def Ő{Q}:W (c8 m c a) Q↔W (m c a) λp=>W (kE p.2 p.1) λb=>Q (b,p.2):=by unfold c8;simp only[Â,iC]
def Vm{Q}:W (pT a e c) Q↔W (a e c) λp=>match p.1 with|.bl b=>Q (.bl<|!b,p.2)|_=>False:=by unfold pT;rw[Â];constructor<;>show λh=>bH h λp q=>by obtain⟨d,c⟩:=p;cases d<;>simpa[À,Ú]using q
def ď{Q}:W (d7 a b g e) Q↔W (a g e) λp=>match p.1 with|.bl c=>if c=eA then W (b g p.2) Q else Q (.bl dI,p.2)|_=>False:=by
 unfold d7;rw[Â];constructor<;>show λh=>bH h λp q=>by
  obtain⟨d,e⟩:=p;cases d with
  |bl c=>cases c<;>simpa[À]using q|_=>simpa[Ú]using q
def ϒ{Q}:W (oE m g a c) Q↔W (m a c) λp=>W (g p.1 a p.2) λb=>Q (.nx,b,p.2):=by unfold oE;simp only[Â,iC]
def jc{Q}:W (sM kvs m b a) Q↔W (m b a) λp=>W (iR p.1) λk=>W (eW kvs k) λd=>Q (d,p.2):=by unfold sM;simp only[Â,iC]
def î{Q:jz}:W (bA (.int i) (.int j) μ) Q↔Q (.int<|i+j,μ):=À
def į{Q:jz}:W (cW (.int i) (.int j) μ) Q↔Q (.int<|i-j,μ):=À
def eD{Q:jz}(h:0<j):W (aX (.int i) (.int j) μ) Q↔Q (.int<|i%j,μ):=by change W ((if 0<j then b0 (i%j)else b5).map λz=>(D.int z,μ)) Q↔_;rw[if_pos h];show À
def Vn:(1073741824:Int)<2^4000:=by decide +kernel
def Vo{Q:jz}(h:0<j)(l:j<2^4000):W (cS (.int i) (.int j) μ) Q↔Q (.int<|i/j,μ):=by change W ((if 0<j/\j<2^4000 then b0 (i/j)else b5).map λz=>(D.int z,μ)) Q↔_;rw[if_pos ⟨h,l⟩];show À
def tZ{Q:jz}(h:0<j)(l:j<1073741824):W (cS (.int i) (.int j) μ) Q↔Q (.int<|i/j,μ):=Vo h<|Int.lt_trans l Vn
def nK{Q:jz}(h:(-(2^64)<i/\i<2^64)\/(-(2^64)<j/\j<2^64)):W (cB (.int i) (.int j) μ) Q↔Q (.int<|i*j,μ):=by change W ((if((-(2^64)<i/\i<2^64)\/(-(2^64)<j/\j<2^64))\/(i.natAbs<2^4000/\j.natAbs<2^4000)\/Ũ i+Ũ j<=134217728 then b0 (i*j)else b5).map λz=>(D.int z,μ)) Q↔_;rw[if_pos<|.inl h];show À
def ĉ{Q:jz}:W (a8 dI (.int i) (.int j) μ) Q↔Q (.bl<|i==j,μ):=À
def vy{Q:jz}:W (a8 eA (.int i) (.int j) μ) Q↔Q (.bl<|!(i==j),μ):=À
def ł{Q:jz}:W (dB (.int i) (.int j) μ) Q↔Q (.bl<|decide<|i<j,μ):=À
def bu{Q:jz}:W (pX (.int i) (.int j) μ) Q↔Q (.bl<|decide<|i<=j,μ):=À
def Β{Q:jz}:W (k9 (.int i) (.int j) μ) Q↔Q (.bl<|decide<|j<i,μ):=À
def wg{Q:jz}:W (sD (.int i) (.int j) μ) Q↔Q (.bl<|decide<|j<=i,μ):=À
def xJ{Q:jz}:W (aE (.tup [a,b]) (.int 0) μ) Q↔Q (a,μ):=À
def œ{Q:jz}:W (aE (.tup [a,b]) (.int 1) μ) Q↔Q (b,μ):=À
def iz:W (kE μ<|.bl b) Q↔Q b:=À
def Γ:W (j6 [i,j] (.tup [a,b]) h μ) Q↔Q ((h.set i<|b0 a).set j<|b0 b):=À
def fH{Q:jz}(h:b[a]?=b0 (.lst xs))(c:atI xs i=b0 d):W (aE (.loc a) (.int i) b) Q↔Q (d,b):=by
 have:aE (.loc a) (.int i) b=b0 (d,b):=by simp only[aE,gZ,bL,h,Ē,c,Ę]
 rw[this];show À
def Ê:W (b8 m b a) Q↔W (m b a) λp=>W (jJ p.2 p.1) λxs=>Q (c7 p.1,xs.length+1,p.2):=by unfold b8;simp only[Â,iC]
def É{Q}:W (cD c g b a d) Q↔W (c a d) λp=>W (eI p.1 g b p.2.1 0 a p.2.2) Q:=Â
def rB{j:Int}:W (iT ms e c) Q↔W (ms e c) fun p=>match p.1 with|[.int j]=>(-(2 ^ 62)<=j/\j<2 ^ 62)/\Q (jH 0 j.toNat,j.toNat+1,p.2)|_=>False:=by
 unfold iT
 rw [Â]
 constructor<;>show fun h=>bH h fun p q=>by
  obtain ⟨l,c⟩:=p
  match l,q with
  | [],q=>simpa [Ú] using q
  | [d],q=>
   cases d with
   | int j=>
    first
    | (dsimp only at q;rw [xI] at q;split at q
       .rename_i g;show ⟨g,À.mp q⟩
       .show (Ú.mp q).elim)
    | (dsimp only;rw [if_pos q.1];show À.mpr q.2)
   | _=>simpa [Ú] using q
  | a::b::l,q=>simpa [Ú] using q
def Ľ:W (mN ms b a) Q↔W (ms b a) fun p=>match p.1 with|[.int i,.int j]=>(-(2 ^ 62)<=i/\i<2 ^ 62/\-(2 ^ 62)<=j/\j<2 ^ 62)/\Q (jH i (j - i).toNat,(j - i).toNat+1,p.2)|_=>False:=by
 unfold mN
 rw [Â]
 constructor<;>show fun h=>bH h fun p q=>by
  split at q
  .rename_i e
   try rw [e]
   first
   | (rw [xI] at q;split at q
      .rename_i c;show ⟨c,À.mp q⟩
      .show (Ú.mp q).elim)
   | ((try dsimp only);rw [if_pos q.1];show À.mpr q.2)
  .first
   | show (Ú.mp q).elim
   | show q.elim
def rF{j:eJ}{b:MS}(I:Nat->aF->Hm->Prop)(go:∀ i c a,i<N->I i c a->∃ d l,j a i=b0 (b0 d)/\g d c a=b0 l/\W (b l a) fun p=>match p.1 with|.nx=>I (i+1) p.2.1 p.2.2|.ct=>I (i+1) p.2.1 p.2.2|.bk=>Q (.nx,p.2.1,p.2.2)|.rt d=>Q (.rt d,p.2.1,p.2.2))(e:∀ c a,I N c a->j a N=b0 b5/\Q (.nx,c,a)):∀m i c a,i+m=N->I i c a->W (eI j g b (m+1) i c a) Q
 | 0,i,c,a,h,hI=>by
  have:i=N:=by lia
  subst this
  obtain ⟨r,s⟩:=e c a hI
  unfold eI
  rw [r]
  show À.mpr s
 | m+1,i,c,a,h,hI=>by
  obtain ⟨d,l,r,s,v⟩:=go i c a ⋯ hI
  unfold eI
  rw [r]
  simp only [Ē,s]
  rw [Â]
  show bH v fun p q=>?_
  obtain ⟨u,o,n⟩:=p
  cases u with
  | nx=>show rF I go e m (i+1) o n ⋯ q
  | ct=>show rF I go e m (i+1) o n ⋯ q
  | bk=>show À.mpr q
  | rt d=>show À.mpr q
def gQ{b:MS}(I:Nat->aF->Hm->Prop)(r:I 0 h c)(o:∀i h c,I i h c->c[a]?=b0 (.lst xs))(go:∀i d h c,xs[i]?=b0 d->I i h c->∃j,g d h c=b0 j/\W (b j c) λp=>match p.1 with|.nx=>I (i+1) p.2.1 p.2.2|.ct=>I (i+1) p.2.1 p.2.2|.bk=>Q (.nx,p.2.1,p.2.2)|.rt d=>Q (.rt d,p.2.1,p.2.2))(n:∀h c,I xs.length h c->Q (.nx,h,c)):W (eI (c7<|.loc a) g b (xs.length+1) 0 h c) Q:=by
 show rF (N:=xs.length) I (λi h c v l=>?_) (λh c l=>⟨?_,n h c l⟩) xs.length 0 h c ⋯ r
 .have e:xs[i]?=b0 xs[i]:=ZY v;obtain⟨j,s,u⟩:=go i xs[i] h c e l;show⟨xs[i],j,?_,s,u⟩;simp only[c7,jJ,bL,o i h c l,Ę,e]
 .simp only[c7,jJ,bL,o _ h c l,Ę];simp
def HB(n:∀a,jJ a x=b0 xs){b:MS}(I:Nat->aF->Hm->Prop)(o:I 0 c a)(go:∀i d c a,xs[i]?=b0 d->I i c a->∃h,g d c a=b0 h/\W (b h a) λp=>match p.1 with|.nx=>I (i+1) p.2.1 p.2.2|.ct=>I (i+1) p.2.1 p.2.2|.bk=>Q (.nx,p.2.1,p.2.2)|.rt d=>Q (.rt d,p.2.1,p.2.2))(j:∀c a,I xs.length c a->Q (.nx,c,a)):W (eI (c7 x) g b (xs.length+1) 0 c a) Q:=by
 show rF (N:=xs.length) I (λi c a u l=>?_) (λc a l=>⟨?_,j c a l⟩) xs.length 0 c a ⋯ o
 .have e:xs[i]?=b0 xs[i]:=ZY u;obtain⟨h,r,s⟩:=go i xs[i] c a e l;show⟨xs[i],h,?_,r,s⟩;simp only[c7,n,Ę,e]
 .simp only[c7,n,Ę];simp
def nM{b:MS}(I:Nat->aF->Hm->Prop)(o:I 0 c a)(go:∀i c a,i<n->I i c a->∃e,g (.int<|lo+i) c a=b0 e/\W (b e a) λp=>match p.1 with|.nx=>I (i+1) p.2.1 p.2.2|.ct=>I (i+1) p.2.1 p.2.2|.bk=>Q (.nx,p.2.1,p.2.2)|.rt d=>Q (.rt d,p.2.1,p.2.2))(h:∀c a,I n c a->Q (.nx,c,a)):W (eI (jH lo n) g b (n+1) 0 c a) Q:=by
 show rF (N:=n) I (λi c a l j=>?_) (λc a j=>⟨?_,h c a j⟩) n 0 c a ⋯ o
 .obtain⟨e,r,s⟩:=go i c a l j;show⟨_,e,by simp only[jH,if_pos l],r,s⟩
 .simp only[jH,Ų,if_false]
def BA(h:c[a]?=b0 (.lst b))(d:b.length<Z7):pZ c a y=b0 (c.set a<|.lst<|b++[y]):=by unfold pZ;rw[h];show if_pos d
def BB{x:eJ}{g:Hm}{xs:List D}(A:∀a i,g<+:a->x a i=b0 xs[i]?)(K:xs.length<=Z7)(hc:∀d a,d∈xs->g<+:a->W (c (I++[b0 d]) a) λr=>r.1=p d/\a<+:r.2)(B:∀d a,d∈xs->p d=eA->g<+:a->W (e (I++[b0 d]) a) λr=>r.1=v d/\a<+:r.2)(fin:∀a,g<+:a->a[g.length]?=b0 (.lst<|(xs.filter p).map v)->Q a):
  ∀m i(a:Hm),i+m=xs.length->g<+:a->a[g.length]?=b0 (.lst<|((xs.take i).filter p).map v)->W (hZ x qA c e I g.length (m+1) i a) Q
 |0,i,a,hi,hp,ha=>by
  have:i=xs.length:=by lia
  subst this;unfold hZ;rw[A a _ hp];rw[fc<|Z2 _];simp only[Ē];show À.mpr<|fin a hp ?_;simpa using ha
 |m+1,i,a,hi,hp,ha=>by
  have u:i<xs.length:=by lia
  have L:xs[i]?=b0 xs[i]:=ZY u;have j:xs[i]∈xs:=Ŧ u;unfold hZ;rw[A a _ hp,L];simp only[Ē,qA];rw[Â];show bH (hc _ a j hp) λr q=>?_;obtain⟨b,z⟩:=r;obtain⟨M,w⟩:=q;dsimp only at M w ⊢;subst M;have h:xs.take (i+1)=xs.take i++[xs[i]]:=by rw[di,L];rfl
  have n:=aJ w ha;cases l:p xs[i]with
  |false=>show BB A K hc B fin m (i+1) z ⋯ (hp.trans w) ?_;rw[n,h,nA];simp[l]|true=>
   dsimp only;rw[Â];show bH (B _ z j l<|hp.trans w) λr q=>?_;obtain⟨y,H⟩:=r;obtain⟨N,G⟩:=q;dsimp only at N G ⊢;subst N;have o:=aJ G n;have s:(((xs.take i).filter p).map v).length<Z7:=by have O:=bc p<|xs.take i;rw[ZT];rw[Ġ]at O;lia
   rw[BA o s,Ē];have E:g<+:H:=(hp.trans w).trans G;show BB A K hc B fin m (i+1) _ ⋯ (cX E (Z2 _) _) ?_;rw[Ν (ZW.mp o).1,h,nA];simp[l]
def fZ{xs:List D}{Q:jz}(hit:W (x b y) λr=>(∀a i,r.2.2<+:a->r.1 a i=b0 xs[i]?)/\r.2.1=xs.length+1/\xs.length<=Z7 /\
   (∀d a,d∈xs->r.2.2<+:a->W (c (b++[b0 d]) a) λs=>s.1=p d/\a<+:s.2)/\(∀d a,d∈xs->p d=eA->r.2.2<+:a->W (e (b++[b0 d]) a) λs=>s.1=v d/\a<+:s.2) /\
   ∀a,r.2.2<+:a->a[r.2.2.length]?=b0 (.lst<|(xs.filter p).map v)->Q (.loc r.2.2.length,a)):W (dR x c e b y) Q:=by
 unfold dR eK;rw[Â];show bH hit λr q=>?_;obtain⟨z,n,g⟩:=r;obtain⟨h,j,l,o,u,w⟩:=q;dsimp only at h j l o u w ⊢;subst j;rw[iC];show BB h l o u w xs.length 0 (g++[.lst []]) ⋯ (aU _ _)<|by simp
def i0{b:Hm}(h:b[a]?=b0 (.lst xs)):∀μ' i,b<+:μ'->c7 (.loc a) μ' i=b0 xs[i]?:=λμ' i c=>by simp only[c7,jJ,bL,aJ c h,Ę]
def Vp{a:Hm}:∀μ' i,a<+:μ'->c7 (.tup xs) μ' i=b0 xs[i]?:=λμ' i b=>rfl
abbrev iD(lo:Int)(n:Nat):List D:=(ă n).map λ(i:Nat)=>.int<|lo+(i:Int)
def HC{a:Hm}:∀μ' i,a<+:μ'->jH lo n μ' i=b0 (iD lo n)[i]?:=λμ' i _=>by
 unfold jH iD;rw[þ];by_cases h:i<n
 .rw[if_pos h,MX h];rfl
 .rw[if_neg h,fc<|by simpa using km.mp h];rfl
noncomputable abbrev P(x y:Int):D:=.tup [.int x,.int y]
noncomputable abbrev PP(p:Int×Int):D:=P p.1 p.2
def HD n e p q:dG (n+2) e (PP p) (PP q)=b0 (p==q):=by obtain⟨a,b⟩:=p;obtain⟨c,d⟩:=q;change b0 (a==c&&(b==d&&eA))=b0 ((a,b)==(c,d));rw[NX];rfl
def t6{Q:jz}(e:c[a]?=b0 (.lst xs))(g:c[b]?=b0 (.lst d))(h:xs.length+d.length<=Z7):W (bA (.loc a) (.loc b) c) Q↔Q (.loc c.length,c++[.lst<|xs++d]):=by simp only[bA,e,g,if_pos h];show À
def ϸ:W (oF [] b a) Q↔Q ([],a):=À
def ţ:W (oF ((k,v)::r) a b) Q↔W (k a b) λp=>W (v a p.2) λq=>W (iR p.1) λc=>W (oF r a q.2) λt=>Q ((c,q.1)::t.1,t.2):=by change W ((k a b).bind _) Q↔_;simp only[Â,iC]
def ϓ:W (iR<|.str x) Q↔Q (.inr x):=À
def Vq{Q:jz}(h:W (oF a c<|b++[.dK []]) λp=>p.2[b.length]?=b0 (.dK [])/\p.1.length<=15/\Q (.loc b.length,p.2.set b.length<|.dK<|j7 [] p.1)):W (oG a c b) Q:=by unfold oG;rw[Â];show bH h λp q=>?_;obtain⟨d,e,g⟩:=q;rw[d];dsimp only;rw[if_pos e];show À.mpr g
def Vr{Q:jz}(h:b[a]?=b0 (.dK kvs))(c:iR y=b0 k)(e:eW kvs k=b0 d):W (aE (.loc a) y b) Q↔Q (d,b):=by
 have:aE (.loc a) y b=b0 (d,b):=by simp only[aE,h,c,Ē,e,Ę]
 rw[this];show À
def fB{Q:jz}(h:W (b a c) λp=>qG p.2 p.1=eA/\W (ms a p.2) λq=>W (f p.1 q.1 q.2) Q):W (c4 f b ms a c) Q:=by unfold c4;rw[Â];show bH h λp q=>?_;rw[q.1];show Â.mpr q.2
def eS(h:b[a]?=b0 (.lst xs)):qG b (.loc a)=true:=by simp only[qG,h]
def i5{Q:jz}(h:b[a]?=b0 (.lst xs))(c:xs.length<Z7):W (e6 (.loc a) [y] b) Q↔Q (.non,b.set a<|.lst<|xs++[y]):=by simp only[e6,BA h c,Ę];show À
def xK{Q:jz}(h:c[a]?=b0 (.lst xs))(e:c[b]?=b0 (.lst d))(g:xs.length+d.length<=Z7):W (lJ (.loc a) [.loc b] c) Q↔Q (.non,c.set a<|.lst<|xs++d):=by simp only[lJ,h,e,if_pos g];show À
def Vs{Q:jz}:W (hG [.int i,.ty "bool"] a) Q↔Q (.bl dI,a):=À
def Vt{Q:jz}:W (hG [.int i,.ty "int"] a) Q↔Q (.bl eA,a):=À
def Vu{Q:jz}(h:b[a]?=b0 (.lst xs)):W (hG [.loc a,.ty "list"] b) Q↔Q (.bl eA,b):=by
 have:hG [.loc a,.ty "list"] b=b0 (.bl eA,b):=by simp only[hG,vG,h,Ē];rfl
 rw[this];show À
def fI{Q:jz}(h:b[a]?=b0 (.lst xs)):W (bX [.loc a] b) Q↔Q (.int xs.length,b):=by simp only[bX,sE,bL,h,Ę];show À
def jd{Q:jz}:W (bX [.rol xs] a) Q↔Q (.int xs.length,a):=À
def cT(h:b[a]?=b0 (.lst xs)):W (jJ b<|.loc a) Q↔Q xs:=by simp only[jJ,bL,h];show À
def j4:W (jJ a<|.tup xs) Q↔Q xs:=À
def ϶:W (jJ a<|.str x) Q↔Q (lH x):=À
def HE{Q:jz}(h:W (a b i) λp=>∃l,p.1=.loc l/\W (lo b p.2) λq=>W (c b q.2) λr=>∃xs,r.2[l]?=b0 (.lst xs)/\Q (.loc r.2.length,r.2++[.lst<|jX xs q.1 r.1])):W (oA a lo c b i) Q:=by unfold oA;rw[Â];show bH h λp q=>?_;obtain⟨d,o⟩:=p;obtain⟨l,e,g⟩:=q;dsimp only at e g ⊢;subst e;rw[Â];show bH g λs q=>?_;rw[Â];show bH q λr q=>?_;obtain⟨xs,j,n⟩:=q;simp only[bL,j,Ē];show À.mpr n
def aZ(a:Hm)c:(a++[c])[a.length]?=b0 c:=by simp
def Ţ{Q}:W (gG f g a b c e i) Q↔W (a e i) λp=>W (b e p.2) λq=>W (f p.1 q.1 q.2) λr=>match r.1 with|.bl k=>if k=eA then W (c e r.2) λt=>W (g q.1 t.1 t.2) Q else Q (.bl dI,r.2)|_=>False:=by
 unfold gG;simp only[Â];constructor<;>show λh=>bH h λp q=>bH q λn l=>bH l λr j=>by
  obtain⟨d,i⟩:=r;cases d with
  |bl k=>cases k<;>simpa[À,Â]using j|_=>simpa[Ú]using j
def ë{Q:jz}:W (fA eA .non .non μ) Q↔Q (.bl dI,μ):=À
def ŋ{Q:jz}:W (fA eA (.loc a) .non μ) Q↔Q (.bl eA,μ):=À
def Ŋ{Q:jz}:W (fA eA (.tup xs) .non μ) Q↔Q (.bl eA,μ):=À
def BC:∀a,qF (a.map D.int)=b0 a
 |[]=>rfl|i::a=>by change(qF<|a.map D.int).map (i::·)=_;rw[BC a];rfl
def BE{Q:jz}{b:List Int}(h:μ[a]?=b0 (.lst<|b.map D.int)):W (jL [.loc a] μ) Q↔Q (.int b.sum,μ):=by simp only[jL,bL,h,Ē,BC,Ę];show À
def Vv{Q:jz}{bs:List Bool}(h:μ[a]?=b0 (.lst<|bs.map D.bl)):W (vY [.loc a] μ) Q↔Q (.bl<|bs.all id,μ):=by
 have e:∀bs:List Bool,qH (bs.map D.bl)=b0 bs:=λbs=>by
  induction bs with
  |nil=>rfl|cons b bs c=>change(qH<|bs.map D.bl).map (b::·)=_;rw[c];rfl
 simp only[vY,bL,h,Ē,e,Ę];show À
def HF{Q:jz}(h:W (a b i) λp=>∃l,p.1=.loc l/\W (lo b p.2) λq=>W (c b q.2) λr=>W (st b r.2) λt=>t.1≠b0 0/\∃xs,t.2[l]?=b0 (.lst xs)/\(eM xs q.1 r.1 t.1).length<=Z7/\Q (.loc t.2.length,t.2++[.lst<|eM xs q.1 r.1 t.1])):W (mS a lo c st b i) Q:=by unfold mS;rw[Â];show bH h λp q=>?_;obtain⟨d,v⟩:=p;obtain⟨l,e,g⟩:=q;dsimp only at e g ⊢;subst e;rw[Â];show bH g λs q=>?_;rw[Â];show bH q λr q=>?_;rw[Â];show bH q λt q=>?_;obtain⟨j,xs,n,o,u⟩:=q;rw[if_pos j];simp only[e8,n,Ē];rw[if_pos o];show À.mpr u
def Vx(h:W (ms g e) λp=>∃a xs,p.1=[.loc a]/\p.2[a]?=b0 (.lst xs)/\Q (sS<|.loc a,xs.length+1,p.2)):W (qR ms g e) Q:=by unfold qR;rw[Â];show bH h λp q=>?_;obtain⟨l,i⟩:=p;obtain⟨a,xs,b,c,d⟩:=q;dsimp only at b c d ⊢;subst b;dsimp only;simp only[e8,c,Ę];show À.mpr d
abbrev i6:Nat->List D->List D
 |_,[]=>[]|n,d::r=>.tup [.int n,d]::i6 (n+1) r
def xM:∀xs(n i:Nat),(i6 n xs)[i]?=(xs[i]?).map λd=>.tup [.int ((n+i:Nat):Int),d]
 |[],n,i=>by simp[i6]
 |d::r,n,0=>by simp[i6]
 |d::r,n,i+1=>by change(i6 (n+1) r)[i]?=_;rw[xM r (n+1) i,show n+1+i=n+(i+1) by lia];simp
def BF:∀xs n,(i6 n xs).length=xs.length
 |[],_=>rfl|d::r,n=>by rw[i6,ć,BF r,ć]
def Vy{b:Hm}(h:b[a]?=b0 (.lst xs)):∀μ' i,b<+:μ'->sS (.loc a) μ' i=b0 (i6 0 xs)[i]?:=λμ' i c=>by simp only[sS,bL,aJ c h,Ę,xM];congr 3;simp
def xN{o:eJ}(I:Nat->List D->Hm->Prop)(E:N<=Z7)(l:∀i g j,I i g j->g.length<=i)(go:∀i g j,i<N->I i g j->j[a]?=b0 (.lst g)->∃d x,o j i=b0 (b0 d)/\B d j=b0 x/\W (c (A++x) j) λr=>(r.1=dI->r.2[a]?=b0 (.lst g)/\I (i+1) g r.2) /\
   (r.1=eA->W (e (A++x) r.2) λs=>s.2[a]?=b0 (.lst g)/\I (i+1) (g++[s.1]) (s.2.set a<|.lst<|g++[s.1])))(n:∀g j,I N g j->j[a]?=b0 (.lst g)->o j N=b0 b5/\Q j):∀m i g j,i+m=N->I i g j->j[a]?=b0 (.lst g)->W (hZ o B c e A a (m+1) i j) Q
 |0,i,g,j,h,hI,hg=>by
  have:i=N:=by lia
  subst this;obtain⟨v,w⟩:=n g j hI hg;unfold hZ;rw[v];show À.mpr w
 |m+1,i,g,j,h,hI,hg=>by
  obtain⟨d,x,v,w,G⟩:=go i g j ⋯ hI hg;unfold hZ;rw[v];simp only[Ē,w];rw[Â];show bH G λr q=>?_;obtain⟨b,z⟩:=r;cases b with
  |false=>obtain⟨p,u⟩:=q.1 rfl;show xN I E l go n m (i+1) g z ⋯ u p|true=>dsimp only;rw[Â];show bH (q.2 rfl) λs q=>?_;obtain⟨y,H⟩:=s;obtain⟨p,u⟩:=q;dsimp only at p u ⊢;have K:=l i g j hI;rw[BA p<|by lia,Ē];show xN I E l go n m (i+1) _ _ ⋯ u ?_;rw[Ν (ZW.mp p).1]
def Vz{Q:jz}(hit:W (y g a) λr=>∃(N:Nat)(I:Nat->List D->Hm->Prop),r.2.1=N+1/\N<=Z7/\(∀i b a,I i b a->b.length<=i)/\I 0 [] (r.2.2++[.lst []]) /\
   (∀i b a,i<N->I i b a->a[r.2.2.length]?=b0 (.lst b)->∃d x,r.1 a i=b0 (b0 d)/\h d a=b0 x/\W (c (g++x) a) λp=>(p.1=dI->p.2[r.2.2.length]?=b0 (.lst b)/\I (i+1) b p.2) /\
    (p.1=eA->W (e (g++x) p.2) λs=>s.2[r.2.2.length]?=b0 (.lst b)/\I (i+1) (b++[s.1]) (s.2.set r.2.2.length<|.lst<|b++[s.1]))) /\
   (∀b a,I N b a->a[r.2.2.length]?=b0 (.lst b)->r.1 a N=b0 b5/\Q (.loc r.2.2.length,a))):W (eK h y c e g a) Q:=by
 unfold eK;rw[Â];show bH hit λr q=>?_;obtain⟨z,n,A⟩:=r;obtain⟨N,I,j,l,o,u,v,w⟩:=q;dsimp only at j l o u v w ⊢;subst j;rw[iC];show xN I l o v w N 0 [] _ ⋯ u<|by simp
def VA{z:eJ}{g:Hm}{xs:List D}{x:D->aF}(K:∀a i,g<+:a->z a i=b0 xs[i]?)(R:xs.length<=Z7)(N:∀d a,d∈xs->H d a=b0 (x d))(hc:∀d a,d∈xs->g<+:a->W (c (G++x d) a) λr=>r.1=p d/\a<+:r.2)(O:∀d a,d∈xs->p d=eA->g<+:a->W (e (G++x d) a) λr=>r.1=v d/\a<+:r.2)(fin:∀a,g<+:a->a[g.length]?=b0 (.lst<|(xs.filter p).map v)->Q a):W (hZ z H c e G g.length (xs.length+1) 0<|g++[.lst []]) Q:=by
 show xN (N:=xs.length) (λi A a=>A=((xs.take i).filter p).map v/\g<+:a) R ?_ ?_ ?_ xs.length 0 [] _ ⋯ ⟨by simp,aU _ _⟩<|by simp
 .rintro i A a ⟨rfl,_⟩;rw[ZT];show ė (bc _ _) ?_;rw[Ġ];lia
 .rintro i A a I ⟨rfl,l⟩ w;have L:xs[i]?=b0 xs[i]:=ZY I;have h:xs[i]∈xs:=Ŧ I;have j:xs.take (i+1)=xs.take i++[xs[i]]:=by rw[di,L];rfl
  show⟨xs[i],x xs[i],by rw[K a i l,L],N _ _ h,bH (hc _ a h l) λr q=>?_⟩;obtain⟨b,E⟩:=r;obtain⟨o,u⟩:=q;dsimp only at o u ⊢;show⟨λn=>⟨aJ u w,?_,l.trans u⟩,λn=>?_⟩
  .rw[j,nA];rw[n]at o;simp[<- o]
  .rw[n]at o;show bH (O _ E h o.symm<|l.trans u) λs q=>?_;obtain⟨y,T⟩:=s;obtain⟨M,B⟩:=q;dsimp only at M B ⊢;subst M;show⟨aJ (u.trans B) w,?_,cX ((l.trans u).trans B) (Z2 _) _⟩;rw[j,nA,ý];simp[<- o]
 .rintro A a ⟨rfl,l⟩ w;show⟨by rw[K a _ l];simp,fin a l ?_⟩;rw[š]at w;show w
def t7{xs:List D}{x:D->aF}{Q:jz}(hit:W (z b A) λr=>(∀a i,r.2.2<+:a->r.1 a i=b0 xs[i]?)/\r.2.1=xs.length+1/\xs.length<=Z7/\(∀d a,d∈xs->g d a=b0 (x d)) /\
   (∀d a,d∈xs->r.2.2<+:a->W (c (b++x d) a) λs=>s.1=p d/\a<+:s.2)/\(∀d a,d∈xs->p d=eA->r.2.2<+:a->W (e (b++x d) a) λs=>s.1=v d/\a<+:s.2) /\
   ∀a,r.2.2<+:a->a[r.2.2.length]?=b0 (.lst<|(xs.filter p).map v)->Q (.loc r.2.2.length,a)):W (eK g z c e b A) Q:=by
 unfold eK;rw[Â];show bH hit λr q=>?_;obtain⟨B,n,E⟩:=r;obtain⟨h,j,l,o,u,w,y⟩:=q;dsimp only at h j l o u w y ⊢;subst j;rw[iC];show VA h l o u w y
def Ü:W (d9 b a) Q↔Q (eA,a):=À
def ě{Q}:W (kI o i v a b) Q↔W (v a b) λp=>W (o a p.2) λq=>W (i a q.2) λr=>W (mT q.1 r.1 p.1 r.2) λμ'=>Q (.nx,a,μ'):=by unfold kI lR;simp only[Â,iC]
def VB(h:b[a]?=b0 (.lst xs))(c:gY xs.length i=b0 j):W (mT (.loc a) (.int i) d b) Q↔Q (b.set a<|.lst<|xs.set j d):=by simp only[mT,oR,h,c,Ę];show À
def VC(h:W (ms g d) λp=>∃a b xs c,p.1=[.loc a,.loc b]/\p.2[a]?=b0 (.lst xs)/\p.2[b]?=b0 (.lst c)/\Q (sY (.loc a)<|.loc b,min xs.length c.length+1,p.2)):W (sZ ms g d) Q:=by unfold sZ;rw[Â];show bH h λp q=>?_;obtain⟨a,b,xs,c,e,i,j,q⟩:=q;rw[e];simp only[e8,i,j,Ē,Ę];show À.mpr q
def BG k:cM (.tup<|k.map D.int)=b0 k:=BC k
def Ą{Q:jz}:W (lU ρ μ) Q↔Q (.loc μ.length,μ++[.dT []]):=À
def xO{kvs:jx}{Q:jz}(h:μ[a]?=b0 (.dT kvs))(b:cM y=b0 k)(c:aY kvs k=b0 d):W (aE (.loc a) y μ) Q↔Q (d,μ):=by simp only[aE,h,b,Ē,c,Ę];show À
def rG{kvs:jx}{Q:jz}(h:μ[a]?=b0 (.dT kvs))(c:cM y=b0 k):W (c3 b y (.loc a) μ) Q↔Q (.bl<|if b then !(aY kvs k).isSome else(aY kvs k).isSome,μ):=by
 have:c3 b y (.loc a) μ=b0 (.bl<|if b then !(aY kvs k).isSome else(aY kvs k).isSome,μ):=by simp only[c3,h,c,Ę]
 rw[this];show À
def t8(h:μ[a]?=b0 (.dT kvs))(b:cM y=b0 k)(c:kvs.length<Z7):W (mT (.loc a) y d μ) Q↔Q (μ.set a<|.dT<|bW kvs k d):=by simp only[mT,oS,h,b,Ē,if_pos c];show À
def VD{kvs:jx}{Q:jz}(h:μ[a]?=b0 (.dT kvs)):W (kP [.loc a] μ) Q↔Q (.loc μ.length,μ++[.lst<|kvs.map λk=>D.tup<|k.1.map D.int]):=by simp only[kP,h];show À
def HG{Q:jz}(h:μ[a]?=b0 (.lst xs)):W (kP [.loc a] μ) Q↔Q (.loc μ.length,μ++[.lst xs]):=by simp only[kP,h,sF,bL,Ę];show À
def VE{Q:jz}(h:b[a]?=b0 (.lst xs)):W (mV [.loc a] b) Q↔Q (.loc b.length,b++[.lst xs.reverse]):=by simp only[mV,h];show À
def VF(h:W (ms b a) λp=>∃i j c,p.1=[.int i,.int j,.int c]/\wD i j c=eA/\Q (AI i c (ϟ i j c).toNat,(ϟ i j c).toNat+1,p.2)):W (qT ms b a) Q:=by unfold qT;rw[Â];show bH h λp q=>?_;obtain⟨i,j,c,d,e,g⟩:=q;rw[d];dsimp only;rw[if_pos e];show À.mpr g
def VG(h:W (ms c b) λp=>∃a xs,p.1=[.loc a]/\p.2[a]?=b0 (.lst xs)/\Q (kK a xs.length,xs.length+1,p.2)):W (sU ms c b) Q:=by unfold sU;rw[Â];show bH h λp q=>?_;obtain⟨a,xs,d,e,g⟩:=q;rw[d];dsimp only;rw[e];show À.mpr g
end L3
namespace Lw
open PySem L2 L3
abbrev ds:List (Str×Stmt):=(("is_whole",aI 10)::("is_place",aI 11)::("is_corner",aI 12)::("is_edge",aI 13)::("is_quarter",aI 14)::("line_of",aI 15)::("beside",aI 16)::("sides_of",aI 17)::("moved_by",aI 18)::("edges_round",aI 19)::("number_by",aI 20)::("hand_of",aI 21)::("mirrored",aI 22)::("is_size",aI 25)::("check_size",aI 26)::("is_mark",aI 27)::("is_within",aI 28)::("places_within",aI 29)::("quarters_in",aI 30)::("edges_in",aI 31)::("corners_in",aI 32)::("is_inner_edge",aI 33)::("sheet_of",aI 34)::("marks_in",aI 35)::("is_good",aI 37)::("creases_at",aI 39)::("gaps_at",aI 40)::("barred",aI 41)::("check_corners",aI 42)::("tie_of",aI 44)::("is_least",aI 45)::("ties_of_gap",aI 46)::("ties_at",aI 47)::("ties",aI 48)::("walked_back",aI 51)::("steps_from",aI 52)::("is_marked",aI 53)::("marked_creases",aI 54)::("last_steps",aI 55)::("way_by",aI 56)::("is_alike",aI 57)::("back_by",aI 58)::("round_by_step",aI 59)::("round_within",aI 60)::("round_of",aI 61)::("carried_mark",aI 62)::("carried",aI 63)::("laying_by",aI 66)::("mirror_in",aI 67)::("led",aI 68)::("then",aI 69)::("_law_nth",aI 71)::("_law_folded",aI 72)::("_law_folds",aI 73)::("_law_gaps",aI 74)::("_law_star",aI 75)::("_law_creases",aI 76)::("_law_square",aI 77)::("_law_any_sheet",aI 78)::("_law_sheet",aI 79)::("_law_round_a",aI 80)::("_law_inner",aI 81)::("_law_barred",aI 82)::("_law_with",aI 85)::("law",aI 86)::[])
abbrev HH:D:=(.tup [(.tup [(.int 2),(.int 0)]),(.tup [(.int 1),(.int 1)]),(.tup [(.int 0),(.int 2)]),(.tup [(.int<|-1),(.int 1)]),(.tup [(.int<|-2),(.int 0)]),(.tup [(.int<|-1),(.int<|-1)]),(.tup [(.int 0),(.int<|-2)]),(.tup [(.int 1),(.int<|-1)])])
abbrev HI:D:=(.tup [(.tup [(.int 1),(.int 1)]),(.tup [(.int<|-1),(.int 1)]),(.tup [(.int<|-1),(.int<|-1)]),(.tup [(.int 1),(.int<|-1)])])
abbrev HJ:D:=(.tup [(.str "h"),(.str "v"),(.str "o")])
abbrev t9:List (aK×D):=[((.inr "h"),(.str "v")),((.inr "v"),(.str "h"))]
abbrev HK:D:=(.tup [(.int 1),(.int 0),(.int 0),(.int 1),(.int 0),(.int 0)])
abbrev S:ē:={fn:=(("is_whole",1)::("is_place",1)::("is_corner",1)::("is_edge",1)::("is_quarter",1)::("line_of",1)::("beside",1)::("sides_of",1)::("moved_by",2)::("edges_round",1)::("number_by",2)::("hand_of",2)::("mirrored",2)::("is_size",1)::("check_size",2)::("is_mark",1)::("is_within",3)::("places_within",2)::("quarters_in",2)::("edges_in",2)::("corners_in",2)::("is_inner_edge",3)::("sheet_of",3)::("marks_in",1)::("is_good",1)::("creases_at",2)::("gaps_at",2)::("barred",1)::("check_corners",1)::("tie_of",4)::("is_least",2)::("ties_of_gap",3)::("ties_at",2)::("ties",1)::("walked_back",1)::("steps_from",1)::("is_marked",1)::("marked_creases",1)::("last_steps",2)::("way_by",2)::("is_alike",1)::("back_by",1)::("round_by_step",2)::("round_within",3)::("round_of",1)::("carried_mark",3)::("carried",1)::("laying_by",3)::("mirror_in",1)::("led",2)::("then",2)::("_law_nth",2)::("_law_folded",3)::("_law_folds",3)::("_law_gaps",2)::("_law_star",2)::("_law_creases",3)::("_law_square",0)::("_law_any_sheet",2)::("_law_sheet",2)::("_law_round_a",2)::("_law_inner",1)::("_law_barred",1)::("_law_with",4)::("law",1)::[]),con:=[("EIGHT_EDGES",HH),("FOUR_EDGES",HI),("MARKS",HJ),("STILL",HK)],tab:=[("TURNED",t9)],no:=["all","bool","dict","enumerate","int","isinstance","len","list","max","min","range","reversed","sorted","str","sum","tuple","zip"],dIt:=["marks","reached"],dEq:=[],dMe:=[]}
@[irreducible] noncomputable def f(k:Nat)(x:Str):MF:=jO S ds k x
abbrev BH:MS:=bG (fR (aR<|aC (a8 dI) (aC aX (aA 2)<|mC<|.int 2)<|mC<|.int 0)<|aR<|aC (a8 dI) (aC aX (aA 2)<|mC<|.int 4)<|aC aX (aA 3)<|mC<|.int 4) (cV<|c4 e6 (aA 1)<|aB (aW<|aB (aA 2)<|aB (aA 3) aD) aD) bI
abbrev BI:MS:=aH (aM 7<|aC bA (aC aX (aC cW (aC cW (aC aE (aA 5)<|aC aX (aC bA (aA 3)<|mC<|.int 1)<|aG bX<|aB (aA 5) aD)<|aC aE (aA 5)<|aA 3)<|mC<|.int 1)<|aG bX<|aB (aA 4) aD)<|mC<|.int 1)<|cV<|c4 e6 (aA 6)<|aB (aC cB (aA 7)<|aC cS (mC<|.int 8)<|aG bX<|aB (aA 4) aD) aD
abbrev BJ(k:Nat):MS:=aH (aM 3<|aC aE (aG (f k "_law_round_a")<|aB (aA 1)<|aB (aA 2) aD)<|mC<|.int 1)<|bG (iM (aR<|aC (a8 dI) (aC aX (aG bX<|aB (aA 3) aD)<|mC<|.int 2)<|mC<|.int 1)<|aR<|aC (a8 eA) (aG jL<|aB (eK (jZ 2) (qR<|aB (aA 3) aD) d9<|aC cB (aA 5)<|aC cW (mC<|.int 1)<|aC cB (mC<|.int 2)<|aC aX (aA 4)<|mC<|.int 2) aD)<|mC<|.int 0) (aN<|aA 2) bI
abbrev BK(k:Nat):MS:=aH (bG (aR<|aC (a8 dI) (aG (f k "hand_of")<|aB (aG (f k "led")<|aB (aA 5)<|aB (aA 4) aD)<|aB (aA 1) aD)<|aA 2) (aM 5<|aG (f k "then")<|aB (aA 5)<|aB (aG (f k "mirror_in")<|aB (aA 1) aD) aD) bI)<|kI (aA 3) (aA 4)<|aA 5
abbrev BL(k:Nat):MS:=aH (aM 7<|aG (f k "_law_nth")<|aB (aA 0)<|aB (aC bA (aC bA (aA 1)<|mC<|.int 1)<|aA 6) aD)<|aH (aM 8<|aC aE (aA 5)<|aC aX (aC cS (aA 7)<|mC<|.int 2)<|aG bX<|aB (aA 5) aD)<|aH (aM 8<|aG (f k "led")<|aB (aC aE (aA 3)<|aC aE (aG (f k "sides_of")<|aB (aA 8) aD)<|mC<|.int 0)<|aB (aA 8) aD)<|aM 3<|aG (f k "_law_folded")<|aB (aA 3)<|aB (aA 8)<|aB (aC cW (mC<|.int 1)<|aC cB (mC<|.int 2)<|aC aX (aA 7)<|mC<|.int 2) aD
abbrev BM:MS:=cV<|c4 lJ (aA 5)<|aB (bU<|aB (aC aE (aA 4)<|aC bA (aA 2)<|aA 6)<|aB (aC aE (aA 4)<|aC bA (aA 3)<|aA 6) aD) aD
abbrev HL:MT:=fR (aR<|gG dB dB (mC<|.int 0) (aA 10)<|aC cB (mC<|.int 4)<|aC aE (aA 0)<|mC<|.int 0)<|aR<|gG dB dB (mC<|.int 0) (aA 11)<|aC cB (mC<|.int 4)<|aC aE (aA 0)<|mC<|.int 1
abbrev HM:MS:=aH (cV<|c4 e6 (aA 5)<|aB (aW<|aB (aC bA (aA 10)<|aA 8)<|aB (aC bA (aA 11)<|aA 9) aD) aD)<|aH (aM 10<|aC bA (aA 10)<|aC cB (mC<|.int 2)<|aA 8)<|aM 11<|aC bA (aA 11)<|aC cB (mC<|.int 2)<|aA 9
abbrev xP:MS:=aH (oE (aC aE (aA 2)<|aC aX (aA 6)<|mC<|.int 8)<|j6 [8,9])<|aH (oE (aA 4)<|j6 [10,11])<|aH (mP nE HL HM)<|aM 6<|aC bA (aA 6)<|aA 7
abbrev HN:MS:=bG (aR<|aC (c3 eA) (aA 6)<|aA 4) (cV<|c4 e6 (aA 4)<|aB (aA 6) aD) bI
abbrev HP(k:Nat):MS:=cD (b8<|aG (f k "_law_star")<|aB (aA 2)<|aB (aG (f k "_law_nth")<|aB (aA 0)<|aB (aC bA (aC bA (aA 1)<|mC<|.int 1)<|aA 5) aD) aD) (cC 6) HN
abbrev BN(k:Nat):MS:=aH (aM 5<|aC aE (aA 4)<|mC<|.int 0)<|aH (bG (iN<|c8<|aG (f k "is_inner_edge")<|aB (aA 0)<|aB (aA 1)<|aB (aA 5) aD) dH bI)<|aH (bG (iN<|c8<|aG (f k "is_mark")<|aB (aC aE (aA 4)<|mC<|.int 1) aD) dH bI)<|aH (bG (aR<|aC (c3 dI) (aA 5)<|aA 3) dH bI)<|kI (aA 3) (aA 5)<|aC aE (aA 4)<|mC<|.int 1
abbrev HQ:MS:=aH (aM 9<|aC aX (aC cS (aA 7)<|mC<|.int 16)<|aC aE (bU<|aB (mC<|.int 3)<|aB (mC<|.int 4)<|aB (mC<|.int 8) aD)<|aC aX (aA 7)<|mC<|.int 3)<|aH (cV<|c4 e6 (aA 8)<|aB (aW<|aB (aA 6)<|aB (aC aE (bU<|aB (mC<|.str "o")<|aB (mC<|.str "o")<|aB (mC<|.str "h")<|aB (mC<|.str "v")<|aB (mC<|.str "o")<|aB (mC<|.str "o")<|aB (mC<|.str "o")<|aB (mC<|.str "o") aD)<|aA 9) aD) aD)<|aM 7<|aC aX (aC bA (aC cB (aA 7)<|mC<|.int 48271)<|mC<|.int 11)<|mC<|.int 1000003
abbrev HR(k:Nat):MS:=aH (aM 7<|aC aX (aG (f k "_law_nth")<|aB (aA 0)<|aB (aC bA (aA 1)<|mC<|.int 6) aD)<|mC<|.int 1000003)<|aH (aM 8<|bU aD)<|aH (cD (b8<|aA 4) (cC 6) HQ)<|aN<|aG (f k "sheet_of")<|aB (aC aE (aA 3)<|mC<|.int 0)<|aB (aC aE (aA 3)<|mC<|.int 1)<|aB (aA 8) aD
abbrev HS:MS:=bG (aR<|aC (c3 dI) (aA 6)<|aA 4) (cV<|c4 qX (aA 4)<|aB (aA 6) aD)<|cV<|c4 e6 (aA 4)<|aB (aA 6) aD
abbrev BO(k:Nat):MS:=aH (aM 5<|aG (f k "edges_in")<|aB (aC aE (aA 3)<|mC<|.int 0)<|aB (aC aE (aA 3)<|mC<|.int 1) aD)<|aH (bG (aR<|aC (a8 dI) (aC aX (aC cS (aA 2)<|mC<|.int 324)<|mC<|.int 4)<|mC<|.int 1) (aH (aM 6<|aC aE (aA 5)<|aC aX (aC cS (aA 2)<|mC<|.int 1296)<|aG bX<|aB (aA 5) aD) HS) bI)<|HR k
abbrev BP:MS:=aH (bG (aR<|aC k9 (aC aX (aA 0)<|mC<|.int 4)<|mC<|.int 0) (cV<|c4 e6 (aA 3)<|aB (aW<|aB (aA 4)<|aB (aC aE (mC<|.str " ohv")<|aC aX (aA 0)<|mC<|.int 4) aD) aD) bI)<|aM 0<|aC cS (aA 0)<|mC<|.int 4
abbrev BQ:MS:=bG (aR<|aC (c3 eA) (aC aE (aA 6)<|mC<|.int 1)<|aA 2) (aH (kI (aA 2) (aC aE (aA 6)<|mC<|.int 1)<|aA 6)<|cV<|c4 e6 (aA 4)<|aB (aC aE (aA 6)<|mC<|.int 1) aD) bI
abbrev BR:MS:=aH (aM 5<|c4 oK (aA 4)<|aB (mC<|.int 0) aD)<|cD (b8<|iX iB (aA 0)<|aB (aA 5)<|aB (bU aD) aD) (cC 6) BQ
abbrev HU(k:Nat):MS:=aH (aM 7<|aG (f k "round_by_step")<|aB (aA 3)<|aB (aA 6) aD)<|bG (iN<|c8<|aG (f k "is_alike")<|aB (aA 7) aD) (aN<|aA 7) bI
abbrev HV(k:Nat):MT:=fR (c8<|aG (f k "is_marked")<|aB (aC aE (aA 1)<|aA 4) aD)<|fR (c8<|aG (f k "is_marked")<|aB (aC aE (aA 1)<|aA 2) aD)<|aR<|aC (a8 eA) (aG (f k "is_alike")<|aB (aA 5) aD)<|aC (a8 dI) (aC aE (aA 1)<|aA 4)<|aC aE (aA 1)<|aA 2
abbrev BS(k:Nat):MS:=aH (aM 5<|aG (f k "way_by")<|aB (aA 3)<|aB (aA 4) aD)<|aH (bG (HV k) (aN<|aA 5) bI)<|cD (b8<|iX iB (aA 0)<|aB (aA 4)<|aB (bU aD) aD) (cC 6)<|HU k
abbrev BU(k:Nat):MS:=bG (aR<|aC (c3 eA) (aA 4)<|aA 3) (aH (aM 5<|aG (f k "round_within")<|aB (aA 1)<|aB (aA 2)<|aB (aA 4) aD)<|aH (bG (aR<|aC (fA eA) (aA 5)<|mC .non) (aN<|aA 5) bI)<|cV<|iX qZ (aA 3)<|aB (aG (f k "last_steps")<|aB (aA 1)<|aB (bU<|aB (aA 4) aD) aD) aD) bI
abbrev HW(k:Nat):MS:=bG (aR<|aC (fA eA) (aG (f k "round_of")<|aB (aG (f k "_law_with")<|aB (aA 1)<|aB (aA 2)<|aB (aA 4)<|aB (aA 5) aD) aD)<|mC .non) (aN<|mC<|.bl dI) bI
abbrev HX(k:Nat):MS:=aH (bG (aR<|aC (a8 dI) (aC aE (aC aE (aA 2)<|aA 4)<|mC<|.int 1)<|mC<|.str "o") (aH (cD (b8<|mC<|.str "hv") (cC 5)<|HW k)<|aN<|mC<|.bl eA) bI)<|aH (aM 6<|aC aE (oG [((mC<|.str "h"),(mC<|.str "v")),((mC<|.str "v"),(mC<|.str "h"))])<|aC aE (aC aE (aA 2)<|aA 4)<|mC<|.int 1)<|aH (bG (aR<|aC (a8 eA) (aC aE (aC aE (aC aE (aA 1)<|mC<|.int 2)<|aA 4)<|mC<|.int 1)<|mC<|.str "o") (aN<|mC<|.bl eA) bI)<|aH (aM 7<|aG (f k "round_of")<|aB (aG (f k "_law_with")<|aB (aA 1)<|aB (aA 2)<|aB (aA 4)<|aB (aA 6) aD) aD)<|aN<|d7 (aG hG<|aB (aA 7)<|aB (mC<|.ty "list") aD)<|aC (a8 eA) (aA 7)<|bU aD
def HY k d0 a:f (k+1) "is_whole" [d0] a=fin ((aN<|d7 (aG hG<|aB (aA 0)<|aB (mC<|.ty "int") aD)<|pT<|aG hG<|aB (aA 0)<|aB (mC<|.ty "bool") aD) [b0 d0] a):=by kernel_rfl
def VH k d0 a:f (k+1) "is_place" [d0] a=fin ((aN<|d7 (aG hG<|aB (aA 0)<|aB (mC<|.ty "tuple") aD)<|d7 (aC (a8 dI) (aG bX<|aB (aA 0) aD)<|mC<|.int 2)<|d7 (aG (f k "is_whole")<|aB (aC aE (aA 0)<|mC<|.int 0) aD)<|aG (f k "is_whole")<|aB (aC aE (aA 0)<|mC<|.int 1) aD) [b0 d0] a):=by kernel_rfl
def VI k d0 a:f (k+1) "is_corner" [d0] a=fin ((aN<|d7 (aC (a8 dI) (aC aX (aC aE (aA 0)<|mC<|.int 0)<|mC<|.int 2)<|mC<|.int 0)<|aC (a8 dI) (aC aX (aC aE (aA 0)<|mC<|.int 0)<|mC<|.int 4)<|aC aX (aC aE (aA 0)<|mC<|.int 1)<|mC<|.int 4) [b0 d0] a):=by kernel_rfl
def VJ k d0 a:f (k+1) "is_edge" [d0] a=fin ((aH (bG (aR<|aC (a8 dI) (aC aX (aC aE (aA 0)<|mC<|.int 0)<|mC<|.int 2)<|mC<|.int 1) (aN<|aC (a8 dI) (aC aX (aC aE (aA 0)<|mC<|.int 1)<|mC<|.int 2)<|mC<|.int 1) bI)<|aN<|d7 (aC (a8 dI) (aC aX (aC aE (aA 0)<|mC<|.int 1)<|mC<|.int 2)<|mC<|.int 0)<|aC (a8 eA) (aC aX (aC aE (aA 0)<|mC<|.int 0)<|mC<|.int 4)<|aC aX (aC aE (aA 0)<|mC<|.int 1)<|mC<|.int 4) [b0 d0] a):=by kernel_rfl
def VL k d0 a:f (k+1) "is_quarter" [d0] a=fin ((aH (bG (aR<|aC (a8 dI) (aC aX (aC aE (aA 0)<|mC<|.int 0)<|mC<|.int 2)<|mC<|.int 1) (aN<|aC (a8 dI) (aC aX (aC aE (aA 0)<|mC<|.int 1)<|mC<|.int 4)<|mC<|.int 2) bI)<|aN<|d7 (aC (a8 dI) (aC aX (aC aE (aA 0)<|mC<|.int 0)<|mC<|.int 4)<|mC<|.int 2)<|aC (a8 dI) (aC aX (aC aE (aA 0)<|mC<|.int 1)<|mC<|.int 2)<|mC<|.int 1) [b0 d0] a):=by kernel_rfl
def VM k d0 a:f (k+1) "line_of" [d0] a=fin ((aH (bG (aR<|aC (a8 dI) (aC aX (aC aE (aA 0)<|mC<|.int 0)<|mC<|.int 2)<|mC<|.int 1) (aN<|gN (aR<|aC (a8 dI) (aC aX (aC aE (aA 0)<|mC<|.int 0)<|mC<|.int 4)<|aC aX (aC aE (aA 0)<|mC<|.int 1)<|mC<|.int 4) (mC<|.str "falling")<|mC<|.str "rising") bI)<|aN<|gN (aR<|aC (a8 dI) (aC aX (aC aE (aA 0)<|mC<|.int 1)<|mC<|.int 4)<|mC<|.int 0) (mC<|.str "level")<|mC<|.str "upright") [b0 d0] a):=by kernel_rfl
def VN k d0 a:f (k+1) "beside" [d0] a=fin ((aH (aM 1<|aC aE (aA 0)<|mC<|.int 0)<|aH (aM 2<|aC aE (aA 0)<|mC<|.int 1)<|aN<|bU<|aB (aW<|aB (aC cW (aA 1)<|mC<|.int 1)<|aB (aA 2) aD)<|aB (aW<|aB (aA 1)<|aB (aC cW (aA 2)<|mC<|.int 1) aD)<|aB (aW<|aB (aA 1)<|aB (aC bA (aA 2)<|mC<|.int 1) aD)<|aB (aW<|aB (aC bA (aA 1)<|mC<|.int 1)<|aB (aA 2) aD) aD) [b0 d0,b5,b5] a):=by kernel_rfl
def VO k d0 a:f (k+1) "sides_of" [d0] a=fin ((aN<|dR (b8<|aG (f k "beside")<|aB (aA 0) aD) (c8<|aG (f k "is_quarter")<|aB (aA 1) aD)<|aA 1) [b0 d0] a):=by kernel_rfl
def VP k d0 d1 a:f (k+1) "moved_by" [d0,d1] a=fin ((aN<|dR (b8<|aA 1) d9<|aW<|aB (aC bA (aC aE (aA 0)<|mC<|.int 0)<|aC aE (aA 2)<|mC<|.int 0)<|aB (aC bA (aC aE (aA 0)<|mC<|.int 1)<|aC aE (aA 2)<|mC<|.int 1) aD) [b0 d0,b0 d1] a):=by kernel_rfl
def VQ k d0 a:f (k+1) "edges_round" [d0] a=fin ((aN<|aG (f k "moved_by")<|aB (aA 0)<|aB (gN (aR<|aC (a8 dI) (aC aX (aC aE (aA 0)<|mC<|.int 0)<|mC<|.int 4)<|mC<|.int 0) (mC HH)<|mC HI) aD) [b0 d0] a):=by kernel_rfl
def VR k d0 d1 a:f (k+1) "number_by" [d0,d1] a=fin ((aH (bG (aR<|aC (a8 dI) (aA 0)<|mC<|.str "level") (aN<|aC aE (aA 1)<|mC<|.int 1) bI)<|aH (bG (aR<|aC (a8 dI) (aA 0)<|mC<|.str "upright") (aN<|aC aE (aA 1)<|mC<|.int 0) bI)<|aH (bG (aR<|aC (a8 dI) (aA 0)<|mC<|.str "falling") (aN<|aC cW (aC aE (aA 1)<|mC<|.int 0)<|aC aE (aA 1)<|mC<|.int 1) bI)<|aN<|aC bA (aC aE (aA 1)<|mC<|.int 0)<|aC aE (aA 1)<|mC<|.int 1) [b0 d0,b0 d1] a):=by kernel_rfl
def VS k d0 d1 a:f (k+1) "hand_of" [d0,d1] a=fin ((aH (aM 2<|aG (f k "line_of")<|aB (aA 1) aD)<|aH (aM 3<|aC cW (aG (f k "number_by")<|aB (aA 2)<|aB (aA 0) aD)<|aG (f k "number_by")<|aB (aA 2)<|aB (aA 1) aD)<|aH (bG (aR<|aC k9 (aA 3)<|mC<|.int 0) (aN<|mC<|.int 1) bI)<|aN<|gN (aR<|aC dB (aA 3)<|mC<|.int 0) (fT<|mC<|.int 1)<|mC<|.int 0) [b0 d0,b0 d1,b5,b5] a):=by kernel_rfl
def VT k d0 d1 a:f (k+1) "mirrored" [d0,d1] a=fin ((aH (aM 2<|aC aE (aA 0)<|mC<|.int 0)<|aH (aM 3<|aC aE (aA 0)<|mC<|.int 1)<|aH (aM 4<|aG (f k "line_of")<|aB (aA 1) aD)<|aH (aM 5<|aG (f k "number_by")<|aB (aA 4)<|aB (aA 1) aD)<|aH (bG (aR<|aC (a8 dI) (aA 4)<|mC<|.str "level") (aN<|aW<|aB (aA 2)<|aB (aC cW (aC cB (mC<|.int 2)<|aA 5)<|aA 3) aD) bI)<|aH (bG (aR<|aC (a8 dI) (aA 4)<|mC<|.str "upright") (aN<|aW<|aB (aC cW (aC cB (mC<|.int 2)<|aA 5)<|aA 2)<|aB (aA 3) aD) bI)<|aH (bG (aR<|aC (a8 dI) (aA 4)<|mC<|.str "falling") (aN<|aW<|aB (aC bA (aA 3)<|aA 5)<|aB (aC cW (aA 2)<|aA 5) aD) bI)<|aN<|aW<|aB (aC cW (aA 5)<|aA 3)<|aB (aC cW (aA 5)<|aA 2) aD) [b0 d0,b0 d1,b5,b5,b5,b5] a):=by kernel_rfl
def VU k d0 a:f (k+1) "is_size" [d0] a=fin ((aN<|d7 (aG (f k "is_whole")<|aB (aA 0) aD)<|gG pX pX (mC<|.int 1) (aA 0)<|mC<|.int 6) [b0 d0] a):=by kernel_rfl
def VW k d0 d1 a:f (k+1) "check_size" [d0,d1] a=fin ((bG (iN<|fR (c8<|aG (f k "is_size")<|aB (aA 0) aD)<|c8<|aG (f k "is_size")<|aB (aA 1) aD) dH bI) [b0 d0,b0 d1] a):=by kernel_rfl
def BV k d0 a:f (k+1) "is_mark" [d0] a=fin ((aN<|d7 (aG hG<|aB (aA 0)<|aB (mC<|.ty "str") aD)<|aC (c3 dI) (aA 0)<|mC HJ) [b0 d0] a):=by kernel_rfl
def VX k d0 d1 d2 a:f (k+1) "is_within" [d0,d1,d2] a=fin ((aN<|d7 (gG dB dB (mC<|.int 0) (aC aE (aA 2)<|mC<|.int 0)<|aC cB (mC<|.int 4)<|aA 0)<|gG dB dB (mC<|.int 0) (aC aE (aA 2)<|mC<|.int 1)<|aC cB (mC<|.int 4)<|aA 1) [b0 d0,b0 d1,b0 d2] a):=by kernel_rfl
def VY k d0 d1 a:f (k+1) "places_within" [d0,d1] a=fin ((aH (aM 2<|bU aD)<|aH (cD (mN<|aB (mC<|.int 1)<|aB (aC cB (mC<|.int 4)<|aA 0) aD) (cC 3)<|cV<|c4 lJ (aA 2)<|aB (dR (mN<|aB (mC<|.int 1)<|aB (aC cB (mC<|.int 4)<|aA 1) aD) d9<|aW<|aB (aA 3)<|aB (aA 4) aD) aD)<|aN<|aA 2) [b0 d0,b0 d1,b5,b5] a):=by kernel_rfl
def VZ k d0 d1 a:f (k+1) "quarters_in" [d0,d1] a=fin ((aN<|dR (b8<|aG (f k "places_within")<|aB (aA 0)<|aB (aA 1) aD) (c8<|aG (f k "is_quarter")<|aB (aA 2) aD)<|aA 2) [b0 d0,b0 d1] a):=by kernel_rfl
def V0 k d0 d1 a:f (k+1) "edges_in" [d0,d1] a=fin ((aN<|dR (b8<|aG (f k "places_within")<|aB (aA 0)<|aB (aA 1) aD) (c8<|aG (f k "is_edge")<|aB (aA 2) aD)<|aA 2) [b0 d0,b0 d1] a):=by kernel_rfl
def V1 k d0 d1 a:f (k+1) "corners_in" [d0,d1] a=fin ((aN<|dR (b8<|aG (f k "places_within")<|aB (aA 0)<|aB (aA 1) aD) (c8<|aG (f k "is_corner")<|aB (aA 2) aD)<|aA 2) [b0 d0,b0 d1] a):=by kernel_rfl
def V2 k d0 d1 d2 a:f (k+1) "is_inner_edge" [d0,d1,d2] a=fin ((aN<|d7 (aG (f k "is_place")<|aB (aA 2) aD)<|d7 (aG (f k "is_within")<|aB (aA 0)<|aB (aA 1)<|aB (aA 2) aD)<|aG (f k "is_edge")<|aB (aA 2) aD) [b0 d0,b0 d1,b0 d2] a):=by kernel_rfl
def V3 k d0 d1 d2 a:f (k+1) "sheet_of" [d0,d1,d2] a=fin ((aH (cV<|aG (f k "check_size")<|aB (aA 0)<|aB (aA 1) aD)<|aH (aM 3 lU)<|aH (cD (b8<|aA 2) (cC 4)<|BN k)<|aN<|aW<|aB (aA 0)<|aB (aA 1)<|aB (wW<|aA 3) aD) [b0 d0,b0 d1,b0 d2,b5,b5,b5] a):=by kernel_rfl
def HZ k d0 a:f (k+1) "marks_in" [d0] a=fin ((aN<|aG oX<|aB (aC aE (aA 0)<|mC<|.int 2) aD) [b0 d0] a):=by kernel_rfl
def V4 k d0 a:f (k+1) "is_good" [d0] a=fin ((aH (bG (iM (aR<|aC k9 (aG bX<|aB (aA 0) aD)<|mC<|.int 8)<|aR<|aC (a8 dI) (aC aX (aG bX<|aB (aA 0) aD)<|mC<|.int 2)<|mC<|.int 1) (aN<|mC<|.bl dI) bI)<|aH (bG (iN<|c8<|aG vY<|aB (dR (b8<|aA 0) d9<|d7 (aG (f k "is_whole")<|aB (aA 1) aD)<|aC sD (aA 1)<|mC<|.int 1) aD) (aN<|mC<|.bl dI) bI)<|aN<|aC (a8 dI) (aG jL<|aB (mS (aA 0) jE jE<|jF<|mC<|.int 2) aD)<|aG jL<|aB (mS (aA 0) (jF<|mC<|.int 1) jE<|jF<|mC<|.int 2) aD) [b0 d0] a):=by kernel_rfl
def V5 k d0 d1 a:f (k+1) "creases_at" [d0,d1] a=fin ((aH (aM 2<|aG (f k "marks_in")<|aB (aA 0) aD)<|aN<|dR (b8<|aG (f k "edges_round")<|aB (aA 1) aD) (aR<|aC (c3 dI) (aA 3)<|aA 2)<|aA 3) [b0 d0,b0 d1,b5] a):=by kernel_rfl
def V6 k d0 d1 a:f (k+1) "gaps_at" [d0,d1] a=fin ((aH (aM 2<|aG (f k "edges_round")<|aB (aA 1) aD)<|aH (aM 3<|aG (f k "creases_at")<|aB (aA 0)<|aB (aA 1) aD)<|aH (aM 4<|dR (b8<|aA 3) d9<|c4 qS (aA 2)<|aB (aA 7) aD)<|aH (aM 5<|aC bA (oA (aA 4) (jF<|mC<|.int 1) jE)<|dR (b8<|oA (aA 4) jE<|jF<|mC<|.int 1) d9<|aC bA (aA 7)<|aG bX<|aB (aA 2) aD)<|aH (aM 6<|aC cS (mC<|.int 8)<|aG bX<|aB (aA 2) aD)<|aN<|eK (jZ 2) (sZ<|aB (aA 4)<|aB (aA 5) aD) d9<|aC cB (aC cW (aA 8)<|aA 7)<|aA 6) [b0 d0,b0 d1,b5,b5,b5,b5,b5] a):=by kernel_rfl
def V7 k d0 a:f (k+1) "barred" [d0] a=fin ((aH (cD (b8<|aG (f k "corners_in")<|aB (aC aE (aA 0)<|mC<|.int 0)<|aB (aC aE (aA 0)<|mC<|.int 1) aD) (cC 1)<|bG (iN<|c8<|aG (f k "is_good")<|aB (aG (f k "gaps_at")<|aB (aA 0)<|aB (aA 1) aD) aD) (aN<|aA 1) bI)<|aN<|mC .non) [b0 d0,b5] a):=by kernel_rfl
def V8 k d0 a:f (k+1) "check_corners" [d0] a=fin ((aH (aM 1<|aG (f k "barred")<|aB (aA 0) aD)<|bG (aR<|aC (fA eA) (aA 1)<|mC .non) dH bI) [b0 d0,b5] a):=by kernel_rfl
def V9 k d0 d1 d2 d3 a:f (k+1) "tie_of" [d0,d1,d2,d3] a=fin ((aN<|aW<|aB (aG AW<|aB (aA 0)<|aB (aA 1) aD)<|aB (aG AX<|aB (aA 0)<|aB (aA 1) aD)<|aB (aA 2)<|aB (aA 3) aD) [b0 d0,b0 d1,b0 d2,b0 d3] a):=by kernel_rfl
def Wa k d0 d1 a:f (k+1) "is_least" [d0,d1] a=fin ((aN<|d7 (aC dB (aC aE (aA 0)<|aA 1)<|aC aE (aA 0)<|aC cW (aA 1)<|mC<|.int 1)<|aC dB (aC aE (aA 0)<|aA 1)<|aC aE (aA 0)<|aC aX (aC bA (aA 1)<|mC<|.int 1)<|aG bX<|aB (aA 0) aD) [b0 d0,b0 d1] a):=by kernel_rfl
def Wb k d0 d1 d2 a:f (k+1) "ties_of_gap" [d0,d1,d2] a=fin ((aH (aM 3<|aG bX<|aB (aA 0) aD)<|aH (aM 4<|bU<|aB (aG (f k "tie_of")<|aB (aC aE (aA 0)<|aA 1)<|aB (aC aE (aA 0)<|aC aX (aC bA (aA 1)<|mC<|.int 1)<|aA 3)<|aB (mC<|.bl dI)<|aB (aA 2) aD) aD)<|aH (bG (aR<|aC (a8 dI) (aA 3)<|mC<|.int 4) (cV<|c4 e6 (aA 4)<|aB (aG (f k "tie_of")<|aB (aC aE (aA 0)<|aC aX (aC bA (aA 1)<|mC<|.int 2)<|mC<|.int 4)<|aB (aC aE (aA 0)<|aC aX (aC bA (aA 1)<|mC<|.int 3)<|mC<|.int 4)<|aB (mC<|.bl eA)<|aB (aA 2) aD) aD) bI)<|aN<|aA 4) [b0 d0,b0 d1,b0 d2,b5,b5] a):=by kernel_rfl
def Wc k d0 d1 a:f (k+1) "ties_at" [d0,d1] a=fin ((aH (aM 2<|aG (f k "creases_at")<|aB (aA 0)<|aB (aA 1) aD)<|aH (aM 3<|aG (f k "gaps_at")<|aB (aA 0)<|aB (aA 1) aD)<|aH (bG (aR<|aC (a8 dI) (aG bX<|aB (aA 2) aD)<|mC<|.int 2) (aN<|bU<|aB (aG (f k "tie_of")<|aB (aC aE (aA 2)<|mC<|.int 0)<|aB (aC aE (aA 2)<|mC<|.int 1)<|aB (mC<|.bl eA)<|aB (aA 1) aD) aD) bI)<|aH (aM 4<|bU aD)<|aH (cD (iT<|aB (aG bX<|aB (aA 2) aD) aD) (cC 5)<|bG (c8<|aG (f k "is_least")<|aB (aA 3)<|aB (aA 5) aD) (cV<|c4 lJ (aA 4)<|aB (aG (f k "ties_of_gap")<|aB (aA 2)<|aB (aA 5)<|aB (aA 1) aD) aD) bI)<|aN<|aA 4) [b0 d0,b0 d1,b5,b5,b5,b5] a):=by kernel_rfl
def We k d0 a:f (k+1) "ties" [d0] a=fin ((aH (cV<|aG (f k "check_corners")<|aB (aA 0) aD)<|aH (aM 1<|bU aD)<|aH (cD (b8<|aG (f k "corners_in")<|aB (aC aE (aA 0)<|mC<|.int 0)<|aB (aC aE (aA 0)<|mC<|.int 1) aD) (cC 2)<|cV<|c4 lJ (aA 1)<|aB (aG (f k "ties_at")<|aB (aA 0)<|aB (aA 2) aD) aD)<|aN<|aG qY<|aB (aA 1) aD) [b0 d0,b5,b5] a):=by kernel_rfl
def Wf k d0 a:f (k+1) "walked_back" [d0] a=fin ((aN<|aW<|aB (aC aE (aA 0)<|mC<|.int 1)<|aB (aC aE (aA 0)<|mC<|.int 0)<|aB (aC aE (aA 0)<|mC<|.int 2)<|aB (aC aE (aA 0)<|mC<|.int 3) aD) [b0 d0] a):=by kernel_rfl
def Wg k d0 a:f (k+1) "steps_from" [d0] a=fin ((aH (aM 1 lU)<|aH (cD (b8<|aG (f k "ties")<|aB (aA 0) aD) (cC 2)<|aH (cV<|c4 e6 (iX kM (aA 1)<|aB (aC aE (aA 2)<|mC<|.int 0)<|aB (bU aD) aD)<|aB (aA 2) aD)<|cV<|c4 e6 (iX kM (aA 1)<|aB (aC aE (aA 2)<|mC<|.int 1)<|aB (bU aD) aD)<|aB (aG (f k "walked_back")<|aB (aA 2) aD) aD)<|aN<|aA 1) [b0 d0,b5,b5] a):=by kernel_rfl
def Wh k d0 a:f (k+1) "is_marked" [d0] a=fin ((aN<|Af t9<|aA 0) [b0 d0] a):=by kernel_rfl
def Wi k d0 a:f (k+1) "marked_creases" [d0] a=fin ((aN<|eK (jZ 2) (b8<|aC aE (aA 0)<|mC<|.int 2) (c8<|aG (f k "is_marked")<|aB (aA 2) aD)<|aA 1) [b0 d0] a):=by kernel_rfl
def Wj k d0 d1 a:f (k+1) "last_steps" [d0,d1] a=fin ((aH (aM 2 lU)<|aH (cD (b8<|aA 1) (cC 3)<|kI (aA 2) (aA 3)<|mC .non)<|aH (aM 4<|aG kP<|aB (aA 1) aD)<|aH (mP nE (c8<|aA 4) BR)<|aN<|aA 2) [b0 d0,b0 d1,b5,b5,b5,b5,b5] a):=by kernel_rfl
def Wl k d0 d1 a:f (k+1) "way_by" [d0,d1] a=fin ((aH (aM 2<|bU aD)<|aH (aM 3<|aC aE (aA 0)<|aA 1)<|aH (mP nE (aR<|aC (fA eA) (aA 3)<|mC .non)<|aH (cV<|c4 e6 (aA 2)<|aB (aA 3) aD)<|aM 3<|aC aE (aA 0)<|aC aE (aA 3)<|mC<|.int 0)<|aN<|aG mV<|aB (aA 2) aD) [b0 d0,b0 d1,b5,b5] a):=by kernel_rfl
def Wm k d0 a:f (k+1) "is_alike" [d0] a=fin ((aN<|aC (a8 dI) (aC aX (aG bX<|aB (dR (b8<|aA 0) (iN<|c8<|aC aE (aA 1)<|mC<|.int 2)<|aA 1) aD)<|mC<|.int 2)<|mC<|.int 0) [b0 d0] a):=by kernel_rfl
def Wn k d0 a:f (k+1) "back_by" [d0] a=fin ((aN<|dR (sU<|aB (aA 0) aD) d9<|aG (f k "walked_back")<|aB (aA 1) aD) [b0 d0] a):=by kernel_rfl
def Wo k d0 d1 a:f (k+1) "round_by_step" [d0,d1] a=fin ((aN<|aC bA (aC bA (aG (f k "way_by")<|aB (aA 0)<|aB (aC aE (aA 1)<|mC<|.int 0) aD)<|bU<|aB (aA 1) aD)<|aG (f k "back_by")<|aB (aG (f k "way_by")<|aB (aA 0)<|aB (aC aE (aA 1)<|mC<|.int 1) aD) aD) [b0 d0,b0 d1] a):=by kernel_rfl
def Wq k d0 d1 d2 a:f (k+1) "round_within" [d0,d1,d2] a=fin ((aH (aM 3<|aG (f k "last_steps")<|aB (aA 0)<|aB (bU<|aB (aA 2) aD) aD)<|aH (oY 3 (cD (iW<|aA 3) (cC 4)<|BS k) dH)<|aN<|mC .non) [b0 d0,b0 d1,b0 d2,b5,b5,b5,b5,b5] a):=by kernel_rfl
def Wr k d0 a:f (k+1) "round_of" [d0] a=fin ((aH (aM 1<|aG (f k "steps_from")<|aB (aA 0) aD)<|aH (aM 2<|aG (f k "marks_in")<|aB (aA 0) aD)<|aH (aM 3 lU)<|aH (cD (b8<|aC bA (aG (f k "marked_creases")<|aB (aA 0) aD)<|aG kP<|aB (aA 2) aD) (cC 4)<|BU k)<|aN<|mC .non) [b0 d0,b5,b5,b5,b5,b5] a):=by kernel_rfl
def Ia k d0 d1 d2 a:f (k+1) "carried_mark" [d0,d1,d2] a=fin ((aH (bG (aR<|aC (c3 eA) (aA 2)<|aA 1) (aN<|mC<|.str "o") bI)<|aH (aM 3<|aG (f k "way_by")<|aB (aA 1)<|aB (aA 2) aD)<|aH (aM 4<|gN (c8<|aA 3) (aC aE (aC aE (aA 3)<|mC<|.int 0)<|mC<|.int 0)<|aA 2)<|aN<|gN (c8<|aG (f k "is_alike")<|aB (aA 3) aD) (aC aE (aA 0)<|aA 4)<|sM t9<|aC aE (aA 0)<|aA 4) [b0 d0,b0 d1,b0 d2,b5,b5] a):=by kernel_rfl
def Ws k d0 a:f (k+1) "carried" [d0] a=fin ((aH (aM 1<|aG (f k "last_steps")<|aB (aG (f k "steps_from")<|aB (aA 0) aD)<|aB (aG (f k "marked_creases")<|aB (aA 0) aD) aD)<|aH (aM 2<|aG (f k "marks_in")<|aB (aA 0) aD)<|aN<|qW 2 (dR (iW<|aA 2) d9<|aW<|aB (aA 3)<|aB (aG (f k "carried_mark")<|aB (aA 2)<|aB (aA 1)<|aB (aA 3) aD) aD) b6) [b0 d0,b5,b5] a):=by kernel_rfl
def Wt k d0 d1 d2 a:f (k+1) "laying_by" [d0,d1,d2] a=fin ((aN<|aW<|aB (aC cW (aC aE (aA 1)<|mC<|.int 0)<|aC aE (aA 0)<|mC<|.int 0)<|aB (aC cW (aC aE (aA 2)<|mC<|.int 0)<|aC aE (aA 0)<|mC<|.int 0)<|aB (aC cW (aC aE (aA 1)<|mC<|.int 1)<|aC aE (aA 0)<|mC<|.int 1)<|aB (aC cW (aC aE (aA 2)<|mC<|.int 1)<|aC aE (aA 0)<|mC<|.int 1)<|aB (aC aE (aA 0)<|mC<|.int 0)<|aB (aC aE (aA 0)<|mC<|.int 1) aD) [b0 d0,b0 d1,b0 d2] a):=by kernel_rfl
def Wu k d0 a:f (k+1) "mirror_in" [d0] a=fin ((aN<|aG (f k "laying_by")<|aB (aG (f k "mirrored")<|aB (aW<|aB (mC<|.int 0)<|aB (mC<|.int 0) aD)<|aB (aA 0) aD)<|aB (aG (f k "mirrored")<|aB (aW<|aB (mC<|.int 1)<|aB (mC<|.int 0) aD)<|aB (aA 0) aD)<|aB (aG (f k "mirrored")<|aB (aW<|aB (mC<|.int 0)<|aB (mC<|.int 1) aD)<|aB (aA 0) aD) aD) [b0 d0] a):=by kernel_rfl
def Wv k d0 d1 a:f (k+1) "led" [d0,d1] a=fin ((aH (aM 2<|aC aE (aA 1)<|mC<|.int 0)<|aH (aM 3<|aC aE (aA 1)<|mC<|.int 1)<|aN<|aW<|aB (aC bA (aC bA (aC cB (aC aE (aA 0)<|mC<|.int 0)<|aA 2)<|aC cB (aC aE (aA 0)<|mC<|.int 1)<|aA 3)<|aC aE (aA 0)<|mC<|.int 4)<|aB (aC bA (aC bA (aC cB (aC aE (aA 0)<|mC<|.int 2)<|aA 2)<|aC cB (aC aE (aA 0)<|mC<|.int 3)<|aA 3)<|aC aE (aA 0)<|mC<|.int 5) aD) [b0 d0,b0 d1,b5,b5] a):=by kernel_rfl
def Ww k d0 d1 a:f (k+1) "then" [d0,d1] a=fin ((aN<|aG (f k "laying_by")<|aB (aG (f k "led")<|aB (aA 1)<|aB (aG (f k "led")<|aB (aA 0)<|aB (aW<|aB (mC<|.int 0)<|aB (mC<|.int 0) aD) aD) aD)<|aB (aG (f k "led")<|aB (aA 1)<|aB (aG (f k "led")<|aB (aA 0)<|aB (aW<|aB (mC<|.int 1)<|aB (mC<|.int 0) aD) aD) aD)<|aB (aG (f k "led")<|aB (aA 1)<|aB (aG (f k "led")<|aB (aA 0)<|aB (aW<|aB (mC<|.int 0)<|aB (mC<|.int 1) aD) aD) aD) aD) [b0 d0,b0 d1] a):=by kernel_rfl
def Wx k d0 d1 a:f (k+1) "_law_nth" [d0,d1] a=fin ((aN<|gN (aR<|aC dB (aA 1)<|aG bX<|aB (aA 0) aD) (aC aE (aA 0)<|aA 1)<|mC<|.int 0) [b0 d0,b0 d1] a):=by kernel_rfl
def Wz k d0 d1 d2 a:f (k+1) "_law_folded" [d0,d1,d2] a=fin ((aH (aM 3 lU)<|aH (cD (tH<|aA 0) (j6 [4,5])<|BK k)<|aN<|aA 3) [b0 d0,b0 d1,b0 d2,b5,b5,b5] a):=by kernel_rfl
def WA k d0 d1 d2 a:f (k+1) "_law_folds" [d0,d1,d2] a=fin ((aH (aM 3 lU)<|aH (cD (b8<|aG (f k "quarters_in")<|aB (aC aE (aA 2)<|mC<|.int 0)<|aB (aC aE (aA 2)<|mC<|.int 1) aD) (cC 4)<|kI (aA 3) (aA 4)<|mC HK)<|aH (aM 5<|aG (f k "edges_in")<|aB (aC aE (aA 2)<|mC<|.int 0)<|aB (aC aE (aA 2)<|mC<|.int 1) aD)<|aH (cD (iT<|aB (aC aX (aC cS (aG (f k "_law_nth")<|aB (aA 0)<|aB (aA 1) aD)<|mC<|.int 54)<|mC<|.int 6) aD) (cC 6)<|BL k)<|aN<|dR (b8<|aA 5) (aR<|aC (a8 eA) (aC aE (aA 3)<|aC aE (aG (f k "sides_of")<|aB (aA 9) aD)<|mC<|.int 0)<|aC aE (aA 3)<|aC aE (aG (f k "sides_of")<|aB (aA 9) aD)<|mC<|.int 1)<|aA 9) [b0 d0,b0 d1,b0 d2,b5,b5,b5,b5,b5,b5] a):=by kernel_rfl
def WB k d0 d1 a:f (k+1) "_law_gaps" [d0,d1] a=fin ((aH (bG (aR<|aC (a8 dI) (aC aX (aC aE (aA 1)<|mC<|.int 0)<|mC<|.int 4)<|mC<|.int 2) (aN<|aC aE (bU<|aB (bU<|aB (mC<|.int 2)<|aB (mC<|.int 2)<|aB (mC<|.int 2)<|aB (mC<|.int 2) aD)<|aB (bU<|aB (mC<|.int 4)<|aB (mC<|.int 4) aD) aD)<|aC aX (aA 0)<|mC<|.int 2) bI)<|aH (aM 2<|aC aX (aC cS (aA 0)<|mC<|.int 6)<|mC<|.int 3)<|aH (aM 3<|aC aX (aC cS (aA 0)<|mC<|.int 18)<|mC<|.int 3)<|aH (bG (aR<|aC (a8 dI) (aC aX (aA 0)<|mC<|.int 6)<|mC<|.int 0) (aN<|bU<|aB (mC<|.int 4)<|aB (mC<|.int 4) aD) bI)<|aH (bG (aR<|aC (a8 dI) (aC aX (aA 0)<|mC<|.int 6)<|mC<|.int 1) (aH (aM 4<|bU<|aB (mC<|.int 2)<|aB (mC<|.int 1)<|aB (mC<|.int 1)<|aB (mC<|.int 2)<|aB (mC<|.int 1) aD)<|aH (aM 5<|bU aD)<|aH (cD (iT<|aB (mC<|.int 3) aD) (cC 6) BM)<|aN<|aA 5) bI)<|aN<|bU<|aB (aC bA (aA 2)<|mC<|.int 1)<|aB (aC bA (aA 3)<|mC<|.int 1)<|aB (aC cW (mC<|.int 3)<|aA 2)<|aB (aC cW (mC<|.int 3)<|aA 3) aD) [b0 d0,b0 d1,b5,b5,b5,b5,b5] a):=by kernel_rfl
def WC k d0 d1 a:f (k+1) "_law_star" [d0,d1] a=fin ((aH (aM 2<|bU<|aB (aW<|aB (mC<|.int 2)<|aB (mC<|.int 0) aD)<|aB (aW<|aB (mC<|.int 1)<|aB (mC<|.int 1) aD)<|aB (aW<|aB (mC<|.int 0)<|aB (mC<|.int 2) aD)<|aB (aW<|aB (fT<|mC<|.int 1)<|aB (mC<|.int 1) aD)<|aB (aW<|aB (fT<|mC<|.int 2)<|aB (mC<|.int 0) aD)<|aB (aW<|aB (fT<|mC<|.int 1)<|aB (fT<|mC<|.int 1) aD)<|aB (aW<|aB (mC<|.int 0)<|aB (fT<|mC<|.int 2) aD)<|aB (aW<|aB (mC<|.int 1)<|aB (fT<|mC<|.int 1) aD) aD)<|aH (aM 3<|aG (f k "corners_in")<|aB (aC aE (aA 0)<|mC<|.int 0)<|aB (aC aE (aA 0)<|mC<|.int 1) aD)<|aH (aM 4<|aC aE (aA 3)<|aC aX (aA 1)<|aG bX<|aB (aA 3) aD)<|aH (aM 5<|bU aD)<|aH (aM 6<|aC aX (aC cS (aA 1)<|mC<|.int 32)<|mC<|.int 8)<|aH (bG (aR<|aC (a8 dI) (aC aX (aC aE (aA 4)<|mC<|.int 0)<|mC<|.int 4)<|mC<|.int 2) (aM 6<|aC bA (aC cB (aC aX (aC cS (aA 1)<|mC<|.int 32)<|mC<|.int 4)<|mC<|.int 2)<|mC<|.int 1) bI)<|aH (cD (b8<|aG (f k "_law_gaps")<|aB (aC cS (aA 1)<|mC<|.int 256)<|aB (aA 4) aD) (cC 7) xP)<|aN<|aA 5) [b0 d0,b0 d1,b5,b5,b5,b5,b5,b5,b5,b5,b5,b5] a):=by kernel_rfl
def WD k d0 d1 d2 a:f (k+1) "_law_creases" [d0,d1,d2] a=fin ((aH (aM 3<|aC aX (aC cS (aG (f k "_law_nth")<|aB (aA 0)<|aB (aA 1) aD)<|mC<|.int 9)<|mC<|.int 6)<|aH (bG (aR<|aC dB (aA 3)<|mC<|.int 3) (aN<|aG (f k "_law_folds")<|aB (aA 0)<|aB (aA 1)<|aB (aA 2) aD) bI)<|aH (aM 4<|bU aD)<|aH (cD (iT<|aB (aC aE (bU<|aB (mC<|.int 1)<|aB (mC<|.int 1)<|aB (mC<|.int 2) aD)<|aC cW (aA 3)<|mC<|.int 3) aD) (cC 5)<|HP k)<|aN<|aA 4) [b0 d0,b0 d1,b0 d2,b5,b5,b5,b5] a):=by kernel_rfl
def WE k a:f (k+1) "_law_square" [] a=fin ((aH (aM 0<|bU<|aB (aW<|aB (mC<|.int 6)<|aB (mC<|.int 4) aD)<|aB (aW<|aB (mC<|.int 8)<|aB (mC<|.int 6) aD)<|aB (aW<|aB (mC<|.int 6)<|aB (mC<|.int 8) aD)<|aB (aW<|aB (mC<|.int 4)<|aB (mC<|.int 6) aD)<|aB (aW<|aB (mC<|.int 3)<|aB (mC<|.int 3) aD)<|aB (aW<|aB (mC<|.int 1)<|aB (mC<|.int 1) aD)<|aB (aW<|aB (mC<|.int 3)<|aB (mC<|.int 5) aD)<|aB (aW<|aB (mC<|.int 1)<|aB (mC<|.int 7) aD)<|aB (aW<|aB (mC<|.int 7)<|aB (mC<|.int 3) aD)<|aB (aW<|aB (mC<|.int 5)<|aB (mC<|.int 1) aD)<|aB (aW<|aB (mC<|.int 9)<|aB (mC<|.int 3) aD)<|aB (aW<|aB (mC<|.int 11)<|aB (mC<|.int 1) aD) aD)<|aN<|aC bA (aA 0)<|bU<|aB (aW<|aB (mC<|.int 9)<|aB (mC<|.int 7) aD)<|aB (aW<|aB (mC<|.int 11)<|aB (mC<|.int 5) aD)<|aB (aW<|aB (mC<|.int 9)<|aB (mC<|.int 9) aD)<|aB (aW<|aB (mC<|.int 11)<|aB (mC<|.int 11) aD)<|aB (aW<|aB (mC<|.int 5)<|aB (mC<|.int 9) aD)<|aB (aW<|aB (mC<|.int 7)<|aB (mC<|.int 11) aD)<|aB (aW<|aB (mC<|.int 3)<|aB (mC<|.int 9) aD)<|aB (aW<|aB (mC<|.int 1)<|aB (mC<|.int 11) aD) aD) [b5] a):=by kernel_rfl
def WG k d0 d1 a:f (k+1) "_law_any_sheet" [d0,d1] a=fin ((aH (aM 2<|aW<|aB (aC bA (mC<|.int 1)<|aC aX (aA 1)<|mC<|.int 6)<|aB (aC bA (mC<|.int 1)<|aC aX (aC cS (aA 1)<|mC<|.int 6)<|mC<|.int 6) aD)<|aH (aM 3<|bU aD)<|aH (cD (b8<|aG (f k "edges_in")<|aB (aC aE (aA 2)<|mC<|.int 0)<|aB (aC aE (aA 2)<|mC<|.int 1) aD) (cC 4) BP)<|aN<|aG (f k "sheet_of")<|aB (aC aE (aA 2)<|mC<|.int 0)<|aB (aC aE (aA 2)<|mC<|.int 1)<|aB (aA 3) aD) [b0 d0,b0 d1,b5,b5,b5] a):=by kernel_rfl
def WH k d0 d1 a:f (k+1) "_law_sheet" [d0,d1] a=fin ((aH (bG (fR (aR<|aC (a8 dI) (aC aX (aG (f k "_law_nth")<|aB (aA 0)<|aB (aC bA (aA 1)<|mC<|.int 8) aD)<|mC<|.int 2)<|mC<|.int 1)<|iM (aR<|aC k9 (aG (f k "_law_nth")<|aB (aA 0)<|aB (aC bA (aA 1)<|mC<|.int 9) aD)<|mC<|.int 4096)<|aR<|aC dB (aG (f k "_law_nth")<|aB (aA 0)<|aB (aC bA (aA 1)<|mC<|.int 9) aD)<|mC<|.int 0) (aN<|aG (f k "_law_any_sheet")<|aB (aG (f k "_law_nth")<|aB (aA 0)<|aB (aC bA (aA 1)<|mC<|.int 9) aD)<|aB (aG (f k "_law_nth")<|aB (aA 0)<|aB (aC bA (aA 1)<|mC<|.int 10) aD) aD) bI)<|aH (aM 2<|aG (f k "_law_nth")<|aB (aA 0)<|aB (aA 1) aD)<|aH (aM 3<|aW<|aB (aC bA (mC<|.int 1)<|aC aX (aA 2)<|mC<|.int 3)<|aB (aC bA (mC<|.int 1)<|aC aX (aC cS (aA 2)<|mC<|.int 3)<|mC<|.int 3) aD)<|aH (bG (fR (aR<|gG dB dB (mC<|.int 2) (aC aX (aC cS (aA 2)<|mC<|.int 9)<|mC<|.int 6)<|mC<|.int 5)<|aR<|aC (a8 dI) (aC aX (aC cS (aA 2)<|mC<|.int 5184)<|mC<|.int 4)<|mC<|.int 1) (aM 3<|aW<|aB (aC bA (aC aE (aA 3)<|mC<|.int 0)<|mC<|.int 3)<|aB (aC bA (aC aE (aA 3)<|mC<|.int 1)<|mC<|.int 3) aD) bI)<|aH (aM 4<|aG (f k "_law_creases")<|aB (aA 0)<|aB (aA 1)<|aB (aA 3) aD)<|aH (bG (fR (aR<|aC (a8 dI) (aC aX (aC cS (aA 2)<|mC<|.int 9)<|mC<|.int 6)<|mC<|.int 5)<|aR<|aC (a8 dI) (aC aX (aC cS (aA 2)<|mC<|.int 5184)<|mC<|.int 4)<|mC<|.int 1) (aH (aM 3<|aW<|aB (mC<|.int 3)<|aB (mC<|.int 3) aD)<|aM 4<|aG (f k "_law_square") aD) bI)<|BO k) [b0 d0,b0 d1,b5,b5,b5,b5,b5,b5,b5,b5] a):=by kernel_rfl
def WI k d0 d1 a:f (k+1) "_law_round_a" [d0,d1] a=fin ((aH (aM 2<|bU<|aB (aW<|aB (mC<|.int 2)<|aB (mC<|.int 0) aD)<|aB (aW<|aB (mC<|.int 1)<|aB (mC<|.int 1) aD)<|aB (aW<|aB (mC<|.int 0)<|aB (mC<|.int 2) aD)<|aB (aW<|aB (fT<|mC<|.int 1)<|aB (mC<|.int 1) aD)<|aB (aW<|aB (fT<|mC<|.int 2)<|aB (mC<|.int 0) aD)<|aB (aW<|aB (fT<|mC<|.int 1)<|aB (fT<|mC<|.int 1) aD)<|aB (aW<|aB (mC<|.int 0)<|aB (fT<|mC<|.int 2) aD)<|aB (aW<|aB (mC<|.int 1)<|aB (fT<|mC<|.int 1) aD) aD)<|aH (bG (aR<|aC (a8 dI) (aC aX (aC aE (aA 1)<|mC<|.int 0)<|mC<|.int 4)<|mC<|.int 2) (aM 2<|dR (qT<|aB (mC<|.int 1)<|aB (mC<|.int 8)<|aB (mC<|.int 2) aD) d9<|aC aE (aA 2)<|aA 8) bI)<|aH (aM 4<|eK (jZ 2) (b8<|aA 2) d9<|aW<|aB (aC bA (aC aE (aA 1)<|mC<|.int 0)<|aA 8)<|aB (aC bA (aC aE (aA 1)<|mC<|.int 1)<|aA 9) aD)<|aH (aM 5<|dR (iT<|aB (aG bX<|aB (aA 4) aD) aD) (aR<|aC (c3 dI) (aC aE (aA 4)<|aA 8)<|aA 0)<|aA 8)<|aH (aM 6<|bU aD)<|aH (cD (iT<|aB (aG bX<|aB (aA 5) aD) aD) (cC 3) BI)<|aN<|aW<|aB (dR (b8<|aA 5) d9<|aC aE (aA 4)<|aA 8)<|aB (aA 6) aD) [b0 d0,b0 d1,b5,b5,b5,b5,b5,b5] a):=by kernel_rfl
def WJ k d0 a:f (k+1) "_law_inner" [d0] a=fin ((aH (aM 1<|bU aD)<|aH (cD (mN<|aB (mC<|.int 1)<|aB (aC cB (mC<|.int 4)<|aC aE (aA 0)<|mC<|.int 0) aD) (cC 2)<|cD (mN<|aB (mC<|.int 1)<|aB (aC cB (mC<|.int 4)<|aC aE (aA 0)<|mC<|.int 1) aD) (cC 3) BH)<|aN<|aA 1) [b0 d0,b5,b5,b5] a):=by kernel_rfl
def WK k d0 a:f (k+1) "_law_barred" [d0] a=fin ((aH (aM 1<|eK (jZ 2) (b8<|aC aE (aA 0)<|mC<|.int 2) d9<|aA 4)<|aH (cD (b8<|aG (f k "_law_inner")<|aB (aA 0) aD) (cC 2)<|BJ k)<|aN<|mC .non) [b0 d0,b5,b5,b5] a):=by kernel_rfl
def WL k d0 d1 d2 d3 a:f (k+1) "_law_with" [d0,d1,d2,d3] a=fin ((aH (aM 4<|aG kP<|aB (aA 1) aD)<|aH (kI (aA 4) (aA 2)<|aW<|aB (aC aE (aC aE (aA 4)<|aA 2)<|mC<|.int 0)<|aB (aA 3) aD)<|aN<|aG (f k "sheet_of")<|aB (aC aE (aA 0)<|mC<|.int 0)<|aB (aC aE (aA 0)<|mC<|.int 1)<|aB (aA 4) aD) [b0 d0,b0 d1,b0 d2,b0 d3,b5] a):=by kernel_rfl
def WM k d0 a:f (k+1) "law" [d0] a=fin ((aH (aM 1<|aG (f k "_law_sheet")<|aB (aA 0)<|aB (mC<|.int 0) aD)<|aH (bG (iM (aR<|aC (fA eA) (aG (f k "_law_barred")<|aB (aA 1) aD)<|mC .non)<|aR<|aC (fA eA) (aG (f k "round_of")<|aB (aA 1) aD)<|mC .non) (aN<|mC<|.bl eA) bI)<|aH (aM 2<|aG (f k "carried")<|aB (aA 1) aD)<|aH (aM 3<|aG (f k "sheet_of")<|aB (aC aE (aA 1)<|mC<|.int 0)<|aB (aC aE (aA 1)<|mC<|.int 1)<|aB (aA 2) aD)<|aH (bG (iM (aR<|aC (fA eA) (aG (f k "round_of")<|aB (aA 3) aD)<|mC .non)<|aR<|aC (a8 eA) (aG (f k "carried")<|aB (aA 3) aD)<|aA 2) (aN<|mC<|.bl dI) bI)<|aH (bG (aR<|aC (a8 dI) (aA 2)<|bU aD) (aN<|aC (a8 dI) (aC aE (aA 1)<|mC<|.int 2)<|aW aD) bI)<|aH (aM 4<|aC aX (aG (f k "_law_nth")<|aB (aA 0)<|aB (mC<|.int 7) aD)<|aG bX<|aB (aA 2) aD)<|HX k) [b0 d0,b5,b5,b5,b5,b5,b5,b5] a):=by kernel_rfl
def j5{Q:jz}:W (cB (.int 2) (.int z) a) Q↔Q (.int<|2*z,a):=nK<|.inl ⟨by decide,by decide⟩
def ŏ{Q:jz}:W (cB (.int 4) (.int z) a) Q↔Q (.int<|4*z,a):=nK<|.inl ⟨by decide,by decide⟩
def Ł{Q:jz}:W (aX (.int z) (.int 2) a) Q↔Q (.int<|z%2,a):=eD<|by decide
def Ib{Q:jz}:W (aX (.int z) (.int 4) a) Q↔Q (.int<|z%4,a):=eD<|by decide
def WN:(2:Nat)<=Z7:=by decide
def jR:([a,b]:List D).length<=Z7:=WN
def WO:(1:Nat)<=Z7:=by decide
def Ic:([a]:List D).length<=Z7:=WO
abbrev pO:D->Int
 |.int i=>i|_=>0
def WQ(h:d∈iD lo n):∃j,j<n/\d=.int (lo+(j:Int)):=by unfold iD at h;obtain⟨j,a,rfl⟩:=Õ.mp h;show⟨j,Ō.mp a,rfl⟩
def xQ{C:MS}{Q:jz}(h:a d c=b0 (.nx,b,μ'))(k:W (fin<|C b μ') Q):W (fin<|aH a C d c) Q:=by unfold aH;rw[h];show k
def Ie(h:m a b=b0 (d,μ')):aM i m a b=b0 (.nx,a.set i<|b0 d,μ'):=by unfold aM;rw[h];rfl
def rH{o:Option a}{r:a}{Q:a->Prop}(h:W o λx=>x=r):W o Q↔Q r:=by obtain⟨_,h,rfl⟩:=h;rw[h];show À
def Ig{o:Option a}{r:a}(h:∀Q,W o Q↔Q r):o=b0 r:=by obtain⟨_,e,b⟩:=(h λx=>x=r).mpr rfl;rw[e,b]
def a9{o:Option α}{r:α}{Q:α->Prop}(h:o=b0 r)(q:Q r):W o Q:=⟨r,h,q⟩
def È{Q:jz}(e:o=fin a)(h:W a λp=>match p.1 with|.rt d=>Q (d,p.2.2)|.nx=>Q (.non,p.2.2)|_=>False):W o Q:=e▸Ħ.mpr h
def aV{C:MS}(h:W (m ρ μ) λp=>W (C (ρ.set i<|b0 p.1) p.2) R):W (aH (aM i m) C ρ μ) R:=Ë.mpr<|ø.mpr h
def dN{C:MS}(h:W (A ρ μ) λp=>p.1=.nx/\W (C p.2.1 p.2.2) R):W (aH A C ρ μ) R:=Ë.mpr<|bH h λp q=>by rw[q.1];show q.2
def pE{C:MS}(h:W (m ρ μ) λp=>W (C ρ p.2) R):W (aH (cV m) C ρ μ) R:=Ë.mpr<|Ø.mpr h
def bQ(h:W (m ρ μ) λp=>R (.rt p.1,ρ,p.2)):W (aN m ρ μ) R:=Ù.mpr h
def aL{ds:List D}{Q:jz}(h:ms ρ μ=b0 (ds,μ'))(k:W (g ds μ') Q):W (aG g ms ρ μ) Q:=û.mpr ⟨_,h,k⟩
def dO{Q:jz}(h:W (ms ρ μ) λp=>W (g p.1 p.2) Q):W (aG g ms ρ μ) Q:=û.mpr h
def aT(h:W (m ρ μ) λp=>W (ms ρ p.2) λq=>Q (p.1::q.1,q.2)):W (aB m ms ρ μ) Q:=Ý.mpr h
def rJ{Q:jz}(h:W (m ρ μ) λp=>W (g [p.1] p.2) Q):W (aG g (aB m aD) ρ μ) Q:=û.mpr<|Ý.mpr<|bH h λ_ q=>⟨_,rfl,q⟩
def f6{C:MS}(h:t ρ μ=b0 (b,μ'))(h1:b=eA->W (aH A C ρ μ') R)(a:b=dI->W (aH B C ρ μ') R):W (aH (bG t A B) C ρ μ) R:=by
 show Ë.mpr<|Ñ.mpr ⟨_,h,?_⟩;cases b
 .show Ë.mp<|a rfl
 .show Ë.mp<|h1 rfl
def pG{C:MS}(h:W (t ρ μ) λp=>p.1=eA/\W (aH A C ρ p.2) R):W (aH (bG t A B) C ρ μ) R:=Ë.mpr<|Ñ.mpr<|bH h λp q=>by rw[if_pos q.1];show Ë.mp q.2
def kQ{C:MS}(h:W (t ρ μ) λp=>p.1=dI/\W (aH B C ρ p.2) R):W (aH (bG t A B) C ρ μ) R:=Ë.mpr<|Ñ.mpr<|bH h λp q=>by rw[if_neg<|by rw[q.1];show Z6];show Ë.mp q.2
def rK{C:MS}(h:W (aH A (aH B C) ρ μ) R):W (aH (aH A B) C ρ μ) R:=Ë.mpr<|Ë.mpr<|bH (Ë.mp h) λp q=>by
 obtain⟨x,y⟩:=p;cases x with
 |nx=>show Ë.mp q
 |_=>show q
def pH(h:W (t ρ μ) λp=>T (!p.1,p.2)):W (iN t ρ μ) T:=Ϸ.mpr h
def fJ(h:W (m ρ μ) λp=>p.1=.bl b/\T (b,p.2)):W (c8 m ρ μ) T:=Ő.mpr<|bH h λp ⟨e,q⟩=>by rw[e];show iz.mpr q
def gK{C:MS}(h:W (m ρ μ) λp=>R (.rt p.1,ρ,p.2)):W (aH (aN m) C ρ μ) R:=Ë.mpr<|Ù.mpr h
def c5{C:MS}(h:W (C ρ μ) R):W (aH bI C ρ μ) R:=Ë.mpr<|Ï.mpr h
def bZ(h:W (m ρ μ) λp=>∃b,p.1=.bl b/\T (b,p.2)):W (aR m ρ μ) T:=ļ.mpr<|bH h λp ⟨b,e,q⟩=>by rw[e];show q
def BW(h:W (s ρ μ) λp=>p.1=dI/\W (t ρ p.2) T):W (iM s t ρ μ) T:=ő.mpr<|bH h λp q=>by rw[if_neg<|by rw[q.1];show Z6];show q.2
def bF{Q:jz}(h1:a ρ μ=b0 (x,c))(e:b ρ c=b0 (y,d))(k:W (h x y d) Q):W (aC h a b ρ μ) Q:=ę.mpr ⟨_,h1,_,e,k⟩
def aO{Q:jz}(k:W (a ρ μ) λp=>W (b ρ p.2) λq=>W (h p.1 q.1 q.2) Q):W (aC h a b ρ μ) Q:=ę.mpr k
abbrev uA(x y:Int):Str:=if x%2=1 then(if x%4=y%4 then "falling" else "rising")else if y%4=0 then "level" else "upright"
def Ih k x y a(Q:jz):W (f (k+1) "line_of" [P x y] a) Q↔Q (.str<|uA x y,a):=by rw[VM,Ħ];simp only[Ë,Ù,Ï,Ñ,Ĝ,ę,nJ,fY,ļ,xJ,œ,ĉ,eD<|show(0:Int)<2 by decide,eD<|show(0:Int)<4 by decide];unfold uA;split<;>split<;>simp_all
abbrev lZ(x y:Int)(a b:Int):Int:=if x%2=1 then(if x%4=y%4 then a-b else a+b)else if y%4=0 then b else a
def BX k x y a b c(Q:jz):W (f (k+1) "number_by" [.str<|uA x y,P a b] c) Q↔Q (.int<|lZ x y a b,c):=by show rH ?_;rw[VR];unfold uA lZ;split<;>split<;>show⟨_,rfl,rfl⟩
abbrev gR(p e:Int×Int):Int×Int:=
 if e.1%2=1 then(if e.1%4=e.2%4 then(p.2+(e.1-e.2),p.1-(e.1-e.2))else(e.1+e.2-p.2,e.1+e.2-p.1))else if e.2%4=0 then(p.1,2*e.2-p.2)else(2*e.1-p.1,p.2)
def WR k x y a b c(Q:jz):W (f (k+2) "mirrored" [P x y,P a b] c) Q↔Q (PP<|gR (x,y) (a,b),c):=by show rH ?_;rw[VT];show xQ rfl<|xQ rfl<|xQ (Ie<|Ig<|Ih k a b c)<|xQ (Ie<|Ig<|BX k a b a b c) ?_;unfold uA lZ gR;split<;>split<;>show⟨_,rfl,rfl⟩
abbrev dP:D->Int×Int
 |.tup [.int x,.int y]=>(x,y)|_=>(0,0)
def rL p(l:jq):((l.map PP).filter λd=>p<|dP d).map (λd=>d)=(l.filter p).map PP:=by
 rw[Nu];induction l with
 |nil=>rfl|cons a l b=>
  have e:(yc PP<|a::l).filter (λd=>p<|dP d)=if p a then PP a::(l.map PP).filter (λd=>p<|dP d)else(l.map PP).filter λd=>p (dP d):=by rw[é,zg];rfl
  rw[e,b,zg];split<;>rfl
def nN{l:jq}(h:d∈l.map PP):∃x y,d=P x y:=by obtain⟨p,_,rfl⟩:=Õ.mp h;show⟨p.1,p.2,rfl⟩
def Ii{n:Nat}{i:Int}(a:0<=i)(h:i<n):gY n i=b0 i.toNat:=by unfold gY;rw[if_pos a,if_pos h]
def WS{gs:List Int}{i:Int}(a:0<=i)(h:i<gs.length):atI (gs.map D.int) i=b0 (.int<|gs.getD i.toNat 0):=by
 unfold atI;rw[ZT,Ii a h,Ē,þ];have b:i.toNat<gs.length:=by lia
 simp[Ğ,b]
def WT{Q:jz}(h:atI xs i=b0 d):W (aE (.rol xs) (.int i) a) Q↔Q (d,a):=by
 have:aE (.rol xs) (.int i) a=b0 (d,a):=by simp only[aE,gZ,bL,Ē,h,Ę]
 rw[this];show À
abbrev kR:List Int->Int
 |[]=>0|g::r=>g-kR r
abbrev kS(gs:List Int):Bool:=decide (gs.length<=8)&&decide (gs.length%2=0)&&gs.all (λg=>decide<|1<=g)&&kR gs==0
def WU k i a(Q:jz):W (f (k+1) "is_whole" [.int i] a) Q↔Q (.bl eA,a):=by rw[HY,Ħ];simp only[Ù,ď,Vm,û,Ý,jQ,fY,nJ,Vs,Vt];simp
def WV:∀gs,gs.length<=8->gs.length%2=0->∃es i:List Int,eM (gs.map D.int) b5 b5 (b0 2)=es.map D.int/\eM (gs.map D.int) (b0 1) b5 (b0 2)=i.map D.int/\es.sum-i.sum=kR gs/\es.length<=8/\i.length<=8
 |[],_,_=>⟨[],[],rfl,rfl,rfl,by decide,by decide⟩|[_],_,h=>by simp at h
 |[a,b],_,_=>⟨[a],[b],by kernel_rfl,by kernel_rfl,by simp[kR]<;>lia,by simp,by simp⟩|[_,_,_],_,h=>by simp at h
 |[a,b,c,d],_,_=>⟨[a,c],[b,d],by kernel_rfl,by kernel_rfl,by simp[kR]<;>lia,by simp,by simp⟩|[_,_,_,_,_],_,h=>by simp at h
 |[a,b,c,d,e,g],_,_=>⟨[a,c,e],[b,d,g],by kernel_rfl,by kernel_rfl,by simp[kR]<;>lia,by simp,by simp⟩|[_,_,_,_,_,_,_],_,h=>by simp at h
 |[a,b,c,d,e,g,x,y],_,_=>⟨[a,c,e,x],[b,d,g,y],by kernel_rfl,by kernel_rfl,by simp[kR]<;>lia,by simp,by simp⟩|_::_::_::_::_::_::_::_::_::_,h,_=>absurd h<|by simp
def Ij{gs:List Int}(h:d∈gs.map D.int):∃g∈gs,d=.int g:=by obtain⟨g,a,rfl⟩:=Õ.mp h;show⟨g,a,rfl⟩
def xR{a:Type}(l:List a):l.filter (λ_=>eA)=l:=by simp
def Ik{o:Option a}{r:a}:W o (λx=>x=r)->o=b0 r:=λ⟨_,e,q⟩=>e.trans<|congrArg b0 q
def WW k a gs(hz:gs.length<=8)(c:Hm)(Q:jz)(o:c[a]?=b0 (.lst<|gs.map D.int))(H:∀μ',c<+:μ'->Q (.bl<|kS gs,μ')):W (f (k+2) "is_good" [.loc a] c) Q:=by
 have r:bX [.loc a] c=b0 (.int (gs.length:Nat),c):=Ik ((fI o).mpr<|by rw[ZT]);have y:kS gs=(decide (gs.length%2=0)&&gs.all (λg=>decide<|1<=g)&&kR gs==0):=by unfold kS;rw[decide_eq_true hz,Lx]
 rw[y]at H;show È (V4 (k+1) _ c)<|f6 (b:=(gs.length:Int)%2==1) (μ':=c) (Ik<|BW<|bZ<|aO<|aL rfl<|a9 r ⟨_,rfl,Β.mpr ⟨_,rfl,decide_eq_false<|by lia,bZ<|aO<|aO<|aL rfl<|a9 r ⟨_,rfl,Ł.mpr ⟨_,rfl,ĉ.mpr ⟨_,rfl,rfl⟩⟩⟩⟩⟩) (λj=>?_) λj=>c5 ?_
 .have j:=beq_iff_eq.mp j;rw[decide_eq_false<|show ¬ gs.length%2=0 by lia]at H;show gK ⟨_,rfl,H _<|õ _⟩
 .have j:=beq_eq_false_iff_ne.mp j;have s:gs.length%2=0:=by lia
  rw[decide_eq_true s,Lx]at H;obtain⟨x,E,v,l,B,K,L⟩:=WV gs hz s;have fin:∀(R:Fl×aF×Hm->Prop) b,c<+:b->(∀I μ',c<+:μ'->R (.rt<|.bl<|kR gs==0,I,μ'))->W (aN (aC (a8 dI) (aG jL<|aB (mS (aA 0) jE jE<|jF<|mC<|.int 2) aD)<|aG jL<|aB (mS (aA 0) (jF<|mC<|.int 1) jE<|jF<|mC<|.int 2) aD) [b0<|.loc a] b) R:=λR b w z=>by
   have h:=aJ w o;show bQ (aO<|rJ<|HF ⟨_,rfl,_,rfl,_,rfl,_,rfl,_,rfl,by change b0 (2:Int)≠b0 0;decide,_,h,by rw[v,ZT,è];lia,?_⟩);rw[v];show(BE<|aZ _ _).mpr (rJ<|HF ⟨_,rfl,_,rfl,_,rfl,_,rfl,_,rfl,by change b0 (2:Int)≠b0 0;decide,_,aJ (aU _ _) h,by rw[l,ZT,è];lia,?_⟩);rw[l];show(BE<|aZ _ _).mpr<|ĉ.mpr ?_;have e:(x.sum==E.sum)=(kR gs==0):=by rw[<- B,zb,beq_iff_eq,beq_iff_eq];lia
   rw[e];show z _ _<|w.trans<|(aU _ _).trans<|aU _ _
  show Ë.mpr<|Ñ.mpr<|pH<|fJ (b:=gs.all λg=>decide<|1<=g)<|rJ<|fZ (xs:=gs.map D.int) (p:=λ_=>eA) (v:=λd=>.bl<|decide<|1<=pO d)<|Ê.mpr ⟨_,rfl,(cT o).mpr ⟨i0 o,rfl,by rw[ZT,è];lia,λd μ' hd A=>Ü.mpr ⟨rfl,õ _⟩,λd μ' hd _ A=>?_,λb n p=>?_⟩⟩
  .obtain⟨g,_,rfl⟩:=Ij hd;show ď.mpr<|aL rfl<|(WU k g _ _).mpr<|(if_pos rfl).mpr<|bF rfl rfl<|wg.mpr ⟨rfl,õ _⟩
  .have i:b[c.length]?=b0 (.lst<|(gs.map λg=>decide<|1<=g).map D.bl):=by rw[p,xR,Û,Û];rfl
   show(Vv i).mpr ⟨by rw[M9];rfl,?_⟩;cases u:gs.all λg=>decide (1<=g)with
   |false=>rw[u]at H;show(if_pos rfl).mpr (Ù.mpr ⟨_,rfl,H _ n⟩)|true=>rw[u]at H;show(if_neg Z6).mpr<|Ï.mpr<|fin _ b n λ_ μ' G=>H μ' G
abbrev jS(h:Int)(x:Int):jq:=(ă (4*h-1).toNat).map λ(j:Nat)=>(x,1+(j:Int))
abbrev jT(h:Int)(n:Nat):jq:=(ă n).flatMap λ(i:Nat)=>jS h<|1+(i:Int)
abbrev b9(w h:Int):jq:=jT h (4*w-1).toNat
def BY h n:jT h (n+1)=jT h n++jS h (1+(n:Int)):=by unfold jT;rw[su,zy];simp
def Il h x:(jS h x).length=(4*h-1).toNat:=by unfold jS;simp
def BZ h:∀n,(jT h n).length=n*(4*h-1).toNat
 |0=>by simp[jT]
 |n+1=>by rw[BY,Z4,BZ h n,Il,M4]
def Im{h:Int}(b:h<=6)(a:n<=23):n*(4*h-1).toNat<=529:=by have:n*(4*h-1).toNat<=23*23:=Na a ⋯;lia
def WX h x:((iD 1 (4*h-1).toNat).filter λ_=>eA).map (λd=>P x<|pO d)=(jS h x).map PP:=by unfold iD jS;rw[show ∀l:List D,l.filter (λ_=>eA)=l from λl=>by simp,Û,Û];rfl
def B0 k w h(hw:1<=w/\w<=6)(u:1<=h/\h<=6)(c:Hm)(Q:jz)(H:∀a μ',c<+:μ'->μ'[a]?=b0 (.lst<|(b9 w h).map PP)->c.length<=a->Q (.loc a,μ')):W (f (k+1) "places_within" [.int w,.int h] c) Q:=by
 rw[VY,Ħ];simp only[Ë,ø,Ā,jQ];show⟨ŀ _,?_⟩;simp only[yz,Mj,É,Ľ,Ý,jQ,nJ,ę,fY,jP,ŏ];show⟨by lia,?_⟩;show nM (lo:=1) (λi r μ'=>c<+:μ'/\μ'[c.length]?=b0 (.lst<|(jT h i).map PP)/\∃o,r=[b0<|.int w,b0<|.int h,b0<|.loc c.length,o]) ⟨aU _ _,aZ _ _,b5,rfl⟩ ?_ ?_
 .rintro i r p x ⟨n,e,o,rfl⟩;show⟨_,rfl,?_⟩;simp only[yz,Mj,Ø];show fB ?_;simp only[fY,jP];show⟨eS e,?_⟩;simp only[Ý,jQ];show fZ (xs:=iD 1 (4*h-1).toNat) (p:=λ_=>eA) (v:=λd=>P (1+(i:Int))<|pO d) ?_;simp only[Ľ,Ý,jQ,nJ,ę,fY,jP,ŏ];show⟨by lia,HC,by simp[iD],by rw[è];simp[iD];lia,?_,?_,?_⟩
  .intro d μ' hd n;show Ü.mpr ⟨rfl,õ _⟩
  .intro d μ' hd _ n;obtain⟨j,y,rfl⟩:=WQ hd;simp only[mq,mj,í,Ý,jQ,fY,jP,jR,true_and];show⟨rfl,õ _⟩
  .intro v b g;rw[WX]at g;have l:((jT h i).map PP).length+((jS h<|1+(i:Int)).map PP).length<=Z7:=by have s:=Im (h:=h) u.2 (n:=i+1) ⋯;rw[M4]at s;rw[ZT,ZT,BZ,Il,è];lia
   show(xK (aJ b e) g l).mpr ?_;show⟨cX (n.trans b) (Z2 _) _,?_,_,rfl⟩;rw[Ν (ZW.mp<|aJ b e).1,BY,ý]
 .rintro r p ⟨n,e,o,rfl⟩;simp only[Ù,fY,jP];show H _ _ n e<|Z2 _
def uB(hw:w<=6)(a:h<=6):(b9 w h).length<=529:=by unfold b9;rw[BZ];show Im a<|by lia
abbrev mv(x y:Int)(l:jq):jq:=l.map λs=>(x+s.1,y+s.2)
def Io k x y l(g:l.length<=63)(c:Hm)(Q:jz)(h:∀a μ',c<+:μ'->μ'[a]?=b0 (.lst<|(mv x y l).map PP)->c.length<=a->Q (.loc a,μ')):W (f (k+1) "moved_by" [P x y,.tup<|l.map PP] c) Q:=by
 rw[VP,Ħ];simp only[Ù];show fZ (xs:=l.map PP) (p:=λ_=>eA) (v:=λd=>PP (x+(dP d).1,y+(dP d).2)) ?_;simp only[Ê,fY,jP];show j4.mpr ?_;show⟨Vp,rfl,by rw[ZT,è];lia,λd μ' hd b=>À.mpr ⟨rfl,õ _⟩,λd μ' hd _ b=>?_,λμ' b e=>?_⟩
 .obtain⟨u,v,rfl⟩:=nN hd;simp only[mq,mj,í,ę,nJ,Ý,jQ,fY,jP,xJ,œ,î,jR,true_and];show⟨rfl,õ _⟩
 .show h _ _ b ?_<|Z2 _;rw[e,ue.mpr λ_ _=>rfl,Û];unfold mv;rw[Û];rfl
abbrev E8:jq:=[(2,0),(1,1),(0,2),(-1,1),(-2,0),(-1,-1),(0,-2),(1,-1)]
abbrev F4:jq:=[(1,1),(-1,1),(-1,-1),(1,-1)]
abbrev bY(x:Int):jq:=if x%4=0 then E8 else F4
def Ip k x y(b:Hm)(Q:jz)(h:∀a μ',b<+:μ'->μ'[a]?=b0 (.lst<|(mv x y<|bY x).map PP)->b.length<=a->Q (.loc a,μ')):W (f (k+2) "edges_round" [P x y] b) Q:=by
 rw[VQ,Ħ];simp only[Ù,û,Ý,jQ,fY,Ĝ,ļ,ę,nJ,xJ,Ib,ĉ];unfold bY at h;by_cases e:x%4=0
 .rw[if_pos e]at h;rw[e];show Io k x y E8 (by decide) b _ h
 .rw[if_neg e]at h;rw[if_neg<|by simpa using e];show Io k x y F4 (by decide) b _ h
def Iq a q:∀ps:jq,lI a (PP q) (ps.map PP)=b0 (ps.any λp=>p==q)
 |[]=>rfl|p::ps=>by rw[é];change(dG 8 a (PP p)<|PP q).bind (λb=>(lI a (PP q)<|ps.map PP).map λc=>b||c)=_;rw[HD 6,Iq a q ps];rfl
abbrev kT(lo:Int)(n m:Nat):jq:=(ă n).flatMap λ(i:Nat)=>(ă m).map λ(j:Nat)=>(lo+(i:Int),lo+(j:Int))
abbrev jU(lo x:Int)(m:Nat):jq:=(ă m).map λ(j:Nat)=>(x,lo+(j:Int))
def Ir lo n m:kT lo (n+1) m=kT lo n m++jU lo (lo+(n:Int)) m:=by unfold kT jU;rw[su,zy];simp
def WY lo x m:jU lo x (m+1)=jU lo x m++[(x,lo+(m:Int))]:=by unfold jU;rw[su,ý];rfl
def Iu lo x m:(jU lo x m).length=m:=by unfold jU;simp
def Iw lo m:∀n,(kT lo n m).length=n*m
 |0=>by simp[kT]
 |n+1=>by rw[Ir,Z4,Iw lo m n,Iu,M4]
def B1{b:Hm}:(b.set a c).set a c'=b.set a c':=List.set_set ..
def cY{b:Hm}(h:b[a]?=b0 c):(b.set a c')[a]?=b0 c':=by rw[Ν (ZW.mp h).1]
def B2(a:Hm)(c c':C):(a++[c]).set a.length c'=a++[c']:=by rw[LO _ _<|Z2 _];simp
def uC{b:Hm}(h:b[a]?=b0 c):b.set a c=b:=by obtain⟨d,rfl⟩:=ZW.mp h;show List.set_getElem_self d
abbrev bB(p:Int×Int):List Int:=[p.1,p.2]
def Iy{a:Type}l(d:a):(ă l.length).map (λi=>l.getD i d)=l:=by show List.ext_getElem (by simp) λi c b=>?_;simp[Ğ,b]
def kU{es:jq}{i:Nat}(h:(es.map PP)[i]?=b0 d):∃p,es[i]?=b0 p/\d=PP p:=by rw[þ]at h;obtain⟨p,a,b⟩:=ZX.mp h;show⟨p,a,b.symm⟩
def uD kvs k:(aY kvs k).isSome=kvs.any λp=>decide (p.1=k):=by unfold aY;rw[yx,zb,List.find?_isSome,zf]
def WZ kvs k k' d:(aY (bW kvs k d) k').isSome=(decide (k=k')||(aY kvs k').isSome):=by
 unfold bW;split
 .rename_i h;have e:(kvs.map λp=>if p.1=k then(p.1,d)else p).any (λp=>decide<|p.1=k')=kvs.any λp=>decide (p.1=k'):=by rw[MB];congr 1;funext p;simp only[Function.comp];split<;>rfl
  rw[uD,e,uD kvs k'];by_cases z:k=k'
  .subst z;rw[uD]at h;rw[h];simp
  .simp[z]
 .rw[uD,List.any_append,uD];simp only[dh,List.any_nil,Kw];show Bool.or_comm _ _
def dD q:cM (PP q)=b0 (bB q):=rfl
abbrev cE(bs:List Bool):List Int:=((ă bs.length).filter λi=>bs.getD i dI).map λ(i:Nat)=>(i:Int)
abbrev fK(bs:List Bool):List Int:=((cE bs).zip<|(cE bs).drop 1++((cE bs).take 1).map λs=>s+(bs.length:Int)).map λp=>(p.2-p.1)*(8/(bs.length:Int))
abbrev MD(m:(Int×Int)×Str):D:=.tup [PP m.1,.str m.2]
def B3{z:Int}(n:Nat)(a:0<=z)(h1:z<n):∃k,k<n/\(k:Int)=z:=⟨z.toNat,(Int.toNat_lt a).mpr h1,Int.toNat_of_nonneg a⟩
def rM(hz:1<=z/\z<=6):z∈[(1:Int),2,3,4,5,6]:=by obtain⟨k,a,rfl⟩:=B3 7 (Kc (by decide) hz.1) (Int.lt_of_le_of_lt hz.2<|by decide);show(by decide:∀k:Nat,k<7->1<=(k:Int)/\(k:Int)<=6->(k:Int)∈[(1:Int),2,3,4,5,6]) k a hz
abbrev c6(p:Int×Int):Bool:=p.1%2==0&&p.1%4==p.2%4
def W0 k x y a(Q:jz):W (f (k+1) "is_corner" [P x y] a) Q↔Q (.bl<|c6 (x,y),a):=by rw[VI,Ħ];simp only[Ù,ď,ę,nJ,fY,xJ,œ,ĉ,Ł,Ib];unfold c6;cases x%2==0<;>simp
abbrev aQ(ms:List ((Int×Int)×Str))(p:Int×Int):Bool:=(ms.map (·.1)).any λq=>q==p
def Iz:∀ms:List<|(Int×Int)×Str,qV (ms.map MD)=b0 (ms.map λm=>(bB m.1,D.str m.2))
 |[]=>rfl|m::ms=>by rw[é,é];change(cM<|PP m.1).bind (λk=>(qV<|ms.map MD).map λl=>(k,D.str m.2)::l)=_;rw[Iz ms];rfl
def IA k:∀(l kvs:jx),(aY (l.foldl (λq p=>bW q p.1 p.2) kvs) k).isSome=((aY kvs k).isSome||l.any λp=>decide<|p.1=k)
 |[],kvs=>by simp
 |p::l,kvs=>by rw[MU,IA k l,WZ,dh];cases decide (p.1=k)<;>cases(aY kvs k).isSome<;>simp
def W2 p q:decide (bB p=bB q)=(p==q):=by rw[zb];simp only[decide_eq_true_eq,beq_iff_eq,bB,Ol,and_true,Nx]
def W3 ms p:(aY ((ms.map λm=>(bB m.1,D.str m.2)).foldl (λq p=>bW q p.1 p.2) [])<|bB p).isSome=aQ ms p:=by rw[IA];unfold aQ;rw[MB,MB];change(dI||_)=_;rw[Kv];congr 1;funext m;show W2 m.1 p
def Œ{Q:jz}:W (aE (.tup [a,b,c]) (.int 2) d) Q↔Q (c,d):=À
def jf{Q:jz}:W (aE (.tup [a,b,c]) (.int 0) d) Q↔Q (a,d):=À
def je{Q:jz}:W (aE (.tup [a,b,c]) (.int 1) d) Q↔Q (b,d):=À
noncomputable abbrev SH(w h:Int)(ms:List ((Int×Int)×Str)):D:=.tup [.int w,.int h,.tup<|ms.map MD]
def ϔ{ms:List ((Int×Int)×Str)}{Q:jz}:W (oX [.tup<|ms.map MD] a) Q↔Q (.loc a.length,a++[.dT<|(ms.map λm=>(bB m.1,D.str m.2)).foldl (λq p=>bW q p.1 p.2) []]):=by
 have:oX [.tup<|ms.map MD] a=b0 (.loc a.length,a++[.dT<|(ms.map λm=>(bB m.1,D.str m.2)).foldl (λq p=>bW q p.1 p.2) []]):=by simp only[oX,Iz,Ę]
 rw[this];show À
def IB k w h ms x y(g:Hm)(Q:jz)(H:∀a μ',g<+:μ'->μ'[a]?=b0 (.lst<|((mv x y<|bY x).filter<|aQ ms).map PP)->Q (.loc a,μ')):W (f (k+3) "creases_at" [SH w h ms,P x y] g) Q:=by
 rw[V5,Ħ];simp only[Ë,ø,û,Ý,jQ,fY,jP];rw[HZ,Ħ];simp only[Ù,û,Ý,jQ,ę,fY,nJ,Œ,ϔ,yz,Mj];show fZ (xs:=(mv x y<|bY x).map PP) (p:=λd=>aQ ms<|dP d) (v:=λd=>d) ?_;simp only[Ê,û,Ý,jQ,fY,jP];show Ip k x y _ _ λa j e c l=>?_;show(cT c).mpr ⟨i0 c,rfl,?_,λd μ' hd b=>?_,λd μ' hd _ b=>?_,λμ' b i=>?_⟩
 .rw[ZT,è];unfold mv bY;rw[ZT];split<;>decide
 .obtain⟨u,v,rfl⟩:=nN hd;simp only[mq,mj,ļ,ę,fY,jP];show(rG (aJ (e.trans b)<|aZ _ _)<|dD (u,v)).mpr ?_;simp only[Į,if_false];show⟨W3 ms (u,v),õ _⟩
 .simp only[mq,mj,fY,jP];show⟨trivial,õ _⟩
 .show H _ _ ((aU _ _).trans<|e.trans b) ?_;rw[i,rL<|aQ ms]
def B4 a q:∀ps:jq,kJ a (PP q) (ps.map PP)=b0 (ps.map λp=>p==q)
 |[]=>rfl|p::ps=>by rw[é,é];simp only[kJ,B4 a q ps];rw[HD 6];rfl
def W4{ps:jq}{Q:jz}(h:b[a]?=b0 (.lst<|ps.map PP))(d:q∈ps)(hz:ps.length<=Z7):W (qS (.loc a) [PP q] b) Q↔Q (.int (ps.idxOf q:Nat),b):=by
 have e:(ps.map λp=>p==q).findIdx id=ps.idxOf q:=by rw[List.findIdx_map];rfl
 have c:ps.idxOf q<ps.length:=Pz d;simp only[qS,h,B4,Ē];rw[e,ZT,if_pos ⟨c,hz⟩];show À
def W5{es:jq}(d:es.Nodup)(a:i<es.length):es.idxOf (es.getD i (0,0))=i:=by
 have e:es.getD i (0,0)=es[i]:=by simp[Ğ,a]
 rw[e];have b:es.idxOf es[i]<es.length:=Pz<|Ŧ a;have c:es[es.idxOf es[i]]=es[i]:=List.getElem_idxOf b;rcases LF (es.idxOf es[i]) i with h|h|h
 .show absurd c<|(ϋ.mp d) _ i b a h
 .show h
 .show absurd c.symm<|(ϋ.mp d) i _ a b h
def B5{es:jq}(d:es.Nodup)m:(es.filter m).map (λq=>((es.idxOf q:Nat):Int))=cE (es.map m):=by
 have b:es.filter m=((ă es.length).filter λi=>m<|es.getD i (0,0)).map λi=>es.getD i (0,0):=by
  conv=>lhs;rw[<- Iy es (0,0)]
  rw[sr];rfl
 unfold cE;rw[b,Û,ZT];have c:(ă es.length).filter (λi=>m<|es.getD i (0,0))=(ă es.length).filter λi=>(es.map m).getD i false:=by show List.filter_congr λi a=>?_;have a:=Ō.mp a;simp[Ğ,a]
 rw[<- c];show eG λi a=>?_;have a:=Ō.mp (ş.mp a).1;change((es.idxOf (es.getD i (0,0)):Nat):Int)=_;rw[W5 d a]
def IC x y(h:l.Nodup):(mv x y l).Nodup:=by unfold mv;change List.Pairwise _ _;rw[Ϗ];show b1W (λ{a b} c e=>c ?_) h;simp only[Nx]at e ⊢;lia
def ID x:(bY x).Nodup:=by unfold bY;split<;>decide
def xS x:(bY x).length=8\/(bY x).length=4:=by
 unfold bY;split
 .show .inl rfl
 .show .inr rfl
def W6(b:List Int):jX (b.map D.int) (b0 1) b5=(b.drop 1).map D.int:=by
 cases b with
 |nil=>rfl|cons a l=>unfold jX;rw[show(1:Int)=((1:Nat):Int)from rfl,HT.sIx_nat,HT.sIx_none,ZT,dq<|by simp,<- List.map_drop,ϳ<|by rw[ZT,Λ];lia]
def W7(b:List Int):jX (b.map D.int) b5 (b0 1)=(b.take 1).map D.int:=by
 cases b with
 |nil=>rfl|cons a l=>unfold jX;rw[show(1:Int)=((1:Nat):Int)from rfl,HT.sIx_nat,HT.sIx_none,ZT,dq<|by simp,Ϭ,yo,NY]
abbrev pI(a b:List Int):List D:=(a.zip b).map PP
def W8{e:Hm}(h:e[a]?=b0 (.lst<|c.map D.int))(j:e[b]?=b0 (.lst<|d.map D.int)):∀μ' i,e<+:μ'->sY (.loc a) (.loc b) μ' i=b0 (pI c d)[i]?:=λμ' i g=>by simp only[sY,bL,aJ g h,aJ g j,Ē,Ę];unfold pI List.zip;rw[þ,þ,þ,Pg];cases c[i]?<;>cases d[i]?<;>rfl
def IE k w h ms x y(G:Hm)(Q:jz)(H:∀a μ',G<+:μ'->μ'[a]?=b0 (.lst<|(fK<|(mv x y<|bY x).map<|aQ ms).map D.int)->Q (.loc a,μ')):W (f (k+4) "gaps_at" [SH w h ms,P x y] G) Q:=by
 have z:=xS x;have l:(mv x y<|bY x).length=(bY x).length:=by unfold mv;rw[ZT]
 have n:=IC x y<|ID x;show È (V6 (k+3) _ _ G)<|aV<|aL rfl<|Ip (k+1) x y _ _ λa1 μ1 p1 T l1=>aV<|aL rfl<|IB k w h ms x y _ _ λa2 I M p=>?_;have c:=aJ M T;generalize hes:mv x y (bY x)=es at c p l n H;have A:(es.filter<|aQ ms).length<=8:=ė (bc _ _) ⋯;show aV<|fZ (xs:=(es.filter<|aQ ms).map PP) (p:=λ_=>eA) (v:=λd=>.int ((es.idxOf (dP d):Nat):Int))<|Ê.mpr ⟨_,rfl,(cT p).mpr ⟨i0 p,rfl,by rw[ZT,è];lia,λd μ' hd e=>Ü.mpr ⟨rfl,õ _⟩,λd μ' hd _ e=>?_,λb N U=>?_⟩⟩
 .obtain⟨q,Z,rfl⟩:=Õ.mp hd;show fB ⟨_,rfl,eS<|aJ e c,_,rfl,(W4 (aJ e c) (ş.mp Z).1<|by rw[è];lia).mpr ⟨rfl,õ _⟩⟩
 .have g:b[I.length]?=b0 (.lst<|(cE<|es.map<|aQ ms).map D.int):=by rw[U,xR,Û,<- B5 n,Û];rfl
  have B:(cE<|es.map<|aQ ms).length<=8:=by rw[<- B5 n,ZT];show A
  generalize hix:cE (es.map<|aQ ms)=is at g B;show aV<|aO<|HE ⟨_,rfl,_,rfl,_,rfl,_,rfl,_,g,?_⟩;rw[W6];have r:=aJ (aU b<|C.lst<|(is.drop 1).map D.int) g;have j:=aJ (N.trans<|aU b<|C.lst<|(is.drop 1).map D.int) c;have v:=aZ b<|C.lst<|(is.drop 1).map D.int;have O:=p1.trans<|M.trans<|N.trans<|aU b<|C.lst<|(is.drop 1).map D.int;dsimp only;generalize b.length=l3 at v ⊢;generalize b++[C.lst<|(is.drop 1).map D.int]=μ4 at r j v O ⊢;show fZ (xs:=(is.take 1).map D.int) (p:=λ_=>eA) (v:=λd=>.int<|pO d+(es.length:Int))<|Ê.mpr<|HE ⟨_,rfl,_,rfl,_,rfl,_,rfl,_,r,?_⟩;rw[W7];show(cT<|aZ _ _).mpr ⟨i0<|aZ _ _,rfl,by rw[ZT,Ġ,è];lia,λd μ' hd e=>Ü.mpr ⟨rfl,õ _⟩,λd μ' hd _ e=>?_,λo p5 X=>?_⟩
  .obtain⟨i,_,rfl⟩:=Ij hd;show aO ⟨_,rfl,aL rfl<|(fI<|aJ ((aU _ _).trans e) j).mpr<|î.mpr ⟨by rw[ZT];rfl,õ _⟩⟩
  .have R:=(aU μ4<|C.lst<|(is.take 1).map D.int).trans p5;have u:o[(μ4++[C.lst<|(is.take 1).map D.int]).length]?=b0 (.lst<|((is.take 1).map λs=>s+(es.length:Int)).map D.int):=by rw[X,xR,Û,Û];rfl
   show(t6 (aJ R v) u<|by rw[ZT,ZT,ZT,Λ,Ġ,è];lia).mpr ?_;rw[<- ý];generalize hjs:is.drop 1++(is.take 1).map (λs=>s+(es.length:Int))=js;have E:=R.trans<|aU o<|C.lst<|js.map D.int;show aV (aO ⟨_,rfl,aL rfl<|(fI<|aJ E j).mpr<|(tZ (by rw[ZT];lia)<|by rw[ZT];lia).mpr<|bQ ?_⟩);rw[ZT];have K:=aJ E r;have L:=aZ o<|C.lst<|js.map D.int;have hzl:(pI is js).length<=8:=by unfold pI;rw[ZT,MC];lia
   have h8:8/(es.length:Int)=1\/8/(es.length:Int)=2:=by
    rcases z with h|h
    .left;rw[l,h];rfl
    .right;rw[l,h];rfl
   show t7 (xs:=pI is js) (x:=λd=>[b0<|.int (dP d).1,b0<|.int (dP d).2]) (p:=λ_=>eA) (v:=λd=>.int<|((dP d).2-(dP d).1)*(8/(es.length:Int)))<|VC ⟨_,rfl,_,_,_,_,rfl,K,L,W8 K L,?_,by rw[è];lia,λd μ' hd=>?_,λd μ' hd e=>Ü.mpr ⟨rfl,õ _⟩,λd μ' hd _ e=>?_,λμ8 p8 Y=>?_⟩
   .unfold pI;simp only[ZT,MC]
   .obtain⟨q,_,rfl⟩:=Õ.mp hd;rfl
   .obtain⟨q,_,rfl⟩:=Õ.mp hd;show aO<|bF rfl rfl<|į.mpr ⟨_,rfl,(nK<|.inr<|by lia).mpr ⟨rfl,õ _⟩⟩
   .show H _ _ (O.trans<|E.trans p8) ?_;rw[Y,xR];unfold pI fK;rw[hix,ZT,hjs,Û,Û];rfl
def bT{o:Option a}{r:a}:W o (λx=>x=r)->o=b0 r:=λ⟨_,e,q⟩=>e.trans<|congrArg b0 q
abbrev cJ(p:Int×Int):List Int:=[p.1,p.2]
abbrev eE(p q:Int×Int):Int×Int:=if HT.lexLt (cJ q) (cJ p)then q else p
abbrev eF(p q:Int×Int):Int×Int:=if HT.lexLt (cJ p) (cJ q)then q else p
abbrev l6(p q:Int×Int)(a:Bool)(c:Int×Int):Ti:=(cJ<|eE p q,cJ<|eF p q,a,cJ c)
def W9 p q a:AW [PP p,PP q] a=b0 (PP<|eE p q,a):=by change b0 (if HT.lexLt (cJ q) (cJ p)then PP q else PP p,a)=_;unfold eE;split<;>rfl
def Xa p q a:AX [PP p,PP q] a=b0 (PP<|eF p q,a):=by change b0 (if HT.lexLt (cJ p) (cJ q)then PP q else PP p,a)=_;unfold eF;split<;>rfl
def Xb(h:n=4):n<=Z7:=by rw[h];decide
def B6 k p q a c b(Q:jz)(H:Q (dM<|l6 p q a c,b)):W (f (k+1) "tie_of" [PP p,PP q,.bl a,PP c] b) Q:=
 È (V9 k _ _ _ _ b)<|bQ<|í.mpr<|aT<|aL rfl<|a9 (W9 p q b)<|aT<|aL rfl<|a9 (Xa p q b) ⟨_,rfl,Xb rfl,H⟩
def l9{i:Nat}{d:D}(e:xs[i]?=b0 d):atI xs (i:Int)=b0 d:=by have a:=(ZW.mp e).1;unfold atI;rw[Ii ⋯<|by lia];simpa using e
def Xc{xs:List D}(h:i<xs.length):atI xs ((i:Int)-1)=xs[(i+(xs.length-1))%xs.length]?:=by
 unfold atI gY;cases i with
 |zero=>
  rw[if_neg<|by lia,if_pos<|by lia];have e:(((0:Nat):Int)-1+xs.length).toNat=(0+(xs.length-1))%xs.length:=by rw[OT<|by lia];lia
  rw[e];rfl
 |succ i=>
  rw[if_pos<|by lia,if_pos<|by lia];have e:(((i+1:Nat):Int)-1).toNat=(i+1+(xs.length-1))%xs.length:=by
   have:i+1+(xs.length-1)=i+xs.length:=by lia
   rw[this,Nat.add_mod_right,OT<|by lia];lia
  rw[e];rfl
def xT{gs:List Int}(h:i<gs.length):(gs.map D.int)[i]?=b0 (.int<|gs.getD i 0):=by rw[þ,ZY h];simp[Ğ,h]
def Xd{cr:jq}(h:i<cr.length):(cr.map PP)[i]?=b0 (PP<|cr.getD i (0,0)):=by rw[þ,ZY h];simp[Ğ,h]
abbrev rN(gs:List Int)(i:Nat):Bool:=decide (gs.getD i 0<gs.getD ((i+(gs.length-1))%gs.length) 0)&&decide (gs.getD i 0<gs.getD ((i+1)%gs.length) 0)
def B7(i n:Nat):((i:Int)+1)%(n:Int)=(((i+1)%n:Nat):Int):=by simp[Int.natCast_emod]
def Xe k(g:b[a]?=b0 (.lst<|gs.map D.int))(h:i<gs.length)(Q:jz)(H:Q (.bl<|rN gs i,b)):W (f (k+1) "is_least" [.loc a,.int i] b) Q:=by
 have u:(i+(gs.length-1))%gs.length<gs.length:=kj _ ⋯;have v:(i+1)%gs.length<gs.length:=kj _ ⋯;have j:∀{c},c=b->aE (.loc a) (.int i) c=b0 (.int<|gs.getD i 0,c):=λe=>by subst e;show bT<|(fH g<|l9<|xT h).mpr rfl
 have n:aE (.loc a) (.int<|(i:Int)-1) b=b0 (.int<|gs.getD ((i+(gs.length-1))%gs.length) 0,b):=bT<|(fH g<|by
  rw[Xc<|by rw[ZT];show h,ZT];show xT u).mpr rfl
 have o:aE (.loc a) (.int<|((i:Int)+1)%(gs.length:Nat)) b=b0 (.int<|gs.getD ((i+1)%gs.length) 0,b):=bT ((fH g<|by rw[B7];show l9<|xT v).mpr rfl);show È (Wa k _ _ b)<|bQ<|ď.mpr<|aO<|bF rfl rfl ⟨_,j rfl,aO ⟨_,rfl,bF rfl rfl<|į.mpr ⟨_,n,ł.mpr ?_⟩⟩⟩;unfold rN at H;have d:W (aC dB (aC aE (aA 0)<|aA 1) (aC aE (aA 0)<|aC aX (aC bA (aA 1)<|mC<|.int 1)<|aG bX<|aB (aA 0) aD) [b0<|.loc a,b0<|.int i] b) λp=>p=(.bl<|decide<|gs.getD i 0<gs.getD ((i+1)%gs.length) 0,b):=by show aO<|bF rfl rfl ⟨_,j rfl,aO ⟨_,rfl,aO<|bF rfl rfl<|î.mpr<|aL rfl<|(fI g).mpr ?_⟩⟩;rw[ZT];show(eD<|by lia).mpr ⟨_,o,ł.mpr rfl⟩
 cases l:decide (gs.getD i 0<gs.getD ((i+(gs.length-1))%gs.length) 0)with
 |true=>rw[l,Lx]at H;obtain⟨r,s,rfl⟩:=d;show(if_pos rfl).mpr ⟨_,s,H⟩|false=>rw[l,OK]at H;show(if_neg Z6).mpr H
abbrev nO(cr:jq)(c:Int×Int)(i:Nat):List Ti:=l6 (cr.getD i (0,0)) (cr.getD ((i+1)%cr.length) (0,0)) dI c::(if cr.length=4 then[l6 (cr.getD ((i+2)%4) (0,0)) (cr.getD ((i+3)%4) (0,0)) eA c]else[])
def gM{cr:jq}(g:b[a]?=b0 (.lst<|cr.map PP))(h:i<cr.length):aE (.loc a) (.int (i:Int)) b=b0 (PP<|cr.getD i (0,0),b):=bT<|(fH g<|l9<|Xd h).mpr rfl
def Xf k{b:Hm}(g:b[a]?=b0 (.lst<|cr.map PP))(h:i<cr.length)c(Q:jz)(H:∀l μ',b<+:μ'->μ'[l]?=b0 (.lst<|(nO cr c i).map dM)->Q (.loc l,μ')):W (f (k+2) "ties_of_gap" [.loc a,.int i,PP c] b) Q:=by
 have s:(i+1)%cr.length<cr.length:=kj _ ⋯;have n:aE (.loc a) (.int<|((i:Int)+1)%(cr.length:Nat)) b=b0 (PP<|cr.getD ((i+1)%cr.length) (0,0),b):=by rw[B7];show gM g s
 have r:bX [.loc a] b=b0 (.int (cr.length:Nat),b):=bT ((fI g).mpr<|by rw[ZT]);show È (Wb (k+1) _ _ _ b) (aV<|aL rfl<|a9 r<|aV<|Ā.mpr<|aT<|dO<|aT<|bF rfl rfl ⟨_,gM g h,aT<|aO ⟨_,rfl,aO<|bF rfl rfl<|î.mpr ⟨_,rfl,(eD<|by lia).mpr ⟨_,n,_,rfl,?_⟩⟩⟩⟩);show B6 k _ _ _ _ _ _ ⟨_,rfl,Ic,?_⟩;have gl:=aZ b<|C.lst [dM<|l6 (cr.getD i (0,0)) (cr.getD ((i+1)%cr.length) (0,0)) dI c];have j:=aJ (aU b<|C.lst [dM<|l6 (cr.getD i (0,0)) (cr.getD ((i+1)%cr.length) (0,0)) dI c]) g;show f6 (b:=((cr.length:Nat):Int)==4) (μ':=b++[C.lst [dM<|l6 (cr.getD i (0,0)) (cr.getD ((i+1)%cr.length) (0,0)) dI c]]) (bT<|bZ<|bF rfl rfl<|ĉ.mpr ⟨_,rfl,rfl⟩) (λd=>?_) λd=>c5<|bQ ⟨_,rfl,H _ _ (aU _ _) ?_⟩
 .have d:cr.length=4:=by have:=beq_iff_eq.mp d;lia
  have u:(i+2)%4<cr.length:=by lia
  have v:(i+3)%4<cr.length:=by lia
  have o:∀{ν:Hm},ν[a]?=b0 (.lst<|cr.map PP)->aE (.loc a) (.int<|((i:Int)+2)%4) ν=b0 (PP<|cr.getD ((i+2)%4) (0,0),ν):=λe=>by rw[show((i:Int)+2)%4=(((i+2)%4:Nat):Int) by lia];show gM e u
  have p:∀{ν:Hm},ν[a]?=b0 (.lst<|cr.map PP)->aE (.loc a) (.int<|((i:Int)+3)%4) ν=b0 (PP<|cr.getD ((i+3)%4) (0,0),ν):=λe=>by rw[show((i:Int)+3)%4=(((i+3)%4:Nat):Int) by lia];show gM e v
  show pE (fB ⟨_,rfl,eS gl,aT<|dO<|aT<|aO ⟨_,rfl,aO<|bF rfl rfl<|î.mpr ⟨_,rfl,(eD<|by decide).mpr ⟨_,o j,aT<|aO ⟨_,rfl,aO<|bF rfl rfl<|î.mpr ⟨_,rfl,(eD<|by decide).mpr ⟨_,p j,_,rfl,?_⟩⟩⟩⟩⟩⟩⟩);show B6 k _ _ _ _ _ _ ⟨_,rfl,(i5 gl<|by change(1:Nat)<Z7;decide).mpr<|bQ ⟨_,rfl,H _ _ (cX (aU _ _) (Z2 _) _) ?_⟩⟩;rw[cY gl];unfold nO;rw[if_pos d];rfl
 .have d:¬ cr.length=4:=λz=>by rw[z]at d;cases d
  unfold nO;rw[if_neg d];show gl
abbrev dQ(m:Int×Int->Bool)(p:Int×Int):jq:=(mv p.1 p.2<|bY p.1).filter m
abbrev c9(m:Int×Int->Bool)(p:Int×Int):List Int:=fK<|(mv p.1 p.2<|bY p.1).map m
def uE m p:(c9 m p).length=(dQ m p).length:=by have e:=congrArg Ģ<|B5 (IC p.1 p.2<|ID p.1) m;rw[ZT]at e;unfold c9 fK dQ;rw[ZT,MC,Z4,ZT,Λ,Ġ,e];lia
def uF m p:(dQ m p).length<=8:=by show ė (bc _ _) ?_;have:(mv p.1 p.2<|bY p.1).length=(bY p.1).length:=ZT ..;have:=xS p.1;lia
abbrev i7(m:Int×Int->Bool)(p:Int×Int)(i:Nat):List Ti:=if rN (c9 m p) i then nO (dQ m p) p i else[]
abbrev iE(m:Int×Int->Bool)(p:Int×Int):List Ti:=if(dQ m p).length=2 then[l6 ((dQ m p).getD 0 (0,0)) ((dQ m p).getD 1 (0,0)) eA p]else(ă (dQ m p).length).flatMap (i7 m p)
def B8 m p i:(i7 m p i).length<=2:=by
 unfold i7 nO;split
 .split<;>simp
 .simp
def pJ{a b:Type}{f:a->List b}(h:∀x,(f x).length<=n):∀l:List a,(l.flatMap f).length<=n*l.length
 |[]=>by simp
 |x::l=>by have c:=pJ h l;have d:=h x;rw[Md,Z4,ć,Nat.mul_succ];lia
def B9 m p:(iE m p).length<=16:=by
 unfold iE;split
 .simp
 .have a:=pJ (B8 m p)<|ă (dQ m p).length;rw[ώ]at a;have:=uF m p;lia
inductive Qb (a0 a1 a2 a3:Option D)(l:Nat)(ν:Hm)(F:Nat->List Ti):Nat->aF->Hm->Prop
 |mk {i:Nat}{x:Option D}{μ:Hm}(p:ν<+:μ)(g:μ[l]?=b0 (.lst<|((ă i).flatMap F).map dM)):Qb a0 a1 a2 a3 l ν F i [a0,a1,a2,a3,b0<|.loc l,x] μ
def Xg k w h ms p(r:Hm)(Q:jz)(H:∀l μ',r<+:μ'->μ'[l]?=b0 (.lst<|(iE (aQ ms) p).map dM)->Q (.loc l,μ')):W (f (k+6) "ties_at" [SH w h ms,PP p] r) Q:=by
 show È (Wc (k+5) _ _ r)<|aV<|aL rfl<|IB (k+2) w h ms p.1 p.2 r _ λa n U s=>aV<|aL rfl<|IE (k+1) w h ms p.1 p.2 n _ λb c G o=>?_;replace s:n[a]?=b0 (.lst<|(dQ (aQ ms) p).map PP):=s;replace o:c[b]?=b0 (.lst<|(c9 (aQ ms) p).map D.int):=o;have j:=aJ G s;have T:=uE (aQ ms) p;have Z:=uF (aQ ms) p;have O:bX [.loc a] c=b0 (.int ((dQ (aQ ms) p).length:Nat),c):=bT ((fI j).mpr<|by rw[ZT]);have K:=U.trans G;show f6 (b:=(((dQ (aQ ms) p).length:Nat):Int)==2) (μ':=c) (bT<|bZ<|aO<|aL rfl<|a9 O ⟨_,rfl,ĉ.mpr ⟨_,rfl,rfl⟩⟩) (λe=>?_) λe=>c5 ?_
 .have e:(dQ (aQ ms) p).length=2:=by have:=beq_iff_eq.mp e;lia
  show gK (Ā.mpr<|aT<|dO<|aT<|bF rfl rfl ⟨_,gM (i:=0) j<|by lia,aT<|bF rfl rfl ⟨_,gM (i:=1) j<|by lia,_,rfl,?_⟩⟩);show B6 (k+4) _ _ _ _ _ _ ⟨_,rfl,Ic,H _ _ (K.trans<|aU _ _) ?_⟩;unfold iE;rw[if_pos e];show aZ _ _
 .have e:¬ (dQ (aQ ms) p).length=2:=λz=>by rw[z]at e;cases e
  have R:=aJ (aU c<|C.lst []) j;have gB:=aJ (aU c<|C.lst []) o;have N:bX [.loc a] (c++[C.lst []])=b0 (.int ((dQ (aQ ms) p).length:Nat),c++[C.lst []]):=bT ((fI R).mpr<|by rw[ZT]);show aV (Ā.mpr ⟨_,rfl,ŀ _,dN<|É.mpr<|(rB (j:=0)).mpr<|aT<|aL rfl<|a9 N ⟨_,rfl,⟨by lia,by lia⟩,?_⟩⟩);dsimp only;rw[gf];show nM (Qb (b0<|SH w h ms) (b0<|PP p) (b0<|.loc a) (b0<|.loc b) c.length c<|i7 (aQ ms) p) (.mk (aU _ _)<|aZ _ _) ?_ ?_
  .rintro i v u E ⟨g,d⟩;show⟨_,rfl,?_⟩;rw[qw];show Ñ.mpr (fJ<|aL rfl<|Xe (k+4) (aJ g o) (by rw[T];show E) _ ⟨rfl,?_⟩);have x:(ă<|i+1).flatMap (i7 (aQ ms) p)=(ă i).flatMap (i7 (aQ ms) p)++i7 (aQ ms) p i:=by rw[su,zy];simp
   have L:=pJ (B8 (aQ ms) p)<|ă i;rw[ώ]at L;cases B:rN (c9 (aQ ms) p) i with
   |false=>show(if_neg Z6).mpr<|Ï.mpr<|.mk g ?_;rw[x];unfold i7 at d ⊢;rw[B,if_neg Z6,Ň];show d|true=>
    show(if_pos rfl).mpr<|Ø.mpr<|fB ⟨_,rfl,eS d,aT<|aL rfl<|Xf (k+3) (aJ g j) E p _ λl X I y=>⟨_,rfl,?_⟩⟩;have M:nO (dQ (aQ ms) p) p i=i7 (aQ ms) p i:=by unfold i7;rw[B,if_pos rfl]
    rw[M]at y;have Y:=B8 (aQ ms) p i;have A:=aJ I d;show(xK A y<|by rw[ZT,ZT,è];lia).mpr<|.mk (cX (g.trans I) (Z2 _) _) ?_;rw[cY A,x,ý]
  .rintro v u ⟨g,d⟩;show⟨rfl,bQ ⟨_,rfl,H _ _ (K.trans g) ?_⟩⟩;unfold iE;rw[if_neg e];show d
def Ca k(hw:1<=w/\w<=6)(l:1<=h/\h<=6)(c:Hm)(Q:jz)(H:∀a μ',c<+:μ'->μ'[a]?=b0 (.lst<|((b9 w h).filter c6).map PP)->Q (.loc a,μ')):W (f (k+2) "corners_in" [.int w,.int h] c) Q:=by
 show È (V1 (k+1) _ _ c) (bQ<|fZ (xs:=(b9 w h).map PP) (p:=λd=>c6<|dP d) (v:=λd=>d)<|Ê.mpr<|aL rfl<|B0 _ w h ⋯ ⋯ _ _ λa j i e n=>?_);show(cT e).mpr ⟨i0 e,rfl,?_,λd μ' hd b=>?_,λd μ' hd _ b=>⟨_,rfl,rfl,õ _⟩,λμ' b g=>?_⟩
 .have:=uB (w:=w) (h:=h) ⋯ ⋯;rw[ZT,è];lia
 .obtain⟨u,v,rfl⟩:=nN hd;show fJ<|aL rfl<|(W0 k u v _ _).mpr ⟨rfl,rfl,õ _⟩
 .show H _ _ (i.trans b) ?_;rw[g,rL c6]
def IF{a:Type}{l A B:List a}{x:a}{q:a->Bool}(b:l=A++x::B)(hA:∀y∈A,q y=dI)(c:q x=eA):l.find? q=b0 x:=by
 rw[b,O9];have:A.find? q=none:=ie.mpr λy d=>by rw[hA y d];show Z6
 rw[this,List.find?_cons_of_pos c];rfl
def IG{a:Type}{l:List a}{x:a}(h:l[i]?=b0 x):l=l.take i++x::l.drop (i+1):=by obtain⟨b,rfl⟩:=ZW.mp h;rw[<- il b,ŵ]
abbrev IH:Option (Int×Int)->D
 |none=>.non|some p=>PP p
abbrev bN(w h:Int):jq:=(b9 w h).filter c6
abbrev cN(m:Int×Int->Bool)(p:Int×Int):Bool:=!(kS<|c9 m p)
inductive Qw (ms:List ((Int×Int)×Str))(w h:Int)(cs:jq)(q:Int×Int->Bool)(ν:Hm):Nat->aF->Hm->Prop
 |mk {i:Nat}{x:Option D}{μ:Hm}(p:ν<+:μ)(ok:∀z∈cs.take i,q z=dI):Qw ms w h cs q ν i [b0<|SH w h ms,x] μ
def II{b:jq}{q:Int×Int->Bool}(ok:∀y∈b.take i,q y=dI)(hz:b[i]?=b0 z)(c:q z=dI):∀y∈b.take (i+1),q y=false:=λy a=>by
 rw[di,hz]at a;rcases ù.mp a with a|a
 .show ok y a
 .have:y=z:=by simpa using a
  rw[this];show c
def Xh k(hw:1<=w/\w<=6)(A:1<=h/\h<=6)ms(j:Hm)(Q:jz)(H:∀μ',j<+:μ'->Q (IH<|(bN w h).find?<|cN<|aQ ms,μ')):W (f (k+5) "barred" [SH w h ms] j) Q:=by
 show È (V7 (k+4) _ j)<|Ë.mpr<|É.mpr<|Ê.mpr<|aL rfl<|Ca (k+2) hw A _ _ λa l s o=>(cT o).mpr ?_;show gQ (xs:=(bN w h).map PP) (Qw ms w h (bN w h) (cN<|aQ ms) l) (.mk (õ _) λz g=>by simp at g) (by rintro _ _ _ ⟨p,_⟩;show aJ p o) ?_ ?_
 .rintro i d I n hd ⟨c,ok⟩;obtain⟨z,g,rfl⟩:=kU hd;show⟨_,rfl,Ñ.mpr<|pH<|fJ (b:=kS (c9 (aQ ms) z))<|dO<|aT<|aL rfl<|IE k w h ms z.1 z.2 _ _ λb E u x=>⟨_,rfl,?_⟩⟩;show WW (k+2) b (c9 (aQ ms) z) (by have:=uE (aQ ms) z;have:=uF (aQ ms) z;lia) _ _ x λG v=>⟨rfl,?_⟩;cases r:kS (c9 (aQ ms) z)with
  |true=>show(if_neg Z6).mpr (Ï.mpr<|.mk (c.trans<|u.trans v)<|II ok g<|by unfold cN;rw[r];rfl)|false=>have e:=IF (q:=cN (aQ ms)) (IG g) ok (by unfold cN;rw[r];rfl);rw[e]at H;show(if_pos rfl).mpr<|Ù.mpr ⟨_,rfl,H _<|s.trans<|c.trans<|u.trans v⟩
 .rintro I n ⟨c,ok⟩;rw[ZT,š]at ok;have e:(bN w h).find? (cN<|aQ ms)=none:=ie.mpr λy B=>by rw[ok y B];show Z6
  rw[e]at H;show bQ ⟨_,rfl,H _<|s.trans c⟩
abbrev f7(m:Int×Int->Bool)(w h:Int):List Ti:=(bN w h).flatMap<|iE m
abbrev kW(ts:List Ti):List Ti:=(cI (m5 ts) ts.length).map λi=>ts.getD i gJ
def IJ:∀ts,tK (ts.map dM)=b0 ts
 |[]=>rfl|t::ts=>by
  have h:wZ (dM t)=b0 t:=by change(cM<|.tup<|t.1.map D.int).bind (λk=>(cM<|.tup<|t.2.1.map D.int).bind λm=>(cM<|.tup<|t.2.2.2.map D.int).map λn=>(k,m,t.2.2.1,n))=_;rw[BG,BG,BG];rfl
  change(wZ<|dM t).bind (λx=>(tK<|ts.map dM).map (x::·))=_;rw[h,IJ ts];rfl
def Xi(g:b[a]?=b0 (.lst<|ts.map dM))(h:jN ts):qY [.loc a] b=b0 (.loc b.length,b++[.lst<|(kW ts).map dM]):=by
 have e:e8 b (.loc a)=b0 (ts.map dM):=by simp only[e8,g]
 simp only[qY,e,Ē,IJ,if_pos h];have d:(cI (m5 ts) ts.length).map (λi=>(ts.map dM).getD i .non)=(kW ts).map dM:=by unfold kW;rw[Û];show eG λi c=>?_;have c:i<ts.length:=Ō.mp<|(fU _ _).mem_iff.mp c;simp[Ğ,c]
 rw[d]
def Xj k(hw:1<=w/\w<=6)(c:1<=h/\h<=6)(b:(bN w h).find? (cN<|aQ ms)=b5)(a:Hm)(Q:jz)(H:∀μ',a<+:μ'->Q (.non,μ')):W (f (k+6) "check_corners" [SH w h ms] a) Q:=by show È (V8 (k+5) _ a)<|aV<|aL rfl<|Xh k hw c ms _ _ λμ' d=>?_;rw[b];show Ñ.mpr<|bZ<|bF rfl rfl<|ë.mpr ⟨_,rfl,(if_neg Z6).mpr<|Ï.mpr<|H _ d⟩
inductive QZ (ms:List ((Int×Int)×Str))(w h:Int)(l:Nat)(ν:Hm):Nat->aF->Hm->Prop
 |mk {i:Nat}{x:Option D}{μ:Hm}(p:ν<+:μ)(g:μ[l]?=b0 (.lst<|(((bN w h).take i).flatMap<|iE<|aQ ms).map dM)):QZ ms w h l ν i [b0<|SH w h ms,b0<|.loc l,x] μ
def Xk(hw:1<=w/\w<=6)(c:1<=h/\h<=6):(bN w h).length<=1000:=by have a:=uB (w:=w) (h:=h) ⋯ ⋯;have b:=bc c6<|b9 w h;unfold bN;lia
def Xl k(hw:1<=w/\w<=6)(p:1<=h/\h<=6)(G:(bN w h).find? (cN<|aQ ms)=b5)(I:jN (f7 (aQ ms) w h))(o:Hm)(Q:jz)(H:∀l μ',o<+:μ'->o.length<=l->μ'[l]?=b0 (.lst<|(kW<|f7 (aQ ms) w h).map dM)->Q (.loc l,μ')):W (f (k+7) "ties" [SH w h ms] o) Q:=by
 show È (We (k+6) _ o)<|pE<|aL rfl<|Xj k hw p G _ _ λb s=>aV<|Ā.mpr ⟨_,rfl,ŀ _,dN<|É.mpr<|Ê.mpr<|aL rfl<|Ca (k+4) hw p _ _ λa M u c=>(cT c).mpr ?_⟩;have K:=s.trans<|aU b<|C.lst [];have hc:=Xk hw p;have j:a≠b.length\/bN w h=[]:=by
  by_cases z:a=b.length
  .right;have L:=aJ u<|aZ b<|C.lst [];rw[z,L]at c;injection c with c;injection c with c;show Og.mp c.symm
  .show .inl z
 show gQ (xs:=(bN w h).map PP) (λi y μ'=>QZ ms w h b.length b i y μ'/\μ'[a]?=b0 (.lst<|(bN w h).map PP)) ⟨.mk ((aU _ _).trans u)<|aJ u<|aZ _ _,c⟩ (by rintro _ _ _ ⟨_,g⟩;show g) ?_ ?_
 .rintro i d O x hd ⟨⟨n,e⟩,E⟩;obtain⟨z,r,rfl⟩:=kU hd;show⟨_,rfl,Ø.mpr<|fB ⟨_,rfl,eS e,aT<|aL rfl<|Xg k w h ms z _ _ λl N v B=>⟨_,rfl,?_⟩⟩⟩;have A:=aJ v e;have R:=pJ (B9<|aQ ms)<|(bN w h).take i;have T:=B9 (aQ ms) z;have U:=Of i<|bN w h;have X:=Mb i<|bN w h;show(xK A B<|by rw[ZT,ZT,è];lia).mpr ⟨.mk (cX (n.trans v) (Z2 _) _) ?_,?_⟩
  .rw[cY A,di,r];simp
  .rcases j with j|j
   .rw[Č<|ó j];show aJ v E
   .rw[j]at r;cases r
 .rintro O x ⟨⟨n,e⟩,_⟩;rw[ZT,š]at e;show⟨rfl,bQ<|aL rfl<|a9 (Xi (ts:=f7 (aQ ms) w h) e I)<|H _ _ ((s.trans n).trans<|aU _ _) (ė s.length_le n.length_le)<|aZ _ _⟩
def Xm(e:s d a=b0 (b,a))(g:t d a=b0 (c,a)):fR s t d a=b0 (b&&c,a):=bT<|ģ.mpr ⟨_,e,by
 cases b with
 |true=>show(if_pos rfl).mpr ⟨_,g,rfl⟩
 |false=>show(if_neg Z6).mpr rfl⟩
def Xn{L:jq}(g:b[a]?=b0 (.lst<|L.map PP))(d:L.length<1000)(H:R (.nx,[d0,b0<|.loc a,b0<|.int x,b0<|.int y],b.set a<|.lst<|(L++[(x,y)].filter c6).map PP)):W (BH [d0,b0<|.loc a,b0<|.int x,b0<|.int y] b) R:=by
 show Ñ.mpr ⟨_,Xm (b:=x%2==0) (c:=x%4==y%4) (by kernel_rfl)<|by kernel_rfl,?_⟩;have e:(x%2==0&&x%4==y%4)=c6 (x,y):=rfl;rw[e];cases c:c6 (x,y)with
 |true=>rw[PJ c,OQ,ý]at H;show(if_pos rfl).mpr (Ø.mpr<|fB ⟨_,rfl,eS g,aT ⟨_,rfl,_,rfl,(i5 g<|by rw[ZT,è];lia).mpr H⟩⟩)|false=>rw[PH<|by rw[c];show Z6,OQ,Ň,uC g]at H;show(if_neg Z6).mpr<|Ï.mpr H
inductive Qk (d0:Option D)(a:Nat)(F:Nat->jq)(x:Option D)(ν:Hm):Nat->aF->Hm->Prop
 |mk {i:Nat}{o:Option D}{μ:Hm}(e:μ=ν.set a (.lst<|(F i).map PP)):Qk d0 a F x ν i [d0,b0<|.loc a,x,o] μ
inductive Qj (d0:Option D)(a:Nat)(F:Nat->jq)(ν:Hm):Nat->aF->Hm->Prop
 |mk {i:Nat}{o o':Option D}{μ:Hm}(e:μ=ν.set a (.lst<|(F i).map PP)):Qj d0 a F ν i [d0,b0<|.loc a,o,o'] μ
def ϕ{ν:Hm}:(ν.set a x).set a y=ν.set a y:=by simp
def Xo k(hw:1<=w/\w<=6)(o:1<=h/\h<=6)ms a(Q:jz)(H:Q (.loc a.length,a++[.lst<|(bN w h).map PP])):W (f (k+1) "_law_inner" [SH w h ms] a) Q:=by
 have fin:∀w∈[(1:Int),2,3,4,5,6],∀h∈[(1:Int),2,3,4,5,6],(kT 1 (4*w-1).toNat (4*h-1).toNat).filter c6=bN w h:=by decide +kernel
 rw[<- fin w (rM hw) h<|rM o]at H;show È (WJ k _ a) (aV<|Ā.mpr ⟨_,rfl,ŀ _,dN<|É.mpr<|Ľ.mpr<|aT ⟨_,rfl,aT<|aO ⟨_,rfl,bF rfl rfl<|jf.mpr<|ŏ.mpr ⟨_,rfl,⟨by lia,by lia,by lia⟩,?_⟩⟩⟩⟩);have sz:(4*h-1).toNat<=23/\(4*w-1).toNat<=23:=by lia
 generalize(4*w-1).toNat=n at H sz;generalize hm:(4*h-1).toNat=m at H sz;show nM (Qj (b0<|SH w h ms) a.length (λi=>(kT 1 i m).filter c6)<|a++[C.lst []]) (.mk (uC<|aZ _ _).symm) ?_ ?_
 .rintro i d b r ⟨rfl⟩;show⟨_,rfl,É.mpr<|Ľ.mpr<|aT ⟨_,rfl,aT<|aO ⟨_,rfl,bF rfl rfl<|je.mpr<|ŏ.mpr ⟨_,rfl,⟨by lia,by lia,by lia⟩,?_⟩⟩⟩⟩;rw[hm];show nM (b:=BH) (Qk (b0<|SH w h ms) a.length (λj=>(kT 1 i m).filter c6++(jU 1 (1+(i:Int)) j).filter c6) (b0<|.int<|1+(i:Int))<|a++[C.lst []]) (.mk<|by change _=_;simp[jU]) ?_ ?_
  .rintro j d c s ⟨rfl⟩;have l:=cY (c':=C.lst (((kT 1 i m).filter c6++(jU 1 (1+(i:Int)) j).filter c6).map PP))<|aZ a<|C.lst [];have e:=bc c6<|kT 1 i m;have g:=bc c6<|jU 1 (1+(i:Int)) j;rw[Iw]at e;rw[Iu]at g;have p:=Na (show i<=23 by lia) (show m<=23 by lia);show⟨_,rfl,Xn l (by rw[Z4];lia)<|.mk ?_⟩;rw[ϕ,WY,nA,ú]
  .rintro d c ⟨rfl⟩;show .mk ?_;rw[Ir,nA]
 .rintro d b ⟨rfl⟩;show⟨rfl,bQ ⟨_,rfl,?_⟩⟩;rw[B2];show H
def Cb{ps:jq}{Q:jz}(h:c[a]?=b0 (.lst<|ps.map PP)):W (c3 b (PP q) (.loc a) c) Q↔Q (.bl<|if b then !(ps.any λp=>p==q)else ps.any λp=>p==q,c):=by
 have e:c3 b (PP q) (.loc a) c=b0 (.bl<|if b then !(ps.any λp=>p==q)else ps.any λp=>p==q,c):=by
  simp only[c3,h];unfold oI;have e:bL c (.loc a)=b0 (ps.map PP):=by simp only[bL,h]
  rw[e];change(lI c (PP q)<|ps.map PP).map _=_;rw[Iq];rfl
 rw[e];show À
abbrev nI:D->Int
 |.int i=>i|_=>0
def Xp(h:c6 z=eA):z.1%4=0\/z.1%4=2:=by
 unfold c6 at h;have:z.1%2=0:=by simpa using(ug.mp h).1
 lia
def Xq{μ:Hm}(hz:c6 z=eA)(g:μ[s]?=b0 (.lst<|E8.map PP))(H:∀s μ',μ<+:μ'->μ'[s]?=b0 (.lst<|(bY z.1).map PP)->R (.nx,[a0,b0<|PP z,b0<|.loc s,a3,a4,a5,a6,a7],μ')):
  W (bG (aR<|aC (a8 dI) (aC aX (aC aE (aA 1)<|mC<|.int 0)<|mC<|.int 4)<|mC<|.int 2) (aM 2<|dR (qT<|aB (mC<|.int 1)<|aB (mC<|.int 8)<|aB (mC<|.int 2) aD) d9<|aC aE (aA 2)<|aA 8) bI [a0,b0<|PP z,b0<|.loc s,a3,a4,a5,a6,a7] μ) R:=by
 show Ñ.mpr ⟨(z.1%4==2,μ),by kernel_rfl,?_⟩;rcases Xp hz with e|e
 .rw[e];show(if_neg<|show ¬ ((0:Int)==2)=eA by decide).mpr<|Ï.mpr<|H s μ (õ _) ?_;unfold bY;rw[if_pos e];show g
 .rw[e];show(if_pos rfl).mpr<|ø.mpr<|fZ (xs:=[.int 1,.int 3,.int 5,.int 7]) (p:=λ_=>eA) (v:=λd=>PP<|E8.getD (nI d).toNat (0,0))<|VF ⟨_,rfl,1,8,2,rfl,by decide,λμ' i _=>?_,rfl,by decide,λd μ' hd a=>Ü.mpr ⟨rfl,õ _⟩,λd μ' hd _ a=>?_,λμ' a b=>H _ _ a ?_⟩
  .match i with
   |0=>rfl|1=>rfl|2=>rfl|3=>rfl|n+4=>rfl
  .have c:d=.int 1\/d=.int 3\/d=.int 5\/d=.int 7:=by simpa using hd
   rcases c with rfl|rfl|rfl|rfl<;>show bF rfl rfl<|(fH (aJ a g) rfl).mpr ⟨rfl,õ _⟩
  .rw[b];unfold bY;rw[if_neg<|by lia];rfl
def Xr{μ:Hm}(e:l.length<=63)(g:μ[s]?=b0 (.lst<|l.map PP)){Q:jz}(H:∀b μ',μ<+:μ'->μ'[b]?=b0 (.lst<|(mv z.1 z.2 l).map PP)->Q (.loc b,μ')):
  W (eK (jZ 2) (b8<|aA 2) d9 (aW<|aB (aC bA (aC aE (aA 1)<|mC<|.int 0)<|aA 8)<|aB (aC bA (aC aE (aA 1)<|mC<|.int 1)<|aA 9) aD) [a0,b0<|PP z,b0<|.loc s,a3,a4,a5,a6,a7] μ) Q:=by
 show t7 (xs:=l.map PP) (x:=λd=>[b0<|.int (dP d).1,b0<|.int (dP d).2]) (p:=λ_=>eA) (v:=λd=>PP (z.1+(dP d).1,z.2+(dP d).2))<|Ê.mpr ⟨_,rfl,(cT g).mpr ⟨i0 g,rfl,by rw[ZT,è];lia,λd μ' hd=>?_,λd μ' hd a=>Ü.mpr ⟨rfl,õ _⟩,λd μ' hd _ a=>?_,λμ' a c=>H _ _ a ?_⟩⟩
 .obtain⟨u,v,rfl⟩:=nN hd;rfl
 .obtain⟨u,v,rfl⟩:=nN hd;show⟨(PP (z.1+u,z.2+v),μ'),by kernel_rfl,rfl,õ _⟩
 .rw[c,ue.mpr λ_ _=>rfl,Û];unfold mv;rw[Û];rfl
def Xs{μ:Hm}{es ps:jq}(s:es.length<=8)(g:μ[a]?=b0 (.lst<|es.map PP))(o:μ[c]?=b0 (.lst<|ps.map PP)){Q:jz}(H:∀b μ',μ<+:μ'->μ'[b]?=b0 (.lst<|(cE<|es.map λq=>ps.any λp=>p==q).map D.int)->Q (.loc b,μ')):
  W (dR (iT<|aB (aG bX<|aB (aA 4) aD) aD) (aR<|aC (c3 dI) (aC aE (aA 4)<|aA 8)<|aA 0) (aA 8) [b0<|.loc c,b0<|PP z,a3,a5,b0<|.loc a,a6,a7,a0] μ) Q:=by
 have n:bX [.loc a] μ=b0 (.int (es.length:Nat),μ):=bT ((fI g).mpr<|by rw[ZT]);show fZ (xs:=iD 0 es.length) (p:=λd=>(es.map λq=>ps.any λp=>p==q).getD (nI d).toNat dI) (v:=λd=>d) ((rB (j:=0)).mpr<|aT<|aL rfl<|a9 n ⟨_,rfl,⟨by lia,by lia⟩,?_⟩);dsimp only;rw[gf];show⟨HC,by unfold iD;rw[ZT,ώ],by unfold iD;rw[ZT,ώ,è];lia,λd μ' hd e=>?_,λd μ' hd _ e=>⟨_,rfl,rfl,õ _⟩,λμ' e r=>H _ _ e ?_⟩
 .obtain⟨i,h,rfl⟩:=Õ.mp hd;have h:=Ō.mp h;rw[qw];show bZ<|aO<|bF rfl rfl ⟨_,gM (aJ e g) h,_,rfl,(Cb<|aJ e o).mpr ⟨_,rfl,?_,õ _⟩⟩;change _=(es.map λq=>ps.any λp=>p==q).getD ((i:Int)).toNat dI;rw[gf];simp[Ğ,h]
 .rw[r];unfold iD cE;rw[sr,Û,Û,ZT];have j:((λd:D=>d)∘λ(i:Nat)=>D.int<|0+(i:Int))=D.int∘λ(i:Nat)=>(i:Int):=by funext i;simp
  have l:((λd:D=>(es.map λq=>ps.any λp=>p==q).getD (nI d).toNat dI)∘λ(i:Nat)=>D.int<|0+(i:Int))=λ(i:Nat)=>(es.map λq=>ps.any λp=>p==q).getD i false:=by funext i;simp[nI]
  rw[j,l]
abbrev iF(bs:List Bool):List Int:=(ă (cE bs).length).map λk=>((((cE bs).getD ((k+1)%(cE bs).length) 0-(cE bs).getD k 0-1)%(bs.length:Int))+1)*(8/(bs.length:Int))
def Xu:∀a b c d e g h i,iF [a,b,c,d,e,g,h,i]=fK [a,b,c,d,e,g,h,i]:=by decide +kernel
def Xv:∀a b c d,iF [a,b,c,d]=fK [a,b,c,d]:=by decide +kernel
def Xw m x y:iF ((mv x y<|bY x).map m)=fK ((mv x y<|bY x).map m):=by
 unfold bY mv;split
 .show Xu ..
 .show Xv ..
def XA{es:jq}m:(cE<|es.map m).map (λi=>es.getD i.toNat (0,0))=es.filter m:=by
 unfold cE;rw[Û,ZT];induction es with
 |nil=>rfl|cons e es b=>
  rw[ć,Mw,zg,sr];have c:((λi=>((e::es).map m).getD i dI)∘Nat.succ)=λi=>(es.map m).getD i false:=by funext i;simp
  rw[c];cases a:m e with
  |true=>simp only[é,Oe,a,if_true,PJ];rw[Û,<- b];rfl|false=>simp only[é,Oe,a,Į,if_false];rw[PH<|by rw[a];show Z6,Û,<- b];rfl
def Cd{gs:List Int}(g:b[a]?=b0 (.lst<|gs.map D.int))(h:i<gs.length):aE (.loc a) (.int (i:Int)) b=b0 (.int<|gs.getD i 0,b):=bT<|(fH g<|l9<|xT h).mpr rfl
def XB{n:Nat}(u:n=8\/n=4)(r:es.length=n){d:List Int}(s:k<d.length)(p:e[a]?=b0 (.lst es))(g:e[b]?=b0 (.lst<|d.map D.int))(j:e[c]?=b0 (.lst<|gs.map D.int))(z:gs.length<=100)(H:∀x,R (.nx,[d0,d1,d2,b0<|.int (k:Int),b0<|.loc a,b0<|.loc b,b0<|.loc c,x],e.set c<|.lst<|(gs++[(((d.getD ((k+1)%d.length) 0-d.getD k 0-1)%(n:Int))+1)*(8/(n:Int))]).map D.int)):
  W (BI [d0,d1,d2,b0<|.int (k:Int),b0<|.loc a,b0<|.loc b,b0<|.loc c,x] e) R:=by
 have v:(k+1)%d.length<d.length:=kj _ ⋯;have o:bX [.loc b] e=b0 (.int (d.length:Nat),e):=bT ((fI g).mpr<|by rw[ZT]);have i:bX [.loc a] e=b0 (.int (n:Nat),e):=bT ((fI p).mpr<|by rw[r]);have l:aE (.loc b) (.int<|((k:Int)+1)%(d.length:Nat)) e=b0 (.int<|d.getD ((k+1)%d.length) 0,e):=by rw[B7];show Cd g v
 have h:(0:Int)<(n:Int):=by lia
 show aV (aO<|aO<|aO<|aO<|aO ⟨_,rfl,aO<|bF rfl rfl<|î.mpr<|aL rfl<|a9 o<|(eD<|by lia).mpr ⟨_,l,bF rfl rfl ⟨_,Cd g s,į.mpr ⟨_,rfl,į.mpr<|aL rfl<|a9 i<|(eD h).mpr ⟨_,rfl,î.mpr ?_⟩⟩⟩⟩⟩);have w:=dj (d.getD ((k+1)%d.length) 0-d.getD k 0-1) (show(n:Int)≠0 by lia);have y:=gk (d.getD ((k+1)%d.length) 0-d.getD k 0-1) h;rw[ý]at H;show Ø.mpr (fB ⟨_,rfl,eS j,aT<|aO ⟨_,rfl,aO ⟨_,rfl,aL rfl<|a9 i<|(tZ h ?_).mpr<|(nK<|.inl<|by lia).mpr ⟨_,rfl,(i5 j<|by rw[ZT,è];lia).mpr<|H _⟩⟩⟩⟩);rcases u with rfl|rfl<;>decide
inductive Ql (d0 d1 d2:Option D)(a b c:Nat)(ν:Hm)(F:Nat->List Int):Nat->aF->Hm->Prop
 |mk {i:Nat}{x y:Option D}{μ:Hm}(p:ν<+:μ)(g:μ[c]?=b0 (.lst<|(F i).map D.int)):Ql d0 d1 d2 a b c ν F i [d0,d1,d2,x,b0<|.loc a,b0<|.loc b,b0<|.loc c,y] μ
def XC k(hz:c6 z=eA){n:Hm}(U:n[c]?=b0 (.lst<|(ms.map (·.1)).map PP))(Q:jz)(H:∀a b μ',n<+:μ'->μ'[a]?=b0 (.lst<|(dQ (aQ ms) z).map PP)->μ'[b]?=b0 (.lst<|(c9 (aQ ms) z).map D.int)->Q (.tup [.loc a,.loc b],μ')):W (f (k+1) "_law_round_a" [.loc c,PP z] n) Q:=by
 have w:(mv z.1 z.2<|bY z.1).length=8\/(mv z.1 z.2<|bY z.1).length=4:=by have:=xS z.1;unfold mv;rw[ZT];show this
 show È (WI k _ _ n) ?_;show aV (a9 (r:=(.loc n.length,n++[.lst<|E8.map PP])) (by kernel_rfl) ?_);show dN ?_;show Xq (s:=n.length) hz (aZ _ _) λs μ1 p1 T=>⟨rfl,?_⟩;show aV ?_;show Xr (by have:=xS z.1;lia) T λa μ2 p2 G=>?_;show aV ?_;have L:=(aU n<|C.lst<|E8.map PP).trans<|p1.trans p2;show Xs ⋯ G (aJ L U) λb g K p=>?_;show aV<|a9 (r:=(.loc g.length,g++[C.lst []])) rfl ?_;show dN<|É.mpr ?_;replace p:g[b]?=b0 (.lst<|(cE<|(mv z.1 z.2<|bY z.1).map<|aQ ms).map D.int):=p;have o:=aJ K G;generalize hbs:(mv z.1 z.2<|bY z.1).map (aQ ms)=bs at p;have I:bs.length=(mv z.1 z.2<|bY z.1).length:=by rw[<- hbs,ZT]
 have E:iF bs=c9 (aQ ms) z:=by rw[<- hbs];show Xw _ _ _
 have hx:(cE bs).length<=8:=by
  have h1:=uE (aQ ms) z;have h2:=uF (aQ ms) z;have X:(iF bs).length=(cE bs).length:=by unfold iF;rw[ZT,ώ]
  rw[E]at X;lia
 have gB:=aJ (aU g<|C.lst []) p;have gA:=aJ (aU g<|C.lst []) o;have O:bX [.loc b] (g++[C.lst []])=b0 (.int ((cE bs).length:Nat),g++[C.lst []]):=bT ((fI gB).mpr<|by rw[ZT]);show(rB (j:=0)).mpr (aT<|aL rfl<|a9 O ⟨_,rfl,⟨by lia,by lia⟩,?_⟩);dsimp only;rw[gf];show nM (b:=BI) (Ql (b0<|.loc c) (b0<|PP z) (b0<|.loc s) a b g.length g λi=>(iF bs).take i) (.mk (aU _ _)<|by rw[ų];show aZ _ _) ?_ ?_
 .rintro i B A u ⟨h,r⟩;show⟨_,rfl,?_⟩;rw[qw];have M:(iF bs).take (i+1)=(iF bs).take i++[(((cE bs).getD ((i+1)%(cE bs).length) 0-(cE bs).getD i 0-1)%(((mv z.1 z.2<|bY z.1).length:Nat):Int)+1)*(8/(((mv z.1 z.2<|bY z.1).length:Nat):Int))]:=by rw[di,<- I];unfold iF;rw[þ,MX u];rfl
  show XB (es:=(mv z.1 z.2<|bY z.1).map PP) w (by rw[ZT]) u (aJ h o) (aJ h p) r (by rw[Ġ];unfold iF;rw[ZT,ώ];lia) λx=>.mk (cX h (Z2 _) _) ?_;rw[cY r,M]
 .rintro B A ⟨h,r⟩;have N:(iF bs).take (cE bs).length=c9 (aQ ms) z:=by rw[<- E];show ϳ<|by unfold iF;rw[ZT,ώ];show Z2 _
  rw[N]at r;show⟨rfl,bQ<|í.mpr<|aT<|fZ (xs:=(cE bs).map D.int) (p:=λ_=>eA) (v:=λd=>PP<|(mv z.1 z.2<|bY z.1).getD (nI d).toNat (0,0))<|Ê.mpr ⟨_,rfl,(cT<|aJ h p).mpr ⟨i0<|aJ h p,rfl,by rw[ZT,è];lia,λd μ' hd v=>Ü.mpr ⟨rfl,õ _⟩,λd μ' hd _ v=>?_,λμ' v Y=>⟨_,rfl,jR,H _ _ _ (L.trans<|K.trans<|h.trans v) ?_<|aJ v r⟩⟩⟩⟩
  .obtain⟨i,u,rfl⟩:=Õ.mp hd;have y:0<=i/\i.toNat<(mv z.1 z.2<|bY z.1).length:=by unfold cE at u;obtain⟨j,Z,rfl⟩:=Õ.mp u;have:=Ō.mp (ş.mp Z).1;rw[I]at this;show⟨by lia,by lia⟩
   have R:i=((i.toNat:Nat):Int):=by lia
   show bF rfl rfl ⟨(PP<|(mv z.1 z.2<|bY z.1).getD i.toNat (0,0),μ'),?_,rfl,õ _⟩;change aE (.loc a) (.int i) μ'=b0 (PP<|(mv z.1 z.2<|bY z.1).getD i.toNat (0,0),μ');rw[R];show gM (aJ (h.trans v) o) y.2
  .rw[Y,ue.mpr λ_ _=>rfl,Û];have e:=congrArg (yc PP)<|XA (es:=mv z.1 z.2 (bY z.1))<|aQ ms;rw[hbs,Û]at e;show congrArg (λl=>b0<|C.lst l) e
abbrev Kp(l:Nat)(a μ':Hm):Prop:=∀j y,j≠l->a[j]?=b0 y->μ'[j]?=b0 y
def Kp.pre{a μ':Hm}(p:a<+:μ'):Kp l a μ':=λ_ _ _ h=>aJ p h
def Kp.trans(a:Kp l d μ')(b:Kp l μ' c):Kp l d c:=λj y n h=>b j y n<|a j y n h
def Kp.set:Kp l a (a.set l x):=λj y n h=>by rw[Č<|ó n];show h
def Kp.all{ν:Hm}(a:Kp l b μ')(p:ν<+:b)(h:ν.length<=l):ν<+:μ':=by show List.prefix_iff_getElem?.mpr λi c=>?_;show a i _ ⋯<|aJ p<|ZY c
def XD(o:aA j n g=b0 (SH w h ms,g))(u:∀e s μ',aA v (n++[b0<|PP e,b0<|.str s]) μ'=b0 (PP e,μ'))(x:ms.length<=1000){Q:jz}(H:∀c μ',g<+:μ'->μ'[c]?=b0 (.lst<|(ms.map (·.1)).map PP)->g.length<=c->Q (.loc c,μ')):W (eK (jZ 2) (b8<|aC aE (aA j)<|mC<|.int 2) d9 (aA v) n g) Q:=by
 show t7 (xs:=ms.map MD) (x:=λd=>match d with|.tup [a,b]=>[b0 a,b0 b]|_=>[]) (p:=λ_=>eA) (v:=λd=>match d with|.tup [a,_]=>a|_=>.non)<|Ê.mpr<|bF o rfl<|Œ.mpr ⟨_,rfl,λμ' i l=>rfl,rfl,by rw[ZT,è];lia,λd μ' hd=>?_,λd μ' hd l=>Ü.mpr ⟨rfl,õ _⟩,λd μ' hd _ l=>?_,λμ' l r=>H _ _ l ?_<|Z2 _⟩
 .obtain⟨e,p,rfl⟩:=Õ.mp hd;rfl
 .obtain⟨e,p,rfl⟩:=Õ.mp hd;show⟨_,u e.1 e.2 μ',rfl,õ _⟩
 .rw[r,ue.mpr λ_ _=>rfl,Û,Û];rfl
inductive LtI (w h:Int)(ms:List ((Int×Int)×Str))(c l:Nat)(ν:Hm):Nat->aF->Hm->Prop
 |mk {i:Nat}{x3 x4 x5 x6 x7:Option D}{μ:Hm}(kp:Kp l ν μ)(g:μ[l]?=b0 (.lst<|(((bN w h).take i).flatMap<|iE<|aQ ms).map dM)):LtI w h ms c l ν i [b0<|SH w h ms,b0<|.loc c,b0<|.loc l,x3,x4,x5,x6,x7] μ
def XE:∀w∈[(1:Int),2,3,4,5,6],∀h∈[(1:Int),2,3,4,5,6],(bN w h).length<=61:=by decide +kernel
abbrev xU:D->Int
 |.tup [.int i,.int g]=>g*(1-2*(i%2))|_=>0
abbrev Ce(gs:List Int):Int:=((i6 0<|gs.map D.int).map xU).sum
abbrev xV(gs:List Int):Bool:=(gs.length:Int)%2==1||!(Ce gs==0)
def XF:∀a b c d e g h i,xV (fK [a,b,c,d,e,g,h,i])=!(kS<|fK [a,b,c,d,e,g,h,i]):=by decide +kernel
def XG:∀a b c d,xV (fK [a,b,c,d])=!(kS<|fK [a,b,c,d]):=by decide +kernel
def XH m p:xV (c9 m p)=cN m p:=by
 unfold cN c9 bY mv;split
 .show XF ..
 .show XG ..
abbrev XI:D->aF
 |.tup [a,b]=>[b0 a,b0 b]|_=>[]
def XJ(p:aA 3 n h=b0 (.loc a,h))(l:∃x y z t,n=[x,y,z,t])(g:h[a]?=b0 (.lst<|gs.map D.int))(w:gs.length<=8)(r:∀x∈gs,-100<=x/\x<=100){Q:jz}(H:∀μ',h<+:μ'->Q (.int<|Ce gs,μ')):
  W (aG jL (aB (eK (jZ 2) (qR<|aB (aA 3) aD) d9<|aC cB (aA 5)<|aC cW (mC<|.int 1)<|aC cB (mC<|.int 2)<|aC aX (aA 4)<|mC<|.int 2) aD) n h) Q:=by
 obtain⟨x,y,z,t,rfl⟩:=l;show rJ<|t7 (xs:=i6 0 (gs.map D.int)) (x:=XI) (p:=λ_=>eA) (v:=λd=>.int<|xU d)<|Vx<|aT ⟨_,p,_,rfl,a,_,rfl,g,Vy g,by rw[BF],by rw[BF,ZT,è];lia,λd μ' hd=>?_,λd μ' hd j=>Ü.mpr ⟨rfl,õ _⟩,λd μ' hd _ j=>?_,λμ' j b=>?_⟩
 .obtain⟨i,c⟩:=pq hd;rw[xM]at c;obtain⟨e,_,rfl⟩:=ZX.mp c;rfl
 .obtain⟨i,c⟩:=pq hd;rw[xM]at c;obtain⟨e,o,rfl⟩:=ZX.mp c;rw[þ]at o;obtain⟨v,s,rfl⟩:=ZX.mp o;have u:=r v<|Ĳ s;show aO ⟨_,rfl,aO ⟨_,rfl,aO ⟨_,rfl,bF rfl rfl<|Ł.mpr<|j5.mpr<|į.mpr<|(nK<|.inl<|by lia).mpr ⟨rfl,õ _⟩⟩⟩⟩
 .rw[ue.mpr λ_ _=>rfl]at b;have e:(i6 0<|gs.map D.int).map (λd=>D.int<|xU d)=((i6 0<|gs.map D.int).map xU).map D.int:=by rw[Û];rfl
  rw[e]at b;show(BE b).mpr<|H _ j
def XM:∀a b c d e g h i,∀x∈fK [a,b,c,d,e,g,h,i],-100<=x/\x<=100:=by decide +kernel
def XN:∀a b c d,∀x∈fK [a,b,c,d],-100<=x/\x<=100:=by decide +kernel
def XO m p:∀x∈c9 m p,-100<=x/\x<=100:=by
 unfold c9 bY mv;split
 .show XM _ _ _ _ _ _ _ _
 .show XN _ _ _ _
def XQ k{g:Hm}(hz:c6 p=eA)(u:g[c]?=b0 (.lst<|(ms.map (·.1)).map PP))(i:cN (aQ ms) p=eA->∀x μ',g<+:μ'->R (.rt<|PP p,[d0,b0<|.loc c,b0<|PP p,x],μ'))(r:cN (aQ ms) p=dI->∀x μ',g<+:μ'->R (.nx,[d0,b0<|.loc c,b0<|PP p,x],μ')):W (BJ (k+1) [d0,b0<|.loc c,b0<|PP p,x] g) R:=by
 show aV<|aO<|aL rfl<|XC k hz u _ λa b e h _ j=>⟨_,rfl,œ.mpr ?_⟩;have y:=uE (aQ ms) p;have w:=uF (aQ ms) p;have s:bX [.loc b] e=b0 (.int ((c9 (aQ ms) p).length:Nat),e):=bT ((fI j).mpr<|by rw[ZT]);have d:=XH (aQ ms) p;unfold xV at d;show Ñ.mpr<|ő.mpr ⟨_,bT (r:=(((c9 (aQ ms) p).length:Int)%2==1,e))<|bZ<|aO<|aO<|aL rfl<|a9 s ⟨_,rfl,Ł.mpr ⟨_,rfl,ĉ.mpr ⟨_,rfl,rfl⟩⟩⟩,?_⟩;cases l:((c9 (aQ ms) p).length:Int)%2==1 with
 |true=>rw[l,Nr]at d;show(if_pos rfl).mpr ((if_pos rfl).mpr<|Ù.mpr ⟨_,rfl,i d.symm _ _ h⟩)|false=>
  rw[l,Kv]at d;show(if_neg Z6).mpr (bZ<|aO<|XJ rfl ⟨_,_,_,_,rfl⟩ j ⋯ (XO _ _) λv o=>⟨_,rfl,vy.mpr ⟨_,rfl,?_⟩⟩);cases n:Ce (c9 (aQ ms) p)==0 with
  |true=>rw[n]at d;show(if_neg Z6).mpr (Ï.mpr<|r d.symm _ _<|h.trans o)|false=>rw[n]at d;show(if_pos rfl).mpr<|Ù.mpr ⟨_,rfl,i d.symm _ _<|h.trans o⟩
inductive Qo (w h:Int)(ms:List ((Int×Int)×Str))(c:Nat)(ν:Hm):Nat->aF->Hm->Prop
 |mk {i:Nat}{x y:Option D}{μ:Hm}(p:ν<+:μ)(ok:∀z∈(bN w h).take i,cN (aQ ms) z=dI):Qo w h ms c ν i [b0<|SH w h ms,b0<|.loc c,x,y] μ
def IK k(hw:1<=w/\w<=6)(B:1<=h/\h<=6)(E:ms.length<=1000)(o:Hm)(Q:jz)(H:∀μ',o<+:μ'->Q (IH<|(bN w h).find?<|cN<|aQ ms,μ')):W (f (k+2) "_law_barred" [SH w h ms] o) Q:=by
 show È (WK (k+1) _ o) ?_;show aV<|XD rfl (λ_ _ _=>rfl) E λc a I A hc=>?_;show Ë.mpr<|É.mpr<|Ê.mpr<|aL rfl<|Xo k hw B ms _ _<|(cT<|aZ _ _).mpr ?_;have u:=aJ (aU a<|C.lst<|(bN w h).map PP) A;have v:=aZ a<|C.lst<|(bN w h).map PP;have n:=I.trans<|aU a<|C.lst<|(bN w h).map PP;generalize a++[C.lst<|(bN w h).map PP]=μ2 at u v n ⊢;show gQ (b:=BJ (k+1)) (Qo w h ms c μ2) (.mk (õ _) λz b=>by simp at b) (by rintro _ _ _ ⟨p,_⟩;show aJ p v) ?_ ?_
 .rintro i d K r hd ⟨g,ok⟩;obtain⟨z,b,rfl⟩:=kU hd;show⟨_,rfl,XQ k (ş.mp<|Ĳ b).2 (aJ g u) (λj x s l=>?_) λj x s l=>.mk (g.trans l)<|II ok b j⟩;have e:=IF (q:=cN (aQ ms)) (IG b) ok j;rw[e]at H;show H _<|n.trans<|g.trans l
 .rintro K r ⟨g,ok⟩;rw[ZT,š]at ok;have e:(bN w h).find? (cN<|aQ ms)=none:=ie.mpr λy G=>by rw[ok y G];show Z6
  rw[e]at H;show bQ ⟨_,rfl,H _<|n.trans g⟩
abbrev cK(ns:List Int)(i:Int):Int:=if i<ns.length then ns.getD i.toNat 0 else 0
def pK k ns(b:0<=i)a(Q:jz)(H:Q (.int<|cK ns i,a)):W (f (k+1) "_law_nth" [.rol<|ns.map D.int,.int i] a) Q:=by
 show È (Wx k _ _ a) (bQ<|Ĝ.mpr ⟨_,bT (r:=(decide<|i<ns.length,a))<|bZ<|aO ⟨_,rfl,aL rfl<|jd.mpr<|ł.mpr ⟨_,rfl,by rw[ZT]⟩⟩,?_⟩);unfold cK at H;by_cases h:i<ns.length
 .rw[if_pos h]at H;rw[decide_eq_true h];show(if_pos rfl).mpr<|bF rfl rfl<|(WT<|WS b h).mpr H
 .rw[if_neg h]at H;rw[decide_eq_false h];show(if_neg Z6).mpr ⟨_,rfl,H⟩
def IL:∀(l:jq)i,(l.map PP).eraseIdx i=(l.eraseIdx i).map PP
 |[],_=>rfl|_::_,0=>rfl|x::l,i+1=>by change PP x::(l.map PP).eraseIdx i=PP x::(l.eraseIdx i).map PP;rw[IL l i]
def XR{ps:jq}{Q:jz}(g:h[a]?=b0 (.lst<|ps.map PP))(i:q∈ps)(j:ps.length<=1000)(H:∀d:jq,d.Sublist ps->d.length<ps.length->Q (.non,h.set a<|.lst<|d.map PP)):W (qX (.loc a) [PP q] h) Q:=by
 have b:(ps.map λp=>p==q).findIdx id<(ps.map λp=>p==q).length:=List.findIdx_lt_length_of_exists ⟨eA,Õ.mpr ⟨q,i,beq_self_eq_true q⟩,rfl⟩;have c:(ps.map λp=>p==q).findIdx id<ps.length:=by rw[ZT]at b;show b
 show⟨_,by simp only[qX,g,B4,Ē];rw[if_pos ⟨b,by rw[ZT,è];lia⟩],?_⟩;have e:(ps.map PP).eraseIdx ((ps.map λp=>p==q).findIdx id)=(ps.eraseIdx<|(ps.map λp=>p==q).findIdx id).map PP:=IL _ _;rw[e];show H _ (List.eraseIdx_sublist ..)<|by rw[List.length_eraseIdx_of_lt c];lia
abbrev XS(w h:Int)(p:Int×Int):Bool:=decide (0<p.1)&&decide (p.1<4*w)&&decide (0<p.2)&&decide (p.2<4*h)&&(p.1%2==1&&p.2%2==1||p.1%2==0&&(p.2%2==0&&!(p.1%4==p.2%4)))
abbrev jg:jq:=[(6,4),(8,6),(6,8),(4,6),(3,3),(1,1),(3,5),(1,7),(7,3),(5,1),(9,3),(11,1)]
abbrev wk:jq:=[(9,7),(11,5),(9,9),(11,11),(5,9),(7,11),(3,9),(1,11)]
def XT k(a:Hm)(Q:jz)(H:∀l μ',a<+:μ'->a.length<=l->μ'[l]?=b0 (.lst<|(jg++wk).map PP)->Q (.loc l,μ')):W (f (k+1) "_law_square" [] a) Q:=by show È (WE k a) (aV<|a9 (r:=(.loc a.length,a++[.lst<|jg.map PP])) (by kernel_rfl)<|bQ<|aO ⟨_,rfl,a9 (r:=(.loc (a++[C.lst<|jg.map PP]).length,(a++[.lst<|jg.map PP])++[.lst<|wk.map PP])) (by kernel_rfl)<|(t6 (aJ (aU _ _)<|aZ _ _) (aZ _ _)<|by decide).mpr ?_⟩);show H _ _ ((aU _ _).trans<|(aU _ _).trans<|aU _ _) (by rw[Z4,Z4];lia) ?_;rw[ý];show aZ _ _
def wj:(jg++wk).Nodup/\∀p∈jg++wk,XS 3 3 p=true:=by decide
structure Ly where
 a:Int
 b:Int
 c:Int
 d:Int
 e:Int
 g:Int
 deriving DecidableEq
noncomputable abbrev LD(A:Ly):D:=.tup [.int A.a,.int A.b,.int A.c,.int A.d,.int A.e,.int A.g]
abbrev ś(A:Ly):Prop:=(A.b=0/\A.c=0/\(A.a=1\/A.a=-1)/\(A.d=1\/A.d=-1))\/(A.a=0/\A.d=0/\(A.b=1\/A.b=-1)/\(A.c=1\/A.c=-1))
def ś.sm(h:ś A):(-1<=A.a/\A.a<=1)/\(-1<=A.b/\A.b<=1)/\(-1<=A.c/\A.c<=1)/\(-1<=A.d/\A.d<=1):=by
 have z:∀{x:Int},x=0->-1<=x/\x<=1:=λe=>e▸by decide
 have o:∀{x:Int},x=1\/x=-1->-1<=x/\x<=1:=λe=>by rcases e with e|e<;>cases e<;>decide
 show h.elim (λ⟨b,c,a,d⟩=>⟨o a,z b,z c,o d⟩) λ⟨a,d,b,c⟩=>⟨z a,o b,o c,z d⟩
abbrev nP(A:Ly)(p:Int×Int):Int×Int:=(A.a*p.1+A.b*p.2+A.e,A.c*p.1+A.d*p.2+A.g)
abbrev Cf(A B:Ly):Ly:=⟨B.a*A.a+B.b*A.c,B.a*A.b+B.b*A.d,B.c*A.a+B.d*A.c,B.c*A.b+B.d*A.d,B.a*A.e+B.b*A.g+B.e,B.c*A.e+B.d*A.g+B.g⟩
abbrev Cg:Ly:=⟨1,0,0,1,0,0⟩
abbrev uG(e:Int×Int):Ly:=
 ⟨(gR (1,0) e).1-(gR (0,0) e).1,(gR (0,1) e).1-(gR (0,0) e).1,(gR (1,0) e).2-(gR (0,0) e).2,(gR (0,1) e).2-(gR (0,0) e).2,(gR (0,0) e).1,(gR (0,0) e).2⟩
def Ly.ext'{A:Ly}(h1:A.a=B.a)(a:A.b=B.b)(b:A.c=B.c)(c:A.d=B.d)(d:A.e=B.e)(e:A.g=B.g):A=B:=by cases A;cases B;simp_all
def IM(a b d:Int):a+d-(b+d)=a-b:=by lia
def IP(a b d:Int):a-d-(b-d)=a-b:=by lia
def nQ(a b d:Int):d-a-(d-b)=b-a:=by lia
def IQ e:ś (uG e):=by
 unfold uG gR;split<;>split
 .show .inr ⟨IM 0 0 _,IP 0 0 _,.inl<|IM 1 0 _,.inl<|IP 1 0 _⟩
 .show .inr ⟨nQ 0 0 _,nQ 0 0 _,.inr<|nQ 1 0 _,.inr<|nQ 1 0 _⟩
 .show .inl ⟨rfl,nQ 0 0 _,.inl rfl,.inr<|nQ 1 0 _⟩
 .show .inl ⟨nQ 0 0 _,rfl,.inr<|nQ 1 0 _,.inl rfl⟩
def XU:ś Cg:=.inl ⟨rfl,rfl,.inl rfl,.inl rfl⟩
def nR(a:x=1\/x=-1)(b:y=1\/y=-1):x*y=1\/x*y=-1:=by rcases a with rfl|rfl<;>rcases b with rfl|rfl<;>decide
def nT{x:Int}(h:x=0\/y=0)(k:z=0\/t=0):x*y+z*t=0:=by rw[Kq.mpr h,Kq.mpr k];rfl
def xW(k:z=0\/t=0)(h:x*y=1\/x*y=-1):x*y+z*t=1\/x*y+z*t=-1:=by rw[Kq.mpr k,Int.add_zero];show h
def xX(k:x=0\/y=0)(h:z*t=1\/z*t=-1):x*y+z*t=1\/x*y+z*t=-1:=by rw[Kq.mpr k,qw];show h
def XW(hA:ś A)(hB:ś B):ś (Cf A B):=by
 rcases hA with⟨a,b,c,d⟩|⟨a,b,c,d⟩<;>rcases hB with⟨u,v,w,x⟩|⟨u,v,w,x⟩
 .show .inl ⟨nT (.inr a)<|.inl u,nT (.inl v)<|.inr b,xW (.inl u)<|nR w c,xX (.inl v)<|nR x d⟩
 .show .inr ⟨nT (.inl u)<|.inr b,nT (.inr a)<|.inl v,xX (.inl u)<|nR w d,xW (.inl v)<|nR x c⟩
 .show .inr ⟨nT (.inr a)<|.inl u,nT (.inl v)<|.inr b,xW (.inl u)<|nR w c,xX (.inl v)<|nR x d⟩
 .show .inl ⟨nT (.inl u)<|.inr b,nT (.inr a)<|.inl v,xX (.inl u)<|nR w d,xW (.inl v)<|nR x c⟩
def IS k p q r a(Q:jz):W (f (k+1) "laying_by" [PP p,PP q,PP r] a) Q↔Q (LD ⟨q.1-p.1,r.1-p.1,q.2-p.2,r.2-p.2,p.1,p.2⟩,a):=by rw[show f (k+1) "laying_by" [PP p,PP q,PP r] a=b0 (LD ⟨q.1-p.1,r.1-p.1,q.2-p.2,r.2-p.2,p.1,p.2⟩,a)from(Wt k _ _ _ a).trans<|by kernel_rfl];show À
def Ci{Q:jz}(e:aA 0 d c=b0 (P x y,c))(H:Q (PP<|gR (a,b) (x,y),c)):W (aG (f (k+2) "mirrored") (aB (aW<|aB (mC<|.int a)<|aB (mC<|.int b) aD)<|aB (aA 0) aD) d c) Q:=
 dO<|aT<|í.mpr ⟨_,rfl,jR,aT ⟨_,e,_,rfl,(WR k a b x y _ _).mpr H⟩⟩
def XX k x y a(Q:jz):W (f (k+3) "mirror_in" [P x y] a) Q↔Q (LD<|uG (x,y),a):=
 rH <|È (Wu (k+2) _ a)<|bQ<|dO<|aT<|Ci rfl<|aT<|Ci rfl<|aT<|Ci rfl ⟨_,rfl,(IS (k+1) _ _ _ _ _).mpr rfl⟩
def IT(h:-1<=i/\i<=1){Q:jz}:W (cB (.int i) (.int j) a) Q↔Q (.int<|i*j,a):=nK<|.inl ⟨by lia,by lia⟩
def IU{Q:jz}(o:aE A (.int c0) c=b0 (.int a,c))(h1:aE A (.int h) c=b0 (.int b,c))(p:aE A (.int l) c=b0 (.int e,c))(g:aA n d c=b0 (A,c))(u:aA i d c=b0 (.int x,c))(v:aA j d c=b0 (.int y,c))(r:-1<=a/\a<=1)(s:-1<=b/\b<=1)(H:Q (.int<|a*x+b*y+e,c)):
  W (aC bA (aC bA (aC cB (aC aE (aA n)<|mC<|.int c0)<|aA i)<|aC cB (aC aE (aA n)<|mC<|.int h)<|aA j) (aC aE (aA n)<|mC<|.int l) d c) Q:=
 aO<|aO<|aO<|bF g rfl ⟨_,o,_,u,(IT r).mpr<|aO<|bF g rfl ⟨_,h1,_,v,(IT s).mpr<|î.mpr<|bF g rfl ⟨_,p,î.mpr H⟩⟩⟩
def xY k A(hA:ś A)x y a(Q:jz):W (f (k+1) "led" [LD A,P x y] a) Q↔Q (PP<|nP A (x,y),a):=by
 obtain⟨b,c,d,e⟩:=hA.sm;show rH <|
  È (Wv k _ _ a)<|aV ⟨_,rfl,aV ⟨_,rfl,bQ<|í.mpr<|aT<|IU rfl rfl rfl rfl rfl rfl b c<|aT<|IU rfl rfl rfl rfl rfl rfl d e ⟨_,rfl,jR,rfl⟩⟩⟩
def IV(p q a b c d e g h:Int):p*(a*1+b*0+e)+q*(c*1+d*0+g)+h-(p*(a*0+b*0+e)+q*(c*0+d*0+g)+h)=p*a+q*c:=by grind
def IW(p q a b c d e g h:Int):p*(a*0+b*1+e)+q*(c*0+d*1+g)+h-(p*(a*0+b*0+e)+q*(c*0+d*0+g)+h)=p*b+q*d:=by grind
def IX(p q a b c d e g h:Int):p*(a*0+b*0+e)+q*(c*0+d*0+g)+h=p*e+q*g+h:=by grind
def Cj(hA:ś A)(hB:ś B){Q:jz}(c:aA 0 b a=b0 (LD A,a))(h1:aA 1 b a=b0 (LD B,a))(H:Q (PP<|nP B<|nP A (x,y),a)):W (aG (f (k+1) "led") (aB (aA 1)<|aB (aG (f (k+1) "led")<|aB (aA 0)<|aB (aW<|aB (mC<|.int x)<|aB (mC<|.int y) aD) aD) aD) b a) Q:=
 dO<|aT ⟨_,h1,aT<|dO<|aT ⟨_,c,aT<|í.mpr ⟨_,rfl,jR,_,rfl,(xY k A hA x y _ _).mpr ⟨_,rfl,(xY k B hB _ _ _ _).mpr H⟩⟩⟩⟩
def XY k A B(hA:ś A)(hB:ś B)a(Q:jz):W (f (k+2) "then" [LD A,LD B] a) Q↔Q (LD<|Cf A B,a):=
 rH <|È (Ww (k+1) _ _ a)<|bQ<|dO<|aT<|Cj hA hB rfl rfl<|aT<|Cj hA hB rfl rfl<|aT<|Cj hA hB rfl rfl ⟨_,rfl,(IS k _ _ _ _ _).mpr<|congrArg (λz=>(LD z,a))<|Ly.ext' (IV ..) (IW ..) (IV ..) (IW ..) (IX ..)<|IX ..⟩
abbrev Ck(n:Int):Int:=if 0<n then 1 else if n<0 then -1 else 0
def XZ n d c o1 o2:W (aH (bG (aR<|aC k9 (aA 3)<|mC<|.int 0) (aN<|mC<|.int 1) bI) (aN<|gN (aR<|aC dB (aA 3)<|mC<|.int 0) (fT<|mC<|.int 1)<|mC<|.int 0) [c,o1,o2,b0<|.int n] d) λr=>r=(.rt<|.int<|if 0<n then 1 else if n<0 then -1 else 0,[c,o1,o2,b0<|.int n],d):=by
 by_cases a:0<n
 .rw[if_pos a];show pG<|bZ<|bF rfl rfl<|Β.mpr ⟨_,rfl,decide_eq_true a,Ë.mpr<|bQ ⟨_,rfl,rfl⟩⟩
 .rw[if_neg a];show kQ<|bZ<|bF rfl rfl<|Β.mpr ⟨_,rfl,decide_eq_false a,c5<|bQ<|Ĝ.mpr<|bZ<|bF rfl rfl<|ł.mpr ⟨_,rfl,?_⟩⟩;by_cases b:n<0
  .rw[if_pos b];show(if_pos<|decide_eq_true b).mpr ⟨_,rfl,rfl⟩
  .rw[if_neg b];show(if_neg<|by rw[decide_eq_false b];show Z6).mpr ⟨_,rfl,rfl⟩
def X0 k x y a b c(Q:jz):W (f (k+2) "hand_of" [P x y,P a b] c) Q↔Q (.int<|Ck<|lZ a b x y-lZ a b a b,c):=
 rH <|È (VS (k+1) _ _ c)<|aV<|aL rfl<|(Ih k a b _ _).mpr<|aV<|aO<|aL rfl<|(BX k a b x y _ _).mpr<|aL rfl<|(BX k a b a b _ _).mpr<|į.mpr<|bH (XZ _ _ _ _ _) λr h=>by rw[h];rfl
def Cm(nd:(l.map (·.1)).Nodup)(h:(k,d)∈l):aY l k=b0 d:=by
 induction l with
 |nil=>cases h|cons p l a=>
  rw[é,Š]at nd;unfold aY;rw[Ş];rcases Ě.mp h with h|h
  .rw[<- h];simp
  .have:decide (p.1=k)=false:=decide_eq_false λz=>nd.1<|Õ.mpr ⟨_,h,z.symm⟩;rw[this];show a nd.2 h
def i8(h:bB p=bB q):p=q:=by unfold bB at h;injection h with h1 h2;injection h2 with h2;show cu h1 h2
def iG{a:Type}{l:List a}{x:a}(h:l[n]?=b0 x):l.take (n+1)=l.take n++[x]:=by rw[OE,h];rfl
def xZ{c:Type}{l:List c}(nd:l.Nodup){x:c}(h:l[n]?=b0 x):x∉l.take n:=λg=>by
 obtain⟨j,a⟩:=ul.mp g;have b:j<n:=by have:=(ZW.mp a).1;rw[Ġ]at this;lia
 rw[uz b]at a;have i:n<l.length:=(ZW.mp h).1;have d:=(ZW.mp a).2;have e:=(ZW.mp h).2;show absurd ((O2 nd).mp<|d.trans e.symm)<|by lia
noncomputable abbrev f9(v:Int×Int->D)(ps:jq):jx:=ps.map λp=>(bB p,v p)
def Co(nd:ps.Nodup)(h:p∈ps):aY (f9 v ps) (bB p)=b0 (v p):=by show Cm ?_<|Õ.mpr ⟨p,h,rfl⟩;rw[Û];show Mu _ (λa b c x=>c<|i8 x) nd
def X1(h:p∉ps):aY (f9 v ps) (bB p)=none:=by
 unfold aY;rw[ie.mpr]
 .rfl
 .intro x a;obtain⟨z,b,rfl⟩:=Õ.mp a;rw[decide_eq_true_iff];show λe=>h<|i8 e▸b
def IY(h:p∉ps):bW (f9 v ps) (bB p) (v p)=f9 v (ps++[p]):=by unfold bW;rw[X1 h,if_neg<|by simp];change _=yc _ _;rw[ý];rfl
def X2(h:W (m c b) λp=>∃a kvs,p.1=.loc a/\p.2[a]?=b0 (.dT kvs)/\Q (c7<|.tup<|kN kvs,kvs.length+1,p.2.set a<|.dF kvs)):W (tH m c b) Q:=by unfold tH;rw[Â];show bH h λp ⟨a,kvs,e,g,q⟩=>?_;rw[e];dsimp only;rw[g];show À.mpr q
def X3{b:MS}(I:Nat->aF->Hm->Prop)(n:I 0 c a)(go:∀i d c a,xs[i]?=b0 d->I i c a->∃h,g d c a=b0 h/\W (b h a) λp=>match p.1 with|.nx=>I (i+1) p.2.1 p.2.2|.ct=>I (i+1) p.2.1 p.2.2|.bk=>Q (.nx,p.2.1,p.2.2)|.rt d=>Q (.rt d,p.2.1,p.2.2))(j:∀c a,I xs.length c a->Q (.nx,c,a)):W (eI (c7<|.tup xs) g b (xs.length+1) 0 c a) Q:=by
 show rF (N:=xs.length) I (λi c a s l=>?_) (λc a l=>⟨?_,j c a l⟩) xs.length 0 c a ⋯ n
 .have e:xs[i]?=b0 xs[i]:=ZY s;obtain⟨h,o,r⟩:=go i _ c a e l;show⟨xs[i],h,by change b0 xs[i]?=_;rw[e],o,r⟩
 .change b0 xs[xs.length]?=_;rw[fc<|Z2 _]
abbrev nU(e:Int×Int)(hd:Int)(F:Int×Int->Ly)(q:Int×Int):Ly:=if Ck (lZ e.1 e.2 (nP (F q) q).1 (nP (F q) q).2-lZ e.1 e.2 e.1 e.2)==hd then Cf (F q) (uG e)else F q
def X4 k(d:∀q,ś (F q))(H:W (mT (.loc l) (PP q) (LD<|nU e hd F q) b) λμ'=>∀x,R (.nx,[c,b0<|PP e,b0<|.int hd,b0<|.loc l,b0<|PP q,x],μ')):W (BK (k+3) [c,b0<|PP e,b0<|.int hd,b0<|.loc l,b0<|PP q,b0<|LD<|F q] b) R:=by
 show f6 (b:=Ck (lZ e.1 e.2 (nP (F q) q).1 (nP (F q) q).2-lZ e.1 e.2 e.1 e.2)==hd) (μ':=b) (bT<|bZ<|aO<|dO<|aT<|aL rfl<|(xY (k+2) (F q) (d q) q.1 q.2 _ _).mpr ⟨_,rfl,(X0 (k+1) _ _ _ _ _ _).mpr ⟨_,rfl,ĉ.mpr ⟨_,rfl,rfl⟩⟩⟩) (λa=>?_) λa=>?_
 .unfold nU at H;rw[if_pos a]at H;show aV<|dO<|aT ⟨_,rfl,aT<|aL rfl<|(XX k e.1 e.2 _ _).mpr ⟨_,rfl,(XY (k+1) (F q) (uG e) (d q) (IQ e) _ _).mpr<|ě.mpr ⟨_,rfl,_,rfl,_,rfl,bH H λμ' z=>z _⟩⟩⟩
 .unfold nU at H;rw[if_neg<|by rw[a];show Z6]at H;show c5<|ě.mpr ⟨_,rfl,_,rfl,_,rfl,bH H λμ' z=>z _⟩
inductive Qr (a:Nat)(e:Int×Int)(hd:Int)(l:Nat)(ν:Hm)(V:Int×Int->D)(qs:jq):Nat->aF->Hm->Prop
 |mk {i:Nat}{x y:Option D}{μ:Hm}(kp:Kp l ν μ)(g:μ[l]?=b0 (.dT<|f9 V<|qs.take i)):Qr a e hd l ν V qs i [b0<|.loc a,b0<|PP e,b0<|.int hd,b0<|.loc l,x,y] μ
def X5 k(A:∀q,ś (F q))(nd:b.Nodup)(I:b.length<=200)e hd(g:c[a]?=b0 (.dT<|f9 (λq=>LD<|F q) b))(Q:jz)(H:∀l μ',Kp a c μ'->c.length<=l->μ'[l]?=b0 (.dT<|f9 (λq=>LD<|nU e hd F q) b)->Q (.loc l,μ')):W (f (k+4) "_law_folded" [.loc a,PP e,.int hd] c) Q:=by
 have K:a<c.length:=(ZW.mp g).1;show È (Wz (k+3) _ _ _ c)<|aV<|Ą.mpr<|dN<|É.mpr<|X2 ⟨_,rfl,a,_,rfl,aJ (aU _ _) g,?_⟩;have gl:((c++[C.dT []]).set a<|.dF<|f9 (λq=>LD<|F q) b)[c.length]?=b0 (.dT []):=by rw[Č<|by lia];show aZ _ _
 have w:Kp a c ((c++[C.dT []]).set a<|.dF<|f9 (λq=>LD<|F q) b):=(Kp.pre<|aU _ _).trans .set;generalize(c++[C.dT []]).set a (.dF<|f9 (λq=>LD<|F q) b)=ν at gl w ⊢;have B:kN (f9 (λq=>LD<|F q) b)=b.map λq=>.tup [PP q,LD<|F q]:=by unfold kN;rw[Û];rfl
 rw[B];have r:(f9 (λq=>LD<|F q) b).length=(b.map λq=>D.tup [PP q,LD<|F q]).length:=by rw[ZT,ZT]
 rw[r];show X3 (b:=BK (k+3)) (Qr a e hd c.length ν (λq=>LD<|nU e hd F q) b) (.mk (λ_ _ _ h=>h)<|by rw[ų];show gl) ?_ ?_
 .rintro i d G u p ⟨s,o⟩;rw[þ]at p;obtain⟨q,v,rfl⟩:=ZX.mp p;have E:=xZ nd v;show⟨_,rfl,X4 k A<|(t8 o (dD q)<|by rw[ZT,Ġ,è];lia).mpr λx=>.mk (s.trans .set) ?_⟩;rw[cY o,IY (v:=λq=>LD<|nU e hd F q) E,iG v]
 .rintro G u ⟨s,o⟩;rw[ZT,š]at o;show⟨rfl,bQ ⟨_,rfl,H _ _ (λj y n h=>s j y (λz=>by have:=(ZW.mp h).1;lia)<|w j y n h) (Z2 _) o⟩⟩
def X6(a:∀q,ś (F q)):∀q,ś (nU e hd F q):=λq=>by
 unfold nU;split
 .show XW (a q)<|IQ e
 .show a q
abbrev cL(p:Int×Int):Bool:=if p.1%2==1 then p.2%2==1 else p.2%2==0&&!(p.1%4==p.2%4)
abbrev i9(p:Int×Int):Bool:=if p.1%2==1 then p.2%4==2 else p.1%4==2&&p.2%2==1
def mB(h:a g e=b0 (.bl c,e))(i:b g e=b0 (.bl d,e)):d7 a b g e=b0 (.bl<|c&&d,e):=bT<|ď.mpr ⟨_,h,by
 cases c with
 |true=>show(if_pos rfl).mpr ⟨_,i,rfl⟩
 |false=>show(if_neg Z6).mpr rfl⟩
def IZ k p a(Q:jz)(H:Q (.bl<|cL p,a)):W (f (k+1) "is_edge" [PP p] a) Q:=by
 unfold cL at H;show È (VJ k _ a)<|f6 (b:=p.1%2==1) (μ':=a) (by kernel_rfl) (λh=>gK<|a9 (r:=(.bl<|p.2%2==1,a)) (by kernel_rfl) ?_) λh=>c5<|bQ<|a9 (mB (c:=p.2%2==0) (d:=!(p.1%4==p.2%4)) (by kernel_rfl)<|by kernel_rfl) ?_
 .rw[h]at H;show H
 .rw[h]at H;show H
def Ja k p a(Q:jz)(H:Q (.bl<|i9 p,a)):W (f (k+1) "is_quarter" [PP p] a) Q:=by
 unfold i9 at H;show È (VL k _ a)<|f6 (b:=p.1%2==1) (μ':=a) (by kernel_rfl) (λh=>gK<|a9 (r:=(.bl<|p.2%4==2,a)) (by kernel_rfl) ?_) λh=>c5<|bQ<|a9 (mB (c:=p.1%4==2) (d:=p.2%2==1) (by kernel_rfl)<|by kernel_rfl) ?_
 .rw[h]at H;show H
 .rw[h]at H;show H
def Cp k(hw:1<=w/\w<=6)(l:1<=h/\h<=6)(c:Hm)(Q:jz)(H:∀a μ',c<+:μ'->μ'[a]?=b0 (.lst<|((b9 w h).filter cL).map PP)->Q (.loc a,μ')):W (f (k+2) "edges_in" [.int w,.int h] c) Q:=by
 show È (V0 (k+1) _ _ c) (bQ<|fZ (xs:=(b9 w h).map PP) (p:=λd=>cL<|dP d) (v:=λd=>d)<|Ê.mpr<|aL rfl<|B0 _ w h ⋯ ⋯ _ _ λa j i e n=>?_);show(cT e).mpr ⟨i0 e,rfl,?_,λd μ' hd b=>?_,λd μ' hd _ b=>⟨_,rfl,rfl,õ _⟩,λμ' b g=>?_⟩
 .have:=uB (w:=w) (h:=h) ⋯ ⋯;rw[ZT,è];lia
 .obtain⟨u,v,rfl⟩:=nN hd;show fJ<|aL rfl<|IZ k (u,v) _ _ ⟨rfl,rfl,õ _⟩
 .show H _ _ (i.trans b) ?_;rw[g,rL cL]
def X7 k(hw:1<=w/\w<=6)(l:1<=h/\h<=6)(c:Hm)(Q:jz)(H:∀a μ',c<+:μ'->μ'[a]?=b0 (.lst<|((b9 w h).filter i9).map PP)->Q (.loc a,μ')):W (f (k+2) "quarters_in" [.int w,.int h] c) Q:=by
 show È (VZ (k+1) _ _ c) (bQ<|fZ (xs:=(b9 w h).map PP) (p:=λd=>i9<|dP d) (v:=λd=>d)<|Ê.mpr<|aL rfl<|B0 _ w h ⋯ ⋯ _ _ λa j i e n=>?_);show(cT e).mpr ⟨i0 e,rfl,?_,λd μ' hd b=>?_,λd μ' hd _ b=>⟨_,rfl,rfl,õ _⟩,λμ' b g=>?_⟩
 .have:=uB (w:=w) (h:=h) ⋯ ⋯;rw[ZT,è];lia
 .obtain⟨u,v,rfl⟩:=nN hd;show fJ<|aL rfl<|Ja k (u,v) _ _ ⟨rfl,rfl,õ _⟩
 .show H _ _ (i.trans b) ?_;rw[g,rL i9]
abbrev Cq(e:Int×Int):jq:=[(e.1-1,e.2),(e.1,e.2-1),(e.1,e.2+1),(e.1+1,e.2)]
abbrev gT(e:Int×Int):jq:=(Cq e).filter i9
def X8 k e a:f (k+1) "beside" [PP e] a=b0 (.loc a.length,a++[.lst<|(Cq e).map PP]):=(VN k _ a).trans<|by kernel_rfl
def Cr k e(b:Hm)(Q:jz)(H:∀a μ',b<+:μ'->μ'[a]?=b0 (.lst<|(gT e).map PP)->Q (.loc a,μ')):W (f (k+2) "sides_of" [PP e] b) Q:=by
 show È (VO (k+1) _ b)<|bQ<|fZ (xs:=(Cq e).map PP) (p:=λd=>i9<|dP d) (v:=λd=>d)<|Ê.mpr<|aL rfl<|a9 (X8 k e b)<|(cT<|aZ _ _).mpr ⟨i0<|aZ _ _,rfl,by change(4:Nat)<=Z7;decide,λd μ' hd c=>?_,λd μ' hd _ c=>⟨_,rfl,rfl,õ _⟩,λμ' c g=>H _ _ ((aU _ _).trans c) ?_⟩
 .obtain⟨u,v,rfl⟩:=nN hd;show fJ<|aL rfl<|Ja k (u,v) _ _ ⟨rfl,rfl,õ _⟩
 .rw[g,rL i9];rfl
def X9:∀w∈[(1:Int),2,3],∀h∈[(1:Int),2,3],∀e∈(b9 w h).filter cL,(gT e).length=2/\∀q∈gT e,q∈(b9 w h).filter i9:=by decide +kernel
def Jb:∀w∈[(1:Int),2,3],∀h∈[(1:Int),2,3],((b9 w h).filter i9).Nodup/\((b9 w h).filter i9).length<=200/\((b9 w h).filter cL).Nodup/\((b9 w h).filter cL).length<=48/\0<((b9 w h).filter cL).length:=by decide +kernel
def Yb k{ns:List Int}{F:Int×Int->Ly}(p:∀q,ś (F q)){es:jq}(nd:n.Nodup)(E:n.length<=200)(Q:0<es.length)(I:∀e∈es,(gT e).length=2/\∀q∈gT e,q∈n)(g:d[a]?=b0 (.dT<|f9 (λq=>LD<|F q) n))(w:d[b]?=b0 (.lst<|es.map PP)){i:Nat}(H:∀(u:Int×Int->Ly)a' μ' x7 x8,(∀q,ś (u q))->Kp a d μ'->d.length<=a'->μ'[a']?=b0 (.dT<|f9 (λq=>LD<|u q) n)->R (.nx,[b0<|.rol<|ns.map D.int,b0<|.int 0,d2,b0<|.loc a',x,b0<|.loc b,b0<|.int (i:Int),x7,x8],μ')):
  W (BL (k+4) [b0<|.rol<|ns.map D.int,b0<|.int 0,d2,b0<|.loc a,x,b0<|.loc b,b0<|.int (i:Int),x7,x8] d) R:=by
 show aV (aL (ds:=[.rol<|ns.map D.int,.int<|0+1+(i:Int)]) (μ':=d) (by kernel_rfl)<|pK (k+3) ns ⋯ _ _ ?_);generalize cK ns (0+1+(i:Int))=v;have y:bX [.loc b] d=b0 (.int (es.length:Nat),d):=bT ((fI w).mpr<|by rw[ZT]);have T:0<=v/2%(es.length:Int)/\v/2%(es.length:Int)<es.length:=⟨dj _<|by lia,gk _<|by lia⟩;obtain⟨j,B⟩:∃j:Nat,v/2%(es.length:Int)=j:=⟨(v/2%(es.length:Int)).toNat,by lia⟩;have h:j<es.length:=by lia
 show aV (aO ⟨_,rfl,aO<|bF rfl rfl<|(tZ (by decide)<|by decide).mpr<|aL rfl<|a9 y<|(eD<|by lia).mpr ?_⟩);rw[B];show⟨_,gM w h,?_⟩;have c:es.getD j (0,0)∈es:=by rw[Ń,ZY h];show Ŧ h
 generalize es.getD j (0,0)=e at c;obtain⟨O,G⟩:=I e c;show aV<|dO<|aT<|aO ⟨_,rfl,aO<|aL rfl<|Cr (k+2) e _ _ λs r o z=>⟨_,rfl,?_⟩⟩;have M:(gT e).getD 0 (0,0)∈n:=by show G _ ?_;rw[Ń,ZY<|by lia];show Ŧ _
 show⟨_,gM (i:=0) z<|by lia,(xO (aJ o g) (dD _)<|Co nd M).mpr ⟨_,rfl,?_⟩⟩;show(xY (k+3) _ (p _) e.1 e.2 _ _).mpr ?_;show ø.mpr (aL (ds:=[.loc a,PP<|nP (F<|(gT e).getD 0 (0,0)) (e.1,e.2),.int<|1-2*(v%2)]) (μ':=r) (by kernel_rfl)<|X5 k p nd E _ _ (aJ o g) _ λl N K L A=>?_);show H _ _ _ _ _ (X6 p) ((Kp.pre o).trans K) (ė o.length_le L) A
abbrev yA(A B:Ly):Bool:=!(A.a==B.a&&(A.b==B.b&&(A.c==B.c&&(A.d==B.d&&(A.e==B.e&&(A.g==B.g&&eA))))))
def Yc A B a:a8 eA (LD A) (LD B) a=b0 (.bl<|yA A B,a):=rfl
inductive Qt (d0 d1 d2:Option D)(l:Nat)(ν:Hm)(qs:jq):Nat->aF->Hm->Prop
 |mk {i:Nat}{x:Option D}{μ:Hm}(kp:Kp l ν μ)(g:μ[l]?=b0 (.dT<|f9 (λ_=>LD Cg)<|qs.take i)):Qt d0 d1 d2 l ν qs i [d0,d1,d2,b0<|.loc l,x,b5,b5,b5,b5] μ
inductive Qs (d0 d1 d2 d4:Option D)(b:Nat)(ν μ1:Hm)(qs es:jq):Nat->aF->Hm->Prop
 |mk {i a:Nat}{F:Int×Int->Ly}{x6 x7 x8:Option D}{μ:Hm}(hF:∀q,ś (F q))(ha:ν.length<=a)(p:ν<+:μ)(g:μ[a]?=b0 (.dT<|f9 (λq=>LD<|F q) qs))(gb:μ[b]?=b0 (.lst<|es.map PP)):Qs d0 d1 d2 d4 b ν μ1 qs es i [d0,d1,d2,b0<|.loc a,d4,b0<|.loc b,x6,x7,x8] μ
def Τ(hz:1<=z/\z<=3):z∈[(1:Int),2,3]:=by
 have:z=1\/z=2\/z=3:=by lia
 simpa using this
def Jc{c:Hm}{a:Nat}{kvs:jx}(g:c[a]?=b0 (.dT kvs))(h:c[b]?=b0 (.lst xs)):b≠a:=λe=>by rw[e,g]at h;cases h
def Yd k(ns:List Int)(hw:1<=w/\w<=3)(R:1<=h/\h<=3)(g:Hm)(Q:jz)(H:∀a μ' (es:jq),g<+:μ'->μ'[a]?=b0 (.lst<|es.map PP)->es.Sublist ((b9 w h).filter cL)->Q (.loc a,μ')):W (f (k+5) "_law_folds" [.rol<|ns.map D.int,.int 0,.tup [.int w,.int h]] g) Q:=by
 obtain⟨r,X,ne,le,U⟩:=Jb w (Τ hw) h<|Τ R;have y:=X9 w (Τ hw) h<|Τ R;generalize hqs:(b9 w h).filter i9=qs at r X y;generalize hes:(b9 w h).filter cL=es at ne le U y H;show È (WA (k+4) _ _ _ g) (aV<|Ą.mpr<|dN<|É.mpr<|Ê.mpr<|aL rfl<|X7 (k+2) ⋯ ⋯ _ _ λa E Y v=>(cT v).mpr ?_);rw[hqs]at v ⊢;have M:=aJ Y<|aZ g<|C.dT [];have nd:=Jc M v;show gQ (Qt (b0<|.rol<|ns.map D.int) (b0<|.int 0) (b0<|.tup [.int w,.int h]) g.length E qs) (.mk (λ_ _ _ h=>h)<|by rw[ų];show M) (by rintro _ _ _ ⟨c,_⟩;show c _ _ nd v) ?_ ?_
 .rintro i d ρ u hd ⟨c,l⟩;obtain⟨z,T,rfl⟩:=kU hd;show⟨_,rfl,ě.mpr ⟨_,rfl,_,rfl,_,rfl,(t8 l (dD z)<|by rw[ZT,Ġ,è];lia).mpr<|.mk (c.trans .set) ?_⟩⟩;rw[cY l];have:=IY (v:=λ_=>LD Cg)<|xZ r T;rw[iG T,<- this];rfl
 .rintro ρ u ⟨c,l⟩;rw[ZT,š]at l;have pA:g<+:u:=c.all ((aU _ _).trans Y)<|Z2 _;show⟨rfl,aV<|aL rfl<|Cp (k+2) ⋯ ⋯ _ _ λb G Z L=>?_⟩;rw[hes]at L;show dN (É.mpr<|(rB (j:=0)).mpr<|aT<|aO<|aO<|aL rfl<|pK (k+3) ns ⋯ _ _ ⟨_,rfl,(tZ (by decide)<|by decide).mpr ⟨_,rfl,(eD<|by decide).mpr ⟨_,rfl,⟨by lia,by lia⟩,?_⟩⟩⟩);show nM (b:=BL (k+4)) (Qs (b0<|.rol<|ns.map D.int) (b0<|.int 0) (b0<|.tup [.int w,.int h]) _ b g G qs es) (.mk (λ_=>XU) (Z2 _) (pA.trans Z) (aJ Z l) L) ?_ ?_
  .rintro i K I hi ⟨N,O,x,o,j⟩;show⟨_,rfl,?_⟩;rw[qw];show Yb k N r X U y o j λF' a' μ5 _ _ A c la g5=>.mk A (ė x.length_le la) (c.all x O) g5<|c _ _ (Jc o j) j
  .rintro K I ⟨N,O,x,o,j⟩;rename_i a4 F x6 x7 x8;show⟨rfl,bQ<|fZ (xs:=es.map PP) (p:=λd=>yA (F<|(gT<|dP d).getD 0 (0,0))<|F<|(gT<|dP d).getD 1 (0,0)) (v:=λd=>d)<|Ê.mpr ⟨_,rfl,(cT j).mpr ⟨i0 j,rfl,by rw[ZT,è];lia,λd μ' hd p=>?_,λd μ' hd _ p=>⟨_,rfl,rfl,õ _⟩,λμ' p hg=>?_⟩⟩⟩
   .obtain⟨e,he,rfl⟩:=Õ.mp hd;obtain⟨h2,hq⟩:=y e he;have q0:∀n,n<2->(gT e).getD n (0,0)∈qs:=λn hn=>by show hq _ ?_;rw[Ń,ZY<|by lia];show Ŧ _
    show bZ<|aO<|aO ⟨_,rfl,aO<|aL rfl<|Cr (k+2) e _ _ λs μ6 B g6=>⟨_,rfl,?_⟩⟩;show⟨_,gM (i:=0) g6<|by lia,(xO (aJ (p.trans B) o) (dD _)<|Co r<|q0 0<|by lia).mpr ?_⟩;show aO ⟨_,rfl,aO<|aL rfl<|Cr (k+2) e _ _ λs' μ7 p7 g7=>⟨_,rfl,?_⟩⟩;show⟨_,gM (i:=1) g7<|by lia,(xO (aJ (p.trans<|B.trans p7) o) (dD _)<|Co r<|q0 1<|by lia).mpr ?_⟩;show⟨_,Yc _ _ _,_,rfl,rfl,B.trans p7⟩
   .show H _ _ _ (x.trans p) ?_<|MW (p:=λe=>yA (F<|(gT e).getD 0 (0,0))<|F<|(gT e).getD 1 (0,0));rw[hg,rL λe=>yA (F<|(gT e).getD 0 (0,0))<|F<|(gT e).getD 1 (0,0)]
abbrev jV(x:Int)(gs:List Int):Bool:=decide (gs.length<=6)&&(!(x%4==2)||gs.all λg=>g%2==0)
abbrev Jd(o t:Int):List Int:=(ă 3).flatMap λ(i:Nat)=>[[2,1,1,2,1].getD (o+i).toNat 0,[2,1,1,2,1].getD (t+i).toNat 0]
abbrev Je(o t:Int):List Int:=[o+1,t+1,3-o,3-t]
def Ye:∀o∈[(0:Int),1,2],∀t∈[(0:Int),1,2],jV 0 (Jd o t)=eA/\jV 0 (Je o t)=true:=by decide
def Ct(h:(x%4==2)=dI)(g:jV 0 gs=eA):jV x gs=true:=by unfold jV at g ⊢;rw[h];show g
def Jf v:v%3∈[(0:Int),1,2]:=by obtain⟨k,a,e⟩:=B3 (z:=v%3) 3 (dj v<|by decide) (gk v<|by decide);rw[<- e];show(by decide:∀k:Nat,k<3->(k:Int)∈[(0:Int),1,2]) k a
inductive Qq (d0 d1:Option D)(o t:Int)(l r:Nat)(ν:Hm):Nat->aF->Hm->Prop
 |mk {i:Nat}{x:Option D}{μ:Hm}(p:ν<+:μ)(gl:μ[l]?=b0 (.lst<|[2,1,1,2,1].map D.int))(gr:μ[r]?=b0 (.lst<|((ă i).flatMap λ(i:Nat)=>[[(2:Int),1,1,2,1].getD (o+i).toNat 0,[2,1,1,2,1].getD (t+i).toNat 0]).map D.int)):Qq d0 d1 o t l r ν i [d0,d1,b0<|.int o,b0<|.int t,b0<|.loc l,b0<|.loc r,x] μ
def Jg(gl:a[l]?=b0 (.lst<|[2,1,1,2,1].map D.int))(h:0<=z/\z<5):aE (.loc l) (.int z) a=b0 (.int<|[(2:Int),1,1,2,1].getD z.toNat 0,a):=by obtain⟨n,rfl⟩:∃n:Nat,z=n:=⟨z.toNat,by lia⟩;show Cd gl<|by change n<5;lia
def Yg{o t:Int}(u:0<=o/\o<3)(v:0<=t/\t<3){i:Nat}(s:i<3)(e:l≠r){ν b:Hm}(j:ν.length<=r)(p:ν<+:b)(n:gs.length<=6)(gl:b[l]?=b0 (.lst<|[2,1,1,2,1].map D.int))(d:b[r]?=b0 (.lst<|gs.map D.int))(H:∀a,ν<+:a->a[l]?=b0 (.lst<|[2,1,1,2,1].map D.int)->a[r]?=b0 (.lst<|(gs++[[(2:Int),1,1,2,1].getD (o+i).toNat 0,[2,1,1,2,1].getD (t+i).toNat 0]).map D.int)->R (.nx,[d0,d1,b0<|.int o,b0<|.int t,b0<|.loc l,b0<|.loc r,b0<|.int (i:Int)],a)):
  W (BM [d0,d1,b0<|.int o,b0<|.int t,b0<|.loc l,b0<|.loc r,b0<|.int (i:Int)] b) R:=by
 have g:=Jg (z:=o+i) gl ⋯;have h:=Jg (z:=t+i) gl ⋯;show Ø.mpr<|fB ⟨_,rfl,eS d,aT<|Ā.mpr<|aT<|bF rfl rfl ⟨_,g,aT<|bF rfl rfl ⟨_,h,_,rfl,jR,_,rfl,?_⟩⟩⟩;have c:=aU b<|C.lst [.int<|[(2:Int),1,1,2,1].getD (o+i).toNat 0,.int<|[(2:Int),1,1,2,1].getD (t+i).toNat 0];show(xK (aJ c d) (aZ _ _)<|by rw[ZT,è];change gs.length+2<=_;lia).mpr<|H _ (cX (p.trans c) j _) ?_ ?_
 .rw[Č<|ó e];show aJ c gl
 .rw[cY<|aJ c d,ý];rfl
def Yh k v c(b:Hm)(Q:jz)(H:∀a μ' (gs:List Int),b<+:μ'->b.length<=a->μ'[a]?=b0 (.lst<|gs.map D.int)->jV c.1 gs=eA->Q (.loc a,μ')):W (f (k+1) "_law_gaps" [.int v,PP c] b) Q:=by
 show È (WB k _ _ b)<|f6 (b:=c.1%4==2) (μ':=b) (by kernel_rfl) (λh=>?_) λh=>c5 ?_
 .show gK<|aO ⟨_,rfl,_,rfl,?_⟩;have d:=aU b<|C.lst<|[2,2,2,2].map D.int;have g:=aU (b++[C.lst<|[2,2,2,2].map D.int])<|C.lst<|[4,4].map D.int;have j:=aU ((b++[C.lst<|[2,2,2,2].map D.int])++[C.lst<|[4,4].map D.int])<|C.lst [.loc b.length,.loc (b++[C.lst<|[2,2,2,2].map D.int]).length];have s:=aZ ((b++[C.lst<|[2,2,2,2].map D.int])++[C.lst<|[4,4].map D.int])<|C.lst [.loc b.length,.loc (b++[C.lst<|[2,2,2,2].map D.int]).length];have e:v%2=0\/v%2=1:=by lia
  have u:∀gs∈[[(2:Int),2,2,2],[4,4]],jV c.1 gs=true:=by unfold jV;rw[h];decide
  rcases e with e|e
  .rw[e];show(fH s<|show _=b0 _ from rfl).mpr<|H _ _ [2,2,2,2] (d.trans<|g.trans j) (Z2 _) (aJ (g.trans j)<|aZ _ _)<|u _<|by decide
  .rw[e];show(fH s<|show _=b0 _ from rfl).mpr<|H _ _ [4,4] (d.trans<|g.trans j) d.length_le (aJ j<|aZ _ _)<|u _<|by decide
 .show aV (a9 (r:=(.int<|v/6%3,b)) (by kernel_rfl)<|aV<|a9 (r:=(.int<|v/18%3,b)) (by kernel_rfl) ?_);obtain⟨A,z⟩:=Ye _ (Jf<|v/6) _<|Jf<|v/18;have x:0<=v/6%3/\v/6%3<3:=by lia
  have y:0<=v/18%3/\v/18%3<3:=by lia
  generalize v/6%3=o at *;generalize v/18%3=t at *;show f6 (b:=v%6==0) (μ':=b) (by kernel_rfl) (λ_=>gK ?_) λ_=>c5 ?_
  .show⟨_,rfl,H _ _ [4,4] (aU _ _) (Z2 _) (aZ _ _)<|Ct h<|by decide⟩
  show f6 (b:=v%6==1) (μ':=b) (by kernel_rfl) (λ_=>rK ?_) λ_=>c5 ?_
  .show aV ⟨_,rfl,rK<|aV ⟨_,rfl,rK<|dN<|É.mpr<|(rB (j:=0)).mpr ⟨_,rfl,⟨by decide,by decide⟩,?_⟩⟩⟩;show nM (lo:=0) (n:=3) (b:=BM) (Qq (b0<|.int v) (b0<|PP c) o t b.length (b++[C.lst<|[2,1,1,2,1].map D.int]).length b) (.mk ((aU _ _).trans<|aU _ _) (aJ (aU _ _)<|aZ _ _)<|aZ _ _) ?_ ?_
   .rintro i E r w ⟨d,gl,n⟩;show⟨_,rfl,?_⟩;rw[qw];show Yg x y w (by rw[Z4];change _≠_+1;lia) (by rw[Z4];lia) d ?_ gl n λB g l p=>.mk g l ?_
    .have:=pJ (f:=λ(i:Nat)=>[[(2:Int),1,1,2,1].getD (o+i).toNat 0,[2,1,1,2,1].getD (t+i).toNat 0]) (n:=2) (λ_=>Z2 _)<|ă i;rw[ώ]at this;lia
    .rw[p,su,zy];rfl
   .rintro E r ⟨d,gl,n⟩;show⟨rfl,gK ⟨_,rfl,H _ _ (Jd o t) d (by rw[Z4];lia) n<|Ct h A⟩⟩
  .show bQ ⟨_,rfl,H _ _ (Je o t) (aU _ _) (Z2 _) (aZ _ _)<|Ct h z⟩
def Yi{b:MS}(I:Nat->aF->Hm->Prop)(v:∀m a g,I m a g->W (c a g) λp=>if p.1=eA then W (b a p.2) λq=>match q.1 with
   |.nx=>∃e,e<m/\I e q.2.1 q.2.2|.ct=>∃e,e<m/\I e q.2.1 q.2.2|.bk=>Q (.nx,q.2.1,q.2.2)
   |.rt d=>Q (.rt d,q.2.1,q.2.2)else Q (.nx,a,p.2)):∀n m a g,m<n->I m a g->W (oM c b n a g) Q:=by
 intro n;induction n with
 |zero=>intro m a g h;lia|succ n o=>
  intro m a g A u;unfold oM;rw[Â];show bH (v m a g u) λp l=>?_;obtain⟨w,x⟩:=p;cases w with
  |false=>show À.mpr (by simpa using l)|true=>
   simp only[if_true]at l;dsimp only;rw[Â];show bH l λq i=>?_;obtain⟨r,z,y⟩:=q;cases r with
   |nx=>obtain⟨e,s,j⟩:=i;show o e _ _ ⋯ j|ct=>obtain⟨e,s,j⟩:=i;show o e _ _ ⋯ j|bk=>show À.mpr i|rt d=>show À.mpr i
def Cu{b:MS}(I:Nat->aF->Hm->Prop)m(i:m<1000000000)(h:I m a e)(j:∀m a e,I m a e->W (c a e) λp=>if p.1=eA then W (b a p.2) λq=>match q.1 with
   |.nx=>∃g,g<m/\I g q.2.1 q.2.2|.ct=>∃g,g<m/\I g q.2.1 q.2.2|.bk=>Q (.nx,q.2.1,q.2.2)
   |.rt d=>Q (.rt d,q.2.1,q.2.2)else Q (.nx,a,p.2)):W (mP nE c b a e) Q:=by
 unfold mP;show Yi I j nE m a e (by unfold nE;show i) h
def ĝ:p∈b9 w h↔(0<p.1/\p.1<4*w)/\0<p.2/\p.2<4*h:=by
 unfold b9 jT jS;rw[zj];constructor
 .rintro⟨i,a,c⟩;obtain⟨j,b,rfl⟩:=Õ.mp c;have:=Ō.mp a;have:=Ō.mp b;dsimp only;lia
 .intro⟨d,e⟩;show⟨(p.1-1).toNat,Ō.mpr<|by lia,Õ.mpr ⟨(p.2-1).toNat,Ō.mpr<|by lia,cu ?_ ?_⟩⟩<;>dsimp only<;>lia
abbrev cR(w h:Int)(p:Int×Int):Prop:=p∈(b9 w h).filter cL
def Cv(h1:0<p.1/\p.1<4*w)(a:0<p.2/\p.2<4*h)(b:cL p=eA):cR w h p:=ş.mpr ⟨ĝ.mpr ⟨h1,a⟩,b⟩
def uH(g:a e d=b0 (.int x,d))(h:b e d=b0 (.int y,d))(hc:c e d=b0 (.int z,d)):gG dB dB a b c e d=b0 (.bl<|decide (x<y)&&decide (y<z),d):=bT<|Ţ.mpr ⟨_,g,_,h,ł.mpr<|by
 change if _ then _ else _
 cases decide (x<y)with
 |true=>show(if_pos rfl).mpr ⟨_,hc,ł.mpr rfl⟩
 |false=>show(if_neg Z6).mpr rfl⟩
def mD(h:m c a=b0 (.bl b,a)):aR m c a=b0 (b,a):=bT<|bZ ⟨_,h,_,rfl,rfl⟩
def yB(e:s d c=b0 (a,c))(g:t d c=b0 (b,c)):fR s t d c=b0 (a&&b,c):=bT<|ģ.mpr ⟨_,e,by
 cases a with
 |true=>show(if_pos rfl).mpr ⟨_,g,rfl⟩
 |false=>show(if_neg Z6).mpr rfl⟩
def Yj x y:cL (x,y)=cL (x%4,y%4):=by unfold cL;dsimp only;rw[LN x<|show(2:Int) ∣ 4 by decide,LN y<|show(2:Int) ∣ 4 by decide,Nt,Nt]
abbrev r4:List Int:=[0,1,2,3]
def Yk:∀a∈r4,∀b∈r4,∀e∈E8,(a%2==0&&a==b)=eA->(a=2->e.1%2=1)->cL ((a+e.1)%4,(b+e.2)%4)=eA/\((a+2*e.1)%4%2==0&&(a+2*e.1)%4==(b+2*e.2)%4)=eA/\((a+2*e.1)%4=2->e.1%2=1):=by decide
def Yl:∀e∈E8,(e.1%2=1/\(-1<=e.1/\e.1<=1)/\-1<=e.2/\e.2<=1)\/e.1%2=0/\(-2<=e.1/\e.1<=2)/\-2<=e.2/\e.2<=2:=by decide
def Ym:∀e∈E8,(e.1=1\/e.1=-1\/e.1=2\/e.1=-2)\/e.2=2\/e.2=-2:=by decide
def Jh x:x%4∈r4:=by obtain⟨k,a,e⟩:=B3 (z:=x%4) 4 (dj x<|by decide) (gk x<|by decide);rw[<- e];show(by decide:∀k:Nat,k<4->(k:Int)∈r4) k a
def Ji(a:0<x/\x<4*w)(h:x%2=0)(b:-1<=r/\r<=1):0<x+r/\x+r<4*w:=by lia
def Jj(a:0<x/\x<4*w)(h:x%4=0)(b:-2<=r/\r<=2):0<x+r/\x+r<4*w:=by lia
def Yn(j:e∈E8)(hC:c6 (x,y)=eA)(r:x%4=2->e.1%2=1)(l:0<x/\x<4*w)(n:0<y/\y<4*h):cR w h (x+e.1,y+e.2)/\c6 (x+2*e.1,y+2*e.2)=eA/\((x+2*e.1)%4=2->e.1%2=1):=by
 have hc:(x%4%2==0&&x%4==y%4)=true:=by rw[LN x<|show(2:Int) ∣ 4 by decide];show hC
 obtain⟨d,g,i⟩:=Yk _ (Jh x) _ (Jh y) e j hc r;rw[zp,zp,<- Yj]at d;rw[zp,zp,LN _<|show(2:Int) ∣ 4 by decide]at g;rw[zp]at i;rw[Z9,beq_iff_eq,beq_iff_eq]at hc;have b:=Yl e j;rcases b with⟨p,a,c⟩|⟨p,a,c⟩
 .have s:x%2=0:=by have:=hc.1;lia
  have u:y%2=0:=by have:=hc.1;have:=hc.2;lia
  show⟨Cv (Ji l s a) (Ji n u c) d,g,i⟩
 .have o:x%4=0:=by have:=hc.1;lia
  show⟨Cv (Jj l o a) (Jj n (hc.2▸o) c) d,g,i⟩
def Jk{c:Int}(h1:0<c/\c<24)(b:0<x/\x<24)(n:Nat)(e:x=c+2*(r*n))(a:r=1\/r=-1\/r=2\/r=-2):n<=11:=by rcases a with rfl|rfl|rfl|rfl<;>lia
abbrev yC(w h v:Int)(s q:Nat)(c:Int×Int)(l:Nat)(k g r d x y:Int):aF:=[b0<|.tup [.int w,.int h],b0<|.int v,b0<|.loc s,b0<|.loc q,b0<|PP c,b0<|.loc l,b0<|.int k,b0<|.int g,b0<|.int r,b0<|.int d,b0<|.int x,b0<|.int y]
inductive N4 (w h v:Int)(s q:Nat)(c:Int×Int)(l:Nat)(k g r d:Int)(ν:Hm)(fs:jq):Nat->aF->Hm->Prop
 |mk {m n:Nat}{es:jq}{x y:Int}(hm:m+n=12)(hC:c6 (x,y)=eA)(ho:x%4=2->r%2=1)(hl:es.length=n)(hE:∀p∈es,cR w h p)(hx:x=c.1+2*(r*n))(hy:y=c.2+2*(d*n)):N4 w h v s q c l k g r d ν fs m (yC w h v s q c l k g r d x y)<|ν.set l<|.lst<|(fs++es).map PP
def Jl(b:m+n=12)(a:n<=11):m-1<m/\m-1+(n+1)=12:=by lia
def yD{x:Int}(hw:w<=6)(h:0<x/\x<4*w):0<x/\x<24:=⟨h.1,by lia⟩
def Jm{x:Int}{n:Nat}(e:x=c+2*(r*n)):x+2*r=c+2*(r*((n+1:Nat):Int)):=by rw[e,Int.natCast_add,Int.mul_add];lia
def Jn c r:c=c+2*(r*((0:Nat):Int)):=by simp
def Yo(hw:w<=6)(A:h<=6)(hc:c∈bN w h)(E:(r,d)∈E8)(j:c.1%4=2->r%2=1)(gl:ν[l]?=b0 (.lst<|fs.map PP))(U:fs.length<=900)(H:∀(es:jq)x y,es.length<=12->(∀p∈es,cR w h p)->R (.nx,yC w h v s q c l k g r d x y,ν.set l<|.lst<|(fs++es).map PP)):
  W (mP nE HL HM (yC w h v s q c l k g r d c.1 c.2) ν) R:=by
 have Q:ν=ν.set l (.lst<|(fs++[]).map PP):=by rw[Ň];show(uC gl).symm
 show Cu (N4 w h v s q c l k g r d ν fs) 12 (by decide) ?_ ?_
 .have:=N4.mk (w:=w) (h:=h) (v:=v) (s:=s) (q:=q) (c:=c) (l:=l) (k:=k) (g:=g) (r:=r) (d:=d) (ν:=ν) (fs:=fs) (m:=12) (n:=0) (es:=[]) (x:=c.1) (y:=c.2) rfl (ş.mp hc).2 j rfl (λ_ h=>nomatch h) (Jn _ _)<|Jn _ _;rw[<- Q]at this;show this
 .rintro m _ _ ⟨i,T,j,B,hE,G,I⟩;rename_i n es x y;show⟨_,yB (mD<|uH (x:=0) (y:=x) (z:=4*w) rfl rfl rfl)<|mD<|uH (x:=0) (y:=y) (z:=4*h) rfl rfl rfl,?_⟩;by_cases a:((0<x/\x<4*w)/\0<y/\y<4*h)
  .rw[decide_eq_true a.1.1,decide_eq_true a.1.2,decide_eq_true a.2.1,decide_eq_true a.2.2];obtain⟨K,L,M⟩:=Yn E T j a.1 a.2;obtain⟨N,O⟩:=ĝ.mp (ş.mp hc).1;have o:n<=11:=by
    rcases Ym _ E with z|z
    .show Jk (yD hw N) (yD hw a.1) n G z
    .show Jk (yD A O) (yD A a.2) n I<|.inr<|.inr z
   have u:=cY (c':=C.lst ((fs++es).map PP)) gl;show(if_pos rfl).mpr (pE<|fB ⟨_,rfl,eS u,a9 (r:=([PP (x+r,y+d)],_)) rfl<|(i5 u<|by rw[ZT,Z4,è];lia).mpr ?_⟩);show aV<|a9 (r:=(.int<|x+2*r,_)) rfl<|ø.mpr<|a9 (r:=(.int<|y+2*d,_)) rfl ⟨m-1,(Jl i o).1,?_⟩;rw[B1,show(fs++es).map PP++[PP (x+r,y+d)]=(fs++(es++[(x+r,y+d)])).map PP by simp];show .mk (n:=n+1) (Jl i o).2 L M (by rw[Z4,B];rfl) (λp b=>?_) ?_ ?_
   .rcases ù.mp b with b|b
    .show hE p b
    .rw[ā.mp b];show K
   .show Jm G
   .show Jm I
  .have e:(decide (0<x)&&decide (x<4*w)&&(decide (0<y)&&decide (y<4*h)))=false:=by rw[Bool.eq_false_iff];intro z;simp only[Z9,decide_eq_true_eq]at z;show a ⟨z.1,z.2⟩
   rw[e];show(if_neg Z6).mpr<|H _ _ _ (B▸i▸MP ..) hE
def Yp:∀i,i<8->(E8.getD i (0,0))∈E8/\((E8.getD i (0,0)).1%2=1↔(i:Int)%2=1):=by decide
def Yq(hw:w<=6)(B:h<=6)(hc:c∈bN w h)(I:c.1%4=2->k%2=1)(gs:ν[s]?=b0 (.lst<|E8.map PP))(gl:ν[l]?=b0 (.lst<|fs.map PP))(A:fs.length<=900)(H:∀(es:jq)r d x y,es.length<=12->(∀p∈es,cR w h p)->R (.nx,yC w h v s q c l (k+g) g r d x y,ν.set l<|.lst<|(fs++es).map PP)):
  W (xP [b0<|.tup [.int w,.int h],b0<|.int v,b0<|.loc s,b0<|.loc q,b0<|PP c,b0<|.loc l,b0<|.int k,b0<|.int g,x8,x9,x10,x11] ν) R:=by
 obtain⟨j,E⟩:∃j:Nat,k%8=j:=⟨(k%8).toNat,by lia⟩;have a:j<8:=by lia
 obtain⟨i,n⟩:=Yp j a;have b:aE (.loc s) (.int<|k%8) ν=b0 (PP<|E8.getD j (0,0),ν):=by rw[E];show gM gs a
 generalize E8.getD j (0,0)=e at i n b;have G:(e.1%2=1)=(k%2=1):=propext (n.trans<|by lia);show Ë.mpr<|ϒ.mpr<|bF rfl rfl ⟨_,b,Γ.mpr<|Ë.mpr<|ϒ.mpr ⟨_,rfl,Γ.mpr<|dN ?_⟩⟩;show Yo (r:=e.1) (d:=e.2) hw B hc i (λz=>by rw[G];show I z) gl A λes x y o u=>⟨rfl,ø.mpr ⟨_,rfl,H es e.1 e.2 x y o u⟩⟩
inductive N3 (w h v:Int)(s q:Nat)(c:Int×Int)(l:Nat)(ν:Hm)(gs:List Int):Nat->aF->Hm->Prop
 |mk {i:Nat}{k:Int}{fs:jq}{x7 x8 x9 x10 x11:Option D}(ho:c.1%4=2->k%2=1)(hf:fs.length<=12*i)(hE:∀p∈fs,cR w h p):N3 w h v s q c l ν gs i [b0<|.tup [.int w,.int h],b0<|.int v,b0<|.loc s,b0<|.loc q,b0<|PP c,b0<|.loc l,b0<|.int k,x7,x8,x9,x10,x11]<|ν.set l<|.lst<|fs.map PP
def Yr(h:jV x gs=eA):gs.length<=6/\(x%4=2->∀g∈gs,g%2=0):=by unfold jV at h;simp only[Z9,decide_eq_true_eq,rn,yt,beq_eq_false_iff_ne,ne_eq,uo,beq_iff_eq]at h;show⟨h.1,λz=>h.2.resolve_left λn=>n z⟩
def Ys(hw:w<=6)(K:h<=6)(hc:c∈bN w h)(L:c.1%4=2->n%2=1)(B:jV c.1 gs=eA)(es:ν[s]?=b0 (.lst<|E8.map PP))(gl:ν[l]?=b0 (.lst []))(A:ν[b]?=b0 (.lst<|gs.map D.int))(M:s≠l)(bl:b≠l)(H:∀(fs:jq)ρ,fs.length<=72->(∀p∈fs,cR w h p)->ρ[5]?=b0 (b0<|.loc l)->R (.nx,ρ,ν.set l<|.lst<|fs.map PP)):
  W (eI (c7<|.loc b) (cC 7) xP ((gs.map D.int).length+1) 0 [b0<|.tup [.int w,.int h],b0<|.int v,b0<|.loc s,b0<|.loc q,b0<|PP c,b0<|.loc l,b0<|.int n,b5,b5,b5,b5,b5] ν) R:=by
 obtain⟨Y,N⟩:=Yr B;have E:ν=ν.set l (.lst<|([]:jq).map PP):=(uC gl).symm;show gQ (N3 w h v s q c l ν gs) ?_ ?_ ?_ ?_
 .have:=N3.mk (w:=w) (h:=h) (v:=v) (s:=s) (q:=q) (c:=c) (l:=l) (ν:=ν) (gs:=gs) (i:=0) (k:=n) (fs:=[]) (x7:=b5) (x8:=b5) (x9:=b5) (x10:=b5) (x11:=b5) L (Z2 _) λ_ h=>nomatch h;rw[<- E]at this;show this
 .rintro _ _ _ ⟨_,_,_⟩;rw[Č<|ó bl];show A
 .rintro i d _ _ hd ⟨a,o,hE⟩;rename_i k fs Z x8 x9 O Q;obtain⟨g,u,rfl⟩:∃g,gs[i]?=b0 g/\D.int g=d:=by rw[þ]at hd;show ZX.mp hd
  obtain⟨X,I⟩:=ZW.mp u;show⟨_,rfl,Yq hw K hc a (by rw[Č<|ó M];show es) (cY gl) ⋯ λe r T x y U G=>?_⟩;rw[B1];show .mk (k:=k+g) (λz=>?_) ?_ λp j=>?_
  .have:=a z;have:=N z g<|Ĳ u;lia
  .rw[Z4];lia
  .rcases ù.mp j with j|j
   .show hE p j
   .show G p j
 .rintro _ _ ⟨_,o,hE⟩;rw[ZT]at o;show H _ _ ⋯ hE rfl
def Yt(hw:1<=w)(a:1<=h):0<(bN w h).length:=PB (a:=(2,2))<|ş.mpr ⟨ĝ.mpr ⟨⟨by decide,by dsimp only;lia⟩,by decide,by dsimp only;lia⟩,by decide⟩
def Yu k(hw:1<=w/\w<=6)(n:1<=h/\h<=6)v(g:Hm)(Q:jz)(H:∀a μ' (fs:jq),g<+:μ'->g.length<=a->μ'[a]?=b0 (.lst<|fs.map PP)->fs.length<=72->(∀p∈fs,cR w h p)->Q (.loc a,μ')):W (f (k+3) "_law_star" [.tup [.int w,.int h],.int v] g) Q:=by
 show È (WC (k+2) _ _ g) (aV<|a9 (r:=(.loc g.length,g++[.lst<|E8.map PP])) (by kernel_rfl)<|aV<|aL rfl<|Ca k hw n _ _ λa e x r=>?_);have Y:=Yt hw.1 n.1;have E:bX [.loc a] e=b0 (.int ((bN w h).length:Nat),e):=bT ((fI r).mpr<|by rw[ZT];rfl);obtain⟨j,N⟩:∃j:Nat,v%((bN w h).length:Int)=j:=⟨(v%((bN w h).length:Int)).toNat,by have:=dj v (b:=((bN w h).length:Int)) ⋯;lia⟩;have i:j<(bN w h).length:=by have:=gk v (b:=((bN w h).length:Int)) ⋯;lia
 show aV (aO ⟨_,rfl,aO ⟨_,rfl,aL rfl<|a9 E<|(eD<|by lia).mpr ?_⟩⟩);rw[N];show⟨_,gM (cr:=bN w h) r i,?_⟩;have hc:(bN w h).getD j (0,0)∈bN w h:=by rw[Ń,ZY i];show Ŧ i
 generalize(bN w h).getD j (0,0)=c at hc ⊢;have A:g<+:e:=(aU _ _).trans x;have s:=aJ x<|aZ g<|C.lst<|E8.map PP;have Z:g.length<e.length:=(ZW.mp s).1;have fin:∀(R:Fl×aF×Hm->Prop),(∀d B μ',Q (d,μ')->R (.rt d,B,μ'))->∀o:Int,(c.1%4=2->o%2=1)->W ((aH (cD (b8<|aG (f (k+2) "_law_gaps")<|aB (aC cS (aA 1)<|mC<|.int 256)<|aB (aA 4) aD) (cC 7) xP)<|aN<|aA 5) [b0<|.tup [.int w,.int h],b0<|.int v,b0<|.loc g.length,b0<|.loc a,b0<|PP c,b0<|.loc e.length,b0<|.int o,b5,b5,b5,b5,b5]<|e++[C.lst []]) R:=λR M o O=>by show dN (É.mpr<|Ê.mpr<|aL (ds:=[.int<|v/256,PP c]) (μ':=e++[C.lst []]) (by kernel_rfl)<|Yh (k+1) _ c _ _ λb U X l T u G=>(cT u).mpr ?_);rw[Z4]at T;show Ys hw.2 n.2 hc O G (aJ ((aU _ _).trans l) s) (aJ l<|aZ _ _) u ⋯ (by change _≠_;have:[C.lst []].length=1:=rfl;lia) λfs B I K L=>⟨rfl,bQ ⟨_,by change aA 5 _ _=_;simp only[aA,L];rfl,?_⟩⟩;show M _ _ _<|H _ _ fs (A.trans<|cX ((aU _ _).trans l) (Z2 _) _) A.length_le (cY<|aJ l<|aZ _ _) I K
 show aV ⟨_,rfl,aV<|a9 (r:=(.int<|v/32%8,e++[C.lst []])) (by kernel_rfl)<|f6 (b:=c.1%4==2) (μ':=e++[C.lst []]) (by kernel_rfl) (λz=>aV<|aO<|aO<|a9 (r:=(.int<|v/32%4,e++[C.lst []])) (by kernel_rfl) ⟨_,rfl,(nK<|.inr ⟨by decide,by decide⟩).mpr ⟨_,rfl,î.mpr ?_⟩⟩) λz=>c5 ?_⟩
 .show fin _ ?_ (v/32%8) ?_
  .show λ_ _ _ q=>q
  .show λy=>absurd (z.symm.trans<|beq_iff_eq.mpr y) Z6
 .show fin _ ?_ (v/32%4*2+1) ?_
  .show λ_ _ _ q=>q
  .show λ_=>by lia
inductive N6 (w h:Int)(d0 d1 d2 d3 d5:Option D)(l n:Nat)(ν:Hm):Nat->aF->Hm->Prop
 |mk {i:Nat}{fs:jq}{x:Option D}(nd:fs.Nodup)(hE:∀p∈fs,cR w h p)(hl:fs.length<=n+i):N6 w h d0 d1 d2 d3 d5 l n ν i [d0,d1,d2,d3,b0<|.loc l,d5,x]<|ν.set l<|.lst<|fs.map PP
def Yv{fs n:jq}(nd:fs.Nodup)(hE:∀p∈fs,cR w h p)(A:∀p∈n,cR w h p)(K:fs.length<=200)(L:n.length<=72)(gl:ν[l]?=b0 (.lst<|fs.map PP))(v:ν[a]?=b0 (.lst<|n.map PP))(u:a≠l)(H:∀(gs:jq)y,gs.Nodup->(∀p∈gs,cR w h p)->gs.length<=fs.length+72->R (.nx,[d0,d1,d2,d3,b0<|.loc l,d5,y],ν.set l<|.lst<|gs.map PP)):
  W (eI (c7<|.loc a) (cC 6) HN ((n.map PP).length+1) 0 [d0,d1,d2,d3,b0<|.loc l,d5,x] ν) R:=by
 show gQ (N6 w h d0 d1 d2 d3 d5 l fs.length ν) ?_ ?_ ?_ ?_
 .have:=N6.mk (d0:=d0) (d1:=d1) (d2:=d2) (d3:=d3) (d5:=d5) (l:=l) (n:=fs.length) (ν:=ν) (i:=0) (x:=x) nd hE<|Z2 _;rw[uC gl]at this;show this
 .rintro _ _ _ ⟨_,_,_⟩;rw[Č<|ó u];show v
 .rintro i d _ _ hd ⟨c,b,j⟩;rename_i gs y;obtain⟨z,s,rfl⟩:=kU hd;have o:=cY (c':=C.lst (gs.map PP)) gl;have I:=(ZW.mp s).1;show⟨_,rfl,Ñ.mpr<|bZ<|bF rfl rfl<|(Cb o).mpr ⟨_,rfl,?_⟩⟩;cases r:gs.any λp=>p==z with
  |true=>show(if_neg Z6).mpr (Ï.mpr<|.mk c b<|by lia)|false=>
   show(if_pos rfl).mpr (Ø.mpr<|fB ⟨_,rfl,eS o,_,rfl,(i5 o<|by rw[ZT,è];lia).mpr ?_⟩);have E:z∉gs:=λB=>by have:(gs.any λp=>p==z)=true:=zf.mpr ⟨z,B,beq_self_eq_true z⟩;rw[this]at r;cases r
   rw[B1,show gs.map PP++[PP z]=(gs++[z]).map PP by rw[ý];rfl];show .mk (ϩ.mpr ⟨c,Š.mpr ⟨fu,.nil⟩,λp g q G e=>E ?_⟩) (λp g=>?_)<|by rw[Z4];change _+1<=_;lia
   .rw[<- ā.mp G,<- e];show g
   .rcases ù.mp g with g|g
    .show b p g
    .rw[ā.mp g];show A z<|Ĳ s
 .rintro _ _ ⟨c,b,j⟩;rw[ZT]at j;show H _ _ c b<|by lia
inductive Qv (w h:Int)(d0 d1 d2 d3:Option D)(l:Nat)(ν:Hm):Nat->aF->Hm->Prop
 |mk {i:Nat}{fs:jq}{x5 x6:Option D}{μ:Hm}(nd:fs.Nodup)(hE:∀p∈fs,cR w h p)(hl:fs.length<=72*i)(p:ν<+:μ)(g:μ[l]?=b0 (.lst<|fs.map PP)):Qv w h d0 d1 d2 d3 l ν i [d0,d1,d2,d3,b0<|.loc l,x5,x6] μ
def Yw k ns(hw:1<=w/\w<=6)(r:1<=h/\h<=6)(K:cK ns 0/9%6<3\/cK ns 0/9%6=5->w<=3/\h<=3)(b:Hm)(Q:jz)(H:∀a μ' (es:jq),b<+:μ'->μ'[a]?=b0 (.lst<|es.map PP)->es.Nodup->(∀p∈es,cR w h p)->es.length<=200->Q (.loc a,μ')):W (f (k+6) "_law_creases" [.rol<|ns.map D.int,.int 0,.tup [.int w,.int h]] b) Q:=by
 show È (WD (k+5) _ _ _ b) (aV<|aO<|aO<|aL rfl<|pK (k+4) ns ⋯ _ _ ⟨_,rfl,(tZ (by decide)<|by decide).mpr ⟨_,rfl,(eD<|by decide).mpr ?_⟩⟩);have T:0<=cK ns 0/9%6/\cK ns 0/9%6<6:=by lia
 generalize cK ns 0/9%6=v at T K ⊢;show f6 (b:=decide (v<3)) (μ':=b) (by kernel_rfl) (λz=>gK ?_) λz=>c5 ?_
 .have z:=of_decide_eq_true z;obtain⟨G,I⟩:=K<|.inl z;obtain⟨nq,lq,ne,le,l0⟩:=Jb w (Τ ⟨hw.1,G⟩) h<|Τ ⟨r.1,I⟩;show aL rfl<|Yd k ns ⟨hw.1,G⟩ ⟨r.1,I⟩ _ _ λa Y es u j B=>H _ _ es u j (B.nodup ne) (λp R=>B.subset R)<|by have:=B.length_le;lia
 .have z:=of_decide_eq_false z;show aV ⟨_,rfl,dN<|É.mpr<|(rB (j:=0)).mpr<|aT<|aO<|a9 (r:=(.loc (b++[C.lst []]).length,(b++[C.lst []])++[C.lst<|[1,1,2].map D.int])) rfl ⟨_,rfl,?_⟩⟩;have u:=aU b<|C.lst [];have x:=aU (b++[C.lst []])<|C.lst<|[1,1,2].map D.int;have l:=aZ (b++[C.lst []])<|C.lst<|[1,1,2].map D.int;have j:=aJ x<|aZ b<|C.lst [];generalize hm:(b++[C.lst []])++[C.lst<|[1,1,2].map D.int]=μ2 at x j l ⊢;have c:∀n:Nat,n<=2->W (eI (jH 0 n) (cC 5) (HP<|k+5) (n+1) 0 [b0<|.rol<|ns.map D.int,b0<|.int 0,b0<|.tup [.int w,.int h],b0<|.int v,b0<|.loc b.length,b5,b5] μ2) λp=>p.1=.nx/\W (aN (aA 4) p.2.1 p.2.2) λp=>match p.1 with|.rt d=>Q (d,p.2.2)|.nx=>Q (.non,p.2.2)|_=>False:=λn hn=>by
   show nM (lo:=0) (Qv w h (b0<|.rol<|ns.map D.int) (b0<|.int 0) (b0<|.tup [.int w,.int h]) (b0<|.int v) b.length b) (.mk (fs:=[]) .nil (λ_ h=>nomatch h) (Z2 _) (u.trans x) j) ?_ ?_
   .rintro i _ e hi ⟨nd,hE,N,p,g⟩;rename_i fs x5 x6;show⟨_,rfl,É.mpr<|Ê.mpr<|dO<|aT ⟨_,rfl,aT<|aL rfl<|pK (k+4) ns ⋯ _ _ ⟨_,rfl,Yu (k+2) hw r _ _ _ λa Z ss A L E X M=>(cT E).mpr ?_⟩⟩⟩;have L:e.length<=a:=L;have lm:b.length<e.length:=(ZW.mp g).1;show Yv nd hE M ⋯ X (aJ A g) E ⋯ λgs y s o O=>.mk s o ⋯ (cX (p.trans A) (Z2 _) _)<|cY<|aJ A g
   .rintro _ e ⟨nd,hE,N,p,g⟩;show⟨rfl,bQ ⟨_,rfl,H _ _ _ p g nd hE<|by lia⟩⟩
  have U:v=3\/v=4\/v=5:=by lia
  rcases U with rfl|rfl|rfl
  .show⟨_,bT<|(fH l<|show atI _ ((3:Int)-3)=b0 (.int 1)from rfl).mpr rfl,_,rfl,⟨by decide,by decide⟩,c 1<|by decide⟩
  .show⟨_,bT<|(fH l<|show atI _ ((4:Int)-3)=b0 (.int 1)from rfl).mpr rfl,_,rfl,⟨by decide,by decide⟩,c 1<|by decide⟩
  .show⟨_,bT<|(fH l<|show atI _ ((5:Int)-3)=b0 (.int 2)from rfl).mpr rfl,_,rfl,⟨by decide,by decide⟩,c 2<|by decide⟩
def pL{g:MF}{ds:List D}(h:ms b a=b0 (ds,μ'))(e:g ds μ'=b0 r):aG g ms b a=b0 r:=bT<|aL h ⟨_,e,rfl⟩
def uI(e:o=fin (aN m b a))(h:m b a=b0 r):o=b0 r:=bT<|È e<|bQ ⟨_,h,rfl⟩
def Cw k i a:f (k+1) "is_whole" [.int i] a=b0 (.bl eA,a):=(HY k _ a).trans<|by kernel_rfl
def Jo k(h:1<=i/\i<=6)a:f (k+2) "is_size" [.int i] a=b0 (.bl eA,a):=uI (VU (k+1) _ a)<|mB (pL rfl<|Cw k i a)<|bT<|Ţ.mpr ⟨_,rfl,_,rfl,bu.mpr<|by
 rw[decide_eq_true h.1];show(if_pos rfl).mpr ⟨_,rfl,bu.mpr<|by rw[decide_eq_true h.2]⟩⟩
def Yx k(hw:1<=w/\w<=6)(b:1<=h/\h<=6)a:f (k+3) "check_size" [.int w,.int h] a=b0 (.non,a):=bT<|È (VW (k+2) _ _ a)<|Ñ.mpr<|pH<|ģ.mpr<|fJ<|aL rfl<|a9 (Jo k hw a) ⟨rfl,(if_pos rfl).mpr<|fJ<|aL rfl<|a9 (Jo k b a) ⟨rfl,(if_neg Z6).mpr<|Ï.mpr rfl⟩⟩
def Yy k{s:Str}(h:s="o"\/s="h"\/s="v")a:f (k+1) "is_mark" [.str s] a=b0 (.bl eA,a):=by
 rcases h with rfl|rfl|rfl
 .show(BV k _ a).trans<|by kernel_rfl
 .show(BV k _ a).trans<|by kernel_rfl
 .show(BV k _ a).trans<|by kernel_rfl
def Yz k(i:cR w h e)a:f (k+3) "is_inner_edge" [.int w,.int h,PP e] a=b0 (.bl eA,a):=by
 obtain⟨j,hE⟩:=ş.mp i;obtain⟨⟨b,c⟩,d,g⟩:=ĝ.mp j;show uI (V2 (k+2) _ _ _ a)<|mB (d:=eA) (pL rfl<|uI (VH (k+1) _ a)<|mB (c:=eA) (d:=eA) (by kernel_rfl)<|mB (c:=eA) (d:=eA) (by kernel_rfl)<|mB (pL rfl<|Cw k _ a)<|pL rfl<|Cw k _ a)<|mB (c:=eA) (d:=eA) (pL rfl<|uI (VX (k+1) _ _ _ a) ?_)<|pL rfl<|bT<|IZ (k+1) e a _ ?_
 .show mB (c:=eA) (d:=eA) ?_ ?_
  .show(uH (x:=0) (y:=e.1) (z:=4*w) rfl rfl rfl).trans ?_;rw[decide_eq_true b,decide_eq_true c];rfl
  .show(uH (x:=0) (y:=e.2) (z:=4*h) rfl rfl rfl).trans ?_;rw[decide_eq_true d,decide_eq_true g];rfl
 .rw[hE]
abbrev bD(ms:List ((Int×Int)×Str)):jx:=ms.map λm=>(bB m.1,.str m.2)
def Jp(h:p∉ms.map (·.1)):aY (bD ms) (bB p)=none:=by
 unfold aY;rw[ie.mpr]
 .rfl
 .intro x a;obtain⟨z,b,rfl⟩:=Õ.mp a;rw[decide_eq_true_iff];show λe=>h<|i8 e▸Õ.mpr ⟨z,b,rfl⟩
def Jq(h:m.1∉ms.map (·.1)):bW (bD ms) (bB m.1) (.str m.2)=bD (ms++[m]):=by unfold bW;rw[Jp h,if_neg<|by simp];unfold bD;rw[ý];rfl
def YA a b c(h:HT.lexLt a b=eA):HT.lexLt a c=eA\/HT.lexLt c b=true:=by
 cases e:HT.lexLt a c with
 |true=>show .inl rfl|false=>
  show .inr ?_;cases d:HT.lexLt c a with
  |true=>show ã.tr c a b d h|false=>rw[<- ã.to a c e d];show h
abbrev kX(S:List ((Int×Int)×Str)):Prop:=(S.map λm=>bB m.1).Pairwise λx y=>HT.lexLt y x=dI
def YB ms:∃S,S.Perm ms/\kX S/\(wQ<|bD ms).map tG=S.map MD:=by
 show⟨(cI (λi j=>HT.lexLt (((bD ms).map (·.1)).getD i [])<|((bD ms).map (·.1)).getD j []) (bD ms).length).map λi=>ms.getD i ((0,0),""),?_,?_,?_⟩
 .have p:=(fU (λi j=>HT.lexLt (((bD ms).map (·.1)).getD i [])<|((bD ms).map (·.1)).getD j []) (bD ms).length).map λi=>ms.getD i ((0,0),"");have e:(bD ms).length=ms.length:=ZT ..;rw[e,Iy]at p;rw[e];show p
 .rcases Nat.eq_zero_or_pos ms.length with b|b
  .have:=(fU (λi j=>HT.lexLt (((bD ms).map (·.1)).getD i [])<|((bD ms).map (·.1)).getD j []) (bD ms).length).length_eq;rw[ώ,show(bD ms).length=ms.length from ZT ..,b]at this;rw[show(bD ms).length=0 from(ZT ..).trans b,pC.mp this];show .nil
  have e:(bD ms).length=ms.length:=ZT ..;have S:=FA (lt:=HT.lexLt) ã.ir ã.tr YA [] ((bD ms).map (·.1)) (n:=(bD ms).length)<|e.symm▸b;unfold kX;rw[Û,Ϗ];show zx (λ{i j} a c h=>?_) S;have a:i<ms.length:=e▸Ō.mp ((fU _ _).mem_iff.mp a);have c:j<ms.length:=e▸Ō.mp ((fU _ _).mem_iff.mp c);unfold bD at h;simp[a,c]at h;simp[a,c,h]
 .unfold wQ;rw[Û,Û];show eG λi a=>?_;have a:i<(bD ms).length:=Ō.mp<|(fU _ _).mem_iff.mp a;have a:i<ms.length:=by unfold bD at a;rw[ZT]at a;show a
  unfold bD;simp[a,MD,tG,bB,PP,P]
inductive Qd (w h:Int)(a l:Nat)(ν:Hm)(ms:List ((Int×Int)×Str)):Nat->aF->Hm->Prop
 |mk {i:Nat}{x y:Option D}{μ:Hm}(p:ν<+:μ)(g:μ[l]?=b0 (.dT<|bD<|ms.take i)):Qd w h a l ν ms i [b0<|.int w,b0<|.int h,b0<|.loc a,b0<|.loc l,x,y] μ
def YC k{m:(Int×Int)×Str}(hE:cR w h m.1)(d:m.2="o"\/m.2="h"\/m.2="v")(c:m.1∉ms.map (·.1))(e:ms.length<=900)(g:b[l]?=b0 (.dT<|bD ms))(H:∀y,R (.nx,[b0<|.int w,b0<|.int h,b0<|.loc a,b0<|.loc l,b0<|MD m,y],b.set l<|.dT<|bD<|ms++[m])):W (BN (k+3) [b0<|.int w,b0<|.int h,b0<|.loc a,b0<|.loc l,b0<|MD m,y] b) R:=by
 show aV ⟨_,rfl,kQ<|pH<|fJ<|aL rfl<|a9 (Yz k hE b) ⟨rfl,rfl,c5<|kQ<|pH<|fJ<|aL rfl<|a9 (Yy (k+2) d b) ⟨rfl,rfl,c5<|kQ<|bZ<|bF rfl rfl<|(rG g<|dD m.1).mpr ?_⟩⟩⟩;rw[Jp c];show⟨_,rfl,rfl,c5<|ě.mpr ⟨_,rfl,_,rfl,_,rfl,(t8 g (dD m.1)<|by unfold bD;rw[ZT,è];lia).mpr ?_⟩⟩;rw[Jq c];show H _
def Cy k(hw:1<=w/\w<=6)(v:1<=h/\h<=6){ms:List ((Int×Int)×Str)}(z:ms.length<=900)(x:wR ms.length)(nd:(ms.map (·.1)).Nodup)(hE:∀m∈ms,cR w h m.1)(ok:∀m∈ms,m.2="o"\/m.2="h"\/m.2="v"){b:Hm}(o:b[a]?=b0 (.lst<|ms.map MD))(Q:jz)(H:∀S c,b<+:c->S.Perm ms->kX S->Q (SH w h S,c)):W (f (k+4) "sheet_of" [.int w,.int h,.loc a] b) Q:=by
 show È (V3 (k+3) _ _ _ b)<|pE<|aL rfl<|a9 (Yx k hw v b)<|aV<|Ą.mpr<|dN<|É.mpr<|Ê.mpr ⟨_,rfl,(cT<|aJ (aU _ _) o).mpr ?_⟩;show gQ (b:=BN (k+3)) (Qd w h a b.length b ms) (.mk (aU _ _)<|by rw[ų];show aZ _ _) (by rintro _ _ _ ⟨p,_⟩;show aJ p o) ?_ ?_
 .rintro i d _ _ hd ⟨p,g⟩;rw[þ]at hd;obtain⟨m,l,rfl⟩:=ZX.mp hd;have n:=Ĳ l;show⟨_,rfl,YC k (hE m n) (ok m n) ?_ (by rw[Ġ];lia) g λy=>.mk (cX p (Z2 _) _) ?_⟩
  .have:=xZ nd (n:=i) (x:=m.1) (by rw[þ,l];rfl);rw[<- NY]at this;show this
  .rw[cY g,iG l]
 .rintro _ j ⟨p,g⟩;rw[ZT,š]at g;obtain⟨S,r,u,s⟩:=YB ms;have e:wV (.loc b.length) j=b0 (.tup<|S.map MD,j):=by simp only[wV,g];rw[if_pos<|by first|show trivial|(unfold bD;rw[ZT];show x),s]
  show⟨rfl,bQ<|í.mpr<|aT ⟨_,rfl,aT ⟨_,rfl,aT<|Â.mpr ⟨_,rfl,_,e,_,rfl,by change(3:Nat)<=Z7;decide,H _ _ p r u⟩⟩⟩⟩
abbrev LW:List Str:=["o","o","h","v","o","o","o","o"]
def YD:∀j:Nat,j<8->∃s:Str,(s="o"\/s="h"\/s="v")/\atI (LW.map D.str) (j:Int)=b0 (.str s)
 |0,_=>⟨"o",.inl rfl,rfl⟩|1,_=>⟨"o",.inl rfl,rfl⟩|2,_=>⟨"h",.inr<|.inl rfl,rfl⟩|3,_=>⟨"v",.inr<|.inr rfl,rfl⟩|4,_=>⟨"o",.inl rfl,rfl⟩|5,_=>⟨"o",.inl rfl,rfl⟩|6,_=>⟨"o",.inl rfl,rfl⟩|7,_=>⟨"o",.inl rfl,rfl⟩|n+8,h=>absurd h<|by lia
def YE(h:0<=i/\i<3):∃t,(0<t/\t<=8)/\atI ([3,4,8].map D.int) i=b0 (.int t):=by
 have:i=0\/i=1\/i=2:=by lia
 rcases this with rfl|rfl|rfl
 .show⟨3,by decide,rfl⟩
 .show⟨4,by decide,rfl⟩
 .show⟨8,by decide,rfl⟩
def YF{a:Hm}(r:ms.length<=900)(g:a[b]?=b0 (.lst<|ms.map MD))(H:∀(s:Str)n' x9 μ',(s="o"\/s="h"\/s="v")->a<+:μ'->R (.nx,[d0,d1,d2,d3,d,d5,b0<|PP z,b0<|.int n',b0<|.loc b,x9],μ'.set b<|.lst<|(ms++[(z,s)]).map MD)):
  W (HQ [d0,d1,d2,d3,d,d5,b0<|PP z,b0<|.int n,b0<|.loc b,x9] a) R:=by
 obtain⟨t,p,i⟩:=YE (i:=n%3) ⋯;have u:0<=n/16%t/\n/16%t<t:=⟨dj _<|by lia,gk _<|by lia⟩;obtain⟨j,l⟩:∃j:Nat,n/16%t=j:=⟨(n/16%t).toNat,by lia⟩;obtain⟨s,o,h⟩:=YD j ⋯;show aV (aO<|a9 (r:=(.int<|n/16,a)) (by kernel_rfl)<|aO<|a9 (r:=(.loc a.length,a++[C.lst<|[3,4,8].map D.int])) (by kernel_rfl)<|a9 (r:=(.int<|n%3,a++[C.lst<|[3,4,8].map D.int])) (by kernel_rfl)<|(fH (aZ _ _) i).mpr<|(eD p.1).mpr ?_);rw[l];have c:=aU a<|C.lst<|[3,4,8].map D.int;generalize a++[C.lst<|[3,4,8].map D.int]=μ1 at c ⊢;show pE (fB ⟨_,rfl,eS<|aJ c g,aT<|í.mpr<|aT ⟨_,rfl,aT<|aO<|a9 (r:=(.loc μ1.length,μ1++[C.lst<|LW.map D.str])) (by kernel_rfl) ⟨_,rfl,(fH (aZ _ _) h).mpr ⟨_,rfl,jR,_,rfl,?_⟩⟩⟩⟩);have e:=aU μ1<|C.lst<|LW.map D.str;show(i5 (aJ (c.trans e) g)<|by rw[ZT,è];lia).mpr (ø.mpr<|aO<|aO<|aO ⟨_,rfl,_,rfl,(nK<|.inr ⟨by decide,by decide⟩).mpr ⟨_,rfl,î.mpr ⟨_,rfl,(eD<|by decide).mpr ?_⟩⟩⟩);rw[show ms.map MD++[D.tup [PP z,.str s]]=(ms++[(z,s)]).map MD by rw[ý];rfl];show H s _ _ _ o<|c.trans e
inductive Qm (d0 d1 d2 d3 d4 d5:Option D)(l b:Nat)(ν:Hm)(es:jq):Nat->aF->Hm->Prop
 |mk {i:Nat}{n:Int}{x6 x9:Option D}{μ:Hm}{ms:List ((Int×Int)×Str)}(p:ν<+:μ)(gl:μ[l]?=b0 (.lst<|es.map PP))(g:μ[b]?=b0 (.lst<|ms.map MD))(hm:ms.map (·.1)=es.take i)(ok:∀m∈ms,m.2="o"\/m.2="h"\/m.2="v"):Qm d0 d1 d2 d3 d4 d5 l b ν es i [d0,d1,d2,d3,d4,d5,x6,b0<|.int n,b0<|.loc b,x9] μ
structure ϵ(w h:Int)(S:List ((Int×Int)×Str)):Prop where
 hE:∀m∈S,cR w h m.1
 ri:kX S
inductive Ĩ (S:List ((Int×Int)×Str)):Prop
 |mk (len:S.length<=600)(nd:(S.map (·.1)).Nodup)(ok:∀m∈S,m.2="o"\/m.2="h"\/m.2="v")
def Jr k{ns:List Int}(hw:1<=w/\w<=6)(y:1<=h/\h<=6){es:jq}(nd:es.Nodup)(hE:∀p∈es,cR w h p)(G:es.length<=300)(gl:b[l]?=b0 (.lst<|es.map PP))(H:∀S E μ',Ĩ S->ϵ w h S->R (.rt<|SH w h S,E,μ')):
  W (HR (k+4) [b0<|.rol<|ns.map D.int,b0<|.int 0,d2,b0<|.tup [.int w,.int h],b0<|.loc l,d5,v,b5,b5,b5] b) R:=by
 show aV (aO<|aL rfl<|pK (k+3) ns ⋯ _ _ ⟨_,rfl,(eD<|by decide).mpr<|aV ⟨_,rfl,?_⟩⟩);have u:=aU b<|C.lst [];have I:l<b.length:=(ZW.mp gl).1;show dN<|É.mpr<|Ê.mpr ⟨_,rfl,(cT<|aJ u gl).mpr ?_⟩;show gQ (Qm (b0<|.rol<|ns.map D.int) (b0<|.int 0) d2 (b0<|.tup [.int w,.int h]) (b0<|.loc l) d5 l b.length b es) (.mk (ms:=[]) u (aJ u gl) (aZ _ _) (by rw[ų];rfl) λ_ h=>nomatch h) (by rintro _ _ _ ⟨_,g,_,_,_⟩;show g) ?_ ?_
 .rintro i d _ _ hd ⟨p,c,g,a,ok⟩;obtain⟨z,B,rfl⟩:=kU hd;rename_i r;have j:r.length<=900:=by have:=congrArg Ģ a;rw[ZT,Ġ]at this;lia
  show⟨_,rfl,YF j g λs K L μ' A o=>.mk (cX (p.trans o) (Z2 _) _) ?_ (cY<|aJ o g) ?_ λm a=>?_⟩
  .rw[Č<|by lia];show aJ o c
  .rw[ý,a,iG B];rfl
  .rcases ù.mp a with a|a
   .show ok m a
   .rw[ā.mp a];show A
 .rintro _ _ ⟨p,c,g,a,ok⟩;rename_i r;rw[ZT,š]at a;have j:r.length=es.length:=by have:=congrArg Ģ a;rw[ZT]at this;show this
  show⟨rfl,bQ<|aL rfl<|Cy k hw y ⋯ trivial (by rw[a];show nd) (λm e=>hE _<|by rw[<- a];show Õ.mpr ⟨m,e,rfl⟩) ok g _ λS μ' o n x=>H S _ _ ⟨by rw[n.length_eq];lia,(n.map (·.1)).nodup_iff.mpr<|by rw[a];show nd,λm e=>ok m<|n.mem_iff.mp e⟩ ⟨λm e=>hE _<|by rw[<- a];show Õ.mpr ⟨m,n.mem_iff.mp e,rfl⟩,x⟩⟩
def YG{es:jq}(nd:es.Nodup)(hE:∀p∈es,cR w h p)(r:es.length<=200)(hz:cR w h z)(gl:d[l]?=b0 (.lst<|es.map PP))(H:∀fs:jq,fs.Nodup->(∀p∈fs,cR w h p)->fs.length<=300->R (.nx,[d0,d1,d2,d3,b0<|.loc l,d5,b0<|PP z,b5,b5,b5],d.set l<|.lst<|fs.map PP)):
  W (HS [d0,d1,d2,d3,b0<|.loc l,d5,b0<|PP z,b5,b5,b5] d) R:=by
 show Ñ.mpr<|bZ<|bF rfl rfl<|(Cb gl).mpr ⟨_,rfl,?_⟩;cases b:es.any λp=>p==z with
 |true=>
  have c:z∈es:=by obtain⟨y,n,e⟩:=zf.mp b;rw[<- beq_iff_eq.mp e];show n
  show(if_pos rfl).mpr<|Ø.mpr<|fB ⟨_,rfl,eS gl,_,rfl,XR gl c ⋯ λo i g=>H o (i.nodup nd) (λp a=>hE p<|i.subset a)<|by lia⟩
 |false=>
  have j:z∉es:=λc=>by have:(es.any λp=>p==z)=true:=zf.mpr ⟨z,c,beq_self_eq_true z⟩;rw[this]at b;cases b
  show(if_neg Z6).mpr (Ø.mpr<|fB ⟨_,rfl,eS gl,_,rfl,(i5 gl<|by rw[ZT,è];lia).mpr ?_⟩);rw[show es.map PP++[PP z]=(es++[z]).map PP by rw[ý];rfl];show H _ (ϩ.mpr ⟨nd,Š.mpr ⟨fu,.nil⟩,λp a q g e=>j ?_⟩) (λp a=>?_)<|by rw[Z4];change _+1<=_;lia
  .rw[<- ā.mp g,<- e];show a
  .rcases ù.mp a with a|a
   .show hE p a
   .rw[ā.mp a];show hz
def Js(hw:1<=w)(a:1<=h):0<((b9 w h).filter cL).length:=PB (a:=(1,1))<|ş.mpr ⟨ĝ.mpr ⟨⟨by decide,by dsimp only;lia⟩,by decide,by dsimp only;lia⟩,by decide⟩
def Jt k{ns:List Int}(hw:1<=w/\w<=6)(e:1<=h/\h<=6){es:jq}(nd:es.Nodup)(hE:∀p∈es,cR w h p)(x:es.length<=200)(gl:r[l]?=b0 (.lst<|es.map PP))(H:∀S A μ',Ĩ S->ϵ w h S->R (.rt<|SH w h S,A,μ')):
  W (BO (k+4) [b0<|.rol<|ns.map D.int,b0<|.int 0,b0<|.int v,b0<|.tup [.int w,.int h],b0<|.loc l,b5,b5,b5,b5,b5] r) R:=by
 show aV<|aL rfl<|Cp (k+2) hw e _ _ λa b z o=>?_;have B:=Js hw.1 e.1;have c:=aJ z gl;show f6 (b:=v/324%4==1) (μ':=b) (by kernel_rfl) (λ_=>rK ?_) λ_=>c5 (Jr k hw e nd hE ⋯ c H);have s:bX [.loc a] b=b0 (.int (((b9 w h).filter cL).length:Nat),b):=bT ((fI o).mpr<|by rw[ZT]);obtain⟨j,u⟩:∃j:Nat,v/1296%(((b9 w h).filter cL).length:Int)=j:=⟨(v/1296%(((b9 w h).filter cL).length:Int)).toNat,by have:=dj (v/1296) (b:=(((b9 w h).filter cL).length:Int)) ⋯;lia⟩;have d:j<((b9 w h).filter cL).length:=by have:=gk (v/1296) (b:=(((b9 w h).filter cL).length:Int)) ⋯;lia
 show aV (aO ⟨_,rfl,aO<|a9 (r:=(.int<|v/1296,b)) (by kernel_rfl)<|aL rfl<|a9 s<|(eD<|by lia).mpr ?_⟩);rw[u];show⟨_,gM o d,?_⟩;have y:cR w h (((b9 w h).filter cL).getD j (0,0)):=by unfold cR;rw[Ń,ZY d];show Ŧ d
 show dN<|YG nd hE x y c λfs n g i=>⟨rfl,Jr k hw e n g i (cY c) H⟩
abbrev YH(k:Nat):MS:=aH (aM 4<|aG (f k "_law_creases")<|aB (aA 0)<|aB (aA 1)<|aB (aA 3) aD)<|aH (bG (fR (aR<|aC (a8 dI) (aC aX (aC cS (aA 2)<|mC<|.int 9)<|mC<|.int 6)<|mC<|.int 5)<|aR<|aC (a8 dI) (aC aX (aC cS (aA 2)<|mC<|.int 5184)<|mC<|.int 4)<|mC<|.int 1) (aH (aM 3<|aW<|aB (mC<|.int 3)<|aB (mC<|.int 3) aD)<|aM 4<|aG (f k "_law_square") aD) bI)<|BO k
def YI:∀p∈jg++wk,(decide (0<p.1/\p.1<4*3)&&decide (0<p.2/\p.2<4*3)&&cL p)=true:=by decide
def Ju k(hw:1<=w/\w<=6)(e:1<=h/\h<=6)(n:cK ns 0/9%6<3\/cK ns 0/9%6=5->w<=3/\h<=3)(H:∀w h S b μ',1<=w/\w<=6->1<=h/\h<=6->Ĩ S->ϵ w h S->R (.rt<|SH w h S,b,μ')):
  W (YH (k+6) [b0<|.rol<|ns.map D.int,b0<|.int 0,b0<|.int<|cK ns 0,b0<|.tup [.int w,.int h],b5,b5,b5,b5,b5,b5] s) R:=by
 show aV<|aL rfl<|Yw k ns hw e n _ _ λa g v x i nd hE o=>?_;show f6 (μ':=g) (yB (mD (b:=cK ns 0/9%6==5)<|by kernel_rfl)<|mD (b:=cK ns 0/5184%4==1)<|by kernel_rfl) (λ_=>rK<|aV ⟨_,rfl,?_⟩) λ_=>c5<|Jt (k+2) hw e nd hE o i λS b μ' d c=>H w h S b μ' hw e d c;show aV (aL rfl<|XT (k+5) _ _ λl u y _ j=>Jt (k+2) (w:=3) (h:=3) (by decide) (by decide) wj.1 (λp r=>?_) (by decide) j λS b μ' d c=>H 3 3 S b μ' (by decide) (by decide) d c);have:=YI p r;simp only[Z9,decide_eq_true_eq]at this;show Cv this.1.1 this.1.2 this.2
def YJ(e:s d c=b0 (a,c))(g:t d c=b0 (b,c)):iM s t d c=b0 (a||b,c):=bT<|ő.mpr ⟨_,e,by
 cases a with
 |true=>show(if_pos rfl).mpr rfl
 |false=>show(if_neg Z6).mpr ⟨_,g,rfl⟩⟩
def YK h x:(jS h x).Nodup:=by unfold jS yh;rw[Ϗ];show MK.imp λz e=>z<|by have:=congrArg Prod.snd e;dsimp only at this;lia
def Jv h:∀n,(jT h n).Nodup/\∀p∈jT h n,p.1<1+(n:Int)
 |0=>⟨.nil,λ_ h=>nomatch h⟩|n+1=>by
  obtain⟨d,b⟩:=Jv h n;have c:∀p∈jS h (1+(n:Int)),p.1=1+(n:Int):=λp a=>by obtain⟨j,_,rfl⟩:=Õ.mp a;rfl
  rw[BY];show⟨ϩ.mpr ⟨d,YK h _,λp a q g e=>?_⟩,λp a=>?_⟩
  .have:=b p a;rw[e,c q g]at this;lia
  .rcases ù.mp a with a|a
   .have:=b p a;lia
   .have:=c p a;lia
def YL(o:ms.length<=900)(g:a[b]?=b0 (.lst<|ms.map MD))(d:∀c,R (.nx,[b0<|.int c,d1,d2,b0<|.loc b,b0<|PP z],a))(i:∀(s:Str)c,(s="o"\/s="h"\/s="v")->R (.nx,[b0<|.int c,d1,d2,b0<|.loc b,b0<|PP z],a.set b<|.lst<|(ms++[(z,s)]).map MD)):W (BP [b0<|.int n,d1,d2,b0<|.loc b,b0<|PP z] a) R:=by
 show f6 (b:=decide (0<n%4)) (μ':=a) (by kernel_rfl) (λh=>?_) λ_=>c5 (ø.mpr<|a9 (r:=(D.int<|n/4,a)) (by kernel_rfl)<|d<|n/4);have h:=of_decide_eq_true h;obtain⟨s,l,j⟩:∃s:Str,(s="o"\/s="h"\/s="v")/\aE (.str " ohv") (.int<|n%4) a=b0 (.str s,a):=by
  have:n%4=1\/n%4=2\/n%4=3:=by lia
  rcases this with e|e|e<;>rw[e]
  .show⟨"o",.inl rfl,by kernel_rfl⟩
  .show⟨"h",.inr<|.inl rfl,by kernel_rfl⟩
  .show⟨"v",.inr<|.inr rfl,by kernel_rfl⟩
 show pE (fB ⟨_,rfl,eS g,aT<|í.mpr<|aT ⟨_,rfl,aT<|bF (x:=.str " ohv") (y:=.int (n%4)) rfl (by kernel_rfl) ⟨_,j,_,rfl,jR,_,rfl,?_⟩⟩⟩);show(i5 g<|by rw[ZT,è];lia).mpr ?_;rw[show ms.map MD++[D.tup [PP z,.str s]]=(ms++[(z,s)]).map MD by rw[ý];rfl];show ø.mpr<|a9 (r:=(D.int<|n/4,a.set b<|.lst<|(ms++[(z,s)]).map MD)) (by kernel_rfl)<|i s (n/4) l
inductive Qx (d1 d2:Option D)(a b:Nat)(ν:Hm)(es:jq):Nat->aF->Hm->Prop
 |mk {i:Nat}{n:Int}{x:Option D}{μ:Hm}{ms:List ((Int×Int)×Str)}(p:ν<+:μ)(gl:μ[a]?=b0 (.lst<|es.map PP))(g:μ[b]?=b0 (.lst<|ms.map MD))(hm:(ms.map (·.1)).Sublist (es.take i))(ok:∀m∈ms,m.2="o"\/m.2="h"\/m.2="v"):Qx d1 d2 a b ν es i [b0<|.int n,d1,d2,b0<|.loc b,x] μ
def YM k n c l(Q:jz)(H:∀w h S μ',1<=w/\w<=6->1<=h/\h<=6->Ĩ S->ϵ w h S->Q (SH w h S,μ')):W (f (k+5) "_law_any_sheet" [.int n,.int c] l) Q:=by
 have hw:1<=1+c%6/\1+c%6<=6:=by lia
 have o:1<=1+c/6%6/\1+c/6%6<=6:=by lia
 show È (WG (k+4) _ _ l) (aV<|a9 (r:=(.tup [.int<|1+c%6,.int<|1+c/6%6],l)) (by kernel_rfl) ?_);generalize 1+c%6=w at hw ⊢;generalize 1+c/6%6=h at o ⊢;show aV ⟨_,rfl,dN<|É.mpr<|Ê.mpr<|aL rfl<|Cp (k+2) hw o _ _ λa M B e=>(cT e).mpr ?_⟩;have v:=aJ B<|aZ l<|C.lst [];have x:=Js hw.1 o.1;have L:a≠l.length:=λz=>by rw[z,v]at e;injection e with e;injection e with e;rw[Og.mp e.symm]at x;show absurd x<|Ų _
 have nd:((b9 w h).filter cL).Nodup:=(Jv h _).1.sublist MW;have hE:∀p∈(b9 w h).filter cL,cR w h p:=λ_ h=>h;have G:((b9 w h).filter cL).length<=529:=ė (bc _ _)<|uB hw.2 o.2;generalize(b9 w h).filter cL=es at e nd hE G;show gQ (b:=BP) (Qx (b0<|.int c) (b0<|.tup [.int w,.int h]) a l.length l es) (.mk (ms:=[]) ((aU _ _).trans B) e v (List.nil_sublist _) λ_ h=>nomatch h) (by rintro _ _ _ ⟨_,g,_,_,_⟩;show g) ?_ ?_
 .rintro i d _ _ hd ⟨p,gl,g,b,ok⟩;obtain⟨z,y,rfl⟩:=kU hd;rename_i A;have j:A.length<=900:=by have:=b.length_le;rw[ZT,Ġ]at this;lia
  show⟨_,rfl,YL j g (λK=>.mk p gl g (b.trans ?_) ok) λs K I=>.mk (cX p (Z2 _) _) ?_ (cY g) ?_ λm b=>?_⟩
  .rw[iG y];show List.sublist_append_left ..
  .rw[Č<|ó L];show gl
  .rw[ý,iG y];show b.append<|b2s _
  .rcases ù.mp b with b|b
   .show ok m b
   .rw[ā.mp b];show I
 .rintro _ _ ⟨p,gl,g,b,ok⟩;rename_i A;rw[ZT,š]at b;have j:=b.length_le;rw[ZT]at j;show⟨rfl,bQ<|aL rfl<|Cy k hw o ⋯ trivial (b.nodup nd) (λm r=>hE _<|b.subset<|Õ.mpr ⟨m,r,rfl⟩) ok g _ λS μ' N u E=>H w h S _ hw o ⟨by rw[u.length_eq];lia,(u.map (·.1)).nodup_iff.mpr<|b.nodup nd,λm r=>ok m<|u.mem_iff.mp r⟩ ⟨λm r=>hE _<|b.subset<|Õ.mpr ⟨m,u.mem_iff.mp r,rfl⟩,E⟩⟩
def YN k(ns:List Int)a(Q:jz)(H:∀w h S μ',1<=w/\w<=6->1<=h/\h<=6->Ĩ S->ϵ w h S->Q (SH w h S,μ')):W (f (k+7) "_law_sheet" [.rol<|ns.map D.int,.int 0] a) Q:=by
 have b:∀{j:Int},0<=j->f (k+6) "_law_nth" [.rol<|ns.map D.int,.int j] a=b0 (.int<|cK ns j,a):=λi=>bT<|pK (k+5) ns i a _ rfl;show È (WH (k+6) _ _ a)<|f6 (μ':=a) (yB (mD (b:=cK ns 8%2==1)<|bT<|aO<|aO<|aL rfl<|a9 (b<|by decide) ⟨_,rfl,Ł.mpr ⟨_,rfl,ĉ.mpr rfl⟩⟩)<|YJ (mD (b:=decide (4096<cK ns 9))<|bT<|aO<|aL rfl<|a9 (b<|by decide) ⟨_,rfl,Β.mpr rfl⟩)<|mD (b:=decide (cK ns 9<0))<|bT<|aO<|aL rfl<|a9 (b<|by decide) ⟨_,rfl,ł.mpr rfl⟩) (λ_=>?_) λ_=>c5 ?_
 .show gK<|dO<|aT<|aL rfl<|a9 (b<|by decide)<|aT<|aL rfl<|a9 (b<|by decide) ⟨_,rfl,YM (k+1) _ _ _ _ H⟩
 .show aV (aL rfl<|a9 (b<|by decide) ?_);have n:0<=cK ns 0%3/\cK ns 0%3<3/\0<=cK ns 0/3%3/\cK ns 0/3%3<3:=by lia
  show aV (a9 (r:=(.tup [.int<|1+cK ns 0%3,.int<|1+cK ns 0/3%3],a)) (by kernel_rfl) ?_);show f6 (μ':=a) (yB (mD<|uH (x:=2) (y:=cK ns 0/9%6) (z:=5) rfl (by kernel_rfl) rfl)<|mD (b:=cK ns 0/5184%4==1)<|by kernel_rfl) (λz=>?_) λz=>c5 ?_
  .simp only[Z9,decide_eq_true_eq]at z;show aV (a9 (r:=(.tup [.int<|1+cK ns 0%3+3,.int<|1+cK ns 0/3%3+3],a)) (by kernel_rfl) ?_);show Ju k ⋯ ⋯ (λy=>by lia) λw h S l μ' c d e g=>H w h S μ' c d e g
  .show Ju k ⋯ ⋯ (λy=>by lia) λw h S l μ' c d e g=>H w h S μ' c d e g
noncomputable abbrev Ed:=Int×Int
noncomputable abbrev St:=Ed×Ed×Bool×Ed
abbrev fL(s:St):St:=(s.2.1,s.1,s.2.2.1,s.2.2.2)
abbrev bV(T:List St)(e:Ed):List St:=T.flatMap λt=>(if t.1=e then[t]else[])++if t.2.1=e then[fL t]else[]
def ï:s∈bV T e↔s.1=e/\(s∈T\/fL s∈T):=by
 unfold bV;rw[zj];constructor
 .rintro⟨t,b,a⟩;rcases ù.mp a with a|a
  .by_cases h:t.1=e
   .rw[if_pos h]at a;rw[ā.mp a];show⟨h,.inl b⟩
   .rw[if_neg h]at a;cases a
  .by_cases h:t.2.1=e
   .rw[if_pos h]at a;rw[ā.mp a];show⟨h,.inr b⟩
   .rw[if_neg h]at a;cases a
 .rintro⟨h,a|a⟩
  .show⟨s,a,ù.mpr<|.inl<|by rw[if_pos h];show .head _⟩
  .show⟨fL s,a,ù.mpr<|.inr<|by rw[if_pos<|show(fL s).2.1=e from h];show .head _⟩
inductive Rc (T:List St)(M:List Ed):List (Ed×Option St)->Prop
 |st:Rc T M<|M.map λe=>(e,b5)
 |sn {R:List (Ed×Option St)}{s:St}(h:Rc T M R)(hs:s∈bV T s.1)(h1:s.1∈R.map (·.1))(h2:s.2.1∉R.map (·.1)):Rc T M<|R++[(s.2.1,b0 s)]
def uJ(M:List Ed):(M.map λe=>(e,(b5:Option St))).map (·.1)=M:=by rw[Û];show Nu _
def Rc.nd(c:M.Nodup)(h:Rc T M R):(R.map (·.1)).Nodup:=by
 induction h with
 |st=>rw[uJ];show c|sn h j i b g=>rw[ý];show ϩ.mpr ⟨g,Š.mpr ⟨fu,.nil⟩,λx a y d e=>b ?_⟩;have:y=_:=ā.mp d;rw[e,this]at a;show a
def Rc.up(h:Rc T M R):∀e o,(e,o)∈R->match o with|none=>e∈M|some s=>s.2.1=e/\s∈bV T s.1/\s.1∈R.map (·.1)/\(R.map (·.1)).idxOf s.1<(R.map (·.1)).idxOf e:=by
 induction h with
 |st=>intro e o h;obtain⟨x,r,j⟩:=Õ.mp h;cases j;show r|@sn R s h p i l u=>
  intro e o g;rw[ý];rcases ù.mp g with g|g
  .have:=u e o g;have n:e∈R.map (·.1):=Õ.mpr ⟨_,g,rfl⟩;cases o with
   |none=>show this|some t=>obtain⟨a,b,c,d⟩:=this;show⟨a,b,ù.mpr<|.inl c,?_⟩;rw[Ky,Ky,if_pos c,if_pos n];show d
  .cases ā.mp g;show⟨rfl,p,ù.mpr<|.inl i,?_⟩;rw[Ky,Ky,if_pos i,if_neg l];have:=PK.mpr i;lia
inductive Wy (T:List St):Ed->List St->Ed->Prop
 |nil (e:Ed):Wy T e [] e
 |cons {s:St}{w:List St}{e:Ed}(hs:s∈bV T s.1)(h:Wy T s.2.1 w e):Wy T s.1 (s::w) e
abbrev cF(w:List St):Nat:=(w.filter λs=>!s.2.2.1).length
abbrev eC(b:Bool):Int:=if b then 0 else 1
structure Gr(T:List St)(C:List Ed)(r:Ed->Ed)(p:Ed->Int):Prop where
 on:∀e∈C,p e=0\/p e=1
 ti:∀t∈T,r t.1=r t.2.1/\(p t.1+p t.2.1+eC t.2.2.1)%2=0
def Gr.way{C:List Ed}(g:Gr T C r p)(h:Wy T m w e):r m=r e/\(p m+p e+cF w)%2=0:=by
 induction h with
 |nil e=>show⟨rfl,by change(p e+p e+((0:Nat):Int))%2=0;lia⟩|@cons s w e j h d=>
  have:r s.1=r s.2.1/\(p s.1+p s.2.1+eC s.2.2.1)%2=0:=by
   rcases(ï.mp j).2 with b|b
   .show g.ti s b
   .have:=g.ti _ b;show⟨this.1.symm,?_⟩;have l:(p s.2.1+p s.1+eC s.2.2.1)%2=0:=this.2;lia
  show⟨this.1.trans d.1,?_⟩;have a:=this.2;have i:=d.2;unfold cF at i ⊢;rw[zg];cases c:s.2.2.1 with
  |true=>rw[if_neg<|by simp];rw[c]at a;unfold eC at a;simp only[if_true]at a;lia|false=>rw[if_pos<|by rfl,ć];rw[c]at a;unfold eC at a;simp only[Į,if_false]at a;lia
inductive Cn (T:List St):Ed->Ed->Prop
 |rf (e:Ed):Cn T e e
 |go {e:Ed}{s:St}(h:Cn T e s.1)(hs:s∈bV T s.1):Cn T e s.2.1
def Cn.tr(h:Cn T a b)(g:Cn T b c):Cn T a c:=by
 induction g with
 |rf=>show h|go g d e=>show .go e d
def Jw(h:s∈bV T s.1):fL s∈bV T (fL s).1:=ï.mpr ⟨rfl,(ï.mp h).2.symm.imp id id⟩
def Cn.sy(h:Cn T a b):Cn T b a:=by
 induction h with
 |rf=>show .rf _|@go s h c d=>show Cn.tr (.go (s:=fL s) (.rf _)<|Jw c) d
def Cn.cl{R:List Ed}(hc:∀e∈R,∀s∈bV T e,s.2.1∈R)(h:Cn T a b)(c:a∈R):b∈R:=by
 induction h with
 |rf=>show c|go h d g=>show hc _ g _ d
def Wy.cn(h:Wy T m w e):Cn T m e:=by
 induction h with
 |nil=>show .rf _|@cons s w e a h b=>show Cn.tr (.go (.rf _) a) b
abbrev bM(s:St):D:=.tup [PP s.1,PP s.2.1,.bl s.2.2.1,PP s.2.2.2]
def YO kvs k k' d:aY (kvs.map λp=>if p.1=k then(p.1,d)else p) k'=if k'=k then(aY kvs k').map λ_=>d else aY kvs k':=by
 induction kvs with
 |nil=>split<;>rfl|cons x e b=>
  unfold aY at b ⊢;rw[é,Ş,Ş];have c:(if x.1=k then(x.1,d)else x).1=x.1:=by split<;>rfl
  rw[c];by_cases h:x.1=k'
  .rw[decide_eq_true h];by_cases a:x.1=k
   .rw[if_pos a,if_pos<|h.symm.trans a];rfl
   .rw[if_neg a,if_neg λz=>a<|h.trans z]
  .rw[decide_eq_false h];show b
def yE kvs k k' d:aY (bW kvs k d) k'=if k'=k then b0 d else aY kvs k':=by
 unfold bW;by_cases h:(aY kvs k).isSome=eA
 .rw[if_pos h,YO];by_cases e:k'=k
  .rw[if_pos e,if_pos e,e];obtain⟨v,b⟩:=Pu.mp h;rw[b];rfl
  .rw[if_neg e,if_neg e]
 .rw[if_neg h];have a:kvs.find? (λp=>decide<|p.1=k)=none:=by
   unfold aY at h;cases z:kvs.find? (λp=>decide<|p.1=k)with
   |none=>rfl|some v=>rw[z]at h;show absurd rfl h
  unfold aY;rw[O9];by_cases e:k'=k
  .rw[if_pos e,e,a];simp
  .rw[if_neg e];cases kvs.find? (λp=>decide<|p.1=k')with
   |some v=>rfl|none=>rw[Ş,decide_eq_false λz=>e z.symm];rfl
def Jx kvs k d:(bW kvs k d).length<=kvs.length+1:=by
 unfold bW;split
 .rw[ZT];lia
 .rw[Z4];show Z2 _
structure SD(ν:Hm)(κ:Nat)(μ:Hm)(a:Nat)(kvs:jx)(F:Ed->List St):Prop where
 pre:ν<+:μ
 la:ν.length<=a/\ν.length<=κ/\κ<=μ.length
 dic:μ[a]?=b0 (.dT kvs)
 no:∀e,aY kvs (bB e)=b5->F e=[]
 ats:∀e d,aY kvs (bB e)=b0 d->∃l,d=.loc l/\κ<=l/\μ[l]?=b0 (.lst<|(F e).map bM)
 inj:∀e e' d,aY kvs (bB e)=b0 d->aY kvs (bB e')=b0 d->e=e'
def SD.more{μ':Hm}(h:SD ν κ μ a kvs F)(p:μ<+:μ'):SD ν κ μ' a kvs F:=⟨h.pre.trans p,⟨h.la.1,h.la.2.1,ė h.la.2.2 p.length_le⟩,aJ p h.dic,h.no,λe d z=>(h.ats e d z).imp λl ⟨x,y,g⟩=>⟨x,y,aJ p g⟩,h.inj⟩
abbrev jA(F:Ed->List St)(s:St):Ed->List St:=λx=>if x=s.1 then F x++[s]else F x
def SD.ne(h:SD ν κ μ a kvs F)(g:μ[l]?=b0 (.lst xs)):l≠a:=λz=>by have:=h.dic;rw[<- z,g]at this;cases this
def SD.old(h:SD ν κ μ a kvs F)(c:aY kvs (bB s.1)=b0 (.loc l)):SD ν κ (μ.set l<|.lst<|(F s.1).map bM++[bM s]) a kvs (jA F s):=by
 obtain⟨r,e,j,g⟩:=h.ats _ _ c;cases e;show⟨cX h.pre (ė h.la.2.1 j) _,⟨h.la.1,h.la.2.1,by rw[ξ];show h.la.2.2⟩,by rw[Č<|h.ne g];show h.dic,λe b=>?_,λe d b=>?_,h.inj⟩
 .unfold jA;rw[if_neg λz=>by rw[z,c]at b;cases b];show h.no e b
 .unfold jA;by_cases z:e=s.1
  .rw[if_pos z];rw[z,c]at b;cases b;show⟨l,rfl,j,by rw[cY g,z,ý];rfl⟩
  .rw[if_neg z];obtain⟨n,i,p,o⟩:=h.ats _ _ b;show⟨n,i,p,?_⟩;rw[Č λy:l=n=>z<|h.inj _ _ _ (by rw[b,i,y]) c];show o
def SD.new(h:SD ν κ μ a kvs F)(v:aY kvs (bB s.1)=b5):SD ν κ (((μ++[C.lst []]).set a<|.dT<|bW kvs (bB s.1)<|.loc μ.length).set μ.length<|.lst [bM s]) a (bW kvs (bB s.1)<|.loc μ.length) (jA F s):=by
 have i:=aU μ<|C.lst [];have lt:a<μ.length:=(ZW.mp h.dic).1;have p:=h.pre.length_le;have B:=aZ μ<|C.lst [];show⟨cX (cX (h.pre.trans i) h.la.1 _) p _,⟨h.la.1,h.la.2.1,by rw[ξ,ξ];show ė h.la.2.2 i.length_le⟩,?_,λe b=>?_,λe d b=>?_,λe r d b c=>?_⟩
 .rw[Č<|by lia,cY<|aJ i h.dic]
 .rw[yE]at b;by_cases z:bB e=bB s.1
  .rw[if_pos z]at b;cases b
  .rw[if_neg z]at b;unfold jA;rw[if_neg λy=>z<|congrArg bB y];show h.no e b
 .rw[yE]at b;unfold jA;by_cases z:bB e=bB s.1
  .rw[if_pos z]at b;cases b;rw[if_pos<|i8 z];show⟨_,rfl,h.la.2.2,?_⟩;rw[Ν<|by rw[ξ,Z4];show ϛ _,i8 z,h.no _ v];rfl
  .rw[if_neg z]at b;rw[if_neg λy=>z<|congrArg bB y];obtain⟨o,n,u,g⟩:=h.ats _ _ b;show⟨o,n,u,?_⟩;have A:o<μ.length:=(ZW.mp g).1;rw[Č<|by lia,Č<|ó<|h.ne g];show aJ i g
 .have fresh:∀x,aY kvs (bB x)≠b0 (.loc μ.length):=λx w=>by obtain⟨o,n,_,g⟩:=h.ats _ _ w;cases n;show absurd (ZW.mp g).1<|Ų _
  rw[yE]at b c;by_cases z:bB e=bB s.1<;>by_cases j:bB r=bB s.1
  .show(i8 z).trans (i8 j).symm
  .rw[if_pos z]at b;rw[if_neg j]at c;cases b;show absurd c<|fresh _
  .rw[if_neg z]at b;rw[if_pos j]at c;cases c;show absurd b<|fresh _
  .rw[if_neg z]at b;rw[if_neg j]at c;show h.inj _ _ _ b c
def yF{kvs:jx}{f:D->List D->Hm->jk}{Q:jz}(d:c b μ=b0 (.loc a,μ))(hc:μ[a]?=b0 (.dT kvs))(h:W (ms b μ) λq=>W (f (.loc a) q.1 q.2) Q):W (iX f c ms b μ) Q:=by unfold iX;rw[d,Ē,show tE μ (.loc a)=eA by simp only[tE,hc]];show Â.mpr h
def Jy(A:∀μ,aA i o μ=b0 (.loc a,μ))(h1:∀μ,r o μ=b0 (PP s.1,μ))(x:∀μ,u o μ=b0 (bM s,μ))(J:SD ν κ μ a kvs F)(B:(F s.1).length<=3000)(E:kvs.length<=3000)(H:∀μ' h,SD ν κ μ' a h (jA F s)->h.length<=kvs.length+1->(∀b c,b<κ->b≠a->μ[b]?=b0 c->μ'[b]?=b0 c)->R (.nx,o,μ')):
  W (cV (c4 e6 (iX kM (aA i)<|aB r<|aB (bU aD) aD)<|aB u aD) o μ) R:=by
 have j:=aU μ<|C.lst [];have lt:a<μ.length:=(ZW.mp J.dic).1;show Ø.mpr<|fB<|yF (A μ) J.dic<|aT ⟨_,h1 μ,aT ⟨_,rfl,_,rfl,?_⟩⟩;have w:=aJ j J.dic;cases n:aY kvs (bB s.1)with
 |some d=>
  obtain⟨l,rfl,G,g⟩:=J.ats _ _ n;have e:kM (.loc a) [PP s.1,.loc μ.length] (μ++[C.lst []])=b0 (.loc l,μ++[C.lst []]):=by simp only[kM,w,dD,Ē,n]
  show⟨_,e,eS<|aJ j g,aT ⟨_,x _,_,rfl,(i5 (aJ j g)<|by rw[ZT,è];lia).mpr<|H _ _ ((J.more j).old n) (m8 _) λb c z _ p=>?_⟩⟩;rw[Č<|by lia];show aJ j p
 |none=>
  have e:kM (.loc a) [PP s.1,.loc μ.length] (μ++[C.lst []])=b0 (.loc μ.length,(μ++[C.lst []]).set a<|.dT<|bW kvs (bB s.1)<|.loc μ.length):=by simp only[kM,w,dD,Ē,n];rw[if_pos<|by rw[è];lia]
  have v:((μ++[C.lst []]).set a<|.dT<|bW kvs (bB s.1)<|.loc μ.length)[μ.length]?=b0 (.lst []):=by rw[Č<|by lia];show aZ _ _
  show⟨_,e,eS v,aT ⟨_,x _,_,rfl,(i5 v<|by decide).mpr<|H _ _ (J.new n) (Jx _ _ _) λb c z y p=>?_⟩⟩;have:=J.la.2.2;rw[Č<|by lia,Č<|ó y];show aJ j p
abbrev Cz(l:List Int):Ed:=(l.getD 0 0,l.getD 1 0)
abbrev YQ(t:Ti):St:=(Cz t.1,Cz t.2.1,t.2.2.1,Cz t.2.2.2)
def Jz{a:Type}{l:List a}(h:i<l.length)d:l.getD i d∈l:=by rw[Ń,ZY h];show Ŧ h
def JA(b:t∈f7 m w h):∃p q a c,t=l6 p q a c/\m p=eA/\m q=true:=by
 obtain⟨c,_,b⟩:=zj.mp b;have d:∀{i:Nat},i<(dQ m c).length->m ((dQ m c).getD i (0,0))=true:=λe=>(ş.mp<|Jz e (0,0)).2;unfold iE at b;split at b
 .rename_i l;rw[ā.mp b];show⟨_,_,_,_,rfl,d<|by lia,d<|by lia⟩
 .obtain⟨i,e,b⟩:=zj.mp b;have e:=Ō.mp e;have j:0<(dQ m c).length:=by lia
  unfold i7 at b;split at b
  .unfold nO at b;rcases Ě.mp b with rfl|b
   .show⟨_,_,_,_,rfl,d e,d<|kj _ j⟩
   .split at b
    .rename_i g;rw[ā.mp b];show⟨_,_,_,_,rfl,d<|by rw[g];show kj _<|by decide,d<|by rw[g];show kj _<|by decide⟩
    .cases b
  .cases b
def YR p q:eE p q=p\/eE p q=q:=by
 unfold eE;split
 .show .inr rfl
 .show .inl rfl
def YS p q:eF p q=p\/eF p q=q:=by
 unfold eF;split
 .show .inr rfl
 .show .inl rfl
def yG p q:HT.lexLt (cJ p) (cJ q)=eA↔p.1<q.1\/p.1=q.1/\p.2<q.2:=by
 unfold cJ;simp only[HT.lexLt];by_cases a:p.1<q.1
 .simp[a];lia
 .by_cases b:q.1<p.1
  .simp[a,b];lia
  .have:p.1=q.1:=by lia
   simp[this];lia
def YT(h:HT.lexLt (cJ p) (cJ q)=eA):HT.lexLt (cJ q) (cJ p)=false:=by
 cases z:HT.lexLt (cJ q) (cJ p)with
 |false=>rfl|true=>have:=(yG _ _).mp h;have:=(yG _ _).mp z;lia
def YU(h:HT.lexLt (cJ p) (cJ q)=dI)(g:HT.lexLt (cJ q) (cJ p)=dI):p=q:=by have h:¬ _:=λz=>Z6<|h.symm.trans<|(yG p q).mpr z;have g:¬ _:=λz=>Z6<|g.symm.trans<|(yG q p).mpr z;show cu ⋯<|by lia
def YV p q:eE (eE p q) (eF p q)=eE p q/\eF (eE p q) (eF p q)=eF p q/\eE (eF p q) (eE p q)=eE p q/\eF (eF p q) (eE p q)=eF p q:=by
 cases h:HT.lexLt (cJ q) (cJ p)with
 |true=>simp only[eE,eF,h,YT h,if_true,Į,if_false,and_self]|false=>
  cases g:HT.lexLt (cJ p) (cJ q)with
  |true=>simp only[eE,eF,h,g,if_true,Į,if_false,and_self]|false=>cases YU g h;simp only[eE,eF,h,Į,if_false,and_self]
abbrev TT(ms:List ((Int×Int)×Str))(w h:Int):List St:=(kW<|f7 (aQ ms) w h).map YQ
def JB(h:t∈kW ts):t∈ts:=by unfold kW at h;obtain⟨i,a,rfl⟩:=Õ.mp h;show Jz (Ō.mp<|(fU _ _).mem_iff.mp a) _
def YW ts:(kW ts).length=ts.length:=by unfold kW;rw[ZT,(fU _ _).length_eq,ώ]
def CA(hw:1<=w/\w<=6)(a:1<=h/\h<=6)ms:(TT ms w h).length<=1000:=by unfold TT;rw[ZT,YW];have b:=pJ (B9<|aQ ms)<|bN w h;have c:=XE w (rM hw) h<|rM a;unfold f7;lia
def YX ms w h:(kW<|f7 (aQ ms) w h).map dM=(TT ms w h).map bM:=by unfold TT;rw[Û];show eG λt b=>?_;obtain⟨p,q,a,c,rfl,_,_⟩:=JA<|JB b;rfl
def JC(h:aQ ms p=eA):p∈ms.map (·.1):=by obtain⟨x,a,e⟩:=zf.mp h;rw[<- beq_iff_eq.mp e];show a
def CB(g:t∈TT ms w h):(t.1∈ms.map (·.1)/\t.2.1∈ms.map (·.1))/\(eE t.1 t.2.1=t.1/\eF t.1 t.2.1=t.2.1/\eE t.2.1 t.1=t.1/\eF t.2.1 t.1=t.2.1):=by
 obtain⟨u,i,rfl⟩:=Õ.mp g;obtain⟨p,q,a,c,rfl,b,d⟩:=JA<|JB i;have b:=JC b;have d:=JC d;show⟨⟨?_,?_⟩,YV p q⟩
 .change eE p q∈_;rcases YR p q with e|e<;>rw[e]<;>assumption
 .change eF p q∈_;rcases YS p q with e|e<;>rw[e]<;>assumption
def JD k s a:f (k+1) "walked_back" [bM s] a=b0 (bM<|fL s,a):=(Wf k _ a).trans<|by kernel_rfl
def YY T t:bV (T++[t])=jA (jA (bV T) t) (fL t):=by
 funext e;unfold bV jA;rw[zy,Md,List.flatMap_nil,Ň];change _=if e=t.2.1 then _ else _
 by_cases a:t.1=e<;>by_cases b:t.2.1=e
 .rw[if_pos a,if_pos b,if_pos b.symm,if_pos a.symm,ú]
 .rw[if_pos a,if_neg b,if_neg<|ó b,if_pos a.symm,Ň]
 .rw[if_neg a,if_pos b,if_pos b.symm,if_neg<|ó a,mj]
 .rw[if_neg a,if_neg b,if_neg<|ó b,if_neg<|ó a,Ň,Ň]
def YZ T e:(bV T e).length<=2*T.length:=by show pJ (λt=>?_) T;rw[Z4];split<;>split<;>simp
inductive Qe (d0:Option D)(ν:Hm)(κ a b:Nat)(T:List St):Nat->aF->Hm->Prop
 |mk {i:Nat}{kvs:jx}{x:Option D}{μ:Hm}(J:SD ν κ μ a kvs (bV<|T.take i))(hk:kvs.length<=2*i)(gb:μ[b]?=b0 (.lst<|T.map bM)):Qe d0 ν κ a b T i [d0,b0<|.loc a,x] μ
def CC{T:List St}{i:Nat}(h:(T.map bM)[i]?=b0 d):∃s,T[i]?=b0 s/\bM s=d:=by rw[þ]at h;show ZX.mp h
def JE k(hw:1<=w/\w<=6)(A:1<=h/\h<=6)(M:(bN w h).find? (cN<|aQ ms)=b5)(U:jN (f7 (aQ ms) w h))c(Q:jz)(H:∀κ μ' a kvs,SD c κ μ' a kvs (bV<|TT ms w h)->Q (.loc a,μ')):W (f (k+9) "steps_from" [SH w h ms] c) Q:=by
 have L:=CA hw A ms;show È (Wg (k+8) _ c)<|aV<|Ą.mpr<|dN<|É.mpr<|Ê.mpr<|aL rfl<|Xl (k+1) hw A M U _ _ λb l G s j=>?_;rw[YX]at j;generalize TT ms w h=T at L j H;have r:=aJ G<|aZ c<|C.dT [];have v:b≠c.length:=λz=>by rw[z,r]at j;cases j
 have s:b<l.length:=(ZW.mp j).1;have lm:c.length<l.length:=(ZW.mp r).1;show(cT j).mpr<|gQ (Qe (b0<|SH w h ms) c l.length c.length b T) (.mk (kvs:=[]) ⟨(aU _ _).trans G,⟨Z2 _,by lia,Z2 _⟩,r,λ_ _=>rfl,λ_ _ z=>(nomatch z),λ_ _ _ z=>(nomatch z)⟩ (Z2 _) j) (by rintro _ _ _ ⟨_,_,g⟩;show g) ?_ ?_
 .rintro i d _ u hd ⟨J,N,y⟩;obtain⟨t,B,rfl⟩:=CC hd;have Z:=(ZW.mp B).1;have x:∀e,(bV (T.take i) e).length<=2000:=λe=>by have:=YZ (T.take i) e;rw[Ġ]at this;lia
  show⟨_,rfl,dN<|Jy (i:=1) (s:=t) (λ_=>rfl) (λ_=>rfl) (λ_=>rfl) J (ė (x _)<|by decide) ⋯ λX E I O o=>⟨rfl,Jy (i:=1) (s:=fL t) (λ_=>rfl) (λ_=>rfl) (λμ'=>pL rfl<|JD (k+7) t μ') I ?_ ⋯ λY n K R p=>.mk (kvs:=n) ?_ ⋯<|p _ _ s v<|o _ _ s v y⟩⟩
  .change(jA _ t _).length<=_;unfold jA;have:=x (fL t).1;split
   .rw[Z4];change _+1<=_;lia
   .lia
  .rw[iG B,YY];show K
 .rintro _ u ⟨J,N,y⟩;rw[ZT,š]at J;show⟨rfl,bQ ⟨_,rfl,H _ _ _ _ J⟩⟩
abbrev cA(s:Str):Bool:=(eW t9<|.inr s).isSome
def CD k s a:f (k+1) "is_marked" [.str s] a=b0 (.bl<|cA s,a):=(Wh k _ a).trans<|by kernel_rfl
abbrev dY(ms:List ((Int×Int)×Str)):List Ed:=(ms.filter λm=>cA m.2).map (·.1)
def JF k(n:ms.length<=1000)(g:Hm)(Q:jz)(H:∀a μ',g<+:μ'->μ'[a]?=b0 (.lst<|(dY ms).map PP)->Q (.loc a,μ')):W (f (k+2) "marked_creases" [SH w h ms] g) Q:=by
 show È (Wi (k+1) _ g)<|bQ<|t7 (xs:=ms.map MD) (x:=λd=>match d with|.tup [a,b]=>[b0 a,b0 b]|_=>[]) (p:=λd=>match d with|.tup [_,.str s]=>cA s|_=>dI) (v:=λd=>match d with|.tup [a,_]=>a|_=>.non)<|Ê.mpr<|bF rfl rfl<|Œ.mpr ⟨_,rfl,λμ' i c=>rfl,rfl,by rw[ZT,è];lia,λd μ' hd=>?_,λd μ' hd c=>?_,λd μ' hd _ c=>?_,λμ' c l=>H _ _ c ?_⟩
 .obtain⟨e,j,rfl⟩:=Õ.mp hd;rfl
 .obtain⟨e,j,rfl⟩:=Õ.mp hd;show fJ<|aL rfl<|a9 (CD k e.2 μ') ⟨rfl,rfl,õ _⟩
 .obtain⟨e,j,rfl⟩:=Õ.mp hd;show⟨_,rfl,rfl,õ _⟩
 .rw[l,sr,Û];unfold dY;rw[Û];rfl
abbrev rD:Option St->D
 |none=>.non|some s=>bM s
abbrev b7(R:List (Ed×Option St)):jx:=R.map λr=>(bB r.1,rD r.2)
def JG R:(b7 R).map (·.1)=(R.map (·.1)).map bB:=by unfold b7;rw[Û,Û];rfl
def yH(nd:(R.map (·.1)).Nodup){e:Ed}(h:(e,o)∈R):aY (b7 R) (bB e)=b0 (rD o):=Cm (by rw[JG];show Mu _ (λa b c x=>c<|i8 x) nd)<|Õ.mpr ⟨_,h,rfl⟩
def CF{e:Ed}(h:e∉R.map (·.1)):aY (b7 R) (bB e)=none:=by
 unfold aY;rw[ie.mpr]
 .rfl
 .intro x a;obtain⟨z,b,rfl⟩:=Õ.mp a;rw[decide_eq_true_iff];show λy=>h<|i8 y▸Õ.mpr ⟨z,b,rfl⟩
def JI{e:Ed}(h:e∉R.map (·.1)):bW (b7 R) (bB e) (rD o)=b7 (R++[(e,o)]):=by unfold bW;rw[CF h,if_neg<|by simp];unfold b7;rw[ý];rfl
abbrev rO(st a r:Nat)(x:Option D)(q:Nat)(h s:Option D):aF:=[b0<|.loc st,b0<|.loc a,b0<|.loc r,x,b0<|.loc q,h,s]
inductive vo (T:List St)(M U:List Ed)(μ0:Hm)(r q n:Nat)(R:List (Ed×Option St))(μ:Hm):Prop
 |mk (rc:Rc T M R)(hC:∀e∈R.map (·.1),e∈U)(p:μ0<+:μ)(hr:μ0.length<=r)(hq:μ0.length<=q)(gr:μ[r]?=b0 (.dT<|b7 R))(gq:μ[q]?=b0 (.lst<|((R.drop n).map (·.1)).map PP))
def Y0(hM:M.Nodup)(hC:U.length<=600)(N:∀t∈T,t.1∈U/\t.2.1∈U)(hn:n<=R.length)(J:vo T M U v r q n R u)(O:s∈bV T s.1)(h1:s.1∈R.map (·.1))(H:∀y d,(∃l,y=R++l)->vo T M U v r q n y d->s.2.1∈y.map (·.1)->(∀b c,b≠r->b≠q->u[b]?=b0 c->d[b]?=b0 c)->Q (.nx,rO st Z r x q h<|b0<|bM s,d)):W (BQ (rO st Z r x q h<|b0<|bM s) u) Q:=by
 obtain⟨K,I,p,E,B,i,w⟩:=J;have nd:=K.nd hM;have rl:R.length<=600:=by have:=M1 nd I;rw[ZT]at this;lia
 have Y:q≠r:=λz=>by rw[z,i]at w;cases w
 show Ñ.mpr<|bZ<|bF rfl rfl<|(rG i<|dD s.2.1).mpr ⟨_,rfl,?_⟩;by_cases j:s.2.1∈R.map (·.1)
 .obtain⟨⟨e,o⟩,a,X⟩:=Õ.mp j;dsimp only at X;subst X;rw[yH nd a];show(if_neg Z6).mpr<|Ï.mpr<|H R u ⟨[],(Ň _).symm⟩ ⟨K,I,p,E,B,i,w⟩ j λ_ _ _ _ g=>g
 .rw[CF j];show(if_pos rfl).mpr (Ë.mpr<|ě.mpr ⟨_,rfl,_,rfl,_,rfl,(t8 i (dD s.2.1)<|by unfold b7;rw[ZT,è];lia).mpr ?_⟩);have A:(u.set r<|.dT<|bW (b7 R) (bB s.2.1)<|bM s)[q]?=b0 (.lst<|((R.drop n).map (·.1)).map PP):=by rw[Č<|ó Y];show w
  show Ø.mpr (fB ⟨_,rfl,eS A,_,rfl,(i5 A<|by rw[ZT,ZT,Λ,è];lia).mpr ?_⟩);have L:=Rc.sn K O h1 j;show H (R++[(s.2.1,b0 s)]) _ ⟨_,rfl⟩ ⟨L,λe a=>?_,cX (cX p E _) B _,E,B,?_,?_⟩ (by rw[ý];show ù.mpr<|.inr<|.head _) λb c b1 b2 g=>?_
  .rw[ý]at a;rcases ù.mp a with a|a
   .show I e a
   .rw[ā.mp a];rcases(ï.mp O).2 with G|G
    .show(N _ G).2
    .show(N _ G).1
  .rw[Č Y,cY i];show congrArg (λz=>b0<|C.dT z)<|JI (o:=b0 s) j
  .rw[cY A,My hn,ý,ý];rfl
  .rw[Č<|ó b2,Č<|ó b1];show g
inductive Qn (T:List St)(M U:List Ed)(μ0:Hm)(st ss r q n l:Nat)(h:Option D)(e:Ed)(R:List (Ed×Option St)):Nat->aF->Hm->Prop
 |mk {i:Nat}{x s:Option D}{R':List (Ed×Option St)}{μ:Hm}(J:vo T M U μ0 r q (n+1) R' μ)(ex:∃l,R'=R++l)(cl:∀t∈(bV T e).take i,t.2.1∈R'.map (·.1))(gl:μ[l]?=b0 (.lst<|(bV T e).map bM)):Qn T M U μ0 st ss r q n l h e R i (rO st ss r x q h s) μ
inductive LV (T:List St)(M U:List Ed)(μ0:Hm)(st ss r q:Nat):Nat->aF->Hm->Prop
 |mk {m n:Nat}{x h s:Option D}{R:List (Ed×Option St)}{μ:Hm}(J:vo T M U μ0 r q n R μ)(hm:m+n=1700)(hn:n<=R.length)(cl:∀e∈(R.take n).map (·.1),∀t∈bV T e,t.2.1∈R.map (·.1)):LV T M U μ0 st ss r q m (rO st ss r x q h s) μ
def Y1{Q:jz}(h:b[a]?=b0 (.lst xs))(g:0<=i/\i<1000)(c:xs[i.toNat]?=b0 d):W (oK (.loc a) [.int i] b) Q↔Q (d,b.set a<|.lst<|xs.eraseIdx i.toNat):=by
 have e:oK (.loc a) [.int i] b=b0 (d,b.set a<|.lst<|xs.eraseIdx i.toNat):=by simp only[oK,h];rw[if_pos<|by lia,c];rfl
 rw[e];show À
def Y2(hM:M.Nodup)(hU:U.length<=600)(hT:∀t∈T,t.1∈U/\t.2.1∈U)(hl:T.length<=1000)(S:SD ν κ b st kvs (bV T))(J:vo T M U b r q n R L)(hm:m+n=1700)(Y:n<R.length)(cl:∀e∈(R.take n).map (·.1),∀t∈bV T e,t.2.1∈R.map (·.1)):
  W (BR (rO st K r x q h s) L) λp=>p.1=.nx/\∃I,I<m/\LV T M U b st K r q I p.2.1 p.2.2:=by
 obtain⟨rc,rC,p,hr,hq,gr,w⟩:=J;have nd:=rc.nd hM;have rl:R.length<=600:=by have:=M1 nd rC;rw[ZT]at this;lia
 have rq:q≠r:=λz=>by rw[z,gr]at w;cases w
 rw[il Y,é,é]at w;have G:R[n]∈R:=Ŧ Y;have H:R.take (n+1)=R.take n++[R[n]]:=by rw[di,ZY Y];rfl
 generalize R[n]=en at w G H;show aV (fB ⟨_,rfl,eS w,_,rfl,(Y1 w ⋯ rfl).mpr ?_⟩);have y:=cY (c':=C.lst (((R.drop<|n+1).map (·.1)).map PP)) w;have A:(L.set q<|C.lst<|((R.drop<|n+1).map (·.1)).map PP)[r]?=b0 (.dT<|b7 R):=by rw[Č rq];show gr
 have Q:=cX (c:=C.lst (((R.drop<|n+1).map (·.1)).map PP)) p hq;change W (cD _ _ _ _<|L.set q<|C.lst<|((R.drop<|n+1).map (·.1)).map PP) _;generalize L.set q (C.lst<|((R.drop<|n+1).map (·.1)).map PP)=μ1 at y A Q ⊢;have N:=S.more Q;have he:en.1∈R.map (·.1):=Õ.mpr ⟨_,G,rfl⟩;have v:∀l o,μ1<+:o->l≠r->l≠q->o[l]?=b0 (.lst<|(bV T en.1).map bM)->W (eI (c7<|.loc l) (cC 6) BQ (((bV T en.1).map bM).length+1) 0 (rO st K r x q (b0<|PP en.1) s) o) λp=>p.1=.nx/\∃I,I<m/\LV T M U b st K r q I p.2.1 p.2.2:=λl o j l1 l2 gl=>by
  show gQ (Qn T M U b st K r q n l (b0<|PP en.1) en.1 R) (.mk (R':=R) ⟨rc,rC,Q.trans j,hr,hq,aJ j A,aJ j y⟩ ⟨[],(Ň _).symm⟩ (λ_ z=>by rw[ų]at z;cases z) gl) (by rintro _ _ _ ⟨_,_,_,g⟩;show g) ?_ ?_
  .rintro i d _ μ3 hd ⟨J,⟨l',rfl⟩,c,g⟩;obtain⟨t,B,rfl⟩:=CC hd;have hf:=Ĳ B;have e1:=(ï.mp hf).1;show⟨_,rfl,Y0 hM hU hT (by rw[Z4];lia) J (by rw[e1];show hf) (by rw[e1,ý];show ù.mpr<|.inl he) λR' μ' ⟨Z,e2⟩ J' hs fr=>.mk J' ⟨l'++Z,by rw[e2,ú]⟩ (λu E=>?_)<|fr _ _ l1 l2 g⟩;rw[iG B]at E;rcases ù.mp E with E|E
   .rw[e2,ý];show ù.mpr<|.inl<|c u E
   .rw[ā.mp E];show hs
  .rintro _ μ3 ⟨J,⟨l',rfl⟩,c,g⟩;rw[ZT,š]at c;show⟨rfl,m-1,by lia,.mk (n:=n+1) J ⋯ (by rw[Z4];lia) λe a t B=>?_⟩;rw[Mz<|by lia,H,ý]at a;rcases ù.mp a with a|a
   .rw[ý];show ù.mpr<|.inl<|cl e a t B
   .rw[ā.mp a]at B;show c t B
 have lr:=N.dic;show É.mpr<|Ê.mpr<|yF (a:=st) rfl N.dic<|aT ⟨_,rfl,aT ⟨_,rfl,_,rfl,?_⟩⟩;have j:=aU μ1<|C.lst [];cases O:aY kvs (bB en.1)with
 |some d=>
  obtain⟨l,rfl,_,g0⟩:=S.ats _ _ O;have l0:l<b.length:=(ZW.mp g0).1;have X:iB (.loc st) [PP en.1,.loc μ1.length] (μ1++[C.lst []])=b0 (.loc l,μ1++[C.lst []]):=by simp only[iB,aJ j N.dic,dD,Ę,O,P9]
  have gl:=aJ (Q.trans j) g0;show⟨_,X,(cT gl).mpr<|v l _ j ⋯ ⋯ gl⟩
 |none=>
  have X:iB (.loc st) [PP en.1,.loc μ1.length] (μ1++[C.lst []])=b0 (.loc μ1.length,μ1++[C.lst []]):=by simp only[iB,aJ j N.dic,dD,Ę,O,LG]
  have gl:(μ1++[C.lst []])[μ1.length]?=b0 (.lst<|(bV T en.1).map bM):=by rw[S.no _ O];show aZ _ _
  have b1:r<μ1.length:=(ZW.mp A).1;have b2:q<μ1.length:=(ZW.mp y).1;show⟨_,X,(cT gl).mpr<|v _ _ j ⋯ ⋯ gl⟩
inductive Qp (d0 d1:Option D)(ν:Hm)(r:Nat)(M:List Ed):Nat->aF->Hm->Prop
 |mk {i:Nat}{x:Option D}{μ:Hm}(p:ν<+:μ)(g:μ[r]?=b0 (.dT<|b7<|(M.take i).map λe=>(e,b5))):Qp d0 d1 ν r M i [d0,d1,b0<|.loc r,x,b5,b5,b5] μ
inductive qd (T:List St)(M U:List Ed)(R:List (Ed×Option St)):Prop
 |mk (rc:Rc T M R)(hU:∀e∈R.map (·.1),e∈U)(cl:∀e∈R.map (·.1),∀t∈bV T e,t.2.1∈R.map (·.1))
def CG k(o:M.Nodup)(A:U.length<=600)(I:∀e∈M,e∈U)(Z:∀t∈T,t.1∈U/\t.2.1∈U)(hl:T.length<=1000)(S:SD ν κ a st kvs (bV T))(gs:a[j]?=b0 (.lst<|M.map PP))(Q:jz)(H:∀r c R,a<+:c->a.length<=r->c[r]?=b0 (.dT<|b7 R)->qd T M U R->Q (.loc r,c)):W (f (k+1) "last_steps" [.loc st,.loc j] a) Q:=by
 have ml:M.length<=600:=ė (M1 o I) A;have K:=aU a<|C.dT [];show È (Wj k _ _ a)<|aV<|Ą.mpr<|dN<|É.mpr<|Ê.mpr ⟨_,rfl,(cT<|aJ K gs).mpr ?_⟩;show gQ (Qp (b0<|.loc st) (b0<|.loc j) a a.length M) (.mk K<|by rw[ų];show aZ _ _) (by rintro _ _ _ ⟨p,_⟩;show aJ p gs) ?_ ?_
 .rintro i d _ b hd ⟨p,g⟩;obtain⟨z,G,rfl⟩:=kU hd;show⟨_,rfl,ě.mpr ⟨_,rfl,_,rfl,_,rfl,(t8 g (dD z)<|by unfold b7;rw[ZT,ZT,Ġ,è];lia).mpr<|.mk (cX p (Z2 _) _) ?_⟩⟩;rw[cY g,iG G,ý];show congrArg (λy=>b0<|C.dT y)<|JI (o:=b5)<|by rw[uJ];show xZ o G
 .rintro _ b ⟨p,g⟩;rw[ZT,š]at g;show⟨rfl,aV<|aL rfl<|(HG<|aJ p gs).mpr<|dN ?_⟩;have L:=aU b<|C.lst<|M.map PP;have J:vo T M U a a.length b.length 0 (M.map λe=>(e,b5)) (b++[C.lst<|M.map PP]):=⟨.st,by rw[uJ];show I,p.trans L,Z2 _,p.length_le,aJ L g,by rw[Ϭ,uJ];show aZ _ _⟩;show Cu (b:=BR) (LV T M U a st j a.length b.length) 1700 (by decide) (.mk (n:=0) J rfl (ŀ _) λe B=>by rw[ų]at B;cases B) ?_;rintro m _ u ⟨J,hm,hn,cl⟩;rename_i n x h s R;obtain⟨X,O,N,hr,hq,w,v⟩:=J;have Y:kE u (.loc b.length)=b0 (!(((R.drop n).map (·.1)).map PP).isEmpty):=by simp only[kE,v]
  show Ő.mpr ⟨_,rfl,_,Y,?_⟩;by_cases hd:n<R.length
  .have l:(((R.drop n).map (·.1)).map PP).isEmpty=false:=by rw[il hd];rfl
   rw[l];show(if_pos rfl).mpr<|bH (Y2 o A Z hl S ⟨X,O,N,hr,hq,w,v⟩ hm hd cl) λp E=>?_;rw[E.1];show E.2
  .have l:(((R.drop n).map (·.1)).map PP).isEmpty=true:=by rw[List.drop_eq_nil_of_le<|by lia];rfl
   rw[l];rw[ϳ<|by lia]at cl;show(if_neg Z6).mpr ⟨rfl,bQ ⟨_,rfl,H _ _ R N (Z2 _) w ⟨X,O,cl⟩⟩⟩
abbrev ϡ(T:List St)(q:Ed->Int):Prop:=∀t∈T,(q t.1+q t.2.1+eC t.2.2.1)%2=0
abbrev uK(R:List (Ed×Option St))(q:Ed->Int):Prop:=∀x∈R,match x.2 with|none=>q x.1%2=0|some s=>(q x.1+q s.1+eC s.2.2.1)%2=0
def Rc.q(h:Rc T M R):∃q,uK R q:=by
 induction h with
 |st=>show⟨λ_=>0,λx a=>by
   obtain⟨e,_,rfl⟩:=Õ.mp a;rfl⟩
 |@sn R s h n g c l=>
  obtain⟨q,j⟩:=l;have i:s.1≠s.2.1:=λz=>c<|z▸g;show⟨λe=>if e=s.2.1 then q s.1+eC s.2.2.1 else q e,λx a=>?_⟩;rcases ù.mp a with a|a
  .have b:x.1≠s.2.1:=λz=>c<|z▸Õ.mpr ⟨x,a,rfl⟩;have:=j x a;obtain⟨e,o⟩:=x;cases o with
   |none=>dsimp only at this b ⊢;rw[if_neg b];show this|some t=>have d:t.1≠s.2.1:=λz=>c<|z▸(h.up _ _ a).2.2.1;dsimp only at this b ⊢;rw[if_neg b,if_neg d];show this
  .rw[ā.mp a];dsimp only;rw[if_pos rfl,if_neg i];lia
def CH a b:cF (a++b)=cF a+cF b:=by unfold cF;rw[nA,Z4]
def JJ s:(cF [s]:Int)=eC s.2.2.1:=by unfold cF eC;rw[zg];cases s.2.2.1<;>rfl
def Y3 w:cF (w.reverse.map fL)=cF w:=by unfold cF;rw[sr,ZT,Od,Ι];rfl
def Y4 w:cF w.reverse=cF w:=by unfold cF;rw[Od,Ι]
def Rc.m(h:Rc T M R):∀e∈M,(e,b5)∈R:=by
 induction h with
 |st=>show λe a=>Õ.mpr ⟨e,a,rfl⟩|sn h g c d b=>show λe a=>ù.mpr<|.inl<|b e a
abbrev Dc(b:Hm)(a:Nat)(kvs:jx):Prop:=b[a]?=b0 (.dT kvs)\/b[a]?=b0 (.dF kvs)
def Dc.more{μ':Hm}(I:Dc b a kvs)(h:b<+:μ'):Dc μ' a kvs:=I.elim (λe=>.inl<|aJ h e) λe=>.inr<|aJ h e
def CI(h:Dc b a kvs)(c:cM y=b0 k)(e:aY kvs k=b0 d):aE (.loc a) y b=b0 (d,b):=by rcases h with h|h<;>simp only[aE,h,c,Ē,e,Ę]
def Dc.set(I:Dc d a kvs)(h:b≠a):Dc (d.set b c) a kvs:=I.elim (λe=>.inl<|by rw[Č h];show e) λe=>.inr<|by rw[Č h];show e
def Dc.lt{b:Hm}{a:Nat}{kvs:jx}(I:Dc b a kvs):a<b.length:=I.elim (λe=>(ZW.mp e).1) λe=>(ZW.mp e).1
inductive N2 (T:List St)(M:List Ed)(R:List (Ed×Option St))(ν:Hm)(r l:Nat)(e:Ed):Nat->aF->Hm->Prop
 |mk {m:Nat}{x:Ed}{o:Option St}{acc:List St}{μ:Hm}(p:ν<+:μ)(g:μ[l]?=b0 (.lst<|acc.map bM))(hx:(x,o)∈R)(hw:Wy T x acc.reverse e)(hm:m=(R.map (·.1)).idxOf x)(ha:acc.length+m<=600)(hq:∀q,uK R q->((cF acc:Int)+q x+q e)%2=0):N2 T M R ν r l e m [b0<|.loc r,b0<|PP e,b0<|.loc l,b0<|rD o] μ
def yI k(X:M.Nodup)(hU:U.length<=600)(Y:qd T M U R)(j:Dc a r (b7 R))(B:e∈R.map (·.1))(Q:jz)(H:∀l b w m,a<+:b->b[l]?=b0 (.lst<|w.map bM)->m∈M->Wy T m w e->w.length<=600->(∀q,uK R q->((cF w:Int)+q e)%2=0)->Q (.loc l,b)):W (f (k+1) "way_by" [.loc r,PP e] a) Q:=by
 obtain⟨L,rU,cl⟩:=Y;have nd:=L.nd X;have rl:R.length<=600:=by have:=M1 nd rU;rw[ZT]at this;lia
 obtain⟨⟨x,o⟩,G,v⟩:=Õ.mp B;dsimp only at v;subst v;have K:=aU a<|C.lst [];have ll:r<a.length:=j.lt;show È (Wl k _ _ a)<|aV ⟨_,rfl,aV<|bF rfl rfl ⟨_,CI (j.more K) (dD x)<|yH nd G,dN ?_⟩⟩;have ix:=PK.mpr B;rw[ZT]at ix;show Cu (N2 T M R a r a.length x) ((R.map (·.1)).idxOf x) ⋯ (.mk (acc:=[]) K (aZ _ _) G (.nil _) rfl (by change 0+_<=_;lia) λq _=>by change(((0:Nat):Int)+_+_)%2=0;lia) ?_;rintro m _ i ⟨p,g,u,hw,Z,ha,E⟩;rename_i y oy c;have up:=L.up _ _ u;cases oy with
 |none=>show bZ<|bF rfl rfl<|ë.mpr ⟨_,rfl,(if_neg Z6).mpr ⟨rfl,bQ<|aL rfl<|(VE g).mpr ?_⟩⟩;rw[<- O3];show H _ _ _ y (p.trans<|aU _ _) (aZ _ _) up hw (by rw[Ι];lia) λq h=>by have N:=E q h;have O:q y%2=0:=h _ u;rw[Y4];lia
 |some s=>
  obtain⟨u1,u2,u3,u4⟩:=up;obtain⟨⟨z,oz⟩,I,A⟩:=Õ.mp u3;dsimp only at A;subst A;show bZ (bF rfl rfl<|Ŋ.mpr ⟨_,rfl,(if_pos rfl).mpr<|pE<|fB ⟨_,rfl,eS g,_,rfl,(i5 g<|by rw[ZT,è];lia).mpr ?_⟩⟩);have n:Dc (i.set a.length<|.lst<|c.map bM++[bM s]) r (b7 R):=(j.more p).set ⋯;show ø.mpr (aO ⟨_,rfl,bF rfl rfl ⟨_,rfl,_,CI n (dD s.1)<|yH nd I,_,by rw[Z];show u4,?_⟩⟩);have d:N2 T M R a r a.length x ((R.map (·.1)).idxOf s.1) [b0<|.loc r,b0<|PP x,b0<|.loc a.length,b0<|rD oz] (i.set a.length<|.lst<|(c++[s]).map bM):=by
   show .mk (cX p (Z2 _) _) (cY g) I ?_ rfl (by rw[Z4];change _+1+_<=_;lia) λq h=>?_
   .rw[List.reverse_append];show .cons u2<|u1▸hw
   .have N:=E q h;have O:(q y+q s.1+eC s.2.2.1)%2=0:=h _ u;have h3:=JJ s;rw[CH];lia
  rw[ý]at d;show d
abbrev JK:D->Bool
 |.tup [_,_,.bl b,_]=>!b|_=>dI
def CJ k(h:w.length<=3000){a:Hm}(g:a[l]?=b0 (.lst<|w.map bM))(Q:jz)(H:∀μ',a<+:μ'->Q (.bl<|(cF w:Int)%2==0,μ')):W (f (k+1) "is_alike" [.loc l] a) Q:=by
 show È (Wm k _ a)<|bQ<|aO<|aO<|dO<|aT<|fZ (xs:=w.map bM) (p:=JK) (v:=λd=>d)<|Ê.mpr ⟨_,rfl,(cT g).mpr ⟨i0 g,rfl,by rw[ZT,è];lia,λd μ' hd b=>?_,λd μ' hd _ b=>⟨_,rfl,rfl,õ _⟩,λμ' b c=>⟨_,rfl,(fI c).mpr ⟨_,rfl,(eD<|by decide).mpr ⟨_,rfl,ĉ.mpr ?_⟩⟩⟩⟩⟩
 .obtain⟨s,i,rfl⟩:=Õ.mp hd;show pH<|fJ<|bF rfl rfl ⟨_,rfl,rfl,rfl,õ _⟩
 .have e:(((w.map bM).filter JK).map λd=>d).length=cF w:=by rw[ZT,sr,ZT];rfl
  rw[e];show H _ b
def JL:∀l ps,((ps++l).map (·.1)).Nodup->(l.map λm=>(bB m.1,D.str m.2)).foldl (λq p=>bW q p.1 p.2) (bD ps)=bD (ps++l)
 |[],ps,_=>by rw[Ň];rfl
 |m::l,ps,h=>by
  rw[é,MU];have a:m.1∉ps.map (·.1):=λz=>by rw[ý,é]at h;show(ϩ.mp h).2.2 _ z _ (.head _) rfl
  rw[Jq a,JL l (ps++[m])<|by rw[ú];show h,ú];rfl
def JM k(nd:(ms.map (·.1)).Nodup)a:f (k+1) "marks_in" [SH w h ms] a=b0 (.loc a.length,a++[.dT<|bD ms]):=uI (HZ k _ a)<|bT<|aL rfl<|ϔ.mpr<|by
 rw[show(ms.map λm=>(bB m.1,D.str m.2)).foldl (λq p=>bW q p.1 p.2) []=_ from JL ms [] nd];rfl
def JN(nd:(ms.map (·.1)).Nodup)(h:m∈ms):aY (bD ms) (bB m.1)=b0 (.str m.2):=Cm (by
 unfold bD;rw[Û];have:((ms.map (·.1)).map bB).Nodup:=Mu _ (λa b c x=>c<|i8 x) nd;rw[Û]at this;show this)<|Õ.mpr ⟨_,h,rfl⟩
def Y5{kvs:jx}{Q:jz}(h:c[i]?=b0 (b0<|.loc a))(hc:b[a]?=b0 (.dT kvs))(H:W (d c<|b.set a<|.dF kvs) λr=>r.2[a]?=b0 (.dF kvs)/\Q (r.1,r.2.set a<|.dT kvs)):W (qW i d g c b) Q:=by
 have e:mY i c b=b0 (a,kvs):=by simp only[mY,h,hc]
 unfold qW;rw[e];rw[Â];show bH H λr q=>?_;rw[q.1];show À.mpr q.2
abbrev nV(s:Str):Str:=if s="h" then "v" else "h"
abbrev nW(n:Nat)(s:Str):Str:=if(n:Int)%2==0 then s else nV s
def rP{s:Str}(ok:s="o"\/s="h"\/s="v") (h:cA s=eA):s="h"\/s="v":=ok.resolve_left λz=>by rw[z]at h;revert h;decide +kernel
def Y6{s:Str}(h:s="h"\/s="v"):eW t9 (.inr s)=b0 (.str<|nV s):=by
 rcases h with rfl|rfl
 .kernel_rfl
 .kernel_rfl
def Wy.hd:Wy T x (s::w) e->x=s.1
 |.cons _ _=>rfl
def Wy.nl:Wy T x [] e->x=e
 |.nil _=>rfl
def ü:x∈dY ms↔∃m∈ms,cA m.2=eA/\m.1=x:=by
 unfold dY;rw[Õ];constructor
 .rintro⟨m,a,e⟩;show⟨m,(ş.mp a).1,(ş.mp a).2,e⟩
 .rintro⟨m,a,b,e⟩;show⟨m,ş.mpr ⟨a,b⟩,e⟩
def CK(nd:(ms.map (·.1)).Nodup):(dY ms).Nodup:=(MW.map _).nodup nd
def Y7 k(M:U.length<=600){ms:List ((Int×Int)×Str)}(nd:(ms.map (·.1)).Nodup)(ok:∀m∈ms,m.2="o"\/m.2="h"\/m.2="v")(L:qd T (dY ms) U R)(I:Dc g a (bD ms))(n:g[r]?=b0 (.dT<|b7 R)){c:Str}(K:e∉R.map (·.1)->c="o")(h1:∀m∈ms,cA m.2=eA->∀w,Wy T m.1 w e->c=nW (cF w) m.2)(Q:jz)(H:∀μ',g<+:μ'->Q (.str c,μ')):W (f (k+2) "carried_mark" [.loc a,.loc r,PP e] g) Q:=by
 obtain⟨E,rU,cl⟩:=L;have Z:=E.nd<|CK nd;by_cases b:e∈R.map (·.1)
 .obtain⟨⟨y,o⟩,Y,A⟩:=Õ.mp b;dsimp only at A;subst A;show È (Ia (k+1) _ _ _ g) (kQ<|bZ<|bF rfl rfl<|(rG n<|dD y).mpr ⟨_,rfl,by rw[yH Z Y];rfl,c5<|aV<|aL rfl<|yI k (CK nd) M ⟨E,rU,cl⟩ (.inl n) b _ λl d w x p j X hw N _=>?_⟩);obtain⟨m,b,B,rfl⟩:=ü.mp X;have h:=h1 m b B w hw;have O:=rP (ok m b) B;have z:kE d (.loc l)=b0 (!(w.map bM).isEmpty):=by simp only[kE,j]
  have G:gN (c8<|aA 3) (aC aE (aC aE (aA 3)<|mC<|.int 0)<|mC<|.int 0) (aA 2) [b0<|.loc a,b0<|.loc r,b0<|PP y,b0<|.loc l,b5] d=b0 (PP m.1,d):=by
   cases w with
   |nil=>rw[hw.nl];show bT (Ĝ.mpr<|Ő.mpr ⟨_,rfl,_,z,(if_neg Z6).mpr ⟨_,rfl,rfl⟩⟩)|cons s w=>rw[hw.hd];show bT<|Ĝ.mpr<|Ő.mpr ⟨_,rfl,_,z,(if_pos rfl).mpr<|aO<|bF rfl rfl<|(fH j<|show atI ((s::w).map bM) ((0:Nat):Int)=b0 (bM s)from l9 rfl).mpr ⟨_,rfl,_,rfl,rfl⟩⟩
  show aV ⟨_,G,bQ<|Ĝ.mpr<|fJ<|aL rfl<|CJ k (ė N<|by decide) j _ λμ2 u=>⟨rfl,?_⟩⟩;have v:=CI (I.more<|p.trans u) (dD m.1)<|JN nd b;unfold nW at h;cases i:(cF w:Int)%2==0 with
  |true=>rw[i,if_pos rfl]at h;rw[h]at H;show(if_pos rfl).mpr (bF rfl rfl ⟨_,v,H _<|p.trans u⟩)|false=>rw[i,if_neg Z6]at h;rw[h]at H;show(if_neg Z6).mpr<|jc.mpr<|bF rfl rfl ⟨_,v,_,rfl,_,Y6 O,H _<|p.trans u⟩
 .rw[K b]at H;show È (Ia (k+1) _ _ _ g)<|pG<|bZ<|bF rfl rfl<|(rG n<|dD e).mpr ⟨_,rfl,by rw[CF b];rfl,gK ⟨_,rfl,H _<|õ _⟩⟩
def JO ms:eN (bD ms)=(ms.map (·.1)).map PP:=by unfold eN bD;rw[Û,Û];rfl
def Y8 k(hw:1<=w/\w<=6)(l:1<=h/\h<=6)(z:Ĩ ms)(u:(bN w h).find? (cN<|aQ ms)=b5)(y:jN (f7 (aQ ms) w h))(j:∀c,aA 0 o c=b0 (SH w h ms,c))(c:Hm)(Q:jz)(H:∀r μ' R,c<+:μ'->μ'[r]?=b0 (.dT<|b7 R)->qd (TT ms w h) (dY ms) (ms.map (·.1)) R->Q (.loc r,μ')):W (aG (f (k+9) "last_steps") (aB (aG (f (k+9) "steps_from")<|aB (aA 0) aD)<|aB (aG (f (k+9) "marked_creases")<|aB (aA 0) aD) aD) o c) Q:=by obtain⟨K,nd,ok⟩:=z;have I:=CA hw l ms;show dO (aT<|dO<|aT ⟨_,j c,_,rfl,JE k hw l u y _ _ λL g a B S=>aT<|dO<|aT ⟨_,j g,_,rfl,JF (k+7) ⋯ _ _ λb G n p=>⟨_,rfl,?_⟩⟩⟩);show CG (k+8) (CK nd) (by rw[ZT];lia) (λe v=>by obtain⟨m,x,_,rfl⟩:=ü.mp v;show Õ.mpr ⟨m,x,rfl⟩) (λt A=>(CB A).1) ⋯ (S.more n) p _ λr i R E _ s d=>H r i R (S.pre.trans<|n.trans E) s d
def Y9(a:qd T M U R)(h:e∉R.map (·.1)):∀x∈M,¬ Cn T x e:=λx b hc=>by obtain⟨c,_,cl⟩:=a;show h<|hc.cl cl<|Õ.mpr ⟨_,c.m x b,rfl⟩
def JP k(hw:1<=w/\w<=6)(I:1<=h/\h<=6)(s:Ĩ ms)(B:(bN w h).find? (cN<|aQ ms)=b5)(K:jN (f7 (aQ ms) w h)){dm:Ed->Str}(A:∀e,(∀x∈dY ms,¬ Cn (TT ms w h) x e)->e∈ms.map (·.1)->dm e="o")(h1:∀e,∀m∈ms,cA m.2=eA->∀y,Wy (TT ms w h) m.1 y e->dm e=nW (cF y) m.2)(c:Hm)(Q:jz)(H:∀l μ',c<+:μ'->c.length<=l->μ'[l]?=b0 (.lst<|ms.map λm=>MD (m.1,dm m.1))->Q (.loc l,μ')):W (f (k+10) "carried" [SH w h ms] c) Q:=by
 show È (Ws (k+9) _ c)<|aV<|Y8 k hw I s B K (λ_=>rfl) _ _ λr a R u p j=>?_;obtain⟨T,nd,ok⟩:=s;show aV<|aL rfl<|a9 (JM (k+8) nd a)<|bQ<|Y5 (a:=a.length) (kvs:=bD ms) rfl (aZ _ _) ?_;have lr:r<a.length:=(ZW.mp p).1;have v:(a++[C.dT<|bD ms]).set a.length (.dF<|bD ms)=a++[.dF<|bD ms]:=B2 _ _ _;change W (dR _ _ _ _<|(a++[C.dT<|bD ms]).set a.length<|.dF<|bD ms) _;rw[v];have n:=aZ a<|C.dF<|bD ms;have g:=aJ (aU a<|C.dF<|bD ms) p;have o:=u.trans<|aU a<|C.dF<|bD ms;have M:(a++[C.dF<|bD ms]).length=a.length+1:=by rw[Z4];rfl
 generalize a++[C.dF<|bD ms]=μ2 at n g o M ⊢;have hit:iW (aA 2) [b0<|SH w h ms,b0<|.loc r,b0<|.loc a.length] μ2=b0 (c7<|.tup<|eN<|bD ms,(bD ms).length+1,μ2):=by change(iW (λ_ c=>b0 (D.loc a.length,c)) [] μ2)=_;simp only[iW,Ē,n]
 have L:(bD ms).length=ms.length:=ZT ..;show fZ (xs:=eN (bD ms)) (p:=λ_=>eA) (v:=λd=>.tup [d,.str<|dm<|dP d]) ⟨_,hit,λμ' i b=>rfl,?_,?_,λd μ' hd b=>Ü.mpr ⟨rfl,õ _⟩,λd μ' hd _ b=>?_,λμ' b G=>⟨aJ b n,?_⟩⟩
 .unfold eN;rw[ZT]
 .unfold eN;rw[ZT,L,è];lia
 .rw[JO]at hd;obtain⟨e,E,rfl⟩:=Õ.mp hd;show í.mpr<|aT ⟨_,rfl,aT<|aL rfl<|Y7 (k+7) (U:=ms.map (·.1)) (by rw[ZT];lia) nd ok j (.inr<|aJ b n) (aJ b g) (λz=>A e (Y9 j z) E) (h1 e) _ λO N=>⟨_,rfl,jR,rfl,N⟩⟩
 .show H _ _ (cX (o.trans b) u.length_le _) (ė o.length_le<|Z2 _) ?_;rw[Č<|by change a.length≠μ2.length;lia,G,JO,ue.mpr λ_ _=>rfl,Û,Û];rfl
abbrev dE(s:Str):Int:=if s="v" then 1 else 0
def Wy.app(h:Wy T a v b)(g:Wy T b w c):Wy T a (v++w) c:=by
 induction h with
 |nil=>show g|cons d h e=>show .cons d<|e g
def Wy.one(h:s∈bV T s.1):Wy T s.1 [s] s.2.1:=.cons h<|.nil _
def Wy.bk(h:Wy T a w b):Wy T b (w.reverse.map fL) a:=by
 induction h with
 |nil=>show .nil _|@cons s w e c h d=>rw[yw,ý];show d.app<|.one (s:=fL s)<|Jw c
inductive Ū (T:List St)(ms:List ((Int×Int)×Str))(w:List St):Prop
 |odd (a:Ed)(h:Wy T a w a)(n:(cF w:Int)%2=1)
 |mark (x y:(Int×Int)×Str)(hx:x∈ms)(hy:y∈ms)(bx:cA x.2=eA)(by':cA y.2=eA)(h:Wy T x.1 w y.1)(ne:w≠[])(n:((cF w:Int)%2==0)≠(y.2==x.2))
def JQ{a b:Str}(c:a="h"\/a="v") (d:b="h"\/b="v"):(a==b)=((dE a+dE b)%2==0):=by rcases c with rfl|rfl<;>rcases d with rfl|rfl<;>decide +kernel
def JR{u:Int}:(u%2=0↔v%2=0)↔(u+v)%2=0:=by rw[Int.add_emod];rcases OL u with a|a<;>rcases OL v with b|b<;>rw[a,b]<;>decide
def Cn.two(g:ϡ T p)(i:ϡ T q)(h:Cn T a b):(p a+p b+q a+q b)%2=0:=by
 induction h with
 |rf=>lia|@go s h j l=>
  have:(p s.1+p s.2.1+eC s.2.2.1)%2=0/\(q s.1+q s.2.1+eC s.2.2.1)%2=0:=by
   rcases(ï.mp j).2 with c|c
   .show⟨g s c,i s c⟩
   .have d:=g _ c;have e:=i _ c;have d:(p s.2.1+p s.1+eC s.2.2.1)%2=0:=d;have e:(q s.2.1+q s.1+eC s.2.2.1)%2=0:=e;lia
  lia
inductive qg (T:List St)(ms:List ((Int×Int)×Str)):Prop
 |mk (q:Ed->Int)(ti:ϡ T q)(mk:∀m∈ms,cA m.2=eA->(dE m.2+q m.1)%2=0)
inductive NoRd (T:List St)(ms:List ((Int×Int)×Str))(s:(Int×Int)×Str):Prop
 |mk (q:Ed->Int)(q0:q s.1%2=0)(ti:∀e,Cn T s.1 e->∀t∈bV T e,(q t.1+q t.2.1+eC t.2.2.1)%2=0)(mk:∀m∈ms,Cn T s.1 m.1->cA m.2=eA->cA s.2=eA->(dE m.2+dE s.2+q m.1)%2=0)
inductive vd (T:List St)(ms:List ((Int×Int)×Str))(P:Ed->Prop):Prop
 |mk (q:Ed->Int)(cl:∀e,P e->∀t∈bV T e,P t.2.1)(ti:∀e,P e->∀t∈bV T e,(q t.1+q t.2.1+eC t.2.2.1)%2=0)(mk:∀m∈ms,P m.1->cA m.2=eA->(dE m.2+q m.1)%2=0)
def vd.add{P:Ed->Prop}(J:vd T ms P)(h:NoRd T ms s)(y:¬ P s.1)(x:cA s.2=eA\/∀m∈ms,cA m.2=eA->P m.1)(i:∀e,p e↔P e\/Cn T s.1 e):vd T ms p:=by
 obtain⟨q,cl,E,mk⟩:=J;obtain⟨r,G,A,B⟩:=h;have u:∀{a b:Ed},Cn T a b->P a->P b:=λh w=>by
  induction h with
  |rf=>show w|go h j z=>show cl _ z _ j
 have l:∀e,P e->¬ Cn T s.1 e:=λe d hc=>y<|u hc.sy d;show⟨λe=>@ite _ (Cn T s.1 e) (Mo _) (r e+dE s.2)<|q e,λe d t c=>?_,λe d t c=>?_,λm g d o=>?_⟩
 .rcases(i e).mp d with h|h
  .show(i _).mpr<|.inl<|cl e h t c
  .show(i _).mpr<|.inr<|Cn.go ((ï.mp c).1.symm▸h)<|(ï.mp c).1.symm▸c
 .have n:=(ï.mp c).1;rcases(i e).mp d with h|h
  .rw[if_neg<|n.symm▸l e h,if_neg<|l _<|cl e h t c];show E e h t c
  .have v:Cn T s.1 t.2.1:=Cn.go (n.symm▸h)<|n.symm▸c;rw[if_pos<|n.symm▸h,if_pos v];have:=A e h t c;lia
 .rcases(i m.1).mp d with h|h
  .rw[if_neg<|l _ h];show mk m g h o
  .rcases x with j|j
   .rw[if_pos h];have:=B m g h o j;lia
   .show absurd h<|l _<|j m g o
def Za{kvs:jx}(h:c[i]?=b0 (b0<|.loc a))(hc:b[a]?=b0 (.dT kvs))(H:W (d c<|b.set a<|.dF kvs) λr=>r.2.2[a]?=b0 (.dF kvs)/\Q (r.1,r.2.1,r.2.2.set a<|.dT kvs)):W (oY i d g c b) Q:=by
 have e:mY i c b=b0 (a,kvs):=by simp only[mY,h,hc]
 unfold oY;rw[e];rw[Â];show bH H λr q=>?_;rw[q.1];show À.mpr q.2
def Zb(g:b[a]?=b0 (.lst xs))(h:i<xs.length):kK a xs.length b i=b0 xs.reverse[i]?:=by unfold kK;rw[g];dsimp only;rw[if_pos h,ϯ h,ZY<|by lia];rfl
def Zc(g:b[a]?=b0 (.lst xs)):kK a xs.length b xs.length=b0 none:=by unfold kK;rw[g];dsimp only;rw[if_neg<|Ų _,if_pos rfl]
def Zd k{y:List St}(n:y.length<=600){b:Hm}(g:b[l]?=b0 (.lst<|y.map bM))(Q:jz)(H:∀a μ',b<+:μ'->μ'[a]?=b0 (.lst<|(y.reverse.map fL).map bM)->Q (.loc a,μ')):W (f (k+2) "back_by" [.loc l] b) Q:=by
 show È (Wn (k+1) _ b)<|bQ<|Vz<|VG ⟨_,rfl,l,_,rfl,g,(y.map bM).length,λi j μ'=>b<+:μ'/\j=((y.reverse.take i).map fL).map bM,rfl,by rw[ZT,è];lia,?_,⟨aU _ _,rfl⟩,?_,?_⟩
 .rintro i _ _ ⟨_,rfl⟩;rw[ZT,ZT,Ġ];lia
 .rintro i _ μ' d ⟨p,rfl⟩ c;rw[ZT]at d;have e:y.reverse[i]?=b0 y[y.length-1-i]:=by rw[ϯ d,ZY]
  have h:kK l (y.map bM).length μ' i=b0 (b0<|bM y[y.length-1-i]):=by rw[Zb (aJ p g)<|by rw[ZT];show d,<- O3,þ,e];rfl
  show⟨bM y[y.length-1-i],[b0<|bM y[y.length-1-i]],h,rfl,Ü.mpr ⟨(λz=>nomatch z),λ_=>aL rfl<|a9 (JD k _ μ') ⟨c,cX p (Z2 _) _,?_⟩⟩⟩;rw[iG e,ý,ý];rfl
 .rintro _ μ' ⟨p,rfl⟩ c;show⟨Zc<|aJ p g,H _ _ p ?_⟩;rw[c,ZT,ϳ<|by rw[Ι];show Z2 _]
def rQ{c d:Type}{h:c->d}:∀{U:List c},(U.map h).Nodup->∀x∈U,∀y∈U,h x=h y->x=y
 |[],_,_,a,_,_,_=>nomatch a|u::U,nd,x,a,y,hy,e=>by
  rw[é,Š]at nd;rcases Ě.mp a with b|a<;>rcases Ě.mp hy with ey|hy
  .rw[b,ey]
  .show absurd (Õ.mpr ⟨y,hy,by rw[<- e,b]⟩) nd.1
  .show absurd (Õ.mpr ⟨x,a,by rw[e,ey]⟩) nd.1
  .show rQ nd.2 x a y hy e
def rR(a:Ed):[a].Nodup:=Š.mpr ⟨fu,.nil⟩
def Ze k(o:U.length<=600)(n:qd T [a] U R)(i:Dc c r (b7 R))(h1:s.1∈R.map (·.1))(j:s.2.1∈R.map (·.1))(M:s∈bV T s.1)(Q:jz)(H:∀l μ' (y:List St),c<+:μ'->μ'[l]?=b0 (.lst<|y.map bM)->y.length<=1201->Wy T a y a->(∀q,uK R q->((cF y:Int)+q s.1+q s.2.1+eC s.2.2.1)%2=0)->Q (.loc l,μ')):W (f (k+3) "round_by_step" [.loc r,bM s] c) Q:=by
 show È (Wo (k+2) _ _ c)<|bQ<|aO<|aO<|aL rfl<|yI (k+1) (rR a) o n i h1 _ λl1 b x m1 u G B z N g=>⟨_,rfl,?_⟩;have e:=aU b<|C.lst<|[s].map bM;show(t6 (aJ e G) (aZ _ _)<|by rw[ZT,è];change _+1<=_;lia).mpr<|dO<|aT<|aL rfl<|yI (k+1) (rR a) o n (i.more ?_) j _ λl2 X O m2 v I E A d h=>⟨_,rfl,Zd k d I _ λl3 Y w K=>?_⟩
 .show u.trans<|e.trans<|aU _ _
 .have L:=aJ (v.trans w)<|aZ (b++[C.lst<|[s].map bM])<|C.lst<|x.map bM++[s].map bM;rw[ā.mp B]at z;rw[ā.mp E]at A;show(t6 L K<|by rw[Z4,ZT,ZT,ZT,ZT,Ι,è];change _+1+_<=_;lia).mpr<|H _ _ (x++[s]++O.reverse.map fL) ?_ ?_ ?_ ((z.app<|.one M).app A.bk) λq p=>?_
  .show u.trans<|e.trans<|(aU _ _).trans<|v.trans<|w.trans<|aU _ _
  .rw[ý,ý];show aZ _ _
  .rw[Z4,Z4,ZT,Ι];change _+1+_<=_;lia
  .have h1:=g q p;have j:=h q p;have Z:=JJ s;rw[CH,CH,Y3];lia
abbrev rS(st mk:Nat)(s:Ed)(r:Nat)(a b c x7:Option D):aF:=[b0<|.loc st,b0<|.loc mk,b0<|PP s,b0<|.loc r,a,b,c,x7]
inductive Qh (st mk:Nat)(s:Ed)(r:Nat)(x4:Option D)(ν:Hm)(F:List St)(q:Ed->Int):Nat->aF->Hm->Prop
 |mk {i:Nat}{x5 x6 x7:Option D}{μ:Hm}(p:ν<+:μ)(ok:∀t∈F.take i,(q t.1+q t.2.1+eC t.2.2.1)%2=0):Qh st mk s r x4 ν F q i (rS st mk s r x4 x5 x6 x7) μ
def uL a x y b:a8 a (.str x) (.str y) b=b0 (.bl<|if a then !(x==y)else x==y,b):=by cases a<;>rfl
def Zf x y a:a8 eA (.bl x) (.bl y) a=b0 (.bl<|!(x==y),a):=rfl
abbrev Zg(T:List St)(ms:List ((Int×Int)×Str))(ν:Hm)(Q:Fl×aF×Hm->Prop):Prop:=∀l a μ' y,ν<+:μ'->μ'[l]?=b0 (.lst<|y.map bM)->y.length<=1201->Ū T ms y->Q (.rt<|.loc l,a,μ')
def Zh k(nd:(ms.map (·.1)).Nodup)(i:m∈ms)(j:s∈ms){a:Hm}(n:a[mk]?=b0 (.dT<|bD ms))(o:y.length<=3000)(gl:a[l]?=b0 (.lst<|y.map bM))(H:∀b μ',a<+:μ'->(b=eA↔cA m.2=eA/\cA s.2=eA/\((cF y:Int)%2==0)≠(m.2==s.2))->Q (b,μ')):W (HV (k+1) (rS st mk s.1 r (b0<|PP m.1) (b0<|.loc l) v x7) a) Q:=by
 have d:∀{z:(Int×Int)×Str},z∈ms->∀{μ'},a<+:μ'->aE (.loc mk) (PP z.1) μ'=b0 (.str z.2,μ'):=λ{z} u {μ'} p=>bT<|(xO (aJ p n) (dD z.1)<|JN nd u).mpr rfl;have e:=õ a;show ģ.mpr<|fJ<|dO<|aT<|bF rfl rfl ⟨_,d i e,_,rfl,a9 (CD k m.2 a) ⟨rfl,?_⟩⟩;cases h:cA m.2 with
 |false=>show(if_neg Z6).mpr (H _ _ e ⟨(λz=>nomatch z),λz=>absurd (h.symm.trans z.1) Z6⟩)|true=>
  show(if_pos rfl).mpr<|ģ.mpr<|fJ<|dO<|aT<|bF rfl rfl ⟨_,d j e,_,rfl,a9 (CD k s.2 a) ⟨rfl,?_⟩⟩;cases c:cA s.2 with
  |false=>show(if_neg Z6).mpr (H _ _ e ⟨(λz=>nomatch z),λz=>absurd (c.symm.trans z.2.1) Z6⟩)|true=>show(if_pos rfl).mpr<|bZ<|aO<|aL rfl<|CJ k o gl _ λw g=>?_;show aO<|bF rfl rfl ⟨_,d i g,bF rfl rfl ⟨_,d j g,_,uL dI _ _ _,_,Zf _ _ _,_,rfl,H _ _ g ?_⟩⟩;change(!((cF y:Int)%2==0)==(m.2==s.2))=eA↔_;rw[yt,beq_eq_false_iff_ne];show⟨λz=>⟨h,c,z⟩,λz=>z.2.2⟩
def Zi k{ms:List ((Int×Int)×Str)}(nd:(ms.map (·.1)).Nodup)(ok:∀m∈ms,m.2="o"\/m.2="h"\/m.2="v")(hms:ms.length<=600)(hR:qd T [s.1] (ms.map (·.1)) R)(hq:uK R q)(O:e∈R.map (·.1))(U:s∈ms)(S:SD ν κ A st kvs (bV T))(gm:A[mk]?=b0 (.dT<|bD ms))(gr:Dc A r (b7 R))(H0:Zg T ms A Q)(H:∀x5 Z x7 L,A<+:L->(∀t∈bV T e,(q t.1+q t.2.1+eC t.2.2.1)%2=0)->(∀m∈ms,m.1=e->cA m.2=eA->cA s.2=eA->(dE m.2+dE s.2+q e)%2=0)->Q (.nx,rS st mk s.1 r (b0<|PP e) x5 Z x7,L)):
  W (BS (k+3) (rS st mk s.1 r (b0<|PP e) x5 Z x7) A) Q:=by
 have hR':=hR;obtain⟨rc,rU,cl⟩:=hR';have hU:(ms.map (·.1)).length<=600:=by rw[ZT];show hms
 obtain⟨m,G,rfl⟩:=Õ.mp<|rU e O;show aV<|aL rfl<|yI (k+2) (rR _) hU hR gr O _ λl μ1 y z p1 g1 o hy hl I=>?_;rw[ā.mp o]at hy;have I:=I q hq;show Ë.mpr (Ñ.mpr<|Zh (k+2) nd G U (aJ p1 gm) (ė hl<|by decide) g1 λb c p2 hb=>?_);cases b with
 |true=>obtain⟨M,N,b3⟩:=hb.mp rfl;show(if_pos rfl).mpr (Ù.mpr ⟨_,rfl,H0 _ _ _ y (p1.trans p2) (aJ p2 g1) (ė hl<|by decide)<|.mark s m U G N M hy (λz=>b3 ?_) b3⟩);subst z;have v:=rQ nd s U m G hy.nl;rw[v,beq_self_eq_true];rfl|false=>
  show(if_neg Z6).mpr<|Ï.mpr ?_;have Y:=p1.trans p2;have B:=S.more Y;have mok:∀x∈ms,x.1=m.1->cA x.2=eA->cA s.2=eA->(dE x.2+dE s.2+q m.1)%2=0:=λx hm' v M N=>by have e2:=rQ nd x hm' m G v;subst e2;have h1:((cF y:Int)%2==0)=(x.2==s.2):=LS λz=>nomatch hb.mpr ⟨M,N,z⟩;rw[JQ (rP (ok _ G) M)<|rP (ok _ U) N,zb,beq_iff_eq,beq_iff_eq,JR]at h1;lia
  have n:∀a g,c<+:g->g[a]?=b0 (.lst<|(bV T m.1).map bM)->W (eI (c7<|.loc a) (cC 6) (HU<|k+3) (((bV T m.1).map bM).length+1) 0 (rS st mk s.1 r (b0<|PP m.1) (b0<|.loc l) Z x7) g) Q:=λa g h ga=>by
   show gQ (Qh st mk s.1 r (b0<|PP m.1) g (bV T m.1) q) (.mk (õ _) λ_ z=>by rw[ų]at z;cases z) (by rintro _ _ _ ⟨p,_⟩;show aJ p ga) ?_ ?_
   .rintro i d _ μ5 hd ⟨K,j⟩;obtain⟨t,ht,rfl⟩:=CC hd;have hf:=Ĳ ht;have v:=(ï.mp hf).1;show⟨_,rfl,aV<|aL rfl<|Ze k hU hR (gr.more<|Y.trans<|h.trans K) (by rw[v];show O) (cl _ O _ hf) (by rw[v];show hf) _ λa2 μ6 y2 p6 g6 E w6 q6=>?_⟩;have q6:=q6 q hq;show Ñ.mpr (pH<|fJ<|aL rfl<|CJ (k+2) (ė E<|by decide) g6 _ λμ7 p7=>⟨rfl,?_⟩);cases o:(cF y2:Int)%2==0 with
    |true=>
     have o:=beq_iff_eq.mp o;show(if_neg Z6).mpr<|Ï.mpr<|.mk (K.trans<|p6.trans p7) λu w=>?_;rw[iG ht]at w;rcases ù.mp w with w|w
     .show j u w
     .rw[ā.mp w];lia
    |false=>
     have o:(cF y2:Int)%2=1:=by have:=beq_eq_false_iff_ne.mp o;lia
     show(if_pos rfl).mpr<|Ù.mpr ⟨_,rfl,H0 _ _ _ y2 (Y.trans<|h.trans<|K.trans<|p6.trans p7) (aJ p7 g6) E<|.odd _ w6 o⟩
   .rintro _ μ5 ⟨K,j⟩;rw[ZT,š]at j;show H _ _ _ _ (Y.trans<|h.trans K) j mok
  show É.mpr<|Ê.mpr<|yF (a:=st) rfl B.dic<|aT ⟨_,rfl,aT ⟨_,rfl,_,rfl,?_⟩⟩;have h:=aU c<|C.lst [];cases X:aY kvs (bB m.1)with
  |some d=>
   obtain⟨a,rfl,_,g0⟩:=B.ats _ _ X;have ge:iB (.loc st) [PP m.1,.loc c.length] (c++[C.lst []])=b0 (.loc a,c++[C.lst []]):=by simp only[iB,aJ h B.dic,dD,Ę,X,P9]
   show⟨_,ge,(cT<|aJ h g0).mpr<|n a _ h<|aJ h g0⟩
  |none=>
   have ge:iB (.loc st) [PP m.1,.loc c.length] (c++[C.lst []])=b0 (.loc c.length,c++[C.lst []]):=by simp only[iB,aJ h B.dic,dD,Ę,X,LG]
   have gl:(c++[C.lst []])[c.length]?=b0 (.lst<|(bV T m.1).map bM):=by rw[B.no _ X];show aZ _ _
   show⟨_,ge,(cT gl).mpr<|n _ _ h gl⟩
inductive Qg (T:List St)(ms:List ((Int×Int)×Str))(st mk:Nat)(s:(Int×Int)×Str)(r:Nat)(ν:Hm)(E:List Ed)(q:Ed->Int):Nat->aF->Hm->Prop
 |mk {i:Nat}{x4 x5 x6 x7:Option D}{μ:Hm}(p:ν<+:μ)(ok:∀e∈E.take i,(∀t∈bV T e,(q t.1+q t.2.1+eC t.2.2.1)%2=0)/\∀m∈ms,m.1=e->cA m.2=eA->cA s.2=eA->(dE m.2+dE s.2+q e)%2=0):Qg T ms st mk s r ν E q i (rS st mk s.1 r x4 x5 x6 x7) μ
def ϖ{A:MS}(h:W (A b a) λp=>match p.1 with|.nx=>W (B p.2.1 p.2.2) R|f=>R (f,p.2.1,p.2.2)):W (aH A B b a) R:=Ë.mpr<|bH h λp q=>by
 obtain⟨x,y⟩:=p;cases x<;>show q
def JS R:eN (b7 R)=(R.map (·.1)).map PP:=by unfold eN b7;rw[Û,Û];rfl
def Zj k{T:List St}{ms:List ((Int×Int)×Str)}(nd:(ms.map (·.1)).Nodup)(ok:∀m∈ms,m.2="o"\/m.2="h"\/m.2="v")(n:ms.length<=600)(hT:∀t∈T,t.1∈ms.map (·.1)/\t.2.1∈ms.map (·.1))(hl:T.length<=1000)(N:s∈ms)(S:SD ν κ a st kvs (bV T))(gm:a[mk]?=b0 (.dT<|bD ms))(Q:jz)(Y:∀l μ' y,a<+:μ'->μ'[l]?=b0 (.lst<|y.map bM)->y.length<=1201->Ū T ms y->Q (.loc l,μ'))(H:∀μ',a<+:μ'->NoRd T ms s->Q (.non,μ')):W (f (k+4) "round_within" [.loc st,.loc mk,PP s.1] a) Q:=by
 have hU:(ms.map (·.1)).length<=600:=by rw[ZT];show n
 have O:=aU a<|C.lst<|[s.1].map PP;show È (Wq (k+3) _ _ _ a) (aV<|dO<|aT ⟨_,rfl,aT<|a9 (r:=(.loc a.length,a++[C.lst<|[s.1].map PP])) rfl ⟨_,rfl,CG (k+2) (M:=[s.1]) (rR _) hU (λe h=>by rw[ā.mp h];show Õ.mpr ⟨s,N,rfl⟩) hT hl (S.more O) (aZ _ _) _ λr w R p2 X K L=>?_⟩⟩);have pA:=O.trans p2;have E:=L;obtain⟨U,rU,cl⟩:=E;obtain⟨q,M⟩:=U.q;have G:a.length<r:=by rw[Z4]at X;show X
 show ϖ<|Za (a:=r) (kvs:=b7 R) rfl K ?_;have g:=cY (c':=C.dF (b7 R)) K;have v:=cX (c:=C.dF (b7 R)) pA<|ż G;change W (cD _ _ _ _<|w.set r<|C.dF<|b7 R) _;generalize w.set r (C.dF<|b7 R)=μ2 at g v ⊢;have hit:iW (aA 3) [b0<|.loc st,b0<|.loc mk,b0<|PP s.1,b0<|.loc r,b5,b5,b5,b5] μ2=b0 (c7<|.tup<|eN<|b7 R,(b7 R).length+1,μ2):=by change(iW (λ_ a=>b0 (D.loc r,a)) [] μ2)=_;simp only[iW,Ē,g]
 show É.mpr ⟨_,hit,?_⟩;rw[show(b7 R).length=(eN<|b7 R).length by unfold eN;rw[ZT]];show HB (x:=.tup (eN<|b7 R)) (xs:=eN (b7 R)) (b:=BS (k+3)) (λ_=>rfl) (Qg T ms st mk s r μ2 (R.map (·.1)) q) (.mk (õ _) λ_ z=>by rw[ų]at z;cases z) ?_ ?_
 .rintro i d _ I hd ⟨c,b⟩;rw[JS]at hd;obtain⟨e,h,rfl⟩:=kU hd;show⟨_,rfl,Zi k nd ok n L M (Ĳ h) N (S.more<|v.trans c) (aJ (v.trans c) gm) (.inr<|aJ c g) (λl ρ μ' y u A hy hb=>?_) λ_ _ _ μ' u h1 h2=>.mk (c.trans u) λx j=>?_⟩
  .show⟨aJ (c.trans u) g,Y _ _ y (cX (v.trans<|c.trans u) (ż G) _) ?_ hy hb⟩;have B:=aJ (c.trans u) g;rw[Č λz=>by rw[<- z,B]at A;cases A];show A
  .rw[iG h]at j;rcases ù.mp j with j|j
   .show b x j
   .rw[ā.mp j];show⟨h1,h2⟩
 .rintro _ I ⟨c,b⟩;have o:(s.1,b5)∈R:=U.m _<|.head _;have p:∀e,Cn T s.1 e->e∈R.map (·.1):=λe hc=>hc.cl cl<|Õ.mpr ⟨_,o,rfl⟩;rw[JS,ZT,š]at b;show⟨aJ c g,bQ ⟨_,rfl,H _ (cX (v.trans c) (ż G) _) ⟨q,M _ o,λe h=>(b e<|p e h).1,λm hm hc Z b2=>(b m.1<|p _ hc).2 m hm rfl Z b2⟩⟩⟩
def JT{d l:Type}{h:d->l}{U V:List d}(nd:V.Nodup)(c:∀e∈V,e∈U)(g:(U.map h).Nodup):(V.map h).Nodup:=Ϗ.mpr<|zx (λ{a b} i j ne e=>ne<|rQ g a (c a i) b (c b j) e) nd
abbrev yJ(e:Ed):Int:=Tb.hashT<|bB e
def Zk:(((b9 6 6).filter cL).map yJ).Nodup:=by decide +kernel
def Zl(hw:w<=6)(i:h<=6){es:List Ed}(nd:es.Nodup)(hE:∀e∈es,cR w h e):(es.map yJ).Nodup:=JT nd (λe g=>by
 obtain⟨a,b⟩:=ş.mp<|hE e g;obtain⟨c,d⟩:=ĝ.mp a;show ş.mpr ⟨ĝ.mpr ⟨⟨c.1,by lia⟩,d.1,by lia⟩,b⟩) Zk
def Zm{kvs more:jx}{Q:jz}(d:c[a]?=b0 (.dT kvs))(e:c[b]?=b0 (.dT more))(hz:kvs.length+more.length<=Z7)(nd:(more.map λp=>Tb.hashT p.1).Nodup)(ne:a≠b)(H:Q (.non,c.set a<|.dT<|lV kvs more)):W (qZ (.loc a) [.loc b] c) Q:=by show⟨_,?_,H⟩;simp only[qZ,d,e];rw[if_pos ⟨hz,nd,ne⟩]
def JU:∀more kvs,(lV kvs more).length<=kvs.length+more.length
 |[],kvs=>Z2 _|p::more,kvs=>by have a:=JU more<|bW kvs p.1 p.2;have b:=Jx kvs p.1 p.2;change(lV (bW kvs p.1 p.2) more).length<=_;rw[ć];lia
abbrev fC(kvs:jx)(e:Ed):Prop:=(aY kvs<|bB e).isSome=eA
def JV e:∀more kvs,fC (lV kvs more) e↔fC kvs e\/bB e∈more.map (·.1)
 |[],kvs=>by change fC kvs e↔_;simp
 |p::more,kvs=>by
  change fC (lV (bW kvs p.1 p.2) more) e↔_;rw[JV e more,é,Ě];have:fC (bW kvs p.1 p.2) e↔bB e=p.1\/fC kvs e:=by
   unfold fC;rw[yE];by_cases z:bB e=p.1
   .rw[if_pos z];show⟨λ_=>.inl z,λ_=>rfl⟩
   .rw[if_neg z];show⟨.inr,λy=>y.resolve_left z⟩
  rw[this,or_comm (a:=bB e=p.1),or_assoc]
def Rc.cn(h:Rc T M R):∀e∈R.map (·.1),∃m∈M,Cn T m e:=by
 induction h with
 |st=>rw[uJ];show λe a=>⟨e,a,.rf _⟩|sn h g c i b=>
  intro e a;rw[ý]at a;rcases ù.mp a with a|a
  .show b e a
  .obtain⟨m,d,hc⟩:=b _ c;rw[ā.mp a];show⟨m,d,.go hc g⟩
def Zn k{T:List St}{ms:List ((Int×Int)×Str)}(nd:(ms.map (·.1)).Nodup)(ok:∀m∈ms,m.2="o"\/m.2="h"\/m.2="v")(n:ms.length<=600)(hh:((ms.map (·.1)).map yJ).Nodup)(E:∀t∈T,t.1∈ms.map (·.1)/\t.2.1∈ms.map (·.1))(G:T.length<=1000)(I:s∈ms){a:jx}(S:SD ν κ g st kvs (bV T))(X:g[mk]?=b0 (.dT<|bD ms))(i:g[sn]?=b0 (.dT a))(hk:a.length<=1000000)(J:vd T ms (fC a))(u:cA s.2=eA\/∀m∈ms,cA m.2=eA->fC a m.1)(N:∀l ρ μ' y,g<+:μ'->μ'[l]?=b0 (.lst<|y.map bM)->y.length<=1201->Ū T ms y->Q (.rt<|.loc l,ρ,μ'))(H:∀b B μ',Kp sn g μ'->μ'[sn]?=b0 (.dT b)->b.length<=a.length+600->vd T ms (fC b)->fC b s.1->(∀e,fC a e->fC b e)->Q (.nx,[d0,b0<|.loc st,b0<|.loc mk,b0<|.loc sn,b0<|PP s.1,B],μ')):
  W (BU (k+4) [d0,b0<|.loc st,b0<|.loc mk,b0<|.loc sn,b0<|PP s.1,B] g) Q:=by
 have hU:(ms.map (·.1)).length<=600:=by rw[ZT];show n
 show Ñ.mpr<|bZ<|bF rfl rfl<|(rG i<|dD s.1).mpr ⟨_,rfl,?_⟩;cases K:(aY a<|bB s.1).isSome with
 |true=>show(if_neg Z6).mpr (Ï.mpr<|H a _ g (λ_ _ _ h=>h) i ⋯ J K λ_ h=>h)|false=>
  show(if_pos rfl).mpr<|aV<|aL rfl<|Zj k nd ok n E G I S X _ (λl c y j U hy hb=>?_) λc j hd=>?_
  .show pG<|bZ<|bF rfl rfl<|ŋ.mpr ⟨_,rfl,rfl,gK ⟨_,rfl,N _ _ _ y j U hy hb⟩⟩
  .show kQ<|bZ<|bF rfl rfl<|ë.mpr ⟨_,rfl,rfl,c5<|Ø.mpr<|yF (a:=sn) rfl (aJ j i)<|aT<|dO<|aT ⟨_,rfl,aT<|a9 (r:=(.loc c.length,c++[C.lst<|[s.1].map PP])) rfl ⟨_,rfl,?_⟩⟩⟩;have L:=aU c<|C.lst<|[s.1].map PP;show CG (k+3) (M:=[s.1]) (rR _) hU (λe o=>by rw[ā.mp o];show Õ.mpr ⟨s,I,rfl⟩) E G (S.more<|j.trans L) (aZ _ _) _ λr μ2 R p3 rl Y Z=>?_;obtain⟨w,rU,cl⟩:=Z;have M:=w.nd<|rR _;have A:=M1 M rU;rw[ZT]at A;have v:=j.trans<|L.trans p3;have ls:sn<c.length:=ĭ (ZW.mp i).1 j.length_le;have kl:(b7 R).length=R.length:=ZT ..;rw[Z4]at rl;have d:∀e,fC (lV a<|b7 R) e↔fC a e\/Cn T s.1 e:=λe=>by rw[JV,JG];show or_congr Iff.rfl ⟨λz=>?_,λz=>Õ.mpr ⟨e,z.cl cl<|Õ.mpr ⟨_,w.m _<|.head _,rfl⟩,rfl⟩⟩;obtain⟨x,hx,O⟩:=Õ.mp z;obtain⟨m,u,hc⟩:=w.cn x hx;rw[ā.mp u,i8 O]at hc;show hc
   show⟨_,rfl,Zm (aJ v i) Y (by rw[kl,è];lia) ?_ ⋯<|H _ _ _ ((Kp.pre v).trans .set) (cY<|aJ v i) ?_ (J.add hd (λz=>by unfold fC at z;rw[K]at z;cases z) u d) ((d _).mpr<|.inr<|.rf _) λe o=>(d e).mpr<|.inl o⟩
   .have e:((b7 R).map λp=>Tb.hashT p.1)=(R.map (·.1)).map yJ:=by unfold b7;rw[Û,Û];rfl
    rw[e];show JT M rU hh
   .have:=JU (b7 R) a;lia
inductive Qi (T:List St)(ms:List ((Int×Int)×Str))(L:List Ed)(d0:Option D)(st mk sn:Nat)(ν:Hm):Nat->aF->Hm->Prop
 |mk {i:Nat}{kvs:jx}{x4 x5:Option D}{μ:Hm}(kp:Kp sn ν μ)(g:μ[sn]?=b0 (.dT kvs))(hk:kvs.length<=600*i)(J:vd T ms (fC kvs))(dn:∀e∈L.take i,fC kvs e):Qi T ms L d0 st mk sn ν i [d0,b0<|.loc st,b0<|.loc mk,b0<|.loc sn,x4,x5] μ
def Zo k(hw:1<=w/\w<=6)(O:1<=h/\h<=6)(hS:Ĩ ms)(hI:∀m∈ms,cR w h m.1)(A:(bN w h).find? (cN<|aQ ms)=b5)(hn:jN (f7 (aQ ms) w h))(I:Hm)(Q:jz)(H0:∀l μ' y,I<+:μ'->μ'[l]?=b0 (.lst<|y.map bM)->y.length<=1201->Ū (TT ms w h) ms y->Q (.loc l,μ'))(H:∀μ',I<+:μ'->qg (TT ms w h) ms->Q (.non,μ')):W (f (k+10) "round_of" [SH w h ms] I) Q:=by
 have hT:=CA hw O ms;obtain⟨R,nd,ok⟩:=hS;have hs:=Zl hw.2 O.2 nd (λe c=>by obtain⟨m,g,rfl⟩:=Õ.mp c;show hI m g);show È (Wr (k+9) _ I)<|aV<|aL rfl<|JE k hw O A hn _ _ λκ j st kvs S=>aV<|aL rfl<|a9 (JM (k+8) nd j)<|aV<|Ą.mpr ?_;have p1:=aU j<|C.dT<|bD ms;have u:=aZ j<|C.dT<|bD ms;have E:=S.more p1;generalize hμ2:j++[C.dT<|bD ms]=μ2 at p1 u E ⊢;generalize j.length=mk at u ⊢;have p2:=aU μ2<|C.dT [];have gn:=aZ μ2<|C.dT [];have lk:mk<μ2.length:=(ZW.mp u).1;show ϖ (É.mpr<|Ê.mpr<|aO<|aL rfl<|JF (k+7) ⋯ _ _ λa n Y g4=>?_);have M:=aJ (p2.trans Y) u;have ml:(dY ms).length<=600:=by have:=bc (λm:(Int×Int)×Str=>cA m.2) ms;unfold dY;rw[ZT];lia
 show aL rfl<|(VD M).mpr<|(t6 (aJ (aU _ _) g4) (aZ _ _) ?_).mpr ?_
 .unfold bD;rw[ZT,ZT,ZT,è];lia
 have ek:(bD ms).map (λk=>D.tup<|k.1.map D.int)=(ms.map (·.1)).map PP:=by unfold bD;rw[Û,Û];rfl
 rw[ek,<- ý];have Z:=(aU n<|C.lst<|(ms.map (·.1)).map PP).trans<|aU _<|C.lst<|(dY ms++ms.map (·.1)).map PP;have p:=aZ (n++[C.lst<|(ms.map (·.1)).map PP])<|C.lst<|(dY ms++ms.map (·.1)).map PP;generalize(n++[C.lst<|(ms.map (·.1)).map PP]).length=b at p ⊢;generalize(n++[C.lst<|(ms.map (·.1)).map PP])++[C.lst<|(dY ms++ms.map (·.1)).map PP]=μ5 at Z p ⊢;have v:=aJ (Y.trans Z) gn;have bn:b≠μ2.length:=λz=>by rw[z,v]at p;cases p
 have pp:μ2<+:μ5:=p2.trans<|Y.trans Z;have ln:(dY ms++ms.map (·.1)).length<=1200:=by rw[Z4,ZT];lia
 have mm:∀e∈dY ms++ms.map (·.1),∃m∈ms,m.1=e:=λe c=>by
  rcases ù.mp c with c|c
  .obtain⟨m,g,_,K⟩:=ü.mp c;show⟨m,g,K⟩
  .obtain⟨m,g,K⟩:=Õ.mp c;show⟨m,g,K⟩
 show(cT p).mpr<|gQ (b:=BU (k+9)) (Qi (TT ms w h) ms (dY ms++ms.map (·.1)) (b0<|SH w h ms) st mk μ2.length μ5) (.mk (λ_ _ _ h=>h) v (Z2 _) ⟨λ_=>0,(λ_ z=>nomatch z),(λ_ z=>nomatch z),λ_ _ z=>nomatch z⟩ λ_ z=>by rw[ų]at z;cases z) (by rintro _ _ _ ⟨r,_,_,_,_⟩;show r _ _ bn p) ?_ ?_
 .rintro i d _ B hd ⟨r,g6,hk,J,s⟩;obtain⟨e,c,rfl⟩:=kU hd;have hi:=(ZW.mp c).1;obtain⟨m,g,rfl⟩:=mm e<|Ĳ c;have p6:μ2<+:B:=r.all pp<|Z2 _;show⟨_,rfl,Zn (k+5) nd ok R hs (λt G=>(CB G).1) hT g (E.more p6) (aJ p6 u) g6 ⋯ J ?_ (λl ρ μ' y p' L U A=>H0 _ _ y (E.pre.trans<|p6.trans p') L U A) λkvn' _ μ' X L hk' J' h1 h2=>.mk (r.trans X) L ⋯ J' λx o=>?_⟩
  .cases A:cA m.2 with
   |true=>show .inl rfl|false=>
    show .inr λx o bx=>s _ ?_;have T:x.1∈dY ms:=ü.mpr ⟨x,o,bx,rfl⟩;have N:(dY ms).length<=i:=zc λz=>by rw[ō z]at c;obtain⟨y,U,yb,ye⟩:=ü.mp<|Ĳ c;rw[rQ nd y U m g ye,A]at yb;cases yb
    rw[O5,ϳ N];show ù.mpr<|.inl T
  .rw[iG c]at o;rcases ù.mp o with o|o
   .show h2 x<|s x o
   .rw[ā.mp o];show h1
 .rintro _ B ⟨r,g6,hk,J,s⟩;rw[ZT,š]at s;obtain⟨q,cl,ti,mk'⟩:=J;have all:∀e∈ms.map (·.1),_:=λe c=>s e<|ù.mpr<|.inr c;show bQ ⟨_,rfl,H _ (E.pre.trans<|r.all pp<|Z2 _) ⟨q,λt G=>ti t.1 (all _ (CB G).1.1) t<|ï.mpr ⟨rfl,.inl G⟩,λm g=>mk' m g<|all _<|Õ.mpr ⟨m,g,rfl⟩⟩⟩
abbrev kL(gs:List Int):List (Nat×Nat×Bool):=if gs.length=2 then[(0,1,eA)]else(ă gs.length).flatMap λi=>if rN gs i then(i,(i+1)%gs.length,dI)::(if gs.length=4 then[((i+2)%4,(i+3)%4,eA)]else[])else[]
abbrev Zp(m:Int×Int->Bool)(p:Int×Int)(t:Nat×Nat×Bool):Ti:=l6 ((dQ m p).getD t.1 (0,0)) ((dQ m p).getD t.2.1 (0,0)) t.2.2 p
def JW m p:iE m p=(kL<|c9 m p).map (Zp m p):=by
 have e:=uE m p;unfold iE kL;rw[e];by_cases h:(dQ m p).length=2
 .rw[if_pos h,if_pos h];rfl
 .rw[if_neg h,if_neg h,List.map_flatMap];congr 1;funext i;unfold i7 nO;cases rN (c9 m p) i with
  |false=>rfl|true=>rw[if_pos rfl,if_pos rfl];split<;>rfl
def Zq:∀a b c d e g h i,(!(kS<|fK [a,b,c,d,e,g,h,i])||decide ((kL<|fK [a,b,c,d,e,g,h,i]).map (·.2.2)).Nodup)=true:=by decide +kernel
def Zr:∀a b c d,(!(kS<|fK [a,b,c,d])||decide ((kL<|fK [a,b,c,d]).map (·.2.2)).Nodup)=true:=by decide +kernel
def Zs(h:cN m p=dI):((kL<|c9 m p).map (·.2.2)).Nodup:=by
 have hc:(cN m p||decide ((kL<|c9 m p).map (·.2.2)).Nodup)=true:=by
  unfold cN c9 bY mv;split
  .show Zq _ _ _ _ _ _ _ _
  .show Zr _ _ _ _
 rw[h,Kv]at hc;show of_decide_eq_true hc
def Zt(h:cN m p=dI):(iE m p).Nodup:=by have a:=Zs h;rw[JW];unfold yh at a ⊢;rw[Ϗ]at a ⊢;show a.imp λz e=>z<|congrArg (λt:Ti=>t.2.2.1) e
def JX(h:t∈iE m p):t.2.2.2=cJ p:=by rw[JW]at h;obtain⟨x,_,rfl⟩:=Õ.mp h;rfl
def Zu(h:cJ p=cJ q):p=q:=by injection h with h1 h2;injection h2 with h2;show cu h1 h2
def Zv:∀w∈[(1:Int),2,3,4,5,6],∀h∈[(1:Int),2,3,4,5,6],(bN w h).Nodup:=by decide +kernel
def Zw(hw:1<=w/\w<=6)(j:1<=h/\h<=6)(i:(bN w h).find? (cN<|aQ ms)=b5):(f7 (aQ ms) w h).Nodup:=by
 have nd:=Zv w (rM hw) h<|rM j;have ok:∀c∈bN w h,cN (aQ ms) c=false:=λc hc=>by
  have:=ie.mp i c hc;cases z:cN (aQ ms) c with
  |false=>rfl|true=>show absurd z this
 unfold f7;clear i hw j;generalize bN w h=d at nd ok;induction d with
 |nil=>show .nil|cons c d n=>obtain⟨o,p⟩:=Š.mp nd;rw[Md];show ϩ.mpr ⟨Zt<|ok c<|.head _,n p λx a=>ok x<|.tail _ a,λs l t b e=>?_⟩;obtain⟨x,a,b⟩:=zj.mp b;have g:=JX l;rw[e,JX b]at g;rw[Zu g]at a;show o a
def ϡ.way(d:ϡ T q)(h:Wy T a w b):(q a+q b+cF w)%2=0:=
 ((⟨(λ_ h=>nomatch h),λt c=>⟨rfl,d t c⟩⟩:Gr T [] (λ_=>(0,0)) q).way h).2
def Ū.nc{ms:List ((Int×Int)×Str)}(ok:∀m∈ms,m.2="o"\/m.2="h"\/m.2="v")(h:Ū T ms w)(c:qg T ms):False:=by
 obtain⟨q,i,mk⟩:=c;cases h with
 |odd a h n=>have:=i.way h;lia|mark x y e g d b h ne n=>have j:=i.way h;have l:=mk x e d;have o:=mk y g b;apply n;rw[JQ (rP (ok y g) b)<|rP (ok x e) d,zb,beq_iff_eq,beq_iff_eq,JR];lia
def Ū.ne(h:Ū T ms w):w≠[]:=by
 cases h with
 |odd a h n=>rintro rfl;show absurd n (by decide)|mark x y d e c b h ne n=>show ne
abbrev kY(n:Int):Str:=if n%2=0 then "h" else "v"
def pM n:kY n="h"\/kY n="v":=by
 unfold kY;split
 .show .inl rfl
 .show .inr rfl
def CL{s:Str}(h:s="h"\/s="v"):cA s=true:=by rcases h with rfl|rfl<;>decide +kernel
def JY:dE "h"=0:=by decide +kernel
def JZ:dE "v"=1:=by decide +kernel
def uM n:(dE (kY n)+n)%2=0:=by
 unfold kY;split
 .rw[JY];lia
 .rw[JZ];lia
def Zx{s:Str}(h:s="h"\/s="v")(e:(dE s+n)%2=0):s=kY n:=by
 unfold kY;rcases h with rfl|rfl
 .rw[JY]at e;rw[if_pos<|by lia]
 .rw[JZ]at e;rw[if_neg<|by lia]
def uN{s:Str}(h:s="h"\/s="v"):(nV s="h"\/nV s="v")/\dE (nV s)+dE s=1:=by rcases h with rfl|rfl<;>decide +kernel
def J0{s:Str}(h:s="h"\/s="v"){n:Nat}(e:(dE s+m+n)%2=0):kY m=nW n s:=by
 show(Zx ?_ ?_).symm
 .unfold nW;split
  .show h
  .show(uN h).1
 .unfold nW;split
  .rename_i z;rw[beq_iff_eq]at z;lia
  .rename_i z;rw[beq_iff_eq]at z;have:=(uN h).2;lia
abbrev Re(T:List St)(ms:List ((Int×Int)×Str))(e:Ed):Prop:=∃x∈dY ms,Cn T x e
abbrev cP(T:List St)(ms:List ((Int×Int)×Str))(q:Ed->Int)(e:Ed):Str:=@ite _ (Re T ms e) (Mo _) (kY<|q e) "o"
def jB(h:Re T ms e):cP T ms q e=kY (q e):=if_pos h
def uO(h:¬ Re T ms e):cP T ms q e="o":=if_neg h
def Zy{s:Str}(h:s="h"\/s="v"):s ≠ "o":=by rcases h with rfl|rfl<;>decide +kernel
def CM(h:cA (cP T ms q e)=eA):Re T ms e:=LS λn=>by rw[uO n]at h;revert h;decide +kernel
def CN e:cP T ms q e="o"\/cP T ms q e="h"\/cP T ms q e="v":=by
 by_cases h:Re T ms e
 .rw[jB h];show .inr<|pM _
 .show .inl<|uO h
def Re.on(h:Re T ms a)(c:Cn T a b):Re T ms b:=h.imp λ_ z=>⟨z.1,z.2.tr c⟩
def Zz(h:∀x∈dY ms,¬ Cn T x e):cP T ms q e="o":=uO λ⟨x,a,c⟩=>h x a c
def ZA{ms:List ((Int×Int)×Str)}(ok:∀m∈ms,m.2="o"\/m.2="h"\/m.2="v")(c:ϡ T q)(mk:∀m∈ms,cA m.2=eA->(dE m.2+q m.1)%2=0)e(m)(b:m∈ms)(a:cA m.2=eA)y(h:Wy T m.1 y e):cP T ms q e=nW (cF y) m.2:=by rw[jB ⟨m.1,ü.mpr ⟨m,b,a,rfl⟩,h.cn⟩];have d:=mk m b a;have g:=c.way h;show J0 (rP (ok m b) a)<|by lia
abbrev eU(T:List St)(ms:List ((Int×Int)×Str))(q:Ed->Int):List ((Int×Int)×Str):=ms.map λm=>(m.1,cP T ms q m.1)
def CO:(eU T ms q).map (·.1)=ms.map (·.1):=by unfold eU;rw[Û];rfl
def rV(h:m∈eU T ms q):m.2=cP T ms q m.1:=by obtain⟨x,_,rfl⟩:=Õ.mp h;rfl
def ZC(c:ϡ T q)e(m)(b:m∈eU T ms q)(a:cA m.2=eA)y(h:Wy T m.1 y e):cP T ms q e=nW (cF y) m.2:=by rw[rV b]at a ⊢;have r:=CM a;rw[jB r,jB<|r.on h.cn];have d:=uM<|q m.1;have g:=c.way h;show J0 (pM _)<|by lia
def ZD(a:e∈ms.map (·.1))(h:∀x∈dY (eU T ms q),¬ Cn T x e):cP T ms q e="o":=by
 by_cases r:Re T ms e
 .obtain⟨m,b,rfl⟩:=Õ.mp a;show absurd (.rf _)<|h m.1<|ü.mpr ⟨(m.1,cP T ms q m.1),Õ.mpr ⟨m,b,rfl⟩,by rw[jB r];show CL<|pM _,rfl⟩
 .show uO r
def ZE(c:ϡ T q):qg T (eU T ms q):=⟨q,c,λm b a=>by
 rw[rV b]at a ⊢;rw[jB<|CM a];show uM _⟩
def ZF(n:ϡ T q){c:Str}(j:cP T ms q e="o")(hc:c="h"\/c="v"){S:List ((Int×Int)×Str)}(h:∀m∈S,m=(e,c)\/m.2=cP T ms q m.1):qg T S:=by
 have l:¬ Re T ms e:=λr=>Zy (pM _)<|(jB (q:=q) r).symm.trans j;show⟨λx=>@ite _ (Cn T e x) (Mo _) (q x+q e+dE c)<|q x,λt b=>?_,λm i a=>?_⟩
 .have f:t∈bV T t.1:=ï.mpr ⟨rfl,.inl b⟩;have d:=n t b;dsimp only;by_cases z:Cn T e t.1
  .rw[if_pos z,if_pos<|z.go f];lia
  .rw[if_neg z,if_neg λy=>z<|y.tr<|Cn.sy<|.go (.rf _) f];show d
 .rcases h m i with rfl|g
  .rw[if_pos<|.rf _];change(dE c+(q e+q e+dE c))%2=0;lia
  .rw[g]at a ⊢;have r:=CM a;rw[if_neg λz=>l<|r.on z.sy,jB r];show uM _
def ZG(i:ϡ T q)(c:x∈dY ms)(hc:Cn T x e){S:List ((Int×Int)×Str)}(h1:(e,nV<|cP T ms q e)∈S)(h:(x,cP T ms q x)∈S):¬ qg T S:=λ⟨p,j,mk⟩=>by have d:Re T ms x:=⟨x,c,.rf _⟩;have g:Re T ms e:=⟨x,c,hc⟩;have a:=mk _ h1 (by change cA (nV<|cP T ms q e)=eA;rw[jB g];show CL (uN<|pM _).1);have b:=mk _ h (by change cA (cP T ms q x)=eA;rw[jB d];show CL<|pM _);dsimp only at a b;rw[jB g]at a;rw[jB d]at b;have l:=Cn.two i j hc;have n:=uM<|q e;have o:=uM<|q x;have r:=(uN<|pM<|q e).2;lia
def ZH{S:List ((Int×Int)×Str)}(nd:(ms.map (·.1)).Nodup)(p:S.Perm ms)(h1:kX S)(c:kX ms):S=ms:=by unfold kX at h1 c;rw[Ϗ]at h1 c;show Pk (λa b d e h1 c=>rQ nd a (p.mem_iff.mp d) b e<|i8<|ã.to _ _ c h1) h1 c p
def ZI{S:List ((Int×Int)×Str)}(e:S.map (·.1)=ms.map (·.1))(h:kX ms):kX S:=by unfold kX at h ⊢;have a:=congrArg (yc bB) e;rw[Û,Û]at a;show a▸h
def CP{S:List ((Int×Int)×Str)}(e:S.map (·.1)=ms.map (·.1)):aQ S=aQ ms:=by unfold aQ;rw[e]
def J1{S:List ((Int×Int)×Str)}(e:S.map (·.1)=ms.map (·.1))w h:TT S w h=TT ms w h:=by unfold TT;rw[CP e]
def ZJ(h:j<n):gY n (j:Int)=b0 j:=by unfold gY;simp;lia
def ZK m a:dG 7 a (MD m) (MD m)=b0 true:=by change b0 ((m.1.1==m.1.1&&(m.1.2==m.1.2&&eA))&&((m.2==m.2)&&eA))=_;simp
def J2 a:∀l:List<|(Int×Int)×Str,jG (dG 7 a) (l.map MD) (l.map MD)=b0 eA
 |[]=>rfl|m::l=>by rw[é];change(dG 7 a (MD m)<|MD m).bind (λb=>(jG (dG 7 a) (l.map MD)<|l.map MD).map λc=>b&&c)=_;rw[ZK,J2 a l];rfl
def J5 c(hA:a[A]?=b0 (.lst xs))(hB:a[B]?=b0 (.lst g))(h:jG (dG 7 a) xs g=b0 b):a8 c (.loc A) (.loc B) a=b0 (.bl<|if c then !b else b,a):=by
 have d:∀{x:Nat}{xs:List D},a[x]?=b0 (.lst xs)->mJ a (.loc x)=b0 (.lst xs):=λh=>by simp only[mJ,h]
 have e:dG 8 a (.loc A) (.loc B)=b0 b:=by change(mJ a<|.loc A).bind (λu=>(mJ a<|.loc B).bind λv=>vC (dG 7 a) u v)=_;rw[d hA,d hB];show h
 unfold a8;rw[e];cases c<;>rfl
def CQ a{b:Hm}(hA:b[A]?=b0 (.lst xs)):a8 a (.loc A) (.loc b.length) (b++[.lst []])=b0 (.bl<|if a then !xs.isEmpty else xs.isEmpty,b++[.lst []]):=
 J5 a (aJ (aU _ _) hA) (aZ _ _)<|by cases xs<;>rfl
structure Sm(S M:List ((Int×Int)×Str)):Prop where
 ks:M.map (·.1)=S.map (·.1)
 ok:∀m∈M,m.2="o"\/m.2="h"\/m.2="v"
def Sm.len{S:List ((Int×Int)×Str)}(s:Sm S M):M.length=S.length:=by have:=congrArg Ģ s.ks;rw[ZT,ZT]at this;show this
def Sm.sh{S:List ((Int×Int)×Str)}(s:Sm S M)(b:Ĩ S):Ĩ M:=by obtain⟨a,nd,_⟩:=b;show⟨by rw[s.len];show a,by rw[s.ks];show nd,s.ok⟩
def Sm.hE{S:List ((Int×Int)×Str)}(s:Sm S M)(a:ϵ w h S):∀m∈M,cR w h m.1:=λm b=>by have:m.1∈S.map (·.1):=s.ks▸Õ.mpr ⟨m,b,rfl⟩;obtain⟨x,c,e⟩:=Õ.mp this;rw[<- e];show a.hE x c
def J6{S:List ((Int×Int)×Str)}k(hw:1<=w/\w<=6)(d:1<=h/\h<=6)(e:Ĩ S)(c:ϵ w h S)(s:Sm S M){b:Hm}(g:b[a]?=b0 (.lst<|M.map MD))(Q:jz)(H:∀μ',b<+:μ'->Q (SH w h M,μ')):W (f (k+4) "sheet_of" [.int w,.int h,.loc a] b) Q:=by obtain⟨n,nd,_⟩:=s.sh e;show Cy k hw d ⋯ trivial nd (s.hE c) s.ok g _ λl μ' p i j=>ZH nd i j (ZI s.ks c.ri)▸H μ' p
def yK{S:List ((Int×Int)×Str)}k(hw:1<=w/\w<=6)(n:1<=h/\h<=6)(r:Ĩ S)(i:ϵ w h S)(j:(bN w h).find? (cN<|aQ S)=b5)(o:jN (f7 (aQ S) w h))(s:Sm S M)(a:Hm)(Q:jz)(d:¬ qg (TT S w h) M->∀l μ' y,a<+:μ'->μ'[l]?=b0 (.lst<|y.map bM)->y≠[]->Q (.loc l,μ'))(H:qg (TT S w h) M->∀μ',a<+:μ'->Q (.non,μ')):W (f (k+10) "round_of" [SH w h M] a) Q:=by have e:=J1 s.ks w h;have b:=CP s.ks;show Zo k hw n (s.sh r) (s.hE i) (by rw[b];show j) (by rw[b];show o) a Q (λl μ' y p g _ B=>d (λc=>B.nc s.ok<|e▸c) l μ' y p g B.ne) λμ' p c=>H (e▸c) μ' p
def Sm.set{S:List ((Int×Int)×Str)}(s:Sm S M)(a:M[j]?=b0 m){c:Str}(hc:c="h"\/c="v"):Sm S (M.set j (m.1,c)):=by
 show⟨?_,λx d=>?_⟩
 .rw[Nv,<- s.ks];show yu λi=>?_;rw[OB];split
  .rename_i e;subst e;obtain⟨b,_⟩:=ZW.mp a;rw[if_pos<|by rw[ZT];show b,þ,a];rfl
  .rfl
 .rcases PQ d with h|rfl
  .show s.ok x h
  .show .inr hc
def J7{S:List ((Int×Int)×Str)}k(hw:1<=w/\w<=6)(n:1<=h/\h<=6)(o:Ĩ S)(i:ϵ w h S)(s:Sm S M)(e:M[j]?=b0 m){c:Str}(hc:c="h"\/c="v"){a:Hm}(g:a[l]?=b0 (.lst<|M.map MD))(Q:jz)(H:∀μ',a<+:μ'->Q (SH w h<|M.set j (m.1,c),μ')):W (f (k+5) "_law_with" [SH w h S,.loc l,.int (j:Int),.str c] a) Q:=by
 have b:=aZ a<|C.lst<|M.map MD;have d:(M.map MD)[j]?=b0 (MD m):=by rw[þ,e];rfl
 show È (WL (k+4) _ _ _ _ a)<|aV<|aL rfl<|(HG g).mpr<|dN<|ě.mpr<|í.mpr<|aT<|aO<|bF rfl rfl<|(fH b<|l9 d).mpr ⟨_,rfl,_,rfl,_,rfl,jR,_,rfl,_,rfl,(VB b<|ZJ (ZW.mp d).1).mpr ⟨rfl,?_⟩⟩;rw[show(M.map MD).set j (.tup [PP m.1,.str c])=(M.set j (m.1,c)).map MD by rw[Nv];rfl,B2];show bQ<|aL rfl<|J6 k hw n o i (s.set e hc) (aZ _ _) _ λμ' p=>H μ'<|(aU _ _).trans p
def ZL(h:atI xs i=b0 d)a:aE (.tup xs) (.int i) a=b0 (d,a):=by change(atI xs i).map _=_;rw[h];rfl
inductive ſ (d0 d1 d2 d3 d4:Option D)(ν:Hm):Nat->aF->Hm->Prop
 |mk {i:Nat}{x:Option D}{μ:Hm}(p:ν<+:μ):ſ d0 d1 d2 d3 d4 ν i [d0,d1,d2,d3,d4,x,b5,b5] μ
def ZM{s:Str}(h:s="h"\/s="v"):eW (j7 [] [(.inr "h",.str "v"),(.inr "v",.str "h")]) (.inr s)=b0 (.str<|nV s):=by rcases h with rfl|rfl<;>kernel_rfl
def ZN{i:Nat}(h:(lH "hv")[i]?=b0 d):∃c:Str,(c="h"\/c="v")/\d=.str c:=by
 have e:lH "hv"=[.str "h",.str "v"]:=by kernel_rfl
 rw[e]at h;match i with
 |0=>show⟨"h",.inl rfl,(ñ h).symm⟩|1=>show⟨"v",.inr rfl,(ñ h).symm⟩|_+2=>cases h
def ZO k(hw:1<=w/\w<=6)(E:1<=h/\h<=6){S:List ((Int×Int)×Str)}(G:Ĩ S)(B:ϵ w h S)(T:(bN w h).find? (cN<|aQ S)=b5)(X:jN (f7 (aQ S) w h))(ti:ϡ (TT S w h) q){j:Nat}(u:S[j]?=b0 m)(g:a[l]?=b0 (.lst<|(eU (TT S w h) S q).map MD)):
  W (HX (k+10) [d0,b0<|SH w h S,b0<|.loc l,d3,b0<|.int (j:Int),b5,b5,b5] a) λp=>match p.1 with|.rt d=>d=.bl eA|_=>False:=by
 have sm:Sm S (eU (TT S w h) S q):=⟨CO,λm u=>rV u▸CN m.1⟩;have b:(eU (TT S w h) S q)[j]?=b0 (m.1,cP (TT S w h) S q m.1):=by unfold eU;rw[þ,u];rfl
 have U:((eU (TT S w h) S q).map MD)[j]?=b0 (MD (m.1,cP (TT S w h) S q m.1)):=by rw[þ,b];rfl
 have hS:(S.map MD)[j]?=b0 (MD m):=by rw[þ,u];rfl
 have N:∀{d5:Option D},aC aE (aC aE (aA 2)<|aA 4) (mC<|.int 1) [d0,b0<|SH w h S,b0<|.loc l,d3,b0<|.int (j:Int),d5,b5,b5] a=b0 (.str<|cP (TT S w h) S q m.1,a):=bT<|aO<|bF rfl rfl<|(fH g<|l9 U).mpr ⟨_,rfl,_,rfl,rfl⟩;by_cases v:cP (TT S w h) S q m.1="o"
 .show pG (bZ<|aO ⟨_,N,_,rfl,_,uL _ _ _ _,_,rfl,by rw[v];rfl,?_⟩);show rK<|dN<|É.mpr<|Ê.mpr ⟨_,rfl,϶.mpr ?_⟩;show HB (x:=.str "hv") (xs:=lH "hv") (b:=HW (k+10)) (λ_=>rfl) (ſ d0 (b0<|SH w h S) (b0<|.loc l) d3 (b0<|.int (j:Int)) a) (.mk<|õ _) ?_ ?_
  .rintro i d _ o hd ⟨p⟩;obtain⟨c,hc,rfl⟩:=ZN hd;show⟨_,rfl,Ñ.mpr<|bZ<|aO<|rJ<|aL rfl<|J7 (k+5) hw E G B sm b hc (aJ p g) _ λs p2=>?_⟩;show yK k hw E G B T X (sm.set b hc) s _ (λn=>absurd (ZF ti v hc λx r=>?_) n) λ_ L p3=>⟨_,rfl,ë.mpr ⟨_,rfl,(if_neg Z6).mpr<|Ï.mpr<|.mk<|p.trans<|p2.trans p3⟩⟩;rcases PQ r with r|rfl
   .show .inr<|rV r
   .show .inl rfl
  .rintro _ o ⟨p⟩;show⟨rfl,gK ⟨_,rfl,rfl⟩⟩
 .have Z:=(CN m.1).resolve_left v;have eo:(cP (TT S w h) S q m.1==("o":Str))=false:=beq_eq_false_iff_ne.mpr v;show kQ<|bZ<|aO ⟨_,N,_,rfl,_,uL _ _ _ _,_,rfl,eo,c5 ?_⟩;have K:a<+:(a++[C.dK []]).set a.length (.dK<|j7 [] [(.inr "h",.str "v"),(.inr "v",.str "h")]):=cX (aU _ _) (Z2 _) _;have Q:((a++[C.dK []]).set a.length<|.dK<|j7 [] [(.inr "h",.str "v"),(.inr "v",.str "h")])[a.length]?=b0 (C.dK<|j7 [] [(.inr "h",.str "v"),(.inr "v",.str "h")]):=cY<|aZ _ _;show aV (aO<|Vq<|ţ.mpr ⟨_,rfl,_,rfl,ϓ.mpr<|ţ.mpr ⟨_,rfl,_,rfl,ϓ.mpr<|ϸ.mpr ⟨aZ _ _,(by change(2:Nat)<=15;decide),?_⟩⟩⟩);change W (aC aE _ _ _<|(a++[C.dK []]).set a.length<|.dK<|j7 [] [(.inr "h",.str "v"),(.inr "v",.str "h")]) _;generalize(a++[C.dK []]).set a.length (C.dK<|j7 [] [(.inr "h",.str "v"),(.inr "v",.str "h")])=o at K Q;show aO<|bF rfl rfl<|(fH (aJ K g)<|l9 U).mpr ⟨_,rfl,_,rfl,(Vr Q rfl<|ZM Z).mpr ?_⟩;have O:∀{d5 d6:Option D},aC aE (aC aE (aC aE (aA 1)<|mC<|.int 2)<|aA 4) (mC<|.int 1) [d0,b0<|SH w h S,b0<|.loc l,d3,b0<|.int (j:Int),d5,d6,b5] o=b0 (.str m.2,o):=bT<|aO<|aO<|bF rfl rfl<|Œ.mpr ⟨_,rfl,_,ZL (l9 hS) _,_,rfl,_,rfl,rfl⟩;by_cases r:m.2="o"
  .show kQ (bZ<|aO ⟨_,O,_,rfl,_,uL _ _ _ _,_,rfl,by rw[r];rfl,c5 ?_⟩);have Y:=(uN Z).1;obtain⟨x,A,hc⟩:Re (TT S w h) S m.1:=LS λn=>v<|uO n;show aV<|rJ<|aL rfl<|J7 (k+5) hw E G B sm b Y (aJ K g) _ λs p2=>?_;show yK k hw E G B T X (sm.set b Y) s _ (λ_ l7 L y p3 R hy=>?_) λc=>absurd c<|ZG ti A hc ?_ ?_
   .show bQ<|ď.mpr<|aL rfl<|(Vu R).mpr<|(if_pos rfl).mpr<|aO ⟨_,rfl,Ā.mpr ⟨_,rfl,ŀ _,_,CQ eA R,?_⟩⟩;change D.bl (!(y.map bM).isEmpty)=_;cases y with
    |nil=>show absurd rfl hy|cons=>rfl
   .show Ĳ<|Ν (ZW.mp b).1
   .obtain⟨z,hz,M,rfl⟩:=ü.mp A;obtain⟨i,H⟩:=ul.mp hz;have I:(eU (TT S w h) S q)[i]?=b0 (z.1,cP (TT S w h) S q z.1):=by unfold eU;rw[þ,H];rfl
    show Ĳ (i:=i) ?_;rw[Č λe=>?_,I];rw[<- e,u]at H;rw[<- ñ H,r]at M;revert M;decide +kernel
  .show pG<|bZ<|aO ⟨_,O,_,rfl,_,uL _ _ _ _,_,rfl,by change(!(m.2==("o":Str)))=eA;rw[beq_eq_false_iff_ne.mpr r];rfl,gK ⟨_,rfl,rfl⟩⟩
def ZP k(ns:List Int)T:W (f (k+11) "law" [.rol<|ns.map D.int] T) λp=>p.1=.bl true:=by
 show È (WM (k+10) _ T)<|aV<|aL rfl<|YN (k+3) ns _ _ λw h S μ1 hw g R A=>?_;have a:=R;obtain⟨hl,nd,ok⟩:=R;cases b:(bN w h).find? (cN<|aQ S)with
 |some c=>show pG (ő.mpr<|bZ<|aO<|aL rfl<|IK (k+8) hw g ⋯ _ _ λs p2=>⟨_,rfl,by rw[b];show Ŋ.mpr ⟨_,rfl,(if_pos rfl).mpr ⟨rfl,gK ⟨_,rfl,rfl⟩⟩⟩⟩)|none=>
  have o:jN (f7 (aQ S) w h):=Zw hw g b;have s0:Sm S S:=⟨rfl,ok⟩;show Ë.mpr (Ñ.mpr<|BW<|bZ<|aO<|aL rfl<|IK (k+8) hw g ⋯ _ _ λs p2=>⟨_,rfl,?_⟩);rw[b];show ë.mpr ⟨_,rfl,rfl,bZ<|aO<|aL rfl<|yK k hw g a A b o s0 s _ (λ_ l H y p3 g3 r=>⟨_,rfl,ŋ.mpr ⟨_,rfl,(if_pos rfl).mpr<|Ù.mpr ⟨_,rfl,rfl⟩⟩⟩) λc H p3=>⟨_,rfl,ë.mpr ⟨_,rfl,(if_neg Z6).mpr<|Ï.mpr ?_⟩⟩⟩;obtain⟨q,B,mk⟩:=c;have sm:Sm S (eU (TT S w h) S q):=⟨CO,λm i=>rV i▸CN m.1⟩;have X:∀L:List<|(Int×Int)×Str,(L.map λm=>MD (m.1,cP (TT S w h) S q m.1))=(L.map λm=>(m.1,cP (TT S w h) S q m.1)).map MD:=λL=>by rw[Û];rfl
  show aV<|aL rfl<|JP k hw g a b o (dm:=cP (TT S w h) S q) (λe hc _=>Zz hc) (ZA ok B mk) _ _ λl μ4 p4 _ E=>?_;rw[X]at E;show aV<|aL rfl<|J6 (k+6) hw g a A sm E _ λI p5=>?_;have e:=J1 sm.ks w h;have K:=CP sm.ks;show kQ (BW<|bZ<|aO<|aL rfl<|yK k hw g a A b o sm I _ (λn=>absurd (ZE B) n) λ_ μ6 p6=>⟨_,rfl,ë.mpr ⟨_,rfl,rfl,bZ<|aO<|aL rfl<|JP k hw g (sm.sh a) (by rw[K];show b) (by rw[K];show o) (dm:=cP (TT S w h) S q) (λx hc hx=>ZD (CO▸hx) λy r z=>hc y r<|by rw[e];show z) (λx m i b y r=>ZC B x m i b y<|by rw[e]at r;show r) _ _ λl2 u p7 _ M=>?_⟩⟩);have U:((eU (TT S w h) S q).map λm=>MD (m.1,cP (TT S w h) S q m.1))=(eU (TT S w h) S q).map MD:=eG λm i=>by rw[<- rV i]
  rw[U]at M;have v:u[l]?=b0 (.lst<|(eU (TT S w h) S q).map MD):=aJ (p5.trans<|p6.trans p7) E;have N:=aJ (aU u<|C.lst []) v;have G:((eU (TT S w h) S q).map MD).length=S.length:=(ZT ..).trans sm.len;show⟨_,rfl,_,J5 eA M v<|J2 _ _,_,rfl,rfl,c5 ?_⟩;by_cases O:S=[]
  .subst O;show pG<|bZ<|aO ⟨_,rfl,Ā.mpr ⟨_,rfl,ŀ _,_,CQ dI v,_,rfl,rfl,gK ⟨_,rfl,rfl⟩⟩⟩
  .have hp:0<S.length:=List.length_pos_iff.mpr O;have h1:=dj (cK ns 7) (show(S.length:Int)≠0 by lia);have h2:=gk (cK ns 7) (show(0:Int)<S.length by lia);obtain⟨j,hj,Y⟩:∃j:Nat,j<S.length/\cK ns 7%(S.length:Int)=(j:Int):=⟨(cK ns 7%(S.length:Int)).toNat,by lia,by lia⟩;show kQ<|bZ<|aO ⟨_,rfl,Ā.mpr ⟨_,rfl,ŀ _,_,CQ dI v,_,rfl,?_,c5 ?_⟩⟩
   .change((eU (TT S w h) S q).map MD).isEmpty=dI;show List.isEmpty_eq_false_iff.mpr λz=>by rw[z]at G;show absurd G<|by change ¬ 0=_;lia
   .show aV (aO<|aL rfl<|pK (k+9) ns (by decide) _ _<|aL rfl<|(fI N).mpr ?_);rw[G];show(eD<|by lia).mpr ?_;rw[Y];show bH (ZO k hw g a A b o B (ZY hj) N) λq Q=>?_;obtain⟨Z,q⟩:=q;cases Z with
    |rt d=>show Q|_=>show Q.elim
def ZQ:∀ns:List Int,ns.length<=63->∃μ',jO S ds 11 "law" [.rol<|ns.map D.int] []=b0 (.bl eA,μ'):=λns _=>by obtain⟨⟨d,μ'⟩,a,b⟩:=ZP 0 ns [];dsimp only at b;subst b;show⟨μ',?_⟩;unfold f at a;show a
def dz Q:xH (Kx Q) ds:=by unfold xH;kernel_rfl
def cz Q:HA (Kx Q) S.con=true:=by kernel_rfl
def nz Q:S.no.map (tu (Kx Q) ř)=S.no.map λ_=>b0 none:=by kernel_rfl
def ZR{P:ĥ}{w:Ĉ}{Q:ε}
  {d0:Addr}{l:Ϻ}{d:Ϻ}{n:Ϻ}{g:Ϻ}{a:Nat}
  (g_TURNED:tu (Kx Q) ř "TURNED"=b0 (b0<|.ref d0))
  (hd0:(Kx Q).lookup d0=b0 {cls:=.type "dict",data:=.dict #[⟨hashStr w "h",.str "h" l,.str "v" d⟩,⟨hashStr w "v",.str "v" n,.str "h" g⟩] a})
  (zd0:(d0==ğ)=dI)
  {h:ç}{mg:Str → Option Value}(X:(Kx Q).In h)(G:h.Ns ř mg):Ŏ P w (Kx Q) mg S ds ∧ ∃f c,ϑ (Kx Q) "law" "law" (aI 86) f c ∧ mg "law"=b0 (.ref f) ∧ ∀(s:ZZ)(u:Value),jn s c ⟨[u],[]⟩ [("_law_script",u)]:=by
 show⟨⟨Vc<|by decide +kernel,Vd λp j=>(Hx X G (dz Q) p j).1,Ve<|Vl X G<|cz Q,λx b e=>?_,Vh<|Vk X G<|nz Q⟩,Vj X G (dz Q) (by kernel_rfl)<|by kernel_rfl⟩
 .show Vf ?_ x b e;show List.forall_mem_cons.mpr ⟨⟨d0,[(Ψ "h",(.str "v")),(Ψ "v",(.str "h"))],[(Ψ "h",lw "v" d),(Ψ "v",lw "h" g)],Ko X G g_TURNED,zd0,λo i=>Vg (ks:=[Ψ "h",Ψ "v"]) (i _ _ hd0) (.cons (Hs _ _) rfl rfl<|.cons (Hs _ _) rfl rfl<|.nil) (by decide +kernel) rfl,.cons ⟨rfl,⟨_,rfl⟩⟩<|.cons ⟨rfl,⟨_,rfl⟩⟩<|.nil,λ_ _ _=>.cons (.str _)<|.cons (.str _)<|.nil⟩,λ_ z=>nomatch z⟩
end Lw
open PySem PySem.W PyProof.Rows
set_option maxRecDepth 100000 in
set_option maxHeartbeats 0 in
theorem PySem.Challenge.cw_creasecourt_k55_whole_carried_again_holds : PySem.Challenge.rw_creasecourt_k55_whole_carried_again.Holds := by
 w_on
 refine holds_law Lw.M0 fun a=>?_
 refine holds_open (q:=Lw.Vw) (loose:=["TURNED"]) (Xt:=fun s=>xlAt Lw.Vw [] s&&recOk (Ny<|Ou<|ı Z0) s) (XP:=XL Lw.Vw []) (Yf:=Hook.obs (wy Lw.Kx Lw.As Lw.sA)) (Ya:=Hook.val (wy Lw.Kx Lw.As Lw.sA)) (YP:=Hook.says (wy Lw.Kx Lw.As Lw.sA)) (N:=7408) Lw.run (Hook.of _) (Hook.keeps _) (fun s e=>xl_of s (ug.mp e).1) XL.keeps (by rfl) (by rfl) (by rfl) (fun s e=>recFacts_of (ug.mp e).2) (by rfl) (by first|assumption|decide +kernel) (by decide +kernel) ⟨rfl,rfl,rfl,rfl,rfl,by decide +kernel⟩ ?hw ?hc
 case hw=>w_witness2
 k_fill
 refine L3.walkM (l:=Z0) (S:=Lw.S) (ds:=Lw.ds) (k:=11) (st:=Lw.aI 86) (x:="_law_script") rfl rfl ⟨rfl,by decide,by decide⟩ (fun w h Y=>PySem.W.kIn_of Y) (by kernel_rfl) (by kernel_rfl) ?F fun c h _=>Lw.ZQ c h
 case F=>
  intro w d h b G
  refine' @Lw.ZR M2 w _ 344 633 634 635 636 2 ?g_TURNED ?hd0 ?zd0 _ _ b G
  (case g_TURNED=>kernel_rfl)
  (case hd0=>kernel_rfl)
  (case zd0=>exact rfl)
