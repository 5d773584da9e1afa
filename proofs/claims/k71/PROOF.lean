import PyProof.Rows.All
import Wide.All
import OpenK.AllK
import PySem.Challenge.RW_creasecourt_k71_pairs_that_share
local macro_rules|`(def $i:declId $s:optDeclSig $v:declVal)=>`(theorem $i $(⟨Lean.mkNode `Lean.Parser.Command.declSig #[s.raw[0],s.raw[1][0]]⟩):declSig $v:declVal)
local macro_rules|`(abbrev $i:declId $s:optDeclSig $v:declVal)=>`(noncomputable def $i $s $v:declVal)
local macro_rules|`(tactic|show $e:term)=>`(tactic|refine $e)
local macro_rules|`(⋯)=>`(by lia)
local macro_rules|`(nofun)=>`(by omega)
open Option renaming some->a0,none->a7
open Bool renaming false->a8,true->a9
open And renaming symm->MC
open Array renaming mk->ĕ,getElem?_toList->γ,length_toList->ao,toList_push->ϯ,toList_inj->bh,toList_append->qg,getElem?_eq_none->NA,getElem?_eq_some_iff->Oz,getElem?_eq_getElem->Oy,toList_reverse->Ob,toList_setIfInBounds->SS,toList_extract->Rm,swapIfInBounds->Rl,toList->Pw,map->Pe
open Bool renaming and_eq_true->í,false_ne_true->Ī,false_eq_true->ĸ,eq_iff_iff->ϟ,or_eq_true->pC,and_eq_true_iff->zr,not_eq_true'->N4,not_false->Md,or_false->Mn,not_true->Mm,and_true->O5,true_and->Px
open Classical renaming choose_spec->vo,choose->mF,byContradiction->SA
open False renaming elim->Φ
open ForInStep renaming yield->uh
open Int renaming mul_eq_zero->fj,emod_lt_of_pos->vg,toNat_natCast->vX,emod_emod->kh,emod_nonneg->uf,le_of_lt->km,add_zero->ye,le_refl->yc,sub_add_cancel->OQ,le_trans->O9,emod_emod_of_dvd->Qu,not_lt->Nl,emod_add_emod->Qs,emod_two_eq->Qh,zero_add->Q3,mul_add->Pf
open List renaming length_map->Å,getElem?_eq_some_iff->Ú,getElem?_eq_getElem->ó,length_append->å,size_toArray->ñ,mem_map->Þ,getElem?_map->ú,getElem?_set_ne->đ,mem_singleton->ĉ,map_map->ã,mem_append->Ą,mem_of_getElem?->Ğ,map_cons->ù,append_assoc->ě,mem_cons->ċ,mem_cons_of_mem->ı,map_append->Ę,mem_cons_self->Ĭ,getD_eq_getElem?_getD->š,getElem?_append_left->Š,prefix_refl->İ,length_cons->Ļ,getElem?_append_right->ż,map_congr_left->a2x,length_take->Ń,mem_append_left->Ū,length_filter_le->Ų,mem_filter->Ŏ,take_length->ś,range->ġ,length->ĭ,take_append_drop->ž,getD->ę,nodup_cons->Ś,set_cons_zero->ũ,getElem?_eq_none_iff->ϐ,mem_append_right->Ω,all_cons->Ŕ,zipWith_cons_cons->υ,set_cons_succ->Ž,getElem?_set_self->τ,length_drop->ŧ,cons_append->Ű,filter_cons_of_neg->Ϥ,getElem?_eq_none->ώ,contains_iff_mem->ύ,append_nil->ů,pairwise_iff_getElem->ϳ,pairwise_map->Χ,nil_append->ź,mem_range->Ů,filter_cons_of_pos->ϲ,length_reverse->ό,length_set->Θ,take_of_length_le->Ϲ,filter_append->Ϗ,length_singleton->ϸ,getElem?_toArray->Ϸ,toList_toArray->ϥ,pairwise_append->϶,length_take_le'->ϵ,getElem?_of_mem->ϴ,getElem?_take_of_lt->j4,nodup_append->Ϯ,getElem?_reverse->gm,drop_eq_getElem_cons->vp,perm_append_comm->ql,getElem_mem->bf,nodup_nil->ϱ,foldl_cons->az,find?_cons->au,filterMap_cons->qe,map_nil->Ϣ,replicate->UV,find?_eq_none->ni,drop_zero->U3,mem_iff_getElem?->uy,length_replicate->ux,concat_eq_append->uw,reverse_perm->my,mem_of_mem_take->uv,ext_getElem?->mq,length_eq_zero_iff->zm,getElem?_replicate->zj,pairwise_cons->ut,drop_of_length_le->zy,eq_nil_or_concat->zx,take_sublist->vd,map_id->WF,not_mem_nil->uz,lookup_cons->um,all_eq_true->ul,filter_eq_self->yz,length_nil->ug,zip_cons_cons->yx,range'->dw,lookup->dq,filter_eq_nil_iff->N9,set_append_right->NL,pairwise_reverse->NK,getElem?_zipWith->NJ,mem_reverse->zf,range_succ->za,getElem_of_mem->Ms,getElem?_range->Mr,flatMap_append->Mq,idxOf_lt_length_of_mem->P0,take_zero->ym,take_succ->yl,mem_of_find?_eq_some->Ox,take_add_one->N8,reverse_cons->N7,foldl_append->N6,drop_sublist->N5,pairwise_mergeSort->P5,any_eq_true->Mw,zipWith->yq,length_pos_of_mem->P4,filter_nil->Mg,set_append_left->Oa,take_succ_cons->OX,mergeSort_perm->Ov,length_zipWith->Ou,length_pos_iff->Ot,filter_sublist->Oq,map_take->Mo,zip_nil_right->Oi,getElem_idxOf->Oh,getElem?_drop->Og,Nodup->yg,getElem_take->OP,filter_congr->OO,range'_succ->ON,take_append_of_le_length->S6,drop_append_of_le_length->S5,of_mem_zip->OM,length_zip->OW,take_left->OR,perm_ext_iff_of_nodup->SK,map->xu,drop_left->O8,drop_drop->O7,extract_eq_drop_take->Rc,exists_mem_of_ne_nil->Rb,length_erase_of_mem->RX,any_cons->O6,pairwise_singleton->RW,set_set->OI,range_succ_eq_map->Rz,not_of_lt_findIdx->Ry,append_eq_nil_iff->Rw,any_map->OH,all_map->OG,length_mergeSort->Ru,dropLast_eq_take->Rt,mem_of_mem_drop->R8,mem_erase_of_ne->R6,findIdx_getElem->R0,takeWhile_cons->Qv,prefix_append->RP,mem_filterMap->RO,map_inj_right->RN,map_inj_left->Qb,length_range->Qa,getElem_drop->QZ,find?_isSome->QY,perm_middle->QR,nodup_range->QN,mem_flatMap->QM,map_toArray->QL,map_reverse->QK,getElem_inj->QH,flatMap_nil->QF,filter_cons->QD,ext_getElem->QC,drop_length->Q9,countP_cons->Q8,range_zero->Qm,find?_some->Ql,filter_map->Qk,drop_left'->Qj,tail_drop->Qi,map_drop->Py,map_id'->Pn,tail->Pa
open List.Pairwise renaming sublist->iw,imp_of_mem->zz,map->NI,nil->Od,imp->b3F
open List.Perm renaming eq_of_pairwise->zq,refl->zb,trans->Oe,append->Rq
open List.Sublist renaming length_le->b4c
open List.cons renaming injEq->Qz
open Nat renaming le_refl->Õ,ne_of_lt->õ,lt_of_lt_of_le->ĩ,le_trans->Đ,zero_le->Ģ,ne_of_gt->Ř,lt_succ_self->Ψ,le_of_lt->Ζ,add_sub_cancel_left->q9,lt_irrefl->ϣ,min_eq_left->aq,zero_add->ϡ,lt_of_succ_lt->mj,sub_self->aa,lt_of_le_of_lt->vh,le_of_not_lt->a6g,add_assoc->kj,mul_le_mul->ur,lt_trans->lw,lt_succ_of_lt->zg,le_of_eq->lu,le_antisymm->yo,succ_pos->sr,lt_trichotomy->N3,le_succ->ud,le_of_lt_succ->N0,succ_mul->yf,not_lt->rn,not_lt_zero->Mf,add_le_add->Mb,add_right_comm->Of,sub_zero->MV,le_add_left->OS,exists_eq_add_of_lt->S1,sub_eq_zero_iff_le->Rv,min_self->OA,le_zero->Nw,add_sub_add_left->Qw,add_le_add_left->RQ,lt_or_eq_of_le->Qe,add_sub_cancel->Qd,lt_of_not_le->Qn,lt_asymm->Q6,add_zero->Q5,add_comm->Q4,log2_lt->Pg
open Ne renaming symm->ć
open Option renaming bind_some->ğ,bind_eq_some_iff->œ,map_eq_some_iff->Ō,map_some->į,isSome_map->yw,isSome_iff_exists->SM,isSome_some->RB,getD_none->RR
open Option.some renaming inj->ė
open Or renaming inr->qt,inl->xm
open Prod renaming ext->þ,ext_iff->OL,fst->MJ
open Prod.mk renaming inj->ϊ,injEq->OT
open PyProof.Rows renaming seqObj->ý,callWith_type1->bj,SortSt->Ĩ,SortKind->ϋ,callWith_builtin1->NN,IntsAre->ŭ,IsTup->ι,sortedHeap->JF,listUpdate_at->su,entry_list_sort->yh,slot_list_sort->yt,seqEpoch_at->tu,args_list_sort->Mh,AllBare->dg,subscriptTail->MQ,lt_int->SW,envOfC->SV,get?_update_seq->O3,sortedHeap_old->OE,Subscript_->MM,sortedHeap_at->Nx,pendingOf->M8,arrOf->cj,subscriptTail_builtinR->RI,plain_sorted->O2,listItems_at->O1,entry_sorted->O0,mergeAt'->M7,kind_sorted->Nq,list_sort_plain->Q1,wpAny_notIn_heap->b3N,sorted_ints->b3O,sortedAll_old->b3P,sortedAll_at->b3Q,oneLt_int->b3R,mul_int->b3S,kindOf->b3T,floordiv_int->b3U,entry_proto_collect'->b3V,entry_list_iadd'->b3W,call_len_slot->b3X,callWith_kw->b3Y,assign_Tuple_tuple->b3Z,assign_Tuple->b4a,tail_any->Na,mirror->L9,keyLt'->L8,bubble->L7
open PyProof.Rows.Boot renaming sorted->vm,tuple->P7,list->PB,dict->P9,sum->b1U,str->b1V,reversed->b1W,len->b1X,isinstance->b1Y,int->b1Z,bool->b2a,all->b2b
open PyProof.Rows.SortSt renaming mk'->Ě
open PySem renaming wpAny_bind->Á,Shared->Ï,wpAny_pure->Ð,sizeLine->Ñ,wpAny->Ç,model->É,sizeLine_eq->Ā,Program->ł,Around->Ł,World->Į,starEach->ă,wpAny_holding->ō,wpAny_mono->Ķ,wpAny_newObj_type->Η,Heap->Č,compareOp->ĺ,wpAny_Call_Name_kw->ς,mem_of_lookup->Ϧ,Pos->è,sysModules->ř,cLine->Ĉ,mainGlobals->Ũ,wpAny_call_entry->Ϡ,bootBuiltins->Ε,Params->ξ,wpAny_Call_method0_late->pq,attributeBase->ω,wpAny_truthy_bool->ak,wpAny_dictEntries->aj,wpAny_notOrdered_dict->qj,evalArgs_none->qi,treeTable->Ź,assignEach->Υ,Scope->Δ,FuncData->nA,backTo->Ŋ,codeAny_builtin->fC,NameKind->ϝ,plainId_quiet->Rr,sliceBounds->ϭ,wpAny_setField_rec->vf,rawInt->Ŝ,call_meetsIn->WP,wpAny_passesOwn->pA,wpAny_ite_split->oh,wpAny_dictEpoch->nj,binaryOp->Τ,behindInMarks->fu,foldedSetIterable->vD,Keyword->Γ,Paired->Ŧ,codeAny->Ρ,pyNext->Ŭ,wpAny_field->eZ,wpAny_pyIter_list->zc,firstArgMember->uq,compEnvC->ϛ,builtinLookup_eq_fast->NH,CmpOp->Mt,wpAny_rule->dj,tupleKind->J0,wpAny_newList->t6,keywordEach->ju,wpAny_updateSeq->yj,intKind->Ϛ,OsState->Sk,swapsWith->dm,wpAny_setField->yu,wpAny_pyIter_tuple->My,getattributeRaised->Mx,call_meets->jy,wpAny_pyIter_slot->Mv,wpAny_isInstance->Me,wpAny_callSpecial?_slot->Oc,wpAny_typeOf->yd,wpAny_pyNext_list_item->OZ,wpAny_isOneOf_itemiter->OY,typeLookup->rm,pyIter->ϙ,wpAny_specialOf->Ma,wpAny_execs_nil->MZ,typeLookup_type->MY,letOwnedTupleGo->MX,wpAny_pyNext_list_end->Oo,wpAny_isOneOf_valiter->Om,Sem->ĵ,Env->Ο,wpAny_newTuple->Mj,callType_codes->Mi,backToKw->jt,atKey->θ,IsRangeIter->xx,wpAny_standAt->MU,wpAny_attempt->MR,IsItemIterOut->MP,assign->Iv,Result->S8,slot_list_getitem->OV,setField->rE,codeAny_mono->MW,callerA->jn,Model->a9P,BindsTo->jm,PassesOwn->xq,subscripted->ML,Fin->b0q,typeNameOfWhole->O4,getItem->qy,wpAny_load->MN,wpAny_fieldsOf->OF,isSubtype_stop->OC,dictSetDefault->OB,Operator->b0P,wpAny_handled->Nz,wpAny_getItem_list_slice->Qy,swappedStores->Ny,wpAny_pyNext_tuple_item->Qt,updateSeq->MB,slicePick->M9,bindL->dI,bindC->cu,wpAny_pyNext_tuple_end->RK,wpAny_Call_method_late->RJ,typeOf->qx,newExc->qw,isTrue->qu,MeetsIn->xn,wpAny_isOneOf_keyiter->QX,wpAny_throw->Nv,wpAny_pyIter_keyiter->Qr,wpAny_of_eq->Nu,wpAny_letGo->Nt,storedH_new->Nr,lookup_relabel_local->Qq,getAttr?->M6,bindArgs->M5,SetTable->Qp,IntMulOk->M4,GenState->b2U,wpAny_Name->Nm,sub_AttributeError->Qg,sliceRange->Nk,entryOfKey->Nj,closureFor->Ni,checkCount->Nh,builtinsNs->Ng,wpAny_pyIter_enum->Pu,wpAny_assign_Name->Pt,storedH->M3,relabel->M0,call_sum_walkAnyS->Pr,wpAny_pyIter_zip->Pm,wpAny_execs_cons->Pl,noFill_tuple_add->Pk,lastMarks->Nd,kt_code_dict_new->Pj,cellsFrom->Nc,call->Q7,wpAny_loadPart'->Q2,importedModules->Q0,wpAny_tryCatch->Pd,wpAny_seqItems->Pc,recursionLimit->Pb,raiseNew->NZ,newTuple->NY,Tok->L6
open PySem.Around renaming under_plainId->gf
open PySem.Builtin renaming sorted->Oj
open PySem.Builtin.Dict renaming showsAll->iu,updateFrom->NO,noArgs->NM,selfAndRest->SJ,addKeywords->SG,pairItems->S9,pendingCount->b4f,keyAndDefault->b4g,dictSlotNone->b4h
open PySem.Builtin.Dict_items renaming ownsTuple->vq,newIterator->P8,dictOf->PC,ownedTupleIsFree->Si,ownedTupleFields->Sg,pairFromOwner->Sj
open PySem.Builtin.Int renaming intBits->ű,intTooBig->NC
open PySem.Builtin.List renaming listExtendWith->il,listSameRef->NQ,listItems->NF,listTooLong->P2,listLengthHint->Sf,listUpdate->SE
open PySem.Builtin.Range renaming rangeSize->b3J
open PySem.Builtin.Str renaming occurrences->iz
open PySem.Builtin.Tuple renaming tupleHashOf->b3H,tupleCompareSizes->b3I
open PySem.Calls renaming callWith_builtin->bu,spliced_cons->ig,spliced_nil->ie,Name_function_global->SU,call_function_entry->Rj,evalArgs_plain->Ro
open PySem.Challenge renaming rw_creasecourt_k71_pairs_that_share->ń,pw_creasecourt_k71_pairs_that_share->Dr
open PySem.Data renaming fields->Ŀ,dict->Ϫ,cell->rT,seq->MH,cls->Nn
open PySem.F renaming slot_dict_items->iy,plainAttrs_dict->qd,args_dict_items_1->NP,entry_dict_items->NG,type_dict_items->ND,slot_dict_setdefault->SF,slot_dict_values->Sa,args_tuple_add_2->SY,args_list_init_2->SX,typeCall_list_1->SR,plainAttrs_list->SQ,entry_tuple_add->SO,entry_list_init->SN,slot_tuple_add->Rg,slot_dict_keys->Rf,slot_dict_get->RY,called_list->RV
open PySem.Heap renaming get?_push_of_some->æ,lt_size->ß,get?_push_size->ē,get?_update_other->gr,get?_update_self->gk,SameBut->Ϭ,size_push->fB,ExtBut->ue
open PySem.Heap.DictOfH renaming new->b4e
open PySem.Heap.IsSliceOf renaming new->Sb
open PySem.Heap.IsTuple renaming push->Se
open PySem.Heap.SameBut renaming update->gD,refl->Ra
open PySem.NameKind renaming free->ϰ,cell->Sd
open PySem.Obj renaming mapSeq->a3n,data_mapFields->Mp,mapFields->Ml,isFreed_of_fields->RA,data_mapDictKeys->Qx,cls_mapFields->QU
open PySem.Paired renaming length->Mc,snoc->OJ
open PySem.PassesOwn renaming never->RC
open PySem.SeqAt renaming ne_of_list_tuple->ph,EqAt->uc
open PySem.SeqAt.EqAt renaming int_int->RZ
open PySem.Str renaming ofString->Ż
open PySem.Value renaming ref->Ò,type->ü,int->Ġ,none->ş,builtin->ο,bool->Ÿ,str->MK
open PySem.W renaming Frag->Ö,kasC_pure->á,behindTheImports->ķ,kasC_bind->ħ,boot_drawn->ŋ,kasC->ò,keepIn->Ϟ,fnOf->ν,kia_one->bc,boot_heap->ϫ,topFrame->Ϝ,findIn->yp,nsIn->yr,codeIn->Mu,methodObj->Ol,piecesOf->qz,mg_of->OU,segRun->dM,boot_toks->xr,cellsFrom_some->Ri,specialIn->Rk,kitx_list->RE,kitx_dict->RD,instObj->RU,OpenLaw->RT,kitOne->RG,WalkO->QV,kasC_modify->Np,isFn->Qo,kdl_slot_keys_iter->Pz,piece_app->Nf,kHook->xj,KdlSrc->CR
open PySem.W.OpenLaw renaming row->Œ
open PySem.W.OpenRow renaming toRowW->Qf
open PySem.W.RowW renaming records->Po
open PySem.W.WData renaming int->uo,weightAll->P1,layable->SD,weight->S7,layableAll->b3B
open PySem.W.WShape renaming has->Pp
open PySem.Walks renaming tuple->Pq,list->Ph
open Sum renaming inr->jl,inl->jj
open True renaming intro->J1
set_option compiler.extract_closed false
set_option bootstrap.genMatcherCode false
set_option genSizeOf false
set_option genSizeOfSpec false
set_option Elab.async false
set_option linter.all false
set_option maxRecDepth 100000
set_option linter.all false
@[reducible]def gq:=List PySem.Value
@[reducible]def jw:=List<|PySem.Addr×PySem.Obj
@[reducible]def jq:=List<|Int×Int
namespace L2
open PySem PySem.Spec PyProof.Rows
noncomputable abbrev cN:=Sum Int Str
abbrev z9:cN->Value->Bool
 |.inl k,v=>Value.isInt k v|.inr x,v=>Value.isStrOf x v
abbrev Dx(w:Į):cN->Int
 |.inl k=>hashInt k|.inr x=>hashStr w x
def mQ:∀{k}{v},z9 k v=a9->(∃i t,k=jj i/\v=Ġ i t)\/(∃x t,k=jl x/\v=MK x t)
 |.inl i,v,h=>by obtain⟨t,e⟩:=Value.isInt_shape (k:=i) (v:=v) h;show .inl ⟨i,t,rfl,e⟩
 |.inr x,v,h=>by obtain⟨t,e⟩:=Value.isStrOf_shape (x:=x) (v:=v) h;show .inr ⟨x,t,rfl,e⟩
def b4t a b:decide ((jj a:cN)=jj b)=(a==b):=by
 by_cases e:a=b
 .subst e;simp
 .have h:¬ (jj a:cN)=jj b:=λq=>e<|Sum.inl.inj q;rw[decide_eq_false h];show(beq_eq_false_iff_ne.mpr e).symm
def b4s a b:decide ((jl a:cN)=jl b)=decide (a=b):=by
 by_cases e:a=b
 .subst e;simp
 .have h:¬ (jl a:cN)=jl b:=λq=>e<|Sum.inr.inj q;rw[decide_eq_false h,decide_eq_false e]
def b4q a b:decide ((jj a:cN)=jl b)=false:=decide_eq_false λq=>nomatch q
def b4p a b:decide ((jl a:cN)=jj b)=false:=decide_eq_false λq=>nomatch q
abbrev tS prog w:PySem.KeyKind prog w cN where
 is:=z9
 hash:=Dx w
 inj:=λv a b g d=>by
  rcases mQ g with⟨i,t,rfl,rfl⟩|⟨x,t,rfl,rfl⟩
  .rcases mQ d with⟨j,u,rfl,e⟩|⟨y,u,rfl,e⟩
   .injection e with e1 _;rw[e1]
   .show nomatch e
  .rcases mQ d with⟨j,u,rfl,e⟩|⟨y,u,rfl,e⟩
   .show nomatch e
   .injection e with e1 _;rw[e1]
 byValue:=λk v h=>by rcases mQ h with⟨i,t,rfl,rfl⟩|⟨x,t,rfl,rfl⟩<;>rfl
 pyHash:=λc h=>by
  rcases mQ c with⟨i,t,rfl,rfl⟩|⟨x,t,rfl,rfl⟩
  .show wpAny_pyHash_int h
  .show wpAny_pyHash_str h
 eqBool:=λl c h=>by
  rcases mQ l with⟨i,t,rfl,rfl⟩|⟨x,t,rfl,rfl⟩
  .rcases mQ c with⟨j,u,rfl,rfl⟩|⟨y,u,rfl,rfl⟩
   .rw[b4t]at h;show wpAny_eqBool_int h
   .rw[b4q]at h;show SeqAt.EqAt.int_str i t y u _ _ _ _ h
  .rcases mQ c with⟨j,u,rfl,rfl⟩|⟨y,u,rfl,rfl⟩
   .rw[b4p]at h;show SeqAt.EqAt.str_int x t j u _ _ _ _ h
   .rw[b4s]at h;show wpAny_eqBool_str h
 «strs»:=λk x t v h=>by
  rcases mQ h with⟨i,u,rfl,e⟩|⟨y,u,rfl,e⟩
  .show nomatch e
  .injection e with e1 _;subst e1;cases v<;>rfl
inductive V where
 |non|bl (b:Bool)|int (i:Int)|str (x:Str)|byt (b:Array UInt8)|flt (b:UInt64)|ref (a:Addr)|ty (n:String)
 deriving DecidableEq
@[reducible]def gw:=List V
abbrev Ì:V->Value->Prop
 |.non,u=>u=ş|.bl b,u=>u=Ÿ b|.int i,u=>∃t,u=Ġ i t|.str x,u=>∃t,u=MK x t|.byt b,u=>∃t,u=Value.bytes b t|.flt b,u=>∃t,u=Value.float b t|.ref a,u=>u=Ò a|.ty n,u=>u=ü n
noncomputable abbrev Ä:gw->gq->Prop:=Ŧ Ì
def Ä.length(r:Ä xs us):xs.length=us.length:=Mc r
def Ä.get:∀{xs}{us}{i:Nat}{x},Ä xs us->xs[i]?=a0 x->∃u,us[i]?=a0 u/\Ì x u
 |_,_,_,_,.nil,e=>by simp at e
 |_,_,0,_,.cons r _,e=>by simp at e;subst e;show⟨_,rfl,r⟩
 |_,_,i+1,x,.cons _ t,e=>by obtain⟨u,a,b⟩:=Ä.get (i:=i) (x:=x) t (by simpa using e);show⟨u,by simpa using a,b⟩
def Ä.append:∀{xs ys}{us ws},Ä xs us->Ä ys ws->Ä (xs++ys) (us++ws)
 |_,_,_,_,.nil,s=>s|_,_,_,_,.cons r t,s=>.cons r<|Ä.append t s
def Ä.take:∀{xs}{us}n,Ä xs us->Ä (xs.take n) (us.take n)
 |_,_,0,_=>.nil|_,_,_+1,.nil=>.nil|_,_,n+1,.cons r t=>.cons r<|Ä.take n t
def Ä.drop:∀{xs}{us}n,Ä xs us->Ä (xs.drop n) (us.drop n)
 |_,_,0,r=>r|_,_,_+1,.nil=>.nil|_,_,n+1,.cons _ t=>Ä.drop n t
abbrev Ŵ:Option V->Option Value->Prop
 |some v,a0 u=>Ì v u|none,a7=>True|_,_=>False
abbrev KV{κ:Type}:List (κ×V)->List (κ×Value)->Prop:=Ŧ λ(p:κ×V)(q:κ×Value)=>p.1=q.1/\Ì p.2 q.2
abbrev kV:cN->V
 |.inl i=>.int i|.inr x=>.str x
inductive HO where
 |lst (xs:gw)
 |tup (xs:gw)
 |dK (kvs:List (cN×V))|dT (kvs:List (List cN×V))
 |set (S:Int->Bool)(n:Nat)
 |ins (C dx:Addr)(fs:List (Str×V))
 |own (x:Addr)
 |xd (fs:List (Str×V))
 |met (f x:Addr)
 |rng (lo hi:Int)
 |frz (o:Obj)(u:HO)
 |tbl (ps:Array Value)
 |ext (φ:Č->Prop)
noncomputable abbrev Hp:=Addr->Option HO
abbrev aK(H:Hp)(a:Addr)(o:HO):Hp:=λb=>if b=a then a0 o else H b
def cP:aK H a o a=a0 o:=by unfold aK;rw[if_pos rfl]
def aY(h:b≠a):aK H a o b=H b:=by unfold aK;rw[if_neg h]
def jW{H:Hp}(h:H a=a0 o)(h':H b=a7):a≠b:=by intro e;subst e;rw[h]at h';cases h'
section
variable(P:ł)(w:Į)
abbrev ų(h:Č)(a:Addr)(xs:Array Value):Prop:=∃o,h.get? a=a0 o/\o.cls=.type "tuple"/\∃n,o.data=.seq xs n/\o.dict=a7
def ų.tup{h:Č}{a:Addr}{xs:Array Value}(x:ų h a xs):ι h a xs:=let⟨o,e,c,n,d,_⟩:=x;⟨o,e,c,n,d⟩
def ų.new(h:Č)items:ų (h.push {cls:=.type "tuple",data:=.seq items}) h.objs.size items:=⟨_,ē _ rfl,rfl,_,rfl,rfl⟩
abbrev â(H:Hp)(h:Č)(a:Addr):HO->Prop
 |.lst b=>b.length<=Ñ/\∃(its:gq)(n:Nat),Ä b its/\h.get? a=a0 {cls:=.type "list",data:=.seq its.toArray n}|.tup b=>b.length<=Ñ/\∃its:gq,Ä b its/\ų h a its.toArray|.dK kvs=>kvs.length<=Ñ/\(a==ř)=a8/\∃i,KV kvs i/\h.DictOf (tS P w) a i|.dT kvs=>kvs.length<=Ñ/\(a==ř)=a8/\∃b:List (List cN×Addr×Value),
   Ŧ (λ(p:List cN×V)(q:List cN×Addr×Value)=>p.1=q.1/\H q.2.1=a0 (.tup<|p.1.map kV)/\Ì p.2 q.2.2) kvs b /\
   ∃o d j,h.get? a=a0 o/\o.ExactDict/\o.data=.dict d j/\d.toList=b.map (Nj<|J0<|tS P w)/\(b.map (·.1)).Nodup
 |.set S n=>h.SetOf (Ϛ P w) a S n|.ins C dx fs=>H dx=a0 (.own a)/\fs.length<=1000/\dx≠a/\h.get? a=a0 (RU C dx) /\
   ∃c,h.Ns1 dx c/\(∀f,Ŵ (fs.lookup f) (c f))/\PySem.Within c (fs.map (·.1))
 |.own _=>∃o,h.get? a=a0 o|.xd fs=>∃c,h.Ns1 a c/\∀f,Ŵ (fs.lookup f) (c f)|.rng lo hi=>∃t u v,h.get? a=a0 {cls:=.type "range",data:=.fields #[.int lo t,.int hi u,.int 1 v]}|.frz o u=>h.get? a=a0 o/\â H h a u|.tbl ps=>h.get? a=a0 {cls:=.none,data:=.fields ps}|.met f x=>h.get? a=a0 (Ol (.ref f)<|.ref x)|.ext φ=>φ h/\(∃o,h.get? a=a0 o)/\∀e g:Č,φ e->(∀o,e.get? a=a0 o->g.get? a=a0 o)->φ g
abbrev ŗ(H:Hp)(h:Č):Prop:=∀a o,H a=a0 o->â P w H h a o
end
def â.lt{P:ł}{w:Į}{H:Hp}{h:Č}{a:Addr}{o:HO}(x:â P w H h a o):a<h.objs.size:=by
 cases o with
 |lst c=>obtain⟨_,_,_,_,e⟩:=x;show ß e|tup c=>obtain⟨_,_,_,p⟩:=x;show p.tup.lt|dK b=>obtain⟨_,_,_,_,o,_,_,e,_⟩:=x;show ß e|dT b=>obtain⟨_,_,_,_,o,_,_,e,_⟩:=x;show ß e|set S n=>obtain⟨o,_,_,_,e,_⟩:=x;show ß e|ins C d fs=>obtain⟨_,_,_,e,_⟩:=x;show ß e|own y=>obtain⟨_,e⟩:=x;show ß e|xd fs=>obtain⟨_,⟨_,_,_,e,_⟩,_⟩:=x;show ß e|rng i g=>obtain⟨_,_,_,e⟩:=x;show ß e|frz j u=>obtain⟨e,_⟩:=x;show ß e|tbl k=>show ß (show h.get? a=a0 _ from x)|met f y=>show ß (show h.get? a=a0 _ from x)|ext l=>obtain⟨_,⟨_,e⟩,_⟩:=x;show ß e
def Ŧ.mapP{F G:d->e->Prop}:∀{l₁}{c},Ŧ F l₁ c->(∀a b,F a b->G a b)->Ŧ G l₁ c
 |_,_,.nil,_=>.nil|_,_,.cons r t,f=>.cons (f _ _ r)<|Ŧ.mapP t f
def â.stay(x:â P w H h a o)(k:∀b u,(b=a\/H b=a0 (.own a))->h.get? b=a0 u->h'.get? b=a0 u)(I:∀b,H b=a0 (.own a)->H' b=a0 (.own a))(K:∀b m,H b=a0 (.tup m)->H' b=a0 (.tup m)):â P w H' h' a o:=by
 induction o with
 |lst m=>obtain⟨z,l,n,r,e⟩:=x;show⟨z,l,n,r,k _ _ (.inl rfl) e⟩|tup m=>obtain⟨z,l,r,g,e,c⟩:=x;show⟨z,l,r,g,k _ _ (.inl rfl) e,c⟩|dK s=>obtain⟨z,y,M,r,g,j,i,e,c⟩:=x;show⟨z,y,M,r,g,j,i,k _ _ (.inl rfl) e,c⟩|dT s=>obtain⟨z,y,m,r,g,j,i,e,c⟩:=x;show⟨z,y,m,Ŧ.mapP r λp q z=>⟨z.1,K _ _ z.2.1,z.2.2⟩,g,j,i,k _ _ (.inl rfl) e,c⟩|set S n=>obtain⟨g,j,i,t,e,c⟩:=x;show⟨g,j,i,t,k _ _ (.inl rfl) e,c⟩|ins C N fs=>obtain⟨d,z,ne,e,A,⟨B,j,i,G,c⟩,r⟩:=x;show⟨I _ d,z,ne,k _ _ (.inl rfl) e,A,⟨B,j,i,k _ _ (.inr d) G,c⟩,r⟩|own y=>obtain⟨g,e⟩:=x;show⟨g,k _ _ (.inl rfl) e⟩|xd fs=>obtain⟨A,⟨B,j,i,e,c⟩,r⟩:=x;show⟨A,⟨B,j,i,k _ _ (.inl rfl) e,c⟩,r⟩|rng Q O=>obtain⟨t,u,v,e⟩:=x;show⟨t,u,v,k _ _ (.inl rfl) e⟩|frz g u L=>obtain⟨e,q⟩:=x;show⟨k _ _ (.inl rfl) e,L q⟩|tbl E=>have e:h.get? a=a0 {cls:=.none,data:=.fields E}:=x;change h'.get? a=a0 {cls:=.none,data:=.fields E};show k a _ (.inl rfl) e|met f y=>have e:h.get? a=a0 (Ol (.ref f)<|.ref y):=x;change h'.get? a=a0 (Ol (.ref f)<|.ref y);show k a _ (.inl rfl) e|ext R=>obtain⟨p,⟨o,e⟩,st⟩:=x;show⟨st _ _ p λo q=>k _ _ (.inl rfl) q,⟨o,k _ _ (.inl rfl) e⟩,st⟩
def ŗ.lt{P:ł}{w:Į}{H:Hp}{h:Č}{a:Addr}{o:HO}(x:ŗ P w H h)(e:H a=a0 o):a<h.objs.size:=(x a o e).lt
def ŗ.fresh{a:Addr}(x:ŗ P w H h)(e:h.objs.size<=a):H a=none:=by
 cases q:H a with
 |none=>rfl|some u=>show absurd (ĩ (x.lt q) e)<|ϣ _
def ŗ.kept(x:ŗ P w H h)(k:∀b u,h.get? b=a0 u->h'.get? b=a0 u):ŗ P w H h':=λa o e=>(x a o e).stay (λb u _ q=>k b u q) (λ_ q=>q) λ_ _ q=>q
def ŗ.laid{a:Addr}(x:ŗ P w H h)(k:∀b u,h.get? b=a0 u->h'.get? b=a0 u)(i:h.objs.size<=a)(new:â P w (aK H a o) h' a o):ŗ P w (aK H a o) h':=λb u e=>by
 have g:=x.fresh i;by_cases d:b=a
 .subst d;rw[cP]at e;cases e;show new
 .rw[aY d]at e;show(x b u e).stay (λc v _ q=>k c v q) (λc q=>by rw[aY<|jW q g];show q) λc j q=>by rw[aY<|jW q g];show q
abbrev Rd(H:Hp)(a:Addr)(u:HO):Prop:=H a=a0 u\/∃o,H a=a0 (.frz o u)
def Rd.of(h:H a=a0 u):Rd H a u:=.inl h
def Rd.ok(r:Rd H a u)(x:ŗ P w H h):â P w H h a u:=by
 rcases r with r|⟨o,r⟩
 .show x a u r
 .obtain⟨_,q⟩:=x a _ r;show q
abbrev tT:Option HO->Prop
 |some (.lst _)=>True|some (.dK _)=>True|some (.dT _)=>True|some (.set _ _)=>True|some (.ins _ _ _)=>True|some (.ext _)=>True|_=>False
def ŗ.write(ok:ŗ P w H h)(j:tT (H x))(n:e=x\/H e=a0 (.own x))(k:∀b u,b≠e->h.get? b=a0 u->h'.get? b=a0 u)(m:∃u,h'.get? e=a0 u)(new:â P w (aK H x o') h' x o'):ŗ P w (aK H x o') h':=λb u q=>by
 have d:∀c y,H c=a0 (.own y)->c≠x:=λc y r z=>by subst z;rw[r]at j;show j
 have g:∀c l,H c=a0 (.tup l)->c≠x:=λc l r z=>by subst z;rw[r]at j;show j
 by_cases i:b=x
 .subst i;rw[cP]at q;cases q;show new
 .rw[aY i]at q;by_cases a:b=e
  .have o:H b=a0 (.own x):=by
    rcases n with z|z
    .show absurd (a.trans z) i
    .rw[a];show z
   rw[q]at o;cases o;obtain⟨v,p⟩:=m;show⟨v,by rw[a];show p⟩
  .show(ok b u q).stay (λc v hc r=>k c v ?_ r) (λc r=>by rw[aY<|d c b r];show r) λc l r=>by rw[aY<|g c l r];show r
   rcases hc with rfl|hc
   .show a
   .rintro rfl;rcases n with z|z
    .show d c b hc z
    .rw[hc]at z;cases z;show i rfl
structure Un(fs ex:List Addr)(H H':Hp)(h h':Č):Prop where
 keep:∀b o,h.get? b=a0 o->H b=a7->b∉fs->b∉ex->h'.get? b=a0 o
 slot:∀b o,h.get? b=a0 o->H b=a7->b∈fs->b∉ex->∃sl,h'.get? b=a0 {o with slots:=sl}
 free:∀b o,h.get? b=a0 o->H b=a7->b∉ex->H' b=a7
 there:∀b o,h.get? b=a0 o->b∉ex->∃o',h'.get? b=a0 o'
 tups:∀b xs,H b=a0 (.tup xs)->H' b=a0 (.tup xs)
 frzs:∀b o u,H b=a0 (.frz o u)->H' b=a0 (.frz o u)
 tbls:∀b ps,H b=a0 (.tbl ps)->∃more,H' b=a0 (.tbl<|ps++more)
def Un.any(u:Un fs ex H H1 h h1)(q:h.get? b=a0 c)(n:H b=a7)(g:b∉ex):∃i,h1.get? b=a0 {c with slots:=i}:=by
 by_cases d:b∈fs
 .show u.slot b c q n d g
 .show⟨c.slots,u.keep b c q n d g⟩
def Un.kept(k:∀b u,h.get? b=a0 u->h'.get? b=a0 u):Un fs ex H H h h':=
 ⟨λb c q _ _ _=>k b c q,λb c q _ _ _=>⟨c.slots,k b c q⟩,λ_ _ _ n _=>n,λb c q _=>⟨c,k b c q⟩,λ_ _ q=>q,λ_ _ _ q=>q,λ_ d q=>⟨#[],by rw[q];simp⟩⟩
def Un.refl:Un fs ex H H h h:=Un.kept λ_ _ q=>q
def Un.laid{h:Č}{a:Addr}(k:∀b u,h.get? b=a0 u->h'.get? b=a0 u)(d:h.objs.size<=a)(c:H a=a7):Un fs ex H (aK H a o) h h' where
 keep:=λb u q _ _ _=>k b u q
 slot:=λb u q _ _ _=>⟨u.slots,k b u q⟩
 free:=λb u q n _=>by rw[aY<|õ<|ĩ (ß q) d];show n
 there:=λb u q _=>⟨u,k b u q⟩
 tups:=λb g q=>by rw[aY<|jW q c];show q
 frzs:=λb u g q=>by rw[aY<|jW q c];show q
 tbls:=λb i q=>⟨#[],by rw[aY<|jW q c,q];simp⟩
def Un.write(d:tT (H x))(m:e=x\/H e=a0 (.own x))(k:∀b u,b≠e->h.get? b=a0 u->h'.get? b=a0 u)(g:∃u,h'.get? e=a0 u):Un fs ex H (aK H x o) h h':=by
 have l:∀b,H b=a7->b≠x:=λb n z=>by subst z;rw[n]at d;show d
 have j:∀b,H b=a7->b≠e:=λb n z=>by
  subst z;rcases m with r|r
  .show l b n r
  .rw[n]at r;cases r
 have i:∀b u,H b=a0 u->¬ tT (a0 u)->b≠x:=λb u q p z=>by subst z;rw[q]at d;show p d
 show⟨λb u q n _ _=>k b u (j b n) q,λb u q n _ _=>⟨u.slots,k b u (j b n) q⟩,λb u q n _=>by rw[aY<|l b n];show n,λb u q _=>?_,
  λb s q=>by rw[aY<|i b _ q λz=>z];show q,λb u s q=>by rw[aY<|i b _ q λz=>z];show q,λb v q=>⟨#[],by rw[aY<|i b _ q λz=>z,q];simp⟩⟩
 by_cases c:b=e
 .subst c;show g
 .show⟨u,k b u c q⟩
abbrev wG(h:Č)(H:Hp):List Addr:=(ġ h.objs.size).filter λa=>(H a).isSome
abbrev mR(h:Č)(H:Hp):Č:=PySem.W.hideAll h<|wG h H
def a8v h H:(mR h H).objs.size=h.objs.size:=PySem.W.hideAll_size _ _
def a8s(e:h.get? b=a0 o)(n:H b=a7):(mR h H).get? b=a0 o:=
 PySem.W.hideAll_get _ e λa=>by have q:(H b).isSome=true:=(Ŏ.mp a).2;rw[n]at q;simp at q
def a8r(e:(mR h H).get? b=a0 o):h.get? b=a0 o/\H b=none:=by
 have a:h.get? b=a0 o:=PySem.W.of_hideAll (wG h H) e;show⟨a,?_⟩;cases q:H b with
 |none=>rfl|some x=>have c:b∈wG h H:=Ŏ.mpr ⟨Ů.mpr<|ß a,by simp[q]⟩;have z:(mR h H).get? b=none:=PySem.W.hideAll_none (wG h H) c;rw[z]at e;cases e
abbrev a8k(g h:Č)(L:Addr):jw:=(ġ h.objs.size).filterMap λa=>if a=L\/(g.get? a).isSome=a9 then a7 else(h.get? a).map λo=>(a,o)
abbrev È(g h:Č)(L d:Addr):jw:=(a8k g h L).filter λp=>decide<|p.1≠d
structure Mod(K:Ö)(mg:Str->Option Value)(base:Č):Prop where
 kin:K.In base
 glob:base.Ns Ũ mg
 blt:∃mb,base.Ns Ng mb/\∀x:Str,x ≠ "__name__"->mb x=Ε x
 nolimit:base.NoLimit
structure Cx where
 prog:ł
 w:Į
 K:Ö
 mg:Str->Option Value
 base:Č
 A:Ł
 N:List Str
 s₀:Ï
 H₀:Hp
 env:Ο
 outer:List Ο
 stack:List Ο
 ex:List Addr
 fn:Str->Bool
 calm:Bool
 pn:jw
 xe:Value->Ï->Prop
abbrev jX(l:List Ο):List Addr:=l.filterMap (·.frame)
noncomputable abbrev Cx.fs(X:Cx):List Addr:=jX X.outer
abbrev rH(sc:Δ)(x:Str):Prop:=sc.names.lookup x=a0 .local\/sc.names.lookup x=a0 .cell\/sc.names.lookup x=a0 .free
abbrev Loc(sc:Δ)(x:Str):Prop:=sc.names.lookup x=a0 .local\/sc.names.lookup x=a0 .cell
abbrev a8g(env:Ο)(h:Č)(m:Str->Option Value)(x:Str)(u:Value):Prop:=
 (env.kindOf x=a0 .local/\m x=a0 u)\/((env.kindOf x=a0 .cell\/env.kindOf x=a0 .free)/\∃c,env.cells.lookup x=a0 c/\h.IsCell c (a0 u))
structure Cx.Ok(X:Cx):Prop where
 mod:Mod X.K X.mg X.base
 kind:X.env.scope.kind=.function
 glob:X.env.globals=Ũ
 blt:X.env.builtins=Ng
 above:X.s₀.heap.objs.size<=X.env.locals
 inj:∀x y c,X.env.cells.lookup x=a0 c->X.env.cells.lookup y=a0 c->x=y
 has:∀x,(X.env.kindOf x=a0 .cell\/X.env.kindOf x=a0 .free)->∃c,X.env.cells.lookup x=a0 c
 cab:∀x c,X.fn x=a9->X.env.cells.lookup x=a0 c->X.s₀.heap.objs.size<=c
 hd:X.calm=a9->X.A.handled=a7
 frames:X.A.frames=a0 X.stack
 stk:X.stack=X.outer\/(X.stack=X.env::X.outer/\X.env.frame=a0 X.env.locals)
 exf:∀b∈X.ex,b≠X.env.locals/\∀x c,X.env.cells.lookup x=a0 c->c≠b
 bs:∀b o,X.base.get? b=a0 o->X.s₀.heap.get? b=a0 o/\X.H₀ b=a7
 bsz:X.base.objs.size<=X.s₀.heap.objs.size
 noex:∀b o,X.base.get? b=a0 o->b∉X.ex
 exfs:∀b∈X.ex,b∉X.fs
 funs:X.s₀.heap.FunFrames X.base X.outer
 frf:∀b∈X.fs,X.H₀ b=a7
structure Inv(X:Cx)(Dn:jw)(σ:List (Option V))(H:Hp)(s:Ï):Prop where
 ok:X.Ok
 os:s.os=X.s₀.os
 bare:dg s.gens
 base:Un X.fs X.ex X.H₀ H X.s₀.heap s.heap
 loc:∃m,s.heap.Ns X.env.locals m/\∀(i:Nat)(x:Str)(v:V),X.N[i]?=a0 x->σ[i]?=a0 (a0 v)->rH X.env.scope x->∃u,Ì v u/\a8g X.env s.heap m x u
 cell:∀x c,X.env.cells.lookup x=a0 c->∃v,s.heap.IsCell c v
 free:H X.env.locals=a7
 freeC:∀x c,X.env.cells.lookup x=a0 c->H c=a7
 pin:∀p∈X.pn++Dn,s.heap.get? p.1=a0 p.2/\H p.1=a7/\p.1≠X.env.locals/\p.1∉X.fs/\∀v,p.2.data≠.cell v
 hok:ŗ X.prog X.w H s.heap
 len:σ.length=X.N.length
def Cx.Ok.nofr{X:Cx}(ok:X.Ok)(e:X.base.get? b=a0 o):b∉X.fs:=λa=>by have:=(ok.funs.mem a).1;rw[e]at this;cases this
def Inv.bs(I:Inv X Dn σ H s):∀b o,X.base.get? b=a0 o->s.heap.get? b=a0 o/\H b=none:=λb o e=>⟨I.base.keep b o (I.ok.bs b o e).1 (I.ok.bs b o e).2 (I.ok.nofr e)<|I.ok.noex b o e,I.base.free b o (I.ok.bs b o e).1 (I.ok.bs b o e).2<|I.ok.noex b o e⟩
def Inv.bk(I:Inv X Dn σ H s):∀b o,X.base.get? b=a0 o->s.heap.get? b=a0 o:=λb o e=>(I.bs b o e).1
def Inv.mod(I:Inv X Dn σ H s):Mod X.K X.mg X.base:=I.ok.mod
def Inv.kIn(I:Inv X Dn σ H s):X.K.In s.heap:=I.ok.mod.kin.keeps I.bk
def Inv.lt{X:Cx}{Dn:jw}{σ:List (Option V)}{H:Hp}{s:Ï}(I:Inv X Dn σ H s):X.env.locals<s.heap.objs.size:=let⟨_,a,_⟩:=I.loc;a.lt
def Inv.sz(I:Inv X Dn σ H s):X.s₀.heap.objs.size<=s.heap.objs.size:=Đ I.ok.above<|Ζ I.lt
def Inv.nofs(I:Inv X Dn σ H s){a:Addr}(h:s.heap.objs.size<=a):a∉X.fs:=λb=>by obtain⟨_,o,c,_⟩:=I.ok.funs.mem b;show absurd (ĩ (ß c)<|Đ I.sz h)<|ϣ _
def Inv.cne(I:Inv X Dn σ H s):∀x c,X.env.cells.lookup x=a0 c->c≠X.env.locals:=λx c e z=>by obtain⟨v,o,d,hd⟩:=I.cell x c e;obtain⟨m,⟨i,h,g,b,a,_⟩,_⟩:=I.loc;rw[z,b]at d;cases d;rw[a]at hd;cases hd
def Inv.funs(I:Inv X Dn σ H s):s.heap.FunFrames X.base X.outer:=by
 have all:∀(l:List Ο),(∀b∈jX l,b∈X.fs)->X.s₀.heap.FunFrames X.base l->s.heap.FunFrames X.base l:=by
  intro l;induction l with
  |nil=>intro _ _;trivial|cons h r p=>intro g j;obtain⟨i,⟨L,o,d,k,m,hd⟩,n⟩:=j;have a:L∈X.fs:=g L (by unfold jX;rw[qe,d];show Ĭ);obtain⟨q,e⟩:=I.base.slot L o m (I.ok.frf L a) a λz=>I.ok.exfs L z a;show⟨i,⟨L,_,d,k,e,hd⟩,p (λb c=>g b<|by unfold jX;rw[qe,d];show ı _ c) n⟩
 show all X.outer (λ_ c=>c) I.ok.funs
def Inv.stack(I:Inv X Dn σ H s):s.heap.FunFrames X.base X.stack:=by
 rcases I.ok.stk with e|⟨e,a⟩
 .rw[e];show I.funs
 .rw[e];obtain⟨m,b,_⟩:=I.loc;show .cons (by rw[I.ok.kind];decide) a b ?_ I.funs;show Heap.get?_none_of_le<|Đ I.ok.bsz I.ok.above
def Inv.stkSub(I:Inv X Dn σ H s):∀b∈jX X.stack,b∈X.env.locals::X.fs:=λb a=>by
 rcases I.ok.stk with e|⟨e,c⟩
 .rw[e]at a;show ı _ a
 .rw[e]at a;unfold jX at a;rw[qe,c]at a;show a
def Inv.stkFree(I:Inv X Dn σ H s):∀b∈jX X.stack,H b=none:=λb a=>by
 rcases ċ.mp (I.stkSub b a)with e|a
 .rw[e];show I.free
 .obtain⟨_,o,c,_⟩:=I.ok.funs.mem a;show I.base.free b o c (I.ok.frf b a) λz=>I.ok.exfs b z a
def Inv.step{ch:List Addr}(I:Inv X Dn σ H s)(h:∀b∈ch,(b∈X.ex\/X.s₀.heap.objs.size<=b)/\b≠X.env.locals/\(∀x c,X.env.cells.lookup x=a0 c->c≠b)/\∀p∈X.pn++Dn,p.1≠b)(j:∀b o,b≠X.env.locals->b∉X.fs->b∉ch->s.heap.get? b=a0 o->H b=a7->h'.get? b=a0 o)(B:∀b o,b≠X.env.locals->b∈X.fs->b∉ch->s.heap.get? b=a0 o->H b=a7->∃Z,h'.get? b=a0 {o with slots:=Z})(free:∀b o,b∉ch->s.heap.get? b=a0 o->H b=a7->H' b=a7)(K:∀b o,b∉ch->s.heap.get? b=a0 o->∃Q,h'.get? b=a0 Q)(T:∀b E,H b=a0 (.tup E)->H' b=a0 (.tup E))(N:∀b o u,H b=a0 (.frz o u)->H' b=a0 (.frz o u))(R:∀b U,H b=a0 (.tbl U)->∃more,H' b=a0 (.tbl<|U++more))(ns:∀m,s.heap.Ns X.env.locals m->h'.Ns X.env.locals m)(Y:ŗ X.prog X.w H' h')(hg:dg g'):
  Inv X Dn σ H' {s with heap:=h',gens:=g',drawn:=d',toks:=t'}:=by
 have O:∀b o,X.s₀.heap.get? b=a0 o->b≠X.env.locals:=λb o e=>õ<|ĩ (ß e) I.ok.above;have A:∀b o,X.s₀.heap.get? b=a0 o->b∉X.ex->b∉ch:=λb o e a G=>by
  rcases(h b G).1 with z|z
  .show a z
  .show absurd (ĩ (ß e) z)<|ϣ _
 have g:∀x c,X.env.cells.lookup x=a0 c->∀v,s.heap.IsCell c v->h'.IsCell c v:=λx c e v ⟨o,L,hd⟩=>by
  have w:c∉ch:=λz=>(h c z).2.2.1 x c e rfl;by_cases hc:c∈X.fs
  .obtain⟨Z,q⟩:=B c o (I.cne x c e) hc w L<|I.freeC x c e;show⟨_,q,hd⟩
  .show⟨o,j c o (I.cne x c e) hc w L<|I.freeC x c e,hd⟩
 show⟨I.ok,I.os,hg,⟨λb o e n G a=>?_,λb o e n G a=>?_,λb o e n a=>?_,λb o e a=>?_,λb E e=>T b E<|I.base.tups b E e,λb o E e=>N b o E<|I.base.frzs b o E e,λb U e=>?_⟩,?_,λx c e=>?_,?_,λx c e=>?_,λp hp=>?_,Y,I.len⟩
 .show j b o (O b o e) G (A b o e a) (I.base.keep b o e n G a)<|I.base.free b o e n a
 .obtain⟨Z,y⟩:=I.base.slot b o e n G a;obtain⟨sl',M⟩:=B b _ (O b o e) G (A b o e a) y<|I.base.free b o e n a;show⟨sl',M⟩
 .obtain⟨Q,y⟩:=I.base.there b o e a;show free b Q (A b o e a) y<|I.base.free b o e n a
 .obtain⟨Q,y⟩:=I.base.there b o e a;show K b Q (A b o e a) y
 .obtain⟨m1,y⟩:=I.base.tbls b U e;obtain⟨m2,M⟩:=R b _ y;show⟨m1++m2,by rw[M,Array.append_assoc]⟩
 .obtain⟨m,hn,hl⟩:=I.loc;show⟨m,ns m hn,λi x v y M e3=>?_⟩;obtain⟨u,r,l⟩:=hl i x v y M e3;show⟨u,r,?_⟩;rcases l with l|⟨k,c,e,z⟩
  .show .inl l
  .show .inr ⟨k,c,e,g x c e _ z⟩
 .obtain⟨v,z⟩:=I.cell x c e;show⟨v,g x c e v z⟩
 .obtain⟨m,⟨o,_,_,L,_⟩,_⟩:=I.loc;show free _ o (λz=>(h _ z).2.1 rfl) L I.free
 .obtain⟨v,o,L,hd⟩:=I.cell x c e;show free c o (λz=>(h c z).2.2.1 x c e rfl) L<|I.freeC x c e
 .obtain⟨e,n,ne,nf,d⟩:=I.pin p hp;have w:p.1∉ch:=λz=>(h p.1 z).2.2.2 p hp rfl;show⟨j p.1 p.2 ne nf w e n,free p.1 p.2 w e n,ne,nf,d⟩
def Inv.un(I:Inv X Dn σ H s)(u:Un X.fs [] H H' s.heap h')(h:ŗ X.prog X.w H' h'):Inv X Dn σ H' {s with heap:=h',toks:=t'}:=by
 obtain⟨m,⟨o,q,p,i,r⟩,_⟩:=id I.loc;obtain⟨x,j⟩:=u.any i I.free (by simp);show I.step (g':=s.gens) (d':=s.drawn) (ch:=[]) (λ_ z=>nomatch z) (λb o _ g _ e n=>u.keep b o e n g<|by simp) (λb o _ g _ e n=>u.slot b o e n g<|by simp) (λb o _ e n=>u.free b o e n<|by simp) (λb o _ e=>u.there b o e<|by simp) u.tups u.frzs u.tbls (λv k=>by
  obtain⟨w,d,c,a,l⟩:=k;rw[i]at a;cases a;show⟨_,d,c,j,l⟩) h I.bare
def Inv.call(I:Inv X Dn σ H s)(u:Un (jX X.stack) ch H H' s.heap h')(j:ŗ X.prog X.w H' h')(q:dg g')(a:∀b∈ch,(b∈X.ex\/X.s₀.heap.objs.size<=b)/\b≠X.env.locals/\(∀x c,X.env.cells.lookup x=a0 c->c≠b)/\∀p∈X.pn++Dn,p.1≠b):
  Inv X Dn σ H' {s with heap:=h',gens:=g',drawn:=d',toks:=t'}:=by
 obtain⟨m,⟨o,A,y,k,r⟩,_⟩:=id I.loc;obtain⟨G,i⟩:=u.any k I.free λz=>(a _ z).2.1 rfl;show I.step (ch:=ch) a (λb o i l hc e n=>u.keep b o e n (λz=>(ċ.mp<|I.stkSub b z).elim i l) hc) (λb o _ _ hc e n=>u.any e n hc) (λb o hc e n=>u.free b o e n hc) (λb o hc e=>u.there b o e hc) u.tups u.frzs u.tbls (λB v=>by
  obtain⟨E,h,g,d,w⟩:=v;rw[k]at d;cases d;show⟨_,h,g,i,w⟩) j q
def Inv.turned(I:Inv X Dn σ H s)(k:∀b o,b≠a->s.heap.get? b=a0 o->h'.get? b=a0 o)(A:H a=a7)(g:a≠X.env.locals)(h1:a∈X.ex\/X.s₀.heap.objs.size<=a)(j:∀x c,X.env.cells.lookup x=a0 c->c≠a)(l:∀p∈X.pn++Dn,p.1≠a):Inv X Dn σ H {s with heap:=h',toks:=t'}:=by
 have d:∀b u,H b=a0 u->b≠a:=λb u e z=>by rw[z,A]at e;cases e
 show I.step (g':=s.gens) (d':=s.drawn) (ch:=[a]) (λb w=>?_) (λb o _ _ hc e _=>k b o (λz=>hc<|by simp[z]) e) (λb o _ _ hc e _=>⟨o.slots,k b o (λz=>hc<|by simp[z]) e⟩) (λ_ _ _ _ n=>n)
  (λb o hc e=>⟨o,k b o (λz=>hc<|by simp[z]) e⟩) (λ_ _ e=>e) (λ_ _ _ e=>e) (λb E e=>⟨#[],by rw[e];simp⟩) (λm y=>?_) (λb u e=>?_) I.bare
 .have e:b=a:=by simpa using w
  subst e;show⟨h1,g,j,l⟩
 .obtain⟨o,i,h,B,r⟩:=y;show⟨o,i,h,k _ o (ć g) B,r⟩
 .show(I.hok b u e).stay (λc v hc q=>k c v ?_ q) (λ_ q=>q) λ_ _ q=>q;rcases hc with z|z
  .rw[z];show d b u e
  .show d c _ z
def Inv.tok(I:Inv X Dn σ H s)t:Inv X Dn σ H {s with toks:=t}:=I.un (h':=s.heap) (t':=t) Un.refl I.hok
def Inv.kept(I:Inv X Dn σ H s)(k:∀b u,s.heap.get? b=a0 u->h'.get? b=a0 u):Inv X Dn σ H {s with heap:=h',toks:=t'}:=I.un (Un.kept k)<|I.hok.kept k
def Inv.laid{a:Addr}(I:Inv X Dn σ H s)(k:∀b u,s.heap.get? b=a0 u->h'.get? b=a0 u)(c:s.heap.objs.size<=a)(new:â X.prog X.w (aK H a o) h' a o):
  Inv X Dn σ (aK H a o) {s with heap:=h',toks:=t'}:=I.un (Un.laid k c<|I.hok.fresh c)<|I.hok.laid k c new
def Inv.write(I:Inv X Dn σ H s)(d:tT (H x))(c:e=x\/H e=a0 (.own x))(k:∀b u,b≠e->s.heap.get? b=a0 u->h'.get? b=a0 u)(a:∃u,h'.get? e=a0 u)(new:â X.prog X.w (aK H x o) h' x o):Inv X Dn σ (aK H x o) {s with heap:=h',toks:=t'}:=I.un (Un.write d c k a)<|I.hok.write d c k a new
def Inv.pins_of(I:Inv X Dn σ H s)(h:∀p∈a,s.heap.get? p.1=a0 p.2/\H p.1=a7/\p.1≠X.env.locals/\p.1∉X.fs/\∀v,p.2.data≠.cell v):Inv X a σ H s:=
 ⟨I.ok,I.os,I.bare,I.base,I.loc,I.cell,I.free,I.freeC,λp b=>(Ą.mp b).elim (λz=>I.pin p<|Ū _ z)<|h p,I.hok,I.len⟩
def Dy{N:List Str}(e:N.Nodup){i:Nat}(a:N[i]?=a0 x)(b:N[j]?=a0 x):i=j:=by obtain⟨g,c⟩:=Ú.mp a;obtain⟨h,d⟩:=Ú.mp b;show(QH e).mp<|c.trans d.symm
def Dz(I:Inv X Dn σ H s)(hN:X.N.Nodup)(hi:X.N[i]?=a0 x)(B:Loc X.env.scope x)(r:Ì v u)(h:∀s',Inv X Dn (σ.set i<|a0 v) H s'->(∃a,Ϭ a s.heap s'.heap/\(a=X.env.locals\/X.env.cells.lookup x=a0 a))->Q () s')(hf:X.fn x=a9\/X.env.scope.names.lookup x=a0 .local:=by first|show .inl rfl|show .inr rfl|assumption):Ç M A (storeName X.env x u) Q E s:=by
 obtain⟨m,hn,hl⟩:=id I.loc;have Z:(X.env.scope.kind==.class||(X.env.scope.kind==.module&&X.env.locals != X.env.globals))=false:=by rw[I.ok.kind];rfl
 have L:i<σ.length:=by rw[I.len];show(Ú.mp hi).1
 have cne:=I.cne;have w:∀{a:Addr}{h':Č},(∃o,s.heap.get? a=a0 o/\H a=a7)->Ϭ a s.heap h'->ŗ X.prog X.w H h':=λ{a h'} ha g b ob e=>by
  obtain⟨_,_,G⟩:=ha;show(I.hok b ob e).stay (λc w' hc q=>(g.2 c ?_).trans q) (λ_ q=>q) λ_ _ q=>q;rintro rfl;rcases hc with rfl|hc
  .rw[G]at e;cases e
  .rw[G]at hc;cases hc
 rcases B with N|N
 .show wpAny_storeName_local N hn (λh' hn' g=>?_) Z;obtain⟨oL,_,_,hoL,_⟩:=id hn;show h _ ⟨I.ok,I.os,I.bare,⟨λb o e n O B=>?_,λb o e n O B=>?_,I.base.free,λb o e B=>?_,I.base.tups,I.base.frzs,I.base.tbls⟩,⟨_,hn',λj y v' l K e3=>?_⟩,λy c e=>?_,I.free,I.freeC,λp hp=>?_,w ⟨oL,hoL,I.free⟩ g,by simpa using I.len⟩ ⟨_,g,.inl rfl⟩
  .show(g.2 b<|õ<|ĩ (ß e) I.ok.above).trans<|I.base.keep b o e n O B
  .obtain⟨sl,l⟩:=I.base.slot b o e n O B;show⟨sl,(g.2 b<|õ<|ĩ (ß e) I.ok.above).trans l⟩
  .obtain⟨o',l⟩:=I.base.there b o e B;show⟨o',(g.2 b<|õ<|ĩ (ß e) I.ok.above).trans l⟩
  .by_cases T:j=i
   .subst T;rw[hi]at l;cases l;rw[τ L]at K;cases K;show⟨u,r,.inl ⟨N,by simp⟩⟩
   .rw[đ<|ć T]at K;obtain⟨u',r',q⟩:=hl j y v' l K e3;show⟨u',r',?_⟩;rcases q with⟨k,e⟩|⟨k,c,e,z⟩
    .show .inl ⟨k,?_⟩;have:y≠x:=λe=>T<|Dy hN l<|e▸hi;simp[this,e]
    .show .inr ⟨k,c,e,z.sameBut g<|cne y c e⟩
  .obtain⟨w',z⟩:=I.cell y c e;show⟨w',z.sameBut g<|cne y c e⟩
  .obtain⟨e,n,ne,nf,d⟩:=I.pin p hp;show⟨(g.2 p.1 ne).trans e,n,ne,nf,d⟩
 .have R:X.fn x=true:=by
   rcases hf with z|z
   .show z
   .rw[z]at N;cases N
  obtain⟨c,hc⟩:=I.ok.has x<|.inl N;obtain⟨w',z⟩:=I.cell x c hc;show wpAny_storeName_cell I.ok.kind N hc z λh' U g=>?_;obtain⟨oc,hoc,hocd⟩:=id z;show h {s with heap:=h'} ⟨I.ok,I.os,I.bare,⟨λb o e n O B=>?_,λb o e n O B=>?_,I.base.free,λb o e B=>?_,I.base.tups,I.base.frzs,I.base.tbls⟩,⟨m,hn.sameBut g<|ć<|cne x c hc,λj y v' l K e3=>?_⟩,λy c' e=>?_,I.free,I.freeC,λp hp=>?_,w ⟨oc,hoc,I.freeC x c hc⟩ g,by simpa using I.len⟩ ⟨c,g,.inr hc⟩
  .show(g.2 b<|õ<|ĩ (ß e)<|I.ok.cab x c R hc).trans<|I.base.keep b o e n O B
  .obtain⟨sl,l⟩:=I.base.slot b o e n O B;show⟨sl,(g.2 b<|õ<|ĩ (ß e)<|I.ok.cab x c R hc).trans l⟩
  .obtain⟨o',l⟩:=I.base.there b o e B;show⟨o',(g.2 b<|õ<|ĩ (ß e)<|I.ok.cab x c R hc).trans l⟩
  .by_cases T:j=i
   .subst T;rw[hi]at l;cases l;rw[τ L]at K;cases K;show⟨u,r,.inr ⟨.inl N,c,hc,U⟩⟩
   .rw[đ<|ć T]at K;obtain⟨u',r',q⟩:=hl j y v' l K e3;show⟨u',r',?_⟩;rcases q with q|⟨k,c',e,z'⟩
    .show .inl q
    .show .inr ⟨k,c',e,z'.sameBut g ?_⟩;rintro rfl;show T<|Dy hN l<|I.ok.inj _ _ _ e hc▸hi
  .by_cases Y:c'=c
   .subst Y;show⟨_,U⟩
   .obtain⟨w2,z2⟩:=I.cell y c' e;show⟨w2,z2.sameBut g Y⟩
  .obtain⟨e,n,ne,nf,d⟩:=I.pin p hp;show⟨(g.2 p.1 ?_).trans e,n,ne,nf,d⟩;intro q;rw[q,hoc]at e;have q':oc=p.2:=ė e;show d w'<|by rw[<- q'];show hocd
def DA(I:Inv X Dn σ H s)(c:X.N.Nodup)(e:X.N[i]?=a0 x)(g:Loc X.env.scope x)(r:Ì v u)(h:∀a,Inv X Dn (σ.set i<|a0 v) H a->Q () a)(d:X.fn x=a9\/X.env.scope.names.lookup x=a0 .local:=by first|show .inl rfl|show .inr rfl|assumption):Ç M A (storeName X.env x u) Q E s:=
 Dz I c e g r (λa b _=>h a b) d
noncomputable abbrev XK:=Value->Option Addr->Hp->Prop
noncomputable abbrev St:=List<|Option V
noncomputable abbrev VK:=V->Hp->Prop
noncomputable abbrev TE:=St->Hp->VK->Prop
noncomputable abbrev TT:=St->Hp->(Bool->Hp->Prop)->Prop
noncomputable abbrev TA:=St->Hp->(List V->Hp->Prop)->Prop
structure χ where
 nx:St->Hp->Prop
 rt:VK
 bk:St->Hp->Prop:=λ_ _=>False
 ct:St->Hp->Prop:=λ_ _=>False
noncomputable abbrev TS:=χ->St->Hp->Prop
inductive EP (X:Cx)(Dn:jw)(σ:St)(Q:VK)(u:Value)(s':Ï):Prop
 |mk (v:V)(H':Hp)(I:Inv X Dn σ H' s')(r:Ì v u)(q:Q v H'):EP X Dn σ Q u s'
inductive TP (X:Cx)(Dn:jw)(σ:St)(Q:Bool->Hp->Prop)(b:Bool)(s':Ï):Prop
 |mk (H':Hp)(I:Inv X Dn σ H' s')(q:Q b H'):TP X Dn σ Q b s'
inductive AP (X:Cx)(Dn:jw)(σ:St)(Q:gw->Hp->Prop)(us:gq)(s':Ï):Prop
 |mk (vs:gw)(H':Hp)(I:Inv X Dn σ H' s')(r:Ä vs us)(q:Q vs H'):AP X Dn σ Q us s'
inductive vy (X:Cx)(Dn:jw)(Q:St->Hp->Prop)(s':Ï):Prop
 |mk (σ':St)(H':Hp)(I:Inv X Dn σ' H' s')(q:Q σ' H'):vy X Dn Q s'
inductive Ss (X:Cx)(Dn:jw)(Q:VK)(u:Value)(s':Ï):Prop
 |mk (v:V)(σ':St)(H':Hp)(I:Inv X Dn σ' H' s')(r:Ì v u)(q:Q v H'):Ss X Dn Q u s'
abbrev SP(X:Cx)(Dn:jw)(D:χ)(f:Flow)(a:Ï):Prop:=
 match f with
 |.next=>vy X Dn D.nx a|.brk=>vy X Dn D.bk a|.cont=>vy X Dn D.ct a|.ret u=>Ss X Dn D.rt u a
abbrev PE(X:Cx)(e:Expr)(t:TE):Prop:=
 ∀(Dn:jw)(s:Ï)(σ:St)(H:Hp)(Q:VK),Inv X Dn σ H s->t σ H Q->Ç (É X.prog X.w) X.A (eval e X.env) (EP X Dn σ Q) X.xe s
abbrev PT(X:Cx)(e:Expr)(t:TT):Prop:=
 ∀(Dn:jw)(s:Ï)(σ:St)(H:Hp)(Q:Bool->Hp->Prop),Inv X Dn σ H s->t σ H Q->Ç (É X.prog X.w) X.A (qu e X.env<|eval e X.env) (TP X Dn σ Q) X.xe s
abbrev PW(X:Cx)(e:Expr)(t:TT):Prop:=
 ∀(a:ĵ Value)(Dn:jw)(s:Ï)(σ:St)(H:Hp)(Q:Bool->Hp->Prop),Inv X Dn σ H s->t σ H Q->Ç (É X.prog X.w) X.A (qu e X.env a) (TP X Dn σ Q) X.xe s
def PW.pt(h:PW X e t):PT X e t:=h _
abbrev PA(X:Cx)(es:List Expr)(t:TA):Prop:=
 ∀(pos:è)(Dn:jw)(s:Ï)(σ:St)(H:Hp)(Q:gw->Hp->Prop),Inv X Dn σ H s->t σ H Q->Ç (É X.prog X.w) X.A (spliced<|Ŋ pos<|ă es X.env) (AP X Dn σ Q) X.xe s
abbrev PS(X:Cx)(st:Stmt)(t:TS):Prop:=
 ∀(Dn:jw)(s:Ï)(σ:St)(H:Hp)(D:χ),Inv X Dn σ H s->t D σ H->Ç (É X.prog X.w) X.A (exec st X.env) (SP X Dn D) X.xe s
abbrev Ŗ(X:Cx)(st:List Stmt)(t:TS):Prop:=
 ∀(Dn:jw)(s:Ï)(σ:St)(H:Hp)(D:χ),Inv X Dn σ H s->t D σ H->Ç (É X.prog X.w) X.A (execs st X.env) (SP X Dn D) X.xe s
def aQ{t:ĵ c}{Q b:c->Ï->Prop}(h:Ç M A t Q E s)(d:∀a s,Q a s->b a s):Ç M A t b E s:=Ķ h d λ_ _ x=>x
abbrev DB(i:Nat):TE:=λσ H Q=>∃v,σ[i]?=a0 (a0 v)/\Q v H
abbrev tC(v:V):TE:=λ_ H Q=>Q v H
def a8f(j:X.N[i]?=a0 x)(p:rH X.env.scope x)(hd:(x==("__debug__":Str))=false:=by decide)(g:(x==("__classdict__":Str))=false:=by decide):PE X (.Name x pos) (DB i):=by
 intro d s q H Q I h;obtain⟨v,e,h⟩:=h;obtain⟨m,o,k⟩:=I.loc;obtain⟨u,r,l⟩:=k i x v j e p;have fin:EP X d q Q u s:=⟨v,H,I,r,h⟩;rcases l with⟨b,n⟩|⟨b,c,hc,a⟩
 .show Nm (wpAny_loadName_local I.ok.kind b o n fin) hd
 .rcases b with b|b
  .show Nm (wpAny_loadName_cell I.ok.kind b hc a fin) hd
  .show Nm (wpAny_loadName_free I.ok.kind b hc a fin g) hd
def a8c{i j pos}:PE X (.Constant (.int i) j pos) (tC<|.int i):=λ_ _ _ H _ I h=>wpAny_Constant_int ⟨.int i,H,I.tok _,⟨_,rfl⟩,h⟩
def a8X{b j pos}:PE X (.Constant (.bool b) j pos) (tC<|.bl b):=λ_ _ _ H _ I h=>Constant_bool ⟨.bl b,H,I,rfl,h⟩
def a8U{j pos}:PE X (.Constant .none j pos) (tC .non):=λ_ _ _ H _ I h=>Constant_none ⟨.non,H,I,rfl,h⟩
def a8T{x j pos}:PE X (.Constant (.str x) j pos) (tC<|.str x):=λ_ _ _ H _ I h=>Calls.Constant_str ⟨.str x,H,I.tok _,⟨_,rfl⟩,h⟩
abbrev Gl(X:Cx)(x:Str):Prop:=X.env.kindOf x=a0 .globalImplicit
def Aa{σ:St}(I:Inv X Dn σ H s)(a:Gl X x)(b:X.mg x=a0 u)(h:Q u s)(hd:(x==("__debug__":Str))=false:=by decide):Ç (É X.prog X.w) X.A (eval (.Name x pos) X.env) Q E s:=
 SU I.ok.kind a (Calls.loadGlobal_global (by rw[I.ok.glob];show I.mod.glob.keeps I.bk) b h) hd
def f9{σ:St}(I:Inv X Dn σ H s)(c:Gl X x)(d:X.mg x=a7)(g:Ε x=a0 u)(h:Q u s)(e:x ≠ "__name__":=by decide)(hd:(x==("__debug__":Str))=false:=by decide):Ç (É X.prog X.w) X.A (eval (.Name x pos) X.env) Q E s:=by
 obtain⟨i,a,b⟩:=I.mod.blt;show SU I.ok.kind c (Calls.loadGlobal_builtin (by rw[I.ok.glob];show I.mod.glob.keeps I.bk) d (by rw[I.ok.blt];show a.keeps I.bk) ((b x e).trans g) h) hd
def a8N(a:Gl X x)(b:X.mg x=a0 u)(r:Ì v u)(hd:(x==("__debug__":Str))=false:=by decide):PE X (.Name x pos) (tC v):=
 λ_ _ _ H _ I h=>Aa I a b ⟨v,H,I,r,h⟩ hd
def a8L(a:Gl X x)(b:X.mg x=a7)(d:Ε x=a0 u)(r:Ì v u)(c:x ≠ "__name__":=by decide)(hd:(x==("__debug__":Str))=false:=by decide):PE X (.Name x pos) (tC v):=
 λ_ _ _ H _ I h=>f9 I a b d ⟨v,H,I,r,h⟩ c hd
abbrev a8K(t u:TT):TT:=λσ H Q=>t σ H λc d=>if c=a9 then u σ d Q else Q a8 d
abbrev a8H(t u:TT):TT:=λσ H Q=>t σ H λc d=>if c=a9 then Q a9 d else u σ d Q
abbrev a7u(t:TT):TT:=λσ H Q=>t σ H λc d=>Q (!c) d
def a7j(g:PT X a tA):PW X (.BoolOp .And [a] pos) tA:=by
 intro k d s i H Q I h;show isTrue_and<|aQ (g d s i H Q I h) λc j e=>?_;cases c with
 |true=>show isTrue_and_nil e|false=>show e
def a7i(g:PT X a tA):PW X (.BoolOp .Or [a] pos) tA:=by
 intro k d s i H Q I h;show isTrue_or<|aQ (g d s i H Q I h) λc j e=>?_;cases c with
 |false=>show isTrue_or_nil e|true=>show e
def a7h{È:List Expr}(k:PT X a tA)(l:PW X (.BoolOp .And (b::È) pos) tB'):PW X (.BoolOp .And (a::b::È) pos) (a8K tA tB'):=by
 intro n d s j H Q I h;show isTrue_and<|aQ (k d s j H _ I h) λc m ⟨e,g,i⟩=>?_;cases c with
 |true=>show l n d m j e Q g i|false=>show⟨e,g,i⟩
def a7a{È:List Expr}(k:PT X a tA)(l:PW X (.BoolOp .Or (b::È) pos) tB'):PW X (.BoolOp .Or (a::b::È) pos) (a8H tA tB'):=by
 intro n d s j H Q I h;show isTrue_or<|aQ (k d s j H _ I h) λc m ⟨e,g,i⟩=>?_;cases c with
 |true=>show⟨e,g,i⟩|false=>show l n d m j e Q g i
def a7Z(i:PT X a tA):PT X (.UnaryOp .Not a pos) (a7u tA):=by intro d s j H Q I h;show isTrue_not<|aQ (i d s j H (λc g=>Q (!c) g) I h) λ_ _ ⟨e,J,q⟩=>⟨e,J,q⟩
abbrev a7V(ta tb:TE):TE:=λσ H Q=>ta σ H λx d=>∃c,x=.bl c/\if c=a9 then tb σ d Q else Q (.bl a8) d
abbrev a7T(ta tb:TE):TE:=λσ H Q=>ta σ H λx d=>∃c,x=.bl c/\if c=a9 then Q (.bl a9) d else tb σ d Q
abbrev a7P(ta:TE):TE:=λσ H Q=>ta σ H λx d=>∃c,x=.bl c/\Q (.bl<|!c) d
def a7N{op}(h:PE X a t):PE X (.BoolOp op [a] pos) t:=λDn s σ H Q I hw=>BoolOp_one<|h Dn s σ H Q I hw
def b1x{È:List Expr}(k:PE X a ta)(l:PE X (.BoolOp .And (b::È) pos) tb):PE X (.BoolOp .And (a::b::È) pos) (a7V ta tb):=by
 intro d s j H Q I h;show BoolOp_and<|aQ (k d s j H _ I h) λv n ⟨x,g,i,m,e⟩=>?_;obtain⟨c,rfl,e⟩:=e;cases m;show ak ?_;cases c with
 |true=>show l d n j g Q i e|false=>show⟨.bl a8,g,i,rfl,e⟩
def b1v{È:List Expr}(k:PE X a ta)(l:PE X (.BoolOp .Or (b::È) pos) tb):PE X (.BoolOp .Or (a::b::È) pos) (a7T ta tb):=by
 intro d s j H Q I h;show BoolOp_or<|aQ (k d s j H _ I h) λv n ⟨x,g,i,m,e⟩=>?_;obtain⟨c,rfl,e⟩:=e;cases m;show ak ?_;cases c with
 |false=>show l d n j g Q i e|true=>show⟨.bl a9,g,i,rfl,e⟩
def b1l(j:PE X a ta):PE X (.UnaryOp .Not a pos) (a7P ta):=by intro d s l H Q I h;show UnaryOp_<|aQ (j d s l H _ I h) λv m ⟨x,g,i,k,e⟩=>?_;obtain⟨c,rfl,e⟩:=e;cases k;show not_of<|ak ⟨.bl<|!c,g,i,rfl,e⟩
abbrev b1c(t:TT)(ta tb:TE):TE:=λσ H Q=>t σ H λc d=>if c=a9 then ta σ d Q else tb σ d Q
def b0o(hc:PT X c tA)(m:PE X a ta)(n:PE X b tb):PE X (.IfExp c a b pos) (b1c tA ta tb):=by
 intro e s g H Q I h;show wpAny_IfExp<|aQ (hc e s g H _ I h) λd l ⟨i,j,k⟩=>?_;cases d with
 |true=>show m e l g i Q j k|false=>show n e l g i Q j k
abbrev č(K:Ö)(H:Hp)(a:Addr)(xs:gw):Prop:=
 Rd H a (.lst xs) \/
  ∃(o:Obj)(its:Array Value)(n:Nat),K.lookup a=a0 o/\o.cls=.type "list"/\o.dict=a7/\o.data=.seq its n/\its.size<=Ñ/\Ä xs its.toList
abbrev î(K:Ö)(H:Hp)(a:Addr)(xs:gw):Prop:=
 Rd H a (.tup xs) \/
  ∃(o:Obj)(its:Array Value)(n:Nat),K.lookup a=a0 o/\o.cls=.type "tuple"/\o.dict=a7/\o.data=.seq its n/\its.size<=Ñ/\Ä xs its.toList
abbrev b0n:Value->Option V
 |.none=>a0 .non|.bool b=>a0 (.bl b)|.int i _=>a0 (.int i)|.str x _=>a0 (.str x)|.bytes b _=>a0 (.byt b)|.float b _=>a0 (.flt b)|.ref a=>a0 (.ref a)|.type n=>a0 (.ty n)|_=>a7
def Ì.abs(r:Ì x u):b0n u=a0 x:=by
 cases x with
 |non=>cases r;rfl|bl _=>cases r;rfl|int _=>obtain⟨t,rfl⟩:=r;rfl|str _=>obtain⟨t,rfl⟩:=r;rfl|byt _=>obtain⟨t,rfl⟩:=r;rfl|flt _=>obtain⟨t,rfl⟩:=r;rfl|ref _=>cases r;rfl|ty _=>cases r;rfl
def Ì.inj(r:Ì x u)(q:Ì y u):x=y:=ė<|r.abs.symm.trans q.abs
def Ä.inj:∀{xs ys}{us},Ä xs us->Ä ys us->xs=ys
 |_,_,_,.nil,.nil=>rfl|_,_,_,.cons r t,.cons r' t'=>by rw[r.inj r',Ä.inj t t']
def č.of{K:Ö}(h:H a=a0 (.lst xs)):č K H a xs:=.inl<|.inl h
def î.of{K:Ö}(h:H a=a0 (.tup xs)):î K H a xs:=.inl<|.inl h
def Inv.list{σ:St}(I:Inv X Dn σ H s)(h:č X.K H a xs):∃its,Ä xs its/\PlainL s.heap a its.toArray/\xs.length<=Ñ:=by
 rcases h with h|⟨o,its,n,b,hc,hd,c,d,r⟩
 .obtain⟨z,its,n,r,e⟩:=h.ok I.hok;show⟨its,r,⟨_,n,e,rfl,rfl,rfl⟩,z⟩
 .show⟨its.toList,r,⟨o,n,I.kIn a o b,hc,hd,by simpa using c⟩,?_⟩;have e:=r.length;simp only[ao]at e;lia
def Inv.tuple{σ:St}(I:Inv X Dn σ H s)(h:î X.K H a xs):∃its,Ä xs its/\ι s.heap a its.toArray/\xs.length<=Ñ:=by
 rcases h with h|⟨o,its,n,b,hc,hd,c,d,r⟩
 .obtain⟨z,its,r,p⟩:=h.ok I.hok;show⟨its,r,p.tup,z⟩
 .show⟨its.toList,r,⟨o,I.kIn a o b,hc,n,by simpa using c⟩,?_⟩;have e:=r.length;simp only[ao]at e;lia
def Inv.tupN{σ:St}(I:Inv X Dn σ H s)(h:î X.K H a xs):∃its,Ä xs its/\ų s.heap a its.toArray:=by
 rcases h with h|⟨o,its,n,b,hc,hd,c,d,r⟩
 .obtain⟨z,its,r,p⟩:=h.ok I.hok;show⟨its,r,p⟩
 .show⟨its.toList,r,o,I.kIn a o b,hc,n,by simpa using c,hd⟩
def Inv.list_inj{σ:St}(I:Inv X Dn σ H s)(h:č X.K H a xs)(h':č X.K H a ys):xs=ys:=by
 obtain⟨c,r,⟨o,n,e,_,_,d⟩,_⟩:=I.list h;obtain⟨b,j,⟨l,k,i,_,_,g⟩,_⟩:=I.list h';rw[e]at i;cases i;rw[d]at g;injection g with d1 _;have:c=b:=by simpa using congrArg Pw d1
 subst this;show r.inj j
def Inv.tuple_inj{σ:St}(I:Inv X Dn σ H s)(h:î X.K H a xs)(h':î X.K H a ys):xs=ys:=by
 obtain⟨c,r,⟨o,e,_,n,d⟩,_⟩:=I.tuple h;obtain⟨b,j,⟨l,i,_,k,g⟩,_⟩:=I.tuple h';rw[e]at i;cases i;rw[d]at g;injection g with d1 _;have:c=b:=by simpa using congrArg Pw d1
 subst this;show r.inj j
noncomputable abbrev Cx.wish(X:Cx)(E:Value->Ï->Prop):Cx:={X with xe:=E}
noncomputable abbrev Cx.nox(X:Cx):Cx:=X.wish λ_ _=>False
def Cx.Ok.wish{X:Cx}(ok:X.Ok)E:(X.wish E).Ok:=
 ⟨ok.mod,ok.kind,ok.glob,ok.blt,ok.above,ok.inj,ok.has,ok.cab,ok.hd,ok.frames,ok.stk,ok.exf,ok.bs,ok.bsz,ok.noex,ok.exfs,ok.funs,ok.frf⟩
def Cx.Ok.unwish{X:Cx}(ok:(X.wish E).Ok):X.Ok:=
 ⟨ok.mod,ok.kind,ok.glob,ok.blt,ok.above,ok.inj,ok.has,ok.cab,ok.hd,ok.frames,ok.stk,ok.exf,ok.bs,ok.bsz,ok.noex,ok.exfs,ok.funs,ok.frf⟩
def Inv.wish{σ:St}(I:Inv X Dn σ H s)E:Inv (X.wish E) Dn σ H s:=⟨I.ok.wish E,I.os,I.bare,I.base,I.loc,I.cell,I.free,I.freeC,I.pin,I.hok,I.len⟩
def Inv.unwish{σ:St}(I:Inv (X.wish E) Dn σ H s):Inv X Dn σ H s:=⟨I.ok.unwish,I.os,I.bare,I.base,I.loc,I.cell,I.free,I.freeC,I.pin,I.hok,I.len⟩
def SP.unwish(h:SP (X.wish E) Dn D f c):SP X Dn D f c:=by
 cases f with
 |next=>obtain⟨a,b,I,q⟩:=h;show⟨a,b,I.unwish,q⟩|brk=>obtain⟨a,b,I,q⟩:=h;show⟨a,b,I.unwish,q⟩|cont=>obtain⟨a,b,I,q⟩:=h;show⟨a,b,I.unwish,q⟩|ret u=>obtain⟨v,a,b,I,r,q⟩:=h;show⟨v,a,b,I.unwish,r,q⟩
def Ŗ.nox{st:List Stmt}(h:Ŗ X.nox st t):Ŗ X st t:=λDn s σ H D I hw=>Ķ (h Dn s σ H D (I.wish _) hw) (λ_ _ q=>q.unwish) λ_ _ z=>Φ z
abbrev DC:TS:=λD σ H=>D.nx σ H
abbrev b0O(t u:TS):TS:=λD σ H=>t {D with nx:=u D} σ H
def b0J:Ŗ X [] DC:=λ_ _ σ H _ I h=>MZ ⟨σ,H,I,h⟩
def a9r{st:Stmt}{È:List Stmt}(h1:PS X st t)(g:Ŗ X È u):Ŗ X (st::È) (b0O t u):=by
 intro a s j H D I h;show Pl<|aQ (h1 a s j H {D with nx:=u D} I h) λf i q=>?_;cases f with
 |next=>obtain⟨b,c,d,q⟩:=q;show g a i b c D d q|ret v=>show q|brk=>show q|cont=>show q
def a9o{st:Stmt}(h1:PS X st t):Ŗ X [st] t:=by
 intro a s b H D I h;show Pl<|aQ (h1 a s b H D I h) λf c q=>?_;cases f with
 |next=>show MZ q|ret v=>show q|brk=>show q|cont=>show q
def a9n:PS X (.Pass pos) DC:=λ_ _ σ H _ I h=>wpAny_Pass ⟨σ,H,I,h⟩
def Inv.quiet{σ:St}(I:Inv X Dn σ H s):interactive X.env=false:=by simp[interactive,I.ok.kind]
abbrev a9m(te:TE):TS:=λD σ H=>te σ H λ_ a=>D.nx σ a
def a9k(g:PE X e te)(i:dm e a7 pos.line X.env=pure false:=by rfl):PS X (.Expr e pos) (a9m te):=by intro a s b H D I h;show wpAny_Expr_any (aQ (g a s b H _ I h) λv l ⟨x,c,d,k,j⟩=>⟨b,c,d,j⟩) I.quiet i
abbrev a9F(te:TE):TS:=λD σ H=>te σ H D.rt
def a8y(g:PE X e te):PS X (.Return (a0 e) pos) (a9F te):=by intro a s b H D I h;show wpAny_Return_some<|aQ (g a s b H _ I h) λv k ⟨x,c,d,j,i⟩=>⟨x,b,c,d,j,i⟩
abbrev a8x:TS:=λD _ H=>D.rt .non H
def a8w:PS X (.Return a7 pos) a8x:=λ_ _ σ H _ I h=>wpAny_Return_none ⟨.non,σ,H,I,rfl,h⟩
abbrev b3m(c:TT)(t u:TS):TS:=λD σ H=>c σ H λb a=>if b=a9 then t D σ a else u D σ a
def b3l(hc:PT X c n)(o:Ŗ X a t)(p:Ŗ X b u):PS X (.If c a b pos) (b3m n t u):=by
 intro g s i H D I h;show wpAny_If<|aQ (hc g s i H _ I h) λd m ⟨j,k,l⟩=>?_;cases d with
 |true=>show o g m i j D k l|false=>show p g m i j D k l
noncomputable abbrev TG:=V->St->Hp->(St->Hp->Prop)->Prop
noncomputable abbrev rJ:=List V->St->Hp->(St->Hp->Prop)->Prop
abbrev PG(X:Cx)(a:Expr)(t:TG):Prop:=
 ∀(Dn:jw)(s:Ï)(σ:St)(H:Hp)(v:V)(u:Value)(Q:St->Hp->Prop),Inv X Dn σ H s->Ì v u->t v σ H Q->
  Ç (É X.prog X.w) X.A (Iv a X.env u) (λ_ b=>vy X Dn Q b) X.xe s
abbrev tU(X:Cx)(b:List Expr)(t:rJ):Prop:=
 ∀(Dn:jw)(s:Ï)(σ:St)(H:Hp)(vs:gw)(us:gq)(Q:St->Hp->Prop),Inv X Dn σ H s->Ä vs us->t vs σ H Q->
  Ç (É X.prog X.w) X.A (assignInOrder ((Υ b X.env).map (·.2)) us) (λ_ a=>vy X Dn Q a) X.xe s
abbrev Ab(i:Nat):TG:=λv σ H Q=>Q (σ.set i<|a0 v) H
def DD(c:X.N.Nodup)(e:X.N[i]?=a0 x)(g:Loc X.env.scope x)(d:X.fn x=a9\/X.env.scope.names.lookup x=a0 .local:=by first|show .inl rfl|show .inr rfl|assumption):PG X (.Name x pos) (Ab i):=by intro b s k H v u Q I r h;show Pt<|DA I c e g r (λj a=>⟨_,H,a,h⟩) d
abbrev DE:rJ:=λvs σ H Q=>vs=[]/\Q σ H
abbrev DF(t:TG)(u:rJ):rJ:=λvs σ H Q=>∃v r,vs=v::r/\t v σ H λa b=>u r a b Q
def b2T:tU X [] DE:=by intro a s b H d c Q I r h;obtain⟨e,h⟩:=h;subst e;cases r;show assignInOrder_nil ⟨b,H,I,h⟩
def b2L(h1:PG X e t)(i:tU X es u)(j:(Υ (e::es) X.env).map (·.2)=Iv e X.env::(Υ es X.env).map (·.2):=by rfl):tU X (e::es) (DF t u):=by
 intro a s n H q o Q I r h;obtain⟨v,p,g,h⟩:=h;subst g;cases r with
 |cons r l=>rw[j];show assignInOrder_cons<|aQ (h1 a s n H _ _ _ I r h) λ_ m ⟨b,c,d,k⟩=>?_;show i a m b c _ _ Q d l k
abbrev DG(b:TE)(g:TG):TS:=λD σ H=>b σ H λx a=>g x σ a D.nx
def b2K(j:PE X e b)(k:PG X tg g)(l:swapsWithSole [tg] e pos.line X.env=pure false:=by rfl)(hw:Ny [tg] e X.env=pure none:=by rfl)(h1:(Υ [tg] X.env).map (·.2)=[Iv tg X.env]:=by rfl):PS X (.Assign [tg] e pos) (DG b g):=by
 intro a s c H D I h;show wpAny_Assign_stores (aQ (j a s c H _ I h) λv o ⟨x,d,i,n,m⟩=>?_) l hw;rw[h1];show aQ (k a o c d x v _ i n m) λ_ p q=>q
def b2G(k:X.N.Nodup)(n:X.N[i]?=a0 x)(p:Loc X.env.scope x)(l:PE X e c)(o:dm e (a0<|.Name x a) pos.line X.env=pure false:=by rfl)(m:X.fn x=a9\/X.env.scope.names.lookup x=a0 .local:=by first|show .inl rfl|show .inr rfl|assumption):
  PS X (.Assign [.Name x a] e pos) (DG c<|Ab i):=by
 intro b s u H D I h;show wpAny_Assign_Name (aQ (l b s u H _ I h) λv w ⟨y,d,g,r,q⟩=>?_) o;show DA g k n p r (λz j=>⟨_,d,j,q⟩) m
abbrev b1z(c:TT)(h:TS):TS:=λD σ H=>∃W:Nat->St->Hp->Prop,(∃m,W m σ H)/\∀m σ H,W m σ H->
 c σ H λb e=>if b=a9 then ∃N:St->Hp->Prop,(∀a d,N a d->∃g,g<m/\W g a d)/\h {D with nx:=N,ct:=N,bk:=D.nx} σ e else D.nx σ e
def b1y(z:xq (É X.prog X.w) X.A X.env X.xe)(hc:PT X c B)(G:Ŗ X body A):PS X (.While c body [] pos) (b1z B A):=by
 intro e s T H D I h;obtain⟨W,⟨K,Q⟩,turn⟩:=h;show wpAny_While<|codeAny_whileLoop (λn L=>∃i r,Inv X e i r L/\W n i r) ?_ K ⟨T,H,I,Q⟩;rintro n M ⟨d,u,E,R⟩;show pA z<|aQ (hc e M d u _ E<|turn n d u R) λb O ⟨w,x,j⟩=>?_;cases b with
 |true=>
  obtain⟨N,y,j⟩:=j;rw[if_pos rfl];show pA z<|aQ (G e O d w _ x j) λf U k=>?_;cases f with
  |next=>obtain⟨a,g,l,p⟩:=k;obtain⟨o,m,q⟩:=y a g p;show⟨o,m,a,g,l,q⟩|cont=>obtain⟨a,g,l,p⟩:=k;obtain⟨o,m,q⟩:=y a g p;show⟨o,m,a,g,l,q⟩|brk=>show k|ret v=>show k
 |false=>rw[if_neg Ī];show MZ ⟨d,w,x,j⟩
structure It where
 go:Nat->Hp->Prop
 yld:Nat->Hp->V->Hp->Prop
 stop:Nat->Hp->Prop
abbrev iU(X:Cx)(Dn:jw)(H:Hp)(b:Addr):Prop:=
 H b=a7/\b≠X.env.locals/\b∉X.fs/\(b∈X.ex\/X.s₀.heap.objs.size<=b)/\(∀x c,X.env.cells.lookup x=a0 c->c≠b)/\∀p∈X.pn++Dn,p.1≠b
def Inv.fpOk{σ:St}{b:Addr}(I:Inv X Dn σ H s)(a:s.heap.objs.size<=b)(g:d b=a7):iU X Dn d b:=by
 show⟨g,Ř<|ĩ I.lt a,I.nofs a,.inr<|Đ I.sz a,λx c e z=>?_,λp h z=>?_⟩
 .obtain⟨v,q⟩:=I.cell x c e;show absurd (ĩ q.lt<|by rw[z];show a)<|ϣ _
 .show absurd (ĩ (ß (I.pin p h).1)<|by rw[z];show a)<|ϣ _
noncomputable abbrev Qc(X:Cx):Prop:=X.calm=a9
inductive Sm (X:Cx)(Dn:jw)(σ:St)(J:It)(fp:List Addr)(tn:Nat->Č->Prop)(i:Nat)(H:Hp)(u:Value)(s2:Ï):Prop
 |mk (x:V)(H':Hp)(I:Inv X Dn σ H' s2)(r:Ì x u)(y:J.yld i H x H')(t:tn (i+1) s2.heap)(f:∀b∈fp,H' b=a7):Sm X Dn σ J fp tn i H u s2
structure Ņ(q:Cx->Prop)(P:ł)(w:Į)(K:Ö)(tg:Expr)(J:It)(fp:List Addr)(it:Addr)(tn:Nat->Č->Prop):Prop where
 mem:it∈fp
 obj:∀i h,tn i h->∀b∈fp,∃o,h.get? b=a0 o/\∀v,o.data≠.cell v
 keep:∀i h h',tn i h->(∀b∈fp,∀o,h.get? b=a0 o->h'.get? b=a0 o)->tn i h'
 item:∀(X:Cx),X.prog=P->X.w=w->X.K=K->q X->∀(i:Nat)(Dn:jw)(s:Ï)(σ:St)(H:Hp)(E:Value->Ï->Prop),Inv X Dn σ H s->(∀b∈fp,iU X Dn H b)->tn i s.heap->J.go i H->
  Ç (É P w) X.A (Ŭ<|.ref it) (λr s1=>∃u,r=a0 u /\
   Ç (É P w) X.A (MX tg (.ref it) u) (λ_ s2=>Sm X Dn σ J fp tn i H u s2) E s1) E s
 done:∀(X:Cx),X.prog=P->X.w=w->X.K=K->q X->∀(i:Nat)(Dn:jw)(s:Ï)(σ:St)(H:Hp)(E:Value->Ï->Prop),Inv X Dn σ H s->(∀b∈fp,iU X Dn H b)->tn i s.heap->J.stop i H->
  Ç (É P w) X.A (Ŭ<|.ref it) (λr s1=>r=a7/\Inv X Dn σ H s1) E s
 self:∀(A:Ł)(i:Nat)(s:Ï)(Q:Value->Ï->Prop)(E:Value->Ï->Prop),tn i s.heap->Q (.ref it) s->Ç (É P w) A (ϙ<|.ref it) Q E s
noncomputable abbrev TI:=St->Hp->(It->Hp->Prop)->Prop
inductive ϧ (q:Cx->Prop)(X:Cx)(Dn:jw)(σ:St)(tg:Expr)(R:It->Hp->Prop)(itv:Value)(s2:Ï):Prop
 |mk (it:Addr)(fp:List Addr)(tn:Nat->Č->Prop)(J:It)(H':Hp)(e:itv=.ref it)(I:Inv X Dn σ H' s2)(T:Ņ q X.prog X.w X.K tg J fp it tn)(t0:tn 0 s2.heap)(f:∀b∈fp,iU X Dn H' b)(r:R J H'):ϧ q X Dn σ tg R itv s2
noncomputable abbrev Ac:=ϧ Qc
abbrev tV(q:Cx->Prop)(X:Cx)(tg iter:Expr)(b:TI):Prop:=
 ∀(Dn:jw)(s:Ï)(σ:St)(H:Hp)(R:It->Hp->Prop),Inv X Dn σ H s->b σ H R->
  Ç (É X.prog X.w) X.A (eval iter X.env) (λv a=>Ç (É X.prog X.w) X.A (ϙ v) (ϧ q X Dn σ tg R) X.xe a) X.xe s
noncomputable abbrev PI:=tV Qc
def tW(d:s.heap.get? b=a0 o)(hc:o.cls=.type n)(hd:o.data=.fields vs)(c:["enumerate","zip","dict_itemiterator","dict_reverseitemiterator","odict_iterator","itertools.zip_longest","itertools.pairwise"].contains n=a8)(a:Q () s):Ç M A (MX tg (.ref b) u) Q E s:=by
 unfold MX
 cases tg<;>first
  | show Ð a
  | (cases u<;>first
    | show Ð a
    | (show Á<|MN d ?_
       rw [hc,hd]
       change Ç M A (if (["enumerate","zip","dict_itemiterator","dict_reverseitemiterator","odict_iterator","itertools.zip_longest","itertools.pairwise"].contains n&&vs[0]? == a0 (Ŝ _))=a9 then _ else _) Q E s
       rw [if_neg<|by intro h;rw [c,Bool.false_and] at h;cases h]
       show Ð a))
abbrev Ad (K:Ö)(a:Addr):It:=
 ⟨fun i H=>∃ b x,č K H a b/\b[i]? = a0 x,fun i H x c=>c=H/\∀ b,č K H a b->b[i]? = a0 x,fun i H=>∃ b,č K H a b/\b.length<=i⟩
abbrev Ae(K:Ö)(a:Addr):It:=
 ⟨λi H=>∃b x,î K H a b/\b[i]?=a0 x,λi H x c=>c=H/\∀b,î K H a b->b[i]?=a0 x,λi H=>∃b,î K H a b/\b.length<=i⟩
abbrev n8(lo:Int)(n:Nat):It:=⟨λi _=>i<n,λi H x a=>a=H/\x=.int (lo+i),λi _=>n<=i⟩
def b4l{K:Ö}a j:Ņ Qc P w K tg (Ad K a) [j] j (λi h=>h.IsListIter j a i) where
 mem:=by simp
 obj:=λi h st b g=>by
  have e:b=j:=by simpa using g
  subst e;obtain⟨o,e,c,d⟩:=st;show⟨o,e,λv z=>by rw[d]at z;cases z⟩
 keep:=λi h n st k=>st.at λo e=>k j (by simp) o e;item:=by intro X N hw M hc i l s U H E I q st O;subst N hw M;obtain⟨xs,x,r,Q⟩:=O;obtain⟨R,T,p,hz⟩:=I.list r;obtain⟨u,hu,ru⟩:=T.get Q;obtain⟨y,A,f2,B,G,L⟩:=q j (by simp);show OZ st p.isList (x:=u) (by simpa using hu) λn m sb=>?_;have Y:Inv X l U H {s with heap:=n}:=I.turned (t':=s.toks) (λb o g e=>(sb.2 b g).trans e) y A B G L;obtain⟨o,e,c,d⟩:=id m;show⟨u,rfl,tW (s:={s with heap:=n}) e c d (by decide) ⟨x,H,Y,ru,⟨rfl,λys hy=>by rw[I.list_inj hy r];show Q⟩,m,λb g=>(q b g).1⟩⟩
 done:=by intro X N hw M hc i l s U H E I q st O;subst N hw M;obtain⟨xs,r,Q⟩:=O;obtain⟨R,T,p,hz⟩:=I.list r;obtain⟨y,A,f2,B,G,L⟩:=q j (by simp);have hl:=T.length;show Oo (I.ok.hd hc) st p.isList (by simp;lia) λn Z=>⟨rfl,I.turned (t':=s.toks) (λb o g e=>Z b o g e) y A B G L⟩
 self:=λ_ _ _ _ _ st h=>wpAny_pyIter_listiter st h
def b3y{K:Ö}a j:Ņ Qc P w K tg (Ae K a) [j] j (λi h=>h.IsTupleIter j a i) where
 mem:=by simp
 obj:=λi h st b g=>by
  have e:b=j:=by simpa using g
  subst e;obtain⟨o,e,c,d⟩:=st;show⟨o,e,λv z=>by rw[d]at z;cases z⟩
 keep:=λi h q st k=>st.at λo e=>k j (by simp) o e;item:=by intro X O hw N hc i m s U H E I r st Q;subst O hw N;obtain⟨xs,x,y,R⟩:=Q;obtain⟨l,T,p,hz⟩:=I.tuple y;obtain⟨u,hu,ru⟩:=T.get R;obtain⟨A,B,f2,G,L,M⟩:=r j (by simp);show Qt st (show s.heap.IsTuple a l.toArray from p) (x:=u) (by simpa using hu) λq n sb=>?_;have Y:Inv X m U H {s with heap:=q}:=I.turned (t':=s.toks) (λb o g e=>(sb.2 b g).trans e) A B G L M;obtain⟨o,e,c,d⟩:=id n;show⟨u,rfl,tW (s:={s with heap:=q}) e c d (by decide) ⟨x,H,Y,ru,⟨rfl,λys hy=>by rw[I.tuple_inj hy y];show R⟩,n,λb g=>(r b g).1⟩⟩
 done:=by intro X O hw N hc i m s U H E I r st Q;subst O hw N;obtain⟨xs,y,R⟩:=Q;obtain⟨l,T,p,hz⟩:=I.tuple y;obtain⟨A,B,f2,G,L,M⟩:=r j (by simp);have hl:=T.length;show RK (I.ok.hd hc) st (show s.heap.IsTuple a l.toArray from p) (by simp;lia) λq Z=>⟨rfl,I.turned (t':=s.toks) (λb o g e=>Z b o g e) A B G L M⟩
 self:=λ_ _ _ _ _ st h=>wpAny_pyIter_tupleiter st h
def DH{K:Ö}a lo n:Ņ Qc P w K tg (n8 lo n) [a] a (λi h=>xx h a (lo+(i:Nat)*1) ((n:Int)-(i:Nat)) 1) where
 mem:=by simp
 obj:=λi h st b c=>by
  have e:b=a:=by simpa using c
  subst e;show⟨_,st,λv z=>by
   have R:Ŀ _=rT v:=z;cases R⟩
 keep:=λi h j st k=>k a (by simp) _ st;item:=by intro X y hw x hc i d s G H E I l st A;subst y hw x;obtain⟨m,p,N,q,r,u⟩:=l a (by simp);have W:=Walks.range (prog:=X.prog) (w:=X.w) (I.ok.hd hc) a lo 1 n;show W.item i s _ _ A st λv j B O g Q=>?_;obtain⟨t,rfl⟩:=O;have L:Inv X d G H {s with heap:=j,toks:=B}:=I.turned (λb o c e=>Q b o (by simpa using c) e) m p q r u;show⟨_,rfl,tW (s:={s with heap:=j,toks:=B}) (n:="range_iterator") g rfl rfl (by decide) ⟨.int<|lo+i,H,L,⟨t,?_⟩,⟨rfl,rfl⟩,g,λb c=>(l b c).1⟩⟩;rw[Int.mul_one]
 done:=by intro X y hw x hc i d s G H E I l st A;subst y hw x;obtain⟨m,p,N,q,r,u⟩:=l a (by simp);show wpAny_pyNext_range_end (I.ok.hd hc) st (by have:n<=i:=A;lia) λj M=>⟨rfl,I.turned (t':=s.toks) (λb o c e=>M b o c e) m p q r u⟩
 self:=λ_ _ _ _ _ st h=>wpAny_pyIter_rangeiter st h
section
variable{X:Cx}{tg:Expr}
def DI(tr:∀d lo n,Ņ q X.prog X.w X.K tg (n8 lo n) [d] d λi h=>xx h d (lo+(i:Nat)*1) ((n:Int)-(i:Nat)) 1){σ:St}{lo:Int}(I:Inv X Dn σ H s)(h1:-(2^62)<=lo)(k:lo<2^62)(l:-(2^62)<=a)(m:a<2^62)(p:R (n8 lo (a-lo).toNat) H):Ç (É X.prog X.w) X.A (ϙ<|.ref s.heap.objs.size) (ϧ q X Dn σ tg R) E {s with heap:=s.heap.push {cls:=.type "range",data:=.fields #[.int lo t,.int a u,.int 1 v]},toks:=tk}:=by
 show wpAny_pyIter_range (IsRange.new ..) (small_one h1 k l m) ?_;have c:Inv X Dn σ H {s with heap:=s.heap.push {cls:=.type "range",data:=.fields #[.int lo t,.int a u,.int 1 v]},toks:=tk}:=I.kept λb o e=>æ _ e;show⟨(s.heap.push {cls:=.type "range",data:=.fields #[.int lo t,.int a u,.int 1 v]}).objs.size,[(s.heap.push {cls:=.type "range",data:=.fields #[.int lo t,.int a u,.int 1 v]}).objs.size],_,_,H,rfl,
  c.kept (t':=tk) λb o e=>æ _ e,tr _ lo (a-lo).toNat,?_,λb r=>?_,p⟩
 .have g:lo+((0:Nat):Int)*1=lo:=by simp
  have j:(((a-lo).toNat:Nat):Int)-((0:Nat):Int)=b3J lo a 1:=by rw[rangeSize_one];split<;>lia
  change xx _ _ (lo+((0:Nat):Int)*1) ((((a-lo).toNat:Nat):Int)-((0:Nat):Int)) 1;rw[g,j];show ē _ rfl
 .have e:b=(s.heap.push {cls:=.type "range",data:=.fields #[.int lo t,.int a u,.int 1 v]}).objs.size:=by simpa using r
  subst e;show c.fpOk (Õ _)<|c.hok.fresh<|Õ _
abbrev b3w(b:TA):TI:=λσ H R=>b σ H λvs a=>∃j:Int,vs=[.int j]/\-(2^62)<=j/\j<2^62/\R (n8 0 j.toNat) a
abbrev b3u(b:TA):TI:=λσ H R=>b σ H λvs a=>∃i j:Int,vs=[.int i,.int j]/\(-(2^62)<=i/\i<2^62/\-(2^62)<=j/\j<2^62)/\R (n8 i (j-i).toNat) a
def b3f(tr:∀c lo n,Ņ q X.prog X.w X.K tg (n8 lo n) [c] c λi h=>xx h c (lo+(i:Nat)*1) ((n:Int)-(i:Nat)) 1)(m:Gl X "range")(o:X.mg "range"=a7)(l:PA X [a] g)(u:ă [a] X.env=[(a8,eval a X.env)]:=by rfl):tV q X tg (.Call (.Name "range" p) [a] [] pos) (b3w g):=by
 intro b s z H R I h;show Call_<|f9 I m o boot_range<|bj (aQ (l pos b s z H _ I h) λE B ⟨G,A,k,x,d⟩=>?_) u rfl;obtain⟨j,e,d,v,w⟩:=d;subst e;cases x with
 |cons r y=>cases y;obtain⟨t,rfl⟩:=r;show call_range_1<|DI tr k ⋯ ⋯ d v<|by simpa using w
def b3e(o:Gl X "range")(u:X.mg "range"=a7)(n:PA X [a,b] l)(v:ă [a,b] X.env=[(a8,eval a X.env),(a8,eval b X.env)]:=by rfl)(c:ă [b] X.env=[(a8,eval b X.env)]:=by rfl):
  PI X tg (.Call (.Name "range" p) [a,b] [] pos) (b3u l):=by
 intro d s B H R I h;show Call_ (f9 I o u boot_range<|bj (aQ (n pos d s B H _ I h) λL G ⟨M,E,m,A,g⟩=>?_) (by rw[v,c])<|by rw[c];rfl);obtain⟨i,j,e,⟨g,w,x,y⟩,q⟩:=g;subst e;cases A with
 |cons r k=>
  cases k with
  |cons z k=>cases k;obtain⟨t,rfl⟩:=r;obtain⟨K,rfl⟩:=z;show call_range_2<|DI DH m g w x y q
abbrev b3d(k:TI)(g:TG)(j:TS):TS:=λD σ H=>k σ H λJ e=>∃W:Nat->Nat->St->Hp->Prop,(∃m,W 0 m σ e)/\∀i m σ H,W i m σ H->
 (J.stop i H/\D.nx σ H)\/(J.go i H/\∃N:St->Hp->Prop,(∀b a,N b a->∃d,d<m/\W (i+1) d b a)/\∀x a,J.yld i H x a->g x σ a λc h=>j {D with nx:=N,ct:=N,bk:=D.nx} c h)
abbrev tX(a:List Addr)(h:Č):jw:=a.filterMap λb=>(h.get? b).map λo=>(b,o)
def wH(c:b∈a)(e:h.get? b=a0 o):(b,o)∈tX a h:=RO.mpr ⟨b,c,by rw[e];rfl⟩
def b3c(g:p∈tX a h):p.1∈a/\h.get? p.1=a0 p.2:=by
 obtain⟨b,d,e⟩:=RO.mp g;cases q:h.get? b with
 |none=>rw[q]at e;cases e|some o=>rw[q]at e;have c:(b,o)=p:=ė e;subst c;show⟨d,q⟩
def Inv.pinned{σ:St}(I:Inv X Dn σ H s)(k:∀b∈a,iU X Dn H b)(l:∀b∈a,∃o,s.heap.get? b=a0 o/\∀v,o.data≠.cell v):Inv X (Dn++tX a s.heap) σ H s:=
 I.pins_of λp m=>(Ą.mp m).elim (λz=>I.pin p<|Ω _ z) λz=>by obtain⟨g,e⟩:=b3c z;obtain⟨h,i,j,_⟩:=k p.1 g;obtain⟨o,c,d⟩:=l p.1 g;rw[e]at c;cases c;show⟨e,h,i,j,d⟩
def Inv.unpinned{σ:St}(I:Inv X (Dn++b) σ H s):Inv X Dn σ H s:=I.pins_of λp a=>I.pin p<|Ω _<|Ū _ a
inductive PM (X:Cx)(Dn:jw)(tn:Nat->Č->Prop)(fp:List Addr)(W:Nat->Nat->St->Hp->Prop)(n:Nat)(s':Ï):Prop
 |mk (i:Nat)(σ':St)(H':Hp)(I:Inv X Dn σ' H' s')(t:tn i s'.heap)(f:∀b∈fp,H' b=a7)(w:W i n σ' H'):PM X Dn tn fp W n s'
def b3a(E:xq (É X.prog X.w) X.A X.env X.xe)(hc:X.calm=a9)(hi:PI X tg iter wi)(hg:PG X tg g)(p:Ŗ X body tb)(hs:∀x,vD iter X.env x=pure x:=by intro _;rfl):PS X (.For tg iter body [] pos) (b3d wi g tb):=by
 intro c s σ H D I h;show wpAny_For (aQ (hi c s σ H _ I h) λv s1 h1=>aQ h1 λitv s2 h2=>?_) hs;obtain⟨it,A,tn,J,H2,e,I2,T,U,f2,W,⟨m0,w0⟩,turn⟩:=h2;subst e
  -- what stays a9 of the iterator's objects through the loop
 have q:∀{Z:Hp},(∀b∈A,Z b=a7)->∀b∈A,iU X c Z b:=λhn b p=>⟨hn b p,(f2 b p).2⟩;show codeAny_forLoop_any (PM X c tn A W) ?_ m0 ⟨0,σ,H2,I2,U,λb p=>(f2 b p).1,w0⟩;rintro n s3 ⟨i,w,M,I3,K,B,w3⟩;rcases turn i n w M w3 with⟨L,qn⟩|⟨go,N,hN,step⟩
 .show pA E<|aQ (T.done X rfl rfl rfl hc i c s3 w M X.xe I3 (q B) K L) λr s4 ⟨R,I4⟩=>?_;subst R;show MZ ⟨w,M,I4,qn⟩
 .show pA E<|aQ (T.item X rfl rfl rfl hc i c s3 w M X.xe I3 (q B) K go) λr s4 ⟨u,R,h4⟩=>?_;subst R;show pA E<|aQ h4 λ_ s5 ⟨x,H5,I5,r5,y5,z,Q⟩=>?_;have O:=I5.pinned (q Q)<|T.obj _ _ z;show pA E<|aQ (hg _ s5 w H5 x u _ O r5<|step x H5 y5) λ_ s6 ⟨Y,H6,I6,q6⟩=>?_;show pA E<|aQ (p _ s6 Y H6 _ I6 q6) λf s7 y=>?_;have l:∀{a:St}{j:Hp},Inv X (c++tX A s5.heap) a j s7->N a j->∃m,m<n/\PM X c tn A W m s7:=λ{a j} k G=>by obtain⟨m',hm,w7⟩:=hN a j G;show⟨m',hm,i+1,a,j,k.unpinned,T.keep _ _ _ z λb p o e=>(k.pin (b,o)<|Ω _<|Ω _<|wH p e).1,λb p=>?_,w7⟩;obtain⟨o,e,d⟩:=T.obj _ _ z b p;show(k.pin (b,o)<|Ω _<|Ω _<|wH p e).2.1
  cases f with
  |next=>obtain⟨a,j,k,G⟩:=y;show l k G|cont=>obtain⟨a,j,k,G⟩:=y;show l k G|brk=>obtain⟨a,j,k,y⟩:=y;show⟨a,j,k.unpinned,y⟩|ret v=>obtain⟨x7,a,j,k,r7,y⟩:=y;show⟨x7,a,j,k.unpinned,r7,y⟩
end
noncomputable abbrev R2:=V->V->Hp->VK->Prop
abbrev Ĕ(X:Cx)(f:Value->Value->ĵ Value)(r:R2):Prop:=
 ∀(Dn:jw)(s:Ï)(σ:St)(H:Hp)(x y:V)(v u:Value)(Q:VK),Inv X Dn σ H s->Ì x v->Ì y u->r x y H Q->
  Ç (É X.prog X.w) X.A (f v u) (EP X Dn σ Q) X.xe s
abbrev Af(X:Cx)(f:Value->ĵ Value)(r:V->Hp->VK->Prop):Prop:=
 ∀(Dn:jw)(s:Ï)(σ:St)(H:Hp)(x:V)(v:Value)(Q:VK),Inv X Dn σ H s->Ì x v->r x H Q->
  Ç (É X.prog X.w) X.A (f v) (EP X Dn σ Q) X.xe s
abbrev ì(X:Cx)(f:Value)(r:gw->Hp->VK->Prop):Prop:=
 ∀(Dn:jw)(s:Ï)(σ:St)(H:Hp)(xs:gw)(us:gq)(Q:VK),Inv X Dn σ H s->Ä xs us->r xs H Q->
  Ç (É X.prog X.w) X.A (call f us) (EP X Dn σ Q) X.xe s
abbrev b2k(X:Cx)(r:V->Hp->(Bool->Hp->Prop)->Prop):Prop:=
 ∀(Dn:jw)(s:Ï)(σ:St)(H:Hp)(x:V)(v:Value)(Q:Bool->Hp->Prop),Inv X Dn σ H s->Ì x v->r x H Q->
  Ç (É X.prog X.w) X.A (truthy v) (TP X Dn σ Q) X.xe s
abbrev tY(r:R2)(c d:TE):TE:=λσ H Q=>c σ H λx a=>d σ a λy b=>r x y b Q
abbrev b2Y(r:V->Hp->VK->Prop)(b:TE):TE:=λσ H Q=>b σ H λx a=>r x a Q
abbrev rI(C:Int->Int->Prop)(g:Int->Int->V):R2:=λx y H Q=>∃i j,x=.int i/\y=.int j/\C i j/\Q (g i j) H
abbrev jI(g:Int->Int->V):R2:=λx y H Q=>∃i j,x=.int i/\y=.int j/\Q (g i j) H
abbrev rU(g:Int->V):V->Hp->VK->Prop:=λx H Q=>∃i,x=.int i/\Q (g i) H
def Ag(m:PE X a ta)(n:PE X b tb){σ:St}{R:V->V->Hp->Prop}(I:Inv X Dn σ H s)(h:ta σ H λx j=>tb σ j λy d=>R x y d){f:Value->Value->ĵ Value}(o:∀v u i x y d,Inv X Dn σ d i->Ì x v->Ì y u->R x y d->Ç (É X.prog X.w) X.A (f v u) Q X.xe i):
  Ç (É X.prog X.w) X.A (eval a X.env) (λv e=>Ç (É X.prog X.w) X.A (eval b X.env) (λu g=>Ç (É X.prog X.w) X.A (f v u) Q X.xe g) X.xe e) X.xe s:=by
 show aQ (m Dn s σ H _ I h) λv z ⟨x,j,k,r,p⟩=>?_;show aQ (n Dn z σ j _ k p) λu i ⟨y,d,l,w,q⟩=>?_;show o v u i x y d l r w q
def b2X(k:Ĕ X (Τ op) r)(i:PE X a ta)(j:PE X b tb):PE X (.BinOp a op b pos) (tY r ta tb):=by intro d s o H Q I h;show wpAny_BinOp<|Ag i j I h λv u n x y e g l m q=>k d n o e x y v u Q g l m q
def b2J(k:Af X (unaryOp op) r)(j:PE X a ta):PE X (.UnaryOp op a pos) (b2Y r ta):=by intro d s e H Q I h;show UnaryOp_<|aQ (j d s e H _ I h) λv n ⟨x,g,i,m,l⟩=>k d n e g x v Q i m l
def Ah{g:Int->Int->Int}(d:∀i j t u s Q E,C i j->Q (.int (g i j) s.toks) {s with toks:=s.toks+1}->Ç (É X.prog X.w) X.A (f (.int i t)<|.int j u) Q E s):
  Ĕ X f (rI C λi j=>.int<|g i j):=by
 intro e s n H x y v u Q I k l h;obtain⟨i,j,rfl,rfl,hc,q⟩:=h;obtain⟨t,rfl⟩:=k;obtain⟨m,rfl⟩:=l;show d i j t m s _ _ hc ⟨.int<|g i j,H,I.tok _,⟨_,rfl⟩,q⟩
def DJ{g:Int->Int->Int}(d:∀i j t u s Q E,Q (.int (g i j) s.toks) {s with toks:=s.toks+1}->Ç (É X.prog X.w) X.A (f (.int i t)<|.int j u) Q E s):
  Ĕ X f (jI λi j=>.int<|g i j):=by
 intro e s n H x y v u Q I k l h;obtain⟨i,j,rfl,rfl,q⟩:=h;obtain⟨t,rfl⟩:=k;obtain⟨m,rfl⟩:=l;show d i j t m s _ _ ⟨.int<|g i j,H,I.tok _,⟨_,rfl⟩,q⟩
def wI{g:Int->Int->Bool}(d:∀i j t u s Q E,Q (.bool<|g i j) s->Ç (É X.prog X.w) X.A (f (.int i t)<|.int j u) Q E s):
  Ĕ X f (jI λi j=>.bl<|g i j):=by
 intro e s n H x y v u Q I k l h;obtain⟨i,j,rfl,rfl,q⟩:=h;obtain⟨t,rfl⟩:=k;obtain⟨m,rfl⟩:=l;show d i j t m s _ _ ⟨.bl<|g i j,H,I,rfl,q⟩
abbrev qm(i j:Int):Prop:=(-(2^64)<i/\i<2^64)\/(-(2^64)<j/\j<2^64)
def qm.ok(h:qm i j):M4 i j:=by
 rcases h with⟨d,e⟩|⟨d,e⟩
 .show .of_left<|intBits_le_64 d e
 .show .of_right<|intBits_le_64 d e
def jh:Ĕ X (Τ .Add) (jI λi j=>.int<|i+j):=DJ λ_ _ _ _ _ _ _ q=>add_int q
def b2I:Ĕ X (Τ .Sub) (jI λi j=>.int<|i-j):=DJ λ_ _ _ _ _ _ _ q=>sub_int q
def b2F:Ĕ X (Τ .Mod) (rI (λ_ j=>0<j) λi j=>.int<|i%j):=Ah λi j _ _ _ _ _ hc q=>by have d:(0:Int)<j:=hc;show mod_int' ⋯<|by rw[Int.fmod_eq_emod_of_nonneg i<|by lia];show q
def rK{g:Int->Int}(d:∀i t s Q E,Q (.int (g i) s.toks) {s with toks:=s.toks+1}->Ç (É X.prog X.w) X.A (f<|.int i t) Q E s):
  Af X f (rU λi=>.int<|g i):=by
 intro e s k H x v Q I j h;obtain⟨i,rfl,q⟩:=h;obtain⟨t,rfl⟩:=j;show d i t s _ _ ⟨.int<|g i,H,I.tok _,⟨_,rfl⟩,q⟩
def b2E:Af X (unaryOp .USub) (rU λi=>.int<|-i):=rK λ_ _ _ _ _ q=>neg_int q
def pO{σ:St}(I:Inv X Dn σ H s)(q:Q (.bl k) H)(e:k=k'):EP X Dn σ Q (.bool k') s:=by subst e;show⟨.bl k,H,I,rfl,q⟩
def Ai:Ĕ X (ĺ .Lt) (jI λi j=>.bl<|decide<|i<j):=wI λ_ _ _ _ _ _ _ q=>lt_int q
def Aj:Ĕ X (ĺ .LtE) (jI λi j=>.bl<|decide<|i<=j):=wI λ_ _ _ _ _ _ _ q=>le_int q
def Ak:Ĕ X (ĺ .Gt) (jI λi j=>.bl<|decide<|j<i):=wI λ_ _ _ _ _ _ _ q=>gt_int q
def Al:Ĕ X (ĺ .GtE) (jI λi j=>.bl<|decide<|j<=i):=wI λ_ _ _ _ _ _ _ q=>ge_int q
def DK:Ĕ X (ĺ .In) (λx y H Q=>∃i j,x=.str i/\y=.str j/\Q (.bl<|!(iz j i 0 j.length 1).isEmpty) H):=by intro d s l H x y v u Q I e g h;obtain⟨i,j,rfl,rfl,q⟩:=h;obtain⟨t,rfl⟩:=e;obtain⟨k,rfl⟩:=g;show in_str<|pO I q rfl
def DL:Ĕ X (ĺ .Is) (λx y H Q=>y=.non/\Q (.bl<|decide<|x=.non) H):=by
 intro e s i H x y v u Q I d g h;obtain⟨rfl,q⟩:=h;cases g;show is_none_gen<|pO I q ?_;cases x<;>first
  |(cases d;rfl)|(obtain⟨t,rfl⟩:=d;rfl)
def DM:Ĕ X (ĺ .IsNot) (λx y H Q=>y=.non/\Q (.bl<|!decide (x=.non)) H):=by
 intro e s i H x y v u Q I d g h;obtain⟨rfl,q⟩:=h;cases g;show isnot_none_gen<|pO I q ?_;cases x<;>first
  |(cases d;rfl)|(obtain⟨t,rfl⟩:=d;rfl)
def Ĕ.or(h:Ĕ X f r)(h':Ĕ X f e):Ĕ X f (λx y H Q=>r x y H Q\/e x y H Q):=by
 intro d s j H x y v u Q I g i q;rcases q with q|q
 .show h d s j H x y v u Q I g i q
 .show h' d s j H x y v u Q I g i q
def eB b(h:op≠.In:=by decide)(g:op≠.NotIn:=by decide):fu op b=false:=by
 have d:(op==CmpOp.In)=false:=by cases op<;>first|rfl|show absurd rfl h
 have e:(op==CmpOp.NotIn)=false:=by cases op<;>first|rfl|show absurd rfl g
 cases b<;>simp[fu,d,e]
def b2D(l:Ĕ X (ĺ op) r)(i:PE X a ta)(j:PE X b tb)(k:fu op b=a8):PE X (.Compare a [op] [b] pos) (tY r ta tb):=by intro d s p H Q I h;show wpAny_Compare1 (Ag i j I h λv u o x y e g m n q=>l d o p e x y v u Q g m n q) k
abbrev DN(t:TE):TT:=λσ H Q=>t σ H λx d=>∃k,x=.bl k/\Q k d
def b2B(A:Ĕ X (ĺ op) r)(p:PE X a ta)(q:PE X b tb)(w:fu op b=a8):PT X (.Compare a [op] [b] pos) (DN<|tY r ta tb):=by
 intro d s g H Q I h;show wpAny_isTrue_Compare1 (aQ (p d s g H _ I h) λv N ⟨x,i,m,K,B⟩=>aQ (q d N g i _ m B) λu O ⟨y,j,n,L,E⟩=>
  aQ (A d O g j x y v u _ n K L E) λc R ⟨z,l,o,M,k,e,G⟩=>?_) w
 subst e;cases M;show ak ⟨l,o,G⟩
abbrev Am(r i:R2)(ta tb tc:TE):TE:=λσ H Q=>ta σ H λx e=>tb σ e λy g=>r x y g λz d=>∃k,z=.bl k /\
 (if k=a9 then tc σ d λj h=>i y j h Q else Q (.bl a8) d)
def b1r(O:Ĕ X (ĺ op) r)(l:Ĕ X (ĺ i) p)(L:PE X a ta)(M:PE X b tb)(hc:PE X c tc)(N:Nd [op,i] [b,c]=false:=by with_unfolding_all rfl):PE X (.Compare a [op,i] [b,c] pos) (Am r p ta tb tc):=by
 intro g s j H Q I h;show Compare_chain (aQ (L g s j H _ I h) λv s1 ⟨x,w,E,Y,R⟩=>chain_link<|aQ (M g s1 j w _ E R) λu s2 ⟨y,A,G,q,T⟩=>
  aQ (O g s2 j A x y v u _ G Y q T) λd s3 ⟨z,m,n,Z,k,e,o⟩=>?_) N
 subst e;cases Z;show ak ?_;cases k with
 |false=>show ite_ff ⟨.bl a8,m,n,rfl,o⟩|true=>show ite_tt<|chain_last<|aQ (hc g s3 j m _ n o) λw' s4 ⟨z',B,K,r4,U⟩=>l g s4 j B y z' u w' Q K q r4 U
def b1p(Y:Ĕ X (ĺ op) r)(l:Ĕ X (ĺ i) p)(R:PE X a ta)(T:PE X b tb)(hc:PE X c tc)(U:Nd [op,i] [b,c]=false:=by with_unfolding_all rfl):PT X (.Compare a [op,i] [b,c] pos) (DN<|Am r p ta tb tc):=by
 intro g s j H Q I h;show isTrue_chain (aQ (R g s j H _ I h) λv s1 ⟨x,w,G,r1,q1⟩=>test_link<|aQ (T g s1 j w _ G q1) λu s2 ⟨y,A,K,q,q2⟩=>
  aQ (Y g s2 j A x y v u _ K r1 q q2) λd s3 ⟨z,m,n,r3,k,e,o⟩=>?_) U
 subst e;cases r3;show ak ?_;cases k with
 |false=>obtain⟨k',N,Z⟩:=o;cases N;show ite_ff ⟨m,n,Z⟩|true=>show ite_tt<|test_last<|aQ (hc g s3 j m _ n o) λw' s4 ⟨z',B,L,r4,q4⟩=>aQ (l g s4 j B y z' u w' _ L q r4 q4) λd' s5 ⟨z2,E,M,r5,k2,O,q5⟩=>?_;subst O;cases r5;show ak ⟨E,M,q5⟩
abbrev An(K:Ö)(x:V)(H:Hp)(k:Bool):Prop:=
 match x with
 |.non=>k=a8|.bl b=>k=b|.int i=>k=(i != 0)|.str y=>y.length<=Ñ/\k=((y.length:Int) != 0)|.byt y=>y.size<=Ñ/\k=((y.size:Int) != 0)|.ref p=>(∃e,č K H p e/\k=!e.isEmpty)\/(∃e,î K H p e/\k=!e.isEmpty)\/∃d,H p=a0 (.dK d)/\k=!d.isEmpty|_=>False
def b1o{kvs:List (κ×V)}{vs:List (κ×Value)}(r:KV kvs vs):(!vs.isEmpty)=!kvs.isEmpty:=by cases r<;>rfl
def DO(r:Ä xs its):(!its.toArray.isEmpty)=!xs.isEmpty:=by cases r<;>simp
def pP:(Ñ:Nat)<2^63:=by rw[Ā];decide
def b1m:b2k X (λx H Q=>∃k,An X.K x H k/\Q k H):=by
 intro B s M H x v Q I n h;obtain⟨k,e,q⟩:=h;have K:=pP;have L:Ñ=16777216:=Ā;cases x with
 |non=>cases n;have d:k=false:=e;subst d;show truthy_none ⟨H,I,q⟩|bl b=>cases n;have d:k=b:=e;subst d;show ak ⟨H,I,q⟩|int i=>obtain⟨t,rfl⟩:=n;have d:k=(i != 0):=e;subst d;show PySem.P.truthy_int ⟨H,I,q⟩|str y=>obtain⟨t,rfl⟩:=n;obtain⟨G,d⟩:y.length<=Ñ/\k=((y.length:Int) != 0):=e;subst d;show PySem.P.truthy_str ⋯ ⟨H,I.tok _,q⟩|byt y=>obtain⟨t,rfl⟩:=n;obtain⟨G,d⟩:y.size<=Ñ/\k=((y.size:Int) != 0):=e;subst d;show PySem.W.truthy_bytes ⋯ ⟨H,I.tok _,q⟩|ref p=>
  cases n;have d:(∃l,č X.K H p l/\k=!l.isEmpty)\/(∃l,î X.K H p l/\k=!l.isEmpty)\/∃g,H p=a0 (.dK g)/\k=!g.isEmpty:=e;rcases d with⟨l,o,d⟩|⟨l,o,d⟩|⟨g,o,d⟩
  .subst d;obtain⟨w,r,z,A⟩:=I.list o;have j:=r.length;show wpAny_truthy_list z.isList (by simp only[ñ];lia) ⟨H,I.tok _,by rw[DO r];show q⟩
  .subst d;obtain⟨w,r,z,A⟩:=I.tuple o;have j:=r.length;show truthy_tuple z (by simp only[ñ];lia) ⟨H,I.tok _,by rw[DO r];show q⟩
  .subst d;obtain⟨A,E,u,r,m⟩:g.length<=Ñ/\(p==ř)=a8/\∃u,KV g u/\s.heap.DictOf (tS X.prog X.w) p u:=I.hok p _ o;have j:g.length=u.length:=Mc r;show wpAny_truthy_dict E m ⋯ ⟨H,I.tok _,by rw[b1o r];show q⟩
 |_=>show(show False from e).elim
def a6x(m:PE X a ta)(n:∀d,qu a X.env d=(do let v <- d;standAt a.pos;holding [v] (truthy v))):
  PT X a (λg H Q=>ta g H λx i=>∃k,An X.K x i k/\Q k i):=by
 intro e s g H Q I h;show isTrue_plain (aQ (m e s g H _ I h) λv q ⟨x,j,l,p,o⟩=>b1m e q g j x v Q l p o)<|n _
def Β:Ĕ X (Τ .Add) (λx y H Q=>∃i j,x=.str i/\y=.str j/\i.length+j.length<=Ñ/\Q (.str<|i++j) H):=by intro d s n H x y v u Q I g k h;obtain⟨i,j,rfl,rfl,e,q⟩:=h;obtain⟨t,rfl⟩:=g;obtain⟨l,rfl⟩:=k;show add_str (λl m=>⟨.str<|i++j,H,I.tok _,⟨_,rfl⟩,q⟩) e
def iV(r:Ä [x] us):∃u,us=[u]/\Ì x u:=by
 cases r with
 |cons d e=>cases e;show⟨_,rfl,d⟩
def a6q(r:Ä [x,y] us):∃u d,us=[u,d]/\Ì x u/\Ì y d:=by
 cases r with
 |cons e g=>
  cases g with
  |cons h i=>cases i;show⟨_,_,rfl,e,h⟩
structure ObjM(h:Č)(x dx C:Addr)(mA:Str->Option Value):Prop where
 obj:h.get? x=a0 (RU C dx)
 ns:h.Ns1 dx mA
 ne:dx≠x
def Ŵ.some_of(r:Ŵ (a0 v) o):∃u,o=a0 u/\Ì v u:=by
 cases o with
 |none=>show(show False from r).elim|some u=>show⟨u,rfl,r⟩
structure Cls(K:Ö)(C:Addr):Prop where
 pg:PySem.W.plainGet K C Str.empty=a9
 hd:PySem.W.hasDictIn K C=a9
 po:PySem.W.plainOver K C=a9
 sa:yp K (.ref C) "__setattr__"=a0 (a0<|.builtin "object.__setattr__")
structure Con(K:Ö)(C:Addr)(f:Str)(v:V)(u:Value):Prop where
 at_:yp K (.ref C) f=a0 (a0 u)
 rel:Ì v u
 get:Rk K u "__get__"=a0 a7
 cp:PySem.W.copiedNames.contains f=a8
structure Meth(K:Ö)(C:Addr)(m:Str)(f:Addr):Prop where
 at_:yp K (.ref C) m=a0 (a0<|.ref f)
 fn:Qo K (.ref f)=a9
 kp:Ϟ K (.ref f)=a9
section
variable{X:Cx}{Dn:jw}{σ:St}{H:Hp}{s:Ï}{A:Ł}{E:Value->Ï->Prop}{Q:Value->Ï->Prop}{c:Value}{b:Bool}
inductive ŕ (K:Ö)(H:Hp):V->Value->Prop where
 |non:ŕ K H .non<|.type "NoneType"
 |bl (x:Bool):ŕ K H (.bl x)<|.type "bool"
 |int (i:Int):ŕ K H (.int i)<|.type "int"
 |str (x:Str):ŕ K H (.str x)<|.type "str"
 |flt (x:UInt64):ŕ K H (.flt x)<|.type "float"
 |lst {a:Addr}{xs:gw}(e:H a=a0 (.lst xs)):ŕ K H (.ref a)<|.type "list"
 |frz {a:Addr}{o:Obj}{xs:gw}(e:H a=a0 (.frz o<|.lst xs)):ŕ K H (.ref a)<|.type "list"
 |tup {a:Addr}{xs:gw}(e:H a=a0 (.tup xs)):ŕ K H (.ref a)<|.type "tuple"
 |dK {a:Addr}{kvs:List (cN×V)}(e:H a=a0 (.dK kvs)):ŕ K H (.ref a)<|.type "dict"
 |dT {a:Addr}{kvs:List (List cN×V)}(e:H a=a0 (.dT kvs)):ŕ K H (.ref a)<|.type "dict"
 |ins {a C dx:Addr}{fs:List (Str×V)}(e:H a=a0 (.ins C dx fs))(cl:Cls K C)(ha:yp K (.ref C) "__class__"=a0 (a0<|.builtin "object.__class__"))
   (hn:Rk K (.builtin "object.__class__") "__get__"=a0 (a0<|.builtin "getset_descriptor.__get__")) (htk:PySem.W.takesIn K (.builtin "object.__class__")=a0 a9)
   (hm:PySem.W.mroIn K C (.type "object")=a0 a9):ŕ K H (.ref a)<|.ref C
end
structure ç(k:Nat)(A:Ł):Prop where
 hd:A.handled=a7
 dp:A.depth+3*k+5<Pb
 un:A.units+16*k+200<Ĉ
def ç.deeper(r:ç (k+1) A)env:ç k (A.deeper env):=
 ⟨r.hd,by have:=r.dp;change A.depth+1+3*k+5<_;lia,by have:=r.un;change A.units+3+16*k+200<_;lia⟩
def ç.depth(r:ç k A):A.depth<Pb:=by have:=r.dp;lia
def ç.units(r:ç k A):A.units+64<Ĉ:=by have:=r.un;lia
abbrev Ao:TA:=λ_ H Q=>Q [] H
abbrev DP(c:TE)(tr:TA):TA:=λσ H Q=>c σ H λx a=>tr σ a λxs b=>Q (x::xs) b
def DQ:PA X [] Ao:=λ_ _ _ _ H Q I h=>ie ⟨[],H,I,.nil,h⟩
def DR(j:PE X e te)(k:PA X es t)(l:ă (e::es) X.env=(a8,eval e X.env)::ă es X.env:=by rfl):PA X (e::es) (DP te t):=by intro pos a s b H Q I h;rw[l];change Ç _ _ (spliced<|(a8,eval e X.env)::Ŋ pos (ă es X.env)) _ _ s;show ig<|aQ (j a s b H _ I h) λu q ⟨x,c,g,o,m⟩=>?_;show aQ (k pos a q b c _ g m) λw v ⟨r,d,i,p,n⟩=>⟨x::r,d,i,.cons o p,n⟩
abbrev a6j(t:TA):TE:=λσ H Q=>t σ H λxs a=>xs.length<=Ñ/\∀p,a p=a7->Q (.ref p) (aK a p<|.tup xs)
abbrev a6i(t:TA):TE:=λσ H Q=>t σ H λxs a=>xs.length<=Ñ/\∀p,a p=a7->Q (.ref p) (aK a p<|.lst xs)
def a6f{x1}(h:PA X es t):PE X (.Tuple es x1 pos) (a6j t):=by intro c s m H Q I j;show wpAny_Tuple_spliced (aQ (h pos c s m H _ I j) λk a ⟨l,d,g,r,z,q⟩=>⟨by rw[<- r.length];show z,?_⟩);have i:d a.heap.objs.size=none:=g.hok.fresh<|Õ _;show⟨.ref a.heap.objs.size,aK d a.heap.objs.size<|.tup l,g.laid (t':=a.toks) (λb u e=>æ _ e) (Õ _) ?_,rfl,q _ i⟩;show⟨z,k,r,⟨_,ē _ rfl,rfl,_,rfl,rfl⟩⟩
def a6Y(h:PA X es t):PE X (.List es pos) (a6i t):=by intro c s m H Q I j;show wpAny_List_spliced (aQ (h pos c s m H _ I j) λk a ⟨l,d,g,r,z,q⟩=>⟨by rw[<- r.length];show z,?_⟩);have i:d a.heap.objs.size=none:=g.hok.fresh<|Õ _;show⟨.ref a.heap.objs.size,aK d a.heap.objs.size<|.lst l,g.laid (t':=a.toks) (λb u e=>æ _ e) (Õ _) ?_,rfl,q _ i⟩;show⟨z,k,0,r,ē _ rfl⟩
noncomputable abbrev Sp:=List V->Hp->VK->XK->Prop
noncomputable abbrev lP:=List Ο->Hp->Ï->XK->Value->Ï->Prop
structure cg(P:ł)(w:Į)(K:Ö)(mg:Str->Option Value)(base:Č)(A:Ł)(outer:List Ο)(s:Ï)(H:Hp):Prop where
 frames:A.frames=a0 outer
 mod:Mod K mg base
 bs:∀b o,base.get? b=a0 o->s.heap.get? b=a0 o/\H b=a7
 bsz:base.objs.size<=s.heap.objs.size
 funs:s.heap.FunFrames base outer
 frf:∀b∈jX outer,H b=a7
 hok:ŗ P w H s.heap
 bare:dg s.gens
inductive CE (outer:List Ο)(P:ł)(w:Į)(H:Hp)(s:Ï)(Q:VK)(u:Value)(s':Ï):Prop
 |mk (v:V)(H':Hp)(o:s'.os=s.os)(b:dg s'.gens)(n:Un (jX outer) [] H H' s.heap s'.heap)(k:ŗ P w H' s'.heap)(r:Ì v u)(q:Q v H'):CE outer P w H s Q u s'
abbrev b4v(CX:lP)(outer:List Ο)(P:ł)(w:Į)(H:Hp)(s:Ï)(Q:VK)(E:XK)(r:S8)(a:Ï):Prop:=
 match r with
 |.ok (.ret u)=>CE outer P w H s Q u a|.ok _=>False|.error e=>CX outer H s E e a
structure ļ(P:ł)(w:Į)(K:Ö)(mg:Str->Option Value)(base:Č)(CX:lP)(k:Nat)(f:Addr)(fd:nA)(ps:List Str)(sp:Sp):Prop where
 len:∀vs H Q E,sp vs H Q E->vs.length=ps.length
 run:∀(A:Ł)(outer:List Ο)(s:Ï)(H:Hp)(args:Args)(us:gq)(vs:gw)(Q:VK)(E:XK),ç k A->cg P w K mg base A outer s H->jm s fd args (ps.zip us)->Ä vs us->sp vs H Q E->
  Ρ (É P w) A (.call (.ref f) args) (b4v CX outer P w H s Q E) s
def Inv.env0{σ:St}(I:Inv X Dn σ H s):cg X.prog X.w X.K X.mg X.base X.A X.stack s H:=
 ⟨I.ok.frames,I.ok.mod,I.bs,Đ I.ok.bsz I.sz,I.stack,I.stkFree,I.hok,I.bare⟩
def Inv.after{σ:St}(I:Inv X Dn σ H s)(h:CE X.stack X.prog X.w H s Q u s'):EP X Dn σ Q u s':=by obtain⟨v,i,k,a,un,c,r,q⟩:=h;obtain⟨j,g,d,t,e⟩:=s';obtain rfl:e=s.os:=k;show⟨v,i,I.call (h':=j) (g':=g) (d':=d) (t':=t) (ch:=[]) un c a λb z=>absurd z<|by simp,r,q⟩
abbrev Ap(sp:Sp)(a:gw)(E:XK)(t:TA):TE:=λσ H Q=>t σ H λvs b=>sp (vs++a) b Q E
abbrev Ħ(K:Ö)(a:nA)(ps:List Str)(ds:gq):Prop:=
 ∀(s:Ï)(us:gq),K.In s.heap->(us++ds).length=ps.length->jm s a ⟨us,[]⟩ (ps.zip<|us++ds)
def Ħ.all{K:Ö}(h:∀us:gq,us.length=ps.length->M5 a ⟨us,[]⟩=pure (ps.zip us)):Ħ K a ps []:=λs us _ b=>by rw[ů]at b ⊢;show .of_eq<|h us b
abbrev wJ(CX:lP)(X:Cx)(E:XK):Prop:=∀(Dn:jw)(σ:St)(H:Hp)(s:Ï)(e:Value)(a:Ï),Inv X Dn σ H s->CX X.stack H s E e a->X.xe e a
section
variable{X:Cx}{CX:lP}{k:Nat}{f C:Addr}{fd:nA}{ps:List Str}{sp:Sp}{dvs:gw}{ds:gq}{E:XK}{x m:Str}{p pos apos:è}{e o:Expr}{es:List Expr}{ta:TE}{t:TA}
def DS{σ:St}(F:ļ X.prog X.w X.K X.mg X.base CX k f fd ps sp)(i:ç k X.A)(d:Ħ X.K fd ps ds)(hd:Ä dvs ds)(j:wJ CX X E)(I:Inv X Dn σ H s)(r:Ä vs us)(h:sp (vs++dvs) H Q E):Ç (É X.prog X.w) X.A (call (.ref f) us) (EP X Dn σ Q) X.xe s:=by
 have b:Ä (vs++dvs) (us++ds):=r.append hd;have g:(us++ds).length=ps.length:=by rw[<- b.length];show F.len _ _ _ _ h
 show wpAny_call<|MW (F.run X.A X.stack s H ⟨us,[]⟩ (us++ds) (vs++dvs) Q E i I.env0 (d s us I.kIn g) b h) λr l a=>?_;cases r with
 |error e=>show j Dn σ H s e l I a|ok c=>
  cases c with
  |ret u=>show I.after a|next=>show Φ a|brk=>show Φ a|cont=>show Φ a
def a6W(F:ļ X.prog X.w X.K X.mg X.base CX k f fd ps sp)(v:ç k X.A)(l:Gl X x)(u:X.mg x=a0 (.ref f))(n:Ϟ X.K (.ref f)=a9)(i:Ħ X.K fd ps ds)(hd:Ä dvs ds)(w:wJ CX X E)
  (g:PA X (e::es) t)(b:(x==("__debug__":Str))=false:=by decide) (j:ă (e::es) X.env=(a8,eval e X.env)::ă es X.env:=by rfl)(c:(Ŋ pos<|ă es X.env).any (·.1)=false:=by rfl) :
  PE X (.Call (.Name x p) (e::es) [] pos) (Ap sp dvs E t):=by
 intro a s y H Q I h;show ς<|Aa I l u ?_ b;show PySem.W.callWith_K (h₀:=X.base) I.ok.mod.kin n (aQ (g pos a s y H _ I h) λB A ⟨G,z,d,r,q⟩=>⟨d.kIn,?_⟩) j c;show DS F v i hd w d r q
def a6P(F:ļ X.prog X.w X.K X.mg X.base CX k f fd ps sp)(j:ç k X.A)(d:Gl X x)(i:X.mg x=a0 (.ref f))(g:Ϟ X.K (.ref f)=a9)(c:Ħ X.K fd ps ds)(hd:Ä dvs ds)(l:wJ CX X E)
  (a:(x==("__debug__":Str))=false:=by decide):PE X (.Call (.Name x p) [] [] pos) (Ap sp dvs E Ao):=by
 intro b s n H Q I h;show ς<|Aa I d i ?_ a;show PySem.W.callWith_K0 I.kIn g<|DS (us:=[]) F j c hd l I .nil h
structure CrI(K:Ö)(C f:Addr):Prop where
 makes:PySem.W.makesIn K C=a9
 init:yp K (.ref C) "__init__"=a0 (a0<|.ref f)
 fn:Qo K (.ref f)=a9
 kp:Ϟ K (.ref C)=a9
end
abbrev PK(X:Cx)(a:List Γ)(t:TA):Prop:=
 ∀(pos:è)(Dn:jw)(s:Ï)(σ:St)(H:Hp)(Q:gw->Hp->Prop),Inv X Dn σ H s->t σ H Q->Ç (É X.prog X.w) X.A (evalAll<|(jt pos<|ju a X.env).map (·.2)) (AP X Dn σ Q) X.xe s
section
variable{X:Cx}{CX:lP}{k:Nat}{f C:Addr}{fd:nA}{ps ks:List Str}{sp:Sp}{E:XK}{x m:Str}{p pos apos kpos:è}{e o:Expr}{es:List Expr}{kws:List Γ}{te ta:TE}{t tk:TA}{nm:Option Str}
def a6O:PK X [] Ao:=λ_ _ _ _ H Q I h=>wpAny_evalAll_nil ⟨[],H,I,.nil,h⟩
def a6N(j:PE X e te)(l:PK X kws t):PK X (⟨nm,e,kpos⟩::kws) (DP te t):=by intro pos a s b H Q I h;change Ç _ _ (evalAll<|(do let v <- eval e X.env;standAt pos;pure v)::(jt pos<|ju kws X.env).map (·.2)) _ _ s;show wpAny_evalAll_cons<|Á<|aQ (j a s b H _ I h) λu y ⟨x,c,g,r,n⟩=>Á<|MU<|Ð ?_;show aQ (l pos a y b c _ g n) λB A ⟨z,d,i,w,q⟩=>⟨x::z,d,i,.cons r w,q⟩
structure KBinds(K:Ö)(fd:nA)(ps ks:List Str)(g:gq->gq->gq)(gV:gw->gw->gw):Prop where
 to:∀(s:Ï)(us ws:gq),K.In s.heap->(g us ws).length=ps.length->jm s fd ⟨us,ks.zip ws⟩ (ps.zip<|g us ws)
 rel:∀{vs:gw}{us:gq}{zs:gw}{ws:gq},Ä vs us->Ä zs ws->Ä (gV vs zs) (g us ws)
variable{g:gq->gq->gq}{gV:gw->gw->gw}
end
structure ī(N P:List Str)(sc:Δ):Prop where
 kind:sc.kind=.function
 co:sc.isCoroutine=a8
 gen:sc.isGenerator=a8
 nd:N.Nodup
 pre:N.take P.length=P
 par:∀x∈P,sc.names.lookup x=a0 .local\/sc.names.lookup x=a0 .cell
 nofree:∀y∈sc.names,y.2≠.free
def DT{kindOf:Str->Option ϝ}:∀{a}{m},(∀v,(x,v)∉a)->dI kindOf a m x=m x
 |[],_,_=>rfl|(n,v)::r,m,h=>by
  unfold dI;rw[DT λw hw=>h w<|ı _ hw];split
  .have:x≠n:=by rintro rfl;show h v Ĭ
   simp[this]
  .rfl
def DU{kindOf:Str->Option ϝ}:∀{a}{m},(∀v,(x,v)∉a)->cu kindOf a m x=m x
 |[],_,_=>rfl|(n,v)::r,m,h=>by
  unfold cu;rw[DU λw hw=>h w<|ı _ hw];split
  .rfl
  .have:x≠n:=by rintro rfl;show h v Ĭ
   simp[this]
def DV{kindOf:Str->Option ϝ}:∀{P:List Str}{vs:gq}{i:Nat}{m},P.Nodup->P[i]?=a0 x->vs[i]?=a0 v->kindOf x=a0 .local->
  dI kindOf (P.zip vs) m x=a0 v
 |[],_,_,_,_,h,_,_=>by simp at h
 |_::_,[],_,_,_,_,h,_=>by simp at h
 |p::P,w::vs,0,m,nd,h1,h2,hk=>by simp at h1 h2;subst h1;subst h2;change dI kindOf ((p,w)::P.zip vs) m p=_;unfold dI;rw[DT λv a=>(Ś.mp nd).1 (OM a).1,if_pos hk];simp
 |p::P,w::vs,i+1,m,nd,h1,h2,hk=>by change dI kindOf ((p,w)::P.zip vs) m x=_;unfold dI;show DV (i:=i) (Ś.mp nd).2 (by simpa using h1) (by simpa using h2) hk
def DW{kindOf:Str->Option ϝ}:∀{P:List Str}{vs:gq}{i:Nat}{m},P.Nodup->P[i]?=a0 x->vs[i]?=a0 v->kindOf x≠a0 .local->
  cu kindOf (P.zip vs) m x=a0 v
 |[],_,_,_,_,h,_,_=>by simp at h
 |_::_,[],_,_,_,_,h,_=>by simp at h
 |p::P,w::vs,0,m,nd,h1,h2,hk=>by simp at h1 h2;subst h1;subst h2;change cu kindOf ((p,w)::P.zip vs) m p=_;unfold cu;rw[DU λv a=>(Ś.mp nd).1 (OM a).1,if_neg hk];simp
 |p::P,w::vs,i+1,m,nd,h1,h2,hk=>by change cu kindOf ((p,w)::P.zip vs) m x=_;unfold cu;show DW (i:=i) (Ś.mp nd).2 (by simpa using h1) (by simpa using h2) hk
abbrev start(N:List Str)(vs:gw):St:=vs.map a0++UV (N.length-vs.length) a7
abbrev mS(CX:lP)(P:ł)(w:Į)(K:Ö)(mg:Str->Option Value)(base:Č)(N:List Str)(a:Str)(scope:Δ)(f:Addr)(c:Value)(A:Ł)(outer:List Ο)(s:Ï)(H:Hp)(E:XK):Cx where
 prog:=P
 w:=w
 K:=K
 mg:=mg
 base:=base
 A:=A.deeper<|envOfC a scope s.heap.objs.size f c
 N:=N
 s₀:=s
 H₀:=H
 env:=envOfC a scope s.heap.objs.size f c
 outer:=outer
 stack:=envOfC a scope s.heap.objs.size f c::outer
 ex:=[]
 calm:=a9
 fn:=λ_=>a9
 pn:=[]
 xe:=λe g=>Ç (É P w) (A.deeper<|envOfC a scope s.heap.objs.size f c) (leaving (envOfC a scope s.heap.objs.size f c) e) (λ_ b=>CX outer H s E e b) (λd b=>CX outer H s E d b) g
def DX{sc:Δ}(h:sc.names.lookup x=a0 .cell):∃c,(Nc n sc.names []).lookup x=a0 c:=by have q:=Ri sc.names n []<|.inl h;show SM.mp q
def a6K{K:Ö}(S:ī N ps scope)(hd:A.handled=a7)(j:cg P w K mg base A outer s H)(X:vs.length=ps.length)(r:Ä vs us)(x:InCallC s s.heap.objs.size (dI (envOfC d scope s.heap.objs.size f B).kindOf (ps.zip us) λ_=>a7) (Nc (s.heap.objs.size+1) scope.names []) (cu (envOfC d scope s.heap.objs.size f B).kindOf (ps.zip us) λ_=>a7) O):
  Inv (mS CX P w K mg base N d scope f B A outer s H E) [] (start N vs) H O:=by
 have R:ps.length<=N.length:=by have:=congrArg ĭ S.pre;rw[Ń]at this;lia
 obtain⟨G,Y,rfl,L⟩:=x.done;have m:∀b:Addr,b∉(mS CX P w K mg base N d scope f B A outer s H E).ex:=λb z=>absurd (show b∈([]:List Addr)from z) (by simp);show⟨⟨j.mod,S.kind,rfl,rfl,Õ _,λy z c G g=>?_,λy l=>?_,λy c _ h=>?_,λ_=>hd,Around.frames_deeper j.frames,.inr ⟨rfl,rfl⟩,λb z=>absurd z<|m b,j.bs,j.bsz,λb _ _=>m b,λb z=>absurd z<|m b,j.funs,j.frf⟩,
  rfl,j.bare,Un.kept L,⟨_,x.toInCall.ns,λi y v G g U=>?_⟩,λy c h=>⟨_,x.cell y c h⟩,j.hok.fresh<|Õ _,λy c h=>?_,λp n=>absurd (show p∈([]:jw)from n)<|by simp,j.hok.kept L,?_⟩
 .show name_of_addr x.apart (Ϧ G)<|Ϧ g
 .have l:scope.names.lookup y=a0 .cell\/scope.names.lookup y=a0 .free:=l;rcases l with l|l
  .show DX l
  .show absurd rfl<|S.nofree _<|Ϧ l
 .show Ζ<|x.above y c<|Ϧ h
 .have I:i<vs.length:=by
   unfold start at g;by_cases I:i<vs.length
   .show I
   .rw[ż<|by simpa using I]at g;rw[zj]at g;split at g<;>cases g
  have Q:vs[i]?=a0 v:=by
   unfold start at g;rw[Š<|by simpa using I,ú]at g;cases e:vs[i]? with
   |none=>rw[e]at g;cases g|some a=>rw[e]at g;cases g;rfl
  obtain⟨u,M,T⟩:=r.get Q;have n:ps[i]?=a0 y:=by rw[<- S.pre,j4<|by lia];show G
  have o:ps.Nodup:=by rw[<- S.pre];show S.nd.sublist<|vd _ _
  show⟨u,T,?_⟩;rcases S.par y (Ğ n)with k|k
  .show .inl ⟨k,DV o n M k⟩
  .obtain⟨c,e⟩:=DX (n:=s.heap.objs.size+1) k;show .inr ⟨.inl k,c,e,?_⟩;have q:=x.cell y c e;rw[DW o n M<|by change scope.names.lookup y≠_;rw[k];decide]at q;show q
 .show j.hok.fresh<|Ζ<|x.above y c<|Ϧ h
 .unfold start;change _=N.length;rw[å,Å,ux];lia
def a5h{K:Ö}{kV:Value}(lk:K.lookup f=a0 ⟨oc,od,.func<|ν name a d body scope X kV m Y an c ct,M⟩)(B:Mu K c a=a9)(S:ī N ps scope)(len:∀vs H Q E,sp vs H Q E->vs.length=ps.length)(i:∀A outer s H(vs:gw)Q E,ç k (A.deeper<|envOfC a scope s.heap.objs.size f c)->sp vs H Q E->
   ∃t,Ŗ (mS CX P w K mg base N a scope f c A outer s H E) body t/\t {nx:=λ_ h=>Q .non h,rt:=Q} (start N vs) H):
  ļ P w K mg base CX (k+1) f (ν name a d body scope X kV m Y an c ct) ps sp:=by
 show⟨len,λA outer s H U us vs Q E G p hb r z=>?_⟩;have hl:=len _ _ _ _ z;have T:K.In s.heap:=p.mod.kin.keeps λb o e=>(p.bs b o e).1;have L:s.heap.NoLimit:=p.mod.nolimit.keeps λb o e=>(p.bs b o e).1;have j:∀y∈ps.zip us,scope.names.lookup y.1=a0 .local\/(scope.names.lookup y.1=a0 .cell/\((Nc (s.heap.objs.size+1) scope.names []).lookup y.1).isSome=a9):=λ⟨n,v⟩ hy=>by
  rcases S.par n (OM hy).1 with q|q
  .show .inl q
  .show .inr ⟨q,Ri _ _ _<|.inl q⟩
 show codeAny_call_function G.depth (T _ _ lk) rfl S.co S.gen rfl (PySem.W.codeRec_of T B)<|hb _ _ _ _ ?_;show wpAny_newFunctionEnv_cells S.kind j λenv he Z x=>?_;subst he;show⟨L.keeps x.toInCall.keep,codeAny_func ?_⟩;obtain⟨t,ht,hq⟩:=i A outer s H vs Q E (G.deeper _) z;have I:Inv (mS CX P w K mg base N a scope f c A outer s H E) [] (start N vs) H Z:=a6K S G.hd p hl r x;show Ķ (ht [] Z (start N vs) H _ I hq) (λfl R l=>?_) λe R l=>l;have fin:∀{g:St}{h:Hp}{v:V}{u:Value},Inv (mS CX P w K mg base N a scope f c A outer s H E) [] g h R->Ì v u->Q v h->CE outer P w H s Q u R:=
  λ{g h v u} J O q=>⟨v,h,J.os,J.bare,J.base,J.hok,O,q⟩
 cases fl with
 |ret u=>obtain⟨v,g,h,J,O,q⟩:=l;show fin J O q|next=>obtain⟨g,h,J,q⟩:=l;show fin (v:=V.non) (u:=ş) J rfl q|brk=>obtain⟨_,_,_,q⟩:=l;show Φ q|cont=>obtain⟨_,_,_,q⟩:=l;show Φ q
abbrev wK(r:gw->Hp->VK->Prop)(t:TA):TE:=λσ H Q=>t σ H λvs a=>r vs a Q
def a5X{id:String}(hc:ì X (.builtin id) r)(l:Gl X x)(m:X.mg x=a7)(o:Ε x=a0 (.builtin id))(j:PA X (e::es) t)(n:x ≠ "__name__":=by decide)(b:(x==("__debug__":Str))=false:=by decide)(k:ă (e::es) X.env=(a8,eval e X.env)::ă es X.env:=by rfl)(c:(Ŋ pos<|ă es X.env).any (·.1)=false:=by rfl):PE X (.Call (.Name x p) (e::es) [] pos) (wK r t):=by
 intro a s d H Q I h;show ς<|f9 I l m o ?_ n b;show NN (aQ (j pos a s d H _ I h) λw v ⟨y,g,i,u,q⟩=>hc a v d g y w Q i u q) k c
def a5T(hc:ì X (.type T) r)(l:Gl X x)(m:X.mg x=a7)(o:Ε x=a0 (.type T))(j:PA X (e::es) t)(n:x ≠ "__name__":=by decide)(b:(x==("__debug__":Str))=false:=by decide)(k:ă (e::es) X.env=(a8,eval e X.env)::ă es X.env:=by rfl)(c:(Ŋ pos<|ă es X.env).any (·.1)=false:=by rfl):PE X (.Call (.Name x p) (e::es) [] pos) (wK r t):=by
 intro a s d H Q I h;show ς<|f9 I l m o ?_ n b;show bj (aQ (j pos a s d H _ I h) λw v ⟨y,g,i,u,q⟩=>hc a v d g y w Q i u q) k c
section
variable{κ:Type} [DecidableEq κ]
def Ŵ.isSome_eq(r:Ŵ o u):o.isSome=u.isSome:=by
 cases o with
 |none=>cases u with
  |none=>rfl|some _=>show(show False from r).elim
 |some _=>cases u with
  |none=>show(show False from r).elim|some _=>rfl
end
def Inv.big{σ:St}(I:Inv X Dn σ H s):ř<s.heap.objs.size:=by have h:Ũ<s.heap.objs.size:=(I.mod.glob.keeps I.bk).lt;show lw (by decide) h
def Aq{σ:St}(I:Inv X Dn σ H s)(h:tT (H a))(g:Ϭ a s.heap h')(e:∃q,h'.get? a=a0 q)(new:â X.prog X.w (aK H a c) h' a c):
  Inv X Dn σ (aK H a c) {s with heap:=h',toks:=t'}:=
 I.write (x:=a) (e:=a) h (.inl rfl) (λb q d z=>(g.2 b d).trans z) e new
abbrev DY(i:Expr):Prop:=∀b a,ML i a8 b a=operate [b,a] (qy b a)
def a5N{id:String}(m:rm (.type T) "__getitem__"=pure (a0<|.builtin id))(n:DY a)(h:Ç (É prog w) A (eval b env) (λo e=>Ç (É prog w) A (eval a env) (λi c=>c.TypeIs o T/\Ç (É prog w) A (qy o i) Q E c) E e) E s):
  Ç (É prog w) A (eval (.Subscript b a pos) env) Q E s:=by
 show MM<|Ķ h (λo e j=>Ķ j (λi c d=>?_) λ_ _ x=>x) λ_ _ x=>x;obtain⟨l,d⟩:=d;unfold MQ;show Á ?_;rw[getitemInPython_of_ne l.not_modules];show Á<|Ma l m ?_;have fin:Ç (É prog w) A (ML a a8 o i) (λr g=>Ç (É prog w) A (letTemporaryGo b o r >>= λ_=>pure r) Q E g) E c:=by rw[n o i];show wpAny_operating<|Ķ d (λr g k=>Á<|wpAny_letTemporaryGo<|Ð k) λ_ _ x=>x
 first
  |show Ð (Á fin)|show Á (Ð<|Á fin)|show Á fin
abbrev DZ:List (TE×TE)->St->Hp->(List (V×V)->Hp->Prop)->Prop
 |[],_,H,Q=>Q [] H|(tk,tv)::r,σ,H,Q=>tk σ H λx a=>tv σ a λy b=>DZ r σ b λd c=>Q ((x,y)::d) c
noncomputable abbrev VV:List (V×V)->List (Value×Value)->Prop:=Ŧ λp q=>Ì p.1 q.1/\Ì p.2 q.2
abbrev HjI(X:Cx)(pos:è)(keys:List (Option Expr))(a:List Expr)(b:List (TE×TE)):Prop:=
 ∀(Dn:jw)(s:Ï)(σ:St)(H:Hp)(Q:List (V×V)->Hp->Prop),Inv X Dn σ H s->DZ b σ H Q->
  Ç (É X.prog X.w) X.A (evalPairs<|pairTrees keys a X.env pos) (λg e=>∃d c,Inv X Dn σ c e/\VV d g/\Q d c) X.xe s
structure RnI(X:Cx)(o:Expr)(m:Str)(apos:è)(e:Expr)(cpos:è):Prop where
 base:ω o m X.env (eval o X.env)=eval o X.env
 few:((Ŋ cpos (ă [e] X.env)).all (λx=>!x.1)&&(jt cpos (ju [] X.env)).all (λx=>x.1.isSome)
  && decide (([e]:List Expr).length+([]:List Γ).length+(if([]:List Γ).isEmpty then 0 else 1)<30))=a9
 line:(apos.endLine==cpos.line)=a9
 trees:Ŋ cpos (ă [e] X.env)=[(a8,eval e X.env)]
structure FwJ(X:Cx)(o:Expr)(m:Str)(apos:è)(e f:Expr)(cpos:è):Prop where
 base:ω o m X.env (eval o X.env)=eval o X.env
 few:((Ŋ cpos (ă [e,f] X.env)).all (λx=>!x.1)&&(jt cpos (ju [] X.env)).all (λx=>x.1.isSome)
  && decide (([e,f]:List Expr).length+([]:List Γ).length+(if([]:List Γ).isEmpty then 0 else 1)<30))=a9
 line:(apos.endLine==cpos.line)=a9
 trees:Ŋ cpos (ă [e,f] X.env)=[(a8,eval e X.env),(a8,eval f X.env)]
abbrev Ý(H:Hp)(a:Addr):Prop:=(∃kvs,Rd H a (.dK kvs))\/∃kvs,Rd H a (.dT kvs)
end L2
namespace HT
open PySem PyProof.Rows
abbrev lexLt:List Int->List Int->Bool
 |[],[]=>a8|[],_::_=>a9|_::_,[]=>a8|x::xs,y::ys=>if x=y then lexLt xs ys else decide (x<y)
def lexLt_cons x y xs ys:lexLt (x::xs) (y::ys)=if x=y then lexLt xs ys else decide (x<y):=rfl
def Grw:lexLt [] []=false:=rfl
def FaI y ys:lexLt [] (y::ys)=true:=rfl
def x10 x xs:lexLt (x::xs) []=false:=rfl
def i10 A s a t c u:∃e,uc A s (.int a t) (.int c u) e/\(e=a9↔a=c):=
 ⟨(a==c),RZ a t c u,by simp⟩
def h15 A s a t c u prog w E Q(h:Q (.bool<|decide<|a<c) s):
  Ç (É prog w) A (richCompare .Lt (.int a t)<|.int c u) Q E s:=
 (SW h:Ç (É prog w) A (ĺ .Lt (.int a t)<|.int c u) Q E s)
section
open PySem.SeqAt
open PySem.AutoSeq1 (wpAny_loadPart')
open PySem.MeetsSeq PySem.MeetsSeq2 PySem.MeetsSeq3
def e11 l b items i n n2 Y M sl Q ns ms(T:ŭ items.toList ns)(U:ŭ i.toList ms):
  Meets (Builtin.«tuple.__lt__» ⟨[.ref l,.ref b],[]⟩)
   (λ_ R s=>s.heap.get? l=a0 {cls:=.type "tuple",dict:=Y,data:=.seq items n,slots:=sl}/\s.heap.get? b=a0 {cls:=.type "tuple",dict:=M,data:=.seq i n2,slots:=Q} /\
    R (.ok<|.ret<|.bool<|lexLt ns ms) s):=
 .of_wp λz w A R s h=>by
  obtain⟨I,g,d,L,K⟩:=s;obtain⟨hl,Z,h⟩:=h;have f2:=AutoSeq1.sub_tuple_tuple;have z1:items.size=ns.length:=by rw[<- T.length];simp
  have z2:i.size=ms.length:=by rw[<- U.length];simp
  wp_walk using Q2 hl,Q2 Z,wpAny_forIn_list _ (λÈ b O=>b.1=a7/\O=⟨I,g,d,L,K⟩/\∃(vs ws:gq)(m k:List Int),È=vs.zip ws /\
   ŭ vs m/\ŭ ws k/\m.length+i.size=k.length+items.size/\R (.ok<|.ret<|.bool<|lexLt m k) ⟨I,g,d,L,K⟩) _
  case turn=>
   rintro⟨y,x⟩ È b O ⟨B,rfl,vs,ws,m,k,p,E,o,j,r⟩;cases E with
   |nil=>rw[List.zip_nil_left]at p;cases p|cons a t G=>
    cases o with
    |nil=>rw[Oi]at p;cases p|cons c u H=>
     rw[yx]at p;injection p with hyx hrest;injection hyx with hy hx;subst hy hx;rw[lexLt_cons]at r;simp only[Ļ]at j;obtain⟨e,he,v⟩:=i10 A.in1 ⟨I,g,d,L,K⟩ a t c u;show Á<|he z w _ _ ?_;cases e with
     |true=>rw[if_pos<|v.mp rfl]at r;wp_walk;show⟨rfl,rfl,_,_,_,_,hrest,G,H,by lia,r⟩|false=>rw[if_neg λq=>absurd (v.mpr q) Ī]at r;have N:=h15 A.in1 ⟨I,g,d,L,K⟩ a t c u z w;wp_walk using N;show⟨_,rfl,by simpa using r⟩
  case fin=>
   rintro⟨b1,b2⟩ O ⟨B,rfl,vs,ws,m,k,p,E,o,j,r⟩;simp only at B;subst B;have X:lexLt m k=decide (items.size<i.size):=by
    cases E with
    |nil=>
     cases o with
     |nil=>simp only[ug]at j;rw[Grw];show(decide_eq_false<|by lia).symm|cons c u hw=>simp only[ug,Ļ]at j;rw[FaI];show(decide_eq_true<|by lia).symm
    |cons a t X=>
     cases o with
     |nil=>simp only[ug,Ļ]at j;rw[x10];show(decide_eq_false<|by lia).symm|cons c u hw=>rw[yx]at p;cases p
   rw[X]at r;wp_walk;show⟨_,rfl,by simpa[b3I]using r⟩
  case h=>show⟨rfl,rfl,items.toList,i.toList,ns,ms,rfl,T,U,by lia,h⟩
end
def lt_tupInts(v:ι s.heap l items)(q:ι s.heap b a)(r:ŭ items.toList ns)(u:ŭ a.toList ms)(y:A.units<Ĉ)(h:Q (.bool<|lexLt ns ms) s):Ç (É prog w) A (ĺ .Lt (.ref l)<|.ref b) Q E s:=by
 obtain⟨⟨cls,p,m,B⟩,o,hc,n,hd⟩:=id v;obtain⟨⟨k,i,g,j⟩,e,c,z,d⟩:=id q;simp only at hc hd c d;subst hc hd c d;show richCompare_meets_room (op:=.Lt) ⟨_,o,rfl⟩ ⟨_,e,rfl⟩ PySem.F.slot_tuple_lt PySem.F.entry_tuple_lt (PySem.F.args_tuple_lt_2 _ _) (e11 l b items a n z p i B j ns ms r u)
  ⟨o,e,show Ÿ (lexLt ns ms)≠Value.notImplemented/\Q (.bool<|lexLt ns ms) s from⟨(λx=>nomatch x),h⟩⟩ y
def cat_tup{vs ws:gq}(v:ι s.heap t vs.toArray)(u:ι s.heap b ws.toArray)(o:vs≠[])(h1:ws=[]->Q (.ref t) s)(r:ws≠[]->Q (.ref s.heap.objs.size) {s with heap:=s.heap.push {cls:=.type "tuple",data:=.seq (vs++ws).toArray}})(hsz:vs.length+ws.length<=Ñ):Ç (É prog w) A (Τ .Add (.ref t)<|.ref b) Q E s:=by
 obtain⟨⟨cls,m,l,q⟩,i,hc,n,hd⟩:=id v;obtain⟨⟨k,c,j,h⟩,a,d,p,g⟩:=id u;simp only at hc hd d g;subst hc hd d g;have e:vs.toArray++ws.toArray=(vs++ws).toArray:=by simp
 by_cases hw:ws=[]
 .show concat_meets ⟨_,i,rfl⟩ ⟨_,a,rfl⟩ Pk seq_tuple_add Rg SO (SY _ _)
   (tuple_addW1 t b vs.toArray ws.toArray n p m c q h (by simpa using o)<|by simp[hw]) ⟨i,a,h1 hw⟩
 .show concat_meets ⟨_,i,rfl⟩ ⟨_,a,rfl⟩ Pk seq_tuple_add Rg SO (SY _ _)
   (tuple_addW2 t b vs.toArray ws.toArray n p m c q h (by simpa using o) (by simpa using hw)<|by rw[ñ,ñ];show hsz) ⟨i,a,?_⟩
  rw[e];show r hw
abbrev sIx(n d:Nat):Option Int->Nat
 |none=>d|some v=>if v<0 then(v+(n:Int)).toNat else min v.toNat n
def sIx_none n d:sIx n d a7=d:=rfl
def sIx_nat(n d k:Nat):sIx n d (a0 (k:Int))=min k n:=by change(if(k:Int)<0 then((k:Int)+(n:Int)).toNat else min (k:Int).toNat n)=min k n;rw[if_neg<|by lia,vX]
end HT
namespace L2
open PySem PySem.Spec PyProof.Rows
noncomputable abbrev TO:=St->Hp->(Option Int->Hp->Prop)->Prop
abbrev PO(X:Cx)(e:Option Expr)(t:TO):Prop:=
 ∀(Dn:jw)(s:Ï)(σ:St)(H:Hp)(Q:Option Int->Hp->Prop),Inv X Dn σ H s->t σ H Q->
  Ç (É X.prog X.w) X.A (evalPart e X.env) (λu b=>∃o a,Inv X Dn σ a b/\IsPart u o/\Q o a) X.xe s
abbrev b4o:TO:=λ_ H Q=>Q a7 H
abbrev b4n(t:TE):TO:=λσ H Q=>t σ H λx a=>∃i,x=.int i/\Q (a0 i) a
def wL:∀{us},Ä (ns.map V.int) us->ŭ us ns:=by
 induction ns with
 |nil=>intro us r;rw[Ϣ]at r;cases r;show .nil|cons n ns a=>
  intro us r;rw[ù]at r;cases r with
  |cons b c=>obtain⟨t,e⟩:=b;subst e;show .cons n t<|a c
def a7K:PO X a7 b4o:=by intro a s b H Q I h;rw[evalPart_none];show Ð ⟨a7,H,I,.none,h⟩
def a7I(h:PE X e te):PO X (a0 e) (b4n te):=by intro a s j H Q I hw;rw[evalPart_some];show aQ (h a s j H _ I hw) λu k ⟨x,b,c,g,d⟩=>?_;obtain⟨i,rfl,q⟩:=d;obtain⟨t,rfl⟩:=g;show⟨a0 i,b,c,.int i t,q⟩
abbrev Ar(X:Cx)(r:V->Option Int->Option Int->Hp->VK->Prop):Prop:=
 ∀(Dn:jw)(s:Ï)(σ:St)(H:Hp)(x:V)(v b c:Value)(lo hi:Option Int)(a:Addr)(Q:VK),Inv X Dn σ H s->Ì x v->s.heap.IsSliceOf a b c .none->IsPart b lo->IsPart c hi->r x lo hi H Q->
  ∃T id,rm (.type T) "__getitem__"=pure (a0<|.builtin id)/\s.TypeIs v T/\Ç (É X.prog X.w) X.A (qy v<|.ref a) (EP X Dn σ Q) X.xe s
abbrev a7G(r:V->Option Int->Option Int->Hp->VK->Prop)(te:TE)(tl th:TO):TE:=λσ H Q=>te σ H λx a=>tl σ a λl b=>th σ b λu c=>r x l u c Q
def a7E{lo:Option Expr}(E:Ar X r)(z:PE X e te)(B:PO X lo tl)(K:PO X hi th):PE X (.Subscript e (.Slice lo hi a7 p2) pos) (a7G r te tl th):=by intro a s d H Q I h;show MM<|aQ (z a s d H _ I h) λv Y ⟨x,k,n,U,N⟩=>?_;show wpAny_Slice<|aQ (B a Y d k _ n N) λg Z ⟨l,m,o,L,O⟩=>aQ (K a Z d m _ o O) λi c ⟨u,j,p,M,R⟩=>?_;rw[evalPart_none];show Ð ?_;have w:Inv X a d j {c with heap:=c.heap.push {cls:=.type "slice",data:=.fields #[g,i,.none]}}:=p.kept (t':=c.toks) λb ob q=>æ _ q;obtain⟨T,id,y,G,A⟩:=E a {c with heap:=c.heap.push {cls:=.type "slice",data:=.fields #[g,i,.none]}} d j x v g i l u c.heap.objs.size Q w U (Sb ..) L M R;change Ç (É X.prog X.w) X.A (MQ e (.Slice lo hi a7 p2) v<|.ref c.heap.objs.size) (EP X a d Q) X.xe {c with heap:=c.heap.push {cls:=.type "slice",data:=.fields #[g,i,.none]}};show Na (ops:=[.ref c.heap.objs.size,v]) G y A<|by with_unfolding_all rfl
abbrev n9(xs:gw)(lo hi:Option Int):gw:=(xs.drop<|HT.sIx xs.length 0 lo).take<|HT.sIx xs.length xs.length hi-HT.sIx xs.length 0 lo
def a7D xs lo hi:(n9 xs lo hi).length<=xs.length:=by unfold n9;rw[Ń,ŧ];lia
abbrev D0(K:Ö):R2:=λx y H Q=>∃a b xs ys,x=.ref a/\y=.ref b/\î K H a xs/\î K H b ys/\xs≠[]/\xs.length+ys.length<=Ñ /\
 (ys=[]->Q (.ref a) H)/\(ys≠[]->∀p,H p=a7->Q (.ref p) (aK H p<|.tup<|xs++ys))
def Ä.nil_iff(r:Ä xs us):us=[]↔xs=[]:=by
 cases r with
 |nil=>simp|cons _ _=>simp
def a7C:Ĕ X (Τ .Add) (D0 X.K):=by intro j s L H x y v u Q I A B h;obtain⟨a,b,E,G,rfl,rfl,k,l,m,g,p,r⟩:=h;cases A;cases B;obtain⟨n,d,o,_⟩:=I.tuple k;obtain⟨i,c,p2,_⟩:=I.tuple l;show HT.cat_tup o p2 (λz=>m<|d.nil_iff.mp z) (λz=>⟨.ref a,H,I,rfl,p<|c.nil_iff.mp z⟩) (λz=>?_) (by rw[<- d.length,<- c.length];show g);show⟨.ref s.heap.objs.size,_,I.laid (t':=s.toks) (o:=.tup (E++G)) (λb K q=>æ _ q) (Õ _) ?_,rfl,r (λw=>z<|c.nil_iff.mpr w) _<|I.hok.fresh<|Õ _⟩;show⟨by rw[å];show g,_,d.append c,ų.new _ _⟩
abbrev lQ(n:Nat)(i:Int):Option Nat:=if 0<=i then(if i<n then a0 i.toNat else a7)else if -(n:Int)<=i then a0 (i+n).toNat else a7
abbrev atI{a:Type}(xs:List a)(i:Int):Option a:=(lQ xs.length i).bind λj=>xs[j]?
def a7B(h:lQ n i=a0 j):seqIndex? i n=a0 j/\j<n/\-(n:Int)<=i/\i<n:=by
 unfold lQ at h;by_cases b:0<=i
 .rw[if_pos b]at h;by_cases a:i<n
  .rw[if_pos a]at h;have e:i.toNat=j:=ė h;show⟨by rw[seqIndex_of b a,e],by lia,by lia,a⟩
  .rw[if_neg a]at h;cases h
 .rw[if_neg b]at h;by_cases a:-(n:Int)<=i
  .rw[if_pos a]at h;have e:(i+n).toNat=j:=ė h;show⟨by rw[seqIndex_neg ⋯ a,e],by lia,a,by lia⟩
  .rw[if_neg a]at h;cases h
def Au{xs:List a}{v:a}(h:atI xs i=a0 v):∃j,seqIndex? i xs.length=a0 j/\xs[j]?=a0 v/\j<xs.length/\-(xs.length:Int)<=i/\i<xs.length:=by
 unfold atI at h;cases e:lQ xs.length i with
 |none=>rw[e]at h;cases h|some j=>rw[e]at h;obtain⟨b,c,d,g⟩:=a7B e;show⟨j,b,h,c,d,g⟩
def a6z{xs:List a}{j:Nat}{v:a}(h:xs[j]?=a0 v):atI xs (j:Int)=a0 v:=by
 have b:j<xs.length:=(Ú.mp h).1;have e:lQ xs.length (j:Int)=a0 j:=by unfold lQ;rw[if_pos<|by lia,if_pos<|by lia];simp
 unfold atI;rw[e];show h
abbrev Av(b:Expr):Prop:=∀o i,ML b a8 o i=operate [o,i] (qy o i)
abbrev bx(X:Cx)(r:R2):Prop:=
 ∀(b a:Expr)(Dn:jw)(s:Ï)(σ:St)(H:Hp)(x y:V)(v u:Value)(Q:VK),Inv X Dn σ H s->Ì x v->Ì y u->r x y H Q->
  ML a a8 v u=operate [v,u] (qy v u)->Ç (É X.prog X.w) X.A (MQ b a v u) (EP X Dn σ Q) X.xe s
abbrev D1(X:Cx)(id:String)(r:V->gw->Hp->VK->Prop):Prop:=
 ∀(Dn:jw)(s:Ï)(σ:St)(H:Hp)(x:V)(xs:gw)(v:Value)(us:gq)(Q:VK),Inv X Dn σ H s->Ì x v->Ä xs us->r x xs H Q->
  Ç (É X.prog X.w) X.A (call (.builtin id)<|v::us) (EP X Dn σ Q) X.xe s
def bx.or(h:bx X r)(h':bx X i):bx X (λx y H Q=>r x y H Q\/i x y H Q):=by
 intro d c e s l H x y v u Q I j k q g;rcases q with q|q
 .show h d c e s l H x y v u Q I j k q g
 .show h' d c e s l H x y v u Q I j k q g
def a8j(j:bx X r)(g:PE X a ta)(i:PE X b tb)(k:Av b):PE X (.Subscript a b pos) (tY r ta tb):=by intro c s o H Q I h;show MM<|Ag g i I h λv u n x y d e l m q=>j a b c n o d x y v u Q e l m q<|k _ _
abbrev D2(K:Ö):R2:=λx y H Q=>∃p xs i v,x=.ref p/\y=.int i/\č K H p xs/\atI xs i=a0 v/\Q v H
abbrev D4(K:Ö):R2:=λx y H Q=>∃p xs i v,x=.ref p/\y=.int i/\î K H p xs/\atI xs i=a0 v/\Q v H
abbrev D5:R2:=λx y H Q=>∃z i c,x=.str z/\y=.int i/\z.length<=Ñ/\atI z.cps.toList i=a0 c/\Q (.str ⟨#[c]⟩) H
def G3:bx X (D2 X.K):=by
 intro n m c s E H x y v u Q I R T h B;obtain⟨p,xs,i,z,rfl,rfl,O,M,q⟩:=h;cases R;obtain⟨t,rfl⟩:=T;obtain⟨g,r,k,hz⟩:=I.list O;obtain⟨j,d,G,Y,K,L⟩:=Au M;obtain⟨w,o,l⟩:=r.get G;have N:=r.length;have Z:=pP;have fin:EP X c E Q w s:=⟨z,H,I,l,q⟩;by_cases A:0<=i
 .have e:i.toNat=j:=by rw[seqIndex_of A L]at d;show ė d
  show item_listR k.isList A ⋯ (by rw[e];simpa using o) fin B
 .have e:(i+(g.toArray.size:Int)).toNat=j:=by rw[seqIndex_neg ⋯ K]at d;rw[ñ,<- N];show ė d
  show RI (x:=w) k.isList.typeIs OV.lookup
   (wpAny_getItem_list_neg (Q:=λr U=>r=w/\EP X c E Q r U) k.isList ⋯ (by rw[ñ]<;>lia) ⋯ (by rw[e];simpa using o) ⟨rfl,fin⟩) B
def ji:bx X (D4 X.K):=by
 intro g e c s l H x y v u Q I L M h G;obtain⟨p,Z,i,z,rfl,rfl,E,A,q⟩:=h;cases L;obtain⟨t,rfl⟩:=M;obtain⟨K,r,k,Y⟩:=I.tuple E;obtain⟨j,n,o,O,R,T⟩:=Au A;obtain⟨w,m,d⟩:=r.get o;have B:=r.length;have U:=pP;have fin:EP X c l Q w s:=⟨z,H,I,d,q⟩;show RI (x:=w) k.typeIs slot_tuple_getitem.lookup
  (getItem_tuple (j:=j) (Q:=λr N=>r=w/\EP X c l Q r N) k ⋯ ⋯ (by rw[ñ,<- B];show n) (by simpa using m) ⟨rfl,fin⟩) G
def a8i:bx X D5:=by
 intro e d k s N H x y v u Q I B E h A
 obtain ⟨z,i,c,rfl,rfl,L,r,q⟩:=h
 obtain ⟨t,rfl⟩:=B
 obtain ⟨M,rfl⟩:=E
 obtain ⟨j,g,n,G,o,p⟩:=Au r
 have w:z.cps.toList.length=z.length:=by simp [Str.length]
 rw [w] at g o p
 have K:=pP
 show Na (typeIs_str s z t) slot_str_getitem.lookup (getItem_str (c:=c) (by
  have l:decide (i < -(2 ^ 63:Int))=false:=decide_eq_false<|by lia
  have m:decide (i >= 2 ^ 63)=false:=decide_eq_false<|by lia
  rw [l,m,Mn]) (by rw [g];simpa using n) ⟨.str ⟨#[c]⟩,H,I.tok _,⟨_,rfl⟩,q⟩) A
abbrev D6 (K:Ö):R2:=fun x y H Q=>D2 K x y H Q\/D4 K x y H Q\/D5 x y H Q
def a8h:bx X (D6 X.K):=G3.or<|ji.or a8i
def a8d lo c n:(ϭ lo c a7 n).1=((HT.sIx n 0 lo:Nat):Int)/\(ϭ lo c a7 n).2.1=((HT.sIx n n c:Nat):Int)/\(ϭ lo c a7 n).2.2=1:=by
 show⟨?_,?_,rfl⟩
 .cases lo with
  |none=>simp[ϭ,HT.sIx]|some i=>
   simp only[ϭ,HT.sIx,RR,show(1:Int)>0 by decide,if_true];by_cases h:i<0
   .simp only[h,if_true]<;>lia
   .simp only[h,if_false]<;>lia
 .cases c with
  |none=>simp[ϭ,HT.sIx]|some i=>
   simp only[ϭ,HT.sIx,RR,show(1:Int)>0 by decide,if_true];by_cases h:i<0
   .simp only[h,if_true]<;>lia
   .simp only[h,if_false]<;>lia
def a8Z(its:gq)lo c:M9 its.toArray lo c a7=((its.drop<|HT.sIx its.length 0 lo).take<|HT.sIx its.length its.length c-HT.sIx its.length 0 lo).toArray:=by obtain⟨d,e,g⟩:=a8d lo c its.toArray.size;unfold M9;rw[d,e,g];simp only[sliceRange_one,pick_run,ñ]<;>rfl
abbrev Aw(K:Ö):V->Option Int->Option Int->Hp->VK->Prop:=λx lo c H Q=>∃a xs,x=.ref a/\č K H a xs/\∀p,H p=a7->Q (.ref p) (aK H p<|.lst<|n9 xs lo c)
def a8Y:Ar X (Aw X.K):=by intro j s B H x v z A e g y Q I u k o p h;obtain⟨a,c,rfl,l,q⟩:=h;cases u;obtain⟨n,r,i,m⟩:=I.list l;have d:=r.length;show⟨"list",_,OV.lookup,i.isList.typeIs,?_⟩;show Qy i.isList k o p .none (by simp) ?_ (by rw[ñ]<;>lia);rw[a8Z,<- d];show⟨.ref s.heap.objs.size,_,I.laid (t':=s.toks) (o:=.lst (n9 c e g)) (λb w q=>æ _ q) (Õ _) ?_,rfl,q _<|I.hok.fresh<|Õ _⟩;show⟨Đ (a7D c e g) m,_,0,(r.drop<|HT.sIx c.length 0 e).take<|HT.sIx c.length c.length g-HT.sIx c.length 0 e,ē _ rfl⟩
def D7:Ĕ X (ĺ .NotIn) (λx y H Q=>∃i j,x=.str i/\y=.str j/\Q (.bl<|!(!(iz j i 0 j.length 1).isEmpty)) H):=by intro c s k H x y v u Q I d e h;obtain⟨i,j,rfl,rfl,q⟩:=h;obtain⟨t,rfl⟩:=d;obtain⟨g,rfl⟩:=e;show notIn_str ⟨.bl _,H,I,rfl,q⟩
def Ť:ì X (.builtin "len") (λxs H Q=>∃p ys,xs=[.ref p]/\(č X.K H p ys\/î X.K H p ys)/\Q (.int ys.length) H):=by
 intro j s o H xs n Q I r h;obtain⟨p,ys,rfl,d,q⟩:=h;obtain⟨u,rfl,l⟩:=iV r;cases l;have m:=pP;rcases d with d|d
 .obtain⟨e,i,g,k⟩:=I.list d;have c:=i.length;show Calls.call_len_list g.isList (by simp only[ñ]<;>lia) ⟨.int ys.length,H,I.tok _,⟨s.toks+1,by rw[ñ,c]⟩,q⟩
 .obtain⟨e,i,g,k⟩:=I.tuple d;have c:=i.length;show len_tuple g (by simp only[ñ]<;>lia) ⟨.int ys.length,H,I.tok _,⟨s.toks+1,by rw[ñ,c]⟩,q⟩
def a8Q:ì X (.builtin "len") (λxs H Q=>∃z,xs=[.str z]/\z.length<=Ñ/\Q (.int z.length) H):=by intro c s i H xs g Q I r h;obtain⟨z,rfl,e,q⟩:=h;obtain⟨u,rfl,t,rfl⟩:=iV r;have d:=pP;show len_str ⋯ ⟨.int z.length,H,I.tok _,⟨_,rfl⟩,q⟩
def ì.or(h:ì X f r)(h':ì X f d):ì X f (λxs H Q=>r xs H Q\/d xs H Q):=by
 intro c s g H xs e Q I rs q;rcases q with q|q
 .show h c s g H xs e Q I rs q
 .show h' c s g H xs e Q I rs q
def D8:ì X (.type "tuple") (λxs H Q=>∃p ys,xs=[.ref p]/\((č X.K H p ys/\∀l,H l=a7->Q (.ref l) (aK H l<|.tup ys))\/(î X.K H p ys/\Q (.ref p) H))):=by
 intro d s w H xs A Q I r h;obtain⟨p,ys,rfl,h⟩:=h;obtain⟨u,rfl,z⟩:=iV r;cases z;rcases h with⟨i,q⟩|⟨i,q⟩
 .obtain⟨c,k,j,v⟩:=I.list i;have n:=k.length;show call_tuple_list j.isList (λg y=>?_) (by simp only[ñ]<;>lia);have m:Inv X d w H {s with heap:=g}:=I.kept (t':=s.toks) y;have x:Inv X d w (aK H g.objs.size<|.tup ys) {s with heap:=g.push {cls:=.type "tuple",data:=.seq c.toArray}}:=
   m.laid (t':=s.toks) (λb o e=>æ _ e) (Õ _)<|show â X.prog X.w _ _ _ (.tup ys)from⟨v,c,k,ų.new _ _⟩
  show⟨.ref g.objs.size,_,x,rfl,q _<|m.hok.fresh<|Õ _⟩
 .obtain⟨c,k,j,v⟩:=I.tuple i;show call_tuple_same j ⟨.ref p,H,I,rfl,q⟩
abbrev wM(K:Ö)(T:String)(x:V)(H:Hp):Prop:=match x with
 |.str _=>T="str"|.int _=>T="int"|.ref p=>(T="list"/\∃d,č K H p d)\/(T="tuple"/\∃o,K.lookup p=a0 o/\o.cls=.type "tuple"/\o.dict=a7) \/
   (T="dict"/\((∃c,H p=a0 (.dK c))\/∃c,H p=a0 (.dT c)))\/(T="set"/\∃S n,H p=a0 (.set S n))
 |_=>False
def D9{σ:St}(I:Inv X Dn σ H s)(r:Ì x v)(ty:wM X.K T x H):
  s.TypeIs v T/\∀a,v=.ref a->∃k,s.heap.get? a=a0 k/\k.dict=none:=by
 cases x with
 |str z=>obtain⟨t,rfl⟩:=r;cases(show T="str" from ty);show⟨typeIs_str s z t,λ_ e=>nomatch e⟩|int i=>obtain⟨t,rfl⟩:=r;cases(show T="int" from ty);show⟨typeIs_int s i t,λ_ e=>nomatch e⟩|ref p=>
  cases r;rcases ty with⟨rfl,u,m⟩|⟨rfl,o,d,hc,hd⟩|⟨rfl,d⟩|⟨rfl,S,n,d⟩
  .obtain⟨q,_,l,_⟩:=I.list m;show⟨l.isList.typeIs,λa e=>?_⟩;cases e;obtain⟨o,n,e,c,hd,_⟩:=l;show⟨o,e,hd⟩
  .show⟨⟨o,I.kIn p o d,hc⟩,λa e=>?_⟩;cases e;show⟨o,I.kIn _ o d,hd⟩
  .have z:∃o,s.heap.get? p=a0 o/\o.ExactDict:=by
    rcases d with⟨j,d⟩|⟨j,d⟩
    .obtain⟨_,_,_,_,o,_,_,e,g,_⟩:=I.hok p _ d;show⟨o,e,g⟩
    .obtain⟨_,_,_,_,o,_,_,e,g,_⟩:=I.hok p _ d;show⟨o,e,g⟩
   obtain⟨o,e,g⟩:=z;show⟨⟨o,e,g.1⟩,λa h=>?_⟩;cases h;show⟨o,e,g.2.1⟩
  .obtain⟨o,_,_,_,e,g,_⟩:=I.hok p _ d;show⟨⟨o,e,g.1⟩,λa h=>?_⟩;cases h;show⟨o,e,g.2.1⟩
 |_=>show Φ ty
abbrev Ea(K:Ö)(T:String)(r:V->gw->Hp->VK->Prop)(to:TE):TE:=λσ H Q=>to σ H λx c=>wM K T x c/\r x [] c Q
abbrev Eb(K:Ö)(T:String)(r:V->gw->Hp->VK->Prop)(to:TE)(t:TA):TE:=λσ H Q=>to σ H λx c=>wM K T x c/\t σ c λxs d=>r x xs d Q
def a8P{id:String}(y:PlainAttrs T)(i:Slot T name id)(j:qx (.builtin id)=pure (.type "method_descriptor"))(u:D1 X id r)(w:PE X o to)(c:ω o name X.env (eval o X.env)=eval o X.env:=by rfl)(d:(apos.endLine==cpos.line)=true:=by rfl):PE X (.Call (.Attribute o name apos) [] [] cpos) (Ea X.K T r to):=by
 intro g s m H Q I h;show pq c d<|aQ (w g s m H _ I h) λv A ⟨x,n,k,l,ty,z⟩=>?_;obtain⟨p,q⟩:=D9 k l ty;show⟨T,id,y,i,j,p,q,bu rfl<|qi<|u g A m n x [] v [] Q k l .nil z⟩
def a8O{id:String}(L:PlainAttrs T)(k:Slot T name id)(l:qx (.builtin id)=pure (.type "method_descriptor"))(E:D1 X id r)(G:PE X o to)(B:PA X (e::es) t)(g:ω o name X.env (eval o X.env)=eval o X.env:=by rfl)(j:((Ŋ cpos (ă (e::es) X.env)).all (λx=>!x.1)&&(jt cpos (ju [] X.env)).all (λx=>x.1.isSome)
   && decide ((e::es).length+([]:List Γ).length+(if([]:List Γ).isEmpty then 0 else 1)<30))=true:=by rfl)(i:(apos.endLine==cpos.line)=true:=by rfl)(K:ă (e::es) X.env=(a8,eval e X.env)::ă es X.env:=by rfl)(c:(Ŋ cpos (ă es X.env)).any (·.1)=false:=by rfl):
  PE X (.Call (.Attribute o name apos) (e::es) [] cpos) (Eb X.K T r to t):=by
 intro d s m H Q I h;show RJ g j i rfl (aQ (G d s m H _ I h) λv R ⟨x,u,n,q,ty,M⟩=>?_);obtain⟨z,A⟩:=D9 n q ty;show⟨T,id,L,k,l,z,A,?_⟩;have p:=B cpos d R m u _ n M;rw[K]at p ⊢;show bu (by change(a8||(Ŋ cpos (ă es X.env)).any (·.1))=a8;rw[c]<;>rfl) (Ro ?_);show aQ p λY U ⟨Z,w,y,O,N⟩=>E d U m w x Z v Y Q y q O N
abbrev kQ(X:Cx)(id:String)(r:V->gw->Hp->VK->Prop):Prop:=
 ∀(Dn:jw)(s:Ï)(σ:St)(H:Hp)(x:V)(xs:gw)(v:Value)(us:gq)(Q:VK),Inv X Dn σ H s->Ì x v->Ä xs us->r x xs H Q->
  Ç (É X.prog X.w) X.A (call (.builtin id)<|v::us) (EP X Dn σ Q) X.xe s
def Ä.one(h:Ä [x] us):∃u,us=[u]/\Ì x u:=by
 cases h with
 |cons r t=>cases t;show⟨_,rfl,r⟩
def Ä.two(h:Ä [x,y] us):∃u v,us=[u,v]/\Ì x u/\Ì y v:=by
 cases h with
 |cons r t=>obtain⟨v,rfl,q⟩:=Ä.one t;show⟨_,v,rfl,r,q⟩
def Ä.zero:∀{us},Ä [] us->us=[]
 |_,.nil=>rfl
def Ä.dropLast(h:Ä xs us):Ä xs.dropLast us.dropLast:=by
 induction h with
 |nil=>show .nil|cons r t a=>
  cases t with
  |nil=>show .nil|cons q b=>show .cons r a
def a8I{d:Type}(l:List d):l.eraseIdx (l.length-1)=l.dropLast:=by
 induction l with
 |nil=>rfl|cons a r c=>
  cases r with
  |nil=>rfl|cons b r=>
   have e:(a::b::r).length-1=((b::r).length-1)+1:=by have g:(a::b::r).length=r.length+2:=rfl;have h:(b::r).length=r.length+1:=rfl;lia
   rw[e,List.eraseIdx_cons_succ,c];all_goals rfl
def Inv.lset{σ:St}{its:gq}(I:Inv X Dn σ H s)(a:H l=a0 (.lst xs))(e:s.heap.get? l=a0 {cls:=.type "list",data:=.seq its.toArray n})(d:f its.toArray=its'.toArray)(h:Ä ys its')(hz:ys.length<=Ñ):
  Inv X Dn σ (aK H l<|.lst ys) {s with heap:=s.heap.update l<|a3n f,toks:=t'}:=by
 have q:=PySem.IsL.update e f;rw[d]at q;show I.write (x:=l) (e:=l) (by rw[a];show trivial) (.inl rfl) (λi u c g=>(gr s.heap (a3n f)<|ć c).trans g) ⟨_,q⟩ ?_;show⟨hz,its',_,h,q⟩
def Inv.lnew{σ:St}(I:Inv X Dn σ H s)(a:Ä ys its)(hz:ys.length<=Ñ):
  Inv X Dn σ (aK H s.heap.objs.size<|.lst ys) {s with heap:=s.heap.push {cls:=.type "list",data:=.seq its.toArray},toks:=t'}:=
 I.laid (λ_ _ q=>æ _ q) (Õ _) ⟨hz,its,0,a,ē _ rfl⟩
def Inv.fresh{σ:St}(I:Inv X Dn σ H s):H s.heap.objs.size=none:=I.hok.fresh<|Õ _
def Inv.lstM{σ:St}(I:Inv X Dn σ H s)(a:H l=a0 (.lst xs)):xs.length<=Ñ/\∃(its:gq)(n:Nat),Ä xs its/\xs.length=its.length/\s.heap.get? l=a0 {cls:=.type "list",data:=.seq its.toArray n}:=by obtain⟨z,its,n,r,e⟩:=I.hok l _ a;show⟨z,its,n,r,r.length,e⟩
def a8G(h:n<=Ñ):P2 n=false:=by unfold P2;show decide_eq_false<|by lia
abbrev Ec:V->gw->Hp->VK->Prop:=λx vs H Q=>∃l xs y,x=.ref l/\vs=[y]/\H l=a0 (.lst xs)/\xs.length<Ñ/\Q .non (aK H l<|.lst<|xs++[y])
def Ed:kQ X "list.append" Ec:=by intro c s w H x o v m Q I i g h;obtain⟨l,p,y,rfl,rfl,b,k,q⟩:=h;cases i;obtain⟨u,rfl,d⟩:=g.one;obtain⟨z,a,n,r,j,e⟩:=I.lstM b;show jy F.slot_list_append ⟨_,e,rfl⟩ F.entry_list_append (F.args_list_append_2 _ _) (PySem.list_append l a.toArray n u<|by rw[ñ];lia) ⟨e,?_⟩;show⟨.non,_,I.lset (its':=a++[u]) b e (by simp) (r.append<|.cons d .nil) ?_,rfl,q⟩;rw[å,ϸ];lia
abbrev Ee:V->gw->Hp->VK->Prop:=λx vs H Q=>∃l b xs a,x=.ref l/\vs=[.ref b]/\H l=a0 (.lst xs)/\H b=a0 (.lst a)/\xs.length+a.length<=Ñ/\Q .non (aK H l<|.lst<|xs++a)
def a8F:kQ X "list.extend" Ee:=by
 intro j s R H x L v K Q I B A h;obtain⟨l,b,M,O,rfl,rfl,i,m,G,q⟩:=h;cases B;obtain⟨u,rfl,y⟩:=A.one;cases y;obtain⟨z,c,n,r,E,e⟩:=I.lstM i;obtain⟨N,a,p,w,o,k⟩:=I.lstM m;have g:c.toArray.size+a.toArray.size<=Ñ:=by rw[ñ,ñ];lia
 have d:¬ (!c.toArray.isEmpty&&P2 (c.toArray.size+a.toArray.size))=true:=by rw[a8G g,Bool.and_false];show Ī
 show jy F.slot_list_extend ⟨_,e,rfl⟩ F.entry_list_extend (F.args_list_extend_2 _ _)
  (AutoSeq1.list_extend_list_list_0 l c.toArray n b a.toArray p d (by rw[ñ];lia)<|by lia) ⟨e,k,?_⟩
 show⟨.non,_,I.lset (its':=c++a) i e (by simp) (r.append w) ?_,rfl,q⟩;rw[å];lia
abbrev Ef:V->gw->Hp->VK->Prop:=λx vs H Q=>∃l xs y,x=.ref l/\vs=[]/\H l=a0 (.lst xs)/\xs[xs.length-1]?=a0 y/\Q y (aK H l<|.lst xs.dropLast)
def a8E:kQ X "list.pop" Ef:=by
 intro g s E H x A v w Q I p o h;obtain⟨l,B,y,rfl,rfl,d,k,q⟩:=h;cases p;have b:=o.zero;subst b;obtain⟨z,a,n,r,i,e⟩:=I.lstM d;obtain⟨u,j,m⟩:=r.get k;have c:a.toArray[a.toArray.size-1]?=a0 u:=by change a.toArray[a.length-1]?=a0 u;rw[<- γ,<- i];show j
 show jy F.slot_list_pop ⟨_,e,rfl⟩ F.entry_list_pop (F.args_list_pop_1 _) (MeetsSeq.list_pop_last l a.toArray n u c<|by rw[ñ];lia) ⟨e,?_⟩;show⟨y,_,I.lset (its':=a.dropLast) d e ?_ r.dropLast ?_,m,q⟩
 .change a.toArray.eraseIdxIfInBounds (a.toArray.size-1)=a.dropLast.toArray;rw[ñ,List.eraseIdxIfInBounds_toArray,a8I]
 .rw[List.length_dropLast];lia
abbrev Eg:V->gw->Hp->VK->Prop:=λx vs H Q=>∃l xs,x=.ref l/\vs=[]/\H l=a0 (.lst xs)/\Q .non (aK H l<|.lst [])
def a8D:kQ X "list.clear" Eg:=by intro d s p H x m v k Q I i g h;obtain⟨l,o,rfl,rfl,c,q⟩:=h;cases i;have a:=g.zero;subst a;obtain⟨z,b,n,r,j,e⟩:=I.lstM c;show jy F.slot_list_clear ⟨_,e,rfl⟩ F.entry_list_clear (F.args_list_clear_1 _) (AutoSeq1.list_clear_list_0 l b.toArray n<|by rw[ñ];lia) ⟨e,?_⟩;show⟨.non,_,I.lset (its':=[]) (ys:=[]) c e rfl .nil<|Ģ _,rfl,q⟩
abbrev Eh:R2:=λx y H Q=>∃l b xs a,x=.ref l/\y=.ref b/\H l=a0 (.lst xs)/\H b=a0 (.lst a)/\xs.length+a.length<=Ñ/\∀p,H p=a7->Q (.ref p) (aK H p<|.lst<|xs++a)
def a8C:Ĕ X (Τ .Add) Eh:=by
 intro d s M H x y v u Q I p w h;obtain⟨l,b,G,L,rfl,rfl,k,j,B,q⟩:=h;cases p;cases w;obtain⟨z,c,n,r,A,e⟩:=I.lstM k;obtain⟨K,a,E,o,m,g⟩:=I.lstM j;show PySem.P.add_list e g ?_ (by rw[ñ,ñ];lia);have i:c.toArray++a.toArray=(c++a).toArray:=by simp
 rw[i];show⟨.ref _,_,I.lnew (t':=s.toks) (r.append o)<|by rw[å];lia,rfl,q _ I.fresh⟩
end L2
namespace Att
open PySem PySem.W PySem.Calls PyProof.Rows
def a8B:∀ns(vs:gq),WellAll P h vs (ns.map uo)->ŭ vs ns:=by
 intro ns;induction ns with
 |nil=>intro vs w;rw[Ϣ]at w;cases w;show .nil|cons n ns c=>
  intro vs w;rw[ù]at w;cases w with
  |cons a b=>cases a;show .cons _ _<|c _ b
def script_of{l:OpenLaw}(w:l.most=a0 n){e:gq}(c:l.row.toRowW.claim.pre args=a9)(o:WellAll P h e args):
  ∃a p b,e=[Ò a]/\args=[WData.list<|b.map uo]/\h.get? a=a0 {cls:=.type "list",data:=.seq p.toArray}/\ŭ p b/\b.length<=n:=by
 have m:WShape.hasAll [] args [.list .int]=true:=(pre_splitW c).1;have hc:l.pre.holds [] {args:=args}=true:=(pre_splitW c).2;obtain⟨d,r,rfl,s,u⟩:=hasAllW_cons m;obtain rfl:=hasAllW_nil u;obtain⟨B,rfl,v⟩:=hasW_list s;obtain⟨b,rfl⟩:=items_int v;have i:b.length<=n:=by
  unfold OpenLaw.pre at hc;have j:(WTm.not<|.lt (.lit<|.int (n:Int))<|.len<|.arg 0).holds [] {args:=[.list<|b.map .int]}=true:=by have j:=(holds_andW hc).1;rw[w]at j;show j
  have k:=condW_of j<|w_not<|w_lt w_lit<|w_len_list<|w_arg rfl;rw[Å]at k;show a6g λq=>?_;have y:(n:Int)<((b.length:Nat):Int):=by lia
  first
   |(rw[decide_eq_true y]at k;show absurd k<|by decide)|(simp at k;lia)
 cases o with
 |cons z A=>
  cases A;cases z with
  |list x g=>show⟨_,_,b,rfl,rfl,x,a8B b _ g,i⟩
def post_true(l:OpenLaw)args:l.row.toRowW.claim.post args (.bool a9) args=true:=
 postW_of (r:=l.row.toRowW) (X:=(a9==a9))
  (show Pp [] (.bool a9) .bool=a9 by first|rfl|decide|simp[Pp,WShape.arms,WShape.armsAll])
  (show(WTm.eq .res<|.lit<|.bool a9).value [] {args:=args,res:=a0<|.bool a9,after:=args}=a0 (.bool<|a9==a9)from w_eq_bool (w_res rfl) w_lit) rfl
end Att
namespace L2
open PySem PySem.Spec PyProof.Rows
def Ax:∀{vs:gq}{ns},ŭ vs ns->Ä (ns.map V.int) vs
 |_,_,.nil=>.nil|_,_,.cons n t h=>.cons ⟨t,rfl⟩<|Ax h
abbrev Ei(H:Hp):Prop:=∀b,H b=a7\/∃o xs,H b=a0 (.frz o<|.lst xs)
def law_call{K:Ö}{vs:gq}(KX:K.In c.heap)(G:c.heap.Ns Ũ mg)(g:c.heap.Ns Ng Z)(U:∀x:Str,x ≠ "__name__"->Z x=Ε x)(E:c.heap.NoLimit)(hg:c.gens=#[])(O:c.heap.get? a=a0 {cls:=.type "list",data:=.seq vs.toArray})(hi:ŭ vs ns)(hl:ns.length<=Ñ)(hr:ç k jn)(F:∀i,K.In i->i.Ns Ũ mg->ļ P w K mg i CX k R fd [x] sp)(y:∀s u,jm s fd ⟨[u],[]⟩ [(x,u)])(Y:∀H,Ei H->č K H a (ns.map V.int)->sp [.ref a] H (λv _=>v=.bl a9) λ_ _ _=>False)(T:∀H e j,CX [] H c (λ_ _ _=>False) e j->False):
  Ρ (É P w) jn (.call (.ref R) ⟨[.ref a],[]⟩) (λr j=>r=.ok (.ret<|.bool a9)/\OldK c.heap j.heap/\j.os=c.os/\dg j.gens) c:=by
 have rv:=Ax hi;have M:=hi.length
  -- from an abstract heap in which nothing but the script may be tracked
 have p:∀H:Hp,Ei H->č K H a (ns.map V.int)->ŗ P w H c.heap->(∀b,H b≠a7->b=a)->(H a≠a7->K.lookup a=a7)->
   Ρ (É P w) jn (.call (.ref R) ⟨[.ref a],[]⟩) (λr j=>r=.ok (.ret<|.bool a9)/\OldK c.heap j.heap/\j.os=c.os/\dg j.gens) c:=by
  intro H hO hS I hA hK;have jR:∀{b:Addr}{o:Obj},c.heap.get? b=a0 o->H b=a7->(mR c.heap H).get? b=a0 o:=λe n=>a8s e n;have noA:∀{b:Addr}{o:Obj}{es:Array DictEntry}{ep:Nat},c.heap.get? b=a0 o->o.data=.dict es ep->H b=none:=λ{b o es ep} e d=>by
   cases q:H b with
   |none=>rfl|some u=>have Q:b=a:=hA b (by rw[q];simp);subst Q;rw[O]at e;cases e;have d':MH vs.toArray _=Ϫ es ep:=d;cases d'
  have l:∀{b:Addr}{m:Str->Option Value},c.heap.Ns b m->(mR c.heap H).Ns b m:=λ{b m} ⟨o,es,ep,e,d,r⟩=>⟨o,es,ep,jR e<|noA e d,d,r⟩;have B:K.In (mR c.heap H):=λb o e=>jR (KX b o e)<|by
   cases q:H b with
   |none=>rfl|some u=>
    have Q:b=a:=hA b (by rw[q];simp);subst Q;rw[hK<|by rw[q];simp]at e;cases e
  have hM:Mod K mg (mR c.heap H):=⟨B,l G,⟨Z,l g,U⟩,let⟨mc,h1,h2⟩:=E;⟨mc,l h1,h2⟩⟩;have e0:cg P w K mg (mR c.heap H) jn [] c H:=⟨rfl,hM,λb o e=>a8r e,lu<|a8v _ _,trivial,λb g=>absurd (show b∈([]:List Addr)from g)<|by simp,I,.of_eq hg⟩;show MW ((F _ B<|l G).run jn [] c H ⟨[.ref a],[]⟩ [.ref a] [.ref a] _ _ hr e0 (y c<|.ref a) (.cons rfl .nil)<|Y H hO hS) λr j h=>?_;cases r with
  |error e=>show(T H e j h).elim|ok fl=>
   cases fl with
   |next=>show Φ h|brk=>show Φ h|cont=>show Φ h|ret u=>
    obtain⟨v,H',os,A,un,L,r',q⟩:=h;have q':v=.bl true:=q;subst q';obtain rfl:u=Ÿ true:=r';show⟨rfl,OldK.of_keep λb o e=>?_,os,A⟩;cases q:H b with
    |none=>show un.keep b o e q (by intro z;show absurd (show b∈([]:List Addr)from z)<|by simp) (by simp)|some u=>
     rcases hO b with z|⟨ob,xs,z⟩
     .rw[q]at z;cases z
     .have z2:=un.frzs b ob _ z;obtain⟨e1,_⟩:=I b _ z;obtain⟨e2,_⟩:=L b _ z2;rw[e]at e1;cases e1;show e2
 cases X:K.lookup a with
 |some o=>-- the script is one of the module's own objects
  have e:=KX a o X;rw[O]at e;cases e;show p (λ_=>a7) (λ_=>.inl rfl) (.inr ⟨_,vs.toArray,_,X,rfl,rfl,rfl,by rw[ñ,M];show hl,by simpa using rv⟩) (λb u z=>by have N:(a7:Option HO)=a0 u:=z;cases N) (λb z=>absurd rfl z) λz=>absurd rfl z
 |none=>
  show p (λb=>if b=a then a0 (.frz {cls:=.type "list",data:=.seq vs.toArray}<|.lst<|ns.map V.int)else a7) (λb=>?_) (.inl<|.inr ⟨{cls:=.type "list",data:=.seq vs.toArray},if_pos rfl⟩) (λb u z=>?_) (λb z=>?_) λ_=>X
  .by_cases g:b=a
   .show .inr ⟨_,_,if_pos g⟩
   .show .inl<|if_neg g
  .by_cases g:b=a
   .have N:=(if_pos g).symm.trans z;cases N;subst g;show⟨O,by rw[Å];show hl,vs,_,rv,O⟩
   .have N:=(if_neg g).symm.trans z;cases N
  .by_cases g:b=a
   .show g
   .show absurd (if_neg g) z
abbrev jY(s:Stmt):Arguments:=match s with
 |.FunctionDef _ a _ _ _ _ _ _ _ _=>a|_=>{posonlyargs:=[],args:=[],vararg:=a7,kwonlyargs:=[],kw_defaults:=[],kwarg:=a7,defaults:=[]}
abbrev gG(s:Stmt):List Stmt:=match s with
 |.FunctionDef _ _ b _ _ _ _ _ _ _=>b|_=>[]
abbrev cW(s:Stmt):Δ:=match s with
 |.FunctionDef _ _ _ _ _ _ sc _ _ _=>sc|_=>{kind:=.function,names:=[],isGenerator:=a8,isCoroutine:=a8}
noncomputable abbrev iI:lP:=λ_ _ _ _ _ _=>False
noncomputable abbrev E0:XK:=λ_ _ _=>False
def Ej:wJ iI X E0:=λ_ _ _ _ _ _ _ h=>h.elim
structure ϓ(K:Ö)(x qual:Str)(st:Stmt)(f:Addr)(fd:nA):Prop where
 ex:∃(oc:Value)(od:Option Addr)(dV kV doc pm:Value)(an:Option Addr)(cdv ct:Value)(osl:Array (Option Value)),
  fd=ν x qual (jY st) (gG st) (cW st) dV kV doc pm an cdv ct/\K.lookup f=a0 ⟨oc,od,.func fd,osl⟩/\Mu K cdv qual=a9
 kp:Ϟ K (.ref f)=a9
def ϓ.ok{K:Ö}{st:Stmt}(F:ϓ K x a st f g)(S:ī N ps (cW st))(len:∀vs H Q E,sp vs H Q E->vs.length=ps.length)(c:∀b A outer s H(vs:gw)Q E,ç k (A.deeper<|envOfC a (cW st) s.heap.objs.size f b)->sp vs H Q E->
   ∃t,Ŗ (mS iI P w K mg base N a (cW st) f b A outer s H E).nox (gG st) t/\t {nx:=λ_ i=>Q .non i,rt:=Q} (start N vs) H):ļ P w K mg base iI (k+1) f g ps sp:=by
 obtain⟨p,r,o,kV,j,u,n,b,ct,m,rfl,lk,d⟩:=F.ex;show a5h lk d S len λA outer s H vs Q E l e=>?_;obtain⟨t,h,q⟩:=c b A outer s H vs Q E l e;show⟨t,h.nox,q⟩
def a8A{K:Ö}{st:Stmt}{kV:Value}(l:K.lookup f=a0 ⟨i,j,.func<|ν x a (jY st) (gG st) (cW st) g kV d h an b ct,e⟩)(c:Mu K b a=a9)(k:Ϟ K (.ref f)=a9):ϓ K x a st f (ν x a (jY st) (gG st) (cW st) g kV d h an b ct):=⟨⟨i,j,g,kV,d,h,an,b,ct,e,rfl,l,c⟩,k⟩
def a7y(a:ç k A):A.units+1<Ĉ:=vh (RQ (by decide:1<=64) _) a.units
def oA{A:Prop}(h:B):if a8=a9 then A else B:=by rw[if_neg Ī];show h
def oB{A:Prop}(h:A):if a9=a9 then A else B:=by rw[if_pos rfl];show h
section
variable{κ:Type} [DecidableEq κ]
end
end L2
namespace L3
open PySem PySem.W
def left_cut{Yf:Ï → R}{Ya:Į → R}{hA hB hC hD:ξ → Č}(i:∀w,(fencedOpening Ź p w N).map (λs=>(s.heap,s.gens,s.drawn,s.toks))=a0 (ϫ w.params,ĕ [],ŋ,xr))(x:∀w:Į,((ϫ w.params).isNs Ũ,(ϫ w.params).objs.size,(ϫ w.params).nsMap Ũ "__annotations__")=(a9,b,g))(z:∀w a,topGo Ź p w b g u ⟨ϫ w.params,ĕ [],ŋ,xr,a⟩ (topStub p)=a0 (⟨hA w.params,ĕ [],ŋ,kA,a⟩,⟨denote Ź<|.body (ķ p) env,.body (ķ p) env,H,[Ϝ j]⟩))(y:∀w a,dM Ź p w b g 1 l ⟨hA w.params,ĕ [],ŋ,kA,a⟩ (blockOf (ķ p) env (.body (ķ p) env) H [Ϝ j])=a0 (.next,⟨hA w.params,ĕ [],ŋ,kA,a⟩,.body (ķ p) env,v))(s1:∀w a,dM Ź p w b g 1 m ⟨hA w.params,ĕ [],ŋ,kA,a⟩ (qz ((ķ p).take i1) env (.body (ķ p) env) v [Ϝ j])=a0 (.next,⟨hB w.params,ĕ [],ŋ,B,a⟩,.body (ķ p) env,I))(s2:∀w a,dM Ź p w b g 1 n ⟨hB w.params,ĕ [],ŋ,B,a⟩ (qz (((ķ p).drop i1).take i2) env (.body (ķ p) env) I [Ϝ j])=a0 (.next,⟨hC w.params,ĕ [],ŋ,E,a⟩,.body (ķ p) env,K))(s3:∀w a,dM Ź p w b g 1 o ⟨hC w.params,ĕ [],ŋ,E,a⟩ (qz ((((ķ p).drop i1).drop i2).take i3) env (.body (ķ p) env) K [Ϝ j])=a0 (.next,⟨hD w.params,ĕ [],ŋ,G,a⟩,.body (ķ p) env,L))(fin:∀w a,((topRun Ź p w b g n4 ⟨hD w.params,ĕ [],ŋ,G,a⟩<|restOf ((((ķ p).drop i1).drop i2).drop i3) env (.body (ķ p) env) L [Ϝ j]).bind λc=>match staticsOk (Q0 p.main.body) (ϫ w.params) c.heap&&namesBound p c.heap&&gensDone c&&laidKept (ϫ w.params) c.heap with
   |true=>a0 c
   |false=>a7).map (λs=>(openSeen q loose (Q0 p.main.body) Xt A s,Yf s))=a0 (openGood q loose,Ya w))(le:Nat.ble (u+(l+(m+(n+(o+n4))))) N=a9):LeftO p q loose Xt Yf Ya N A:=λw=>by
 obtain⟨⟨h,U,d,k,a⟩,e,T⟩:=Ō.mp<|i w;obtain⟨rfl,rfl,rfl,rfl⟩:h=ϫ w.params ∧ U=ĕ [] ∧ d=ŋ ∧ k=xr:=by simpa using T
 obtain⟨z1,z2,z3⟩:_ ∧ _ ∧ _:=by simpa only[OT]using x w
 obtain⟨s,Z,hv⟩:=Ō.mp<|fin w a;obtain⟨c,X,Y⟩:=œ.mp Z;have Q:=Nf (s3 w a) X;rw[ž]at Q;have O:=Nf (s2 w a) Q;rw[ž]at O;have M:=Nf (s1 w a) O;rw[ž]at M;have r0:=go_top (z w a)<|piece_block (y w a) M;have r:=topRun_mono (N-(u+(l+(m+(n+(o+n4)))))) _ _ _ _ r0;rw[show u+(l+(m+(n+(o+n4))))+(N-(u+(l+(m+(n+(o+n4))))))=N by have:=Nat.le_of_ble_eq_true le;lia]at r;have t:topFrom Ź p w N ⟨ϫ w.params,ĕ [],ŋ,xr,a⟩=a0 s:=by unfold topFrom;dsimp only;rw[z1,z2,z3,r];show Y
 unfold openEnds;rw[e];change(topFrom Ź p w N _).map _=_;rw[t];show congrArg a0 hv
end L3
namespace Lw
open PySem L2
abbrev aJ(i:Nat):Stmt:=Dr.main.body.getD i<|.Pass ⟨0,0,0,0⟩
abbrev rL(i j:Nat):Stmt:=match aJ i with|.ClassDef _ _ _ b _ _ _ _ _ _ _=>b.getD j (.Pass ⟨0,0,0,0⟩)|_=>.Pass ⟨0,0,0,0⟩
abbrev Vw:ł:={Dr with main:={Dr.main with body:=aJ 1::aJ 2::aJ 3::aJ 4::aJ 5::aJ 6::aJ 8::aJ 9::aJ 10::aJ 11::aJ 12::aJ 13::aJ 14::aJ 15::aJ 16::aJ 17::aJ 18::aJ 19::aJ 20::aJ 21::aJ 23::aJ 24::aJ 25::aJ 26::aJ 27::aJ 28::aJ 29::aJ 30::aJ 31::aJ 32::aJ 33::aJ 34::aJ 36::aJ 37::aJ 39::aJ 41::aJ 42::aJ 43::aJ 44::aJ 46::aJ 47::aJ 48::aJ 49::aJ 50::aJ 52::aJ 53::aJ 55::aJ 56::aJ 57::aJ 58::aJ 60::aJ 61::aJ 62::aJ 63::aJ 64::aJ 65::aJ 66::aJ 67::aJ 68::aJ 69::aJ 70::aJ 71::aJ 72::aJ 73::aJ 74::aJ 75::[]}}
noncomputable abbrev vS(x:String)(n:Nat):Value:=MK (Ż x) n
noncomputable abbrev vI(i:Int):Value:=Ġ i 0
noncomputable abbrev vR(a:Addr):Value:=Ò a
noncomputable abbrev vN:Value:=ş
noncomputable abbrev cO(fs:Array Value):Obj:={cls:=ü "code",data:=Ŀ fs}
noncomputable abbrev kO(x y:String)(a b c:Nat)(l n i j k:Int)(r:Addr)(q:Int)(vs:Array Value)(t d:Int)(e:Nat):Obj:={cls:=ü "code",data:=Ŀ<|#[vS x a,vS x b,vS y c,vI l,vI n,vI i,vI j,vI k,vR r,Ÿ a9,vI q]++vs++#[vI t,vI d,vS y e]}
noncomputable abbrev tO(fs:Array Value):Obj:={cls:=ü "tuple",data:=MH fs}
noncomputable abbrev fO(x:Str)(n:Nat)(m:Value)(c:Addr):Obj:=⟨ü "function",a7,.func<|ν x x (jY<|aJ n) (gG<|aJ n) (cW<|aJ n) ş ş ş m a7 (Ò c) ş,#[]⟩
noncomputable abbrev eO(P:ξ)(x:String)(n:Nat)(v:Value):DictEntry:={hash:=PyData.keyHash P<|Ż x,key:=MK (Ż x) n,val:=v}
noncomputable abbrev eR(P:ξ)(x:String)(n:Nat)(a:Addr):DictEntry:=eO P x n<|vR a
noncomputable abbrev kA(p:Addr×Obj)(R:Ö):Ö:=p::R
abbrev Ek:List String → Nat → List Value
 |[],_=>[]|x::xs,n=>vS x n::Ek xs (n+1)
noncomputable abbrev tN(xs:List String)(n:Nat):Obj:=tO<|ĕ<|Ek xs n
open PySem.W in
abbrev lA(P:ξ):List Obj:=((boot_o_0 P)::(boot_o_1 P)::(boot_o_2 P)::(boot_o_3 P)::(boot_o_4 P)::(boot_o_5 P)::(boot_o_6 P)::(boot_o_7 P)::(boot_o_8 P)::(boot_o_9 P)::(boot_o_10 P)::(tO #[])::({cls:=vN,data:=Ŀ #[]})::(cO #[vS "<module>" 182,vS "<module>" 183,vS "/claim/cut.py" 184,vI 1,vI 0,vI 0,vI 0,vI 0,vR 11,Ÿ a8,vI 181,vR 12,vN,vN,vN,vN,vI 185,vI 1,vS "/claim/cut.py" 186])::({cls:=ü "frame",slots:=#[a0 (vR 13),a0 (vR 3),a0 (vR 3),a7,a0 (vS "__main__" 164),a7,a0 (vR 0)]})::[])
open PySem.W in
abbrev Em(P:ξ)(a:Nat)(c:String)(d:Nat)(b:Nat)(R:List Obj):List Obj:=(tO #[vR 24])::({cls:=ü "builtin_function_or_method",data:=Ŀ #[ο "type.__prepare__",ü "type"]})::({cls:=ü "dict",data:=Ϫ #[eO P "__module__" a (vS "creasecourt.errors" 187),eO P "__qualname__" (a+2) (vS c<|a+1),eO P "__firstlineno__" (a+4) (Ġ d<|a+3),eR P "__static_attributes__" (a+5) b] 4})::(tO #[])::({cls:=vN,data:=Ŀ #[]})::(cO #[vS c (a-5),vS c (a-4),vS "/claim/cut.py" (a-3),vI d,vI 0,vI 0,vI 0,vI 0,vR (b-4),Ÿ a8,vI 181,vR (b-3),vN,vN,vN,vN,vI (a-2),vI d,vS "/claim/cut.py" (a-1)])::({cls:=ü "frame",slots:=#[a0 (vR<|b-2),a0 (vR 3),a0 (vR<|b-5),a7,a0 (vS "creasecourt.errors" 187),a7,a0 (vR 0)]})::(tO #[])::({cls:=ü "dict",data:=Ϫ #[eO P "__module__" a (vS "creasecourt.errors" 187),eO P "__firstlineno__" (a+4) (Ġ d<|a+3),eR P "__static_attributes__" (a+5) b,eO P "__doc__" (a+6) vN] 2})::({cls:=ü "type",data:=Nn {name:=Ż c,bases:=[vR 24],mro:=[vR<|b+2,vR 24,ü "ValueError",ü "Exception",ü "BaseException",ü "object"],ns:=(b+1),qualname:=Ż c},slots:=#[a0 (vR<|b-7),a7,a0 (vS c<|a-7),a0 (vS c<|a+1),a0 (ο "ValueError.__new__"),a0 (Ÿ a9)]})::({cls:=ü "super",data:=Ŀ #[vR (b+2),vR (b+2),vR (b+2)]})::({cls:=ü "builtin_function_or_method",data:=Ŀ #[ο "object.__init_subclass__",vR (b+2)]})::R
open PySem.W in
abbrev Ay(P:ξ)(a:Nat)(c:String)(d:Nat)(b:Nat)(h:List String)(g:String)(e:Nat)(i:List String)(R:List Obj):List Obj:=(tO #[vR 24])::({cls:=ü "builtin_function_or_method",data:=Ŀ #[ο "type.__prepare__",ü "type"]})::({cls:=ü "dict",data:=Ϫ #[eO P "__module__" a (vS "creasecourt.errors" 187),eO P "__qualname__" (a+2) (vS c<|a+1),eO P "__firstlineno__" (a+4) (Ġ d<|a+3),eR P "__init__" (a+12) b,eR P "__static_attributes__" (a+14) (b+1)] 5})::(tO #[])::({cls:=vN,data:=Ŀ #[vI (d+2),vI 4,vR (b-1)]})::(cO #[vS c (a-5),vS c (a-4),vS "/claim/cut.py" (a-3),vI d,vI 0,vI 0,vI 0,vI 0,vR (b-10),Ÿ a8,vI 181,vR (b-9),vN,vN,vN,vN,vI (a-2),vI d,vS "/claim/cut.py" (a-1)])::({cls:=ü "frame",slots:=#[a0 (vR<|b-8),a0 (vR 3),a0 (vR<|b-11),a7,a0 (vS "creasecourt.errors" 187),a7,a0 (vR 0)]})::(tO #[])::({cls:=vN,data:=Ŀ #[]})::(tN h<|a+8)::(tO #[])::(⟨vN,a7,.func<|{ν "__init__" g (jY<|rL e 0) (gG<|rL e 0) (cW<|rL e 0) vN vN vN vN (a7) vN vN with globals:=0},#[]⟩)::(cO #[vS "__init__" (a+5),vS g (a+6),vS "/claim/cut.py" (a+7),vI (d+2),vI 2,vI 0,vI 0,vI 3,vR (b-6),Ÿ a9,vI 181,vR (b-5),vN,vR (b-4),vR (b-3),vR (b-2),vI (a+10),vI (d+2),vS "/claim/cut.py" (a+11)])::(⟨ü "function",a7,.func<|ν "__init__" g (jY<|rL e 0) (gG<|rL e 0) (cW<|rL e 0) vN vN vN (vS "creasecourt.errors" 187) (a7) (vR<|b-1) vN,#[]⟩)::(tN i<|a+13)::({cls:=ü "dict",data:=Ϫ #[eO P "__module__" a (vS "creasecourt.errors" 187),eO P "__firstlineno__" (a+4) (Ġ d<|a+3),eR P "__init__" (a+12) b,eR P "__static_attributes__" (a+14) (b+1),eO P "__doc__" (a+15) vN] 2})::({cls:=ü "type",data:=Nn {name:=Ż c,bases:=[vR 24],mro:=[vR<|b+3,vR 24,ü "ValueError",ü "Exception",ü "BaseException",ü "object"],ns:=(b+2),qualname:=Ż c},slots:=#[a0 (vR<|b-13),a7,a0 (vS c<|a-7),a0 (vS c<|a+1),a0 (ο "ValueError.__new__"),a0 (Ÿ a9)]})::({cls:=ü "super",data:=Ŀ #[vR (b+3),vR (b+3),vR (b+3)]})::({cls:=ü "builtin_function_or_method",data:=Ŀ #[ο "object.__init_subclass__",vR (b+3)]})::R
open PySem.W in
abbrev cF(h:List String)(b:Nat)(c:String)(d:Nat)(e:Nat)(i:Nat)(a:Nat)(g:Nat)(j:String)(k:Nat)(R:List Obj):List Obj:=(tO #[])::({cls:=vN,data:=Ŀ #[]})::(tN h b)::(tO #[])::(⟨vN,a7,.func<|{ν c c (jY<|aJ d) (gG<|aJ d) (cW<|aJ d) vN vN vN vN (a7) vN vN with globals:=0},#[]⟩)::(kO c "/claim/cut.py" (b-3) (b-2) (b-1) e i 0 0 3 a 181 #[vR (a+1),vN,vR (a+2),vR (a+3),vR (a+4)] g e<|g+1)::(fO c d (vS j k)<|a+5)::R
open PySem.W in
abbrev iW(b:String)(c:Nat)(a:Nat)(e:Nat)(g:Nat)(d:Nat)(h:String)(i:Nat)(R:List Obj):List Obj:=(tO #[])::({cls:=vN,data:=Ŀ #[]})::(⟨vN,a7,.func<|{ν b b (jY<|aJ c) (gG<|aJ c) (cW<|aJ c) vN vN vN vN (a7) vN vN with globals:=0},#[]⟩)::(kO b "/claim/cut.py" a (a+1) (a+2) e g 0 0 3 d 181 #[vR (d+1),vN,vN,vN,vR (d+2)] (a+3) e<|a+4)::(fO b c (vS h i)<|d+3)::R
open PySem.W in
abbrev wN(b:Nat)(a:Nat)(c:Nat)(R:List Obj):List Obj:=(tO #[Ġ b a,Ġ c (a+1)])::R
open PySem.W in
abbrev lN(P:ξ):List DictEntry:=[eO P "__doc__" 166 vN,eO P "__package__" 167 vN,eO P "__loader__" 168<|ο "__main__.__loader__#opaque",eO P "__spec__" 169 vN,eR P "__annotations__" 170 6,eR P "__builtins__" 171 4,eO P "__file__" 173<|vS "/claim/cut.py" 172,eO P "__cached__" 174 vN,eR P "CreaseError" 206 24,eR P "NoSize" 222 37,eR P "NoMark" 238 49,eR P "NoEdge" 263 68,eR P "Twice" 288 87,eR P "Barred" 313 106,eR P "EIGHT_EDGES" 338 117,eR P "FOUR_EDGES" 351 122,eR P "is_whole" 358 129,eR P "is_place" 365 136,eR P "is_corner" 372 143,eR P "is_edge" 379 150,eR P "is_quarter" 386 157,eR P "line_of" 393 164,eR P "beside" 402 171,eR P "edges_of" 408 176,eR P "moved_by" 414 181,eR P "edges_round" 421 188,eR P "number_by" 429 195,eR P "mirrored" 441 202,eR P "MARKS" 447 203,eR P "is_size" 454 210,eR P "check_size" 462 217,eR P "is_mark" 469 224,eR P "is_within" 478 231,eR P "places_within" 484 236,eR P "quarters_in" 490 241,eR P "corners_in" 496 246,eR P "is_inner_edge" 505 253,eR P "neighbours_in" 511 258,eR P "sheet_of" 523 265,eR P "marks_in" 530 272,eR P "face_with" 546 279,eR P "faces" 559 286,eR P "is_good" 567 291,eR P "creases_at" 575 296,eR P "gaps_at" 581 301,eR P "barred" 589 308,eR P "check_corners" 597 315,eR P "STILL" 606 316,eR P "laying_by" 615 323,eR P "mirror_in" 622 330,eR P "led" 632 337,eR P "then" 640 344,eR P "laid" 656 351,eR P "stacks" 665 358,eR P "numbers_of" 678 365,eR P "faces_at" 684 370,eR P "pairs_among" 690 375,eR P "pairs" 701 382,eR P "_law_given" 712 389,eR P "_law_number" 721 396,eR P "_law_quarters" 732 403,eR P "_law_rims" 743 410,eR P "_law_beside" 752 417,eR P "_law_value" 762 424,eR P "_law_mirror" 771 431,eR P "_law_led" 787 438,eR P "_law_then" 808 445,eR P "_law_fold" 814 450,eR P "_law_grown" 834 457,eR P "_law_creased" 847 464,eR P "_law_homes" 866 471,eR P "_law_shared" 872 476,eR P "_law_told" 881 483,eR P "law" 887 488]
abbrev lM:gq:=List.flatMap (λp:Nat×Nat=>[vI p.1,vI 0,vR p.2]) [(2,20),(4,33),(6,45),(8,57),(13,76),(18,95),(26,128),(28,135),(30,142),(32,149),(36,156),(40,163),(44,170),(48,175),(50,180),(52,187),(54,194),(62,201),(76,209),(78,216),(81,223),(83,230),(85,235),(90,240),(92,245),(94,252),(96,257),(98,264),(111,271),(114,278),(124,285),(136,290),(143,295),(146,300),(153,307),(158,314),(164,322),(166,329),(168,336),(172,343),(175,350),(188,357),(194,364),(200,369),(206,374),(211,381),(218,388),(223,395),(226,402),(233,409),(240,416),(247,423),(250,430),(253,437),(257,444),(262,449),(283,456),(297,463),(304,470),(327,475),(335,482),(342,487)]
open PySem.W in
abbrev lB(P:ξ):List Obj:=(((lA P).set 3<|{cls:=ü "dict",data:=Ϫ (ĕ<|eO P "__name__" 165 (vS "creasecourt.places" 314)::(lN P).take 14) 15}).set 12<|{cls:=vN,data:=Ŀ<|ĕ<|lM.take 18})++((tO #[ü "ValueError"])::(({cls:=ü "builtin_function_or_method",data:=Ŀ #[ο "type.__prepare__",ü "type"]})::(({cls:=ü "dict",data:=Ϫ #[eO P "__module__" 196 (vS "creasecourt.errors" 187),eO P "__qualname__" 198 (vS "CreaseError" 197),eO P "__firstlineno__" 200 (Ġ 2 199),eR P "__static_attributes__" 201 22] 4})::((tO #[])::(({cls:=vN,data:=Ŀ #[]})::((cO #[vS "CreaseError" 191,vS "CreaseError" 192,vS "/claim/cut.py" 193,vI 2,vI 0,vI 0,vI 0,vI 0,vR 18,Ÿ a8,vI 181,vR 19,vN,vN,vN,vN,vI 194,vI 2,vS "/claim/cut.py" 195])::(({cls:=ü "frame",slots:=#[a0 (vR 20),a0 (vR 3),a0 (vR 17),a7,a0 (vS "creasecourt.errors" 187),a7,a0 (vR 0)]})::((tO #[])::(({cls:=ü "dict",data:=Ϫ #[eO P "__module__" 196 (vS "creasecourt.errors" 187),eO P "__firstlineno__" 200 (Ġ 2 199),eR P "__static_attributes__" 201 22,eR P "__weakref__" 203 25,eO P "__doc__" 204 vN] 3})::(({cls:=ü "type",data:=Nn {name:=Ż "CreaseError",bases:=[ü "ValueError"],mro:=[vR 24,ü "ValueError",ü "Exception",ü "BaseException",ü "object"],ns:=23,qualname:=Ż "CreaseError",subclasses:=[vR 37,vR 49,vR 68,vR 87,vR 106]},slots:=#[a0 (vR 15),a7,a0 (vS "CreaseError" 189),a0 (vS "CreaseError" 197),a0 (ο "ValueError.__new__"),a0 (Ÿ a9)]})::(({cls:=ü "getset_descriptor",data:=Ŀ #[vS "__weakref__" 202,vR 24,ο "ExceptionGroup.__weakref__",vN]})::(({cls:=ü "super",data:=Ŀ #[vR 24,vR 24,vR 24]})::(({cls:=ü "builtin_function_or_method",data:=Ŀ #[ο "object.__init_subclass__",vR 24]})::(Em P 214 "NoSize" 4 35<|Em P 230 "NoMark" 6 47<|Ay P 246 "NoEdge" 8 65 ["self","edge"] "NoEdge.__init__" 4 ["edge"]<|Ay P 271 "Twice" 13 84 ["self","edge"] "Twice.__init__" 5 ["edge"]<|Ay P 296 "Barred" 18 103 ["self","corner"] "Barred.__init__" 6 ["corner"] []))))))))))))))
open PySem.W in
abbrev lC(P:ξ):List Obj:=(((lB P).set 3<|{cls:=ü "dict",data:=Ϫ (ĕ<|eO P "__name__" 165 (vS "creasecourt.layings" 598)::(lN P).take 51) 52}).set 12<|{cls:=vN,data:=Ŀ<|ĕ<|lM.take 117})++(wN 2 316 0<|wN 1 318 1<|wN 0 320 2<|(tO #[Ġ (-1) 323,Ġ 1 324])::((tO #[Ġ (-2) 326,Ġ 0 327])::((tO #[Ġ (-1) 329,Ġ (-1) 331])::((tO #[Ġ 0 332,Ġ (-2) 334])::((tO #[Ġ 1 335,Ġ (-1) 337])::((tO #[vR 109,vR 110,vR 111,vR 112,vR 113,vR 114,vR 115,vR 116])::(wN 1 339 1<|(tO #[Ġ (-1) 342,Ġ 1 343])::((tO #[Ġ (-1) 345,Ġ (-1) 347])::((tO #[Ġ 1 348,Ġ (-1) 350])::((tO #[vR 118,vR 119,vR 120,vR 121])::(cF ["value"] 355 "is_whole" 10 26 1 123 356 "creasecourt.places" 314<|cF ["value"] 362 "is_place" 11 28 1 130 363 "creasecourt.places" 314<|cF ["place"] 369 "is_corner" 12 30 1 137 370 "creasecourt.places" 314<|cF ["place"] 376 "is_edge" 13 32 1 144 377 "creasecourt.places" 314<|cF ["place"] 383 "is_quarter" 14 36 1 151 384 "creasecourt.places" 314<|cF ["edge"] 390 "line_of" 15 40 1 158 391 "creasecourt.places" 314<|cF ["place","x","y"] 397 "beside" 16 44 1 165 400 "creasecourt.places" 314<|iW "edges_of" 17 403 48 1 172 "creasecourt.places" 314<|iW "moved_by" 18 409 50 2 177 "creasecourt.places" 314<|cF ["corner"] 418 "edges_round" 19 52 1 182 419 "creasecourt.places" 314<|cF ["line","place"] 425 "number_by" 20 54 2 189 427 "creasecourt.places" 314<|cF ["place","edge","x","y","line","number"] 433 "mirrored" 21 62 2 196 439 "creasecourt.places" 314<|(tN ["h","v","o"] 444)::(cF ["value"] 451 "is_size" 24 76 1 204 452 "creasecourt.sheets" 442<|cF ["wide","high"] 458 "check_size" 25 78 2 211 460 "creasecourt.sheets" 442<|cF ["value"] 466 "is_mark" 26 81 1 218 467 "creasecourt.sheets" 442<|cF ["wide","high","place"] 473 "is_within" 27 83 3 225 476 "creasecourt.sheets" 442<|iW "places_within" 28 479 85 2 232 "creasecourt.sheets" 442<|iW "quarters_in" 29 485 90 2 237 "creasecourt.sheets" 442<|iW "corners_in" 30 491 92 2 242 "creasecourt.sheets" 442<|cF ["wide","high","value"] 500 "is_inner_edge" 31 94 3 247 503 "creasecourt.sheets" 442<|iW "neighbours_in" 32 506 96 3 254 "creasecourt.sheets" 442<|cF ["wide","high","creases","marks","crease","edge"] 515 "sheet_of" 33 98 3 259 521 "creasecourt.sheets" 442<|cF ["sheet"] 527 "marks_in" 34 111 1 266 528 "creasecourt.sheets" 442<|cF ["sheet","marks","quarter","found","due","here","edge","other"] 536 "face_with" 36 114 3 273 544 "creasecourt.faces" 531<|cF ["sheet","marks","told","seen","quarter","face","member"] 550 "faces" 37 124 1 280 557 "creasecourt.faces" 531<|iW "is_good" 39 562 136 1 287 "creasecourt.wedges" 560<|iW "creases_at" 41 570 143 2 292 "creasecourt.corners" 568<|iW "gaps_at" 42 576 146 2 297 "creasecourt.corners" 568<|cF ["sheet","corner"] 585 "barred" 43 153 1 302 587 "creasecourt.corners" 568<|cF ["sheet","corner"] 593 "check_corners" 44 158 1 309 595 "creasecourt.corners" 568<|(tO #[Ġ 1 600,Ġ 0 601,Ġ 0 602,Ġ 1 603,Ġ 0 604,Ġ 0 605])::(cF ["start","right","down"] 610 "laying_by" 47 164 3 317 613 "creasecourt.layings" 598<|cF ["edge"] 619 "mirror_in" 48 166 1 324 620 "creasecourt.layings" 598<|cF ["laying","place","x","y"] 626 "led" 49 168 2 331 630 "creasecourt.layings" 598 [])))))))))))))
open PySem.W in
abbrev lD(P:ξ):List Obj:=(((lC P).set 3<|{cls:=ü "dict",data:=Ϫ (ĕ<|eO P "__name__" 165 (vS "law_creasecourt_k71_pairs_that_share" 702)::(lN P).take 74) 75}).set 12<|{cls:=vN,data:=Ŀ<|ĕ<|lM.take 186})++(cF ["one","other"] 636 "then" 50 172 2 338 638 "creasecourt.layings" 598<|cF ["sheet","marks","first","layings","due","here","edge","other"] 646 "laid" 52 175 1 345 654 "creasecourt.laid" 641<|cF ["layings","told","quarter"] 660 "stacks" 53 188 1 352 663 "creasecourt.laid" 641<|cF ["sheet","numbers","number","face","quarter"] 671 "numbers_of" 55 194 1 359 676 "creasecourt.rules" 666<|iW "faces_at" 56 679 200 2 366 "creasecourt.rules" 666<|iW "pairs_among" 57 685 206 1 371 "creasecourt.rules" 666<|cF ["sheet","layings","found","there","pair"] 694 "pairs" 58 211 2 376 699 "creasecourt.rules" 666<|cF ["_law_script","_law_k","_law_more"] 707 "_law_given" 60 218 2 383 710 "law_creasecourt_k71_pairs_that_share" 702<|cF ["_law_script","_law_k","_law_cell"] 716 "_law_number" 61 223 2 390 719 "law_creasecourt_k71_pairs_that_share" 702<|cF ["_law_wide","_law_high","_law_found","_law_x","_law_y"] 725 "_law_quarters" 62 226 2 397 730 "law_creasecourt_k71_pairs_that_share" 702<|cF ["_law_wide","_law_high","_law_found","_law_x","_law_y"] 736 "_law_rims" 63 233 2 404 741 "law_creasecourt_k71_pairs_that_share" 702<|cF ["_law_rim","_law_x","_law_y"] 747 "_law_beside" 64 240 1 411 750 "law_creasecourt_k71_pairs_that_share" 702<|cF ["_law_place","_law_kind","_law_x","_law_y"] 756 "_law_value" 65 247 2 418 760 "law_creasecourt_k71_pairs_that_share" 702<|cF ["_law_kind","_law_n","_law_some"] 766 "_law_mirror" 66 250 2 425 769 "law_creasecourt_k71_pairs_that_share" 702<|cF ["_law_way","_law_place","_law_a","_law_b","_law_c","_law_d","_law_e","_law_f","_law_x","_law_y"] 775 "_law_led" 67 253 2 432 785 "law_creasecourt_k71_pairs_that_share" 702<|cF ["_law_one","_law_other","_law_a","_law_b","_law_c","_law_d","_law_e","_law_f","_law_p","_law_q","_law_r","_law_s","_law_t","_law_u","_law_turn"] 791 "_law_then" 68 257 2 439 806 "law_creasecourt_k71_pairs_that_share" 702<|iW "_law_fold" 69 809 262 6 446 "law_creasecourt_k71_pairs_that_share" 702<|cF ["_law_script","_law_wide","_law_high","_law_first","_law_many","_law_ways","_law_heaps","_law_quarter","_law_k","_law_number_here","_law_kind","_law_places","_law_value_here","_law_way"] 818 "_law_grown" 70 283 5 451 832 "law_creasecourt_k71_pairs_that_share" 702<|cF ["_law_ways","_law_wide","_law_high","_law_found","_law_rim","_law_one","_law_other"] 838 "_law_creased" 71 297 3 458 845 "law_creasecourt_k71_pairs_that_share" 702<|cF ["_law_wide","_law_high","_law_creased_here","_law_near","_law_quarter","_law_rim","_law_one","_law_other","_law_homes_here","_law_number_here","_law_row","_law_here","_law_there"] 851 "_law_homes" 72 304 3 465 864 "law_creasecourt_k71_pairs_that_share" 702<|iW "_law_shared" 73 867 327 2 472 "law_creasecourt_k71_pairs_that_share" 702<|cF ["_law_found","_law_due","_law_two"] 876 "_law_told" 74 335 2 477 879 "law_creasecourt_k71_pairs_that_share" 702<|iW "law" 75 882 342 1 484 "law_creasecourt_k71_pairs_that_share" 702 [])
abbrev As:List Addr:=[3,109,110,111,112,113,114,115,116,117,118,119,120,121,122,128,129,135,136,142,143,149,150,156,157,163,164,170,171,175,176,180,181,187,188,194,195,201,202,203,209,210,216,217,223,224,230,231,235,236,240,241,245,246,252,253,257,258,264,265,271,272,278,279,285,286,290,291,295,296,300,301,307,308,314,315,316,322,323,329,330,336,337,343,344,350,351,357,358,364,365,369,370,374,375,381,382,388,389,395,396,402,403,409,410,416,417,423,424,430,431,437,438,444,445,449,450,456,457,463,464,470,471,475,476,482,483,487,488]
abbrev Kx:ξ → Ö:=λP=>As.map λa=>(a,((lD P)[a]?).getD<|tO #[])
def tZ:∀P,As=(Kx P).map (·.1):=λ_=>by kernel_rfl
abbrev vE:Ο:={scope:=Dr.main.scope,locals:=mainNs,globals:=mainNs,cells:=[],code:=Ò 13,frame:=a0 14}
open PySem.W PyProof.Rows in
set_option maxRecDepth 100000 in
set_option maxHeartbeats 0 in
def a7x(w:Į)(a:Sk):topGo Ź (Œ ń).prog w 11 (a0<|Ò 6) 12 ⟨ϫ w.params,ĕ [],ŋ,xr,a⟩ (topStub (Œ ń).prog)=a0 (⟨⟨ĕ<|lA w.params,{}⟩,ĕ [],ŋ,187,a⟩,⟨denote Ź<|.body (ķ (Œ ń).prog) vE,(.body (ķ (Œ ń).prog) vE),⟨0,0,0,0⟩,[Ϝ ⟨0,0,0,0⟩]⟩):=by kernel_rfl
open PySem.W PyProof.Rows in
set_option maxRecDepth 100000 in
set_option maxHeartbeats 0 in
def a7p(w:Į)(a:Sk):dM Ź (Œ ń).prog w 11 (a0<|Ò 6) 1 1 ⟨⟨ĕ<|lA w.params,{}⟩,ĕ [],ŋ,187,a⟩ (blockOf (ķ (Œ ń).prog) vE (.body (ķ (Œ ń).prog) vE) ⟨0,0,0,0⟩ [Ϝ ⟨0,0,0,0⟩])=a0 (.next,⟨⟨ĕ<|lA w.params,{}⟩,ĕ [],ŋ,187,a⟩,(.body (ķ (Œ ń).prog) vE),⟨0,0,0,0⟩):=by kernel_rfl
open PySem.W PyProof.Rows in
set_option maxRecDepth 100000 in
set_option maxHeartbeats 0 in
def b0R w a:dM Ź (Œ ń).prog w 11 (a0<|Ò 6) 1 1366 ⟨⟨ĕ<|lA w.params,{}⟩,ĕ [],ŋ,187,a⟩ (qz ((ķ (Œ ń).prog).take 8) vE (.body (ķ (Œ ń).prog) vE) ⟨0,0,0,0⟩ [Ϝ ⟨0,0,0,0⟩])=a0 (.next,⟨⟨ĕ<|lB w.params,{}⟩,ĕ [],ŋ,316,a⟩,(.body (ķ (Œ ń).prog) vE),⟨23,0,23,8⟩):=by kernel_rfl
open PySem.W PyProof.Rows in
set_option maxRecDepth 100000 in
set_option maxHeartbeats 0 in
def b0N w a:dM Ź (Œ ń).prog w 11 (a0<|Ò 6) 1 1161 ⟨⟨ĕ<|lB w.params,{}⟩,ĕ [],ŋ,316,a⟩ (qz (((ķ (Œ ń).prog).drop 8).take 42) vE (.body (ķ (Œ ń).prog) vE) ⟨23,0,23,8⟩ [Ϝ ⟨0,0,0,0⟩])=a0 (.next,⟨⟨ĕ<|lC w.params,{}⟩,ĕ [],ŋ,633,a⟩,(.body (ķ (Œ ń).prog) vE),⟨168,0,171,97⟩):=by kernel_rfl
open PySem.W PyProof.Rows in
set_option maxRecDepth 100000 in
set_option maxHeartbeats 0 in
def b0M w a:dM Ź (Œ ń).prog w 11 (a0<|Ò 6) 1 773 ⟨⟨ĕ<|lC w.params,{}⟩,ĕ [],ŋ,633,a⟩ (qz ((((ķ (Œ ń).prog).drop 8).drop 42).take 26) vE (.body (ķ (Œ ń).prog) vE) ⟨168,0,171,97⟩ [Ϝ ⟨0,0,0,0⟩])=a0 (.next,⟨⟨ĕ<|lD w.params,{}⟩,ĕ [],ŋ,888,a⟩,(.body (ķ (Œ ń).prog) vE),⟨342,0,358,122⟩):=by kernel_rfl
open PySem.W PyProof.Rows in
set_option maxRecDepth 100000 in
set_option maxHeartbeats 0 in
def run:LeftO (Œ ń).prog Vw [] (λs=>xlAt Vw [] s&&recOk (Po<|Qf<|Œ ń) s) (Hook.obs<|xj Kx As tZ) (Hook.val<|xj Kx As tZ) 6720:=
 L3.left_cut (hA:=λP=>⟨ĕ<|lA P,{}⟩) (hB:=λP=>⟨ĕ<|lB P,{}⟩) (hC:=λP=>⟨ĕ<|lC P,{}⟩) (hD:=λP=>⟨ĕ<|lD P,{}⟩) (n4:=201) (i1:=8) (i2:=42) (i3:=26) (env:=vE) (boot_open (by kernel_rfl) (by kernel_rfl) λ_=>by kernel_rfl) (λw=>by kernel_rfl) a7x a7p b0R b0N b0M (λw a=>by kernel_rfl)<|by kernel_rfl
open PySem.W PyProof.Rows in
set_option maxRecDepth 100000 in
set_option maxHeartbeats 0 in
def OD:ń.wellSaid=true:=by decide +kernel
end Lw
set_option maxHeartbeats 4000000
namespace L3
open PySem
open PySem.SetTable (Probe Met Slot bits runEnd leap turns insertAt sizeAbove)
namespace Tb
abbrev b0L(m:Nat)(p:Probe):Probe:=
 if p.more>0 then{p with j:=p.j+1,more:=p.more-1}else
 {p with j:=(leap m p.i p.perturb).1,more:=runEnd m (leap m p.i p.perturb).1-(leap m p.i p.perturb).1,i:=(leap m p.i p.perturb).1,perturb:=(leap m p.i p.perturb).2}
abbrev b0K(m:Nat)(b:Nat):Probe:={j:=b%(m+1),more:=runEnd m (b%(m+1))-b%(m+1),i:=b%(m+1),perturb:=b,dummy:=a7}
abbrev Az(m b:Nat):Nat->Probe
 |0=>b0K m b|k+1=>b0L m<|Az m b k
abbrev lp(m b:Nat):Nat->Nat×Nat
 |0=>(b%(m+1),b)|n+1=>leap m (lp m b n).1 (lp m b n).2
abbrev hd(m i q:Nat):Probe:={j:=i,more:=runEnd m i-i,i:=i,perturb:=q,dummy:=a7}
abbrev nx(m i:Nat):Nat:=(i*5+1)%(m+1)
abbrev Eo(m:Nat):Nat->Nat->Nat
 |0,i=>i|n+1,i=>Eo m n<|nx m i
abbrev pQ(m:Nat):Nat->Nat->Nat->Nat
 |0,_,acc=>acc|f+1,i,acc=>pQ m f (nx m i)<|acc ||| (1 <<< i)
abbrev b0I(m:Nat):Bool:=pQ m (m+1) 0 0==2^(m+1)-1&&Eo m (m+1) 0==0
abbrev Ep(m:Nat)(S:List Nat)(b j:Nat):Prop:=∃k,(Az m b k).j=j/\∀k',k'<k->(Az m b k').j∈S
noncomputable abbrev wO:=Nat×Int×Value
structure Ok(t:Qp)(R:List wO):Prop where
 place:t.place.toList=R.map (·.1)
 dum:t.dummies=#[]
 rise:(R.map (·.1)).Pairwise (·<·)
 le:∀r∈R,r.1<=t.mask
 cov:b0I t.mask=a9
 odd:t.mask%2=1
 room:R.length<=t.mask
 road:∀r∈R,Ep t.mask (R.map (·.1)) (bits r.2.1) r.1
abbrev lv(m:Nat)(a:Array (Option Nat)):List (Nat×Nat):=(ġ<|m+1).filterMap λj=>(a.getD j a7).map (j,·)
structure e12(m:Nat)(ds:List Int)(ow:Array (Option Nat)):Prop where
 size:ow.size=m+1
 lt:∀j i,ow.getD j a7=a0 i->i<ds.length
 all:∀i,i<ds.length->∃j,ow.getD j a7=a0 i
 inj:∀j j' i,ow.getD j a7=a0 i->ow.getD j' a7=a0 i->j=j'
 road:∀j i,ow.getD j a7=a0 i->Ep m ((lv m ow).map (·.1)) (bits<|ds.getD i 0) j
end Tb
end L3
namespace L3
open PySem
open PySem.SetTable (Probe Met Slot bits runEnd leap turns insertAt sizeAbove)
namespace Tb
section
variable{prog:ł}{w:Į}{K:Type} [DecidableEq K] {knd:KeyKind prog w K}{A:Ł}{E:Value->Ï->Prop}{s:Ï}
def Ok.size(o:Ok t R):t.place.size=R.length:=by simpa using congrArg ĭ o.place
def fits_of{es:Array (Int×Value)}(o:Ok t R)(c:es.toList=R.map (·.2)):t.fits es.size=true:=by
 have a:es.size=R.length:=by simpa using congrArg ĭ c
 have b:=o.room;unfold SetTable.fits SetTable.fill;rw[o.size,a,o.dum];simp;show b
end
noncomputable abbrev El:=List Int×Addr
abbrev hashT(k:List Int):Int:=reduceHash<|b3H<|k.map hashInt
abbrev b0H(p:El):Int×Value:=(hashT p.1,Ò p.2)
abbrev b0D(m:Nat):Prop:=m=7\/m=31\/m=127\/m=511
abbrev b0B(w:Į):Bool:=w.params.followText "set-order"
abbrev b0A(a:Bool)(L:List El)(o:Obj):Prop:=∃es ep t R,o.ExactSet/\o.data=.set es ep t/\es.toList=R.map (·.2)/\Ok t R/\es.toList.Perm (L.map b0H)/\(L.map (·.1)).Nodup/\b0D t.mask/\L.length*5<t.mask*3/\t.plain=a9/\t.led=a
abbrev SObj(L:List El)(o:Obj):Prop:=∃a,b0A a L o
end Tb
end L3
namespace L3
open PySem
namespace Tb
section
variable{prog:ł}{w:Į}{A:Ł}{E:Value->Ï->Prop}{s:Ï}
structure SAt(w:Į)(h:Č)(a:Addr)(es:Array (Int×Value))(ep:Nat)(t:Qp)(R:List wO):Prop where
 at_:∃o,h.get? a=a0 o/\o.cls=.type "set"/\o.data=.set es ep t
 he:es.toList=R.map (·.2)
 ok:Ok t R
 pl:t.plain=a9
 led:t.led=!b0B w
end
end Tb
end L3
namespace L3
open PySem L2
def bU{c d:Type}{o:Option c}{f:c->Option d}{b:d}{G:Prop}(h:o.bind f=a0 b)(k:∀a,o=a0 a->f a=a0 b->G):G:=let⟨a,x,y⟩:=œ.mp h;k a x y
def aZ{d g e:Type}{o:Option (d×g)}{f:d×g->Option e}{b:e}{G:Prop}(h:o.bind f=a0 b)(k:∀a c,o=a0 (a,c)->f (a,c)=a0 b->G):G:=let⟨(a,c),x,y⟩:=œ.mp h;k a c x y
def bY{c d:Type}{o:Option c}{f:c->d}{b:d}{G:Prop}(h:o.map f=a0 b)(k:∀a,o=a0 a->f a=b->G):G:=let⟨a,x,y⟩:=Ō.mp h;k a x y
def t7{d g e:Type}{o:Option (d×g)}{f:d×g->e}{b:e}{G:Prop}(h:o.map f=a0 b)(k:∀a c,o=a0 (a,c)->f (a,c)=b->G):G:=let⟨(a,c),x,y⟩:=Ō.mp h;k a c x y
inductive D where
 |non|bl (b:Bool)|int (i:Int)|str (x:Str)|tup (xs:List D)|rol (xs:List D)|loc (a:Nat)|ty (n:String)
 deriving Inhabited
inductive C where
 |lst (xs:List D)
 |dK (kvs:List (cN×D))
 |st (ks:List (List Int))
 |dT (kvs:List (List Int×D))
 |dF (kvs:List (List Int×D))
 deriving Inhabited
noncomputable abbrev Hm:=List C
noncomputable abbrev aF:=List<|Option D
noncomputable abbrev ME:=aF->Hm->Option (D×Hm)
noncomputable abbrev MT:=aF->Hm->Option (Bool×Hm)
noncomputable abbrev MA:=aF->Hm->Option (List D×Hm)
@[reducible]def jk:=Option<|D×Hm
@[reducible]def jx:=List<|List Int×D
@[reducible]def jz:=D×Hm->Prop
inductive Fl where
 |nx|rt (d:D)|bk|ct
noncomputable abbrev MS:=aF->Hm->Option (Fl×aF×Hm)
noncomputable abbrev MF:=List D->Hm->jk
abbrev Ϻ(K:Ö)(H:Hp)(p:Addr)(xs:gw):Prop:=
 (∃o,H p=a0 (.frz o<|.lst xs)) \/
  ∃(o:Obj)(its:Array Value)(n:Nat),K.lookup p=a0 o/\o.cls=.type "list"/\o.dict=a7/\o.data=.seq its n/\its.size<=Ñ/\Ä xs its.toList
def Ϻ.sq(h:Ϻ K H p xs):č K H p xs:=by
 rcases h with⟨o,h⟩|h
 .show .inl<|.inr ⟨o,h⟩
 .show .inr h
mutual
inductive Ý (K:Ö)(π:Nat->Addr)(n:Nat)(H:Hp):V->D->Prop where
 |non:Ý K π n H .non .non
 |bl (b:Bool):Ý K π n H (.bl b)<|.bl b
 |int (i:Int):Ý K π n H (.int i)<|.int i
 |str (x:Str):Ý K π n H (.str x)<|.str x
 |tup {p:Addr}{vs:gw}{ds:List D}(h:î K H p vs)(t:Æ K π n H vs ds):Ý K π n H (.ref p)<|.tup ds
 |rol {p:Addr}{vs:gw}{ds:List D}(h:Ϻ K H p vs)(t:Æ K π n H vs ds):Ý K π n H (.ref p)<|.rol ds
 |loc {a:Nat}(h:a<n):Ý K π n H (.ref<|π a)<|.loc a
 |ty (x:String):Ý K π n H (.ty x)<|.ty x
inductive Æ (K:Ö)(π:Nat->Addr)(n:Nat)(H:Hp):gw->List D->Prop where
 |nil:Æ K π n H [] []
 |cons {v:V}{d:D}{vs:gw}{ds:List D}(h:Ý K π n H v d)(t:Æ K π n H vs ds):Æ K π n H (v::vs)<|d::ds
end
structure û(π:Nat->Addr)(n:Nat)(H:Hp)(π':Nat->Addr)(n':Nat)(H':Hp):Prop where
 le:n<=n'
 pi:∀a,a<n->π' a=π a
 tup:∀p vs,H p=a0 (.tup vs)->H' p=a0 (.tup vs)
 frz:∀p o u,H p=a0 (.frz o u)->H' p=a0 (.frz o u)
structure ņ(π:Nat->Addr)(n:Nat)(H:Hp)(π':Nat->Addr)(n':Nat)(H':Hp):Prop where
 le:n<=n'
 pi:∀a,a<n->π' a=π a
 tup:∀p vs,H p=a0 (.tup vs)->H' p=a0 (.tup vs)
 frz:∀p o u,(∀φ,u≠HO.ext φ)->H p=a0 (.frz o u)->H' p=a0 (.frz o u)
section
variable{K:Ö}{π π' π2:Nat->Addr}{n n' n2:Nat}{H H' H2:Hp}
def û.weak(e:û π n H π' n' H'):ņ π n H π' n' H':=⟨e.le,e.pi,e.tup,λp o u _ h=>e.frz p o u h⟩
def û.refl:û π n H π n H:=⟨Õ _,λ_ _=>rfl,λ_ _ h=>h,λ_ _ _ h=>h⟩
def û.trans(a:û π n H π' n' H')(b:û π' n' H' π2 n2 H2):û π n H π2 n2 H2:=
 ⟨Đ a.le b.le,λi h=>(b.pi i<|ĩ h a.le).trans<|a.pi i h,λp c h=>b.tup p c<|a.tup p c h,λp o u h=>b.frz p o u<|a.frz p o u h⟩
def ņ.sqT(e:ņ π n H π' n' H')(h:î K H p vs):î K H' p vs:=by
 rcases h with h|h
 .rcases h with h|⟨o,h⟩
  .show .inl<|.inl<|e.tup _ _ h
  .show .inl<|.inr ⟨o,e.frz _ _ _ (λ_ z=>nomatch z) h⟩
 .show .inr h
def û.sqT(e:û π n H π' n' H')(h:î K H p vs):î K H' p vs:=e.weak.sqT h
def ņ.roL(e:ņ π n H π' n' H')(h:Ϻ K H p vs):Ϻ K H' p vs:=by
 rcases h with⟨o,h⟩|h
 .show .inl ⟨o,e.frz _ _ _ (λ_ z=>nomatch z) h⟩
 .show .inr h
def û.roL(e:û π n H π' n' H')(h:Ϻ K H p vs):Ϻ K H' p vs:=e.weak.roL h
mutual
theorem Ý.mono0{v:V}{d:D}(e:ņ π n H π' n' H'):Ý K π n H v d->Ý K π' n' H' v d
 |.non=>.non|.bl b=>.bl b|.int i=>.int i|.str x=>.str x|.ty x=>.ty x|.tup h t=>.tup (e.sqT h) (Æ.mono0 e t)|.rol h t=>.rol (e.roL h) (Æ.mono0 e t)|.loc h=>by rw[<- e.pi _ h];show .loc<|ĩ h e.le
theorem Æ.mono0{vs:gw}{ds:List D}(e:ņ π n H π' n' H'):Æ K π n H vs ds->Æ K π' n' H' vs ds
 |.nil=>.nil|.cons h t=>.cons (Ý.mono0 e h)<|Æ.mono0 e t
end
def Ý.mono(e:û π n H π' n' H')(h:Ý K π n H v d):Ý K π' n' H' v d:=h.mono0 e.weak
def Æ.mono(e:û π n H π' n' H')(h:Æ K π n H vs ds):Æ K π' n' H' vs ds:=h.mono0 e.weak
def Æ.length(h:Æ K π n H vs ds):vs.length=ds.length:=by
 induction ds generalizing vs with
 |nil=>cases h;rfl|cons d ds a=>
  cases h with
  |cons h t=>rw[Ļ,Ļ,a t]
def Æ.get(h:Æ K π n H vs ds){i:Nat}(e:ds[i]?=a0 d):∃v,vs[i]?=a0 v/\Ý K π n H v d:=by
 induction ds generalizing vs i with
 |nil=>simp at e|cons g ds c=>
  cases h with
  |cons h t=>
   cases i with
   |zero=>simp at e;subst e;show⟨_,rfl,h⟩|succ i=>obtain⟨v,a,b⟩:=c t (by simpa using e);show⟨v,by simpa using a,b⟩
def Æ.append(h:Æ K π n H vs ds)(a:Æ K π n H ws es):Æ K π n H (vs++ws) (ds++es):=by
 induction ds generalizing vs with
 |nil=>cases h;show a|cons d ds b=>
  cases h with
  |cons h t=>show .cons h<|b t
def Æ.drop(h:Æ K π n H vs ds)k:Æ K π n H (vs.drop k) (ds.drop k):=by
 induction ds generalizing vs k with
 |nil=>cases h;simpa using Æ.nil|cons d ds a=>
  cases h with
  |cons h t=>
   cases k with
   |zero=>show .cons h t|succ k=>show a t k
def Æ.take(h:Æ K π n H vs ds)k:Æ K π n H (vs.take k) (ds.take k):=by
 induction ds generalizing vs k with
 |nil=>cases h;simpa using Æ.nil|cons d ds a=>
  cases h with
  |cons h t=>
   cases k with
   |zero=>show .nil|succ k=>show .cons h<|a t k
def Æ.atI(h:Æ K π n H vs ds)(e:L2.atI ds i=a0 d):∃v,L2.atI vs i=a0 v/\Ý K π n H v d:=by
 unfold L2.atI at e ⊢;rw[h.length];cases q:lQ ds.length i with
 |none=>rw[q]at e;cases e|some j=>rw[q]at e;show h.get e
end
abbrev wQ(p:Addr)(L:List Tb.El):HO:=.ext λh=>∃o,h.get? p=a0 o/\Tb.SObj L o
abbrev wR(p:List Int×Addr×V)(w:Value):DictEntry:=⟨Tb.hashT p.1,.ref p.2.1,w⟩
abbrev aL(a:Addr)(ps:List (List Int×Addr×V)):HO:=.ext λh=>∃ws:gq,Ä (ps.map (·.2.2)) ws/\(a==ř)=a8/\ps.length<=Ñ /\
 ∃o b c,h.get? a=a0 o/\o.ExactDict/\o.data=.dict b c/\b.toList=yq wR ps ws/\(ps.map (·.1)).Nodup
structure Rp(K:Ö)(π:Nat->Addr)(H:Hp)(μ:Hm):Prop where
 inj:∀a b,a<μ.length->b<μ.length->π a=π b->a=b
 has:∀a,a<μ.length->(H<|π a).isSome=a9
 lst:∀a xs,μ[a]?=a0 (.lst xs)->∃vs,H (π a)=a0 (.lst vs)/\Æ K π μ.length H vs xs
 dK:∀a kvs,μ[a]?=a0 (.dK kvs)->∃vs,H (π a)=a0 (.dK vs)/\vs.map (·.1)=kvs.map (·.1)/\Æ K π μ.length H (vs.map (·.2)) (kvs.map (·.2))
 st:∀a ks,μ[a]?=a0 (.st ks)->∃L:List Tb.El,H (π a)=a0 (wQ (π a) L)/\L.map (·.1)=ks/\Æ K π μ.length H (L.map λp=>V.ref p.2) (ks.map λk=>D.tup<|k.map D.int)
 dT:∀a kvs,μ[a]?=a0 (.dT kvs)->∃ps:List (List Int×Addr×V),H (π a)=a0 (aL (π a) ps)/\ps.map (·.1)=kvs.map (·.1)/\Æ K π μ.length H (ps.map λp=>V.ref p.2.1) (kvs.map λk=>D.tup<|k.1.map D.int)/\Æ K π μ.length H (ps.map (·.2.2)) (kvs.map (·.2))
 dF:∀a kvs,μ[a]?=a0 (.dF kvs)->∃(ob:Obj)(ps:List (List Int×Addr×V)),H (π a)=a0 (.frz ob<|aL (π a) ps)/\ps.map (·.1)=kvs.map (·.1)/\Æ K π μ.length H (ps.map λp=>V.ref p.2.1) (kvs.map λk=>D.tup<|k.1.map D.int)/\Æ K π μ.length H (ps.map (·.2.2)) (kvs.map (·.2))
structure En(K:Ö)(π:Nat->Addr)(n:Nat)(H:Hp)(σ:St)(ρ:aF):Prop where
 len:σ.length=ρ.length
 get:∀(i:Nat)(d:D),ρ[i]?=a0 (a0 d)->∃v,σ[i]?=a0 (a0 v)/\Ý K π n H v d
def En.mono(E:En K π n H σ ρ)(e:û π n H π' n' H'):En K π' n' H' σ ρ:=
 ⟨E.len,λi d h=>let⟨v,a,b⟩:=E.get i d h;⟨v,a,b.mono e⟩⟩
def En.set(E:En K π n H σ ρ)(h:Ý K π n H v d)i:En K π n H (σ.set i<|a0 v) (ρ.set i<|a0 d):=by
 show⟨by rw[Θ,Θ];show E.len,λj c e=>?_⟩;rw[List.getElem?_set]at e ⊢;by_cases a:i=j
 .subst a;rw[if_pos rfl]at e ⊢;rw[E.len];by_cases b:i<ρ.length
  .rw[if_pos b]at e ⊢;cases e;show⟨v,rfl,h⟩
  .rw[if_neg b]at e;cases e
 .rw[if_neg a]at e ⊢;show E.get j c e
def Rp.ne(R:Rp K π H μ)(h:H p=a7)(b:a<μ.length):π a≠p:=λe=>by have:=R.has a b;rw[e,h]at this;cases this
def Rp.fresh(R:Rp K π H μ)(h:H p=a7):û π μ.length H π μ.length (aK H p o)/\Rp K π (aK H p o) μ:=by
 have c:∀b u,H b=a0 u->aK H p o b=a0 u:=λb u e=>by rw[aY<|jW e h];show e
 have e:û π μ.length H π μ.length (aK H p o):=⟨Õ _,λ_ _=>rfl,λq i e=>c q _ e,λq o u e=>c q _ e⟩;show⟨e,R.inj,λa d=>?_,λa v d=>?_,λa g d=>?_,λa r d=>?_
  ,λa g d=>?_
  ,λa g d=>?_
  ⟩
 .rw[aY<|R.ne h d];show R.has a d
 .obtain⟨i,j,k⟩:=R.lst a v d;show⟨i,c _ _ j,k.mono e⟩
 .obtain⟨i,j,k,l⟩:=R.dK a g d;show⟨i,c _ _ j,k,l.mono e⟩
 .obtain⟨i,j,k,l⟩:=R.st a r d;show⟨i,c _ _ j,k,l.mono e⟩
 .obtain⟨i,j,k,l,m⟩:=R.dT a g d;show⟨i,c _ _ j,k,l.mono e,m.mono e⟩
 .obtain⟨s,i,j,k,l,m⟩:=R.dF a g d;show⟨s,i,c _ _ j,k,l.mono e,m.mono e⟩
abbrev t8(K:Ö)(π:Nat->Addr)(n:Nat)(H:Hp)(p:Addr):C->HO->Prop
 |.lst xs,.lst vs=>Æ K π n H vs xs|.dK kvs,.dK vs=>vs.map (·.1)=kvs.map (·.1)/\Æ K π n H (vs.map (·.2)) (kvs.map (·.2))|.st ks,o=>∃L:List Tb.El,o=wQ p L/\L.map (·.1)=ks/\Æ K π n H (L.map λp=>V.ref p.2) (ks.map λk=>D.tup<|k.map D.int)|.dT kvs,o=>∃ps:List (List Int×Addr×V),o=aL p ps/\ps.map (·.1)=kvs.map (·.1)/\Æ K π n H (ps.map λp=>V.ref p.2.1) (kvs.map λk=>D.tup<|k.1.map D.int)/\Æ K π n H (ps.map (·.2.2)) (kvs.map (·.2))|.dF kvs,o=>∃(a:Obj)(ps:List (List Int×Addr×V)),o=.frz a (aL p ps)/\ps.map (·.1)=kvs.map (·.1)/\Æ K π n H (ps.map λp=>V.ref p.2.1) (kvs.map λk=>D.tup<|k.1.map D.int)/\Æ K π n H (ps.map (·.2.2)) (kvs.map (·.2))|_,_=>False
abbrev jZ(π:Nat->Addr)(n:Nat)(p:Addr):Nat->Addr:=λa=>if a=n then p else π a
def Rp.alloc(R:Rp K π H μ)(h:H p=a7)(hc:t8 K π μ.length H p c o):
  û π μ.length H (jZ π μ.length p) (μ++[c]).length (aK H p o)/\Rp K (jZ π μ.length p) (aK H p o) (μ++[c])/\jZ π μ.length p μ.length=p:=by
 have B:(μ++[c]).length=μ.length+1:=by simp
 have g:∀b u,H b=a0 u->aK H p o b=a0 u:=λb u e=>by rw[aY<|jW e h];show e
 have x:jZ π μ.length p μ.length=p:=if_pos rfl;have v:∀a,a<μ.length->jZ π μ.length p a=π a:=λa d=>if_neg<|õ d;have e:û π μ.length H (jZ π μ.length p) (μ++[c]).length (aK H p o):=⟨by rw[B];show ud _,v,λq m e=>g q _ e,λq o u e=>g q _ e⟩;have split:∀a,a<(μ++[c]).length->a<μ.length\/a=μ.length:=λa d=>by rw[B]at d;lia
 have get:∀a,a<μ.length->(μ++[c])[a]?=μ[a]?:=λa d=>Š d;have j:(μ++[c])[μ.length]?=a0 c:=by simp
 show⟨e,⟨λa b d z q=>?_,λa d=>?_,λa G d=>?_,λa s d=>?_,λa E d=>?_
  ,λa s d=>?_
  ,λa s d=>?_
  ⟩,x⟩
 .rcases split a d with d|rfl<;>rcases split b z with z|rfl
  .rw[v a d,v b z]at q;show R.inj a b d z q
  .rw[v a d,x]at q;show absurd q<|R.ne h d
  .rw[x,v b z]at q;show absurd q.symm<|R.ne h z
  .rfl
 .rcases split a d with d|rfl
  .rw[v a d,aY<|R.ne h d];show R.has a d
  .rw[x,cP];rfl
 .have i:a<(μ++[c]).length:=(Ú.mp d).1;rcases split a i with l|rfl
  .rw[get a l]at d;obtain⟨m,w,k⟩:=R.lst a G d;rw[v a l];show⟨m,g _ _ w,k.mono e⟩
  .rw[j]at d;cases d;cases o with
   |lst m=>rw[x];show⟨m,cP,Æ.mono e hc⟩|_=>show Φ hc
 .have i:a<(μ++[c]).length:=(Ú.mp d).1;rcases split a i with l|rfl
  .rw[get a l]at d;obtain⟨m,w,k,r⟩:=R.dK a s d;rw[v a l];show⟨m,g _ _ w,k,r.mono e⟩
  .rw[j]at d;cases d;cases o with
   |dK m=>rw[x];show⟨m,cP,hc.1,Æ.mono e hc.2⟩|_=>show Φ hc
 .have i:a<(μ++[c]).length:=(Ú.mp d).1;rcases split a i with l|rfl
  .rw[get a l]at d;obtain⟨m,w,k,r⟩:=R.st a E d;rw[v a l];show⟨m,g _ _ w,k,r.mono e⟩
  .rw[j]at d;cases d;obtain⟨L,rfl,k,r⟩:=hc;rw[x];show⟨L,cP,k,r.mono e⟩
 .have i:a<(μ++[c]).length:=(Ú.mp d).1;rcases split a i with l|rfl
  .rw[get a l]at d;obtain⟨m,w,k,r,y⟩:=R.dT a s d;rw[v a l];show⟨m,g _ _ w,k,r.mono e,y.mono e⟩
  .rw[j]at d;cases d;obtain⟨L,rfl,k,r,y⟩:=hc;rw[x];show⟨L,cP,k,r.mono e,y.mono e⟩
 .have i:a<(μ++[c]).length:=(Ú.mp d).1;rcases split a i with l|rfl
  .rw[get a l]at d;obtain⟨A,m,w,k,r,y⟩:=R.dF a s d;rw[v a l];show⟨A,m,g _ _ w,k,r.mono e,y.mono e⟩
  .rw[j]at d;cases d;obtain⟨A,L,rfl,k,r,y⟩:=hc;rw[x];show⟨A,L,cP,k,r.mono e,y.mono e⟩
def Rp.putU(R:Rp K π H μ)(E:a<μ.length)(y:H (π a)=a0 u)(A:(∀vs,u≠.tup vs)/\∀s v,(∀M,v≠HO.ext M)->u≠.frz s v)(hc:t8 K π μ.length H (π a) c o):
  ņ π μ.length H π (μ.set a c).length (aK H (π a) o)/\Rp K π (aK H (π a) o) (μ.set a c):=by
 have m:(μ.set a c).length=μ.length:=Θ ..;have e:ņ π μ.length H π (μ.set a c).length (aK H (π a) o):=by
  show⟨lu m.symm,λ_ _=>rfl,λq vs z=>?_,λq N O nx z=>?_⟩
  .rw[aY]
   .show z
   .intro e;subst e;rw[y]at z;show A.1 _<|ė z
  .rw[aY]
   .show z
   .intro e;subst e;rw[y]at z;show A.2 _ _ nx<|ė z
 have i:∀b,b<μ.length->b≠a->aK H (π a) o (π b)=H (π b):=λb d x=>aY λq=>x<|R.inj b a d E q;show⟨e,⟨λb B d w=>R.inj b B (m▸d)<|m▸w,λb d=>?_,λb I d=>?_,λb l d=>?_,λb G d=>?_
  ,λb l d=>?_
  ,λb l d=>?_
  ⟩⟩
 .by_cases h:b=a
  .subst h;rw[cP];rfl
  .rw[i b (m▸d) h];show R.has b<|m▸d
 .have g:b<μ.length:=m▸(Ú.mp d).1;by_cases h:b=a
  .subst h;rw[τ g]at d;cases d;cases o with
   |lst vs=>show⟨vs,cP,Æ.mono0 e hc⟩|_=>show Φ hc
  .rw[đ<|ć h]at d;obtain⟨vs,p,j⟩:=R.lst b I d;show⟨vs,by rw[i b g h];show p,j.mono0 e⟩
 .have g:b<μ.length:=m▸(Ú.mp d).1;by_cases h:b=a
  .subst h;rw[τ g]at d;cases d;cases o with
   |dK vs=>show⟨vs,cP,hc.1,Æ.mono0 e hc.2⟩|_=>show Φ hc
  .rw[đ<|ć h]at d;obtain⟨vs,p,j,k⟩:=R.dK b l d;show⟨vs,by rw[i b g h];show p,j,k.mono0 e⟩
 .have g:b<μ.length:=m▸(Ú.mp d).1;by_cases h:b=a
  .subst h;rw[τ g]at d;cases d;obtain⟨L,rfl,j,k⟩:=hc;show⟨L,cP,j,k.mono0 e⟩
  .rw[đ<|ć h]at d;obtain⟨vs,p,j,k⟩:=R.st b G d;show⟨vs,by rw[i b g h];show p,j,k.mono0 e⟩
 .have g:b<μ.length:=m▸(Ú.mp d).1;by_cases h:b=a
  .subst h;rw[τ g]at d;cases d;obtain⟨L,rfl,j,k,r⟩:=hc;show⟨L,cP,j,k.mono0 e,r.mono0 e⟩
  .rw[đ<|ć h]at d;obtain⟨vs,p,j,k,r⟩:=R.dT b l d;show⟨vs,by rw[i b g h];show p,j,k.mono0 e,r.mono0 e⟩
 .have g:b<μ.length:=m▸(Ú.mp d).1;by_cases h:b=a
  .subst h;rw[τ g]at d;cases d;obtain⟨s,L,rfl,j,k,r⟩:=hc;show⟨s,L,cP,j,k.mono0 e,r.mono0 e⟩
  .rw[đ<|ć h]at d;obtain⟨s,vs,p,j,k,r⟩:=R.dF b l d;show⟨s,vs,by rw[i b g h];show p,j,k.mono0 e,r.mono0 e⟩
def Rp.put0(R:Rp K π H μ)(g:a<μ.length)(h:H (π a)=a0 u)(e:(∃vs,u=.lst vs)\/(∃vs,u=.dK vs)\/(∃d,u=.ext d)\/∃b d,u=.frz b (.ext d))(hc:t8 K π μ.length H (π a) c o):
  ņ π μ.length H π (μ.set a c).length (aK H (π a) o)/\Rp K π (aK H (π a) o) (μ.set a c):=
 R.putU g h ⟨λvs z=>(by rcases e with⟨w,rfl⟩|⟨w,rfl⟩|⟨w,rfl⟩|⟨b,w,rfl⟩<;>cases z),λb v nx z=>by
  rcases e with⟨w,rfl⟩|⟨w,rfl⟩|⟨w,rfl⟩|⟨b,w,rfl⟩<;>cases z;show nx _ rfl⟩ hc
def Rp.putE(R:Rp K π H μ)(h:a<μ.length)(d:H (π a)=a0 u)(b:(∀vs,u≠.tup vs)/\∀g v,u≠.frz g v)(hc:t8 K π μ.length H (π a) c o):
  û π μ.length H π (μ.set a c).length (aK H (π a) o)/\Rp K π (aK H (π a) o) (μ.set a c):=by
 have e:û π μ.length H π (μ.set a c).length (aK H (π a) o):=by
  show⟨lu (Θ ..).symm,λ_ _=>rfl,λq vs z=>?_,λq i j z=>?_⟩
  .rw[aY]
   .show z
   .intro e;subst e;rw[d]at z;show b.1 _<|ė z
  .rw[aY]
   .show z
   .intro e;subst e;rw[d]at z;show b.2 _ _<|ė z
 show⟨e,(R.putU h d ⟨b.1,λg v _=>b.2 g v⟩ hc).2⟩
def Rp.put(R:Rp K π H μ)(d:a<μ.length)(e:H (π a)=a0 u)(b:(∃vs,u=.lst vs)\/(∃vs,u=.dK vs)\/∃g,u=.ext g)(hc:t8 K π μ.length H (π a) c o):
  û π μ.length H π (μ.set a c).length (aK H (π a) o)/\Rp K π (aK H (π a) o) (μ.set a c):=
 R.putE d e ⟨λvs z=>(by rcases b with⟨w,rfl⟩|⟨w,rfl⟩|⟨w,rfl⟩<;>cases z),λh v z=>by rcases b with⟨w,rfl⟩|⟨w,rfl⟩|⟨w,rfl⟩<;>cases z⟩ hc
abbrev KC(K:Ö)(Q:VK)(π:Nat->Addr)(n:Nat)(H:Hp)(d:D)(μ':Hm):Prop:=
 ∀a v b,û π n H a μ'.length b->Rp K a b μ'->Ý K a μ'.length b v d->Q v b
def KC.after(k:KC K Q π n H d μ')(e:û π n H a g c):KC K Q a g c d μ':=
 λb v h j R i=>k b v h (e.trans j) R i
inductive tM (K:Ö)(m:ME)(σ:St)(H:Hp)(Q:VK):Prop
 |mk (π:Nat->Addr)(ρ:aF)(μ:Hm)(d:D)(μ':Hm)(R:Rp K π H μ)(E:En K π μ.length H σ ρ)(hm:m ρ μ=a0 (d,μ'))(k:KC K Q π μ.length H d μ'):tM K m σ H Q
inductive ŀ (K:Ö)(m:MT)(σ:St)(H:Hp)(Q:Bool->Hp->Prop):Prop
 |mk (π:Nat->Addr)(ρ:aF)(μ:Hm)(b:Bool)(μ':Hm)(R:Rp K π H μ)(E:En K π μ.length H σ ρ)(hm:m ρ μ=a0 (b,μ'))(k:∀π' H',û π μ.length H π' μ'.length H'->Rp K π' H' μ'->Q b H'):ŀ K m σ H Q
inductive ŷ (K:Ö)(m:MA)(σ:St)(H:Hp)(Q:gw->Hp->Prop):Prop
 |mk (π:Nat->Addr)(ρ:aF)(μ:Hm)(ds:List D)(μ':Hm)(R:Rp K π H μ)(E:En K π μ.length H σ ρ)(hm:m ρ μ=a0 (ds,μ'))(k:∀π' vs H',û π μ.length H π' μ'.length H'->Rp K π' H' μ'->Æ K π' μ'.length H' vs ds->Q vs H'):ŷ K m σ H Q
abbrev pR(K:Ö)(E:χ)(π:Nat->Addr)(n:Nat)(H:Hp)(g:Fl)(e:aF)(μ':Hm):Prop:=
 match g with
 |.nx=>∀a b c,û π n H a μ'.length c->Rp K a c μ'->En K a μ'.length c b e->E.nx b c|.bk=>∀a b c,û π n H a μ'.length c->Rp K a c μ'->En K a μ'.length c b e->E.bk b c|.ct=>∀a b c,û π n H a μ'.length c->Rp K a c μ'->En K a μ'.length c b e->E.ct b c|.rt d=>KC K E.rt π n H d μ'
inductive ŉ (K:Ö)(m:MS)(E:χ)(σ:St)(H:Hp):Prop
 |mk (π:Nat->Addr)(ρ:aF)(μ:Hm)(fl:Fl)(ρ':aF)(μ':Hm)(R:Rp K π H μ)(EN:En K π μ.length H σ ρ)(hm:m ρ μ=a0 (fl,ρ',μ'))(k:pR K E π μ.length H fl ρ' μ'):ŉ K m E σ H
inductive xf (K:Ö)(f:MF)(vs:gw)(H:Hp)(Q:VK):Prop
 |mk (π:Nat->Addr)(ds:List D)(μ:Hm)(d:D)(μ':Hm)(R:Rp K π H μ)(i:Æ K π μ.length H vs ds)(hm:f ds μ=a0 (d,μ'))(k:KC K Q π μ.length H d μ'):xf K f vs H Q
abbrev kR(K:Ö)(k:Nat)(f:MF):Sp:=λvs H Q _=>vs.length=k/\xf K f vs H Q
def c4(h:PE X e t)(hw:∀σ H Q,tM X.K m σ H Q->t σ H Q):PE X e (tM X.K m):=λDn s σ H Q I q=>h Dn s σ H Q I<|hw σ H Q q
def wU(h:PT X e t)(hw:∀σ H Q,ŀ X.K m σ H Q->t σ H Q):PT X e (ŀ X.K m):=λDn s σ H Q I q=>h Dn s σ H Q I<|hw σ H Q q
def Er(h:PW X e t)(hw:∀σ H Q,ŀ X.K m σ H Q->t σ H Q):PW X e (ŀ X.K m):=λd Dn s σ H Q I q=>h d Dn s σ H Q I<|hw σ H Q q
def Es(h:PA X es t)(hw:∀σ H Q,ŷ X.K m σ H Q->t σ H Q):PA X es (ŷ X.K m):=λp Dn s σ H Q I q=>h p Dn s σ H Q I<|hw σ H Q q
def lR(h:PS X st t)(hw:∀E σ H,ŉ X.K m E σ H->t E σ H):PS X st (ŉ X.K m):=λDn s σ H E I q=>h Dn s σ H E I<|hw E σ H q
def Et(h:Ŗ X st t)(hw:∀E σ H,ŉ X.K m E σ H->t E σ H):Ŗ X st (ŉ X.K m):=λDn s σ H E I q=>h Dn s σ H E I<|hw E σ H q
abbrev aA(i:Nat):ME:=λρ g=>match ρ[i]? with|some (a0 d)=>a0 (d,g)|_=>a7
abbrev mC(d:D):ME:=λ_ g=>a0 (d,g)
def a9z(h:aA i ρ g=a0 (d,μ')):ρ[i]?=a0 (a0 d)/\μ'=g:=by
 unfold aA at h;split at h
 .rename_i j e;cases h;show⟨e,rfl⟩
 .cases h
def a9q i(h:PE X (.Name x pos) (DB i)):PE X (.Name x pos) (tM X.K<|aA i):=c4 h<|by
 rintro s H Q ⟨p,r,q,d,o,R,E,n,k⟩;obtain⟨g,rfl⟩:=a9z n;obtain⟨v,j,l⟩:=E.get i d g;show⟨v,j,k p v H .refl R l⟩
def rM(h:PE X e (tC v))(hd:∀π n H,Ý X.K π n H v d):PE X e (tM X.K<|mC d):=c4 h<|by
 rintro p H Q ⟨π,o,l,j,i,R,E,g,k⟩;cases g;show k π v H .refl R<|hd _ _ _
def a9d:PE X (.Constant (.int i) j pos) (tM X.K<|mC<|.int i):=rM a8c λ_ _ _=>.int i
def a9c:PE X (.Constant (.bool i) j pos) (tM X.K<|mC<|.bl i):=rM a8X λ_ _ _=>.bl i
def a9b:PE X (.Constant (.str i) j pos) (tM X.K<|mC<|.str i):=rM a8T λ_ _ _=>.str i
def a9Y:PE X (.Constant .none j pos) (tM X.K<|mC .non):=rM a8U λ_ _ _=>.non
abbrev aC(f:D->D->Hm->jk)(a b:ME):ME:=λρ d=>(a ρ d).bind λp=>(b ρ p.2).bind λq=>f p.1 q.1 q.2
abbrev dE(K:Ö)(f:D->D->Hm->jk)(r:R2):Prop:=
 ∀i H g x y d h j k Q,Rp K i H g->Ý K i g.length H j x->Ý K i g.length H k y->f x y g=a0 (d,h)->KC K Q i g.length H d h->r j k H Q
def t9(z:dE K f r):∀σ H Q,tM K (aC f ma mb) σ H Q->tY r (tM K ma) (tM K mb) σ H Q:=by rintro σ H Q ⟨M,q,L,d,j,R,E,g,k⟩;show aZ g ?_;clear g;intro x h v g;show aZ g ?_;clear g;intro y i w g;show⟨M,q,L,x,h,R,E,v,λl G N o u A=>⟨l,q,h,y,i,u,E.mono o,w,λn I s p R2 B=>z n s i x y d j G I Q R2 (A.mono p) B g<|k.after<|o.trans p⟩⟩
def a9O(i:Ĕ X (Τ op) r)(h:dE X.K f r)(d:PE X a (tM X.K ma))(g:PE X b (tM X.K mb)):PE X (.BinOp a op b pos) (tM X.K<|aC f ma mb):=
 c4 (b2X i d g)<|t9 h
def gH(j:Ĕ X (ĺ op) r)(h:dE X.K f r)(d:PE X a (tM X.K ma))(g:PE X b (tM X.K mb))(i:fu op b=a8):PE X (.Compare a [op] [b] pos) (tM X.K<|aC f ma mb):=
 c4 (b2D j d g i)<|t9 h
abbrev aT(m:ME):MT:=λρ d=>(m ρ d).bind λp=>match p.1 with|.bl b=>a0 (b,p.2)|_=>a7
def Eu:∀σ H Q,ŀ K (aT m) σ H Q->tM K m σ H λx g=>∃k,x=.bl k/\Q k g:=by
 rintro σ H Q ⟨r,s,o,b,p,R,E,d,k⟩;show aZ d ?_;clear d;intro x q l d;cases x with
 |bl c=>cases d;show⟨r,s,o,_,_,R,E,l,λh v g j i n=>?_⟩;cases n;show⟨_,rfl,k h g j i⟩|_=>cases d
def gJ(l:Ĕ X (ĺ op) r)(j:dE X.K f r)(g:PE X a (tM X.K ma))(i:PE X b (tM X.K mb))(k:fu op b=a8):PT X (.Compare a [op] [b] pos) (ŀ X.K<|aT<|aC f ma mb):=
 wU (b2B l g i k) λd H Q h=>t9 j d H _<|Eu d H Q h
section
variable{X:Cx}{e a b c:Expr}{m ma mb mc:ME}{pos:è}{mt mu:MT}{È:List Expr}
abbrev j6(a b:MT):MT:=λρ d=>(a ρ d).bind λp=>match p.1 with|true=>b ρ p.2|false=>a0 (a8,p.2)
abbrev jJ(a b:MT):MT:=λρ d=>(a ρ d).bind λp=>match p.1 with|true=>a0 (a9,p.2)|false=>b ρ p.2
abbrev iY(a:MT):MT:=λρ d=>(a ρ d).map λp=>(!p.1,p.2)
def a9N(d:PT X a (ŀ X.K mt)):PW X (.BoolOp .And [a] pos) (ŀ X.K mt):=a7j d
def a9H(d:PT X a (ŀ X.K mt)):PW X (.BoolOp .Or [a] pos) (ŀ X.K mt):=a7i d
def a9C(v:PT X a (ŀ X.K mt))(w:PW X (.BoolOp .And (b::È) pos) (ŀ X.K mu)):PW X (.BoolOp .And (a::b::È) pos) (ŀ X.K<|j6 mt mu):=Er (a7h v w)<|by
 rintro A H Q ⟨z,p,y,d,l,R,E,g,k⟩;show aZ g ?_;clear g;intro x h u g;show⟨z,p,y,x,h,R,E,u,λi q j o=>?_⟩;cases x with
 |true=>show oB ?_;show⟨i,p,h,d,l,o,E.mono j,g,λn r s R2=>k n r (j.trans s) R2⟩|false=>
  show oA ?_;cases g;show k i q j o
def a9A(v:PT X a (ŀ X.K mt))(w:PW X (.BoolOp .Or (b::È) pos) (ŀ X.K mu)):PW X (.BoolOp .Or (a::b::È) pos) (ŀ X.K<|jJ mt mu):=Er (a7a v w)<|by
 rintro A H Q ⟨z,p,y,d,l,R,E,g,k⟩;show aZ g ?_;clear g;intro x h u g;show⟨z,p,y,x,h,R,E,u,λi q j o=>?_⟩;cases x with
 |true=>show oB ?_;cases g;show k i q j o|false=>
  show oA ?_;show⟨i,p,h,d,l,o,E.mono j,g,λn r s R2=>k n r (j.trans s) R2⟩
def a8z(p:PT X a (ŀ X.K mt)):PT X (.UnaryOp .Not a pos) (ŀ X.K<|iY mt):=wU (a7Z p)<|by
 rintro v H Q ⟨s,u,q,d,r,R,E,g,k⟩;show t7 g ?_;clear g;intro x h o g;cases g;show⟨s,u,q,x,h,R,E,o,λi j n l=>k i j n l⟩
abbrev eJ(a b:ME):ME:=λρ d=>(a ρ d).bind λp=>match p.1 with|.bl a9=>b ρ p.2|.bl a8=>a0 (.bl a8,p.2)|_=>a7
abbrev AA(a b:ME):ME:=λρ d=>(a ρ d).bind λp=>match p.1 with|.bl a9=>a0 (.bl a9,p.2)|.bl a8=>b ρ p.2|_=>a7
abbrev rN(a:ME):ME:=λρ d=>(a ρ d).bind λp=>match p.1 with|.bl b=>a0 (.bl<|!b,p.2)|_=>a7
def a8n(h:PE X a (tM X.K m)):PE X (.BoolOp op [a] pos) (tM X.K m):=a7N h
def a8m(r:PE X a (tM X.K ma))(s:PE X (.BoolOp .And (b::È) pos) (tM X.K mb)):PE X (.BoolOp .And (a::b::È) pos) (tM X.K<|eJ ma mb):=c4 (b1x r s)<|by
 rintro z H Q ⟨w,o,v,d,l,R,E,g,k⟩;show aZ g ?_;clear g;intro x h q g;cases x with
 |bl c=>
  show⟨w,o,v,.bl c,h,R,E,q,λi y p j n u=>?_⟩;cases u;show⟨c,rfl,?_⟩;cases c with
  |true=>show oB ?_;show⟨i,o,h,d,l,n,E.mono j,g,k.after j⟩|false=>show oA ?_;cases g;show k i _ p j n<|.bl a8
 |_=>cases g
def b1S(r:PE X a (tM X.K ma))(s:PE X (.BoolOp .Or (b::È) pos) (tM X.K mb)):PE X (.BoolOp .Or (a::b::È) pos) (tM X.K<|AA ma mb):=c4 (b1v r s)<|by
 rintro z H Q ⟨w,o,v,d,l,R,E,g,k⟩;show aZ g ?_;clear g;intro x h q g;cases x with
 |bl c=>
  show⟨w,o,v,.bl c,h,R,E,q,λi y p j n u=>?_⟩;cases u;show⟨c,rfl,?_⟩;cases c with
  |true=>show oB ?_;cases g;show k i _ p j n (.bl a9)|false=>show oA ?_;show⟨i,o,h,d,l,n,E.mono j,g,k.after j⟩
 |_=>cases g
def b1Q(o:PE X a (tM X.K ma)):PE X (.UnaryOp .Not a pos) (tM X.K<|rN ma):=c4 (b1l o)<|by
 rintro y H Q ⟨u,v,q,d,r,R,E,g,k⟩;show aZ g ?_;clear g;intro x s n g;cases x with
 |bl c=>cases g;show⟨u,v,q,_,_,R,E,n,λh w i l j p=>?_⟩;cases p;show⟨_,rfl,k h _ i l j<|.bl _⟩
 |_=>cases g
abbrev j7(t:MT)(a b:ME):ME:=λρ d=>(t ρ d).bind λp=>match p.1 with|true=>a ρ p.2|false=>b ρ p.2
def b1O(hc:PT X c (ŀ X.K mt))(q:PE X a (tM X.K ma))(r:PE X b (tM X.K mb)):PE X (.IfExp c a b pos) (tM X.K<|j7 mt ma mb):=c4 (b0o hc q r)<|by
 rintro w H Q ⟨u,n,s,d,i,R,E,h,k⟩;show aZ h ?_;clear h;intro x g p h;show⟨u,n,s,x,g,R,E,p,λj v l o=>?_⟩;cases x with
 |true=>show oB ?_;show⟨j,n,g,d,i,o,E.mono l,h,k.after l⟩|false=>
  show oA ?_;show⟨j,n,g,d,i,o,E.mono l,h,k.after l⟩
abbrev aD:MA:=λ_ d=>a0 ([],d)
abbrev aB(a:ME)(r:MA):MA:=λρ d=>(a ρ d).bind λp=>(r ρ p.2).bind λq=>a0 (p.1::q.1,q.2)
variable{es:List Expr}{ms:MA}
def b0w:PA X [] (ŷ X.K aD):=Es DQ<|by
 rintro n H Q ⟨i,l,j,d,h,R,E,g,k⟩;cases g;show k i [] H .refl R .nil
def b0v(v:PE X e (tM X.K m))(w:PA X es (ŷ X.K ms))(y:ă (e::es) X.env=(a8,eval e X.env)::ă es X.env:=by rfl):PA X (e::es) (ŷ X.K<|aB m ms):=Es (DR v w y)<|by
 rintro O H Q ⟨K,p,G,d,I,R,E,g,k⟩;show aZ g ?_;clear g;intro x h s g;show aZ g ?_;clear g;intro B i u g;cases g;show⟨K,p,G,x,h,R,E,s,λj M L n r z=>⟨j,p,h,B,i,r,E.mono n,u,λl N q o R2 A=>k l _ q (n.trans o) R2<|.cons (z.mono o) A⟩⟩
abbrev bP(ms:MA):ME:=λρ d=>(ms ρ d).bind λp=>if p.1.length<=Ñ then a0 (.tup p.1,p.2)else a7
abbrev cX(ms:MA):ME:=λρ d=>(ms ρ d).bind λp=>if p.1.length<=Ñ then a0 (.loc p.2.length,p.2++[.lst p.1])else a7
def b0u(h:PA X es (ŷ X.K ms)):PE X (.Tuple es v pos) (tM X.K<|bP ms):=c4 (a6f h)<|by
 rintro I H Q ⟨z,A,w,d,x,R,E,g,k⟩;show aZ g ?_;clear g;intro G y q g;split at g
 .rename_i r;cases g;show⟨z,A,w,_,_,R,E,q,λi u B o n l=>⟨by rw[l.length];show r,λp s=>?_⟩⟩;obtain⟨j,R2⟩:=n.fresh (o:=.tup u) s;show k i _ _ (o.trans j) R2<|.tup (.of cP)<|l.mono j
 .cases g
def b0t(h:PA X es (ŷ X.K ms)):PE X (.List es pos) (tM X.K<|cX ms):=c4 (a6Y h)<|by
 rintro K H Q ⟨G,I,A,d,B,R,E,i,k⟩;show aZ i ?_;clear i;intro l g w i;split at i
 .rename_i x;cases i;show⟨G,I,A,l,g,R,E,w,λj n o u s r=>⟨by rw[r.length];show x,λp y=>?_⟩⟩;obtain⟨v,R2,q⟩:=s.alloc (c:=.lst l) (o:=.lst n) y r;have z:Ý X.K (jZ j g.length p) (g++[C.lst l]).length (aK o p<|.lst n) (.ref p) (.loc g.length):=by have:=Ý.loc (K:=X.K) (π:=jZ j g.length p) (n:=(g++[C.lst l]).length) (H:=aK o p (.lst n)) (a:=g.length) (by simp);rw[q]at this;show this
  show k _ _ _ (u.trans v) R2 z
 .cases i
abbrev aG(f:MF)(ms:MA):ME:=λρ d=>(ms ρ d).bind λp=>f p.1 p.2
def b0c(u:∀ρ i ds μ',ms ρ i=a0 (ds,μ')->ds.length=n):∀σ H Q,tM K (aG f ms) σ H Q->Ap (kR K n f) [] E (ŷ K ms) σ H Q:=by rintro σ H Q ⟨w,ρ,i,d,μ',R,E,h,k⟩;show aZ h ?_;clear h;intro j g o h;show⟨w,ρ,i,j,g,R,E,o,λl v q s r p=>?_⟩;change kR K n f (v++[]) q Q _;rw[ů];show⟨by rw[p.length];show u ρ i j g o,l,j,g,d,μ',r,p,h,k.after s⟩
def b0b:∀ρ d ds μ',aD ρ d=a0 (ds,μ')->ds.length=0:=by intro ρ d ds μ' h;cases h;rfl
def b0V(h:∀ρ g ds μ',ms ρ g=a0 (ds,μ')->ds.length=n):∀ρ g ds μ',aB m ms ρ g=a0 (ds,μ')->ds.length=n+1:=by intro ρ g ds μ' d;show aZ d ?_;clear d;intro x i o d;show aZ d ?_;clear d;intro k l j d;cases d;rw[Ļ,h ρ i k _ j]
def b4u(F:ļ X.prog X.w X.K X.mg X.base iI k f i ps (kR X.K n j))(w:ç k X.A)(r:Gl X x)(u:X.mg x=a0 (.ref f))(s:Ϟ X.K (.ref f)=a9)(o:Ħ X.K i ps [])(l:PA X (e::es) (ŷ X.K ms))(v:∀z y ds h,ms z y=a0 (ds,h)->ds.length=n)(d:(x==("__debug__":Str))=false:=by decide)(q:ă (e::es) X.env=(a8,eval e X.env)::ă es X.env:=by rfl)(g:(Ŋ pos<|ă es X.env).any (·.1)=false:=by rfl):
  PE X (.Call (.Name x p) (e::es) [] pos) (tM X.K<|aG j ms):=
 c4 (a6W F w r u s o .nil (E:=E0) Ej l d q g)<|b0c v
abbrev fF(K:Ö)(f:MF)(r:gw->Hp->VK->Prop):Prop:=
 ∀i H h k d g j Q,Rp K i H h->Æ K i h.length H j k->f k h=a0 (d,g)->KC K Q i h.length H d g->r j H Q
def AB(s:fF K f r):∀σ H Q,tM K (aG f ms) σ H Q->wK r (ŷ K ms) σ H Q:=by rintro σ H Q ⟨x,y,w,d,i,R,E,h,k⟩;show aZ h ?_;clear h;intro l g q h;show⟨x,y,w,l,g,R,E,q,λj v n p o u=>s j n g l d i v Q o u h<|k.after p⟩
def b4m{id:String}(hc:ì X (.builtin id) r)(j:fF X.K f r)(k:Gl X x)(l:X.mg x=a7)(o:Ε x=a0 (.builtin id))(h:PA X (e::es) (ŷ X.K ms))(n:x ≠ "__name__":=by decide)(d:(x==("__debug__":Str))=false:=by decide)(i:ă (e::es) X.env=(a8,eval e X.env)::ă es X.env:=by rfl)(g:(Ŋ pos<|ă es X.env).any (·.1)=false:=by rfl):PE X (.Call (.Name x p) (e::es) [] pos) (tM X.K<|aG f ms):=
 c4 (a5X hc k l o h n d i g)<|AB j
def b4k(hc:ì X (.type T) r)(j:fF X.K f r)(k:Gl X x)(l:X.mg x=a7)(o:Ε x=a0 (.type T))(h:PA X (e::es) (ŷ X.K ms))(n:x ≠ "__name__":=by decide)(d:(x==("__debug__":Str))=false:=by decide)(i:ă (e::es) X.env=(a8,eval e X.env)::ă es X.env:=by rfl)(g:(Ŋ pos<|ă es X.env).any (·.1)=false:=by rfl):PE X (.Call (.Name x p) (e::es) [] pos) (tM X.K<|aG f ms):=
 c4 (a5T hc k l o h n d i g)<|AB j
abbrev bM(d:Hm):D->Option (List D)
 |.tup xs=>a0 xs|.rol xs=>a0 xs|.loc a=>match d[a]? with|some (.lst xs)=>a0 xs|_=>a7
 |_=>a7
abbrev jK:D->D->Hm->jk
 |.str z,.int i,μ=>if z.length<=Ñ then(atI z.cps.toList i).map λc=>(.str ⟨#[c]⟩,μ)else a7|x,.int i,μ=>(bM μ x).bind λg=>(atI g i).map λd=>(d,μ)|_,_,_=>a7
def b4j:dE K jK (D6 K):=by
 intro p H O x y d G M N Q R r B g k;cases B with
 |int i=>
  cases r with
  |str z=>
   simp only[jK]at g;split at g
   .rename_i w;show bY g ?_;clear g;intro c j l;cases l;show .inr<|.inr ⟨z,i,c,rfl,rfl,w,j,k p _ H .refl R<|.str _⟩
   .cases g
  |tup h t=>simp only[jK,bM,ğ]at g;show bY g ?_;clear g;intro q j l;cases l;obtain⟨v,n,o⟩:=t.atI j;show .inr (.inl ⟨_,_,i,v,rfl,rfl,h,n,k p _ H .refl R o⟩)|rol h t=>simp only[jK,bM,ğ]at g;show bY g ?_;clear g;intro q j l;cases l;obtain⟨v,n,o⟩:=t.atI j;show .inl ⟨_,_,i,v,rfl,rfl,h.sq,n,k p _ H .refl R o⟩|@loc a I=>
   simp only[jK,bM]at g;split at g
   .rename_i E A;simp only[ğ]at g;show bY g ?_;clear g;intro q j l;cases l;obtain⟨L,s,u⟩:=R.lst a E A;obtain⟨v,n,o⟩:=u.atI j;show .inl ⟨_,_,i,v,rfl,rfl,.of s,n,k p _ H .refl R o⟩
   .cases g
  |_=>simp[jK,bM]at g
 |_=>cases r<;>simp[jK]at g
def b4i(d:PE X a (tM X.K ma))(g:PE X b (tM X.K mb))(h:Av b):PE X (.Subscript a b pos) (tM X.K<|aC jK ma mb):=c4 (a8j a8h d g h)<|t9 b4j
abbrev j8(xs:List D)(lo d:Option Int):List D:=(xs.drop<|HT.sIx xs.length 0 lo).take<|HT.sIx xs.length xs.length d-HT.sIx xs.length 0 lo
noncomputable abbrev MO:=aF->Hm->Option (Option Int×Hm)
abbrev fG:MO:=λ_ d=>a0 (a7,d)
abbrev eV(m:ME):MO:=λρ d=>(m ρ d).bind λp=>match p.1 with|.int i=>a0 (a0 i,p.2)|_=>a7
inductive qp (K:Ö)(m:MO)(σ:St)(H:Hp)(Q:Option Int->Hp->Prop):Prop
 |mk (π:Nat->Addr)(ρ:aF)(μ:Hm)(o:Option Int)(μ':Hm)(R:Rp K π H μ)(E:En K π μ.length H σ ρ)(hm:m ρ μ=a0 (o,μ'))(k:∀π' H',û π μ.length H π' μ'.length H'->Rp K π' H' μ'->Q o H'):qp K m σ H Q
def b4d:PO X a7 (qp X.K fG):=λDn s σ H Q I q=>a7K Dn s σ H Q I<|by
 obtain⟨h,j,i,o,g,R,E,d,k⟩:=q;cases d;show k h H .refl R
def b4b(h:PE X e (tM X.K m)):PO X (a0 e) (qp X.K<|eV m):=λDn s σ H Q I q=>a7I h Dn s σ H Q I<|by
 obtain⟨y,z,u,o,v,R,E,d,k⟩:=q;show aZ d ?_;clear d;intro x w p d;cases x with
 |int i=>cases d;show⟨y,z,u,_,_,R,E,p,λg A j n l r=>?_⟩;cases r;show⟨_,rfl,k g j n l⟩
 |_=>cases d
noncomputable abbrev Ew(K:Ö):V->Option Int->Option Int->Hp->VK->Prop:=Aw K
def b3z:Ar X (Ew X.K):=a8Y
def Ex(h:Aw K x lo d H Q):Ew K x lo d H Q:=h
abbrev jL(a:ME)(lo d:MO):ME:=λρ h=>(a ρ h).bind λp=>(lo ρ p.2).bind λq=>(d ρ q.2).bind λr=>
 match p.1 with
 |.tup _=>a7|x=>(bM r.2 x).bind λg=>a0 (.loc r.2.length,r.2++[.lst<|j8 g q.1 r.1])
def Ey(h:Æ K π n H vs ds)lo d:Æ K π n H (n9 vs lo d) (j8 ds lo d):=by unfold n9 j8;rw[h.length];show(h.drop _).take _
def j9{d:Hm}{c:C}:Ý K (jZ π d.length p) (d++[c]).length H (.ref p) (.loc d.length):=by have:=Ý.loc (K:=K) (π:=jZ π d.length p) (n:=(d++[c]).length) (H:=H) (a:=d.length) (by simp);rw[show jZ π d.length p d.length=p from if_pos rfl]at this;show this
def b3x(ha:PE X a (tM X.K ma))(hl:PO X lo (qp X.K M))(hu:PO X K (qp X.K L)):PE X (.Subscript a (.Slice lo K a7 p2) pos) (tM X.K<|jL ma M L):=c4 (a7E b3z ha hl hu)<|by
 rintro σ H Q ⟨π,I,μ,d,μ',R,E,g,k⟩;show aZ g ?_;clear g;intro x j T g;show aZ g ?_;clear g;intro l n U g;show aZ g ?_;clear g;intro u A Y g;show⟨π,I,μ,x,j,R,E,T,λB v1 H1 o O i1=>⟨B,I,j,l,n,O,E.mono o,U,λG H2 r R2=>⟨G,I,n,u,A,R2,(E.mono o).mono r,Y,λπ3 H3 w s=>?_⟩⟩⟩;have i3:=(i1.mono r).mono w;cases i3 with
 |rol h t=>simp only[bM,ğ]at g;cases g;show Ex ⟨_,_,rfl,h.sq,λp z=>?_⟩;obtain⟨y,v,q⟩:=s.alloc (c:=.lst (j8 _ l u)) (o:=.lst (n9 _ l u)) z<|Ey t l u;show k _ _ _ (((o.trans r).trans w).trans y) v j9|@loc i hi'=>
  simp only[bM]at g;split at g
  .rename_i N hx;simp only[ğ]at g;cases g;obtain⟨vs,Z,h6⟩:=s.lst i N hx;show Ex ⟨_,_,rfl,.of Z,λp z=>?_⟩;obtain⟨y,v,q⟩:=s.alloc (c:=.lst (j8 N l u)) (o:=.lst (n9 vs l u)) z<|Ey h6 l u;show k _ _ _ (((o.trans r).trans w).trans y) v j9
  .cases g
 |tup h t=>simp at g
 |_=>simp[bM]at g
end
abbrev bV:MS:=λρ d=>a0 (.nx,ρ,d)
abbrev aE(a b:MS):MS:=λρ d=>(a ρ d).bind λp=>match p.1 with|.nx=>b p.2.1 p.2.2|_=>a0 p
abbrev aR(m:ME):MS:=λρ d=>(m ρ d).map λp=>(.rt p.1,ρ,p.2)
abbrev cY(m:ME):MS:=λρ d=>(m ρ d).map λp=>(.nx,ρ,p.2)
abbrev bK(t:MT)(a b:MS):MS:=λρ d=>(t ρ d).bind λp=>match p.1 with|true=>a ρ p.2|false=>b ρ p.2
abbrev aP(i:Nat)(m:ME):MS:=λρ d=>(m ρ d).map λp=>(.nx,ρ.set i<|a0 p.1,p.2)
def b3v:Ŗ X [] (ŉ X.K bV):=Et b0J<|by
 rintro E l H ⟨i,p,o,n,j,h,R,d,g,k⟩;cases g;show k i l H .refl R d
def b3t{È:List Stmt}(h1:PS X st (ŉ X.K ms))(A:Ŗ X È (ŉ X.K mr)):Ŗ X (st::È) (ŉ X.K<|aE ms mr):=Et (a9r h1 A)<|by
 rintro E M H ⟨G,I,B,w,u,r,R,y,i,k⟩;obtain⟨⟨v,p,o⟩,h1,i⟩:=œ.mp i;show⟨G,I,B,v,p,o,R,y,h1,?_⟩;cases v with
 |nx=>
  intro s K L q z x;show⟨s,p,o,w,u,r,z,x,i,?_⟩;cases w with
  |nx=>show λg h l n R2 j=>k g h l (q.trans n) R2 j|bk=>show λg h l n R2 j=>k g h l (q.trans n) R2 j|ct=>show λg h l n R2 j=>k g h l (q.trans n) R2 j|rt d=>show KC.after k q
 |rt d=>cases i;show k|bk=>cases i;show k
 |ct=>cases i;show k
def b3s(h1:PS X st (ŉ X.K ms)):Ŗ X [st] (ŉ X.K ms):=a9o h1
def b3r:PS X (.Pass pos) (ŉ X.K bV):=lR a9n<|by
 rintro E l H ⟨i,p,o,n,j,h,R,d,g,k⟩;cases g;show k i l H .refl R d
def b3q(j:PE X e (tM X.K m)):PS X (.Return (a0 e) pos) (ŉ X.K<|aR m):=lR (a8y j)<|by
 rintro E s H ⟨o,p,l,r,q,n,R,h,d,k⟩;show t7 d ?_;clear d;intro x g i d;cases d;show⟨o,p,l,x,g,R,h,i,k⟩
def b3p(p:PE X e (tM X.K m))(q:dm e a7 pos.line X.env=pure false:=by rfl):PS X (.Expr e pos) (ŉ X.K<|cY m):=lR (a9k p q)<|by
 rintro E y H ⟨u,v,r,z,w,s,R,i,d,k⟩;show t7 d ?_;clear d;intro x g o d;cases d;show⟨u,v,r,x,g,R,i,o,λh B l j n A=>k h y l j n<|i.mono j⟩
def b3o{mt:MT}(hc:PT X c (ŀ X.K mt))(G:Ŗ X body (ŉ X.K ms))(I:Ŗ X orelse (ŉ X.K mu)):PS X (.If c body orelse pos) (ŉ X.K<|bK mt ms mu):=lR (b3l hc G I)<|by
 rintro E M H ⟨L,w,K,u,n,j,R,v,s,k⟩;show aZ s ?_;clear s;intro x i B s;show⟨L,w,K,x,i,R,v,B,λl A o y=>?_⟩;have z:pR X.K E l i.length A u n j:=by
  cases u with
  |nx=>show λg h q r R2 p=>k g h q (o.trans r) R2 p|bk=>show λg h q r R2 p=>k g h q (o.trans r) R2 p|ct=>show λg h q r R2 p=>k g h q (o.trans r) R2 p|rt d=>show KC.after k o
 cases x with
 |true=>show oB ?_;show⟨l,w,i,u,n,j,y,v.mono o,s,z⟩|false=>
  show oA ?_;show⟨l,w,i,u,n,j,y,v.mono o,s,z⟩
def Ez(r:X.N.Nodup)(v:X.N[i]?=a0 x)(y:Loc X.env.scope x)(s:PE X e (tM X.K m))(w:dm e (a0<|.Name x d) pos.line X.env=pure false:=by rfl)(u:X.fn x=a9\/X.env.scope.names.lookup x=a0 .local:=by first|show .inl rfl|show .inr rfl|assumption):PS X (.Assign [.Name x d] e pos) (ŉ X.K<|aP i m):=lR (b2G r v y s w u)<|by
 rintro E N H ⟨G,I,A,L,K,B,R,l,g,k⟩;show t7 g ?_;clear g;intro x h q g;cases g;show⟨G,I,A,x,h,R,l,q,λj M o n p z=>k j _ o n p<|(l.mono n).set z i⟩
abbrev wV(n:Nat)(ds:List D):aF:=ds.map a0++UV (n-ds.length) a7
abbrev AD(n:Nat)(m:MS):MF:=λds a=>(m (wV n ds) a).bind λp=>match p.1 with|.rt d=>a0 (d,p.2.2)|.nx=>a0 (.non,p.2.2)|_=>a7
def b3n(h:Æ K π n H vs ds)(m:vs.length<=N.length):En K π n H (L2.start N vs) (wV N.length ds):=by
 have a:=h.length;show⟨by simp[L2.start,wV,a],λi d e=>?_⟩;unfold wV at e;unfold L2.start;by_cases b:i<ds.length
 .rw[Š<|by simpa using b,ú]at e;show bY e ?_;clear e;intro l c g;cases g;obtain⟨v,j,k⟩:=h.get c;show⟨v,by rw[Š<|by rw[Å,a];show b,ú,j];rfl,k⟩
 .rw[ż<|by simpa using rn.mp b]at e;have:=zj (n:=N.length-ds.length) (a:=(a7:Option D)) (i:=i-(ds.map a0).length);rw[this]at e;split at e<;>simp at e
def b3k(F:ϓ K x a st f o)(S:ī N ps (cW st))(g:ps.length<=N.length)(c:∀b A outer s H E,ç k (A.deeper<|SV a (cW st) s.heap.objs.size f b)->
   Ŗ (mS iI P w K mg base N a (cW st) f b A outer s H E).nox (gG st) (ŉ K m)):ļ P w K mg base iI (k+1) f o ps (kR K ps.length<|AD N.length m):=by
 show F.ok S (λG H Q E h=>h.1) λb A outer s H G Q E z h=>⟨_,c b A outer s H E z,?_⟩;obtain⟨B,M,ds,I,d,L,R,i,e,q⟩:=h;obtain⟨⟨p,n,j⟩,y,e⟩:=œ.mp e;show⟨M,_,I,p,n,j,R,b3n i<|by rw[B];show g,y,?_⟩;cases p with
 |rt U=>cases e;show q|nx=>cases e;show λl O r v u T=>q l .non r v u .non|bk=>cases e|ct=>cases e
open SeqAt (EqAt RcAt RcNeAt)
inductive KD where
 |non|bl (b:Bool)|int (i:Int)|str (x:Str)|tup (n:Nat)|lst (n:Nat)
inductive Κ (s:Ï):Value->KD->Prop where
 |non:Κ s .none .non
 |bl (b:Bool):Κ s (.bool b)<|.bl b
 |int (i:Int)(t:L6):Κ s (.int i t)<|.int i
 |str (x:Str)(t:L6):Κ s (.str x t)<|.str x
 |tup {l:Addr}{its:gq}(h:s.heap.IsTuple l its.toArray):Κ s (.ref l)<|.tup its.length
 |lst {l:Addr}{its:gq}(h:s.heap.IsList l its.toArray):Κ s (.ref l)<|.lst its.length
abbrev wW(e:Nat->Bool):KD->KD->Bool
 |.non,.non=>a9|.bl a,.bl b=>a==b|.bl a,.int b=>(if a then 1 else 0)==b|.int a,.bl b=>a==(if b then 1 else 0)|.int a,.int b=>a==b|.str a,.str b=>a==b|.tup n,.tup k=>(ġ<|min n k).all e&&n==k|.lst n,.lst k=>(ġ<|min n k).all e&&n==k|_,_=>a8
abbrev wX(A:Ł)(s:Ï)(u v:Value)(e:Nat->Bool):Prop:=
 (∀l b c a,u=.ref l->v=.ref b->s.heap.IsTuple l c->s.heap.IsTuple b a->∀j (h1:j<c.size)(d:j<a.size),EqAt A.in1 s c[j] a[j] (e j)) /\
 (∀l b c a,u=.ref l->v=.ref b->s.heap.IsList l c->s.heap.IsList b a->∀j (h1:j<c.size)(d:j<a.size),EqAt A.in1 s c[j] a[j] (e j))
def EA e(h:n=k):((ġ<|min n k).all e&&n==k)=(ġ n).all e:=by subst h;simp
def EB e(h:n≠k):((ġ<|min n k).all e&&n==k)=false:=by simp[h]
def AE(h:Κ s u k)(h':Κ s v k')(c:A.units<Ĉ)(o:wX A s u v e):RcAt A s u v (wW e k k'):=by
 cases h with
 |non=>
  cases h' with
  |non=>show RcAt.none_none|bl b=>show RcAt.none_bool b|int i t=>show RcAt.none_int i t|str x t=>show RcAt.none_str x t|tup h=>show RcAt.none_tuple h c|lst h=>show RcAt.none_list h c
 |bl a=>
  cases h' with
  |non=>show RcAt.bool_none a|bl b=>show RcAt.bool_bool a b|int i t=>show RcAt.bool_int a i t|str x t=>show RcAt.bool_str a x t|tup h=>show RcAt.bool_tuple a h c|lst h=>show RcAt.bool_list a h c
 |int a j=>
  cases h' with
  |non=>show RcAt.int_none a j|bl b=>show RcAt.int_bool a j b|int i t=>show RcAt.int_int a j i t|str x t=>show RcAt.int_str a j x t|tup h=>show RcAt.int_tuple a j h c|lst h=>show RcAt.int_list a j h c
 |str a j=>
  cases h' with
  |non=>show RcAt.str_none a j|bl b=>show RcAt.str_bool a j b|int i t=>show RcAt.str_int a j i t|str x t=>show RcAt.str_str a j x t|tup h=>show RcAt.str_tuple a j h c|lst h=>show RcAt.str_list a j h c
 |tup g=>
  cases h' with
  |non=>show RcAt.tuple_none g c|bl b=>show RcAt.tuple_bool b g c|int i t=>show RcAt.tuple_int i t g c|str x t=>show RcAt.tuple_str x t g c|tup h=>have:=RcAt.tuples (e:=e) g h c<|o.1 _ _ _ _ rfl rfl g h;show this|lst h=>show RcAt.tuple_list g h c
 |lst g=>
  cases h' with
  |non=>show RcAt.list_none g c|bl b=>show RcAt.list_bool b g c|int i t=>show RcAt.list_int i t g c|str x t=>show RcAt.list_str x t g c|tup h=>show RcAt.list_tuple g h c|@lst b d h=>
   rename_i l m;by_cases n:m.length=d.length
   .have:=RcAt.lists (e:=e) g h (by simpa using n) c<|o.2 _ _ _ _ rfl rfl g h;change RcAt A s _ _ ((ġ<|min m.length d.length).all e&&m.length==d.length);rw[EA e n];simpa using this
   .have:=RcAt.lists_lengths g h (by simpa using n) c;change RcAt A s _ _ ((ġ<|min m.length d.length).all e&&m.length==d.length);rw[EB e n];show this
def b3j(h:Κ s u k)(h':Κ s v k')(c:A.units<Ĉ)(o:wX A s u v e):RcNeAt A s u v (!wW e k k'):=by
 cases h with
 |non=>
  cases h' with
  |non=>show RcNeAt.none_none|bl b=>show RcNeAt.none_bool b|int i t=>show RcNeAt.none_int i t|str x t=>show RcNeAt.none_str x t|tup h=>show RcNeAt.none_tuple h c|lst h=>show RcNeAt.none_list h c
 |bl a=>
  cases h' with
  |non=>show RcNeAt.bool_none a|bl b=>show RcNeAt.bool_bool a b|int i t=>show RcNeAt.bool_int a i t|str x t=>show RcNeAt.bool_str a x t|tup h=>show RcNeAt.bool_tuple a h c|lst h=>show RcNeAt.bool_list a h c
 |int a j=>
  cases h' with
  |non=>show RcNeAt.int_none a j|bl b=>show RcNeAt.int_bool a j b|int i t=>show RcNeAt.int_int a j i t|str x t=>show RcNeAt.int_str a j x t|tup h=>show RcNeAt.int_tuple a j h c|lst h=>show RcNeAt.int_list a j h c
 |str a j=>
  cases h' with
  |non=>show RcNeAt.str_none a j|bl b=>show RcNeAt.str_bool a j b|int i t=>show RcNeAt.str_int a j i t|str x t=>show RcNeAt.str_str a j x t|tup h=>show RcNeAt.str_tuple a j h c|lst h=>show RcNeAt.str_list a j h c
 |tup g=>
  cases h' with
  |non=>show RcNeAt.tuple_none g c|bl b=>show RcNeAt.tuple_bool b g c|int i t=>show RcNeAt.tuple_int i t g c|str x t=>show RcNeAt.tuple_str x t g c|tup h=>have:=RcNeAt.tuples (e:=e) g h c<|o.1 _ _ _ _ rfl rfl g h;show this|lst h=>show RcNeAt.tuple_list g h c
 |lst g=>
  cases h' with
  |non=>show RcNeAt.list_none g c|bl b=>show RcNeAt.list_bool b g c|int i t=>show RcNeAt.list_int i t g c|str x t=>show RcNeAt.list_str x t g c|tup h=>show RcNeAt.list_tuple g h c|@lst b d h=>
   rename_i l m;by_cases n:m.length=d.length
   .have:=RcNeAt.lists (e:=e) g h (by simpa using n) c<|o.2 _ _ _ _ rfl rfl g h;change RcNeAt A s _ _ (!((ġ<|min m.length d.length).all e&&m.length==d.length));rw[EA e n];simpa using this
   .have:=RcNeAt.lists_lengths g h (by simpa using n) c;change RcNeAt A s _ _ (!((ġ<|min m.length d.length).all e&&m.length==d.length));rw[EB e n];show this
def b3i(h:Κ s u k)(h':Κ s v k')(c:A.units<Ĉ)(o:wX A s u v e)(n:∀l b,u=.ref l->v=.ref b->l≠b):EqAt A s u v (wW e k k'):=by
 cases h with
 |non=>
  cases h' with
  |non=>show EqAt.same _|bl b=>show EqAt.none_bool b|int i t=>show EqAt.none_int i t|str x t=>show EqAt.none_str x t|tup h=>show EqAt.none_tuple h c|lst h=>show EqAt.none_list h c
 |bl a=>
  cases h' with
  |non=>show EqAt.bool_none a|bl b=>show EqAt.bool_bool a b|int i t=>show EqAt.bool_int a i t|str x t=>show EqAt.bool_str a x t|tup h=>show EqAt.bool_tuple a h c|lst h=>show EqAt.bool_list a h c
 |int a d=>
  cases h' with
  |non=>show EqAt.int_none a d|bl b=>show EqAt.int_bool a d b|int i t=>show EqAt.int_int a d i t|str x t=>show EqAt.int_str a d x t|tup h=>show EqAt.int_tuple a d h c|lst h=>show EqAt.int_list a d h c
 |str a d=>
  cases h' with
  |non=>show EqAt.str_none a d|bl b=>show EqAt.str_bool a d b|int i t=>show EqAt.str_int a d i t|str x t=>show EqAt.str_str a d x t|tup h=>show EqAt.str_tuple a d h c|lst h=>show EqAt.str_list a d h c
 |@tup l m g=>
  cases h' with
  |non=>show EqAt.tuple_none g c|bl b=>show EqAt.tuple_bool b g c|int i t=>show EqAt.tuple_int i t g c|str x t=>show EqAt.tuple_str x t g c|@tup b j h=>show EqAt.of_refs (n l b rfl rfl) (AE (k:=.tup m.length) (k':=.tup j.length) (.tup g) (.tup h) c o)|lst h=>show EqAt.tuple_list g h c
 |@lst l m g=>
  cases h' with
  |non=>show EqAt.list_none g c|bl b=>show EqAt.list_bool b g c|int i t=>show EqAt.list_int i t g c|str x t=>show EqAt.list_str x t g c|tup h=>show EqAt.list_tuple g h c|@lst b j h=>show EqAt.of_refs (n l b rfl rfl)<|AE (k:=.lst m.length) (k':=.lst j.length) (.lst g) (.lst h) c o
inductive wu where
 |non|bl (b:Bool)|int (i:Int)|str (x:Str)|tup (xs:List D)|lst (xs:List D)
abbrev eW(c:Hm):D->Option wu
 |.non=>a0 .non|.bl b=>a0 (.bl b)|.int i=>a0 (.int i)|.str x=>a0 (.str x)|.tup xs=>a0 (.tup xs)|.rol xs=>a0 (.lst xs)|.loc a=>match c[a]? with|some (.lst xs)=>a0 (.lst xs)|_=>a7
 |.ty _=>a7
abbrev jM(f:D->D->Option Bool):List D->List D->Option Bool
 |x::xs,y::ys=>(f x y).bind λb=>(jM f xs ys).map λc=>b&&c|[],[]=>a0 a9|_,_=>a0 a8
abbrev rO(f:D->D->Option Bool):wu->wu->Option Bool
 |.non,.non=>a0 a9|.bl a,.bl b=>a0 (a==b)|.bl a,.int b=>a0 ((if a then 1 else 0)==b)|.int a,.bl b=>a0 (a==(if b then 1 else 0))|.int a,.int b=>a0 (a==b)|.str a,.str b=>a0 (a==b)|.tup xs,.tup ys=>jM f xs ys|.lst xs,.lst ys=>jM f xs ys|_,_=>a0 a8
noncomputable abbrev AF(f:D->D->Option Bool):D->D->Option Bool:=f
def EC(h:AF f x y=a0 b):f x y=a0 b\/(b=a9/\∃a,x=.loc a/\y=.loc a):=.inl h
abbrev dG:Nat->Hm->D->D->Option Bool
 |0,_,_,_=>a7|n+1,μ,x,y=>(eW μ x).bind λa=>(eW μ y).bind λb=>rO (AF<|dG n μ) a b
noncomputable abbrev kS(n:Nat)(a:Hm):D->D->Option Bool:=AF<|dG n a
abbrev AG:wu->KD
 |.non=>.non|.bl b=>.bl b|.int i=>.int i|.str x=>.str x|.tup xs=>.tup xs.length|.lst xs=>.lst xs.length
abbrev rP:wu->List D
 |.tup xs=>xs|.lst xs=>xs|_=>[]
section
variable{X:Cx}{Dn:jw}{σ:St}{H:Hp}{s:Ï}{π:Nat->Addr}{μ:Hm}
inductive Ľ (X:Cx)(π:Nat->Addr)(n:Nat)(H:Hp)(s:Ï)(u:Value):wu->Prop where
 |non (h:u=.none):Ľ X π n H s u .non
 |bl (b:Bool)(h:u=.bool b):Ľ X π n H s u<|.bl b
 |int (i:Int)(t:L6)(h:u=.int i t):Ľ X π n H s u<|.int i
 |str (x:Str)(t:L6)(h:u=.str x t):Ľ X π n H s u<|.str x
 |tup {xs:List D}(p:Addr)(vs:gw)(its:gq)(h:u=.ref p)(q:î X.K H p vs)(i:Æ X.K π n H vs xs)(r:Ä vs its)(t:s.heap.IsTuple p its.toArray):Ľ X π n H s u<|.tup xs
 |lst {xs:List D}(p:Addr)(vs:gw)(its:gq)(h:u=.ref p)(q:č X.K H p vs)(i:Æ X.K π n H vs xs)(r:Ä vs its)(t:s.heap.IsList p its.toArray):Ľ X π n H s u<|.lst xs
def rQ(I:Inv X Dn σ H s)(R:Rp X.K π H μ)(h:Ý X.K π μ.length H v d)(r:Ì v u)(e:eW μ d=a0 k):Ľ X π μ.length H s u k:=by
 cases h with
 |non=>cases e;show .non r|bl b=>cases e;show .bl b r|int i=>cases e;obtain⟨t,q⟩:=r;show .int i t q|str x=>cases e;obtain⟨t,q⟩:=r;show .str x t q|ty x=>cases e|tup q t=>cases e;obtain⟨c,g,p,_⟩:=I.tuple q;show .tup _ _ c r q t g p|rol q t=>cases e;obtain⟨c,g,p,_⟩:=I.list q.sq;show .lst _ _ c r q.sq t g p.isList|@loc a w=>
  simp only[eW]at e;split at e
  .rename_i o m;cases e;obtain⟨n,j,l⟩:=R.lst a o m;have q:č X.K H (π a) n:=.of j;obtain⟨c,g,p,_⟩:=I.list q;show .lst _ _ c r q l g p.isList
  .cases e
def Ľ.isK(h:Ľ X π n H s u k):Κ s u (AG k):=by
 cases h with
 |non h=>subst h;show .non|bl b h=>subst h;show .bl b|int i t h=>subst h;show .int i t|str x t h=>subst h;show .str x t|tup p c a h q i r t=>subst h;have:a.length=_:=r.length.symm.trans i.length;change Κ s (.ref p) (.tup _);rw[<- this];show .tup t|lst p c a h q i r t=>subst h;have:a.length=_:=r.length.symm.trans i.length;change Κ s (.ref p) (.lst _);rw[<- this];show .lst t
abbrev kE(f:D->D->Option Bool)(xs ys:List D)(j:Nat):Bool:=match xs[j]?,ys[j]? with
 |some x,a0 y=>(f x y).getD a8|_,_=>a8
def AH:∀{xs ys}{b},jM f xs ys=a0 b->b=((ġ<|min xs.length ys.length).all (kE f xs ys)&&xs.length==ys.length)/\∀j x y,xs[j]?=a0 x->ys[j]?=a0 y->f x y=a0 (kE f xs ys j)
 |[],[],b,h=>by cases h;show⟨rfl,λj x y e=>by simp at e⟩
 |x::xs,[],b,h=>by cases h;show⟨by simp,λj x y _ e=>by simp at e⟩
 |[],y::ys,b,h=>by cases h;show⟨by simp,λj x y e=>by simp at e⟩
 |x::xs,y::ys,b,h=>by
  simp only[jM]at h;show bU h ?_;clear h;intro c k l;show bY l ?_;clear l;intro d n o;obtain⟨p,q⟩:=AH n;have i:kE f (x::xs) (y::ys) 0=c:=by simp[kE,k]
  have m:∀j,kE f (x::xs) (y::ys) (j+1)=kE f xs ys j:=λj=>by simp[kE]
  show⟨?_,λj r u a g=>?_⟩
  .subst o;rw[p];simp only[Ļ,Nat.add_min_add_right];rw[Rz,Ŕ,OG,i];have:(kE f (x::xs) (y::ys)∘Nat.succ)=kE f xs ys:=funext λj=>m j;rw[this];simp[Bool.and_assoc]
  .cases j with
   |zero=>simp at a g;subst a;subst g;rw[i,k]|succ j=>rw[m j];show q j r u (by simpa using a)<|by simpa using g
def ED(h:rO f k k'=a0 b):b=wW (kE f (rP k)<|rP k') (AG k) (AG k'):=by
 cases k<;>cases k'<;>first
  |(have a:=ė h;subst a;rfl)|(obtain⟨c,_⟩:=AH h;rw[c];rfl)
def b3h(I:Inv X Dn σ H s)(R:Rp X.K π H μ):∀n{v}{u}{x y}{b},Ì v u->Ý X.K π μ.length H v x->Ý X.K π μ.length H v y->dG n μ x y=a0 b->b=true:=by
 intro n;induction n with
 |zero=>intro v u x y b _ _ _ h;cases h|succ n ih=>
  intro v u x y b r hx hy h;show bU h ?_;clear h;intro k T h;show bU h ?_;clear h;intro k' h2 h;have a1:=rQ I R hx r T;have o:=rQ I R hy r h2;have g:∀{vs:gw}{xs ys:List D}{c:Bool},(∀v∈vs,∃u,Ì v u)->Æ X.K π μ.length H vs xs->Æ X.K π μ.length H vs ys->jM (kS n μ) xs ys=a0 c->c=true:=by
   intro vs;induction vs with
   |nil=>intro xs ys c _ Y m h;cases Y;cases m;cases h;rfl|cons w vs Z=>
    intro xs ys c hr Y m h;cases Y with
    |cons p1 t1=>
     cases m with
     |cons L B=>simp only[jM]at h;show bU h ?_;clear h;intro c1 T h3;show bY h3 ?_;clear h3;intro c2 h4 h5;obtain⟨Q,N⟩:=hr w<|Ĭ ..;have a:c1=true:=(EC T).elim (ih N p1 L) (·.1);have l:=Z (λv G=>hr v<|ı _ G) t1 B h4;subst a;subst l;show h5.symm
  cases a1 with
  |non a=>
   subst a;cases o with
   |non _=>show(ė h).symm|bl _ e=>cases e|int _ _ e=>cases e|str _ _ e=>cases e|tup _ _ _ e=>cases e|lst _ _ _ e=>cases e
  |bl c a=>
   subst a;cases o with
   |non e=>cases e|bl _ e=>cases e;show(ė h).symm.trans (beq_self_eq_true _)|int _ _ e=>cases e|str _ _ e=>cases e|tup _ _ _ e=>cases e|lst _ _ _ e=>cases e
  |int c t a=>
   subst a;cases o with
   |non e=>cases e|bl _ e=>cases e|int _ _ e=>cases e;show(ė h).symm.trans (beq_self_eq_true _)|str _ _ e=>cases e|tup _ _ _ e=>cases e|lst _ _ _ e=>cases e
  |str c t a=>
   subst a;cases o with
   |non e=>cases e|bl _ e=>cases e|int _ _ e=>cases e|str _ _ e=>cases e;show(ė h).symm.trans (beq_self_eq_true _)|tup _ _ _ e=>cases e|lst _ _ _ e=>cases e
  |tup p vs K a q i O t=>
   have z:Ľ X π μ.length H s (.ref p) _:=a▸Ľ.tup p vs K a q i O t;rw[a]at o;cases o with
   |non e=>cases e|bl _ e=>cases e|int _ _ e=>cases e|str _ _ e=>cases e|tup L E d l M m A B=>
    cases l;have:=I.tuple_inj q M;subst this;show g (λv G=>by
     obtain⟨j,U,rfl⟩:=Ms G;obtain⟨Q,_,N⟩:=O.get<|ó U;show⟨Q,N⟩) i m h
   |lst L E d l M m A B=>cases l;show absurd rfl<|ph B t
  |lst p vs K a q i O t=>
   rw[a]at o;cases o with
   |non e=>cases e|bl _ e=>cases e|int _ _ e=>cases e|str _ _ e=>cases e|tup L E d l M m A B=>cases l;show absurd rfl (ph t B)|lst L E d l M m A B=>
    cases l;have:=I.list_inj q M;subst this;show g (λv G=>by
     obtain⟨j,U,rfl⟩:=Ms G;obtain⟨Q,_,N⟩:=O.get<|ó U;show⟨Q,N⟩) i m h
def pS(A:Ł):A.in1.units=A.units+1:=rfl
def EE(I:Inv X Dn σ H s)(ih:∀{A}{v v'}{u u'}{x y}{b},A.units+n<Ĉ->Ì v u->Ì v' u'->Ý X.K π μ.length H v x->Ý X.K π μ.length H v' y->dG n μ x y=a0 b->EqAt A s u u' b)(hu:A.units+(n+1)<Ĉ)(a1:Ľ X π μ.length H s u k)(a2:Ľ X π μ.length H s u' k')(h:rO (kS n μ) k k'=a0 b):wX A s u u' (kE (kS n μ) (rP k)<|rP k'):=by
 have G:∀{vs R:gw}{its its':gq}{xs ys:List D}{c:Bool},Ä vs its->Ä R its'->Æ X.K π μ.length H vs xs->Æ X.K π μ.length H R ys->jM (kS n μ) xs ys=a0 c->
   ∀j (h1:j<its.length)(U:j<its'.length),EqAt A.in1 s its[j] its'[j] (kE (kS n μ) xs ys j):=by
  intro vs R its its' xs ys c r r' i i' e j h1 U;have l1:=r.length;have l2:=r'.length;have l3:=i.length;have l4:=i'.length;have hx:xs[j]?=a0 (xs[j]'⋯):=ó _;have hy:ys[j]?=a0 (ys[j]'⋯):=ó _;obtain⟨v,v1,v2⟩:=i.get hx;obtain⟨v',v1',v2'⟩:=i'.get hy;obtain⟨w,w1,w2⟩:=r.get v1;obtain⟨w',w1',w2'⟩:=r'.get v1';rw[ó h1]at w1;rw[ó U]at w1';cases w1;cases w1';have key:∀{x y:D}{b:Bool},Ý X.K π μ.length H v x->Ý X.K π μ.length H v' y->kS n μ x y=a0 b->EqAt A.in1 s its[j] its'[j] b:=λ{x y b} i1 K hq=>by
   rcases EC hq with hq|⟨rfl,a,rfl,rfl⟩
   .show ih (by rw[pS];lia) w2 w2' i1 K hq
   .cases i1;cases K;have z1:its[j]=Ò (π a):=w2;have z2:its'[j]=Ò (π a):=w2';rw[z1,z2];show EqAt.same _
  show key v2 v2'<|(AH e).2 j _ _ hx hy
 constructor
 .intro l b' E z e1 e2 Z t2 j h1 U;subst e1;subst e2;cases a1 with
  |tup p vs its e q i r t=>
   cases e;cases a2 with
   |tup p2 T B d q2 K Y Q=>
    cases d;have z1:E=its.toArray:=by obtain⟨o,L,g2,n1,N⟩:=Z;obtain⟨o',g,M,O,m⟩:=t;rw[L]at g;cases g;rw[N]at m;injection m
    have z2:z=B.toArray:=by obtain⟨o,L,g2,n1,N⟩:=t2;obtain⟨o',g,M,O,m⟩:=Q;rw[L]at g;cases g;rw[N]at m;injection m
    subst z1;subst z2;have:=G r Y i K h j (by simpa using h1) (by simpa using U);simpa[rP]using this
   |lst p2 T B d q2 K Y Q=>cases d;show absurd rfl (ph Q t2)|non d=>cases d|bl _ d=>cases d|int _ _ d=>cases d|str _ _ d=>cases d
  |lst p vs its e q i r t=>cases e;show absurd rfl (ph t Z)|non e=>cases e|bl _ e=>cases e|int _ _ e=>cases e|str _ _ e=>cases e
 .intro l b' E z e1 e2 Z t2 j h1 U;subst e1;subst e2;cases a1 with
  |lst p vs its e q i r t=>
   cases e;cases a2 with
   |lst p2 T B d q2 K Y Q=>
    cases d;have z1:E=its.toArray:=by obtain⟨o,L,g2,n1,N⟩:=Z;obtain⟨o',g,M,O,m⟩:=t;rw[L]at g;cases g;rw[N]at m;injection m
    have z2:z=B.toArray:=by obtain⟨o,L,g2,n1,N⟩:=t2;obtain⟨o',g,M,O,m⟩:=Q;rw[L]at g;cases g;rw[N]at m;injection m
    subst z1;subst z2;have:=G r Y i K h j (by simpa using h1) (by simpa using U);simpa[rP]using this
   |tup p2 T B d q2 K Y Q=>cases d;show absurd rfl (ph t2 Q)|non d=>cases d|bl _ d=>cases d|int _ _ d=>cases d|str _ _ d=>cases d
  |tup p vs its e q i r t=>cases e;show absurd rfl (ph Z t)|non e=>cases e|bl _ e=>cases e|int _ _ e=>cases e|str _ _ e=>cases e
def AI(I:Inv X Dn σ H s)(R:Rp X.K π H μ):∀n{A}{v c}{u a}{x y}{b},A.units+n<Ĉ->Ì v u->Ì c a->Ý X.K π μ.length H v x->Ý X.K π μ.length H c y->dG n μ x y=a0 b->EqAt A s u a b:=by
 intro n;induction n with
 |zero=>intro A v c u a x y b _ _ _ _ _ h;cases h|succ n K=>
  intro A v c u a x y b G r m i j h;have q:=h;show bU h ?_;clear h;intro k w h;show bU h ?_;clear h;intro M B h;have d:=rQ I R i r w;have e:=rQ I R j m B;by_cases g:u=a
  .subst g;have:v=c:=r.inj m;subst this;have:=b3h I R (n+1) r i j q;subst this;show EqAt.same _
  .have E:=EE I K G d e h;rw[ED h];show b3i d.isK e.isK ⋯ E λl L o p z=>g<|by rw[o,p,z]
def EF(I:Inv X Dn σ H s)(R:Rp X.K π H μ)n(l:A.units+n<Ĉ)(r:Ì v u)(p:Ì g d)(m:Ý X.K π μ.length H v x)(o:Ý X.K π μ.length H g y)(h:dG n μ x y=a0 b):
  RcAt A s u d b/\RcNeAt A s u d (!b):=by
 cases n with
 |zero=>cases h|succ n=>show bU h ?_;clear h;intro k i h;show bU h ?_;clear h;intro q j h;have a:=rQ I R m r i;have c:=rQ I R o p j;have e:=EE I (A:=A) (AI I R n) l a c h;rw[ED h];show⟨AE a.isK c.isK ⋯ e,b3j a.isK c.isK ⋯ e⟩
end
abbrev oC(g:Int->Int->Option Int):D->D->Hm->jk
 |.int i,.int j,μ=>(g i j).map λz=>(.int z,μ)|_,_,_=>a7
def EG(h:oC g x y a=a0 (d,μ')):∃i j z,x=.int i/\y=.int j/\g i j=a0 z/\d=.int z/\μ'=a:=by
 unfold oC at h;split at h
 .rename_i i j;show bY h ?_;clear h;intro z b c;cases c;show⟨i,j,z,rfl,rfl,b,rfl,rfl⟩
 .cases h
def AJ{g':Int->Int->Int}(e:∀i j z,g i j=a0 z->a i j/\z=g' i j):dE K (oC g) (rI a λi j=>.int<|g' i j):=by intro o H r x y d n p q Q R l m h k;obtain⟨i,j,z,rfl,rfl,b,rfl,rfl⟩:=EG h;cases l;cases m;obtain⟨c,rfl⟩:=e i j z b;show⟨i,j,rfl,rfl,c,k o _ H .refl R<|.int _⟩
def b3g{g':Int->Int->Int}:dE K (oC λi j=>a0<|g' i j) (jI λi j=>.int<|g' i j):=by intro h H n x y d g l m Q R c e b k;obtain⟨i,j,z,rfl,rfl,a,rfl,rfl⟩:=EG b;cases c;cases e;cases a;show⟨i,j,rfl,rfl,k h _ H .refl R<|.int _⟩
abbrev dH:=oC λi j=>a0<|i-j
abbrev EH:=oC λi j=>if((-(2^64)<i/\i<2^64)\/(-(2^64)<j/\j<2^64))\/(i.natAbs<2^4000/\j.natAbs<2^4000)\/ű i+ű j<=134217728 then a0 (i*j)else a7
abbrev bQ:D->D->Hm->jk
 |x,y,μ=>EH x y μ
abbrev iJ:=oC λi j=>if 0<j/\j<2^4000 then a0 (i/j)else a7
abbrev bN:=oC λi j=>if 0<j then a0 (i%j)else a7
abbrev ŵ(i j:Int):Prop:=qm i j\/(i.natAbs<2^4000/\j.natAbs<2^4000)\/ű i+ű j<=134217728
abbrev EI(i j:Int):Prop:=0<j/\j<2^4000
def EJ(h:i.natAbs<2^4000):ű i<=4000:=by
 unfold ű;split
 .show Ģ _
 .rename_i b;have a:i.natAbs≠0:=by intro z;show b<|by simpa using z
  have:=(Pg a).mpr h;lia
def ŵ.ok(h:ŵ i j):M4 i j:=by
 rcases h with h|⟨b,c⟩|h
 .show h.ok
 rotate_left
 .have a:NC (ű i+ű j)=false:=by
   unfold NC;rw[decide_eq_false];have:bitsLine=134217728:=by decide
   lia
  unfold M4;rw[a];simp
 .have d:=EJ b;have e:=EJ c;have a:NC (ű i+ű j)=false:=by
   unfold NC;rw[decide_eq_false];have:(8000:Int)<=bitsLine:=by decide
   lia
  unfold M4;rw[a];simp
def b3b:Ĕ X (Τ .Mult) (rI ŵ λi j=>.int<|i*j):=Ah λ_ _ _ _ _ _ _ hc q=>b3S q hc.ok
def a6D:Ĕ X (Τ .FloorDiv) (rI EI λi j=>.int<|i/j):=Ah λi j _ _ _ _ _ hc q=>by
 have c:(0:Int)<j:=hc.1;have d:j<2^4000:=hc.2;have a:j.natAbs≠0:=by lia
 have b:j.natAbs<2^4000:=by
  have:((2^4000:Nat):Int)=2^4000:=by decide
  lia
 have e:=(Pg a).mpr b;show b3U ⋯ (by rw[Int.fdiv_eq_ediv_of_nonneg i<|by lia];show q)<|.inl<|PyProof.noPylong_of_log2<|by lia
def AK[Decidable c]{a:Int}(h:(if c then a0 a else a7)=a0 z):c/\z=a:=by
 split at h
 .cases h;show⟨by assumption,rfl⟩
 .cases h
def a6A:dE K dH (jI λi j=>.int<|i-j):=b3g
def OnI:dE K EH (rI ŵ λi j=>.int<|i*j):=AJ λi j z h=>by have:=AK h;show this
def LaI:dE K bQ (rI ŵ λi j=>.int<|i*j):=OnI
def HwI:dE K iJ (rI EI λi j=>.int<|i/j):=AJ λi j z h=>by have:=AK h;show this
def HmI:dE K bN (rI (λ_ j=>0<j) λi j=>.int<|i%j):=AJ λ_ _ _ h=>AK h
abbrev AL:D->Option D
 |.int i=>a0 (.int<|-i)|_=>a7
abbrev bA:D->D->Hm->jk
 |.int i,.int j,μ=>a0 (.int<|i+j,μ)|.str x,.str y,μ=>if x.length+y.length<=Ñ then a0 (.str<|x++y,μ)else a7|.loc a,.loc b,μ=>match μ[a]?,μ[b]? with
  |some<|.lst xs,a0 (.lst ys)=>if xs.length+ys.length<=Ñ then a0 (.loc μ.length,μ++[.lst<|xs++ys])else a7|_,_=>a7
 |.tup xs,.tup ys,μ=>if xs≠[]/\ys≠[]/\xs.length+ys.length<=Ñ then a0 (.tup<|xs++ys,μ)else a7|_,_,_=>a7
abbrev AM(K:Ö):R2:=λx y H Q=>jI (λi j=>.int<|i+j) x y H Q\/(∃i j,x=.str i/\y=.str j/\i.length+j.length<=Ñ/\Q (.str<|i++j) H)\/Eh x y H Q
def Do:Ĕ X (Τ .Add) (AM X.K):=jh.or<|Β.or a8C
abbrev AN(K:Ö):R2:=λx y H Q=>AM K x y H Q\/D0 K x y H Q
def FwI:Ĕ X (Τ .Add) (AN X.K):=Do.or a7C
def AO(h:AM K x y H Q):AN K x y H Q:=.inl h
def FoI:dE K bA (AN K):=by
 intro r H L x y d E G I Q R l m a k;unfold bA at a;split at a
 .cases a;cases l;cases m;show AO<|.inl ⟨_,_,rfl,rfl,k r _ H .refl R<|.int _⟩
 .split at a
  .rename_i n;cases a;cases l;cases m;show AO<|.inr<|.inl ⟨_,_,rfl,rfl,n,k r _ H .refl R<|.str _⟩
  .cases a
 .split at a
  .rename_i w z B c;split at a
   .rename_i n;cases a;cases l;cases m;obtain⟨u,g,h⟩:=R.lst _ w B;obtain⟨v,A,s⟩:=R.lst _ z c;show AO (.inr<|.inr ⟨_,_,u,v,rfl,rfl,by first|show g|show .inl<|.inl g,A,by rw[h.length,s.length];show n,λp o=>?_⟩);obtain⟨b,R2,q⟩:=R.alloc (c:=.lst (w++z)) (o:=.lst (u++v)) o<|h.append s;show k _ _ _ b R2 j9
   .cases a
  .cases a
 .split at a
  .rename_i c;cases a;cases l with
   |tup g i=>
    cases m with
    |tup h j=>show .inr ⟨_,_,_,_,rfl,rfl,g,h,λe=>c.1<|by rw[e]at i;cases i;rfl,by rw[i.length,j.length];show c.2.2,λe=>absurd (by rw[e]at j;cases j;rfl) c.2.1,λ_ p o=>?_⟩;obtain⟨b,R2⟩:=R.fresh (o:=.tup _) o;show k r _ _ b R2<|.tup (.of cP)<|(i.mono b).append<|j.mono b
  .cases a
 .cases a
abbrev gK(p:Int->Int->Bool):D->D->Hm->jk
 |.int i,.int j,μ=>a0 (.bl<|p i j,μ)|_,_,_=>a7
def kF:dE K (gK p) (jI λi j=>.bl<|p i j):=by
 intro g H m x y d e h l Q R b c a k;unfold gK at a;split at a
 .cases a;cases b;cases c;show⟨_,_,rfl,rfl,k g _ H .refl R<|.bl _⟩
 .cases a
abbrev lT:=gK λi j=>decide<|i<j
abbrev rR:=gK λi j=>decide<|i<=j
abbrev oD:=gK λi j=>decide<|j<i
abbrev uA:=gK λi j=>decide<|j<=i
abbrev AQ(K:Ö)(ne:Bool):R2:=λx y H Q=>∃π a c d b,Rp K π H a/\Ý K π a.length H x c/\Ý K π a.length H y d/\dG 8 a c d=a0 b/\Q (.bl<|if ne then !b else b) H
def EK(c:X.A.units+8<Ĉ):Ĕ X (ĺ .Eq) (AQ X.K a8):=by intro a s o H x y v u Q I i j h;obtain⟨n,m,k,l,b,R,d,g,e,q⟩:=h;show(EF I R 8 c i j d g e).1 _ _ _ _ ⟨.bl b,H,I,rfl,q⟩
def EL(c:X.A.units+8<Ĉ):Ĕ X (ĺ .NotEq) (AQ X.K a9):=by intro a s o H x y v u Q I i j h;obtain⟨n,m,k,l,b,R,d,g,e,q⟩:=h;show(EF I R 8 c i j d g e).2 _ _ _ _ ⟨.bl<|!b,H,I,rfl,q⟩
abbrev bD(ne:Bool):D->D->Hm->jk:=λx y a=>(dG 8 a x y).map λb=>(.bl<|if ne then !b else b,a)
def wY:dE K (bD ne) (AQ K ne):=by intro c H j x y d l m n Q R h i a k;show bY a ?_;clear a;intro b e g;cases g;show⟨c,j,x,y,b,R,h,i,e,k c _ H .refl R<|.bl _⟩
abbrev AR:D->D->Hm->jk
 |.str i,.str j,μ=>a0 (.bl<|!(iz j i 0 j.length 1).isEmpty,μ)|_,_,_=>a7
def EM:dE K AR (λx y H Q=>∃i j,x=.str i/\y=.str j/\Q (.bl<|!(iz j i 0 j.length 1).isEmpty) H):=by
 intro g H m x y d e h l Q R b c a k;unfold AR at a;split at a
 .cases a;cases b;cases c;show⟨_,_,rfl,rfl,k g _ H .refl R<|.bl _⟩
 .cases a
def wZ(r:ç k A):A.units+8<Ĉ:=by have:=r.un;lia
def CrJ(r:PE X a (tM X.K ma)):PE X (.UnaryOp .USub a pos) (tM X.K λρ g=>(ma ρ g).bind λp=>(AL p.1).map λd=>(d,p.2)):=c4 (b2J b2E r)<|by
 rintro A H Q ⟨w,ρ,g,d,u,R,E,e,k⟩;show aZ e ?_;clear e;intro x v o e;show bY e ?_;clear e;intro y j q;cases q;cases x with
 |int i=>cases j;show⟨w,ρ,g,_,_,R,E,o,λh z l n m s=>?_⟩;cases s;show⟨_,rfl,k h _ l n m<|.int _⟩
 |_=>cases j
def BsI(d:Gl X x)(e:X.mg x=a7)(h:Ε x=a0 (.type n))(g:x ≠ "__name__":=by decide)(hd:(x==("__debug__":Str))=false:=by decide):PE X (.Name x pos) (tM X.K<|mC<|.ty n):=
 rM (a8L (v:=.ty n) d e h rfl g hd) λ_ _ _=>.ty n
abbrev w4(b:Hm):D->Option String
 |.non=>a0 "NoneType"|.bl _=>a0 "bool"|.int _=>a0 "int"|.str _=>a0 "str"|.tup _=>a0 "tuple"|.rol _=>a0 "list"|.loc a=>match b[a]? with
  |some (.lst _)=>a0 "list"|some (.dK _)=>a0 "dict"|some (.dT _)=>a0 "dict"|_=>a7
 |.ty _=>a7
abbrev w5(t c:String):Option Bool:=match c with
 | "int"=>a0 (t=="int" || t=="bool")| "bool"=>a0 (t=="bool")| "str"=>a0 (t=="str")| "list"=>a0 (t=="list")| "tuple"=>a0 (t=="tuple")| "dict"=>a0 (t=="dict")|_=>a7
abbrev fH:MF:=λds a=>match ds with
 |[x,.ty c]=>(w4 a x).bind λt=>(w5 t c).map λb=>(.bl b,a)|_=>a7
def mU K(d:t = "NoneType"\/t = "bool"\/t = "int"\/t = "str"\/t = "tuple"\/t = "list"\/t = "dict")(h:w5 t c=a0 b):RG K (.type t) (.type c)=a0 b:=by
 unfold w5 at h
 split at h<;>first
  | cases h;done
  | (have a:=ė h;subst a
     rcases d with rfl|rfl|rfl|rfl|rfl|rfl|rfl<;>first|rfl|decide +kernel|(unfold RG;simp;rfl))
end L3
namespace L3
open PySem L2
noncomputable abbrev MG:=D->aF->Hm->Option aF
inductive Ŷ (K:Ö)(g:MG)(v:V)(σ:St)(H:Hp)(Q:St->Hp->Prop):Prop
 |mk (π:Nat->Addr)(ρ:aF)(μ:Hm)(d:D)(ρ':aF)(R:Rp K π H μ)(E:En K π μ.length H σ ρ)(i:Ý K π μ.length H v d)(hm:g d ρ μ=a0 ρ')(k:∀σ',En K π μ.length H σ' ρ'->Q σ' H):Ŷ K g v σ H Q
abbrev bS(i:Nat):MG:=λd ρ _=>a0<|ρ.set i<|a0 d
def EO(b:X.N.Nodup)(e:X.N[i]?=a0 x)(j:Loc X.env.scope x)(c:X.fn x=a9\/X.env.scope.names.lookup x=a0 .local:=by first|show .inl rfl|show .inr rfl|assumption):PG X (.Name x pos) (Ŷ X.K<|bS i):=by intro a s m H v u Q I r h;obtain⟨o,p,n,d,l,R,E,hd,g,k⟩:=h;cases g;show DD b e j c a s m H v u Q I r<|k _<|E.set hd i
abbrev BsD(K:Ö)(c:TE):TI:=λσ H R=>c σ H λx b=>∃a,x=.ref a/\(((∃xs,č K b a xs)/\R (Ad K a) b)\/((∃xs,î K b a xs)/\R (Ae K a) b))
def BmJ(r:PE X l n):PI X tg l (BsD X.K n):=by
 intro i s B H R I h;show aQ (r i s B H _ I h) λv c ⟨x,m,d,y,w⟩=>?_;obtain⟨a,e,q⟩:=w;subst e;cases y;rcases q with⟨⟨A,k⟩,q⟩|⟨⟨A,k⟩,q⟩
 .obtain⟨g,z,p,u⟩:=d.list k;show zc p.isList ?_;show⟨c.heap.objs.size,[c.heap.objs.size],_,_,m,rfl,d.kept (t':=c.toks) λb o e=>æ _ e,b4l a _,⟨_,ē _ rfl,rfl,rfl⟩,λb j=>?_,q⟩;have e:b=c.heap.objs.size:=by simpa using j
  subst e;show d.fpOk (Õ _)<|d.hok.fresh<|Õ _
 .obtain⟨g,z,p,u⟩:=d.tuple k;show My (show c.heap.IsTuple a g.toArray from p) ?_;show⟨c.heap.objs.size,[c.heap.objs.size],_,_,m,rfl,d.kept (t':=c.toks) λb o e=>æ _ e,b3y a _,⟨_,ē _ rfl,rfl,rfl⟩,λb j=>?_,q⟩;have e:b=c.heap.objs.size:=by simpa using j
  subst e;show d.fpOk (Õ _)<|d.hok.fresh<|Õ _
structure Wk(K:Ö)(J:It)(src:Hm->Nat->Option (Option D))(π:Nat->Addr)(n:Nat)(H:Hp):Prop where
 stop:∀π' μ H' i,û π n H π' μ.length H'->Rp K π' H' μ->src μ i=a0 a7->J.stop i H'
 go:∀π' μ H' i d,û π n H π' μ.length H'->Rp K π' H' μ->src μ i=a0 (a0 d)->J.go i H'/\∀x H2,J.yld i H' x H2->û π' μ.length H' π' μ.length H2/\Rp K π' H2 μ/\Ý K π' μ.length H2 x d
abbrev mV(x:D):Hm->Nat->Option (Option D):=λa i=>(bM a x).map λxs=>xs[i]?
def BmI(R:Rp K π H A)(h:Ý K π A.length H v x)(B:bM A x=a0 xs):
  ∃a,v=.ref a/\(((∃b,č K H a b)/\Wk K (Ad K a) (mV x) π A.length H)\/((∃b,î K H a b)/\Wk K (Ae K a) (mV x) π A.length H)):=by
 cases h with
 |@tup p b ds q t=>
  show⟨p,rfl,.inr ⟨⟨b,q⟩,⟨λk j o i e l z=>?_,λk j o i d e l z=>?_⟩⟩⟩
  .simp only[mV,bM,į]at z;have g:ds[i]?=none:=ė z;show⟨b,e.sqT q,by rw[t.length];show ϐ.mp g⟩
  .simp only[mV,bM,į]at z;have g:ds[i]?=a0 d:=ė z;obtain⟨w,c,m⟩:=t.get g;show⟨⟨b,w,e.sqT q,c⟩,λy I ⟨r,s⟩=>?_⟩;subst r;have:=s b<|e.sqT q;rw[c]at this;cases this;show⟨.refl,l,m.mono e⟩
 |@rol p b ds q t=>
  show⟨p,rfl,.inl ⟨⟨b,q.sq⟩,⟨λk j o i e l z=>?_,λk j o i d e l z=>?_⟩⟩⟩
  .simp only[mV,bM,į]at z;have g:ds[i]?=none:=ė z;show⟨b,(e.roL q).sq,by rw[t.length];show ϐ.mp g⟩
  .simp only[mV,bM,į]at z;have g:ds[i]?=a0 d:=ė z;obtain⟨w,c,m⟩:=t.get g;show⟨⟨b,w,(e.roL q).sq,c⟩,λy I ⟨r,s⟩=>?_⟩;subst r;have:=s b (e.roL q).sq;rw[c]at this;cases this;show⟨.refl,l,m.mono e⟩
 |@loc a M=>
  have hc:∃b,H (π a)=a0 (.lst b):=by
   simp only[bM]at B;split at B
   .rename_i n u;obtain⟨b,c,_⟩:=R.lst a n u;show⟨b,c⟩
   .cases B
  obtain⟨G,E⟩:=hc;show⟨π a,rfl,.inl ⟨⟨G,.of E⟩,⟨λk j o i e l z=>?_,λk j o i d e l z=>?_⟩⟩⟩
  .simp only[mV,bM]at z;split at z
   .rename_i n u;obtain⟨b,c,m⟩:=l.lst a n u;rw[e.pi a M]at c;have g:n[i]?=none:=ė z;show⟨b,.of c,by rw[m.length];show ϐ.mp g⟩
   .cases z
  .simp only[mV,bM]at z;split at z
   .rename_i n u;obtain⟨b,c,m⟩:=l.lst a n u;rw[e.pi a M]at c;have g:n[i]?=a0 d:=ė z;obtain⟨w,L,N⟩:=m.get g;show⟨⟨b,w,.of c,L⟩,λy I ⟨r,s⟩=>?_⟩;subst r;have:=s b<|.of c;rw[L]at this;cases this;show⟨.refl,l,N⟩
   .cases z
 |_=>cases B
abbrev dZ(a:Hm->Nat->Option (Option D))(g:MG)(b:MS):Nat->Nat->MS
 |0,_,_,_=>a7|n+1,i,ρ,μ=>(a μ i).bind λo=>match o with
  |none=>a0 (.nx,ρ,μ)|some d=>(g d ρ μ).bind λc=>(b c μ).bind λp=>match p.1 with
   |.nx=>dZ a g b n (i+1) p.2.1 p.2.2|.ct=>dZ a g b n (i+1) p.2.1 p.2.2|.bk=>a0 (.nx,p.2.1,p.2.2)|.rt d=>a0 (.rt d,p.2.1,p.2.2)
def h16(W:Wk K J A π O M)(hE:pR K E π O M z l μ')(e1:û π O M B s.length H1)(R1:Rp K B H1 s)(E1:En K B s.length H1 σ1 R)(h:dZ A g b n 0 R s=a0 (z,l,μ')):
  ∃Wd:Nat->Nat->St->Hp->Prop,(∃m,Wd 0 m σ1 H1)/\∀i m U H,Wd i m U H->
   (J.stop i H/\E.nx U H)\/(J.go i H/\∃N,(∀v r,N v r->∃m',m'<m/\Wd (i+1) m' v r)/\∀x r,J.yld i H x r->Ŷ K g x U r λσ2 Z=>ŉ K b {E with nx:=N,ct:=N,bk:=E.nx} σ2 Z):=by
 have lift:∀{a:Nat->Addr}{n2:Nat}{Z:Hp}(e:û π O M a n2 Z){z:Fl}{l:aF}{μ':Hm},pR K E π O M z l μ'->pR K E a n2 Z z l μ':=λ{a n2 Z} e {z l μ'} k=>by
  cases z with
  |nx=>show λu q H3 e3 R3 L=>k u q H3 (e.trans e3) R3 L|bk=>show λu q H3 e3 R3 L=>k u q H3 (e.trans e3) R3 L|ct=>show λu q H3 e3 R3 L=>k u q H3 (e.trans e3) R3 L|rt d=>show KC.after k e
 show⟨λi m U H=>∃a j G,û π O M a j.length H/\Rp K a H j/\En K a j.length H U G/\dZ A g b m i G j=a0 (z,l,μ'),⟨n,B,s,R,e1,R1,E1,h⟩,?_⟩;rintro i m U H ⟨a,j,G,w,R2,E2,h2⟩;cases m with
 |zero=>cases h2|succ m=>
  show bU h2 ?_;clear h2;intro o h3 h4;cases o with
  |none=>cases h4;show .inl ⟨W.stop a _ H i w R2 h3,hE a U H w R2 E2⟩|some d=>
   obtain⟨g1,g2⟩:=W.go a j H i d w R2 h3;show bU h4 ?_;clear h4;intro ρ3 h5 h6;obtain⟨⟨f4,T,Q⟩,h7,h8⟩:=œ.mp h6;show .inr ⟨g1,λv r=>∃c I p,û π O M c p.length r/\Rp K c r p/\En K c p.length r v I/\dZ A g b m (i+1) I p=a0 (z,l,μ'),
    λv r ⟨c,I,p,a1,a2,a3,a4⟩=>⟨m,Ψ _,c,p,I,a1,a2,a3,a4⟩,λx r y=>?_⟩
   obtain⟨ex,Rx,hx⟩:=g2 x r y;have w:=w.trans ex;show⟨a,G,j,d,ρ3,Rx,E2.mono ex,hx,h5,λq L=>⟨a,ρ3,j,f4,T,Q,Rx,L,h7,?_⟩⟩;cases f4 with
   |nx=>show λc X H5 e5 R5 Y=>⟨c,T,Q,w.trans e5,R5,Y,h8⟩|ct=>show λc X H5 e5 R5 Y=>⟨c,T,Q,w.trans e5,R5,Y,h8⟩|bk=>cases h8;show λc X H5 e5 R5 Y=>hE c X H5 (w.trans e5) R5 Y|rt d'=>cases h8;show KC.after hE w
abbrev jN(lo:Int)(n:Nat):Hm->Nat->Option (Option D):=λ_ i=>a0<|if i<n then a0 (.int<|lo+i)else a7
def ER:Wk K (n8 lo k) (jN lo k) π n H:=by
 show⟨λb m c i e R z=>?_,λb m c i d e R z=>?_⟩
 .have a:=ė z;split at a
  .cases a
  .show rn.mp<|by assumption
 .have a:=ė z;split at a
  .cases a;rename_i h;show⟨h,λx o ⟨j,l⟩=>by subst j;rw[l];show⟨.refl,R,.int _⟩⟩
  .cases a
abbrev rS(y:Str):Str:="#"++y
abbrev bH(xs N:List Str):List Str:=N.map λy=>if xs.contains y then rS y else y
def pT xs N:(bH xs N).length=N.length:=by unfold bH;simp
def h12{i:Nat}(h:(bH xs N)[i]?=a0 y):∃a,N[i]?=a0 a/\((xs.contains a=a9/\y=rS a)\/(xs.contains a=a8/\y=a)):=by
 unfold bH at h;rw[ú]at h;show bY h ?_;clear h;intro a c b;show⟨a,c,?_⟩;cases hc:xs.contains a with
 |true=>rw[hc]at b;show .inl ⟨rfl,by simpa using b.symm⟩|false=>rw[hc]at b;show .inr ⟨rfl,by simpa using b.symm⟩
abbrev cZ(X:Cx)(scope:Δ)(a:List (Str×Addr))(C:Addr)(N:List Str)(s₀:Ï)(H₀:Hp)(b:List Addr):Cx:=
 {X with N:=N,s₀:=s₀,H₀:=H₀,env:=ϛ scope a C X.env,outer:=X.stack,stack:=X.stack,ex:=b,fn:=λ_=>a8,pn:=[],xe:=λ_ _=>False}
def ES{env:Ο}:∀(names:List (Str×ϝ))x,(names.map λ(n,k)=>if(k==ϰ&&env.scope.kind==.function&&env.kindOf n==a0 .cell)then(n,Sd)else(n,k)).lookup x
  = (names.lookup x).map λk=>if(k==ϰ&&env.scope.kind==.function&&env.kindOf x==a0 .cell)then Sd else k
 |[],_=>rfl|(n,k)::r,x=>by
  have c:=ES (env:=env) r x;rw[ù];by_cases b:x=n
  .subst b;have key:∀(k':ϝ)(l:List (Str×ϝ)),dq x ((x,k')::l)=a0 k':=λk' l=>by simp[um]
   rw[key];change dq x ((if(k==ϰ&&env.scope.kind==.function&&env.kindOf x==a0 .cell)=a9 then(x,Sd)else(x,k))::_)=a0 (if(k==ϰ&&env.scope.kind==.function&&env.kindOf x==a0 .cell)=a9 then Sd else k);split
   .rw[key]
   .rw[key]
  .have a:(x==n)=false:=by simpa using b
   have key:∀(k':ϝ)(l:List (Str×ϝ)),dq x ((n,k')::l)=dq x l:=λk' l=>by simp only[um,a]
   rw[key];change dq x ((if(k==ϰ&&env.scope.kind==.function&&env.kindOf n==a0 .cell)=a9 then(n,Sd)else(n,k))::_)=_;split
   .rw[key];show c
   .rw[key];show c
structure ą(X:Cx)(scope:Δ)(cl:List (Str×Addr))(xs:List Str):Prop where
 clos:Ni scope X.env=pure cl
 nocell:∀y∈scope.names,y.2≠.cell
 kind:scope.kind=.function
 names:∀y∈scope.names,y.2=.local->scope.names.lookup y.1=a0 .local
 here:∀x∈xs,scope.names.lookup x=a0 .local
 sub:∀y c,cl.lookup y=a0 c->X.env.cells.lookup y=a0 c
 free:∀y,scope.names.lookup y=a0 .free->(X.env.kindOf y=a0 .cell\/X.env.kindOf y=a0 .free)/\∃c,cl.lookup y=a0 c
 own:∀y,scope.names.lookup y=a0 .local->y∉bH xs X.N
 hidn:∀y∈X.N,xs.contains y=a9->scope.names.lookup (rS y)=a7
def ą.kindOf(O:ą X scope cl xs)C y:(ϛ scope cl C X.env).kindOf y=(scope.names.lookup y).map λk=>if(k==ϰ&&X.env.scope.kind==.function&&X.env.kindOf y==a0 .cell)then Sd else k:=
 ES scope.names y
def ą.outer(O:ą X scope cl xs){C:Addr}(h:(ϛ scope cl C X.env).kindOf y=a0 .cell\/(ϛ scope cl C X.env).kindOf y=a0 .free):scope.names.lookup y=a0 .free:=by
 rw[O.kindOf]at h;cases q:scope.names.lookup y with
 |none=>rw[q]at h;rcases h with h|h<;>cases h
 |some k=>
  rw[q]at h;cases k with
  |free=>rfl|cell=>show absurd rfl (O.nocell _<|Ϧ q)| «local»=>rcases h with h|h<;>simp at h
  |globalExplicit=>rcases h with h|h<;>simp at h
  |globalImplicit=>rcases h with h|h<;>simp at h
def ą.inv{σ:St}(O:ą X scope cl xs)(I:Inv X Dn σ H s)(B:∀b∈Y,iU X Dn H b)(hob:∀b∈Y,∃o,s.heap.get? b=a0 o)(hns:d.Ns s.heap.objs.size m)(N:∀b o,s.heap.get? b=a0 o->d.get? b=a0 o):
  Inv (cZ X scope cl s.heap.objs.size (bH xs X.N++xs) s H Y) [] (σ++UV xs.length a7) H {s with heap:=d,toks:=tk}:=by
 show⟨⟨I.ok.mod,O.kind,I.ok.glob,I.ok.blt,Õ _,λy z c Z A=>?_,λy hy=>?_,(λy c h=>by cases h),I.ok.hd,I.ok.frames,.inl rfl,λb G=>?_,λb o e=>I.bs b o e,Đ I.ok.bsz I.sz,λb o e G=>?_,λb G hb2=>?_,I.stack,I.stkFree⟩,
  rfl,I.bare,Un.kept N,⟨m,hns,λi y v Z A w=>?_⟩,λy c h=>?_,I.hok.fresh<|Õ _,λy c h=>I.freeC y c<|O.sub y c h,λp hp=>absurd (show p∈([]:jw)from hp)<|by simp,I.hok.kept N,?_⟩
 .show I.ok.inj y z c (O.sub y c Z)<|O.sub z c A
 .show(O.free y<|O.outer hy).2
 .obtain⟨f0,R,T,x,U,f5⟩:=B b G;obtain⟨o,M⟩:=hob b G;show⟨õ<|ß M,λy c h=>U y c<|O.sub y c h⟩
 .obtain⟨f0,R,T,x,U,f5⟩:=B b G;rcases x with x|x
  .show I.ok.noex b o e x
  .show absurd (ĩ (ß (I.ok.bs b o e).1) x)<|ϣ _
 .obtain⟨f0,R,T,x,U,f5⟩:=B b G;rcases ċ.mp (I.stkSub b hb2)with z|z
  .show R z
  .show T z
 .have L:i<σ.length:=by
   by_cases L:i<σ.length
   .show L
   .rw[ż<|rn.mp L,zj]at A;split at A<;>cases A
  rw[Š L]at A;have K:(bH xs X.N)[i]?=a0 y:=by have n:(bH xs X.N++xs)[i]?=a0 y:=Z;rw[Š<|by rw[pT,<- I.len];show L]at n;show n
  have j:scope.names.lookup y≠a0 .local:=λz=>O.own y z<|Ğ K;have E:=O.kindOf s.heap.objs.size y;have h1':X.N[i]?=a0 y:=by
   obtain⟨y0,q1,Q⟩:=h12 K;rcases Q with⟨Q,q3⟩|⟨Q,q3⟩
   .exfalso;have hz:=O.hidn y0 (Ğ q1) Q;rw[<- q3]at hz;rw[hz]at E;have a:(ϛ scope cl s.heap.objs.size X.env).kindOf y=a0 .local\/(ϛ scope cl s.heap.objs.size X.env).kindOf y=a0 .cell\/(ϛ scope cl s.heap.objs.size X.env).kindOf y=a0 .free:=w;rw[E]at a;rcases a with a|a|a<;>cases a
   .rw[q3];show q1
  have a:(ϛ scope cl s.heap.objs.size X.env).kindOf y=a0 .cell\/(ϛ scope cl s.heap.objs.size X.env).kindOf y=a0 .free:=by
   rcases w with w|w|w
   .exfalso;have a:(ϛ scope cl s.heap.objs.size X.env).kindOf y=a0 .local:=w;rw[E]at a;cases q:scope.names.lookup y with
    |none=>rw[q]at a;cases a|some k=>
     rw[q]at a;cases k with
     | «local»=>show j q|cell=>simp at a|free=>simp only[į]at a;split at a<;>cases a|globalExplicit=>simp at a|globalImplicit=>simp at a
   .show .inl w
   .show .inr w
  obtain⟨g,c,hc⟩:=O.free y<|O.outer a;obtain⟨m0,hn0,hl0⟩:=I.loc;obtain⟨u,r,l⟩:=hl0 i y v h1' A (by rcases g with g|g;show .inr<|.inl g;show .inr<|.inr g);show⟨u,r,.inr ⟨a,c,hc,?_⟩⟩;rcases l with⟨lk,_⟩|⟨_,c',e',z⟩
  .exfalso;rcases g with g|g
   .rw[g]at lk;cases lk
   .rw[g]at lk;cases lk
  .rw[O.sub y c hc]at e';cases e';obtain⟨o,M,hd⟩:=z;show⟨o,N c o M,hd⟩
 .obtain⟨v,q⟩:=I.cell y c<|O.sub y c h;show⟨v,by obtain⟨o,M,hd⟩:=q;show⟨o,N c o M,hd⟩⟩
 .change(σ++UV xs.length a7).length=(bH xs X.N++xs).length;rw[å,å,I.len,ux,pT]
def ą.back{σ G:St}(I:Inv X Dn σ H s)(x:∀b∈k,iU X Dn H b)(J:Inv (cZ X scope cl s.heap.objs.size N s H k) R G i j)(p:∀b o,b≠s.heap.objs.size->j.heap.get? b=a0 o->h'.get? b=a0 o):Inv X Dn σ i {j with heap:=h'}:=by
 have u:Un (jX X.stack) k H i s.heap h':=by
  have h:Un (jX X.stack) k H i s.heap j.heap:=J.base;have ne:∀b o,s.heap.get? b=a0 o->b≠s.heap.objs.size:=λb o e=>õ<|ß e;show⟨λb o e n l m=>p b o (ne b o e)<|h.keep b o e n l m,λb o e n l m=>?_,h.free,λb o e m=>?_,h.tups,h.frzs,h.tbls⟩
  .obtain⟨T,q⟩:=h.slot b o e n l m;show⟨T,p b _ (ne b o e) q⟩
  .obtain⟨Q,q⟩:=h.there b o e m;show⟨Q,p b _ (ne b o e) q⟩
 have a:i s.heap.objs.size=none:=J.free;have y:ŗ X.prog X.w i h':=λb v e=>by
  show(J.hok b v e).stay (λc w hc q=>p c w ?_ q) (λ_ q=>q) λ_ _ q=>q;rcases hc with z|z
  .rw[z];intro E;rw[E,a]at e;cases e
  .intro E;rw[E,a]at z;cases z
 have A:j.os=s.os:=J.os;obtain⟨Z,g,d,t,B⟩:=j;obtain rfl:B=s.os:=A;have r:=Inv.call (X:=X) (Dn:=Dn) (σ:=σ) (H:=H) (s:=s) (h':=h') (g':=g) (d':=d) (t':=t) (ch:=k) I u y J.bare λb l=>let⟨U,K,Y,L,M,O⟩:=x b l;⟨L,K,M,O⟩;show r
def dMT(I:Nat->Ï->Prop)(turn:∀n s,I n s->Ç (É prog w) A (Ŭ B) (λr d=>match r with
   |none=>R (.ok .next) d
   |some v=>Ç (É prog w) A (MX a B v) (λ_ e=>Ç (É prog w) A (Iv a env v) (λ_ k=>
     Ç (É prog w) A (forIn ifs a9 λc r=>if r=a9 then do let ok <- qu c env (eval c env);pure (uh ok)else pure (uh r)) (λok g=>
      if ok=a9 then Ç (É prog w) A (eval elt env) (λx l=>
       Ç (É prog w) A (call (.builtin "list.append") [p,x]) (λ_ o=>∃m,m<n/\I m o) (λ_ _=>False) l) (λ_ _=>False) g
      else ∃m,m<n/\I m g) (λ_ _=>False) k) (λ_ _=>False) e) (λ_ _=>False) d) (λ_ _=>False) s)n(h:I n s):
  Ρ (É prog w) A (.compLoop (.ListComp elt [⟨a,iter,ifs,0⟩] scope pos) 0 B p env) R s:=by
 show codeAny_loop rfl I (λn s E=>?_) n h;change Ç _ A ((compTurn (.ListComp elt [⟨a,iter,ifs,0⟩] scope pos) 0 B p env).onRaise λx=>do noteFrame x env;theTreesLotGoes x) _ _ s;show wpAny_noted ?_;rw[compTurn_list];show Á<|MU<|Á<|Ķ (turn n s E) (λr d i=>?_) λ_ _ b=>b.elim;cases r with
 |none=>show Ð i|some v=>
  show Á<|Ķ i (λ_ e q=>?_) λ_ _ b=>b.elim;show Á<|Ķ q (λ_ k u=>Á<|Ķ u (λok g j=>?_) λ_ _ b=>b.elim) λ_ _ b=>b.elim;cases ok with
  |false=>show Ð ⟨rfl,j⟩|true=>show Á<|Á<|Ķ j (λx l y=>Á<|Ķ y (λ_ o z=>Ð<|Ð ⟨rfl,z⟩) λ_ _ b=>b.elim) λ_ _ b=>b.elim
abbrev rV(b:Hm)(a:Nat)(y:D):Option Hm:=match b[a]? with
 |some (.lst xs)=>if xs.length<Ñ then a0 (b.set a<|.lst<|xs++[y])else a7|_=>a7
noncomputable abbrev BD:=D->Hm->Option aF
abbrev rW:BD:=λd _=>a0 [a0 d]
abbrev AS(k:Nat):BD:=λd a=>(bM a d).bind λxs=>if xs.length=k then a0 (xs.map a0)else a7
abbrev jO(a:Hm->Nat->Option (Option D))(g:BD)(c:MT)(e:ME)(ρ:aF)(b:Nat):Nat->Nat->Hm->Option Hm
 |0,_,_=>a7|n+1,i,μ=>(a μ i).bind λo=>match o with
  |none=>a0 μ|some d=>(g d μ).bind λx=>(c (ρ++x) μ).bind λp=>match p.1 with
   |true=>(e (ρ++x) p.2).bind λq=>(rV q.2 b q.1).bind λh=>jO a g c e ρ b n (i+1) h|false=>jO a g c e ρ b n (i+1) p.2
abbrev eX:MT:=λ_ a=>a0 (a9,a)
abbrev pU(X:Cx)(ifs:List Expr)(m:MT):Prop:=
 ∀(Dn:jw)(s:Ï)(σ:St)(H:Hp)(Q:Bool->Hp->Prop),Inv X Dn σ H s->ŀ X.K m σ H Q->
  Ç (É X.prog X.w) X.A (forIn ifs a9 λc r=>if r=a9 then do let ok <- qu c X.env (eval c X.env);pure (uh ok)else pure (uh r)) (TP X Dn σ Q) X.xe s
def a7m:pU X [] eX:=by intro a s j H Q I h;obtain⟨e,i,g,b,d,R,E,c,k⟩:=h;cases c;show wpAny_tests_nil ⟨H,I,k e H .refl R⟩
def a7f(h:PT X c (ŀ X.K m)):pU X [c] m:=λDn s σ H Q I q=>wpAny_tests_one<|h Dn s σ H Q I q
def ET(h:t≠e):∀n i s(Q:gq->Ï->Prop),s.heap.IsListIter e t i->s.heap.IsList t items->i+n<=items.size->
  (∀k,k.IsListIter e t (i+n)->Ϭ e s.heap k->Q ((items.toList.drop i).take n) {s with heap:=k})->Ç (É prog w) A (draw (.ref e) n) Q E s
 |0,i,s,Q,hit,_,_,hQ=>by change Ç _ _ (pure []) Q E s;show Ð<|by simpa using hQ s.heap hit (Ra ..)
 |n+1,i,s,Q,hit,ht,hle,hQ=>by
  have g:i<items.size:=by lia
  change Ç _ _ (Ŭ (.ref e) >>= _) Q E s;show Á (OZ hit ht (x:=items[i]) (by simp[g]) λl b a=>?_);show Á (ō<|ET h n (i+1) _ _ b (ht.extBut a.extBut h) ⋯ λj c d=>Ð ?_);have hd:items.toList.drop i=items[i]::items.toList.drop (i+1):=by simp[vp,g]
  have:=hQ j (by rw[show i+(n+1)=i+1+n by lia];show c)<|a.trans d;rw[hd,OX]at this;show this
def a7b{Q:gq->Ï->Prop}(q:A.handled=a7)(j:s.heap.IsList t items)(p:∀m,ue s.heap.objs.size s.heap m->Q items.toList {s with heap:=m}):Ç (É prog w) A (unpackItems (.ref t) items.size a7) Q E s:=by
 have i:t≠s.heap.objs.size:=by obtain⟨o,r,_⟩:=j;show õ<|ß r
 unfold unpackItems;show Á ?_
 .unfold notIterableAtAll;show Á<|Ma j.typeIs slot_list_iter.lookup ?_;show Ð ?_;simp only[ĸ,if_false];show Á<|ō<|zc j ?_;show Á (ō<|ET i items.size 0 _ _ ⟨_,ē _ rfl,rfl,rfl⟩ (j.push _) ⋯ λk c a=>?_);have h:List.take items.size (List.drop 0 items.toList)=items.toList:=by rw[U3];show Ϲ<|by simp
  rw[h];rw[if_neg<|by simp];have g:k.IsList t items:=(j.push _).extBut a.extBut i;show Á (ō<|Oo q c g (by simp) λl d=>?_);simp only[Option.isSome_none,ĸ,if_false];show Ð<|p l λb o n e=>d b o n<|a.extBut b o n<|æ _ e
def a7Y{x1}(d:A.handled=a7)(g:s.heap.IsList t items)(e:(Υ a env).length=items.size)(b:(Υ a env).findIdx? (·.1)=a7)(h:∀c,ue s.heap.objs.size s.heap c->Ç (É prog w) A (assignInOrder ((Υ a env).map (·.2)) items.toList) Q E {s with heap:=c}):
  Ç (É prog w) A (Iv (.Tuple a x1 pos) env<|.ref t) Q E s:=by
 rw[b4a];show Á<|MU ?_;unfold unpack;rw[e,b];show Á<|ō<|a7b d g h
abbrev pV:aF->List Nat->List D->aF
 |ρ,i::is,x::xs=>pV (ρ.set i<|a0 x) is xs|ρ,_,_=>ρ
abbrev c8(a:List Nat):MG:=λd ρ b=>(bM b d).bind λxs=>if xs.length=a.length then a0 (pV ρ a xs)else a7
abbrev w6:List Nat->rJ
 |[]=>DE|i::r=>DF (Ab i)<|w6 r
def AU:∀a{vs}{xs}{σ}{ρ}{Q},Æ K π n H vs xs->En K π n H σ ρ->xs.length=a.length->(∀b,En K π n H b (pV ρ a xs)->Q b H)->w6 a vs σ H Q
 |[],vs,xs,σ,ρ,Q,h,E,hl,k=>by
  cases h with
  |nil=>show⟨rfl,k σ E⟩|cons h t=>cases hl
 |i::a,vs,xs,σ,ρ,Q,h,E,hl,k=>by
  cases h with
  |nil=>cases hl|cons h t=>show⟨_,_,rfl,AU a t (E.set h i) (by simpa using hl) k⟩
def a7S(hc:X.calm=a9)(h:tU X es (w6 l))(M:(Υ es X.env).length=l.length:=by rfl)(n:(Υ es X.env).findIdx? (·.1)=none:=by rfl):
  PG X (.Tuple es k pos) (Ŷ X.K<|c8 l):=by
 intro i s x H v u Q I r hw;obtain⟨T,ρ,O,d,ρ',R,E,hd,L,N⟩:=hw;show bU L ?_;clear L;intro K j A;split at A
 .rename_i w;cases A;have both:(∃a g,v=.ref a/\î X.K H a g/\Æ X.K T O.length H g K)\/(∃a g,v=.ref a/\č X.K H a g/\Æ X.K T O.length H g K):=by
   cases hd with
   |tup q t=>cases j;show .inl ⟨_,_,rfl,q,t⟩|rol q t=>cases j;show .inr ⟨_,_,rfl,q.sq,t⟩|@loc a ha=>
    simp only[bM]at j;split at j
    .rename_i ys Z;cases j;obtain⟨g,U,Y⟩:=R.lst a K Z;show .inr ⟨_,g,rfl,.of U,Y⟩
    .cases j
   |_=>cases j
  rcases both with⟨a,g,rfl,q,t⟩|⟨a,g,rfl,q,t⟩
  .cases r;obtain⟨m,p,B,hz⟩:=I.tuple q;have c:m.length=l.length:=by rw[<- p.length,t.length];show w
   show b3Z (I.ok.hd hc) B (by simp[M,c]) n λz G=>?_;have y:Inv X i x H {s with heap:=z}:=I.kept (t':=s.toks) λb o e=>G b o (õ<|ß e) e;show h i _ x H g _ Q y (by simpa using p)<|AU l t E w N
  .cases r;obtain⟨m,p,B,hz⟩:=I.list q;have c:m.length=l.length:=by rw[<- p.length,t.length];show w
   show a7Y (I.ok.hd hc) B.isList (by simp[M,c]) n λz G=>?_;have y:Inv X i x H {s with heap:=z}:=I.kept (t':=s.toks) λb o e=>G b o (õ<|ß e) e;show h i _ x H g _ Q y (by simpa using p)<|AU l t E w N
 .cases A
abbrev gM(m:ME)(g:MG):MS:=λρ b=>(m ρ b).bind λp=>(g p.1 ρ p.2).map λa=>(.nx,a,p.2)
def a6w(q:PE X e (tM X.K m))(r:PG X tg (Ŷ X.K g))(s:swapsWithSole [tg] e pos.line X.env=pure false:=by rfl)(hw:Ny [tg] e X.env=pure none:=by rfl)(h1:(Υ [tg] X.env).map (·.2)=[Iv tg X.env]:=by rfl):PS X (.Assign [tg] e pos) (ŉ X.K<|gM m g):=lR (b2K q r s hw h1)<|by
 rintro E I H ⟨y,l,v,B,z,w,R,h,a,k⟩;show aZ a ?_;clear a;intro x c h1 a;show bY a ?_;clear a;intro A p a;cases a;show⟨y,l,v,x,c,R,h,h1,λb G o j i u=>⟨b,l,_,x,_,i,h.mono j,u,p,λd n=>k b d o j i n⟩⟩
abbrev uB:MF:=λds a=>match ds with
 |[.str z]=>if z.length<=Ñ then a0 (.int z.length,a)else a7|[x]=>(bM a x).map λb=>(.int b.length,a)|_=>a7
abbrev AV(K:Ö):gw->Hp->VK->Prop:=λxs H Q=>(∃p ys,xs=[.ref p]/\(č K H p ys\/î K H p ys)/\Q (.int ys.length) H)\/(∃z,xs=[.str z]/\z.length<=Ñ/\Q (.int z.length) H)
def η:ì X (.builtin "len") (AV X.K):=Ť.or a8Q
def rX(R:Rp K π H b)(h:Ý K π b.length H v x)(e:bM b x=a0 xs):∃p vs,v=.ref p/\(č K H p vs\/î K H p vs)/\Æ K π b.length H vs xs:=by
 cases h with
 |tup q t=>cases e;show⟨_,_,rfl,.inr q,t⟩|rol q t=>cases e;show⟨_,_,rfl,.inl q.sq,t⟩|@loc a i=>
  simp only[bM]at e;split at e
  .rename_i j g;cases e;obtain⟨vs,c,d⟩:=R.lst a xs g;show⟨_,vs,rfl,.inl<|.of c,d⟩
  .cases e
 |_=>cases e
def EU:fF K uB (AV K):=by
 intro b H o m d j l Q R i a k;unfold uB at a;split at a
 .split at a
  .rename_i g;cases a;cases i with
   |cons i t=>cases i;cases t;show .inr ⟨_,rfl,g,k b _ H .refl R<|.int _⟩
  .cases a
 .obtain⟨n,c,e⟩:=Ō.mp a;cases e;cases i with
  |cons i t=>cases t;obtain⟨p,h,rfl,q,hd⟩:=rX R i c;show .inl ⟨p,h,rfl,q,?_⟩;rw[hd.length];show k b _ H .refl R<|.int _
 .cases a
abbrev EV(K:Ö):gw->Hp->VK->Prop:=λvs H Q=>∃π a x v t c b,vs=[v,.ty c]/\Rp K π H a/\Ý K π a.length H v x/\w4 a x=a0 t/\w5 t c=a0 b/\Q (.bl b) H
def a6e:fF K fH (EV K):=by
 intro c H p o d m n Q R i a k;unfold fH at a;split at a
 .obtain⟨t,e,a⟩:=œ.mp a;show bY a ?_;clear a;intro b g a;cases a;cases i with
  |cons i j=>
   cases j with
   |cons h l=>cases l;cases h;show⟨c,_,_,_,t,_,b,rfl,R,i,e,g,k c _ H .refl R<|.bl _⟩
 .cases a
def a6E:ì X (.builtin "isinstance") (EV X.K):=by
 intro G s σ H O us Q I r h;obtain⟨M,μ,x,v,t,c,b,rfl,R,i,d,k,q⟩:=h;obtain⟨u,u2,rfl,m,Y⟩:=a6q r;cases Y;have fin:∀L,EP X G σ Q (.bool b) {s with toks:=L}:=λL=>⟨.bl b,H,I.tok L,rfl,q⟩;cases i with
 |non=>cases d;cases m;show bc PySem.W.kitx_none I.kIn J1 (mU X.K (by simp) k) (λz=>nomatch z) fin|bl y=>cases d;cases m;show bc PySem.W.kitx_bool I.kIn J1 (mU X.K (by simp) k) (λz=>nomatch z) fin|int y=>cases d;obtain⟨t,rfl⟩:=m;show bc PySem.W.kitx_int I.kIn J1 (mU X.K (by simp) k) (λz=>nomatch z) fin|str y=>cases d;obtain⟨t,rfl⟩:=m;show bc PySem.W.kitx_str I.kIn J1 (mU X.K (by simp) k) (λz=>nomatch z) fin|tup g t=>cases d;cases m;obtain⟨B,N,p,_⟩:=I.tuple g;obtain⟨o,e,j,_⟩:=p;show bc PySem.W.kitx_tuple I.kIn ⟨o,e,j⟩ (mU X.K (by simp) k) (λz=>nomatch z) fin|rol g t=>cases d;cases m;obtain⟨B,N,p,_⟩:=I.list g.sq;obtain⟨o,e,j,_⟩:=p.isList;show bc RE I.kIn ⟨o,e,j⟩ (mU X.K (by simp) k) (λz=>nomatch z) fin|@loc a ha=>
  cases m;simp only[w4]at d;split at d
  .rename_i O A;cases d;obtain⟨E,w,h4⟩:=R.lst a O A;obtain⟨B,N,p,_⟩:=I.list<|č.of (K:=X.K) w;obtain⟨o,e,j,_⟩:=p.isList;show bc RE I.kIn ⟨o,e,j⟩ (mU X.K (by simp) k) (λz=>nomatch z) fin
  .rename_i l A;cases d;obtain⟨E,w,_⟩:=R.dK a l A;obtain⟨_,_,Z,_,p⟩:=(show â X.prog X.w H s.heap (M a) (.dK E)from I.hok _ _ w);obtain⟨o,U,T,e,j,_⟩:=p;show bc RD I.kIn ⟨o,e,j.1⟩ (mU X.K (by simp) k) (λz=>nomatch z) fin
  .rename_i l A;cases d;obtain⟨E,w,_⟩:=R.dT a l A;obtain⟨⟨Z,_,_,_,o,U,T,e,j,_⟩,_⟩:=(show â X.prog X.w H s.heap (M a) (aL (M a) E)from I.hok _ _ w);show bc RD I.kIn ⟨o,e,j.1⟩ (mU X.K (by simp) k) (λz=>nomatch z) fin
  .cases d
 |ty n=>cases d
inductive ϩ (K:Ö)(π:Nat->Addr)(n:Nat)(H:Hp):List (cN×V)->List (cN×D)->Prop where
 |nil:ϩ K π n H [] []
 |cons {k:cN}{v:V}{d:D}{vs:List (cN×V)}{ds:List (cN×D)}(h:Ý K π n H v d)(t:ϩ K π n H vs ds):ϩ K π n H ((k,v)::vs)<|(k,d)::ds
abbrev b2h(K:Ö)(a:List (ME×ME)):List (TE×TE):=a.map λp=>(tM K p.1,tM K p.2)
def fI(r:ç k A):A.units+1<Ĉ:=by have:=r.un;lia
abbrev mW(a:ME):ME:=λρ b=>(a ρ b).bind λp=>(AL p.1).map λd=>(d,p.2)
abbrev iZ(cells:List (Str×Addr)):List (Str×ϝ)->List (Str×Addr)->List (Str×Addr)
 |[],acc=>acc|(n,k)::r,acc=>if k=.free then(match cells.lookup n with|some c=>iZ cells r ((n,c)::acc)|none=>iZ cells r acc)else iZ cells r acc
def EW:∀names a,(∀y∈names,y.2=.free->∃c,env.cells.lookup y.1=a0 c)->
  (forIn names a λx d=>(do
   if x.2==.free then(do let c <- cellOf env x.1;pure (uh<|(x.1,c)::d))else pure (uh d):ĵ (ForInStep<|List<|Str×Addr)))=pure (iZ env.cells names a)
 |[],a,_=>rfl|(n,k)::r,a,h=>by
  have g:=λa=>EW r a λy i=>h y<|ı _ i;rw[List.forIn_cons];by_cases b:k=.free
  .subst b;obtain⟨c,hc⟩:=h (n,.free) (Ĭ ..) rfl;dsimp only at hc;have e:cellOf env n=pure c:=by unfold cellOf;rw[hc]
   simp only[iZ,hc,e,beq_self_eq_true,if_true,pure_bind];show g _
  .have e:(k==ϰ)=false:=by simpa using b
   simp only[iZ,e,b,if_false,ĸ,pure_bind];show g _
def b2g(h:∀y∈scope.names,y.2=.free->∃c,env.cells.lookup y.1=a0 c):Ni scope env=pure (iZ env.cells scope.names []):=by have:=EW (env:=env) scope.names [] h;unfold Ni;simp only[bind_pure]at *;show this
def w8:∀names a,(∀y c,a.lookup y=a0 c->cells.lookup y=a0 c)->∀y c,(iZ cells names a).lookup y=a0 c->cells.lookup y=a0 c
 |[],a,h=>h|(n,k)::r,a,h=>by
  unfold iZ;split
  .split
   .rename_i c0 hc;show w8 r _ λy c e=>?_;rw[um]at e;by_cases b:y=n
    .subst b;simp only[beq_self_eq_true]at e;cases e;show hc
    .have:(y==n)=false:=by simpa using b
     rw[this]at e;show h y c e
   .show w8 r a h
  .show w8 r a h
def w9:∀names a y,(∃c,a.lookup y=a0 c)->∃c,(iZ cells names a).lookup y=a0 c
 |[],a,y,h=>h|(n,k)::r,a,y,h=>by
  unfold iZ;split
  .split
   .show w9 r _ y ?_;rw[um];by_cases b:(y==n)=a9
    .rw[b];show⟨_,rfl⟩
    .have:(y==n)=false:=by simpa using b
     rw[this];show h
   .show w9 r a y h
  .show w9 r a y h
def xA:∀names a y,(y,ϰ)∈names->(∃c,cells.lookup y=a0 c)->∃c,(iZ cells names a).lookup y=a0 c
 |[],a,y,h,_=>by cases h
 |(n,k)::r,a,y,h,hc=>by
  unfold iZ;rcases ċ.mp h with h|h
  .cases h;obtain⟨c,hc⟩:=hc;rw[if_pos rfl,hc];show w9 r _ _ ⟨c,by simp[um]⟩
  .split
   .split
    .show xA r _ y h hc
    .show xA r _ y h hc
   .show xA r _ y h hc
structure ľ(osc:Δ)(N:List Str)(scope:Δ)(xs:List Str):Prop where
 nocell:∀y∈scope.names,y.2≠.cell
 kind:scope.kind=.function
 names:∀y∈scope.names,y.2=.local->scope.names.lookup y.1=a0 .local
 here:∀x∈xs,scope.names.lookup x=a0 .local
 free:∀y∈scope.names,y.2=.free->osc.names.lookup y.1=a0 .cell\/osc.names.lookup y.1=a0 .free
 own:∀y∈scope.names,y.2=.local->y.1∉bH xs N
 nd:N.Nodup
 hnd:(bH xs N).Nodup
 hidn:∀y∈N,xs.contains y=a9->scope.names.lookup (rS y)=a7
def ľ.ok(S:ľ X.env.scope X.N scope xs)(ok:X.Ok):ą X scope (iZ X.env.cells scope.names []) xs:=by
 have has:∀y∈scope.names,y.2=.free->∃c,X.env.cells.lookup y.1=a0 c:=λy d b=>ok.has y.1 (S.free y d b);show⟨b2g has,S.nocell,S.kind,S.names,S.here,w8 scope.names [] (λy c e=>by cases e),λy e=>?_,λy e=>?_,S.hidn⟩
 .have a:=Ϧ e;show⟨S.free _ a rfl,xA scope.names [] y a (has _ a rfl)⟩
 .show S.own _ (Ϧ e) rfl
abbrev dW(e:Expr):Bool:=!(e.ctorIdx==22)
def gN(h:dW e=a9):ă (e::es) env=(a8,eval e env)::ă es env:=by cases e<;>first|rfl|cases h
def pW:∀{es},es.all dW=a9->(Ŋ pos<|ă es env).any (·.1)=a8
 |[],_=>rfl|e::es,h=>by rw[Ŕ,í]at h;rw[gN h.1];have:=pW (pos:=pos) (env:=env) h.2;simpa[Ŋ]using this
def xB(h:dW e=a9):Υ (e::es) env=(a8,Iv e env)::Υ es env:=by cases e<;>first|rfl|cases h
def EX:∀{es},es.all dW=a9->(Υ es env).length=es.length
 |[],_=>rfl|e::es,h=>by rw[Ŕ,í]at h;rw[xB h.1,Ļ,Ļ,EX h.2]
def EY:∀{es},es.all dW=a9->(Υ es env).findIdx? (·.1)=a7
 |[],_=>rfl|e::es,h=>by rw[Ŕ,í]at h;rw[xB h.1,List.findIdx?_cons,EY h.2];rfl
structure QE(X:Cx)(e:Expr)(m:ME):Prop where
 h:PE X e<|tM X.K m
structure QT(X:Cx)(e:Expr)(m:MT):Prop where
 h:PT X e<|ŀ X.K m
structure QW(X:Cx)(e:Expr)(m:MT):Prop where
 h:PW X e<|ŀ X.K m
structure QA(X:Cx)(es:List Expr)(m:MA)(n:Nat):Prop where
 h:PA X es<|ŷ X.K m
 l:∀ρ μ ds μ',m ρ μ=a0 (ds,μ')->ds.length=n
 s:es.all dW=a9
structure QO(X:Cx)(e:Option Expr)(m:MO):Prop where
 h:PO X e<|qp X.K m
structure QS(X:Cx)(st:Stmt)(m:MS):Prop where
 h:PS X st<|ŉ X.K m
structure QB(X:Cx)(st:List Stmt)(m:MS):Prop where
 h:Ŗ X st<|ŉ X.K m
structure QG(X:Cx)(e:Expr)(g:MG):Prop where
 h:PG X e<|Ŷ X.K g
structure wk(X:Cx)(es:List Expr)(is:List Nat):Prop where
 h:tU X es<|w6 is
 n:es.length=is.length
 s:es.all dW=a9
structure QI(X:Cx)(ifs:List Expr)(m:MT):Prop where
 h:pU X ifs m
structure e10(X:Cx)(pos:è)(keys:List (Option Expr))(values:List Expr)(prs:List (ME×ME)):Prop where
 h:HjI X pos keys values<|b2h X.K prs
 a:keys.all (·.isSome)=a9
 l:keys.length=values.length
def b2e i(g:X.N[i]?=a0 x:=by rfl)(h:rH X.env.scope x:=by first|show xm rfl|show qt (xm rfl)|show qt<|qt rfl)(hd:(x==("__debug__":Str))=false:=by decide)(d:(x==("__classdict__":Str))=false:=by decide):QE X (.Name x pos) (aA i):=⟨a9q i<|a8f g h hd d⟩
def b2d:QE X (.Constant (.int i) j pos) (mC<|.int i):=⟨a9d⟩
def b2c:QE X (.Constant (.bool i) j pos) (mC<|.bl i):=⟨a9c⟩
def b2Z:QE X (.Constant (.str i) j pos) (mC<|.str i):=⟨a9b⟩
def b2W:QE X (.Constant .none j pos) (mC .non):=⟨a9Y⟩
def uC(i:Ĕ X (Τ op) r)(h:dE X.K f r)(d:QE X a ma)(g:QE X b mb):QE X (.BinOp a op b pos) (aC f ma mb):=⟨a9O i h d.h g.h⟩
def b2V(d:QE X a ma)(g:QE X b mb):QE X (.BinOp a .Add b pos) (aC bA ma mb):=uC FwI FoI d g
def b2S(d:QE X a ma)(g:QE X b mb):QE X (.BinOp a .Sub b pos) (aC dH ma mb):=uC b2I a6A d g
def b2R(d:QE X a ma)(g:QE X b mb):QE X (.BinOp a .Mult b pos) (aC bQ ma mb):=uC b3b LaI d g
def b2Q(d:QE X a ma)(g:QE X b mb):QE X (.BinOp a .FloorDiv b pos) (aC iJ ma mb):=uC a6D HwI d g
def b2P(d:QE X a ma)(g:QE X b mb):QE X (.BinOp a .Mod b pos) (aC bN ma mb):=uC b2F HmI d g
def b2O(d:QE X a ma):QE X (.UnaryOp .USub a pos) (mW ma):=⟨CrJ d.h⟩
def b2N(d:QE X a ma):QE X (.UnaryOp .Not a pos) (rN ma):=⟨b1Q d.h⟩
def b2M(h:ç k X.A)(d:QE X a ma)(g:QE X b mb):QE X (.Compare a [.Eq] [b] pos) (aC (bD a8) ma mb):=⟨gH (EK<|wZ h) wY d.h g.h<|eB _⟩
def b2H(h:ç k X.A)(d:QE X a ma)(g:QE X b mb):QE X (.Compare a [.NotEq] [b] pos) (aC (bD a9) ma mb):=⟨gH (EL<|wZ h) wY d.h g.h<|eB _⟩
def b2C(d:QE X a ma)(g:QE X b mb):QE X (.Compare a [.Lt] [b] pos) (aC lT ma mb):=⟨gH Ai kF d.h g.h<|eB _⟩
def b2A(d:QE X a ma)(g:QE X b mb):QE X (.Compare a [.LtE] [b] pos) (aC rR ma mb):=⟨gH Aj kF d.h g.h<|eB _⟩
def b1w(d:QE X a ma)(g:QE X b mb):QE X (.Compare a [.Gt] [b] pos) (aC oD ma mb):=⟨gH Ak kF d.h g.h<|eB _⟩
def b1u(d:QE X a ma)(g:QE X b mb):QE X (.Compare a [.GtE] [b] pos) (aC uA ma mb):=⟨gH Al kF d.h g.h<|eB _⟩
abbrev iK(e:Expr):Bool:=!(e.ctorIdx==7)
def kG(h:iK b=a9):fu op b=false:=by cases b<;>first|rfl|cases h
def b1t(h:QE X a m):QE X (.BoolOp op [a] pos) m:=⟨a8n h.h⟩
def b1s{È:List Expr}(d:QE X a ma)(g:QE X (.BoolOp .And (b::È) pos) mb):QE X (.BoolOp .And (a::b::È) pos) (eJ ma mb):=⟨a8m d.h g.h⟩
def b1q{È:List Expr}(d:QE X a ma)(g:QE X (.BoolOp .Or (b::È) pos) mb):QE X (.BoolOp .Or (a::b::È) pos) (AA ma mb):=⟨b1S d.h g.h⟩
def b1n{mt:MT}(hc:QT X c mt)(d:QE X a ma)(g:QE X b mb):QE X (.IfExp c a b pos) (j7 mt ma mb):=⟨b1O hc.h d.h g.h⟩
def b1k:QA X [] aD 0:=⟨b0w,b0b,rfl⟩
def b2x(g:QE X e m)(d:QA X es ms n)(h:dW e=true:=by rfl):QA X (e::es) (aB m ms) (n+1):=⟨b0v g.h d.h<|gN h,b0V d.l,by rw[Ŕ,h,d.s];rfl⟩
def b2w(h:QA X es ms n):QE X (.Tuple es d pos) (bP ms):=⟨b0u h.h⟩
def b2v(h:QA X es ms n):QE X (.List es pos) (cX ms):=⟨b0t h.h⟩
abbrev rY(e:Expr):Bool:=!(e.ctorIdx==26)
def EZ(h:rY b=a9):Av b:=by intro o i;cases b<;>first|rfl|cases h
def b2u(d:QE X a ma)(g:QE X b mb)(h:rY b=true:=by rfl):QE X (.Subscript a b pos) (aC jK ma mb):=⟨b4i d.h g.h<|EZ h⟩
def b2t:QO X a7 fG:=⟨b4d⟩
def b2s(h:QE X e m):QO X (a0 e) (eV m):=⟨b4b h.h⟩
def b2r(i:QE X a ma)(j:QO X lo h)(k:QO X d g):QE X (.Subscript a (.Slice lo d a7 l) pos) (jL ma h g):=⟨b3x i.h j.h k.h⟩
def b2q(F:ļ X.prog X.w X.K X.mg X.base iI k f i ps (kR X.K n j))(s:ç k X.A)(r:X.mg x=a0 (.ref f))(q:Ϟ X.K (.ref f)=a9)(l:Ħ X.K i ps [])(d:QA X (e::es) ms n)(o:Gl X x:=by rfl)(g:(x==("__debug__":Str))=false:=by decide):QE X (.Call (.Name x p) (e::es) [] pos) (aG j ms):=by
 have h:=d.s;rw[Ŕ,í]at h;show⟨b4u F s o r q l d.h d.l g (gN h.1)<|pW h.2⟩
def AW{id:String}(hc:ì X (.builtin id) r)(i:fF X.K f r)(k:X.mg x=a7)(o:Ε x=a0 (.builtin id))(h:QA X (e::es) ms n)(j:Gl X x:=by rfl)(l:x ≠ "__name__":=by decide)(d:(x==("__debug__":Str))=false:=by decide):QE X (.Call (.Name x p) (e::es) [] pos) (aG f ms):=by
 have g:=h.s;rw[Ŕ,í]at g;show⟨b4m hc i j k o h.h l d (gN g.1)<|pW g.2⟩
def b2p(hc:ì X (.type T) r)(i:fF X.K f r)(k:X.mg x=a7)(o:Ε x=a0 (.type T))(h:QA X (e::es) ms n)(j:Gl X x:=by rfl)(l:x ≠ "__name__":=by decide)(d:(x==("__debug__":Str))=false:=by decide):QE X (.Call (.Name x p) (e::es) [] pos) (aG f ms):=by
 have g:=h.s;rw[Ŕ,í]at g;show⟨b4k hc i j k o h.h l d (gN g.1)<|pW g.2⟩
def b2o(g:X.mg x=a7)(i:Ε x=a0 (.type n))(d:Gl X x:=by rfl)(h:x ≠ "__name__":=by decide)(hd:(x==("__debug__":Str))=false:=by decide):QE X (.Name x pos) (mC<|.ty n):=⟨BsI d g i h hd⟩
def b2m(h:ç k X.A)(d:QE X a ma)(g:QE X b mb):QT X (.Compare a [.Eq] [b] pos) (aT<|aC (bD a8) ma mb):=⟨gJ (EK<|wZ h) wY d.h g.h<|eB _⟩
def b2l(h:ç k X.A)(d:QE X a ma)(g:QE X b mb):QT X (.Compare a [.NotEq] [b] pos) (aT<|aC (bD a9) ma mb):=⟨gJ (EL<|wZ h) wY d.h g.h<|eB _⟩
def b2j(d:QE X a ma)(g:QE X b mb):QT X (.Compare a [.Lt] [b] pos) (aT<|aC lT ma mb):=⟨gJ Ai kF d.h g.h<|eB _⟩
def b2i(d:QE X a ma)(g:QE X b mb):QT X (.Compare a [.LtE] [b] pos) (aT<|aC rR ma mb):=⟨gJ Aj kF d.h g.h<|eB _⟩
def b3M(d:QE X a ma)(g:QE X b mb):QT X (.Compare a [.Gt] [b] pos) (aT<|aC oD ma mb):=⟨gJ Ak kF d.h g.h<|eB _⟩
def b3L(d:QE X a ma)(g:QE X b mb):QT X (.Compare a [.GtE] [b] pos) (aT<|aC uA ma mb):=⟨gJ Al kF d.h g.h<|eB _⟩
abbrev AX:Expr->Bool
 |.UnaryOp .Not ..=>a8|.BoolOp ..=>a8|.IfExp ..=>a8|.Compare ..=>a8|_=>a9
def b3K(h:AX e=a9):∀d,qu e env d=(do let v <- d;standAt e.pos;holding [v] (truthy v)):=by
 intro d;cases e<;>first|rfl|cases h|skip
 rename_i g x p;cases g<;>first|rfl|cases h
def b3G{mt:MT}(d:QT X a mt):QT X (.UnaryOp .Not a pos) (iY mt):=⟨a8z d.h⟩
def b3E{mt:MT}(d:QT X a mt):QW X (.BoolOp .And [a] pos) mt:=⟨a9N d.h⟩
def b3D{mt:MT}(d:QT X a mt):QW X (.BoolOp .Or [a] pos) mt:=⟨a9H d.h⟩
def b3C{mt:MT}{È:List Expr}(d:QT X a mt)(g:QW X (.BoolOp .And (b::È) pos) mu):QW X (.BoolOp .And (a::b::È) pos) (j6 mt mu):=⟨a9C d.h g.h⟩
def b3A{mt:MT}{È:List Expr}(d:QT X a mt)(g:QW X (.BoolOp .Or (b::È) pos) mu):QW X (.BoolOp .Or (a::b::È) pos) (jJ mt mu):=⟨a9A d.h g.h⟩
def b2z{mt:MT}(h:QW X e mt):QT X e mt:=⟨h.h.pt⟩
def b2y:QI X [] eX:=⟨a7m⟩
def b0m{mt:MT}(h:QT X c mt):QI X [c] mt:=⟨a7f h.h⟩
def b0l:QB X [] bV:=⟨b3v⟩
def b0k{È:List Stmt}(h1:QS X st ms)(d:QB X È mr):QB X (st::È) (aE ms mr):=⟨b3t h1.h d.h⟩
def b0i(h1:QS X st ms):QB X [st] ms:=⟨b3s h1.h⟩
def b0h:QS X (.Pass pos) bV:=⟨b3r⟩
def b0g(d:QE X e m):QS X (.Return (a0 e) pos) (aR m):=⟨b3q d.h⟩
abbrev mX(e:Expr):Bool:=!(e.ctorIdx==8||e.ctorIdx==9||e.ctorIdx==10)
def AY(h:mX e=a9):dm e t n env=pure false:=by cases e<;>first|rfl|cases h
def b0d(d:QE X e m)(h:mX e=true:=by rfl):QS X (.Expr e pos) (cY m):=⟨b3p d.h<|AY h⟩
def b0Z{mt:MT}(hc:QT X c mt)(d:QB X body ms)(h:QB X orelse mu):QS X (.If c body orelse pos) (bK mt ms mu):=⟨b3o hc.h d.h h.h⟩
def b0Y i(j:X.N.Nodup)(k:QE X e m)(h:mX e=true:=by rfl)(o:X.N[i]?=a0 x:=by rfl)(p:Loc X.env.scope x:=by first|show xm rfl|show qt rfl)(l:X.fn x=a9\/X.env.scope.names.lookup x=a0 .local:=by first|show .inl rfl|show .inr rfl):QS X (.Assign [.Name x d] e pos) (aP i m):=⟨Ez j o p k.h (AY h) l⟩
def b0X i(d:X.N.Nodup)(j:X.N[i]?=a0 x:=by rfl)(k:Loc X.env.scope x:=by first|show xm rfl|show qt rfl)(h:X.fn x=a9\/X.env.scope.names.lookup x=a0 .local:=by first|show .inl rfl|show .inr rfl):QG X (.Name x pos) (bS i):=⟨EO d j k h⟩
def E4:wk X [] []:=⟨b2T,rfl,rfl⟩
def E6 i(h:X.N.Nodup)(d:wk X es is)(k:X.N[i]?=a0 x:=by rfl)(l:Loc X.env.scope x:=by first|show xm rfl|show qt rfl)(j:X.fn x=a9\/X.env.scope.names.lookup x=a0 .local:=by first|show .inl rfl|show .inr rfl):wk X (.Name x pos::es) (i::is):=
 ⟨b2L (DD h k l j) d.h<|by rw[xB (e:=.Name x pos) rfl];rfl,by rw[Ļ,Ļ,d.n],by rw[Ŕ,d.s];rfl⟩
def AZ(h:wk X es is)(hc:X.calm=true:=by rfl):QG X (.Tuple es k pos) (c8 is):=⟨a7S hc h.h ((EX h.s).trans h.n)<|EY h.s⟩
abbrev A1(e:Expr):Bool:=!(e.ctorIdx==25)
def b0W(h:A1 e=a9):Ny [.Tuple es k pt] e env=pure none:=by cases e<;>first|rfl|cases h
def b0U(d:QE X e m)(i:QG X (.Tuple es k pt) g)(h:A1 e=true:=by rfl):QS X (.Assign [.Tuple es k pt] e pos) (gM m g):=
 ⟨a6w d.h i.h (by cases e<;>rfl) (b0W h)<|by rw[xB (e:=.Tuple es k pt) rfl];rfl⟩
def b0T(F:ϓ K x a st f g)(S:ī N ps (cW st))(e:ps.length<=N.length)(d:gG st=body)(c:∀b A outer s H E,ç k (A.deeper<|SV a (cW st) s.heap.objs.size f b)->
   QB (mS iI P w K mg base N a (cW st) f b A outer s H E).nox body m):ļ P w K mg base iI (k+1) f g ps (kR K ps.length<|AD N.length m):=
 b3k F S e λb A outer s H E h=>by rw[d];show(c b A outer s H E h).h
noncomputable abbrev gO:=Hm->Nat->Option (Option D)
noncomputable abbrev MI:=aF->Hm->Option (gO×Nat×Hm)
inductive ψ (K:Ö)(m:MI)(σ:St)(H:Hp)(R:It->Hp->Prop):Prop
 |mk (π:Nat->Addr)(ρ:aF)(μ:Hm)(src:gO)(n:Nat)(μ':Hm)(r:Rp K π H μ)(E:En K π μ.length H σ ρ)(hm:m ρ μ=a0 (src,n,μ'))(k:∀π' H' J,û π μ.length H π' μ'.length H'->Rp K π' H' μ'->Wk K J src π' μ'.length H'->R J H'):ψ K m σ H R
structure QJ(X:Cx)(e:Expr)(m:MI):Prop where
 h:∀tg,PI X tg e (ψ X.K m)
abbrev E7:MI:=λ_ _=>a7
def A2:QJ X e E7:=⟨λtg Dn s σ H R I hw=>by
 obtain⟨h,i,g,b,n,c,d,E,a,k⟩:=hw;cases a⟩
abbrev lU(a:Hm):D->Option (List D)
 |d=>bM a d
abbrev c9(x:D):gO:=λa i=>(lU a x).map λxs=>xs[i]?
abbrev bZ(m:ME):MI:=λρ a=>(m ρ a).bind λp=>(lU p.2 p.1).map λxs=>(c9 p.1,xs.length+1,p.2)
def b0S(h:QE X e m):QJ X e (bZ m):=⟨λtg Dn s σ H R I hw=>by
 obtain⟨L,M,G,A,n,K,r,E,b,k⟩:=hw;show aZ b ?_;clear b;intro x i u b;show bY b ?_;clear b;intro B w b;cases b;have key:∀(o:bM i x=a0 B)(p:c9 x=mV x),Ç (É X.prog X.w) X.A (eval e X.env) (λv z=>Ç (É X.prog X.w) X.A (ϙ v) (Ac X Dn σ tg R) X.xe z) X.xe s:=λo p=>by
  show BmJ h.h Dn s σ H R I ⟨L,M,G,x,_,r,E,u,λc N j l d y=>?_⟩;obtain⟨a,e,q⟩:=BmI d y o;subst e;show⟨a,rfl,?_⟩;dsimp only at k;rw[p]at k;rcases q with⟨g,W⟩|⟨g,W⟩
  .show .inl ⟨g,k c j _ l d W⟩
  .show .inr ⟨g,k c j _ l d W⟩
 cases x with
 |_=>show key w rfl⟩
abbrev oE(ms:MA):MI:=λρ a=>(ms ρ a).bind λp=>match p.1 with
 |[.int j]=>if -(2^62)<=j/\j<2^62 then a0 (jN 0 j.toNat,j.toNat+1,p.2)else a7|_=>a7
def b0Q(tr:∀l lo n,Ņ q X.prog X.w X.K tg (n8 lo n) [l] l λi h=>xx h l (lo+(i:Nat)*1) ((n:Int)-(i:Nat)) 1)(c:Gl X "range")(d:X.mg "range"=a7)(u:QA X [a] ms n):tV q X tg (.Call (.Name "range" p) [a] [] pos) (ψ X.K<|oE ms):=λDn s σ H R I hw=>by
 have w:=u.s;rw[Ŕ,í]at w;obtain⟨O,Q,M,K,T,N,A,E,b,k⟩:=hw;show aZ b ?_;clear b;intro x o G b;show b3f tr c d u.h (gN w.1) Dn s σ H R I ⟨O,Q,M,x,o,A,E,G,λr U y B z g=>?_⟩;dsimp only at b;split at b
 .rename_i j;split at b
  .rename_i v;cases b;cases g with
   |cons g L=>cases g;cases L;show⟨j,rfl,v.1,v.2,k r y _ B z ER⟩
  .cases b
 .cases b
def b0G(b:Gl X "range")(c:X.mg "range"=a7)(d:QA X [a] ms n):QJ X (.Call (.Name "range" p) [a] [] pos) (oE ms):=⟨λtg=>b0Q DH b c d⟩
abbrev lV(ms:MA):MI:=λρ a=>(ms ρ a).bind λp=>match p.1 with
 |[.int i,.int j]=>if -(2^62)<=i/\i<2^62/\-(2^62)<=j/\j<2^62 then a0 (jN i (j-i).toNat,(j-i).toNat+1,p.2)else a7|_=>a7
def b0F(g:Gl X "range")(h:X.mg "range"=a7)(r:QA X [a,b] ms n):QJ X (.Call (.Name "range" p) [a,b] [] pos) (lV ms):=⟨λtg Dn s σ H R I hw=>by
 have d:=r.s;rw[Ŕ,í,Ŕ,í]at d;obtain⟨O,Q,M,G,T,N,w,E,c,k⟩:=hw;show aZ c ?_;clear c;intro x o z c;show b3e g h r.h (by rw[gN d.1,gN d.2.1];rfl) (by rw[gN d.2.1];rfl) Dn s σ H R I ⟨O,Q,M,x,o,w,E,z,λq U u y v l=>?_⟩;dsimp only at c;split at c
 .rename_i i j;split at c
  .rename_i A;cases c;cases l with
   |cons l K=>
    cases l;cases K with
    |cons B L=>cases B;cases L;show⟨i,j,rfl,A,k q u _ y v ER⟩
  .cases c
 .cases c⟩
abbrev bO(a:MI)(g:MG)(b:MS):MS:=λρ c=>(a ρ c).bind λp=>dZ p.1 g b p.2.1 0 ρ p.2.2
abbrev lW(b:BD)(d:MI)(c:MT)(e:ME):ME:=λρ g=>(d ρ g).bind λp=>(jO p.1 b c e ρ p.2.2.length p.2.1 0<|p.2.2++[.lst []]).map λa=>(.loc p.2.2.length,a)
noncomputable abbrev eC(a:MI)(c:MT)(e:ME):ME:=lW rW a c e
abbrev gB(n:Nat)(a:BD):MG:=λd ρ b=>(a d b).map λx=>ρ.take n++x
def b0E(j:X.N.length=n+1)(h:PG X (.Name x i) (Ŷ X.K<|bS n)):PG X (.Name x i) (Ŷ X.K<|gB n rW):=by
 intro b s w H v u Q I r hw;obtain⟨p,a,o,d,q,R,E,hd,l,k⟩:=hw;cases l;show h b s w H v u Q I r ⟨p,a,o,d,_,R,E,hd,rfl,λc g=>k c ?_⟩;have m:a.length=n+1:=by rw[<- E.len,I.len,j]
 have e:a.set n (a0 d)=a.take n++[a0 d]:=by rw[List.set_eq_take_append_cons_drop,if_pos<|by lia,zy<|by lia]
 rw[e]at g;show g
def Fb:∀xs a b,b.length=xs.length->pV (a++b) (dw a.length xs.length) xs=a++xs.map a0
 |[],a,[],_=>by simp[pV]
 |x::xs,a,y::b,h=>by have c:=Fb xs (a++[a0 x]) b (by simpa using h);rw[Ļ,ON];change pV ((a++y::b).set a.length<|a0 x) (dw (a.length+1) xs.length) xs=_;rw[NL _ _<|Õ _,aa,ũ];rw[å,ϸ]at c;rw[ě,List.singleton_append]at c;rw[c];simp
def b1g(w:X.N.length=n+k)(h:PG X tg (Ŷ X.K<|c8<|dw n k)):PG X tg (Ŷ X.K<|gB n<|AS k):=by
 intro b s K H v u Q I r hw;obtain⟨B,a,A,d,G,R,E,hd,l,z⟩:=hw;show bY l ?_;clear l;intro y j p;show bU j ?_;clear j;intro o q c;split at c
 .rename_i m;cases c;subst p;have x:a.length=n+k:=by rw[<- E.len,I.len,w]
  show h b s K H v u Q I r ⟨B,a,A,d,pV a (dw n k) o,R,E,hd,(by simp only[c8,q,ğ,List.length_range',if_pos m]),λg i=>z g ?_⟩;have e:=Fb o (a.take n) (a.drop n) (by rw[ŧ];lia);rw[ž,Ń,aq<|by lia,m]at e;rw[e]at i;show i
 .cases c
def b1f(E:En K π n H σ (ρ++o))(b:o.length=k):En K π n H σ (ρ++UV k a7):=by
 show⟨by rw[E.len,å,å,ux,b],λi d q=>?_⟩;by_cases a:i<ρ.length
 .rw[Š a]at q;show E.get i d<|by rw[Š a];show q
 .rw[ż<|rn.mp a,zj]at q;split at q<;>cases q
inductive T1 (Y:Cx)(K:Ö)(tn:Nat->Č->Prop)(fp:List Addr)(π:Nat->Addr)(k:Nat)(H:Hp)(ρ:aF)(l:Nat)(F:Nat->Nat->Hm->Option Hm)(μ':Hm)(n:Nat)(s:Ï):Prop
 |mk (i:Nat){σ':St}{H':Hp}{π':Nat->Addr}{μi:Hm}{o:aF}(I:Inv Y [] σ' H' s)(st:tn i s.heap)(fr:∀b∈fp,H' b=a7)(e:û π k H π' μi.length H')(R:Rp K π' H' μi)(E:En K π' μi.length H' σ' (ρ++o))(hl:o.length=l)(g:F n i μi=a0 μ')
def Fc(O:ą X scope cl xs)(hq:∀Dn σ H s j,Inv X Dn σ H s->q (cZ X scope cl s.heap.objs.size (bH xs X.N++xs) s H j))(hi:tV q X tg iter (ψ X.K mi))(hb':∀d μ z,bd d μ=a0 z->z.length=xs.length)(hg:∀C s₀ H₀ j,PG (cZ X scope cl C (bH xs X.N++xs) s₀ H₀ j) tg (Ŷ X.K<|gB X.N.length bd))(hc:∀C s₀ H₀ j,pU (cZ X scope cl C (bH xs X.N++xs) s₀ H₀ j) ifs mc)(he:∀C s₀ H₀ j,PE (cZ X scope cl C (bH xs X.N++xs) s₀ H₀ j) elt (tM X.K me))(hs:∀x,vD iter X.env x=pure x){σ:St}(I:Inv X Dn σ H s)(R:Rp X.K π H μ)(E:En X.K π μ.length H σ ρ)(hm:lW bd mi mc me ρ μ=a0 (d,μ'))(fin:∀p C π' A(s':Ï),û π μ.length H π' μ'.length A->Rp X.K π' A μ'->Ý X.K π' μ'.length A (.ref p) d->(∃m,s'.heap.Ns C m)->X.s₀.heap.objs.size<=C->C≠X.env.locals->A C=a7->
   (∀y c,X.env.cells.lookup y=a0 c->c≠C)->(∀q∈X.pn++Dn,q.1≠C)->(∀h',(∀b o,b≠C->s'.heap.get? b=a0 o->h'.get? b=a0 o)->Inv X Dn σ A {s' with heap:=h'})->
   compPost (É X.prog X.w) X.A X.xe use QQ (.ref p) C (.ok .next) s'):
  Ç (É X.prog X.w) X.A (comprehension (.ListComp elt [⟨tg,iter,ifs,0⟩] scope pos) scope X.env ppos (newList []) a8 (eval iter X.env) use) QQ X.xe s:=by
 obtain⟨⟨src,nt,a⟩,h1,hm⟩:=œ.mp hm;show bY hm ?_;clear hm;intro μ2 h3 hm;cases hm;have hit:Ç (É X.prog X.w) X.A (eval iter X.env) (λv s1=>Ç (É X.prog X.w) X.A (ϙ v) (ϧ q X Dn σ tg λJ H1=>∃M,û π μ.length H M a.length H1/\Rp X.K M H1 a/\Wk X.K J src M a.length H1) X.xe s1) X.xe s:=
  hi Dn s σ H _ I ⟨π,ρ,μ,src,nt,a,R,E,h1,λM H1 J e1 R1 W=>⟨M,e1,R1,W⟩⟩
 show wpAny_comprehension_free rfl hs O.clos O.kind O.names<|Ķ hit (λv s1 hv=>Ķ hv (λitv w h4=>?_) λ_ _ z=>z) λ_ _ z=>z;obtain⟨it,j,tn,J,H2,rfl,I2,T,st2,f2,M,e1,R1,W⟩:=h4;show Η (wpAny_newFunctionEnv O.nocell (by intro y hy;simp at hy) (λN G K=>?_) O.kind);dsimp only at G K ⊢;have hfr:H2 w.heap.objs.size=none:=I2.hok.fresh<|Õ _;have Z:Inv X Dn σ (aK H2 w.heap.objs.size<|.lst []) {w with heap:=w.heap.push {cls:=.type "list",dict:=a7,data:=.seq ([]:gq).toArray}}:=
  I2.laid (t':=w.toks) (λb u e=>æ _ e) (Õ _) ⟨Ģ _,[],0,.nil,ē _ rfl⟩
 obtain⟨e2,R2,q2⟩:=R1.alloc (c:=.lst []) (o:=.lst []) hfr .nil;generalize hs3:({w with heap:=w.heap.push {cls:=.type "list",dict:=a7,data:=.seq ([]:gq).toArray}}:Ï)=s3 at Z;have B:w.heap.push {cls:=.type "list",dict:=a7,data:=.seq ([]:gq).toArray}=s3.heap:=by rw[<- hs3]
 have Ow:=e1.trans e2;generalize hH3:aK H2 w.heap.objs.size (.lst [])=H3 at Z e2 R2 Ow;generalize hπ3:jZ M a.length w.heap.objs.size=π3 at e2 R2 q2 Ow;have hob:∀b∈j,∃o,s3.heap.get? b=a0 o:=λb l=>by obtain⟨o,ho,_⟩:=T.obj 0 _ st2 b l;show⟨o,by rw[<- B];show æ _ ho⟩
 have f3:∀b∈j,iU X Dn H3 b:=λb l=>by obtain⟨o,ho,_⟩:=T.obj 0 _ st2 b l;show⟨?_,(f2 b l).2⟩;rw[<- hH3,aY<|õ<|ß ho];show(f2 b l).1
 have st3:tn 0 s3.heap:=T.keep 0 _ _ st2 λb l o e=>by rw[<- B];show æ _ e
 have hC:(w.heap.push {cls:=.type "list",dict:=a7,data:=.seq ([]:gq).toArray}).objs.size=s3.heap.objs.size:=by rw[B]
 rw[B]at G K;have hk1:∀b o,s3.heap.get? b=a0 o->N.get? b=a0 o:=λb o e=>K.extBut b o (õ<|ß e)<|æ _ e;have E3:En X.K π3 (a++[C.lst []]).length H3 (σ++UV xs.length a7) (ρ++UV xs.length a7):=by
  have E':=E.mono Ow;show⟨by rw[å,å,E'.len,ux,ux],λi d' q=>?_⟩;by_cases hi:i<ρ.length
  .rw[Š hi]at q;obtain⟨v,h5,h6⟩:=E'.get i d' q;show⟨v,by rw[Š<|by rw[E'.len];show hi];show h5,h6⟩
  .rw[ż<|rn.mp hi,zj]at q;split at q<;>cases q
 have hlen:ρ.length=X.N.length:=by rw[<- E.len];show I.len
 have stat:∀{A:Hp}{pl:jw},(∀b∈j,A b=a7)->pl=[]->∀b∈j,iU (cZ X scope cl s3.heap.objs.size (bH xs X.N++xs) s3 H3 j) pl A b:=λ{A pl} hn hpl b l=>by
  obtain⟨f0,f1,f2',f3',f4,f5⟩:=f3 b l;obtain⟨o,ho⟩:=hob b l;show⟨hn b l,õ<|ß ho,λz=>?_,.inl l,λy c h=>f4 y c<|O.sub y c h,λp hp=>?_⟩
  .rcases ċ.mp (Z.stkSub b z)with z|z
   .show f1 z
   .show f2' z
  .subst hpl;show absurd (show p∈([]:jw)from hp)<|by simp
 have loop:∀s4:Ï,(∃tk,s4={s3 with heap:=N,toks:=tk})->
   Ρ (É X.prog X.w) X.A (.compLoop (.ListComp elt [⟨tg,iter,ifs,0⟩] scope pos) 0 (.ref it) (.ref w.heap.objs.size)<|ϛ scope cl s3.heap.objs.size X.env)
    (compPost (É X.prog X.w) X.A X.xe use QQ (.ref w.heap.objs.size) s3.heap.objs.size) s4:=by
  rintro s4 ⟨tk,rfl⟩;have I4:=O.inv (tk:=tk) Z f3 hob G hk1;show dMT (T1 (cZ X scope cl s3.heap.objs.size (bH xs X.N++xs) s3 H3 j) X.K tn j π3 (a++[C.lst []]).length H3 ρ xs.length (jO src bd mc me ρ a.length) μ') ?_ nt
  <|.mk 0 I4 (T.keep 0 _ _ st3 λb l o e=>hk1 b o e) (λb l=>(f3 b l).1) .refl R2 E3 ux h3
  rintro n s5 hI5;cases hI5 with
  |@mk i σ5 H5 L Y o5 I5 st5 fr5 e5 R5 E5 l5 g5=>
  cases n with
  |zero=>cases g5|succ n=>
   show bU g5 ?_;clear g5;intro o h6 h7;cases o with
   |none=>
    cases h7;have stop:=W.stop L _ H5 i (e2.trans e5) R5 h6;show Ķ (T.done (cZ X scope cl s3.heap.objs.size (bH xs X.N++xs) s3 H3 j) rfl rfl rfl (hq Dn σ H3 s3 j Z) i [] s5 σ5 H5 (λ_ _=>False) I5 (stat fr5 rfl) st5 stop) (λr s6 U=>?_) λ_ _ z=>z;obtain⟨hr,I6⟩:=U;subst hr;obtain⟨m6,hn6,_⟩:=id I6.loc;have hp:L a.length=w.heap.objs.size:=by rw[e5.pi a.length<|by simp,q2]
    show fin w.heap.objs.size s3.heap.objs.size L H5 s6 (Ow.trans e5) R5 ?_ ⟨m6,hn6⟩ Z.sz (ć<|õ Z.lt) I6.free (λy c hc z=>?_) (λq hq z=>?_) λh' hh=>ą.back Z f3 I6 hh
    .rw[<- hp];show .loc<|ĩ (by simp) e5.le
    .obtain⟨v,o,ho,_⟩:=Z.cell y c hc;show õ (ß ho) z
    .show õ (ß (Z.pin q hq).1) z
   |some d=>
    show bU h7 ?_;clear h7;intro z hz h7;show aZ h7 ?_;clear h7;intro b μ6 h8 h9;obtain⟨g1,g2⟩:=W.go L Y H5 i d (e2.trans e5) R5 h6;show Ķ (T.item (cZ X scope cl s3.heap.objs.size (bH xs X.N++xs) s3 H3 j) rfl rfl rfl (hq Dn σ H3 s3 j Z) i [] s5 σ5 H5 (λ_ _=>False) I5 (stat fr5 rfl) st5 g1) (λr s6 U=>?_) λ_ _ z=>z;obtain⟨u,hr,h10⟩:=U;subst hr;show Ķ h10 (λ_ s7 U=>?_) λ_ _ z=>z;obtain⟨v,H7,I7,r7,y7,st7,fr7⟩:=U;obtain⟨e7,R7,hd⟩:=g2 v H7 y7;have I7':=I7.pinned (stat fr7 rfl)<|T.obj _ _ st7;have e5:=e5.trans e7;show Ķ (hg _ _ _ _ _ s7 σ5 H7 v u (λσ' A=>En X.K L Y.length H7 σ' (ρ++z)/\A=H7) I7' r7
     ⟨L,ρ++UV xs.length a7,Y,d,ρ++z,R7,b1f (E5.mono e7) l5,hd,(by
      change(bd d Y).map (λx=>(ρ++UV xs.length a7).take X.N.length++x)=_;rw[hz,<- hlen,OR];rfl),λσ' E'=>⟨E',rfl⟩⟩) (λ_ s8 U=>?_) λ_ _ z=>z
    obtain⟨σ8,H8,I8,E8,z2⟩:=U;subst z2;have again:∀{s9:Ï}{H9:Hp}{g:Nat->Addr}{μ9:Hm},Inv (cZ X scope cl s3.heap.objs.size (bH xs X.N++xs) s3 H3 j) ([]++tX j s7.heap) σ8 H9 s9->û π3 (a++[C.lst []]).length H3 g μ9.length H9->Rp X.K g H9 μ9->
      En X.K g μ9.length H9 σ8 (ρ++z)->jO src bd mc me ρ a.length n (i+1) μ9=a0 μ'->
      ∃m,m<n+1/\T1 (cZ X scope cl s3.heap.objs.size (bH xs X.N++xs) s3 H3 j) X.K tn j π3 (a++[C.lst []]).length H3 ρ xs.length (jO src bd mc me ρ a.length) μ' m s9:=λ{s9 H9 g μ9} I9 e9 R9 E9 g9=>by
     show⟨n,Ψ _,.mk (i+1) I9.unpinned (T.keep _ _ _ st7 λb l o e=>(I9.pin (b,o)<|Ω _<|Ω _<|wH l e).1) (λb l=>?_) e9 R9 E9 (hb' _ _ _ hz) g9⟩;obtain⟨o,e,_⟩:=T.obj _ _ st7 b l;show(I9.pin (b,o)<|Ω _<|Ω _<|wH l e).2.1
    show Ķ (hc _ _ _ _ _ s8 _ H8 (λb' A=>∃g,b'=b/\û L Y.length H8 g μ6.length A/\Rp X.K g A μ6) I8 ⟨L,_,Y,b,μ6,R7,E8,h8,λg H9 e9 R9=>⟨g,rfl,e9,R9⟩⟩) (λok s9 U=>?_) λ_ _ z=>z;obtain⟨H9,I9,g,l,e9,R9⟩:=U;subst l;cases ok with
    |false=>rw[if_neg Ī];show again I9 (e5.trans e9) R9 (E8.mono e9) h9|true=>
     rw[if_pos rfl];show aZ h9 ?_;clear h9;intro dy μ7 h11 PY;show bU PY ?_;clear PY;intro μ8 Q h14;show Ķ (he _ _ _ _ _ s9 _ H9 (λy A=>∃k,û g μ6.length H9 k μ7.length A/\Rp X.K k A μ7/\Ý X.K k μ7.length A y dy) I9 ⟨g,_,μ6,dy,μ7,R9,E8.mono e9,h11,λk y H10 QP R10 NV=>⟨k,QP,R10,NV⟩⟩)
      (λu' s10 U=>?_) λ_ _ z=>z
     obtain⟨y,H10,I10,ry,k,QP,R10,NV⟩:=U;unfold rV at Q;split at Q
     .rename_i zs hz;split at Q
      .rename_i hl;cases Q;obtain⟨vs,NW,PX⟩:=R10.lst _ zs hz;have eall:=(e5.trans e9).trans QP;have hp:k a.length=w.heap.objs.size:=by rw[eall.pi a.length<|by simp,q2]
       obtain⟨NX,R11⟩:=R10.put (a:=a.length) (c:=.lst (zs++[dy])) (o:=.lst (vs++[y])) (Ú.mp hz).1 NW (.inl ⟨vs,rfl⟩)<|PX.append<|.cons NV .nil;rw[hp]at NW NX R11;show Ķ (Ed (X:=cZ X scope cl s3.heap.objs.size (bH xs X.N++xs) s3 H3 j) _ s10 _ H10 (.ref w.heap.objs.size) [y] (.ref w.heap.objs.size) [u'] (λ_ A=>A=aK H10 w.heap.objs.size (.lst<|vs++[y])) I10 rfl (.cons ry .nil)
        ⟨w.heap.objs.size,vs,y,rfl,rfl,NW,by rw[PX.length];show hl,rfl⟩) (λ_ s11 U=>?_) λ_ _ z=>z
       obtain⟨_,H11,I11,_,z⟩:=U;subst z;show again I11 (eall.trans NX) R11 ((E8.mono<|e9.trans QP).mono NX) h14
      .cases Q
     .cases Q
 have l4:=loop {s3 with heap:=N,toks:=w.toks+([]:List (Str×Value)).length} ⟨_,rfl⟩;have hst4:tn 0 N:=T.keep 0 _ _ st3 λb l o e=>hk1 b o e;subst hs3;show codeAny_compStart_list l4<|T.self _ 0 _ _ _ hst4 l4
def b1d(O:ą X scope cl xs)(N:∀Dn σ H s a,Inv X Dn σ H s->q (cZ X scope cl s.heap.objs.size (bH xs X.N++xs) s H a))(G:tV q X tg iter (ψ X.K mi))(c:∀d r z,bd d r=a0 z->z.length=xs.length)(B:∀C s₀ H₀ a,PG (cZ X scope cl C (bH xs X.N++xs) s₀ H₀ a) tg (Ŷ X.K<|gB X.N.length bd))(hc:∀C s₀ H₀ a,pU (cZ X scope cl C (bH xs X.N++xs) s₀ H₀ a) ifs mc)(A:∀C s₀ H₀ a,PE (cZ X scope cl C (bH xs X.N++xs) s₀ H₀ a) elt (tM X.K me))(T:∀x,vD iter X.env x=pure x):PE X (.ListComp elt [⟨tg,iter,ifs,0⟩] scope pos) (tM X.K<|lW bd mi mc me):=by
 intro Dn s σ H Q I hw;obtain⟨π,ρ,r,d,μ',R,E,K,k⟩:=hw;rw[eval_ListComp];show Fc (use:=a7) O N G c B hc A T I R E K λp C i j s' v u Y h U M g l n back=>?_;obtain⟨m,L⟩:=h;show⟨m,L,λw Z=>⟨.ref p,j,back w λb o y e=>(Z.2 b y).trans e,rfl,k i _ j v u Y⟩⟩
def b1b(O:ą X scope cl xs)(a:X.calm=a9)(h:PI X tg iter (ψ X.K mi))(c:∀d j z,bd d j=a0 z->z.length=xs.length)(g:∀C s₀ H₀ b,PG (cZ X scope cl C (bH xs X.N++xs) s₀ H₀ b) tg (Ŷ X.K<|gB X.N.length bd))(hc:∀C s₀ H₀ b,pU (cZ X scope cl C (bH xs X.N++xs) s₀ H₀ b) ifs mc)(e:∀C s₀ H₀ b,PE (cZ X scope cl C (bH xs X.N++xs) s₀ H₀ b) elt (tM X.K me))(i:∀x,vD iter X.env x=pure x):PE X (.ListComp elt [⟨tg,iter,ifs,0⟩] scope pos) (tM X.K<|lW bd mi mc me):=b1d O (λ_ _ _ _ _ _=>a) h c g hc e i
def b1a(O:ą X scope cl xs)(hN:X.N.Nodup)(h:X.calm=a9)(hi:PI X tg iter (ψ X.K mi))(G:∀d Z z,bd d Z=a0 z->z.length=xs.length)(hg:∀C s₀ H₀ n,PG (cZ X scope cl C (bH xs X.N++xs) s₀ H₀ n) tg (Ŷ X.K<|gB X.N.length bd))(hc:∀C s₀ H₀ n,pU (cZ X scope cl C (bH xs X.N++xs) s₀ H₀ n) ifs mc)(he:∀C s₀ H₀ n,PE (cZ X scope cl C (bH xs X.N++xs) s₀ H₀ n) elt (tM X.K me))(hs:∀x,vD iter X.env x=pure x)(hy:X.N[i]?=a0 y)(Y:X.env.scope.names.lookup y=a0 .local)(L:dm (.ListComp elt [⟨tg,iter,ifs,0⟩] scope pos) (a0<|.Name y py) g.line X.env=pure a9):
  PS X (.Assign [.Name y py] (.ListComp elt [⟨tg,iter,ifs,0⟩] scope pos) g) (ŉ X.K<|aP i<|lW bd mi mc me):=by
 intro l s σ H EN I hw;obtain⟨π,ρ,Z,fl,ρ',μ',R,E,v,k⟩:=hw;show t7 v ?_;clear v;intro d μ1 h1 v;cases v;rw[exec_Assign_Name_used _ _ _ _ L];show Á<|MU ?_;show Á<|Á ?_;show Fc (use:=a0 (Iv (.Name y py) X.env)) (QQ:=λ_ u=>Ç (É X.prog X.w) X.A (pure ()) (λ_ N=>Ç (É X.prog X.w) X.A (pure Flow.next) (SP X l EN) X.xe N) X.xe u) O (λ_ _ _ _ _ _=>h) hi G hg hc he hs I R E h1 λp C T w u U R1 i1 K M q j c r back=>?_;obtain⟨m,hn⟩:=K;have I1:Inv X l σ w u:=back u.heap λb o _ e=>e;change Ç (É X.prog X.w) X.A (Iv (.Name y py) X.env<|.ref p) _ X.xe u;show Pt ?_;show Dz I1 hN hy (.inl Y) (show Ì (.ref p) (.ref p)from rfl) (λs2 I2 ⟨a,sb,B⟩=>?_)<|.inr Y;have A:C≠a:=by
  rcases B with rfl|B
  .show q
  .show ć<|c _ _ B
 show⟨m,hn.sameBut sb A,λh' Q=>Ð<|Ð ?_⟩;show⟨σ.set i<|a0<|.ref p,w,I2.turned (t':=s2.toks) (λb o hb e=>(Q.2 b hb).trans e) j q (.inr M) c r,?_⟩;show k T _ w U R1<|(E.mono U).set i1 i
abbrev b8:ME:=λ_ _=>a7
abbrev pX:MT:=λ_ _=>a7
abbrev c5:MS:=λ_ _=>a7
section
variable{X:Cx}{e a b c o:Expr}{m m1 m2 ma mb mc:ME}{pos:è}{mt mu:MT}{È es:List Expr}{ms:MA}{n:Nat}
def bR:QE X e b8:=⟨λDn s σ H Q I h=>by
 obtain⟨l,p,j,d,i,R,E,g,k⟩:=h;cases g⟩
def xC:QT X e pX:=⟨λDn s σ H Q I h=>by
 obtain⟨l,p,j,d,i,R,E,g,k⟩:=h;cases g⟩
def b1T:QW X e pX:=⟨λj Dn s σ H Q I h=>by
 obtain⟨p,q,l,d,i,R,E,g,k⟩:=h;cases g⟩
def eD:QS X st c5:=⟨λDn s σ H D I h=>by
 obtain⟨p,q,l,j,i,g,R,E,d,k⟩:=h;cases d⟩
def xD(l:∀d ρ j,g d ρ j=a7):QG X e g:=⟨λDn s σ H v u Q I r h=>by
 obtain⟨q,ρ,j,d,p,R,E,hd,i,k⟩:=h;rw[l]at i;cases i⟩
def pY(h1:QE X e m1)(l:QE X e m2)(h:∀ρ g r,m ρ g=a0 r->m1 ρ g=a0 r\/m2 ρ g=a0 r):QE X e m:=⟨λDn s σ H Q I q=>by
 obtain⟨j,ρ,g,d,i,R,E,p,k⟩:=q;rcases h ρ g _ p with z|z
 .show h1.h Dn s σ H Q I ⟨j,ρ,g,d,i,R,E,z,k⟩
 .show l.h Dn s σ H Q I ⟨j,ρ,g,d,i,R,E,z,k⟩⟩
def rZ{m m1 m2:MT}(h1:QT X e m1)(l:QT X e m2)(h:∀ρ g r,m ρ g=a0 r->m1 ρ g=a0 r\/m2 ρ g=a0 r):QT X e m:=⟨λDn s σ H Q I q=>by
 obtain⟨j,ρ,g,d,i,R,E,p,k⟩:=q;rcases h ρ g _ p with z|z
 .show h1.h Dn s σ H Q I ⟨j,ρ,g,d,i,R,E,z,k⟩
 .show l.h Dn s σ H Q I ⟨j,ρ,g,d,i,R,E,z,k⟩⟩
def jP{f j k:D->D->Hm->jk}(h:∀x y d r,f x y d=a0 r->j x y d=a0 r\/k x y d=a0 r) :
  ∀i d r,aC f ma mb i d=a0 r->aC j ma mb i d=a0 r\/aC k ma mb i d=a0 r:=by
 intro i d r g;show bU g ?_;clear g;intro p l g;show bU g ?_;clear g;intro q s g;rcases h _ _ _ _ g with z|z
 .show .inl<|œ.mpr ⟨p,l,œ.mpr ⟨q,s,z⟩⟩
 .show .inr<|œ.mpr ⟨p,l,œ.mpr ⟨q,s,z⟩⟩
def r6(h:∀ρ d r,m ρ d=a0 r->m1 ρ d=a0 r\/m2 ρ d=a0 r):∀ρ d r,aT m ρ d=a0 r->aT m1 ρ d=a0 r\/aT m2 ρ d=a0 r:=by
 intro ρ d r g;show bU g ?_;clear g;intro p i g;rcases h _ _ _ i with z|z
 .show .inl<|œ.mpr ⟨p,z,g⟩
 .show .inr<|œ.mpr ⟨p,z,g⟩
abbrev pZ:List D->Option (List Int)
 |[]=>a0 []|.int i::r=>(pZ r).map (i::·)|_=>a7
abbrev dR:D->Option (List Int)
 |.tup ds=>pZ ds|_=>a7
abbrev bB(kvs:jx)(k:List Int):Option D:=(kvs.find? λp=>decide<|p.1=k).map (·.2)
abbrev cI(kvs:jx)(k:List Int)(d:D):jx:=if(bB kvs k).isSome then kvs.map (λp=>if p.1=k then(p.1,d)else p)else kvs++[(k,d)]
abbrev aI:D->D->Hm->jk:=λx y g=>match x with
 |.loc a=>match g[a]? with
  |some (.dT kvs)=>(dR y).bind λk=>(bB kvs k).map λd=>(d,g)|some (.dF kvs)=>(dR y).bind λk=>(bB kvs k).map λd=>(d,g)|_=>jK x y g
 |_=>jK x y g
structure TabOk(X:Cx)(x:Str)(kvs:List (cN×D)):Prop where
 ex:∃(p:Addr)(vs:List (cN×V))(ws:List (cN×Value)),X.mg x=a0 (.ref p)/\(p==ř)=a8/\(∀h:Č,X.K.In h->h.DictOf (tS X.prog X.w) p ws)/\KV vs ws/\∀π n H,ϩ X.K π n H vs kvs
def Fd{σ:St}(I:Inv X Dn σ H s)(h:X.K.lookup p=a0 d):H p=none:=(I.bs p d<|I.mod.kin p d h).2
def Fe(R:Rp K π H i)(p:g<i.length):∃u,H (π g)=a0 u/\(∀vs,u≠.tup vs)/\∀j v,(∀l,v≠HO.ext l)->u≠.frz j v:=by
 cases q:i[g]? with
 |none=>show absurd (ϐ.mp q) ⋯|some k=>
  cases k with
  |lst d=>obtain⟨vs,h,_⟩:=R.lst g d q;show⟨_,h,(λ_ z=>nomatch z),λ_ _ _ z=>nomatch z⟩|dK d=>obtain⟨vs,h,_⟩:=R.dK g d q;show⟨_,h,(λ_ z=>nomatch z),λ_ _ _ z=>nomatch z⟩|st d=>obtain⟨vs,h,_⟩:=R.st g d q;show⟨_,h,(λ_ z=>nomatch z),λ_ _ _ z=>nomatch z⟩|dT d=>obtain⟨vs,h,_⟩:=R.dT g d q;show⟨_,h,(λ_ z=>nomatch z),λ_ _ _ z=>nomatch z⟩|dF d=>obtain⟨j,vs,h,_⟩:=R.dF g d q;show⟨_,h,(λ_ z=>nomatch z),λ_ _ n z=>n _<|by cases z;rfl⟩
section
variable{Dn:jw}{σ:St}{H:Hp}{s:Ï}{π:Nat->Addr}{μ:Hm}
def Ff(I:Inv X Dn σ H s)(R:Rp X.K π H μ)(k:g<μ.length)(h:î X.K H (π g) vs):False:=by
 obtain⟨u,d,i,j⟩:=Fe R k;rcases h with(h|⟨q,h⟩)|⟨q,p,n,l,_⟩
 .rw[d]at h;show i _<|ė h
 .rw[d]at h;show j _ (.tup vs) (λr z=>nomatch z)<|ė h
 .rw[Fd I l]at d;cases d
def Fg(I:Inv X Dn σ H s)(R:Rp X.K π H μ)(j:g<μ.length)(h:Ϻ X.K H (π g) vs):False:=by
 obtain⟨u,d,q,i⟩:=Fe R j;rcases h with⟨p,h⟩|⟨p,l,n,k,_⟩
 .rw[d]at h;show i _ (.lst vs) (λr z=>nomatch z)<|ė h
 .rw[Fd I k]at d;cases d
def Fh(I:Inv X Dn σ H s)(h:î X.K H p vs)(h':Ϻ X.K H p ws):False:=by obtain⟨g,_,t,_⟩:=I.tuple h;obtain⟨d,_,l,_⟩:=I.list h'.sq;show absurd rfl<|ph l.isList t
mutual
theorem A3(I:Inv X Dn σ H s)(R:Rp X.K π H μ){v:V}{d d':D}:Ý X.K π μ.length H v d->Ý X.K π μ.length H v d'->d=d'
 |.non,h'=>by cases h';rfl
 |.bl _,h'=>by cases h';rfl
 |.int _,h'=>by cases h';rfl
 |.str _,h'=>by cases h';rfl
 |.ty _,h'=>by cases h';rfl
 |.tup h t,h'=>by
  cases h' with
  |tup g i=>have:=I.tuple_inj h g;subst this;rw[A4 I R t i]|rol g i=>show(Fh I h g).elim|loc g=>show(Ff I R g h).elim
 |.rol h t,h'=>by
  cases h' with
  |tup g i=>show(Fh I g h).elim|rol g i=>have:=I.list_inj h.sq g.sq;subst this;rw[A4 I R t i]|loc g=>show(Fg I R g h).elim
 |.loc (a:=a1) ha,h'=>by
  generalize hz:V.ref (π a1)=z at h';cases h' with
  |tup g i=>cases hz;show(Ff I R ha g).elim|rol g i=>cases hz;show(Fg I R ha g).elim|loc g=>have:=R.inj _ _ ha g<|V.ref.inj hz;rw[this]|_=>cases hz
theorem A4(I:Inv X Dn σ H s)(R:Rp X.K π H μ){vs:gw}{ds d:List D}:Æ X.K π μ.length H vs ds->Æ X.K π μ.length H vs d->ds=d
 |.nil,h'=>by cases h';rfl
 |.cons h t,h'=>by
  cases h' with
  |cons g i=>rw[A3 I R h g,A4 I R t i]
end
end
abbrev lX(a:Hm)(x:D):List D->Option Bool
 |[]=>a0 a8|y::r=>(dG 8 a y x).bind λb=>(lX a x r).map λc=>b||c
abbrev oF(a:Bool):D->D->Hm->jk:=λx y c=>(bM c y).bind λys=>(lX c x ys).map λb=>(.bl<|if a then !b else b,c)
abbrev A5(K:Ö)(c:Bool):R2:=λx y H Q=>∃π a d e ys b,Rp K π H a/\Ý K π a.length H x d/\Ý K π a.length H y e/\bM a e=a0 ys/\lX a d ys=a0 b/\Q (.bl<|if c then !b else b) H
def xE{c:Bool}:dE K (oF c) (A5 K c):=by intro e H p x y d m n o Q R i j a k;show bU a ?_;clear a;intro l g a;show bY a ?_;clear a;intro b h a;cases a;show⟨e,_,x,y,l,b,R,i,j,g,h,k e _ H .refl R<|.bl _⟩
def xF{σ:St}{e:Hm}(I:Inv X Dn σ H s)(R:Rp X.K π H e)(Q:A.units+8<Ĉ)(rx:Ì x v)(Z:Ý X.K π e.length H x l):
  ∀{ys}{vs}{us}{b},Æ X.K π e.length H vs ys->Ä vs us->lX e l ys=a0 b->
   ∃g,(∀u∈us,uc A s u v (g u))/\us.any g=b:=by
 classical
 intro ys vs us b j k a
 have n:∀{ys:List D}{vs:gw}{us:gq}{b:Bool},Æ X.K π e.length H vs ys->Ä vs us->lX e l ys=a0 b->(∀u∈us,∃c,uc A s u v c/\∃w m,Ì w u/\Ý X.K π e.length H w m/\dG 8 e m l=a0 c):=by
  intro ys
  induction ys with
  |nil=>
   intro vs us b j k a u d
   cases j
   cases k
   cases d
  |cons y ys G=>
   intro vs us b j k a u d
   cases j with
   |cons h t=>
    cases k with
    |cons r rt=>
     show bU a ?_
     clear a
     intro c q a
     show bY a ?_
     clear a
     intro M B a
     rcases ċ.mp d with rfl|d
     .show⟨c,AI I R 8 Q r rx h Z q,_,_,r,h,q⟩
     .show G t rt B u d
 have o:=n j k a
 show⟨λu=>if h:u∈us then mF (o u h)else a8,λu d=>?_,?_⟩
 .simp only[dif_pos d]
  show(vo<|o u d).1
 .have key:∀u (h:u∈us) w m c,Ì w u->Ý X.K π e.length H w m->dG 8 e m l=a0 c->mF (o u h)=c:=by
   intro u h w m c K Y L
   obtain⟨_,w2,N,r2,U,O⟩:=vo<|o u h
   have:w2=w:=r2.inj K
   subst this
   have:=A3 I R U Y
   subst this
   rw[O]at L
   show ė L
  have p:∀{ys:List D}{vs:gw}{i:gq}{b:Bool},(∀u∈i,u∈us)->Æ X.K π e.length H vs ys->Ä vs i->lX e l ys=a0 b->i.any (λu=>if h:u∈us then mF (o u h)else a8)=b:=by
   intro ys
   induction ys with
   |nil=>
    intro vs i b E j k a
    cases j
    cases k
    cases a
    rfl
   |cons y ys G=>
    intro vs i b E j k a
    cases j with
    |cons h t=>
     cases k with
     |@cons _ u _ us2 r rt=>
      show bU a ?_
      clear a
      intro c q a
      show bY a ?_
      clear a
      intro M B a
      have fI:u∈us:=E u<|Ĭ ..
      rw[O6,G (λz T=>E z<|ı _ T) t rt B,dif_pos fI,key u fI _ _ c r h q]
      show a
  show p (λ_ h=>h) j k a
def xG(r:ç k A):A.units+9<Ĉ:=by have:=r.un;lia
def Fj(G:X.A.units+9<Ĉ):Ĕ X (ĺ .In) (A5 X.K a8):=by
 intro m s O H x y v u Q I l A h;obtain⟨N,M,B,E,L,b,R,k,z,n,j,q⟩:=h;obtain⟨p,K,rfl,c,hd⟩:=rX R z n;cases A;rcases c with c|c
 .obtain⟨a,r,i,o⟩:=I.list c;obtain⟨g,d,e⟩:=xF I R (A:=X.A.in1) (by rw[pS];lia) l k hd r j;show SeqAt.in_listAt g i.isList (λw hw=>d w<|by simpa using hw) ⟨.bl _,H,I,rfl,?_⟩;rw[show a.toArray.any g=a.any g by simp,e];show q
 .obtain⟨a,r,i,o⟩:=I.tuple c;obtain⟨g,d,e⟩:=xF I R (A:=X.A.in1) (by rw[pS];lia) l k hd r j;show SeqAt.in_tupleAt g i (λw hw=>d w<|by simpa using hw) ⟨.bl _,H,I,rfl,?_⟩;rw[show a.toArray.any g=a.any g by simp,e];show q
def Fm(G:X.A.units+9<Ĉ):Ĕ X (ĺ .NotIn) (A5 X.K a9):=by
 intro m s O H x y v u Q I l A h;obtain⟨N,M,B,E,L,b,R,k,z,n,j,q⟩:=h;obtain⟨p,K,rfl,c,hd⟩:=rX R z n;cases A;rcases c with c|c
 .obtain⟨a,r,i,o⟩:=I.list c;obtain⟨g,d,e⟩:=xF I R (A:=X.A.in1) (by rw[pS];lia) l k hd r j;show SeqAt.notIn_listAt g i.isList (λw hw=>d w<|by simpa using hw) ⟨.bl _,H,I,rfl,?_⟩;rw[show a.toArray.any g=a.any g by simp,e];show q
 .obtain⟨a,r,i,o⟩:=I.tuple c;obtain⟨g,d,e⟩:=xF I R (A:=X.A.in1) (by rw[pS];lia) l k hd r j;show SeqAt.notIn_tupleAt g i (λw hw=>d w<|by simpa using hw) ⟨.bl _,H,I,rfl,?_⟩;rw[show a.toArray.any g=a.any g by simp,e];show q
abbrev cA(b:Bool):D->D->Hm->jk
 |.str i,.str j,μ=>a0 (.bl<|if b then !(!(iz j i 0 j.length 1).isEmpty)else !(iz j i 0 j.length 1).isEmpty,μ)|x,.loc a,μ=>match μ[a]? with
  |some (.dT kvs)=>(dR x).map λk=>(.bl<|if b then !(bB kvs k).isSome else(bB kvs k).isSome,μ)|some (.dF kvs)=>(dR x).map λk=>(.bl<|if b then !(bB kvs k).isSome else(bB kvs k).isSome,μ)|_=>oF b x (.loc a) μ
 |x,y,μ=>oF b x y μ
abbrev A6:D->D->Hm->jk
 |.str i,.str j,μ=>a0 (.bl<|!(!(iz j i 0 j.length 1).isEmpty),μ)|_,_,_=>a7
def Fn:dE K A6 (λx y H Q=>∃i j,x=.str i/\y=.str j/\Q (.bl<|!(!(iz j i 0 j.length 1).isEmpty)) H):=by
 intro g H m x y d e h l Q R b c a k;unfold A6 at a;split at a
 .cases a;cases b;cases c;show⟨_,_,rfl,rfl,k g _ H .refl R<|.bl _⟩
 .cases a
abbrev l6(a:Bool):D->D->Hm->jk
 |x,.non,μ=>a0 (.bl<|match x with|.non=>!a|_=>a,μ)|_,_,_=>a7
def Fo:dE K (l6 a8) (λx y H Q=>y=.non/\Q (.bl<|decide<|x=.non) H):=by
 intro g H j x y d e h i Q R b c a k;unfold l6 at a;split at a
 .cases a;cases c;show⟨rfl,?_⟩;cases b<;>show k g _ H .refl R<|.bl _
 .cases a
def Fp:dE K (l6 a9) (λx y H Q=>y=.non/\Q (.bl<|!decide (x=.non)) H):=by
 intro g H j x y d e h i Q R b c a k;unfold l6 at a;split at a
 .cases a;cases c;show⟨rfl,?_⟩;cases b<;>show k g _ H .refl R<|.bl _
 .cases a
def b1N(c:QE X a ma)(d:QE X b mb):QE X (.Compare a [.Is] [b] pos) (aC (l6 a8) ma mb):=⟨gH DL Fo c.h d.h<|eB _⟩
def b1L(c:QE X a ma)(d:QE X b mb):QE X (.Compare a [.IsNot] [b] pos) (aC (l6 a9) ma mb):=⟨gH DM Fp c.h d.h<|eB _⟩
def b1K(c:QE X a ma)(d:QE X b mb):QT X (.Compare a [.Is] [b] pos) (aT<|aC (l6 a8) ma mb):=⟨gJ DL Fo c.h d.h<|eB _⟩
def b1J(c:QE X a ma)(d:QE X b mb):QT X (.Compare a [.IsNot] [b] pos) (aT<|aC (l6 a9) ma mb):=⟨gJ DM Fp c.h d.h<|eB _⟩
end
abbrev qA(d:Hm):D->Bool
 |.rol _=>a9|.loc a=>match d[a]? with|some (.lst _)=>a9|_=>a8
 |_=>a8
abbrev cK(f:D->List D->Hm->jk)(mo:ME)(ms:MA):ME:=λρ d=>(mo ρ d).bind λp=>match qA p.2 p.1 with
 |true=>(ms ρ p.2).bind λq=>f p.1 q.1 q.2|false=>a7
abbrev jQ(K:Ö)(f:D->List D->Hm->jk)(r:V->gw->Hp->VK->Prop):Prop:=
 ∀i H g x k d h v j Q,Rp K i H g->Ý K i g.length H v x->Æ K i g.length H j k->f x k g=a0 (d,h)->KC K Q i g.length H d h->r v j H Q
def Fq(R:Rp K π H d)(h:Ý K π d.length H v x)(e:qA d x=a9):wM K "list" v H:=by
 cases h with
 |rol h t=>show .inl ⟨rfl,_,h.sq⟩|@loc a l=>
  simp only[qA]at e;split at e
  .rename_i k i;obtain⟨j,g,_⟩:=R.lst a k i;show .inl ⟨rfl,j,.of g⟩
  .cases e
 |_=>cases e
def b1I(G:jQ K f r):∀σ H Q,tM K (cK f mo ms) σ H Q->Eb K "list" r (tM K mo) (ŷ K ms) σ H Q:=by
 rintro σ H Q ⟨T,y,O,d,j,R,E,g,k⟩;show aZ g ?_;clear g;intro x h A g;dsimp only at g;split at g
 .rename_i I;show aZ g ?_;clear g;intro w i B g;show⟨T,y,O,x,h,R,E,A,λl M U s q v=>⟨Fq q v I,l,y,h,w,i,q,E.mono s,B,λp N z u R2 L=>?_⟩⟩;show G p z i x w d j M N Q R2 (v.mono u) L g<|k.after<|s.trans u
 .cases g
def b1H(w:jQ K f r):∀σ H Q,tM K (cK f mo aD) σ H Q->Ea K "list" r (tM K mo) σ H Q:=by
 rintro σ H Q ⟨G,I,A,d,i,R,E,g,k⟩;show aZ g ?_;clear g;intro x h u g;dsimp only at g;split at g
 .rename_i y;show aZ g ?_;clear g;intro L B v g;cases v;show⟨G,I,A,x,h,R,E,u,λj z q s l p=>⟨Fq l p y,?_⟩⟩;show w j q h x [] d i z [] Q l p .nil g<|k.after s
 .cases g
abbrev eE:Expr->Bool
 |.Call (.Name _ _) [] [] _=>a8|_=>a9
def jR(h:eE o=a9):ω o i env d=d:=by
 cases o with
 |Call f g j p=>
  cases f with
  |Name id q=>
   cases g with
   |nil=>
    cases j with
    |nil=>cases h|cons _ _=>rfl
   |cons _ _=>rfl
  |_=>rfl
 |_=>rfl
def Fs(h:(e::es).all dW=a9)(i:(e::es).length<30):
  ((Ŋ cpos (ă (e::es) env)).all (λx=>!x.1)&&(jt cpos (ju [] env)).all (λx=>x.1.isSome)
   && decide ((e::es).length+([]:List Γ).length+(if([]:List Γ).isEmpty then 0 else 1)<30))=true:=by
 have d:(Ŋ cpos (ă (e::es) env)).all (λx=>!x.1)=true:=by have:=pW (pos:=cpos) (env:=env) h;rw[List.all_eq_not_any_not];simpa using this
 rw[d];have g:(e::es).length+([]:List Γ).length+(if([]:List Γ).isEmpty then 0 else 1)<30:=by change(e::es).length+0+0<30;lia
 rw[decide_eq_true g];rfl
def A7{id:String}(h:Slot "list" name id)(i:qx (.builtin id)=pure (.type "method_descriptor"))(p:kQ X id r)(k:jQ X.K f r)(s:QE X o mo)(j:QA X (e::es) ms n)(u:eE o=a9)(l:(apos.endLine==cpos.line)=a9)(q:(e::es).length<30):QE X (.Call (.Attribute o name apos) (e::es) [] cpos) (cK f mo ms):=by
 have g:=j.s;have d:=g;rw[Ŕ,í]at d;show⟨c4 (a8O SQ h i p s.h j.h (jR u) (Fs g q) l (gN d.1)<|pW d.2)<|b1I k⟩
def Ft{id:String}(d:Slot "list" name id)(g:qx (.builtin id)=pure (.type "method_descriptor"))(j:kQ X id r)(h:jQ X.K f r)(k:QE X o mo)(l:eE o=a9)(i:(apos.endLine==cpos.line)=a9):QE X (.Call (.Attribute o name apos) [] [] cpos) (cK f mo aD):=
 ⟨c4 (a8P SQ d g j k.h (jR l) i)<|b1H h⟩
abbrev dJ:D->List D->Hm->jk
 |.loc a,[y],μ=>(rV μ a y).map λd=>(.non,d)|_,_,_=>a7
abbrev oG:D->List D->Hm->jk
 |.loc a,[.loc b],μ=>match μ[a]?,μ[b]? with
  |some<|.lst xs,a0 (.lst ys)=>if xs.length+ys.length<=Ñ then a0 (.non,μ.set a<|.lst<|xs++ys)else a7|_,_=>a7
 |_,_,_=>a7
abbrev qB:D->List D->Hm->jk
 |.loc a,[],μ=>match μ[a]? with
  |some (.lst _)=>a0 (.non,μ.set a<|.lst [])|_=>a7
 |_,_,_=>a7
abbrev kT:D->List D->Hm->jk
 |.loc a,[],μ=>match μ[a]? with
  |some (.lst xs)=>(xs[xs.length-1]?).map λy=>(y,μ.set a<|.lst xs.dropLast)|_=>a7
 |_,_,_=>a7
def Fu(h:Æ K π n H vs ds):Æ K π n H vs.reverse ds.reverse:=by
 induction ds generalizing vs with
 |nil=>cases h;show .nil|cons d ds g=>
  cases h with
  |cons h t=>rw[N7,N7];show(g t).append<|.cons h .nil
def b1G(h:Æ K π n H vs ds):Æ K π n H vs.dropLast ds.dropLast:=by rw[Rt,Rt,h.length];show h.take _
def b1F:jQ K dJ Ec:=by
 intro I H N x M d E v L Q R A i g k;unfold dJ at g;split at g
 .rename_i a y;show bY g ?_;clear g;intro G h g;cases g;unfold rV at h;split at h
  .rename_i r q;split at h
   .rename_i w;cases h;obtain⟨j,l,p⟩:=R.lst a r q;cases A;cases i with
    |cons B z=>cases z;obtain⟨u,s⟩:=R.put (a:=a) (c:=.lst (r++[y])) (o:=.lst (j++[_])) (Ú.mp q).1 l (.inl ⟨j,rfl⟩)<|p.append<|.cons B .nil;show⟨_,j,_,rfl,rfl,l,by rw[p.length];show w,k I _ _ u s .non⟩
   .cases h
  .cases h
 .cases g
def b1E:jQ K oG Ee:=by
 intro M H T x O d L v N Q R G h g k;unfold oG at g;split at g
 .rename_i a b;split at g
  .rename_i u s q B;split at g
   .rename_i A;cases g;obtain⟨i,j,l⟩:=R.lst a u q;obtain⟨r,z,p⟩:=R.lst b s B;cases G;cases h with
    |cons I E=>cases E;cases I;obtain⟨y,w⟩:=R.put (a:=a) (c:=.lst (u++s)) (o:=.lst (i++r)) (Ú.mp q).1 j (.inl ⟨i,rfl⟩)<|l.append p;show⟨_,_,i,r,rfl,rfl,j,z,by rw[l.length,p.length];show A,k M _ _ y w .non⟩
   .cases g
  .cases g
 .cases g
def b1D:jQ K qB Eg:=by
 intro w H B x A d u v z Q R r h g k;unfold qB at g;split at g
 .rename_i a;split at g
  .rename_i s j;cases g;obtain⟨l,i,y⟩:=R.lst a s j;cases r;cases h;obtain⟨q,p⟩:=R.put (a:=a) (c:=.lst []) (o:=.lst []) (Ú.mp j).1 i (.inl ⟨l,rfl⟩) .nil;show⟨_,l,rfl,rfl,i,k w _ _ q p .non⟩
  .cases g
 .cases g
def b0z:jQ K kT Ef:=by
 intro G H M x L d E v I Q R B i g k;unfold kT at g;split at g
 .rename_i a;split at g
  .rename_i r q;show bY g ?_;clear g;intro y u g;cases g;obtain⟨j,p,h⟩:=R.lst a r q;cases B;cases i;obtain⟨w,z,A⟩:=h.get u;obtain⟨l,s⟩:=R.put (a:=a) (c:=.lst r.dropLast) (o:=.lst j.dropLast) (Ú.mp q).1 p (.inl ⟨j,rfl⟩)<|b1G h;show⟨_,j,w,rfl,rfl,p,by rw[h.length];show z,k G w _ l s<|A.mono l⟩
  .cases g
 .cases g
abbrev oH(d:Hm):D->Option Bool
 |.non=>a0 a8|.bl b=>a0 b|.int i=>a0 (i != 0)|.str z=>if z.length<=Ñ then a0 ((z.length:Int) != 0)else a7|.tup xs=>a0 (!xs.isEmpty)|.rol xs=>a0 (!xs.isEmpty)|.loc a=>match d[a]? with|some (.lst xs)=>a0 (!xs.isEmpty)|some (.dK kvs)=>a0 (!kvs.isEmpty)|_=>a7
 |.ty _=>a7
def xH{d g:Type}{xs:List d}{ys:List g}(h:xs.length=ys.length):xs.isEmpty=ys.isEmpty:=by cases xs<;>cases ys<;>first|rfl|cases h
def b0x(R:Rp K π H p)(h:Ý K π p.length H v x)(e:oH p x=a0 b):An K v H b:=by
 cases h with
 |non=>cases e;rfl|bl c=>cases e;rfl|int i=>cases e;rfl|str z=>
  simp only[oH]at e;split at e
  .rename_i q;cases e;show⟨q,rfl⟩
  .cases e
 |tup h t=>cases e;show .inr (.inl ⟨_,h,by rw[xH t.length]⟩)|rol h t=>cases e;show .inl ⟨_,h.sq,by rw[xH t.length]⟩|@loc a s=>
  simp only[oH]at e;split at e
  .rename_i r j;cases e;obtain⟨l,d,g⟩:=R.lst a r j;show .inl ⟨l,.of d,by rw[xH g.length]⟩
  .rename_i k j;cases e;obtain⟨l,d,g,_⟩:=R.dK a k j;show .inr<|.inr ⟨l,d,?_⟩;have:=congrArg ĭ g;rw[Å,Å]at this;rw[xH this]
  .cases e
 |ty n=>cases e
abbrev dS(m:ME):MT:=λρ d=>(m ρ d).bind λp=>(oH p.2 p.1).map λb=>(b,p.2)
def b0s(h:QE X e m)(r:AX e=a9):QT X e (dS m):=⟨wU (a6x h.h<|b3K r)<|by
 rintro G H Q ⟨y,z,u,b,v,R,E,d,k⟩;show aZ d ?_;clear d;intro x w p d;show bY d ?_;clear d;intro A q d;cases d;show⟨y,z,u,x,_,R,E,p,λg B j l i s=>⟨_,b0x i s q,k g j l i⟩⟩⟩
def b0r(F:ļ X.prog X.w X.K X.mg X.base iI k f j ps (kR X.K 0 l))(v:ç k X.A)(g:X.mg x=a0 (.ref f))(u:Ϟ X.K (.ref f)=a9)(r:Ħ X.K j ps [])(s:Gl X x)(h:(x==("__debug__":Str))=a8):QE X (.Call (.Name x p) [] [] pos) (aG l aD):=
 ⟨c4 (a6P F v s g u r .nil (E:=E0) Ej h)<|by
  rintro G H Q ⟨z,B,w,d,i,R,E,g,k⟩;show aZ g ?_;clear g;intro A y q g;cases q;show⟨rfl,z,[],w,d,i,R,.nil,g,k⟩⟩
abbrev qC(c:MT)(b:MS):Nat->MS
 |0,_,_=>a7|n+1,ρ,μ=>(c ρ μ).bind λp=>match p.1 with
  |false=>a0 (.nx,ρ,p.2)|true=>(b ρ p.2).bind λq=>match q.1 with
   |.nx=>qC c b n q.2.1 q.2.2|.ct=>qC c b n q.2.1 q.2.2|.bk=>a0 (.nx,q.2.1,q.2.2)|.rt d=>a0 (.rt d,q.2.1,q.2.2)
abbrev mY(n:Nat)(c:MT)(b:MS):MS:=qC c b n
def b0p{mt:MT}n(hc:QT X c mt)(hb:QB X body mb)(hp:xq (É X.prog X.w) X.A X.env X.xe):QS X (.While c body [] pos) (mY n mt mb):=⟨lR (b1y hp hc.h hb.h)<|by
 rintro E σ H ⟨Z,ρ,Y,T,B,z,R,EN,hm,k⟩;have q:∀{h:Nat->Addr}{n2:Nat}{H2:Hp}(e:û Z Y.length H h n2 H2),pR X.K E h n2 H2 T B z:=λ{h n2 H2} e=>by
  cases T with
  |nx=>show λi s y j x K=>k i s y (e.trans j) x K|bk=>show λi s y j x K=>k i s y (e.trans j) x K|ct=>show λi s y j x K=>k i s y (e.trans j) x K|rt d=>show KC.after k e
 show⟨λm v w=>∃h l r,û Z Y.length H h l.length w/\Rp X.K h w l/\En X.K h l.length w v r/\qC mt mb m r l=a0 (T,B,z),⟨n,Z,Y,ρ,.refl,R,EN,hm⟩,?_⟩;rintro m σ1 H1 ⟨h,l,r,N,R2,E2,h2⟩;cases m with
 |zero=>cases h2|succ m=>
  show aZ h2 ?_;clear h2;intro b Q h3 h4;show⟨h,r,l,b,Q,R2,E2,h3,λi y j x=>?_⟩;cases b with
  |false=>show oA ?_;cases h4;show q N i σ1 y j x (E2.mono j)|true=>
   show oB ?_;obtain⟨⟨f4,G,A⟩,h5,U⟩:=œ.mp h4;show⟨λv w=>∃g u p,û Z Y.length H g p.length w/\Rp X.K g w p/\En X.K g p.length w v u/\qC mt mb m u p=a0 (T,B,z),
    λv w ⟨g,u,p,a1,a2,a3,a4⟩=>⟨m,Ψ _,g,p,u,a1,a2,a3,a4⟩,i,r,Q,f4,G,A,x,E2.mono j,h5,?_⟩
   cases f4 with
   |nx=>show λg I H5 O M L=>⟨g,G,A,(N.trans j).trans O,M,L,U⟩|ct=>show λg I H5 O M L=>⟨g,G,A,(N.trans j).trans O,M,L,U⟩|bk=>cases U;show λg I H5 O M L=>q (N.trans j) g I H5 O M L|rt d'=>
    cases U;show q<|N.trans j⟩
def b1j:QS X (.Return a7 pos) (aR<|mC .non):=⟨lR a8w<|by
 rintro E r H ⟨h,q,p,l,i,g,R,j,d,k⟩;cases d;show k h .non H .refl R .non⟩
abbrev r8:List D->Option (List Bool)
 |[]=>a0 []|.bl b::r=>(r8 r).map (b::·)|_=>a7
abbrev xI:MF:=λds a=>match ds with
 |[x]=>(bM a x).bind λb=>(r8 b).map λbs=>(.bl<|bs.all id,a)|_=>a7
def Fv:∀{xs}{vs}{bs},Æ K π n H vs xs->r8 xs=a0 bs->vs=bs.map V.bl
 |[],_,bs,h,e=>by cases h;cases e;rfl
 |x::xs,vs,bs,h,e=>by
  cases h with
  |cons h t=>
   cases x with
   |bl b=>show bY e ?_;clear e;intro a c d;subst d;cases h;rw[Fv t c];rfl|_=>cases e
abbrev Fw(K:Ö)(g:List Bool->Bool):gw->Hp->VK->Prop:=λxs H Q=>∃p bs,xs=[.ref p]/\(č K H p (bs.map V.bl)\/î K H p (bs.map V.bl))/\Q (.bl<|g bs) H
def b1i{f:MF}(h:f=λds b=>match ds with|[x]=>(bM b x).bind λxs=>(r8 xs).map λbs=>(.bl<|g bs,b)|_=>a7):fF K f (Fw K g):=by
 subst h;intro l H b xs d j m Q R i a k;dsimp only at a;split at a
 .obtain⟨o,c,a⟩:=œ.mp a;show bY a ?_;clear a;intro bs e a;cases a;cases i with
  |cons i t=>cases t;obtain⟨p,n,rfl,q,hd⟩:=rX R i c;have:=Fv hd e;subst this;show⟨p,bs,rfl,q,k l _ H .refl R<|.bl _⟩
 .cases a
def Fx{bs:List Bool}(a:n=bs.length):(ġ n).all (λi=>bs.getD i a8)=bs.all id:=by
 subst a;induction bs with
 |nil=>rfl|cons b bs c=>rw[Ļ,Rz,Ŕ,OG,Ŕ,<- c];rfl
def Fy{bs:List Bool}(r:Ä (bs.map V.bl) its):TruthOf prog w A (λi v=>its.toArray[i]?=a0 v) (λi=>bs.getD i a8):=by
 intro i v s Q E h b;have a:its[i]?=a0 v:=by simpa using h
 have d:i<bs.length:=by have:=(Ú.mp a).1;have:=r.length;rw[Å]at this;lia
 obtain⟨u,c,g⟩:=r.get (i:=i) (x:=.bl bs[i]) (by rw[ú,ó d];rfl);rw[a]at c;cases c;cases g;have e:bs.getD i a8=bs[i]:=by simp[ę,d]
 dsimp only at b;rw[e]at b;show ak b
def b1h(hc:X.calm=a9):ì X (.builtin "all") (Fw X.K (·.all id)):=by
 intro x s G H E B Q I r h;obtain⟨p,bs,rfl,j,q⟩:=h;obtain⟨u,rfl,A⟩:=iV r;cases A;have w:X.A.in1.handled=none:=I.ok.hd hc;rcases j with j|j
 .obtain⟨a,k,g,z⟩:=I.list j;show call_all_walk<|zc g.isList ?_;have d:p≠s.heap.objs.size:=by obtain⟨o,m,_⟩:=g.isList;show õ<|ß m
  show⟨s.heap.objs.size,_,_,_,_,_,λi=>bs.getD i a8,rfl,Ph w _ p d a.toArray,⟨⟨_,ē _ rfl,rfl,rfl⟩,g.isList.push _⟩,Fy k,λy v n=>?_⟩;have c:a.toArray.size=bs.length:=by rw[ñ,<- k.length,Å]
  show⟨.bl _,H,I.kept (t':=v) λb o e=>n b o ?_<|æ _ e,rfl,?_⟩
  .intro l;have:b=s.heap.objs.size:=by simpa using l
   show õ (ß e) this
  .rw[Fx c];show q
 .obtain⟨a,k,g,z⟩:=I.tuple j;show call_all_walk<|My (show s.heap.IsTuple p a.toArray from g) ?_;have d:p≠s.heap.objs.size:=by obtain⟨o,m,_⟩:=g;show õ<|ß m
  show⟨s.heap.objs.size,_,_,_,_,_,λi=>bs.getD i a8,rfl,Pq w _ p d a.toArray,⟨⟨_,ē _ rfl,rfl,rfl⟩,Se g _⟩,Fy k,λy v n=>?_⟩;have c:a.toArray.size=bs.length:=by rw[ñ,<- k.length,Å]
  show⟨.bl _,H,I.kept (t':=v) λb o e=>n b o ?_<|æ _ e,rfl,?_⟩
  .intro l;have:b=s.heap.objs.size:=by simpa using l
   show õ (ß e) this
  .rw[Fx c];show q
open PyProof.Rows (IntsAre)
open PySem.W (KasT kas_asc kas_desc kas_tail3 kas_descPart kas_count kas_place kas_bin kas_sort kas_rev kas_ask)
abbrev cR(lt:Nat->Nat->Bool)(n:Nat):List Nat:=(ġ n).mergeSort λi j=>!(lt j i)
def A8 lt(_:0<n):(cR lt n).Perm (ġ n):=Ov _ _
def Fz:∀{us vs:gq}{ns ms}i,ŭ us ns->ŭ vs ms->Q (HT.lexLt ns ms) s->
  PySem.W.KatLex prog w A a9 (decide<|us.length<vs.length) Q (us.zip vs) i s
 |_,_,_,_,i,.nil,.nil,h=>by show h
 |_,_,_,_,i,.nil,.cons c u hv,h=>by change Q (decide<|0<_+1) s;rw[decide_eq_true<|sr _];show h
 |_,_,_,_,i,.cons a t hu,.nil,h=>by change Q (decide<|_+1<0) s;rw[decide_eq_false<|Mf _];show h
 |_,_,_,_,i,.cons (vs:=us) (ns:=ns) a t hu,.cons (vs:=vs) (ns:=ms) c u hv,h=>by
  rw[HT.lexLt_cons]at h;show PySem.W.kat_cons<|RZ a t c u prog w _ _ ?_;by_cases e:a=c
  .subst e;rw[if_pos rfl]at h;rw[beq_self_eq_true];show PySem.W.kat_yes ?_;have:=Fz (prog:=prog) (w:=w) (A:=A) (s:=s) (Q:=Q) (i+1) hu hv h;have d:decide ((Ġ a t::us).length<(Ġ a u::vs).length)=decide (us.length<vs.length):=by simp
   rw[d];show this
  .rw[if_neg e]at h;have b:(a==c)=false:=by simpa using e
   rw[b];show PySem.W.kat_no ?_;cases g:(a9&&i==0)with
   |true=>show b3R h|false=>show PySem.W.kat_one _ _<|SW h
section
open PyProof.Rows
def FA{us:gq}(h:us.length<2)(g:s.heap.get? c=a0 (ý "list" us.toArray z))(q:R (.done<|.ret .none) {s with heap:=JF s.heap c us us.toArray}):
  Ç (É prog w) A (Builtin.«list.sort» ⟨[.ref c],[]⟩) R E s:=by
 rw[Q1];have lt:c<s.heap.objs.size:=ß g;show Á<|O1 g rfl<|Á<|su g rfl ?_;obtain⟨y,d⟩:∃y,(s.heap.update c<|a3n λ_=>#[]).get? c=a0 (ý "list" #[] y):=⟨_,O3 g _⟩;show Á<|tu d rfl<|Á<|Mj<|Á<|t6<|ō ?_;have e:(((s.heap.update c<|a3n λ_=>#[]).push<|ý "tuple" us.toArray 0).push<|ý "list" #[] 0).get? c=a0 (ý "list" #[] y):=
  æ _<|æ _ d
 change Ç (É prog w) A _ R E ⟨((s.heap.update c<|a3n λ_=>#[]).push<|ý "tuple" us.toArray 0).push<|ý "list" #[] 0,s.gens,s.drawn,s.toks,s.os⟩;dsimp only;have a:us.toArray.size<2:=by simpa using h
 rw[if_pos a,if_pos a];show Á<|Ð ?_;rw[StateT.run_pure];show Á<|Ð ?_;dsimp only;have b:Pe (λx=>x.2) (cj<|Ě general' (us.toArray.zip us.toArray) #[] 7 a7)=us.toArray:=by change Pe (λx=>x.2) (us.toArray.zip us.toArray)=us.toArray;show Array.ext (by simp) λi j k=>by simp
 show Á (tu e rfl<|Á<|su e rfl ?_ (hsz2:=by rw[b,Ā];lia));rw[b];simp only[bne_self_eq_false,ĸ,if_false];show Ð q
end
def FC lt:cR lt 1=[0]:=List.mergeSort_singleton ..
def A9 lt:cR lt 0=[]:=List.mergeSort_nil
def gP lt n:(cR lt n).Perm (ġ n):=by
 cases n with
 |zero=>rw[A9];show .nil|succ n=>show A8 lt<|sr n
def FD(h:Ä (ns.map V.int) us):ŭ us ns:=wL h
end L3
namespace L3
open PySem L2 PySem.W PyProof.Rows
abbrev xJ:Bool->Keyed->Array Keyed->Nat->Nat->Nat->StateT Ĩ ĵ (Option Nat):=sortPriv% PySem.Builtin.gallop
def FE{f:Nat->a->StateT σ ĵ (ForInStep a)}{st:σ}{Q:a->σ->Ï->Prop}(d:Nat->a->Prop)(j:a->Prop)n(step:∀i x b,i<n->d i b->ò M A E (f x b) (λr g u=>g=st/\u=s/\match r with|.done c=>j c|.yield c=>d (i+1) c) st s)(fin:∀b,d n b->j b)(k:∀b,j b->Q b st s):
  ∀(l:List Nat)i b,i+l.length=n->d i b->ò M A E (forIn l b f) Q st s
 |[],i,b,h,hI=>kasC_nil (k b<|fin b<|by simp at h;subst h;show hI)|x::l,i,b,h,hI=>by
  rw[Ļ]at h;show kasC_cons (Ķ (step i x b ⋯ hI) (λr u q=>?_) λ_ _ e=>e);obtain⟨r,g⟩:=r;obtain⟨m,o,p⟩:=q;dsimp only at m o;subst m o;cases r with
  |done c=>show k c p|yield c=>show FE d j n step fin k l (i+1) c ⋯ p
def kU{st:σ}{Q:β->σ->Ï->Prop}{f:σ->StateT σ ĵ β}(h:ò M A E (f st) Q st s):ò M A E (get >>= f) Q st s:=ħ<|kasC_get h
def mZ{st:σ}{Q:β->σ->Ï->Prop}{g:σ->σ}{f:PUnit->StateT σ ĵ β}(h:ò M A E (f ⟨⟩) Q (g st) s):ò M A E (modify g >>= f) Q st s:=ħ<|Np h
def r9{st:σ}{Q:β->σ->Ï->Prop}{f:Unit->StateT σ ĵ β}(h:ò M A E (f ()) Q st s):ò M A E ((liftM (rule a):StateT σ ĵ Unit) >>= f) Q st s:=ħ<|kasC_lift<|dj h
def uD{st:σ}{Q:β->σ->Ï->Prop}{c:d}{f:Nat->d->StateT σ ĵ (ForInStep d)}{g:d->StateT σ ĵ β}(h:ò M A E (forIn (dw a<|b-a) c f) (λc e i=>ò M A E (g c) Q e i) st s):ò M A E (forIn [a:b] c f >>= g) Q st s:=ħ<|kasC_range h
def oI{st:σ}{Q:β->σ->Ï->Prop}{c:d}{f:Nat->d->StateT σ ĵ (ForInStep d)}{g:d->StateT σ ĵ β}(e:Nat->d->Prop)(h:d->Prop)n(step:∀i x b,i<n->e i b->ò M A E (f x b) (λr j o=>j=st/\o=s/\match r with|.done c=>h c|.yield c=>e (i+1) c) st s)(fin:∀b,e n b->h b)(k:∀b,h b->ò M A E (g b) Q st s)(m:0+(dw a<|b-a).length=n)(l:e 0 c):ò M A E (forIn [a:b] c f >>= g) Q st s:=uD<|FE e h n step fin k _ 0 _ m l
abbrev gQ(prog:ł)(w:Į)(A:Ł)(κ:ϋ)(s:Ï)(X:Keyed->Prop)(an:Keyed->Keyed->Bool):Prop:=
 ∀(x y:Keyed)(C:Bool->Ï->Prop),X x->X y->C (an x y) s->Ç (É prog w) A (L8 κ x.1 y.1) C (λ_ _=>False) s
def xK{st:Ĩ}(hC:gQ prog w A κ s X an)(c:kindOf st=κ)(d:X x)(e:X y)(q:Q (a0<|an x y) st s):ò (É prog w) A E (lt' x y) Q st s:=by rw[lt'_eq];show kU ?_;rw[c];show ħ<|kasC_lift<|MR<|Ķ (hC x y (λb a=>b=an x y/\a=s) d e ⟨rfl,rfl⟩) (λb a z=>by obtain⟨rfl,rfl⟩:=z;show á q) λ_ _ f=>f.elim
def a9I{st:Ĩ}(h:Q ⟨⟩ x s):ò (É prog w) A E (set x:StateT Ĩ ĵ PUnit) Q st s:=by unfold ò;rw[StateT.run_set];show Ð h
def Ba{st:Ĩ}(h:a[i]?=a0 x)(q:Q x st s):ò (É prog w) A E (elem' a i) Q st s:=by rw[elem'_eq,h];show á q
abbrev FF:Array Keyed->Array Keyed->StateT Ĩ ĵ (Array Keyed):=sortPriv% PySem.Builtin.mergeLo
abbrev FG:Array Keyed->Array Keyed->StateT Ĩ ĵ (Array Keyed):=sortPriv% PySem.Builtin.mergeHi
def FH:∀l(b:Array Keyed)o k,o+k+l.length<=b.size->((l.zipIdx k).foldl (λa x=>a.setIfInBounds (o+x.2) x.1) b).toList=b.toList.take (o+k)++l++b.toList.drop (o+k+l.length)
 |[],b,o,k,h=>by simp
 |x::l,b,o,k,h=>by
  rw[List.zipIdx_cons,az,FH l _ o (k+1)<|by rw[Array.size_setIfInBounds];rw[Ļ]at h;lia];rw[Ļ]at h;have c:o+k<b.toList.length:=by simp;lia
  rw[SS,Ļ];dsimp only;rw[show o+(k+1)=o+k+1 by lia,N8,τ c,List.take_set_of_le<|Õ _,List.drop_set_of_lt<|by lia];simp[show o+k+1+l.length=o+k+(l.length+1) by lia]
def a9B{st:Ĩ}(hC:gQ prog w A κ s X an)(c:b3T st=κ)(a:(cj st)[i]?=a0 x)(b:(cj st)[j]?=a0 y)(d:X x)(e:X y)(q:Q (a0<|an x y) st s):ò (É prog w) A E (ltAt' i j) Q st s:=by rw[ltAt'_eq];show kU ?_;show ħ<|Ba a<|ħ<|Ba b<|xK hC c d e q
def FI(us:gq):(us.toArray.zip us.toArray).toList=us.map λu=>(u,u):=by
 simp only[Array.toList_zip];induction us with
 |nil=>rfl|cons u us a=>simpa using a
structure Near(us:gq)(n K:Nat)(an:Value->Value->Bool):Prop where
 len:us.length=n+1
 le:K<=n
 asc:∀(i:Nat)(x z:Value),i+1<n->us[i+1]?=a0 x->us[i]?=a0 z->an x z=a8
 ris:∀x z,us[0]?=a0 x->us[n-1]?=a0 z->an x z=a9
 at_:∀(i:Nat)(x z:Value),i<n->us[i]?=a0 x->us[n]?=a0 z->an z x=decide (K<=i)
abbrev xM(prog:ł)(w:Į)(A:Ł)(us:gq)(an:Value->Value->Bool)(s:Ï):Prop:=
 Ç (É prog w) A (keyKind' us.toArray) (λb a=>a=s/\∀(x y:Value)(C:Bool->Ï->Prop),x∈us->y∈us->C (an x y) s->Ç (É prog w) A (L8 b x y) C (λ_ _=>False) s) (λ_ _=>False) s
def a8q{σ:L2.St}(I:L2.Inv X Dn σ H s){t:List Int}(h:î X.K H a (t.map V.int))(h':î X.K H a (t'.map V.int)):t=t':=
 (RN λx y h=>by cases h;rfl).mp<|I.tuple_inj h h'
open Classical in
abbrev tv(K:Ö)(H:Hp):Value->List Int
 |.ref a=>if h:∃t:List Int,î K H a (t.map V.int)then h.choose else[]|_=>[]
end L3
namespace L3
open PySem PySem.Spec
namespace Tb
noncomputable abbrev IsT(prog:ł)(w:Į)(h:Č)(k:List Int)(b:Addr):Prop:=IsTupleKey (Ϛ prog w) h k b
noncomputable abbrev iK(a:Bool):Obj:={cls:=.type "set",dict:=a7,data:=.set #[] 0<|.fresh 0 0 a}
end Tb
end L3
namespace L3
open PySem L2
open PyProof.Rows (IntsAre)
def xN:∀{ds}{k},pZ ds=a0 k->ds=k.map D.int
 |[],k,h=>by cases h;rfl
 |d::ds,k,h=>by
  cases d with
  |int i=>show bY h ?_;clear h;intro c a b;subst b;rw[xN a];rfl|_=>cases h
def a8J(h:dR x=a0 k):x=.tup (k.map D.int):=by
 cases x with
 |tup ds=>rw[xN h]|_=>cases h
abbrev fP(b:Hm):D->Option (List D)
 |.rol xs=>a0 xs|.loc a=>match b[a]? with
  |some (.lst xs)=>a0 xs|_=>a7
 |_=>a7
def sC(R:Rp K π H μ)(h:Ý K π μ.length H v x)(e:fP μ x=a0 xs):∃p vs,v=.ref p/\č K H p vs/\Æ K π μ.length H vs xs:=by
 cases h with
 |rol q t=>cases e;show⟨_,_,rfl,q.sq,t⟩|@loc a g=>
  simp only[fP]at e;split at e
  .rename_i i d;cases e;obtain⟨vs,b,c⟩:=R.lst a xs d;show⟨_,vs,rfl,.of b,c⟩
  .cases e
 |_=>cases e
def ĥ:∀{vs}{k:List Int},Æ K π n H vs (k.map D.int)->vs=k.map V.int
 |_,[],h=>by cases h;rfl
 |_,i::k,h=>by
  cases h with
  |cons h t=>cases h;rw[ĥ t];rfl
def uE:∀(k:List Int),Æ K π n H (k.map V.int) (k.map D.int)
 |[]=>.nil|i::k=>.cons (.int i)<|uE k
def FJ{X:Cx}:∀{k}{xs},Ä (k.map V.int) xs->ItemsAre (Ϛ X.prog X.w) k xs
 |[],_,h=>by cases h;show .nil
 |i::k,_,h=>by
  cases h with
  |cons h t=>obtain⟨a,rfl⟩:=h;show .cons (intKind_is _ _ _ _)<|FJ t
def l7{σ:St}(I:Inv X Dn σ H s)(h:î X.K H b (k.map V.int)):Tb.IsT X.prog X.w s.heap k b:=by obtain⟨i,g,⟨a,e,c,n,d⟩,_⟩:=I.tuple h;show⟨a,i.toArray,n,e,c,d,by simpa using FJ g⟩
def ζ:ì X (.builtin "len") (λxs H Q=>∃a L,xs=[V.ref a]/\H a=a0 (wQ a L)/\Q (.int L.length) H):=by
 intro Dn s σ H xs z Q I r h;obtain⟨a,L,rfl,e,q⟩:=h;obtain⟨u,rfl,x⟩:=iV r;cases x;obtain⟨⟨o,n,w,d,y,t,R,c,hd,g,ok,p,m,k,i,v,j⟩,_,_⟩:=I.hok a _ e;have b:d.size=L.length:=by have:=p.length_eq;simpa using this
 have l:t.mask<=511:=by rcases k with h|h|h|h<;>lia
 show call_len_set n c hd (Tb.fits_of ok g) (by rw[b];lia) ?_;rw[b];show⟨.int L.length,H,I.tok _,⟨_,rfl⟩,q⟩
end L3
namespace L3
open PySem L2
end L3
namespace L3
open PySem L2 PySem.W PyProof.Rows
def a7w{st:Ĩ}(q:Q () (setArr st<|L9 (cj st) i j<|(j-i)/2) s):ò (É prog w) A E (reverseSlice' i j) Q st s:=by rw[reverseSlice'_eq];show Np q
def sD{f:Nat->g->StateT σ ĵ (ForInStep g)}{Q:g->σ->Ï->Prop}(j:Nat->g->σ->Prop)(l:g->σ->Prop)a n(step:∀i b st,i<n->j i b st->ò M A E (f (a+i) b) (λr d p=>p=s/\match r with|.done c=>l c d|.yield c=>j (i+1) c d) st s)(fin:∀b st,j n b st->l b st)(k:∀b st,l b st->Q b st s):
  ∀m i b st,i+m=n->j i b st->ò M A E (forIn (dw (a+i) m) b f) Q st s
 |0,i,b,st,h,hI=>kasC_nil (k b st<|fin b st<|by simp at h;subst h;show hI)|m+1,i,b,st,h,hI=>by
  rw[ON];show kasC_cons (Ķ (step i b st ⋯ hI) (λr p q=>?_) λ_ _ e=>e);obtain⟨r,d⟩:=r;obtain⟨u,o⟩:=q;subst u;cases r with
  |done c=>show k c _ o|yield c=>show sD j l a n step fin k m (i+1) c d ⋯ o
def sE{st:σ}{Q:β->σ->Ï->Prop}{c:d}{f:Nat->d->StateT σ ĵ (ForInStep d)}{g:d->StateT σ ĵ β}(e:Nat->d->σ->Prop)(j:d->σ->Prop)(step:∀i c st,i<b-a->e i c st->ò M A E (f (a+i) c) (λr h m=>m=s/\match r with|.done c=>j c h|.yield c=>e (i+1) c h) st s)(fin:∀c st,e (b-a) c st->j c st)(k:∀c st,j c st->ò M A E (g c) Q st s)(l:e 0 c st):ò M A E (forIn [a:b] c f >>= g) Q st s:=
 ħ<|kasC_range<|sD e j a (b-a) step fin k (b-a) 0 c st (ϡ _) l
section
variable{M:a9P}{A:Ł}{E:Value->Ï->Prop}{σ β:Type}{st:σ}{s:Ï}{Q:β->σ->Ï->Prop}{p:Prop} [Decidable p] {a b:StateT σ ĵ β}
def sF(h1:p->ò M A E a Q st s)(c:¬ p->ò M A E b Q st s):ò M A E (if p then a else b) Q st s:=by
 by_cases h:p
 .rw[if_pos h];show h1 h
 .rw[if_neg h];show c h
def xO(h1:p->ò M A E a Q st s)(c:¬ p->ò M A E b Q st s):ò M A E (if decide p=a9 then a else b) Q st s:=sF (λh=>h1<|of_decide_eq_true h) λh=>c λx=>h<|decide_eq_true x
def a7v(h1:p->ò M A E a Q st s)(c:¬ p->ò M A E b Q st s):ò M A E (if(!decide p)=a9 then b else a) Q st s:=by
 by_cases h:p
 .rw[decide_eq_true h];show h1 h
 .rw[decide_eq_false h];show c h
end
inductive PQ (K n i:Nat):Option (Option Nat)×Nat×Nat->Prop
 |mk {lo hg:Nat}(h1:lo<=K)(h2:K<=hg)(h3:hg<=n)(h4:hg-lo<=n-i):PQ K n i (a7,lo,hg)
inductive PR (K:Nat):Option (Option Nat)×Nat×Nat->Prop
 |mk {lo:Nat}:PR K (a7,lo,K)
def FK{lo:Nat}(h:a<=n)(c:a-lo<=n-i)(j:¬ lo >= a):lo+(a-lo)/2<n/\a-(lo+(a-lo)/2+1)<=n-(i+1)/\lo+(a-lo)/2-lo<=n-(i+1):=by
 obtain⟨d,rfl⟩:=S1<|Qn j;have e:lo+d+1-lo=d+1:=by rw[kj,q9]
 rw[e]at c ⊢;have b:(d+1)/2<=d:=N0 (Nat.div_lt_self (sr d)<|by decide);generalize(d+1)/2=m at b;have g:d<=n-(i+1):=Nat.le_sub_one_of_lt c;show⟨ĩ (Nat.lt_succ_of_le<|RQ b lo) h,?_,?_⟩
 .rw[Nat.add_sub_add_right,Qw];show Đ (Nat.sub_le _ _) g
 .rw[q9];show Đ b g
def FL{st:Ĩ}(hC:gQ prog w A κ s X an)(Y:kindOf st=κ){L:Bool}(hn:h<n)(y:Nat->Keyed)(ha:∀i,i<n->M[b+i]?=a0 (y i))(U:∀i,i<n->X (y i))(Z:X G)K(hK:K<=n)(hB:∀i,i<n->(if L then an (y i) G else !(an G<|y i))=decide (i<K))(q:Q (a0 K) st s):ò (É prog w) A E (xJ L G M b n h) Q st s:=by
 have I:∀{i:Nat}{R:Option Bool->Ĩ->Ï->Prop},i<n->R (a0<|decide<|i<K) st s->ò (É prog w) A E (do let x <- elem' M (b+i);if L then lt' x G else return(<- lt' G x).map (!·)) R st s:=by
  intro i R p r;rw[elem'_eq,ha i p];show ħ<|á ?_;have:=hB i p;cases L with
  |true=>simp only[if_true]at this ⊢;show xK hC Y (U i p) Z (by rw[this];show r)|false=>simp only[ĸ,if_false]at this ⊢;show ħ<|xK hC Y Z (U i p)<|á ?_;change R (a0<|!(an G<|y i)) st s;rw[this];show r
 unfold xJ;show ħ<|I hn ?_;show xO (λT=>?_) λT=>?_
 .show oI (λi c=>c.1=a7/\h+c.2.1<K/\c.2.1<c.2.2/\i+1<=c.2.2) (λc=>c.1=a7/\h+c.2.1<K/\c.2.1<c.2.2/\K<=h+min c.2.2 (n-h)) n (λi x c p a=>?_) (λc a=>⟨a.1,a.2.1,a.2.2.1,by lia⟩) (λc z=>?_) (by simp) ⟨rfl,T,by decide,Õ _⟩
  .obtain⟨c0,N,of⟩:=c;obtain⟨o,g,j,H⟩:=a;dsimp only at o g j H ⊢;show sF (λd=>?_) λd=>?_
   .show á ⟨rfl,rfl,rfl,g,j,by dsimp only;lia⟩
   .show ħ (I (i:=h+of) ⋯ ?_);show a7v (λe=>?_) λe=>?_
    .show á ⟨rfl,rfl,rfl,by dsimp only;lia,by dsimp only;lia,by dsimp only;lia⟩
    .show á ⟨rfl,rfl,rfl,g,j,by dsimp only;omega⟩
  .obtain⟨c0,N,of⟩:=c;obtain⟨o,g,j,H⟩:=z;dsimp only at o g j H ⊢;subst o;dsimp only;show oI (PQ K n) (PR K) n (λi x c p a=>?_) (λc a=>?_) (λc z=>?_) (by simp)<|.mk ⋯ ⋯ ⋯<|by omega
   .cases a with
    |@mk O B k l u v=>
    dsimp only;show sF (λd=>?_) λd=>?_
    .obtain rfl:B=K:=yo (Đ d k) l;show á ⟨rfl,rfl,.mk⟩
    .have m:=FK u v d;show ħ<|I m.1<|xO (λe=>á ⟨rfl,rfl,.mk e l u m.2.1⟩) λe=>á ⟨rfl,rfl,.mk k (a6g e) (Ζ m.1) m.2.2⟩
   .cases a with
    |@mk O B k l u v=>
    obtain rfl:B=K:=yo (Đ (Rv.mp<|Nw.mp<|aa n▸v) k) l;show .mk
   .cases z;show á q
 .show oI (λi c=>c.1=a7/\K+c.2.1<=h/\c.2.1<c.2.2/\i+1<=c.2.2) (λc=>c.1=a7/\K+c.2.1<=h/\c.2.1<c.2.2/\h+1<=K+min c.2.2 (h+1)) n (λi x c p a=>?_) (λc a=>⟨a.1,a.2.1,a.2.2.1,by lia⟩) (λc z=>?_) (by simp) ⟨rfl,by dsimp only;lia,by decide,Õ _⟩
  .obtain⟨c0,N,of⟩:=c;obtain⟨o,g,j,H⟩:=a;dsimp only at o g j H ⊢;show sF (λd=>?_) λd=>?_
   .show á ⟨rfl,rfl,rfl,g,j,by dsimp only;lia⟩
   .show ħ (I (i:=h-of) nofun ?_);show xO (λe=>?_) λe=>?_
    .show á ⟨rfl,rfl,rfl,g,j,by dsimp only;lia⟩
    .show á ⟨rfl,rfl,rfl,by dsimp only;lia,by dsimp only;lia,by dsimp only;lia⟩
  .obtain⟨c0,N,of⟩:=c;obtain⟨o,g,j,H⟩:=z;dsimp only at o g j H ⊢;subst o;dsimp only;show oI (PQ K n) (PR K) n (λi x c p a=>?_) (λc a=>?_) (λc z=>?_) (by simp)<|.mk nofun ⋯ nofun<|by lia
   .cases a with
    |@mk O B k l u v=>
    dsimp only;show sF (λd=>?_) λd=>?_
    .obtain rfl:B=K:=yo (Đ d k) l;show á ⟨rfl,rfl,.mk⟩
    .have m:=FK u v d;show ħ<|I m.1<|xO (λe=>á ⟨rfl,rfl,.mk e l u m.2.1⟩) λe=>á ⟨rfl,rfl,.mk k (a6g e) (Ζ m.1) m.2.2⟩
   .cases a with
    |@mk O B k l u v=>
    obtain rfl:B=K:=yo (Đ (Rv.mp<|Nw.mp<|aa n▸v) k) l;show .mk
   .cases z;show á q
section
variable{α:Type}{r:α->Int}{A B O:List α}{ia ib:Nat}
abbrev Sr(r:α->Int)(l:List α):Prop:=l.Pairwise λx y=>r x<=r y
structure J(r:α->Int)(A B O:List α)(ia ib:Nat):Prop where
 sa:Sr r<|O++A.drop ia
 sb:Sr r<|O++B.drop ib
 pm:O.Perm<|A.take ia++B.take ib
def J.swap(h:J r A B O ia ib):J r B A O ib ia:=⟨h.sb,h.sa,h.pm.trans ql⟩
def J.blockB(h:J r A B O ia ib)(i:∀x∈(B.drop ib).take k,∀y∈A.drop ia,r x<=r y):J r A B (O++(B.drop ib).take k) ia (ib+k):=by
 obtain⟨a,b,g⟩:=h;have e:O++(B.drop ib).take k++B.drop (ib+k)=O++B.drop ib:=by rw[ě,<- O7,ž]
 show⟨?_,by rw[e];show b,?_⟩
 .unfold Sr at a b ⊢;rw[ě,϶];rw[϶]at a b;show⟨a.1,?_,λx d y c=>?_⟩
  .rw[϶];show⟨b.2.1.sublist<|vd _ _,a.2.1,i⟩
  .rcases Ą.mp c with c|c
   .show b.2.2 x d y<|uv c
   .show a.2.2 x d y c
 .rw[List.take_add];show((g.append_right _).trans<|by rw[ě])
def J.blockA(h:J r A B O ia ib)(a:∀x∈(A.drop ia).take k,∀y∈B.drop ib,r x<=r y):J r A B (O++(A.drop ia).take k) (ia+k) ib:=(h.swap.blockB a).swap
def uF{l:List α}(h:l[i]?=a0 x):l.drop i=x::l.drop (i+1):=by obtain⟨a,rfl⟩:=Ú.mp h;show vp a
def Sr.head(h:Sr r (x::l)):∀y∈x::l,r x<=r y:=λy a=>by
 rcases ċ.mp a with rfl|a
 .show yc _
 .show List.rel_of_pairwise_cons h a
def J.lowA(h:J r A B O ia ib)(a:A[ia]?=a0 x):∀y∈A.drop ia,r x<=r y:=by have:=(϶.mp h.sa).2.1;rw[uF a]at this ⊢;show Sr.head this
def J.lowB(h:J r A B O ia ib)(a:B[ib]?=a0 x):∀y∈B.drop ib,r x<=r y:=h.swap.lowA a
def J.pushB(h:J r A B O ia ib)(d:A[ia]?=a0 x)(a:B[ib]?=a0 y)(e:r y<=r x):J r A B (O++[y]) ia (ib+1):=by
 have:=h.blockB (k:=1)<|by
  rw[uF a];intro z b u c;rw[OX,ym,ĉ]at b;subst b;have:=h.lowA d u c;lia
 rwa [uF a,OX,ym]at this
def J.pushA(h:J r A B O ia ib)(b:A[ia]?=a0 x)(c:B[ib]?=a0 y)(a:r x<=r y):J r A B (O++[x]) (ia+1) ib:=(h.swap.pushB c b a).swap
def FN{l:List α}(h:x∈(l.drop i).take k):∃j,j<k/\l[i+j]?=a0 x:=by obtain⟨j,a,e⟩:=Ms h;rw[Ń]at a;show⟨j,by lia,?_⟩;rw[<- e,OP,QZ,ó]
def J.gallA(h:J r A B O ia ib)(d:B[ib]?=a0 y)(b:∀j x,j<k->A[ia+j]?=a0 x->r x<=r y):J r A B (O++(A.drop ia).take k) (ia+k) ib:=h.blockA λx c z hz=>by obtain⟨j,a,e⟩:=FN c;have g:=b j x a e;have i:=h.lowB d z hz;lia
def J.gallB(h:J r A B O ia ib)(b:A[ia]?=a0 x)(a:∀j y,j<k->B[ib+j]?=a0 y->r y<=r x):J r A B (O++(B.drop ib).take k) ia (ib+k):=(h.swap.gallA b a).swap
abbrev Fi(r:α->Int)(A B R:List α):Prop:=R.Perm (A++B)/\Sr r R
def J.endB(h:J r A B O ia ib)(a:B.length<=ib):Fi r A B (O++A.drop ia++B.drop ib):=by rw[zy a,ů];show⟨?_,h.sa⟩;have:=h.pm.append_right<|A.drop ia;show this.trans ?_;rw[Ϲ a];show ql.trans ?_;rw[<- ě];show(List.Perm.append_right B<|ql).trans ?_;rw[ž]
def J.endA(h:J r A B O ia ib)(a:A.length<=ia):Fi r A B (O++A.drop ia++B.drop ib):=by have:=h.swap.endB a;rw[zy a,ů]at this ⊢;show⟨this.1.trans ql,this.2⟩
def J.last(h:J r A B O ia ib)(d:A.length=ia+1)(b:∀x,A[ia]?=a0 x->∀y∈B,r y<=r x):Fi r A B (O++B.drop ib++A.drop ia):=by have a:A[ia]?=a0 A[ia]:=ó nofun;have g:=h.gallB (k:=B.length-ib) a λj y _ c=>b _ a y<|Ğ c;have e:(B.drop ib).take (B.length-ib)=B.drop ib:=Ϲ (by rw[ŧ];show Õ _);rw[e]at g;have:=g.endB ⋯;rwa [zy (l:=B) (i:=ib+(B.length-ib))<|by lia,ů]at this
end
def FP(A:List Keyed)i:(A.toArray.extract i A.toArray.size).toList=A.drop i:=by rw[Rm,Rc,ϥ,ñ,Ϲ<|by rw[ŧ];show Õ _]
def uG(A:List Keyed)i j:(A.toArray.extract i j).toList=(A.drop i).take (j-i):=by rw[Rm,Rc,ϥ]
def Bb(A:List Keyed)i k:(A.toArray.extract i<|i+k).toList=(A.drop i).take k:=by rw[uG,q9]
def iL{st:Ĩ}{A:List Keyed}{Q:a->Ĩ->Ï->Prop}{f:Keyed->StateT Ĩ ĵ a}(h:A[i]?=a0 x)(q:ò (É prog w) A₀ E (f x) Q st s):ò (É prog w) A₀ E (elem' A.toArray i >>= f) Q st s:=ħ<|Ba (by rw[Ϸ];show h) q
abbrev sG(p:Keyed->Bool)(l:List Keyed):Nat:=(l.takeWhile p).length
def FQ p l:sG p l<=l.length:=b4c<|List.takeWhile_sublist _
def Bc:∀{l},l.Pairwise (λx y=>p y=a9->p x=a9)->∀i x,l[i]?=a0 x->p x=decide (i<sG p l)
 |[],_,i,x,h=>by cases h
 |a::l,hp,i,x,h=>by
  unfold sG;rw[ut]at hp;cases b:p a with
  |true=>
   rw[Qv,b,if_pos rfl,Ļ];cases i with
   |zero=>cases h;rw[b];simp|succ i=>have:=Bc hp.2 i x h;unfold sG at this;rw[this];simp
  |false=>
   rw[Qv,b,if_neg Ī,ug];cases i with
   |zero=>cases h;rw[b];simp|succ i=>
    cases c:p x with
    |false=>simp|true=>have:=hp.1 x (Ğ h) c;rw[b]at this;cases this
noncomputable abbrev lr(r:Keyed->Int)(x y:Keyed):Bool:=decide<|r x<r y
def Sr.le{r:Keyed->Int}(h:Sr r l)b:l.Pairwise (λx y=>decide (r y<=b)=a9->decide (r x<=b)=a9):=h.imp λ{x y} h1 a=>by rw[decide_eq_true_eq]at a ⊢;lia
def Sr.lt{r:Keyed->Int}{l:List Keyed}(h:Sr r l)(b:Int):l.Pairwise (λx y=>decide (r y<b)=a9->decide (r x<b)=a9):=h.imp λ{x y} h1 a=>by rw[decide_eq_true_eq]at a ⊢;lia
def Sr.part{r:Keyed->Int}(h:Sr r l)i k:Sr r ((l.drop i).take k):=(iw (vd _ _)<|iw (N5 _ _) h)
def Bd{st:Ĩ}{A:List Keyed}(hC:gQ prog w A₀ κ s X (lr r))(p:kindOf st=κ)(u:h<n)(y:b+n<=A.length)(o:∀x∈A,X x)(v:X a)(m:Sr r ((A.drop b).take n)){Q:l->Ĩ->Ï->Prop}{f:Option Nat->StateT Ĩ ĵ l}(q:∀K,K<=n->(∀j x,j<n->A[b+j]?=a0 x->(r x<=r a↔j<K))->ò (É prog w) A₀ E (f<|a0 K) Q st s):ò (É prog w) A₀ E (xJ a8 a A.toArray b n h >>= f) Q st s:=by
 have e:∀i,i<n->A[b+i]?=a0 (A.getD (b+i) (.none,.none)):=λi c=>by rw[š,ó<|by lia];rfl
 have hc:=Bc<|m.le<|r a;have k:=FQ (λx=>decide<|r x<=r a)<|(A.drop b).take n;rw[Ń,ŧ]at k;have d:∀j x,j<n->A[b+j]?=a0 x->((A.drop b).take n)[j]?=a0 x:=λj x g h=>by rw[j4 g,Og];show h
 show ħ<|FL hC p u (λi=>A.getD (b+i) (.none,.none)) (λi c=>by rw[Ϸ];show e i c) (λi c=>o _<|Ğ<|e i c) v _ ⋯ (λi c=>?_)<|q (sG (λx=>decide<|r x<=r a)<|(A.drop b).take n) ⋯ λj x g h=>?_
 .have:=hc i _<|d i _ c<|e i c;rw[if_neg Ī,<- this];unfold lr;by_cases h:r a<r (A.getD (b+i) (.none,.none))
  .rw[decide_eq_true h,decide_eq_false<|by lia];rfl
  .rw[decide_eq_false h,decide_eq_true<|by lia];rfl
 .have:=hc j x<|d j x g h;rw[<- decide_eq_true_eq (p:=r x<=r a),this,decide_eq_true_eq]
def Be{st:Ĩ}{A:List Keyed}(hC:gQ prog w A₀ κ s X (lr r))(p:kindOf st=κ)(u:h<n)(y:b+n<=A.length)(o:∀x∈A,X x)(v:X c)(m:Sr r ((A.drop b).take n)){Q:l->Ĩ->Ï->Prop}{f:Option Nat->StateT Ĩ ĵ l}(q:∀K,K<=n->(∀j x,j<n->A[b+j]?=a0 x->(r x<r c↔j<K))->ò (É prog w) A₀ E (f<|a0 K) Q st s):ò (É prog w) A₀ E (xJ a9 c A.toArray b n h >>= f) Q st s:=by
 have e:∀i,i<n->A[b+i]?=a0 (A.getD (b+i) (.none,.none)):=λi a=>by rw[š,ó<|by lia];rfl
 have hc:=Bc<|m.lt<|r c;have k:=FQ (λx=>decide<|r x<r c)<|(A.drop b).take n;rw[Ń,ŧ]at k;have d:∀j x,j<n->A[b+j]?=a0 x->((A.drop b).take n)[j]?=a0 x:=λj x g h=>by rw[j4 g,Og];show h
 show ħ<|FL hC p u (λi=>A.getD (b+i) (.none,.none)) (λi a=>by rw[Ϸ];show e i a) (λi a=>o _<|Ğ<|e i a) v _ ⋯ (λi a=>?_)<|q (sG (λx=>decide<|r x<r c)<|(A.drop b).take n) ⋯ λj x g h=>?_
 .have:=hc i _<|d i _ a<|e i a;rw[if_pos rfl,<- this]
 .have:=hc j x<|d j x g h;rw[<- decide_eq_true_eq (p:=r x<r c),this,decide_eq_true_eq]
def sH{st:Ĩ}{A:List Keyed}{X:Keyed->Prop}{Q:β->Ĩ->Ï->Prop}{f:Keyed->StateT Ĩ ĵ β}(b:∀x∈A,X x)(a:i<A.length)(q:∀x,A[i]?=a0 x->X x->ò (É prog w) A₀ E (f x) Q st s):ò (É prog w) A₀ E (elem' A.toArray i >>= f) Q st s:=iL (ó a)<|q _ (ó a)<|b _<|bf a
def FR{st:Ĩ}{Q:β->Ĩ->Ï->Prop}(hC:gQ prog w A₀ κ s X an)(a:kindOf st=κ)(b:X x)(c:X y){f:Option Bool->StateT Ĩ ĵ β}(q:ò (É prog w) A₀ E (f<|a0<|an x y) Q st s):ò (É prog w) A₀ E (lt' x y >>= f) Q st s:=ħ<|xK hC a b c q
section
variable{prog:ł}{w:Į}{A₀:Ł}{E:Value->Ï->Prop}{κ:ϋ}{s:Ï}{A B:List Keyed}{X:Keyed->Prop}{r:Keyed->Int}
def b9{Q:h->σ->Ï->Prop}{st:σ}[Decidable c]{a b:StateT σ ĵ h}(i:¬ c->ò M d e b Q st g)(h1:c->ò M d e a Q st g):ò M d e (if c then a else b) Q st g:=sF h1 i
def FT{Q:g->σ->Ï->Prop}{st:σ}{a:StateT σ ĵ g}(h:∀e,(∀x y z,Q x y z->e x y z)->ò M b c a e st d):ò M b c a Q st d:=h Q λ_ _ _ x=>x
def m7 out i j:(out++A.toArray.extract i A.toArray.size++B.toArray.extract j B.toArray.size).toList=out.toList++A.drop i++B.drop j:=by rw[qg,qg,FP,FP]
inductive ϑ (r:Keyed->Int)(A B:List Keyed)(κ:ϋ)(ar:Array Keyed)(pd:Array (Nat×Nat×Nat)){M:Type}(n:Nat):Option (Array Keyed)×Array Keyed×Nat×Nat×M->Ĩ->Prop
 |mk {mg:Nat}{out:Array Keyed}{ia ib:Nat}{m:M}(g1:J r A B out.toList ia ib)(g2:ia+1<A.length)(g3:ib<B.length)(g4:n<=ia+ib):ϑ r A B κ ar pd n (a7,out,ia,ib,m)<|Ě κ ar pd mg a7
inductive Ϩ (P:List Keyed->Prop)(κ:ϋ)(ar:Array Keyed)(pd:Array (Nat×Nat×Nat)){T:Type}:Option (Array Keyed)×T->Ĩ->Prop
 |mk {mg:Nat}{R:Array Keyed}{x:T}(h:P R.toList):Ϩ P κ ar pd (a0 R,x)<|Ě κ ar pd mg a7
def a7L(hC:gQ prog w A₀ κ s X (lr r))(hXA:∀x∈A,X x)(T:∀x∈B,X x)(hA:Sr r A)(hB:Sr r B)(hA0:0<A.length)(hB0:0<B.length)(hf:∀y,B[0]?=a0 y->∀x∈A,r y<=r x)(hl:∀x,A[A.length-1]?=a0 x->∀y∈B,r y<=r x)(q:∀R Y,Fi r A B R.toList->Q R (Ě κ v H Y a7) s):
  ò (É prog w) A₀ E (FF A.toArray B.toArray) Q (Ě κ v H mg a7) s:=by
 have getA:∀i,i<A.length->∃x,A[i]?=a0 x/\X x:=λi hi=>⟨A[i],ó hi,hXA _<|bf hi⟩;have Z:∀i,i<B.length->∃x,B[i]?=a0 x/\X x:=λi hi=>⟨B[i],ó hi,T _<|bf hi⟩;have last:∀{O:List Keyed}{ia ib:Nat},J r A B O ia ib->ia+1=A.length->Fi r A B (O++B.drop ib++A.drop ia):=λ{O ia ib} h e=>h.last e.symm λx d=>hl x (by rw[show A.length-1=ia by lia];show d);unfold FF;show r9<|sH T hB0 λy0 U _=>?_;have j0:J r A B [y0] 0 1:=by
  show⟨?_,?_,?_⟩
  .change Sr r (y0::A.drop 0);unfold Sr;rw[U3,ut];show⟨λx d=>hf y0 U x d,hA⟩
  .change Sr r (y0::B.drop 1);rw[<- uF U,U3];show hB
  .rw[ym,ź];cases B with
   |nil=>cases U|cons b B=>cases U;show zb _
 show b9 (λK=>b9 (λh2=>?_) λh2=>?_) λK=>?_;rotate_left
 .have h2:A.length=1:=by have h2:(0+1==A.toArray.size)=true:=h2;rw[ñ,beq_iff_eq]at h2;show h2.symm
  show á<|q _ _ ?_;rw[m7];show last j0<|by lia
 .have K:B.length=1:=by have K:(1==B.toArray.size)=true:=K;rw[ñ,beq_iff_eq]at K;show K.symm
  show á<|q _ _ ?_;rw[m7];show j0.endB<|by lia
 have K:¬ B.length=1:=λe=>K (by rw[ñ,e];rfl);have h2:¬ A.length=1:=λe=>h2 (by rw[ñ,e];rfl);show kU ?_;have htot:A.toArray.size+B.toArray.size=A.length+B.length:=by rw[ñ,ñ]
 show sE (λi c st=>ϑ r A B κ v H (i+1) c st) (Ϩ (Fi r A B) κ v H) (λi c st hi M=>?_) (λc st M=>?_) (λc st L=>?_)<|.mk j0 ⋯ ⋯<|by lia
 .show ϑ.casesOn M @λmg I ia ib m l n o G=>?_;clear M c st
    -- one by one
  show sE (λj c st=>ϑ r A B κ v H (i+1+j) c st) (λc st=>Ϩ (Fi r A B) κ v H c st\/ϑ r A B κ v H (i+2) c st) (λj c st hj N=>?_) (λc st N=>?_) (λc st L=>?_)<|.mk l n o G
  .clear l n o G;show ϑ.casesOn N @λmg I ia ib m l n o G=>?_;clear N c st;show sH T o λy hy Xy=>sH hXA (mj n) λx d Xx=>FR hC rfl Xy Xx ?_;show b9 (λhc=>?_) λhc=>?_;rotate_left
   .have hc:r y<r x:=of_decide_eq_true hc;show iL hy ?_;have u:=l.pushB d hy<|km hc;rw[<- ϯ]at u;show b9 (λa=>?_) λa=>?_;rotate_left
    .have a:ib+1=B.length:=by simpa using a
     show á ⟨rfl,.inl<|.mk ?_⟩;rw[m7];show u.endB<|by omega
    .have a:¬ ib+1=B.length:=λe=>a (by rw[ñ,beq_iff_eq];show e);show b9 (λ_=>á ⟨rfl,.mk (ia:=ia) (ib:=ib+1) u n ⋯<|by lia⟩) λ_=>á ⟨rfl,.inr<|.mk (ia:=ia) (ib:=ib+1) u n ⋯<|by lia⟩
   .have hc:¬ r y<r x:=λe=>hc<|decide_eq_true e;show iL d ?_;have u:=l.pushA d hy ⋯;rw[<- ϯ]at u;show b9 (λa=>?_) λa=>?_;rotate_left
    .have a:ia+1+1=A.length:=by simpa using a
     show á ⟨rfl,.inl<|.mk ?_⟩;rw[m7];show last u a
    .have a:¬ ia+1+1=A.length:=λe=>a (by rw[ñ,beq_iff_eq];show e);show b9 (λ_=>á ⟨rfl,.mk (ia:=ia+1) (ib:=ib) u ⋯ o<|by lia⟩) λ_=>á ⟨rfl,.inr<|.mk (ia:=ia+1) (ib:=ib) u ⋯ o<|by lia⟩
  .show ϑ.casesOn N @λ_ _ _ _ _ l n o G=>.inr<|.mk l n o<|by lia
  .clear l n o G;show L.elim (λL=>Ϩ.casesOn L @λ_ _ _ hR=>á ⟨rfl,.mk hR⟩) λM=>ϑ.casesOn M @λmg I ia ib m l n o G=>r9 ?_;clear M L c st
      -- by leaps
   show sE (λj c st=>ϑ r A B κ v H (i+2) c st) (λc st=>Ϩ (Fi r A B) κ v H c st\/ϑ r A B κ v H (i+2) c st) (λj c st hj N=>?_) (λc st N=>.inr N) (λc st L=>?_)<|.mk l n o G
   .clear l n o G;show ϑ.casesOn N @λmg I ia ib m l n o G=>FT λQ' hQ=>?_;clear N c st;obtain⟨y,hy,Xy⟩:=Z ib o;extract_lets z1 o1 z2 a1 z3 b1 z4 m1 z5 ac1 bc1 jb1 jp mm;have hj:∀m' Y,ò (É prog w) A₀ E (jp () m') Q' (Ě κ v H Y a7) s:=by
     intro m' Y;clear_value m1 ac1;dsimp -zeta -zetaHave only[jp];show mZ (iL hy<|Bd hC rfl (b:=ia) (n:=A.toArray.size-ia) (h:=0) (by rw[ñ];omega) (by rw[ñ];omega) hXA Xy (hA.part _ _) λk hk1 hk2=>?_);rw[ñ]at hk1;have u:=l.gallA (k:=k) hy λj x hj d=>(hk2 j x (by rw[ñ];lia) d).mpr hj;have nx:∀x,A[ia+k]?=a0 x->r y<r x:=λx d=>by have K:=(Ú.mp d).1;have:=hk2 k x (by rw[ñ];omega) d;lia
     have e1:(I++A.toArray.extract ia (ia+k)).toList=I.toList++(A.drop ia).take k:=by rw[qg,Bb]
     rw[<- e1]at u;dsimp -zeta -zetaHave only;extract_lets ac2 jp2 o2 a2;have hj2:∀p g,ia<=g->J r A B p.toList g ib->g+1<A.length->(∀x,A[g]?=a0 x->r y<r x)->ò (É prog w) A₀ E (jp2 () p g) Q' (Ě κ v H m' a7) s:=by
      intro p g t0 t1 t2 t3;obtain⟨x,d,Xx⟩:=getA g ⋯;have t5:=t1.pushB d hy<|km<|t3 x d;rw[<- ϯ]at t5;clear_value ac2;dsimp -zeta -zetaHave only[jp2];show iL hy ?_;extract_lets o3 a3;have hjb:jb1=ib+1:=rfl;show b9 (λa=>?_) λa=>?_;rotate_left
      .rw[ñ,beq_iff_eq]at a;show á<|hQ _ _ _ ⟨rfl,.inl<|.mk ?_⟩;rw[m7];show t5.endB<|by lia
      rw[ñ,beq_iff_eq]at a;show iL d (Be hC rfl (b:=ib+1) (n:=B.toArray.size-(ib+1)) (h:=0) (by rw[ñ];omega) (by rw[ñ];omega) T Xx (hB.part _ _) λk' hm1 hm2=>?_);rw[ñ]at hm1;have u5:=t5.gallB (k:=k') d λj z hj hz=>km ((hm2 j z (by rw[ñ];lia) hz).mpr hj);have nz:∀z,B[ib+1+k']?=a0 z->r x<=r z:=λz hz=>by have K:=(Ú.mp hz).1;have:=hm2 k' z (by rw[ñ];omega) hz;lia
      have e2:(p.push y++B.toArray.extract (ib+1) (ib+1+k')).toList=(p.push y).toList++(B.drop<|ib+1).take k':=by rw[qg,Bb]
      rw[<- e2]at u5;dsimp -zeta -zetaHave only;extract_lets bc2 jp3 o4 b4;have hj3:∀ou jb,J r A B ou.toList g jb->jb<B.length->(∀z,B[jb]?=a0 z->r x<=r z)->ib<jb->ò (É prog w) A₀ E (jp3 () ou jb) Q' (Ě κ v H m' a7) s:=by
       intro ou jb v1 v2 v3 v4;obtain⟨z,hz,Xz⟩:=Z jb v2;have v5:=v1.pushA d hz<|v3 z hz;rw[<- ϯ]at v5;clear_value bc2;dsimp -zeta -zetaHave only[jp3];show iL d ?_;extract_lets o5;have ha3:a3=g+1:=rfl;show b9 (λhf=>?_) λhf=>?_
       .rw[ñ,beq_iff_eq]at hf;show b9 (λ_=>á<|hQ _ _ _ ⟨rfl,.mk v5 ⋯ v2<|by lia⟩) λ_=>á<|hQ _ _ _ ⟨rfl,.inr<|.mk v5 ⋯ v2<|by lia⟩
       .rw[ñ,beq_iff_eq]at hf;show á<|hQ _ _ _ ⟨rfl,.inl<|.mk ?_⟩;rw[m7];show last v5 hf
      clear_value jp3;show b9 (λhk0=>hj3 _ _ t5 ⋯ (by rw[show k'=0 by lia]at nz;show nz)<|by lia) λhk0=>b9 (λhb=>?_) λhb=>?_
      .rw[ñ,beq_iff_eq]at hb;have hb4:b4=ib+1+k':=rfl;show hj3 _ _ u5 nofun nz<|by lia
      .rw[ñ,beq_iff_eq]at hb;have hb4:b4=ib+1+k':=rfl;show á<|hQ _ _ _ ⟨rfl,.inl<|.mk ?_⟩;rw[m7];show u5.endB<|by lia
     clear_value jp2;show b9 (λhk0=>hj2 _ _ (Õ _) l n<|by rw[show k=0 by lia]at nx;show nx) λhk0=>b9 (λa=>b9 (λhe2=>?_) λhe2=>?_) λa=>?_
     .rw[ñ,beq_iff_eq]at a he2;have ha2:a2=ia+k:=rfl;show hj2 _ _ ⋯ u ⋯ nx
     .rw[ñ,beq_iff_eq]at he2;have ha2:a2=ia+k:=rfl;show á<|hQ _ _ _ ⟨rfl,.inl<|.mk ?_⟩;rw[m7];show u.endA<|by lia
     .rw[ñ,beq_iff_eq]at a;show á<|hQ _ _ _ ⟨rfl,.inl<|.mk ?_⟩;rw[m7];show last u a
    clear_value jp;show b9 (λ_=>hj _ _) λ_=>hj _ _
   .clear l n o G;show L.elim (λL=>Ϩ.casesOn L @λ_ _ _ hR=>á ⟨rfl,.mk hR⟩) λM=>ϑ.casesOn M @λ_ _ _ _ _ l n o G=>mZ<|á ⟨rfl,.mk l n o G⟩
 .cases M with
  |mk l n o G=>lia
 .cases L with
  |mk hR=>show á<|q _ _ hR
end
section
variable{r:Keyed->Int}{A B O:List Keyed}{na nb:Nat}
abbrev JH(r:Keyed->Int)(A B O:List Keyed)(na nb:Nat):Prop:=na<=A.length/\nb<=B.length/\J (λx=>-r x) B.reverse A.reverse O (B.length-nb) (A.length-na)
def sI{l:List Keyed}(h:l[n-1]?=a0 x)(h1:1<=n)(a:n<=l.length):l.reverse[l.length-n]?=a0 x:=by rw[gm<|by omega,<- h];congr 1;omega
def JH.pushA(h:JH r A B O na nb)(e:A[na-1]?=a0 x)(g:B[nb-1]?=a0 y)(h1:1<=na)(d:1<=nb)(i:r y<=r x):JH r A B (O++[x]) (na-1) nb:=by obtain⟨b,a,c⟩:=h;show⟨by lia,a,?_⟩;have:=c.pushB (sI g d a) (sI e h1 b) ⋯;rw[show A.length-(na-1)=A.length-na+1 by lia];show this
def JH.pushB(h:JH r A B O na nb)(e:A[na-1]?=a0 x)(g:B[nb-1]?=a0 y)(h1:1<=na)(d:1<=nb)(i:r x<=r y):JH r A B (O++[y]) na (nb-1):=by obtain⟨a,b,c⟩:=h;show⟨a,by lia,?_⟩;have:=c.pushA (sI g d b) (sI e h1 a) ⋯;rw[show B.length-(nb-1)=B.length-nb+1 by lia];show this
def qD{l:List Keyed}:l.reverse.drop (l.length-n)=(l.take n).reverse:=by rw[List.reverse_take]
def FU{l:List Keyed}(h1:t<=n)(a:n<=l.length):(l.reverse.drop<|l.length-n).take (n-t)=((l.drop t).take<|n-t).reverse:=by rw[qD,List.take_reverse,Ń,aq a,Nat.sub_sub_self h1,List.drop_take]
def JH.gallA(h:JH r A B O na nb)(k:B[nb-1]?=a0 y)(e:1<=nb)(i:t<=na)(g:∀j x,t<=j->j<na->A[j]?=a0 x->r y<=r x):JH r A B (O++((A.drop t).take<|na-t).reverse) t nb:=by
 obtain⟨c,b,d⟩:=h;show⟨by lia,b,?_⟩;have:=d.gallB (k:=na-t) (sI k e b) λj z m l=>by
  have a:A[A.length-1-(A.length-na+j)]?=a0 z:=by rw[<- l,gm<|by lia]
  have:=g _ z nofun nofun a;lia
 rw[FU i c]at this;rw[show A.length-t=A.length-na+(na-t) by lia];show this
def JH.gallB(h:JH r A B O na nb)(i:A[na-1]?=a0 x)(h1:1<=na)(g:t<=nb)(e:∀j y,t<=j->j<nb->B[j]?=a0 y->r x<=r y):JH r A B (O++((B.drop t).take<|nb-t).reverse) na t:=by
 obtain⟨b,c,d⟩:=h;show⟨b,by lia,?_⟩;have:=d.gallA (k:=nb-t) (sI i h1 b) λj z l k=>by
  have a:B[B.length-1-(B.length-nb+j)]?=a0 z:=by rw[<- k,gm<|by lia]
  have:=e _ z ⋯ ⋯ a;lia
 rw[FU g c]at this;rw[show B.length-t=B.length-nb+(nb-t) by lia];show this
def Fi.rev(h:Fi (λx=>-r x) B.reverse A.reverse R):Fi r A B R.reverse:=by show⟨(my R).trans<|h.1.trans<|(Rq (my B)<|my A).trans ql,?_⟩;unfold Sr;rw[NK];show h.2.imp λ{x y} h=>by dsimp only at h;lia
def JH.endA(h:JH r A B O na nb)(d:na=0):Fi r A B (A.take na++B.take nb++O.reverse):=by obtain⟨b,c,a⟩:=h;have:=(a.endB<|by rw[ό];lia).rev;rw[qD,qD]at this;simpa using this
def JH.endB(h:JH r A B O na nb)(d:nb=0):Fi r A B (A.take na++B.take nb++O.reverse):=by obtain⟨b,c,a⟩:=h;have:=(a.endA<|by rw[ό];lia).rev;rw[qD,qD]at this;simpa using this
def JH.last(h:JH r A B O na nb)(j:nb=1)(c:∀y,B[0]?=a0 y->∀x∈A,r y<=r x):Fi r A B (B.take nb++A.take na++O.reverse):=by
 obtain⟨g,i,b⟩:=h;have:=(b.last (by rw[ό];lia) λy e x d=>by
  have a:B[0]?=a0 y:=by rw[<- e,gm<|by omega];congr 1;omega
  have:=c y a x<|zf.mp d;lia).rev
 rw[qD,qD]at this;simpa using this
variable{prog:ł}{w:Į}{A₀:Ł}{E:Value->Ï->Prop}{κ:ϋ}{s:Ï}{X:Keyed->Prop}
def m8(out:Array Keyed)i j:(A.toArray.extract 0 i++B.toArray.extract 0 j++out.reverse).toList=A.take i++B.take j++out.toList.reverse:=by rw[qg,qg,uG,uG,Ob,U3,U3,MV,MV]
def FV out(A:List Keyed)t n:(out++(A.toArray.extract t n).reverse).toList=out.toList++((A.drop t).take<|n-t).reverse:=by rw[qg,Ob,uG]
inductive ϒ (r:Keyed->Int)(A B:List Keyed)(κ:ϋ)(ar:Array Keyed)(pd:Array (Nat×Nat×Nat)){M:Type}(n:Nat):Option (Array Keyed)×Nat×Nat×Array Keyed×M->Ĩ->Prop
 |mk {mg:Nat}{out:Array Keyed}{na nb:Nat}{m:M}(g1:JH r A B out.toList na nb)(g2:1<=na)(g3:2<=nb)(g4:n+na+nb<=A.length+B.length):ϒ r A B κ ar pd n (a7,na,nb,out,m)<|Ě κ ar pd mg a7
def a7A(hC:gQ prog w A₀ κ s X (lr r))(L:∀x∈A,X x)(hXB:∀x∈B,X x)(hA:Sr r A)(hB:Sr r B)(hA0:0<A.length)(hB0:0<B.length)(hf:∀y,B[0]?=a0 y->∀x∈A,r y<=r x)(hl:∀x,A[A.length-1]?=a0 x->∀y∈B,r y<=r x)(q:∀R T,Fi r A B R.toList->Q R (Ě κ l p T a7) s):
  ò (É prog w) A₀ E (FG A.toArray B.toArray) Q (Ě κ l p mg a7) s:=by
 have getA:∀i,i<A.length->∃x,A[i]?=a0 x/\X x:=λi hi=>⟨A[i],ó hi,L _<|bf hi⟩;have Z:∀i,i<B.length->∃x,B[i]?=a0 x/\X x:=λi hi=>⟨B[i],ó hi,hXB _<|bf hi⟩;unfold FG;show r9<|sH L (Nat.sub_lt hA0 Nat.one_pos) λx0 hx0 _=>?_;rw[ñ]at hx0;have j0:JH r A B [x0] (A.length-1) B.length:=by
  show⟨by omega,Õ _,?_⟩;have e:A.reverse=x0::A.reverse.drop 1:=by have:=uF (l:=A.reverse) (i:=0) (x:=x0) (by rw[gm<|by lia];show hx0);rwa [U3]at this
  rw[aa,show A.length-(A.length-1)=1 by lia];show⟨?_,?_,?_⟩
  .unfold Sr;rw[U3];change(x0::B.reverse).Pairwise _;rw[ut];show⟨λy G=>?_,?_⟩
   .have:=hl x0 hx0 y<|zf.mp G;dsimp only;lia
   .rw[NK];show hB.imp λ{x y} h=>by dsimp only;lia
  .change Sr _ (x0::A.reverse.drop 1);rw[<- e];unfold Sr;rw[NK];show hA.imp λ{x y} h=>by dsimp only;lia
  .rw[ym,ź,e];show zb _
 try dsimp -zeta -zetaHave only
 rw[ñ,ñ];show b9 (λh1=>b9 (λh2=>?_) λh2=>?_) λh1=>?_;rotate_left
 .rw[beq_iff_eq]at h2;show á<|q _ _ ?_;rw[m8];show j0.last h2 hf
 .rw[beq_iff_eq]at h1;show á<|q _ _ ?_;rw[m8];show j0.endA h1
 rw[beq_iff_eq]at h1 h2;show kU ?_;show sE (λi c st=>ϒ r A B κ l p (i+1) c st) (Ϩ (Fi r A B) κ l p) (λi c st hi I=>?_) (λc st I=>?_) (λc st v=>?_)<|.mk j0 ⋯ ⋯<|by lia
 .show ϒ.casesOn I @λmg out na nb m a d k n=>?_;clear I c st;show sE (λj c st=>ϒ r A B κ l p (i+1+j) c st) (λc st=>Ϩ (Fi r A B) κ l p c st\/ϒ r A B κ l p (i+2) c st) (λj c st hj K=>?_) (λc st K=>?_) (λc st v=>?_)<|.mk a d k n
  .clear a d k n;show ϒ.casesOn K @λmg out na nb m a d k n=>?_;clear K c st;have l1:=a.1;have l2:=a.2.1;show sH hXB (show nb-1<B.length by lia) λy G Xy=>sH L (show na-1<A.length by omega) λx b Xx=>FR hC rfl Xy Xx ?_;show b9 (λhc=>?_) λhc=>?_
   .unfold lr at hc;rw[decide_eq_true_eq]at hc;have o:=a.pushB b G ⋯ ⋯ ⋯;rw[<- ϯ]at o;show iL G ?_;show b9 (λg=>?_) λg=>?_
    .have g:¬ nb-1=1:=λe=>g<|beq_iff_eq.mpr e;show b9 (λ_=>á ⟨rfl,.mk (na:=na) (nb:=nb-1) o ⋯ ⋯<|by lia⟩) λ_=>á ⟨rfl,.inr<|.mk (na:=na) (nb:=nb-1) o ⋯ ⋯<|by lia⟩
    .rw[beq_iff_eq]at g;show á ⟨rfl,.inl<|.mk ?_⟩;rw[m8];show o.last g hf
   .unfold lr at hc;rw[decide_eq_true_eq]at hc;have o:=a.pushA b G ⋯ ⋯ ⋯;rw[<- ϯ]at o;show iL b ?_;show b9 (λg=>?_) λg=>?_
    .have g:¬ na-1=0:=λe=>g<|beq_iff_eq.mpr e;show b9 (λ_=>á ⟨rfl,.mk (na:=na-1) (nb:=nb) o ⋯ ⋯<|by lia⟩) λ_=>á ⟨rfl,.inr<|.mk (na:=na-1) (nb:=nb) o ⋯ ⋯<|by lia⟩
    .rw[beq_iff_eq]at g;show á ⟨rfl,.inl<|.mk ?_⟩;rw[m8];show o.endA g
  .show ϒ.casesOn K @λ_ _ _ _ _ a d k n=>.inr<|.mk a d k<|by lia
  .clear a d k n;show v.elim (λv=>Ϩ.casesOn v @λ_ _ _ hR=>á ⟨rfl,.mk hR⟩) λI=>ϒ.casesOn I @λmg out na nb m a d k n=>r9 ?_;clear I v c st;show sE (λj c st=>ϒ r A B κ l p (i+2) c st) (λc st=>Ϩ (Fi r A B) κ l p c st\/ϒ r A B κ l p (i+2) c st) (λj c st hj K=>?_) (λc st K=>.inr K) (λc st v=>?_)<|.mk a d k n
   .clear a d k n;show ϒ.casesOn K @λmg out na nb m a d k n=>FT λQ' hQ=>?_;clear K c st;have l1:=a.1;have l2:=a.2.1;obtain⟨y,G,Xy⟩:=Z (nb-1) nofun;extract_lets z1 o1 z2 a1 z3 b1 z4 m1 z5 ac1 bc1 jb1 jp mm;have hj:∀m' T,ò (É prog w) A₀ E (jp () m') Q' (Ě κ l p T a7) s:=by
     intro m' T;clear_value m1 ac1;dsimp -zeta -zetaHave only[jp];show mZ (iL G<|Bd hC rfl (b:=0) (n:=na) (h:=na-1) nofun ⋯ L Xy (hA.part _ _) λt ht1 ht2=>?_);have o:=a.gallA (t:=t) G ⋯ ht1 λj x h1 h2 b=>by have:=ht2 j x h2 (by rw[ϡ];show b);omega
     have nx:∀x,1<=t->A[t-1]?=a0 x->r x<=r y:=λx h1 b=>(ht2 (t-1) x nofun<|by rw[ϡ];show b).mpr nofun;rw[<- FV]at o;dsimp -zeta -zetaHave only;extract_lets k2 ac2 jp2 o2 Y;have hjb:jb1=nb-1:=rfl;have hk2:k2=na-t:=rfl;have hj2:∀U ou,U<=na->JH r A B ou.toList U nb->1<=U->(∀x,A[U-1]?=a0 x->r x<=r y)->ò (É prog w) A₀ E (jp2 () U ou) Q' (Ě κ l p m' a7) s:=by
      intro U ou t0 t1 t2 t3;obtain⟨x,b,Xx⟩:=getA (U-1) nofun;have t5:=t1.pushB b G t2 ⋯<|t3 x b;rw[<- ϯ]at t5;clear_value ac2 k2;dsimp -zeta -zetaHave only[jp2];show iL G ?_;extract_lets o3 a3;show b9 (λhq=>?_) λhq=>?_;rotate_left
      .rw[beq_iff_eq]at hq;show á<|hQ _ _ _ ⟨rfl,.inl<|.mk ?_⟩;rw[m8];show t5.last hq hf
      rw[beq_iff_eq]at hq;show iL b (Be hC rfl (b:=0) (n:=nb-1) (h:=nb-1-1) nofun ⋯ hXB Xx (hB.part _ _) λu fI hu2=>?_);have u5:=t5.gallB (t:=u) b t2 fI λj z h1 h2 H=>by have:=hu2 j z h2 (by rw[ϡ];show H);lia
      have nz:∀z,1<=u->B[u-1]?=a0 z->r z<=r x:=λz h1 H=>km ((hu2 (u-1) z nofun<|by rw[ϡ];show H).mpr<|by omega);rw[<- FV]at u5;dsimp -zeta -zetaHave only;extract_lets k3 bc2 jp3 o4 b4;have hk3:k3=nb-1-u:=rfl;have hj3:∀Y oz,Y<nb->JH r A B oz.toList U Y->2<=Y->(∀z,B[Y-1]?=a0 z->r z<=r x)->ò (É prog w) A₀ E (jp3 () Y oz) Q' (Ě κ l p m' a7) s:=by
       intro Y oz v0 v1 v2 v3;have l3:=v1.2.1;obtain⟨z,H,Xz⟩:=Z (Y-1) nofun;have v5:=v1.pushA b H t2 ⋯<|v3 z H;rw[<- ϯ]at v5;clear_value bc2 k3;dsimp -zeta -zetaHave only[jp3];have ha3:a3=U-1:=rfl;show iL b ?_;extract_lets o5;show b9 (λhw=>?_) λhw=>?_
       .rw[beq_iff_eq]at hw;show b9 (λ_=>á<|hQ _ _ _ ⟨rfl,.mk v5 ⋯ v2<|by omega⟩) λ_=>á<|hQ _ _ _ ⟨rfl,.inr<|.mk v5 ⋯ v2<|by lia⟩
       .rw[beq_iff_eq]at hw;show á<|hQ _ _ _ ⟨rfl,.inl<|.mk ?_⟩;rw[m8];show v5.endA hw
      clear_value jp3;show b9 (λhk1=>hj3 _ _ ⋯ t5 ⋯ λz H=>?_) λhk1=>b9 (λM=>b9 (λN=>?_) λN=>?_) λM=>?_
      .have e:u=nb-1:=by omega
       rw[e]at nz;show nz z nofun H
      .rw[beq_iff_eq]at M N;have hb4:b4=u:=rfl;show hj3 _ _ nofun u5 ⋯ λz H=>nz z ⋯ H
      .rw[beq_iff_eq]at N;show á<|hQ _ _ _ ⟨rfl,.inl<|.mk ?_⟩;rw[m8];show u5.endB N
      .rw[beq_iff_eq]at M;show á<|hQ _ _ _ ⟨rfl,.inl<|.mk ?_⟩;rw[m8];show u5.last M hf
     clear_value jp2;show b9 (λhk0=>hj2 _ _ (Õ _) a d λx b=>?_) λhk0=>b9 (λg=>?_) λg=>?_
     .have e:t=na:=by omega
      rw[e]at nx;show nx x d b
     .rw[beq_iff_eq]at g;have hn2:Y=t:=rfl;show hj2 _ _ ht1 o ⋯ λx b=>nx x ⋯ b
     .rw[beq_iff_eq]at g;show á<|hQ _ _ _ ⟨rfl,.inl<|.mk ?_⟩;rw[m8];show o.endA g
    clear_value jp;show b9 (λ_=>hj _ _) λ_=>hj _ _
   .clear a d k n;show v.elim (λv=>Ϩ.casesOn v @λ_ _ _ hR=>á ⟨rfl,.mk hR⟩) λI=>ϒ.casesOn I @λ_ _ _ _ _ a d k n=>mZ<|á ⟨rfl,.mk a d k n⟩
 .cases I with
  |mk a d k n=>lia
 .cases v with
  |mk hR=>show á<|q _ _ hR
end
def FW{P:List Keyed}(h:i<c1.length):(P++c1++c2++S)[P.length+i]?=c1[i]?:=by rw[ě,ě,ż<|by lia,Š<|by lia];congr 1;lia
def FX{P:List Keyed}(h:i<c2.length):(P++c1++c2++S)[P.length+c1.length+i]?=c2[i]?:=by rw[ě,ż<|by rw[å];lia,Š<|by rw[å];lia];congr 1;rw[å];lia
def TuP{P:List Keyed}:((P++c1++c2++S).drop P.length).take c1.length=c1:=by rw[ě,ě,O8,OR]
def ShR{P:List Keyed}:((P++c1++c2++S).drop<|P.length+c1.length).take c2.length=c2:=by rw[ě,Qj<|by rw[å],OR]
def ShI{P:List Keyed}(a:k<=c1.length):(P++c1++c2++S).toArray.extract (P.length+k) (P.length+c1.length)=(c1.drop k).toArray:=by apply bh.mp;rw[uG,<- O7,ě,ě,O8,S5 a,ϥ,List.take_left'<|by rw[ŧ];lia]
def ShA{P:List Keyed}(a:k<=c2.length):(P++c1++c2++S).toArray.extract (P.length+c1.length) (P.length+c1.length+k)=(c2.take k).toArray:=by apply bh.mp;rw[Bb,ě,Qj<|by rw[å],ϥ,S6 a]
def SPr{P:List Keyed}(e:k<=c1.length)(g:l<=c2.length)(d:R.length=c1.length-k+l):(R.zipIdx.foldl (λa x=>a.setIfInBounds (P.length+k+x.2) x.1) (P++c1++c2++S).toArray)=(P++(c1.take k++R++c2.drop l)++S).toArray:=by
 apply bh.mp;have:=FH R (P++c1++c2++S).toArray (P.length+k) 0 (by simp;lia);rw[this,ϥ,ϥ,Q5,d];have b:(P++c1++c2++S).take (P.length+k)=P++c1.take k:=by rw[ě,ě,List.take_append,Ϲ<|by lia,q9,S6 e]
 have c:(P++c1++c2++S).drop (P.length+k+(c1.length-k+l))=c2.drop l++S:=by rw[show P.length+k+(c1.length-k+l)=(P++c1).length+l by rw[å];lia,ě,<- O7,O8,S5 g]
 rw[b,c];simp
def Sr.both{V:List Keyed}(e:Sr r R)(g:Sr r U)(h:Sr r V)(h1:∀x∈U,∀y∈R,r x<=r y)(c:∀x∈R,∀y∈V,r x<=r y)(d:∀x∈U,∀y∈V,r x<=r y):Sr r (U++R++V):=by
 unfold Sr at *;rw[ě,϶];show⟨g,?_,λx b y a=>?_⟩
 .rw[϶];show⟨e,h,c⟩
 .rcases Ą.mp a with a|a
  .show h1 x b y a
  .show d x b y a
def Sr.at(h:Sr r l){i:Nat}{x y:Keyed}(c:i<=j)(d:l[i]?=a0 x)(g:l[j]?=a0 y):r x<=r y:=by
 obtain⟨a,rfl⟩:=Ú.mp d;obtain⟨b,rfl⟩:=Ú.mp g;by_cases e:i=j
 .subst e;show yc _
 .show ϳ.mp h i j a b<|by lia
def sJ{l:List Keyed}(h:x∈l.take k):∃j,j<k/\l[j]?=a0 x:=by have:=FN (l:=l) (i:=0) (k:=k) (x:=x) (by rw[U3];show h);obtain⟨j,b,a⟩:=this;show⟨j,b,by rw[ϡ]at a;show a⟩
def sL{l:List Keyed}(h:x∈l.drop k):∃j,k<=j/\l[j]?=a0 x:=by obtain⟨j,a,e⟩:=Ms h;show⟨k+j,by lia,by rw[<- e,QZ,ó]⟩
def PaI(hC:gQ prog w A₀ κ s X (lr r))(hX:∀x∈P++c1++c2++S,X x)(h1:Sr r c1)(v:Sr r c2)(l1:0<c1.length)(l2:0<c2.length){K:Array (Nat×Nat×Nat)}(p1:K[i]?=a0 (P.length,c1.length,w1))(p2:K[i+1]?=a0 (P.length+c1.length,c2.length,w2))(q:∀c m,Sr r c->c.Perm (c1++c2)->Q a9 (Ě κ (P++c++S).toArray ((K.setIfInBounds i (P.length,c1.length+c2.length,w1)).eraseIdxIfInBounds<|i+1) m a7) s):
  ò (É prog w) A₀ E (M7 i) Q (Ě κ (P++c1++c2++S).toArray K mg a7) s:=by
 unfold M7;show kU ?_;dsimp only;simp only[p1,p2];show ħ<|a9I ?_;have gA:∀j,j<c1.length->c1[j]?=a0 (c1.getD j (.none,.none)):=λj d=>by rw[š,ó d];rfl
 have gB:∀j,j<c2.length->c2[j]?=a0 (c2.getD j (.none,.none)):=λj d=>by rw[š,ó d];rfl
 have B:∀x∈c1,X x:=λx b=>hX x (by simp[b]);have G:∀x∈c2,X x:=λx b=>hX x (by simp[b]);have hlen:(P++c1++c2++S).length=P.length+c1.length+c2.length+S.length:=by simp;lia
 have I:=gB 0 l2;show iL (x:=c2.getD 0 (.none,.none)) (by rw[<- I];show FX l2) ?_;show Bd hC rfl (b:=P.length) (n:=c1.length) (h:=0) l1 ⋯ hX (G _<|Ğ I) (by rw[TuP];show h1) λk N hk2=>?_;have p:∀j x,c1[j]?=a0 x->(r x<=r (c2.getD 0 (.none,.none))↔j<k):=λj x b=>by have d:=(Ú.mp b).1;show hk2 j x d<|by rw[FW d];show b
 generalize c2.getD 0 (.none,.none)=y0 at *;dsimp only;have e0:(P++c1++c2++S)=P++(c1++c2)++S:=by simp
  -- all as it is
 have A:(∀x∈c1,∀y∈c2,r x<=r y)->Q a9 (Ě κ (P++c1++c2++S).toArray ((K.setIfInBounds i (P.length,c1.length+c2.length,w1)).eraseIdxIfInBounds<|i+1) mg a7) s:=λh=>by rw[e0];show q _ _ (by unfold Sr at *;rw[϶];show⟨h1,v,h⟩)<|zb _
 show b9 (λhe=>?_) λhe=>?_;rotate_left
 .rw[beq_iff_eq]at he;show á<|A λx b y g=>?_;obtain⟨j,d⟩:=ϴ b;obtain⟨o,n⟩:=ϴ g;have Y:=(p j x d).mpr (by have:=(Ú.mp d).1;lia);have Z:=v.at (Ģ o) I n;lia
 rw[beq_iff_eq]at he;have U:=gA (c1.length-1) ⋯;generalize c1.getD (c1.length-1) (.none,.none)=x1 at *;show iL (x:=x1) (by rw[show P.length+k+(c1.length-k)-1=P.length+(c1.length-1) by lia,FW<|by lia];show U) ?_;show Be hC rfl (b:=P.length+c1.length) (n:=c2.length) (h:=c2.length-1) ⋯ ⋯ hX (B _<|Ğ U) (by rw[ShR];show v) λl O hl2=>?_;have H:∀j x,c2[j]?=a0 x->(r x<r x1↔j<l):=λj x b=>by have d:=(Ú.mp b).1;show hl2 j x d<|by rw[FX d];show b
 dsimp only;show b9 (λhf=>?_) λhf=>?_;rotate_left
 .rw[beq_iff_eq]at hf;show á<|A λx b y g=>?_;obtain⟨j,d⟩:=ϴ b;obtain⟨o,n⟩:=ϴ g;have Y:=h1.at (by have:=(Ú.mp d).1;lia) d U;have Z:=H o y n;lia
 rw[beq_iff_eq]at hf;rw[ShI N,ShA O];have hA:Sr r (c1.drop k):=iw (N5 _ _) h1;have hB:Sr r (c2.take l):=iw (vd _ _) v;have M:∀y,(c2.take l)[0]?=a0 y->∀x∈c1.drop k,r y<=r x:=λy g x b=>by rw[j4<|by lia,I]at g;cases g;obtain⟨j,d,e⟩:=sL b;have:=p j x e;lia
 have T:∀x,(c1.drop k)[(c1.drop k).length-1]?=a0 x->∀y∈c2.take l,r y<=r x:=λx b y g=>by rw[ŧ,Og,show k+(c1.length-k-1)=c1.length-1 by lia,U]at b;cases b;obtain⟨j,d,e⟩:=sJ g;have:=H j y e;lia
 have done:∀(R:Array Keyed)(m:Nat),Fi r (c1.drop k) (c2.take l) R.toList->Q a9 (Ě κ (R.toList.zipIdx.foldl (λ(a:Array Keyed)(x:Keyed×Nat)=>a.setIfInBounds (P.length+k+x.2) x.1) (P++c1++c2++S).toArray) ((K.setIfInBounds i (P.length,c1.length+c2.length,w1)).eraseIdxIfInBounds<|i+1) m a7) s:=λR m L=>by
  obtain⟨f1,f2⟩:=L;have hRl:=f1.length_eq;rw[å,ŧ,Ń]at hRl;rw[SPr N O<|by lia];have cE:∀z∈R.toList,z∈c1.drop k\/z∈c2.take l:=λz hz=>Ą.mp<|f1.mem_iff.mp hz;show q _ _ (f2.both (iw (vd _ _) h1) (iw (N5 _ _) v) (λx b y g=>?_) (λx b y g=>?_) λx b y g=>?_) ?_
  .obtain⟨j,d,e⟩:=sJ b;rcases cE y g with g|g
   .obtain⟨o,n,u⟩:=sL g;show h1.at ⋯ e u
   .obtain⟨o,n,u⟩:=sJ g;have Y:=(p j x e).mpr d;have Z:=v.at (Ģ o) I u;lia
  .obtain⟨o,n,u⟩:=sL g;rcases cE x b with b|b
   .obtain⟨j,d,e⟩:=sL b;have Y:=h1.at (by have:=(Ú.mp e).1;lia) e U;have Z:=H o y u;lia
   .obtain⟨j,d,e⟩:=sJ b;show v.at ⋯ e u
  .obtain⟨j,d,e⟩:=sJ b;obtain⟨o,n,u⟩:=sL g;have Y:=(p j x e).mpr d;have Z:=v.at (Ģ o) I u;lia
  .have e1:c1++c2=c1.take k++(c1.drop k++c2.take l)++c2.drop l:=by rw[<- ě,ž,ě,ž]
   rw[e1];show((f1.append_left _).append_right _)
 have d1:0<(c1.drop k).length:=by rw[ŧ];lia
 have d2:0<(c2.take l).length:=by rw[Ń];lia
 show b9 (λ_=>?_) λ_=>?_
 .show ħ<|a7A hC (λx b=>B x<|R8 b) (λx b=>G x<|uv b) hA hB d1 d2 M T λR m L=>mZ<|kU<|á<|done R m L
 .show ħ<|a7L hC (λx b=>B x<|R8 b) (λx b=>G x<|uv b) hA hB d1 d2 M T λR m L=>mZ<|kU<|á<|done R m L
abbrev kr(r:Keyed->Int)(T:List Keyed)(i:Nat):Int:=r<|T.getD i (.none,.none)
def m9(h:T[i]?=a0 x):kr r T i=r x:=by unfold kr;rw[š,h];rfl
def Bf{T:List Keyed}(h:i<T.length):T[i]?=a0 (T.getD i (.none,.none)):=by rw[š,ó h];rfl
def xP(hC:gQ prog w A₀ κ s X (lr r))(b:∀x∈T,X x)(a:i<T.length)(c:j<T.length)(q:Q (a0<|decide<|kr r T i<kr r T j) (Ě κ (P++T).toArray pd mg a7) s):
  ò (É prog w) A₀ E (ltAt' (P.length+i)<|P.length+j) Q (Ě κ (P++T).toArray pd mg a7) s:=by
 have e:∀i,i<T.length->(cj<|Ě κ (P++T).toArray pd mg a7)[P.length+i]?=a0 (T.getD i (.none,.none)):=λi a=>by change(P++T).toArray[P.length+i]?=_;rw[Ϸ,ż<|by lia,q9];show Bf a
 show a9B hC rfl (e i a) (e j c) (b _<|Ğ<|Bf a) (b _<|Ğ<|Bf c) q
def Bg(hC:gQ prog w A₀ κ s X (lr r))(g:∀x∈T,X x)(h:i<T.length)(k:j<T.length)(c:a=P.length+i)(d:b=P.length+j)(e:decide (kr r T i<kr r T j)=v)(q:Q (a0 v) (Ě κ (P++T).toArray pd mg a7) s):
  ò (É prog w) A₀ E (ltAt' a b) Q (Ě κ (P++T).toArray pd mg a7) s:=by
 subst c d e;show xP hC g h k q
abbrev ŝ(R:Int->Int->Prop)(r:Keyed->Int)(T:List Keyed)(n:Nat):Prop:=∀j,j+1<n->R (kr r T j) (kr r T<|j+1)
def ŝ.one:ŝ R r T 1:=λ_ h=>nomatch Nat.lt_of_succ_lt_succ h
def ŝ.succ(h:ŝ R r T (n+1))(k:R (kr r T n) (kr r T<|n+1)):ŝ R r T (n+2):=λj a=>by
 rcases Qe (N0 a)with e|e
 .show h j e
 .cases e;show k
def ŝ.snoc(a:0<n)(h:ŝ R r T n)(k:R (kr r T<|n-1) (kr r T n)):ŝ R r T (n+1):=by
 cases n with
 |zero=>show nomatch a|succ n=>show h.succ k
def Bh(h:ŝ (·<=·) r T n):∀{i j},i<=j->j<n->kr r T i<=kr r T j
 |i,0,h1,_=>by rw[Nw.mp h1];show yc _
 |i,j+1,h1,h2=>by
  rcases Qe h1 with e|e
  .show O9 (Bh h (N0 e)<|mj h2)<|h j h2
  .rw[e];show yc _
def NuI(h:ŝ (·<=·) r T n):Sr r (T.take n):=by show ϳ.mpr λi j e d b=>?_;have a:=ĩ e<|ϵ n T;have c:=ĩ d<|ϵ n T;have:=Bh h (Ζ b)<|ĩ d<|List.length_take_le n T;rw[m9<|ó a,m9<|ó c]at this;rw[OP,OP];show this
def GwI(g:n<=T.length)(h:ŝ (· >= ·) r T n):ŝ (·<=·) r ((T.take n).reverse++T.drop n) n:=λj c=>by
 have a:(T.take n).length=n:=by rw[Ń,aq g]
 have b:∀i,i<n->kr r ((T.take n).reverse++T.drop n) i=kr r T (n-1-i):=λi e=>by
  have:((T.take n).reverse++T.drop n)[i]?=T[n-1-i]?:=by rw[Š<|by rw[ό,a];show e,gm<|a.symm▸e,a,j4<|by omega]
  unfold kr;rw[š,š,this]
 rw[b j<|mj c,b (j+1) c];obtain⟨d,rfl⟩:=S1 c;rw[show j+1+d+1-1-(j+1)=d by lia,show j+1+d+1-1-j=d+1 by lia];show h d<|by lia
def FtI(P U V:List Keyed):L9 (P++U++V).toArray P.length (P.length+U.length) ((P.length+U.length-P.length)/2)=(P++U.reverse++V).toArray:=by
 apply bh.mp;apply mq;intro k;rw[γ,getElem?_mirror_all<|by simp,ϥ];by_cases h:P.length<=k/\k<P.length+U.length
 .have b:∀(W:List Keyed)(m:Nat),W.length=U.length->P.length<=m->m<P.length+U.length->(P++W++V)[m]?=W[m-P.length]?:=λW m d a c=>by rw[ě,ż a,Š<|by omega]
  rw[if_pos h,Ϸ,b U _ rfl nofun<|by omega,b U.reverse k (by rw[ό]) h.1 h.2,gm<|by omega];congr 1;lia
 .rw[if_neg h,Ϸ];by_cases a:k<P.length
  .rw[ě,ě,Š a,Š a]
  .rw[ż<|by rw[å];lia,ż<|by rw[å,ό];lia];simp
abbrev jc(r:Keyed->Int)(T:List Keyed):Prop:=T.Pairwise λx y=>r x≠r y
def jc.at(h:jc r T)(a:i<T.length)(b:j<T.length)(c:i≠j):kr r T i≠kr r T j:=by
 rw[m9<|ó a,m9<|ó b];have:=ϳ.mp h;by_cases l:i<j
 .show this i j a b l
 .show(this j i b a<|by lia).symm
inductive Mk {α:Type}(p:Nat->Prop):Option α×Nat->Prop
 |mk {n:Nat}:p n->Mk p (a7,n)
inductive PN {α:Type}(p:Nat->Prop):Option α×Nat×Nat->Prop
 |mk {n:Nat}:p n->PN p (a7,n,0)
def Sy(hC:gQ prog w A₀ κ s X (lr r))(v:∀x∈T,X x)(hD:jc r T)(H:0<T.length)(q:∀c t,0<c.length->Sr r c->(c++t).Perm T->Q (a0 c.length) (Ě κ (P++(c++t)).toArray pd mg a7) s):ò (É prog w) A₀ E (countRun' P.length T.length) Q (Ě κ (P++T).toArray pd mg a7) s:=by
 have j:∀U n,U.Perm T->0<n->n<=T.length->ŝ (·<=·) r U n->Q (a0 n) (Ě κ (P++U).toArray pd mg a7) s:=λU n y u p h=>by
  have e:(U.take n).length=n:=by rw[Ń,y.length_eq,aq p]
  have:=q (U.take n) (U.drop n) (e.symm▸u) (NuI h) (by rw[ž];show y);rwa [ž,e]at this
 unfold countRun';show oI (λi=>Mk λn=>n=i+1/\ŝ (·<=·) r T n) (Mk λn=>0<n/\n<=T.length/\ŝ (·<=·) r T n/\(n<T.length->kr r T n<kr r T (n-1))) (T.length-1) (λi x c K d=>?_) (λc d=>?_) (λc k=>?_) (by simp)<|.mk ⟨rfl,.one⟩
 .obtain⟨rfl,d⟩:=d;dsimp only;show ħ (xP hC v (i:=i+1) (j:=i) nofun nofun ?_);dsimp only;show b9 (λhc=>?_) λhc=>?_
  .rw[decide_eq_true_eq]at hc;show á ⟨rfl,rfl,.mk ⟨rfl,d.succ<|Nl.mp hc⟩⟩
  .rw[decide_eq_true_eq]at hc;show á ⟨rfl,rfl,.mk ⟨sr i,by lia,d,λ_=>hc⟩⟩
 .obtain⟨rfl,d⟩:=d;show .mk ⟨sr _,by omega,d,λh=>absurd h<|by omega⟩
 .obtain @⟨n,u,p,d,B⟩:=k;dsimp only;show b9 (λI=>?_) λI=>?_;rotate_left
  .show á<|j T n (.refl _) u p d
  rw[beq_iff_eq]at I;show b9 (λN=>?_) λN=>?_;rotate_left
  .have a:=Bh d (Ģ<|n-1) nofun;have b:=hD.at (i:=0) (j:=n-1) H nofun ⋯;show ħ (Bg hC v (i:=0) (j:=n-1) (v:=a9) H ⋯ rfl ⋯ (decide_eq_true<|by lia) ?_);dsimp only;rw[if_pos rfl];show á<|j T n (.refl _) u p d
  obtain rfl:n=1:=by lia
  have G:2<=T.length:=by lia
  have A:=B G;show r9 ?_;show oI (λi=>PN λn=>n=i+2/\ŝ (· >= ·) r T n) (PN λn=>2<=n/\n<=T.length/\ŝ (· >= ·) r T n) (T.length-2) (λi x c K d=>?_) (λc d=>?_) (λc k=>?_) (by simp)<|.mk ⟨rfl,ŝ.one.succ<|km A⟩
  .obtain⟨rfl,d⟩:=d;dsimp only;have g:i+2<T.length:=by omega
   show ħ<|xP hC v (i:=i+2) (j:=i+1) g (mj g) ?_;dsimp only;by_cases hc:kr r T (i+2)<kr r T (i+1)
   .rw[decide_eq_true hc,if_pos rfl,if_neg<|by lia];show á ⟨rfl,rfl,.mk ⟨rfl,d.succ<|km hc⟩⟩
   .rw[decide_eq_false hc,if_neg Ī];have Y:=hD.at (i:=i+1) (j:=i+2) (mj g) g<|õ<|Ψ _;show ħ (Bg hC v (i:=i+1) (j:=i+2) (v:=a9) (mj g) g rfl rfl (decide_eq_true<|by lia) ?_);dsimp only;rw[if_pos rfl];show á ⟨rfl,rfl,.mk ⟨OS ..,Ζ g,d⟩⟩
  .obtain⟨rfl,d⟩:=d;show .mk ⟨OS ..,by omega,d⟩
  .obtain @⟨n,G,p,d⟩:=k;dsimp only;rw[if_neg<|by lia];show ħ<|a7w ?_;have M:L9 (P++T).toArray P.length (P.length+n) ((P.length+n-P.length)/2)=(P++((T.take n).reverse++T.drop n)).toArray:=by have:=FtI P (T.take n)<|T.drop n;rw[Ń,aq p,ě,ě,ž]at this;show this
   change ò _ _ _ _ _ (Ě κ (L9 (P++T).toArray P.length (P.length+n)<|(P.length+n-P.length)/2) pd mg a7) s;rw[M];have l:((T.take n).reverse++T.drop n).Perm T:=by show((my _).append_right _).trans ?_;rw[ž]
   have o:=GwI p d;generalize(T.take n).reverse++T.drop n=U at l o;have y:=l.length_eq;have z:∀x∈U,X x:=λx R=>v x<|l.mem_iff.mp R;show oI (λi=>Mk λm=>m=n+i/\ŝ (·<=·) r U m) (Mk λm=>0<m/\m<=T.length/\ŝ (·<=·) r U m) (T.length-n) (λi x c K d=>?_) (λc d=>?_) (λc k=>?_) (by simp)<|.mk ⟨rfl,o⟩
   .obtain⟨rfl,d⟩:=d;dsimp only;have L:n+i<U.length:=by lia
    show ħ (Bg hC z (i:=n+i) (j:=n+i-1) L nofun rfl ⋯ rfl ?_);dsimp only;show b9 (λhc=>?_) λhc=>?_
    .rw[decide_eq_true_eq]at hc;show á ⟨rfl,rfl,.mk ⟨rfl,ŝ.snoc ⋯ d<|Nl.mp hc⟩⟩
    .show á ⟨rfl,rfl,.mk ⟨by lia,Ζ<|y▸L,d⟩⟩
   .obtain⟨rfl,d⟩:=d;show .mk ⟨by lia,by lia,d⟩
   .obtain @⟨m,u,O,d⟩:=k;show á<|j U m l u O d
section
variable{prog:ł}{w:Į}{A₀:Ł}{E:Value->Ï->Prop}{κ:ϋ}{s:Ï}{X:Keyed->Prop}{r:Keyed->Int}{P:List Keyed}{pd:Array (Nat×Nat×Nat)}{mg:Nat}
def FsI{a:Type}L R(x y:a):(L++y::x::R).toArray.swapIfInBounds (L.length+1) L.length=(L++x::y::R).toArray:=by unfold Rl;rw[dif_pos<|by simp,dif_pos<|by simp];simp[Array.swap]
def FY P C V(x:g):∀d l,l+d=C.length->L7 (P++(C++x::V)).toArray (P.length+C.length) d=(P++(C.take l++x::C.drop l++V)).toArray
 |0,l,h=>by obtain rfl:l=C.length:=h;rw[ś,Q9,ě];rfl
 |d+1,l,h=>by
  have e:=FY P C V x d (l+1)<|(Of l 1 d).trans h;have a:l<C.length:=h▸Nat.lt_add_of_pos_right (sr d);have i:(P++C.take l).length=P.length+l:=by rw[å,Ń,aq<|Ζ a]
  have j:P.length+C.length-d=(P++C.take l).length+1:=by rw[i,<- h,<- kj,<- kj,Of,Qd]
  unfold L7 at e ⊢;rw[za,N6,e];change Rl _ (P.length+C.length-d) (P.length+C.length-d-1)=_;have b:=List.take_succ_eq_append_getElem a;have c:=vp a;generalize C[l]=y at b c;rw[j,Qd,b,c,ě,ě,<- ě P,ě<|C.take l,<- ě P];show FsI (P++C.take l) (C.drop (l+1)++V) x y
def a9s P C V(x:Keyed)(a:l<=C.length):L7 (P++(C++x::V)).toArray (P.length+C.length) (P.length+C.length-(P.length+l))=(P++(C.take l++x::C.drop l++V)).toArray:=by rw[Qw];show FY P C V x _ l<|Nat.add_sub_cancel' a
inductive PV (κ:ϋ)(r:Keyed->Int)(P t:List Keyed)(pd:Array (Nat×Nat×Nat))(mg:Nat)(L:List Keyed)(n:Nat){α:Type}:Option α×Unit->Ĩ->Prop
 |mk {c D:List Keyed}:Sr r c->c.length=n->(c++D).Perm L->PV κ r P t pd mg L n (a7,()) (Ě κ (P++(c++(D++t))).toArray pd mg a7)
inductive PU (r:Keyed->Int)(c:List Keyed)(v:Int)(d:Nat){α:Type}:Option α×Nat×Nat->Prop
 |mk {l u:Nat}:l<=u->u<=c.length->u-l<=d->(∀m,m<l->kr r c m<=v)->(∀m,u<=m->m<c.length->v<kr r c m)->PU r c v d (a7,l,u)
def a9p{D:List Keyed}l(a:(c++x::D).Perm L):(c.take l++x::c.drop l++D).Perm L:=by
 have:(c.take l++x::c.drop l).Perm (c++[x]):=by show QR.trans ?_;rw[ž];show ql (l₁:=[x])
 show(this.append_right D).trans ?_;rw[ě];show a
def a9l(h1:Sr r c)(n:∀m,m<l->kr r c m<=r x)(o:∀m,l<=m->m<c.length->r x<kr r c m):Sr r (c.take l++x::c.drop l):=by
 have i:∀z∈c.take l,r z<=r x:=λz h=>by obtain⟨m,g,e⟩:=sJ h;rw[<- m9 (r:=r) e];show n m g
 have j:∀z∈c.drop l,r x<=r z:=λz h=>by obtain⟨m,g,e⟩:=sL h;rw[<- m9 (r:=r) e];show km<|o m g (Ú.mp e).1
 show ϶.mpr ⟨iw (vd _ _) h1,ut.mpr ⟨j,iw (N5 _ _) h1⟩,λa k b d=>?_⟩;rcases ċ.mp d with rfl|d
 .show i a k
 .show O9 (i a k)<|j b d
def a9j(hC:gQ prog w A₀ κ s X (lr r)){D:List Keyed}(Y:∀x∈c++D++t,X x)(hc:Sr r c)(U:0<c.length)(q:∀a,Sr r a->a.Perm (c++D)->Q a9 (Ě κ (P++(a++t)).toArray pd mg a7) s):ò (É prog w) A₀ E (binarySort' P.length (c.length+D.length) c.length) Q (Ě κ (P++(c++D++t)).toArray pd mg a7) s:=by
 unfold binarySort';show uD ?_;rw[Nat.max_eq_left U,ě c];show(sD (λi=>PV κ r P t pd mg (c++D)<|c.length+i) (PV κ r P t pd mg (c++D)<|c.length+D.length) c.length D.length (λi b st hi I=>?_) (λb st I=>I) (λb st n=>?_) (c.length+D.length-c.length) 0 _ _ ⋯<|.mk hc rfl<|.refl _)
 .obtain @⟨a,d,A,R,e⟩:=I;match d,e with
  |[],e=>have:=e.length_eq;rw[ů,å]at this;lia|x::d,e=>
   dsimp only;have L:∀z∈a++(x::d++t),X z:=λz hz=>Y z<|by
    have:z∈(a++x::d)++t:=by rw[ě];show hz
    rcases Ą.mp this with h|h
    .show Ą.mpr<|.inl<|e.mem_iff.mp h
    .show Ą.mpr<|.inr h
   rw[<- R];have N:kr r (a++(x::d++t)) a.length=r x:=m9 (by rw[ż<|Õ _,aa];rfl);have M:∀m,m<a.length->kr r (a++(x::d++t)) m=kr r a m:=λm g=>by unfold kr;rw[š,š,Š g]
   have mono:∀{m H:Nat},m<=H->H<a.length->kr r a m<=kr r a H:=λ{m H} h o=>by rw[m9<|ó<|vh h o,m9<|ó o];show A.at h (ó _)<|ó _
   show oI (λj=>PU r a (r x)<|a.length-j) (PU r a (r x) 0) a.length (λj y b hj K=>?_) (λb K=>aa a.length▸K) (λb n=>?_) (by simp)<|.mk (Ģ _) (Õ _) (Õ _) (λm g=>nomatch g) λm h o=>absurd h<|Nat.not_le_of_lt o
   .obtain @⟨l,u,T,p,j3,B,G⟩:=K;dsimp only;show b9 (λO=>?_) λO=>?_;rotate_left
    .show á ⟨rfl,rfl,.mk T p ⋯ B G⟩
    have g:l<=(l+u)/2/\(l+u)/2<u:=by lia
    generalize(l+u)/2=m at g ⊢;show ħ (xP hC L (i:=a.length) (j:=m) (by simp) (by simp;lia) ?_);rw[N,M _<|by lia];dsimp only;show b9 (λhc=>?_) λhc=>?_
    .rw[decide_eq_true_eq]at hc;show á ⟨rfl,rfl,.mk g.2 p ⋯ (λk Z=>O9 (mono (N0 Z)<|ĩ g.2 p)<|Nl.mp hc) G⟩
    .rw[decide_eq_true_eq]at hc;show á ⟨rfl,rfl,.mk g.1 ⋯ ⋯ B λk h o=>Int.lt_of_lt_of_le hc<|mono h o⟩
   .obtain @⟨l,u,T,p,j3,B,G⟩:=n;obtain rfl:u=l:=by lia
    dsimp only;have mv:∀{v:Unit->Ĩ->Ï->Prop},v () (Ě κ (P++((a.take u++x::a.drop u)++(d++t))).toArray pd mg a7) s->ò (É prog w) A₀ E (moveDown' (P.length+a.length)<|P.length+u) v (Ě κ (P++(a++x::(d++t))).toArray pd mg a7) s:=λ{v} h=>by rw[moveDown'_eq];show Np ?_;change v () (Ě κ (L7 (P++(a++x::(d++t))).toArray (P.length+a.length)<|P.length+a.length-(P.length+u)) pd mg a7) s;rw[a9s P a (d++t) x p];show h
    show ħ<|mv ?_;show á ⟨rfl,.mk (a9l A B G) (by simp;lia)<|a9p u e⟩
 .obtain @⟨a,d,A,R,e⟩:=n;have hl:=e.length_eq;rw[å,å]at hl;obtain rfl:d=[]:=zm.mp ⋯;rw[ů]at e;show á<|q a A e
end
noncomputable abbrev d7:=List Keyed×Nat
abbrev bC(rs:List d7):List Keyed:=(rs.map (·.1)).flatten
abbrev pos:Nat->List d7->List (Nat×Nat×Nat)
 |_,[]=>[]|p,(c,w)::t=>(p,c.length,w)::pos (p+c.length) t
def l8 c w t:bC ((c,w)::t)=c++bC t:=rfl
def qE a b:bC (a++b)=bC a++bC b:=by unfold bC;simp
def qF:∀a b p,pos p (a++b)=pos p a++pos (p+(bC a).length) b
 |[],b,p=>rfl|(c,w)::a,b,p=>by change(p,c.length,w)::pos (p+c.length) (a++b)=_;rw[qF a b,l8,å,kj];rfl
def oJ:∀a p,(pos p a).length=a.length
 |[],_=>rfl|(c,w)::a,p=>by change(pos (p+c.length) a).length+1=_;rw[oJ a];rfl
structure Rn(r:Keyed->Int)(L È:List Keyed)(rs:List d7):Prop where
 ok:∀p∈rs,Sr r p.1/\0<p.1.length
 pm:(bC rs++È).Perm L
section
variable{prog:ł}{w:Į}{A₀:Ł}{E:Value->Ï->Prop}{κ:ϋ}{s:Ï}{X:Keyed->Prop}{r:Keyed->Int}{L È:List Keyed}{mg:Nat}
noncomputable abbrev l9(κ:ϋ)(È:List Keyed)(rs:List d7)(mg:Nat):Ĩ:=Ě κ (bC rs++È).toArray (pos 0 rs).toArray mg a7
def a9f(hC:gQ prog w A₀ κ s X (lr r))(y:∀x∈L,X x){post:List d7}(h:Rn r L È (a++(c1,w1)::(b,w2)::post))(q:∀c e,Rn r L È (a++(c,w1)::post)->c.length=c1.length+b.length->Q a9 (l9 κ È (a++(c,w1)::post) e) s)(z:i=a.length):
  ò (É prog w) A₀ E (M7 i) Q (l9 κ È (a++(c1,w1)::(b,w2)::post) mg) s:=by
 subst z;obtain⟨g,n⟩:=h;have o1:=g (c1,w1) (by simp);have o2:=g (b,w2) (by simp);have j:bC (a++(c1,w1)::(b,w2)::post)++È=bC a++c1++b++(bC post++È):=by rw[qE,l8,l8];simp
 have u:pos 0 (a++(c1,w1)::(b,w2)::post)=pos 0 a++((bC a).length,c1.length,w1)::((bC a).length+c1.length,b.length,w2)::pos ((bC a).length+c1.length+b.length) post:=by rw[qF,ϡ];rfl
 unfold l9;rw[j,u];show PaI hC (λx A=>y x<|n.mem_iff.mp<|by rw[j];show A) o1.1 o2.1 o1.2 o2.2 (w1:=w1) (w2:=w2) ?_ ?_ λc e v m=>?_
 .rw[Ϸ,ż<|by rw[oJ];show Õ _,oJ,aa];rfl
 .rw[Ϸ,ż<|by rw[oJ];lia,oJ,q9];rfl
 .have k:=m.length_eq;rw[å]at k;have l:bC a++c++(bC post++È)=bC (a++(c,w1)::post)++È:=by rw[qE,l8];simp
  have o:((pos 0 a++((bC a).length,c1.length,w1)::((bC a).length+c1.length,b.length,w2)::pos ((bC a).length+c1.length+b.length) post).toArray.setIfInBounds a.length ((bC a).length,c1.length+b.length,w1)).eraseIdxIfInBounds (a.length+1)=(pos 0<|a++(c,w1)::post).toArray:=by apply bh.mp;have d:(pos 0 a).length=a.length:=oJ _ _;rw[Array.toList_eraseIdxIfInBounds,SS,ϥ,ϥ,qF,ϡ,<- d,NL _ _<|Õ _,aa,ũ,List.eraseIdx_append_of_length_le<|by lia,q9];change _=pos 0 a++((bC a).length,c.length,w1)::pos ((bC a).length+c.length) post;rw[k,<- kj];rfl
  rw[l,o];show q c e ⟨λp d=>?_,?_⟩ k
  .rcases Ą.mp d with d|d
   .show g p<|by simp[d]
   .rcases ċ.mp d with rfl|d
    .have:=o1.2;dsimp only at this;show⟨v,by dsimp only;lia⟩
    .show g p<|by simp[d]
  .rw[<- l];show Oe ?_ n;rw[j];have:=(m.append_left<|bC a).append_right<|bC post++È;simpa using this
def FZ(hC:gQ prog w A₀ κ s X (lr r))(u:∀x∈L,X x)(h:Rn r L È rs)(z:i+1<rs.length)(q:∀a b,Rn r L È a->a.length+1=rs.length->(bC a).length=(bC rs).length->Q a9 (l9 κ È a b) s):ò (É prog w) A₀ E (M7 i) Q (l9 κ È rs mg) s:=by
 have e:rs=rs.take i++(rs[i].1,rs[i].2)::(rs[i+1].1,rs[i+1].2)::rs.drop (i+1+1):=by have n:=vp (l:=rs) (i:=i) nofun;have o:=vp (l:=rs) (i:=i+1) ⋯;have j:=ž i rs;rw[n,o]at j;show j.symm
 obtain⟨d,c1,k,g,l,post,m,v⟩:∃d c1 k g l post,rs=d++(c1,k)::(g,l)::post/\i=d.length:=⟨_,_,_,_,_,_,e,by rw[Ń];lia⟩;subst m;show a9f hC u h (λc b p y=>q _ b p ?_ ?_) v
 .simp;lia
 .rw[qE,qE,l8,l8,l8];simp;lia
def F0{b:Type}f:∀l(x:b),(l++[x]).modify l.length f=l++[f x]
 |[],x=>rfl|a::l,x=>by change a::(l++[x]).modify l.length f=_;rw[F0 f l x];rfl
def a9e rs c w:(pos 0 rs).toArray.push ((bC rs).length,c.length,w)=(pos 0<|rs++[(c,w)]).toArray:=by rw[qF,ϡ];apply bh.mp;rw[ϯ];rfl
def a9Z(rs:List d7)c w a:((pos 0<|rs++[(c,w)]).toArray.modify ((pos 0<|rs++[(c,w)]).toArray.size-1) λx=>(x.1,x.2.1,a))=(pos 0<|rs++[(c,a)]).toArray:=by rw[qF,qF,ϡ];apply bh.mp;have:=F0 (λx:Nat×Nat×Nat=>(x.1,x.2.1,a)) (pos 0 rs) ((bC rs).length,c.length,w);simp[pos];show this
def a9X rs c w:(pos 0<|rs++[(c,w)]).toArray.back?=a0 ((bC rs).length,c.length,w):=by rw[qF,ϡ];simp[pos]
inductive M1 (κ:ϋ)(r:Keyed->Int)(L:List Keyed)(i:Nat):Option Unit×Nat->Ĩ->Prop
 |mk {rs:List d7}{È:List Keyed}{mg:Nat}:Rn r L È rs->i<=(bC rs).length->M1 κ r L i (a7,(bC rs).length) (l9 κ È rs mg)
inductive wg (κ:ϋ)(r:Keyed->Int)(L È:List Keyed)(p:List d7->Prop){α:Type}:Option Unit×α->Ĩ->Prop
 |mk {rs:List d7}{mg:Nat}{n:α}:Rn r L È rs->p rs->wg κ r L È p (a7,n) (l9 κ È rs mg)
def a9W{G P:Prop}(T:G)(f:G->P):P:=f T
def F1{rs a:List d7}{b g:List Keyed}{i d:Nat}(j:Rn r L (b++g) a)(k:(bC a).length=(bC rs).length)(l:0<b.length)(n:Sr r b)(m:i<=(bC rs).length):M1 κ r L (i+1) (a7,(bC rs).length+b.length) (Ě κ (bC a++(b++g)).toArray ((pos 0 a).toArray.push ((bC rs).length,b.length,0)) d a7):=by
 have e:bC (a++[(b,0)])=bC a++b:=by rw[qE,l8];change _++(b++[])=_;rw[ů]
 have h:(bC<|a++[(b,0)]).length=(bC rs).length+b.length:=by rw[e,å,k]
 have:=@M1.mk κ r L (i+1) (a++[(b,0)]) g d ⟨λp c=>?_,?_⟩<|h▸Mb m l
 .rw[h]at this;unfold l9 at this;rw[<- a9e,e,k,ě]at this;show this
 .rcases Ą.mp c with c|c
  .show j.ok p c
  .rw[ĉ.mp c];show⟨n,l⟩
 .rw[e,ě];show j.pm
def F2:(M8<|l9 κ È rs mg).size=rs.length:=by change(pos 0 rs).toArray.size=_;rw[ñ,oJ]
def F5:∀{rs},(∀p∈rs,Sr r p.1/\0<p.1.length)->rs.length<=(bC rs).length
 |[],_=>Õ _|(c,w)::rs,h=>by rw[l8,å,Ļ,Q4];show Mb (h _<|Ĭ ..).2<|F5 λp a=>h p<|ı _ a
def a9V(a:Rn r L [] rs)(b:rs.length<=1):Sr r (bC rs++[]):=by
 rw[ů];match rs,b,a with
 |[],_,_=>show Od|[(c,w)],_,a=>have:=(a.ok (c,w)<|Ĭ ..).1;rw[l8];change Sr r (c++[]);rw[ů];show this|_::_::_,b,_=>show absurd b<|by simp
def Bi(h:Rn r L È rs):(bC rs).length+È.length=L.length:=by rw[<- å];show h.pm.length_eq
def F6(h:Rn r L È rs)(a:L.length<=(bC rs).length):È=[]:=zm.mp<|by have:=Bi h;lia
def F7(hC:gQ prog w A₀ κ s X (lr r))(hX:∀x∈L,X x)(hD:jc r L)(h2:2<=L.length)(q:∀R pd mg',Sr r R->R.Perm L->Q () (Ě κ R.toArray pd mg' a7) s):ò (É prog w) A₀ E sortRuns' Q (Ě κ L.toArray #[] mg a7) s:=by
 have hsz:(cj<|Ě κ L.toArray #[] mg a7).size=L.length:=ñ;rw[sortRuns'_eq];show kU ?_;dsimp only;rw[hsz];generalize minRun' L.length L.length 0=mr;show uD<|sD (M1 κ r L) (wg κ r L [] λ_=>True) 0 L.length (λi b st hi M=>?_) (λb st M=>?_) (λb st m=>?_) (L.length-0) 0 _ _ ⋯<|@M1.mk κ r L 0 [] L mg ⟨λp z=>(by cases z),zb _⟩<|Ģ _
 .obtain @⟨rs,È,A,d,y⟩:=M;have K:=Bi d;dsimp only;show b9 (λhlo=>?_) λhlo=>?_;rotate_left
  .obtain rfl:=F6 d hlo;show á ⟨rfl,.mk d trivial⟩
  have hXr:∀x∈È,X x:=λx hx=>hX x<|d.pm.mem_iff.mp<|Ą.mpr<|.inr hx;have hDr:jc r È:=by have:jc r (bC rs++È):=hD.perm d.pm.symm λh=>h.symm;show(϶.mp this).2.1
  rw[show L.length-(bC rs).length=È.length by lia];have h0:0<È.length:=by lia
  apply a9W;rotate_left
  .intro T;show ħ<|Sy hC hXr hDr h0 λc t I h2 h3=>?_;dsimp only;have hct:=h3.length_eq;rw[å]at hct;show b9 (λhmr=>?_) λhmr=>?_
   .revert I h2 h3;clear hct hmr;revert t c;show T
   show r9 ?_;have ht:t=t.take (min È.length mr-c.length)++t.drop (min È.length mr-c.length):=(ž _ _).symm;have hD1:(t.take<|min È.length mr-c.length).length=min È.length mr-c.length:=by rw[Ń];lia
   generalize t.take (min È.length mr-c.length)=D at ht hD1;generalize t.drop (min È.length mr-c.length)=t' at ht;subst ht;rw[<- ě c D t',show min È.length mr=c.length+D.length by lia];show ħ (a9j hC (λx hx=>hXr x<|h3.mem_iff.mp<|by rw[<- ě];show hx) h2 I λc' l v=>?_);have hc':=v.length_eq;rw[å]at hc';rw[<- hc',if_neg<|by decide];show T c' t' ⋯ l<|(v.append_right t').trans<|by rw[ě];show h3
  .intro H O k1 k2 k3;show kU ?_;have Z:Rn r L (H++O) rs:=⟨d.ok,(k3.append_left _).trans d.pm⟩;rcases zx rs with u|⟨B,⟨U,wl⟩,u⟩
   .have N:(M8<|Ě κ (bC rs++(H++O)).toArray (pos 0 rs).toArray A a7).back?=none:=by rw[u];rfl
    simp only[N];show mZ<|á ⟨rfl,F1 Z rfl k1 k2 y⟩
   .rw[uw]at u;have N:(M8<|Ě κ (bC rs++(H++O)).toArray (pos 0 rs).toArray A a7).back?=a0 ((bC B).length,U.length,wl):=by rw[u];show a9X B U wl
    simp only[N];generalize power' L.length (2*(bC B).length+U.length) (2*(bC B).length+U.length+U.length+H.length) L.length=pw;show uD<|sD (λ_=>wg κ r L (H++O) λa=>a≠[]/\(bC a).length=(bC rs).length) (wg κ r L (H++O) λa=>a≠[]/\(bC a).length=(bC rs).length) 0 L.length (λj b st hj hJ=>?_) (λb st hJ=>hJ) (λb st m=>?_) (L.length-0) 0 _ _ ⋯<|.mk Z ⟨by rw[u];simp,rfl⟩
    .obtain @⟨a,g,_,l,v⟩:=hJ;show kU ?_;rw[F2];by_cases I:a.length>1;rotate_left
     .rw[if_neg I];show á ⟨rfl,.mk l v⟩
     rw[if_pos I];obtain⟨⟨o1,o2,o3⟩,ho⟩:∃o,(M8<|l9 κ (H++O) a g)[a.length-2]?=a0 o:=by change ∃o,(pos 0 a).toArray[a.length-2]?=a0 o;rw[Ϸ];show⟨_,ó<|by rw[oJ];lia⟩
     rw[ho];dsimp only;show b9 (λz=>?_) λz=>á ⟨rfl,.mk l v⟩;show ħ (FZ hC hX l ⋯ λrs2 mg3 a1 a2 a3=>?_);rw[if_neg<|by decide];show á ⟨rfl,.mk a1 ⟨λe=>by rw[e]at a2;simp at a2;lia,a3.trans v.2⟩⟩
    .obtain @⟨a,g,_,l,v,g3⟩:=m;dsimp only;show mZ ?_;rcases zx a with k|⟨G,⟨Y,wm⟩,k⟩
     .show absurd k v
     rw[uw]at k;subst k;have f1:bC (G++[(Y,wm)])=bC (G++[(Y,pw)]):=by rw[qE,qE];rfl
     show mZ<|á ⟨rfl,?_⟩;have:=@F1 κ r L rs (G++[(Y,pw)]) H O i g ⟨λp z=>?_,by rw[<- f1];show l.pm⟩ (by rw[<- f1];show g3) k1 k2 y
     .rw[<- a9Z G Y wm pw,<- f1]at this;show this
     .rcases Ą.mp z with z|z
      .show l.ok p<|by simp[z]
      .rw[ĉ.mp z];show l.ok (Y,wm)<|by simp
 .obtain @⟨rs,È,A,d,y⟩:=M;obtain rfl:=F6 d y;show .mk d trivial
 .obtain @⟨rs,A,n,d,-⟩:=m;dsimp only;have hfl:=F5 d.ok;have K:=Bi d;show uD<|sD (λi=>wg κ r L [] λrs=>rs.length+i<=L.length) (wg κ r L [] λrs=>rs.length<=1) 0 L.length (λi b st hi M=>?_) (λb st M=>?_) (λb st m=>?_) (L.length-0) 0 _ _ ⋯<|.mk d<|K▸hfl
  .obtain @⟨rs,g,_,d,N⟩:=M;show kU ?_;rw[F2];show b9 (λI=>?_) λI=>?_
   .show ħ<|FZ hC hX d ?_ λa mg' l v g3=>?_
    .split<;>(try split)<;>omega
    .rw[if_neg<|by decide];show á ⟨rfl,.mk l<|by lia⟩
   .show á ⟨rfl,.mk d I⟩
  .obtain @⟨rs,g,_,d,N⟩:=M;show .mk d<|by lia
  .obtain @⟨rs,g,_,d,N⟩:=m;show á<|q (bC rs++[]) (pos 0 rs).toArray g (a9V d N) d.pm
end
def a9U{rk:Value->Int}(N:us.Pairwise λx y=>rk x≠rk y)(h1:2<=us.length)(h2:us.length<=Ñ)(g:s.heap.get? c=a0 (ý "list" us.toArray z))(H:∀l,(∀b o,b≠c->s.heap.get? b=a0 o->l.get? b=a0 o)->xM prog w A us (λx y=>decide<|rk x<rk y) {s with heap:=l})(q:∀a:gq,a.Perm us->a.Pairwise (λx y=>rk x<=rk y)->R (.done<|.ret .none) {s with heap:=JF s.heap c us a.toArray}):
  Ç (É prog w) A (Builtin.«list.sort» ⟨[.ref c],[]⟩) R E s:=by
 rw[Q1]
 have lt:c<s.heap.objs.size:=ß g
 show Á<|O1 g rfl<|Á<|su g rfl ?_ (by rw[ñ];lia)<|Ģ _
 obtain⟨y,M⟩:∃y,(s.heap.update c<|a3n λ_=>#[]).get? c=a0 (ý "list" #[] y):=⟨_,O3 g _⟩
 show Á<|tu M rfl<|Á<|Mj (Á<|t6 (ō ?_)<|Ģ _)<|by change us.length<=_;lia
 have O:(((s.heap.update c<|a3n λ_=>#[]).push<|ý "tuple" us.toArray 0).push<|ý "list" #[] 0).get? c=a0 (ý "list" #[] y):=
  æ _<|æ _ M
 have m:=H (((s.heap.update c<|a3n λ_=>#[]).push<|ý "tuple" us.toArray 0).push<|ý "list" #[] 0) λb o Y e=>æ _<|æ _<|(gr _ _<|ć Y).trans e
 change Ç (É prog w) A _ R E ⟨((s.heap.update c<|a3n λ_=>#[]).push<|ý "tuple" us.toArray 0).push<|ý "list" #[] 0,s.gens,s.drawn,s.toks,s.os⟩
 dsimp only
 have i:¬ us.toArray.size<2:=by rw[ñ];lia
 rw[if_neg i,if_neg i]
 show Á<|Ķ m (λκ L B=>?_) λ_ _ x=>x.elim
 obtain⟨rfl,B⟩:=B
 have X:us.toArray.zip us.toArray=(us.map λu=>(u,u)).toArray:=by
  apply bh.mp
  rw[FI,ϥ]
 have run:=F7 (prog:=prog) (w:=w) (A₀:=A) (E:=E) (κ:=κ) (X:=λp=>∃u∈us,p=(u,u)) (r:=λp=>rk p.1)
  (s:={s with heap:=((s.heap.update c<|a3n λ_=>#[]).push<|ý "tuple" us.toArray 0).push<|ý "list" #[] 0}) (L:=us.map λu=>(u,u)) (mg:=7)
  (λx y C k K hc=>by
   obtain⟨u,I,rfl⟩:=k
   obtain⟨v,hv,rfl⟩:=K
   show B u v C I hv hc) (λx k=>by
   obtain⟨u,I,rfl⟩:=Þ.mp k
   show⟨u,I,rfl⟩) (by unfold jc;rw[Χ];show N) (by rw[Å];show h1)
  (Q:=λ_ j L=>L={s with heap:=((s.heap.update c<|a3n λ_=>#[]).push<|ý "tuple" us.toArray 0).push<|ý "list" #[] 0}/\failedOf j=a7/\∃a:gq,(cj j).map (·.2)=a.toArray/\a.Perm us/\a.Pairwise λx y=>rk x<=rk y) λT pd mg' l n=>⟨rfl,rfl,T.map (·.2),by
   change T.toArray.map (·.2)=_
   rw[QL],by
   have:=n.map (·.2)
   rw[ã]at this
   show this.trans<|by rw[show((λp:Keyed=>p.2)∘λu:Value=>(u,u))=id from rfl,WF],by
   rw[Χ]
   show zz (R:=λx y:Keyed=>rk x.1<=rk y.1) (λ{x y} k K h=>?_) l
   obtain⟨u,_,rfl⟩:=Þ.mp<|n.mem_iff.mp k
   obtain⟨v,_,rfl⟩:=Þ.mp<|n.mem_iff.mp K
   show h⟩
 rw[X]
 show Á<|Ķ run (λr L hr=>?_) λ_ _ e=>e
 obtain⟨⟨⟩,j⟩:=r
 obtain⟨rfl,Q,a,d,U,G⟩:=hr
 dsimp only at Q d ⊢
 rw[d]
 have Z:=U.length_eq
 show Á<|tu O rfl<|Á<|su O rfl ?_ (hsz2:=by rw[ñ];lia)
 rw[Q]
 simp only[bne_self_eq_false,ĸ,if_false]
 show Ð<|q a U G
section
variable{α:Type}{lt:α->α->Bool}
structure ť(lt:α->α->Bool):Prop where
 ir:∀x,lt x x=a8
 tr:∀x y z,lt x y=a9->lt y z=a9->lt x z=a9
 to:∀x y,lt x y=a8->lt y x=a8->x=y
abbrev fQ(lt:α->α->Bool)(l:List α)(x:α):Int:=(l.countP λy=>lt y x:Nat)
def F8(h:ť lt)(b:x∈l):lt x y=a9->fQ lt l x<fQ lt l y:=λe=>by
 unfold fQ;have:∀l:List α,l.countP (λz=>lt z x)<=l.countP (λz=>lt z y):=λl=>List.countP_mono_left λz _ d=>h.tr z x y d e;have i:l.countP (λz=>lt z x)<l.countP (λz=>lt z y):=by
  induction l with
  |nil=>cases b|cons a l g=>
   rw[Q8,Q8];rcases ċ.mp b with rfl|b
   .rw[h.ir,e,if_neg Ī,if_pos rfl];have:=this l;lia
   .have:=g b;by_cases c:lt a x=a9
    .rw[if_pos c,if_pos<|h.tr _ _ _ c e];lia
    .rw[if_neg c];split<;>lia
 lia
def xQ(h:ť lt)(b:x∈l)(c:y∈l):lt x y=decide (fQ lt l x<fQ lt l y):=by
 cases e:lt x y with
 |true=>rw[decide_eq_true<|F8 h b e]|false=>
  symm;rw[decide_eq_false_iff_not];cases a:lt y x with
  |true=>have:=F8 h c a;lia|false=>rw[h.to x y e a];lia
def F9(h:ť lt)(c:x∈l)(d:y∈l)(g:x≠y):fQ lt l x≠fQ lt l y:=λe=>by have a:=xQ h c d;have b:=xQ h d c;rw[e,decide_eq_false<|by lia]at a;rw[e,decide_eq_false<|by lia]at b;show g<|h.to x y a b
end
end L3
namespace L3
open PySem L2
open PyProof.Rows (IntsAre Fr News seqObj)
def nB:∀a,HT.lexLt a a=a8
 |[]=>rfl|x::a=>by rw[HT.lexLt_cons,if_pos rfl];show nB a
def Ga:∀{a b},a≠b->HT.lexLt a b=!HT.lexLt b a
 |[],[],h=>absurd rfl h|[],_::_,_=>rfl|_::_,[],_=>rfl|x::a,y::b,h=>by
  rw[HT.lexLt_cons,HT.lexLt_cons];by_cases e:x=y
  .subst e;rw[if_pos rfl,if_pos rfl];show Ga λz=>h<|by rw[z]
  .rw[if_neg e,if_neg<|ć e];rcases Int.lt_or_gt_of_ne e with z|z
   .rw[decide_eq_true z,decide_eq_false<|by lia];rfl
   .rw[decide_eq_false<|by lia,decide_eq_true z];rfl
def nC:∀{a b c},HT.lexLt a b=a9->HT.lexLt b c=a9->HT.lexLt a c=a9
 |_,[],[],_,h=>absurd h (by intro z;cases z)|_,_::_,[],_,h=>absurd h (by intro z;cases z)|[],_,_::_,_,_=>rfl|_::_,[],_::_,h,_=>absurd h (by intro z;cases z)|x::a,y::b,z::c,h1,h2=>by
  rw[HT.lexLt_cons]at h1 h2 ⊢;by_cases e:x=y
  .subst e;rw[if_pos rfl]at h1;by_cases d:x=z
   .subst d;rw[if_pos rfl]at h2 ⊢;show nC h1 h2
   .rw[if_neg d]at h2 ⊢;show h2
  .rw[if_neg e]at h1;by_cases d:y=z
   .subst d;rw[if_neg e];show h1
   .rw[if_neg d]at h2;rw[decide_eq_true_eq]at h1 h2;rw[if_neg<|by lia,decide_eq_true_eq];lia
end L3
namespace L3
open PySem
open PySem.W (KasT kas_asc kas_desc kas_tail3 kas_descPart kas_count kas_place kas_bin kas_sort kas_rev)
open PyProof.Rows (mirror bubble getElem?_bubble getElem?_mirror_all mirror_size bubble_size)
section
variable{α:Type}{lt:α->α->Bool}(irr:∀a,lt a a=a8)(tr:∀a b c,lt a b=a9->lt b c=a9->lt a c=a9)(nt:∀a b c,lt a b=a9->lt a c=a9\/lt c b=a9)
include irr tr nt in
def Bj(d:α)(xs:List α){n:Nat}(_:1<=n):(cR (λi j=>lt (xs.getD i d)<|xs.getD j d) n).Pairwise λi j=>lt (xs.getD j d) (xs.getD i d)=false:=by
 have h:=P5 (le:=λi j=>!(lt (xs.getD j d)<|xs.getD i d)) (λa b c g k=>by
  rw[N4]at g k ⊢;cases e:lt (xs.getD c d) (xs.getD a d)with
  |false=>rfl|true=>
   rcases nt _ _ (xs.getD b d) e with z|z
   .rw[z]at k;cases k
   .rw[z]at g;cases g) (λa b=>by
  cases e:lt (xs.getD b d) (xs.getD a d)with
  |false=>rfl|true=>
   cases l:lt (xs.getD a d) (xs.getD b d)with
   |false=>rfl
   |true=>have:=tr _ _ _ e l;rw[irr]at this;cases this)<|ġ n
 show h.imp λh=>by simpa using h
end
end L3
namespace L3
open PySem L2 PySem.W PyProof.Rows
def xR:ť HT.lexLt:=⟨nB,λ_ _ _=>nC,λa b h1 c=>SA λd=>by
 have:=Ga d;rw[h1,c]at this;cases this⟩
end L3
namespace L3
open PySem L2
abbrev kW(f g:D->D->Hm->jk)(a b c:ME):ME:=λρ d=>(a ρ d).bind λp=>(b ρ p.2).bind λq=>(f p.1 q.1 q.2).bind λr=>match r.1 with
 |.bl a9=>(c ρ r.2).bind λt=>g q.1 t.1 t.2|.bl a8=>a0 (.bl a8,r.2)|_=>a7
def Gb(hf:dE K f r)(hg:dE K g L):∀σ H Q,tM K (kW f g ma mb mc) σ H Q->Am r L (tM K ma) (tM K mb) (tM K mc) σ H Q:=by
 rintro σ H Q ⟨π,w,μ,d,q,R,E,e,k⟩;show aZ e ?_;clear e;intro x h Z e;show aZ e ?_;clear e;intro y i h2 e;show aZ e ?_;clear e;intro z j h3 e;show⟨π,w,μ,x,h,R,E,Z,λs v1 H1 n U i1=>⟨s,w,h,y,i,U,E.mono n,h2,λu M N o R2 I=>?_⟩⟩;show hf u N i x y z j v1 M _ R2 (i1.mono o) I h3 λm v3 O p A i3=>?_;cases z with
 |bl B=>
  cases i3;show⟨B,rfl,?_⟩;cases B with
  |true=>show oB ?_;show aZ e ?_;clear e;intro t l h4 e;show⟨m,w,j,t,l,A,((E.mono n).mono o).mono p,h4,λv v4 T G Y i4=>hg v T l y t d q M v4 Q Y ((I.mono p).mono G) i4 e<|k.after<|((n.trans o).trans p).trans G⟩|false=>show oA ?_;cases e;show k m _ O ((n.trans o).trans p) A<|.bl a8
 |_=>cases e
abbrev iM:Mt->Option (Int->Int->Bool)
 |.Lt=>a0 λi j=>decide (i<j)|.LtE=>a0 λi j=>decide (i<=j)|.Gt=>a0 λi j=>decide (j<i)|.GtE=>a0 λi j=>decide (j<=i)|_=>a7
def sM(h:iM op=a0 p):Ĕ X (ĺ op) (jI λi j=>.bl<|p i j)/\(op=.Lt\/op=.LtE\/op=.Gt\/op=.GtE):=by cases op<;>first|(cases h;first|show⟨Ai,by simp⟩|show⟨Aj,by simp⟩|show⟨Ak,by simp⟩|show⟨Al,by simp⟩)|cases h
def Gd(h':d=.Lt\/d=.LtE\/d=.Gt\/d=.GtE):Nd [op,d] [b,c]=false:=by change fu d c=a8;rcases h' with rfl|rfl|rfl|rfl<;>show eB _
def a9T{pos:è}(h:iM op=a0 p)(h':iM d=a0 q)(e:QE X a ma)(g:QE X b mb)(hc:QE X c mc):QE X (.Compare a [op,d] [b,c] pos) (kW (gK p) (gK q) ma mb mc):=
 ⟨c4 (b1r (sM h).1 (sM h').1 e.h g.h hc.h<|Gd (sM (X:=X) h').2)<|Gb kF kF⟩
def a9S{pos:è}(h:iM op=a0 p)(h':iM d=a0 q)(g:QE X a ma)(i:QE X b mb)(hc:QE X c mc):QT X (.Compare a [op,d] [b,c] pos) (aT<|kW (gK p) (gK q) ma mb mc):=
 ⟨wU (b1p (sM h).1 (sM h').1 g.h i.h hc.h<|Gd (sM (X:=X) h').2) λe H Q h=>Gb kF kF e H _<|Eu e H Q h⟩
abbrev xS(d:Bool):D->D->Hm->jk
 |.bl b,.bl c,μ=>a0 (.bl<|if d then !(b==c)else b==c,μ)|.int _,.bl _,μ=>a0 (.bl d,μ)|_,_,_=>a7
abbrev mB(d:Bool):D->D->Hm->jk:=λx y e=>match y with
 |.bl _=>xS d x y e|_=>l6 d x y e
abbrev Bk(d:Bool):R2:=λx y H Q=>∃c,y=.bl c/\((∃b,x=.bl b/\Q (.bl<|if d then !(b==c)else b==c) H)\/((∃i,x=.int i)/\Q (.bl d) H))
def xT:dE K (xS g) (Bk g):=by
 intro j H o x y d l m n Q R h i e k;unfold xS at e;split at e
 .cases e;cases h;cases i;show⟨_,rfl,.inl ⟨_,rfl,k j _ H .refl R<|.bl _⟩⟩
 .cases e;cases h;cases i;show⟨_,rfl,.inr ⟨⟨_,rfl⟩,k j _ H .refl R<|.bl _⟩⟩
 .cases e
def Ge:Ĕ X (ĺ .Is) (Bk a8):=by
 intro e s j H x y v u Q I d g h;obtain⟨c,rfl,h⟩:=h;cases g;rcases h with⟨b,rfl,q⟩|⟨⟨i,rfl⟩,q⟩
 .cases d;show Ð<|pO I q<|by cases b<;>cases c<;>rfl
 .obtain⟨t,rfl⟩:=d;show Ð<|pO I q rfl
def Gf:Ĕ X (ĺ .IsNot) (Bk a9):=by
 intro e s j H x y v u Q I d g h;obtain⟨c,rfl,h⟩:=h;cases g;rcases h with⟨b,rfl,q⟩|⟨⟨i,rfl⟩,q⟩
 .cases d;show Ð<|pO I q<|by cases b<;>cases c<;>rfl
 .obtain⟨t,rfl⟩:=d;show Ð<|pO I q rfl
def xU x y e r(h:mB d x y e=a0 r):xS d x y e=a0 r\/l6 d x y e=a0 r:=by
 unfold mB at h;split at h
 .show .inl h
 .show .inr h
def a9Q{pos:è}(d:QE X a ma)(e:QE X b mb):QE X (.Compare a [.Is] [b] pos) (aC (mB a8) ma mb):=pY ⟨gH Ge xT d.h e.h<|eB _⟩ (b1N d e)<|jP xU
def a9M{pos:è}(d:QE X a ma)(e:QE X b mb):QE X (.Compare a [.IsNot] [b] pos) (aC (mB a9) ma mb):=pY ⟨gH Gf xT d.h e.h<|eB _⟩ (b1L d e)<|jP xU
def a9L{pos:è}(d:QE X a ma)(e:QE X b mb):QT X (.Compare a [.Is] [b] pos) (aT<|aC (mB a8) ma mb):=rZ ⟨gJ Ge xT d.h e.h<|eB _⟩ (b1K d e)<|r6<|jP xU
def a9K{pos:è}(d:QE X a ma)(e:QE X b mb):QT X (.Compare a [.IsNot] [b] pos) (aT<|aC (mB a9) ma mb):=rZ ⟨gJ Gf xT d.h e.h<|eB _⟩ (b1J d e)<|r6<|jP xU
abbrev nD:MF:=λds a=>match ds with
 |[x]=>(bM a x).bind λc=>(pZ c).map λb=>(.int b.sum,a)|_=>a7
abbrev Gg(K:Ö):gw->Hp->VK->Prop:=λxs H Q=>∃(p:Addr)(a:List Int),xs=[.ref p]/\(č K H p (a.map V.int)\/î K H p (a.map V.int))/\Q (.int a.sum) H
def a9J:fF K nD (Gg K):=by
 intro h H o m d g j Q R i a k;unfold nD at a;split at a
 .obtain⟨n,b,a⟩:=œ.mp a;show bY a ?_;clear a;intro e c a;cases a;cases i with
  |cons i t=>cases t;obtain⟨p,l,rfl,q,hd⟩:=rX R i b;rw[xN c]at hd;have:=ĥ hd;subst this;show⟨p,e,rfl,q,k h _ H .refl R<|.int _⟩
 .cases a
def Gi(a:List Int):∀n,n<=a.length->preSum (λi=>a.getD i 0) n=(a.take n).sum
 |0,_=>rfl|n+1,h=>by
  have b:=Gi a n ⋯;have e:a.take (n+1)=a.take n++[a[n]]:=by rw[yl,ó<|by lia];rfl
  change preSum (λi=>a.getD i 0) n+a.getD n 0=_;rw[b,e,List.sum_append];simp[ę,ó<|show n<a.length by lia]
def Gj{σ:St}(I:Inv X Dn σ H s)(m:Moved l (λa b=>b=a) d c)(n:∀b o,s.heap.get? b=a0 o->d.heap.get? b=a0 o)(hw:∀b∈l,s.heap.objs.size<=b)(g:d.gens=s.gens/\d.drawn=s.drawn/\d.os=s.os):Inv X Dn σ H c:=by have k:∀b o,s.heap.get? b=a0 o->c.heap.get? b=a0 o:=λb o e=>m.heap b o (λz=>absurd (ĩ (ß e)<|hw b z)<|ϣ _)<|n b o e;have h:c.gens=s.gens:=m.gens.trans g.1;have i:c.drawn=s.drawn:=m.drawn.trans g.2.1;have j:c.os=s.os:=m.os.trans g.2.2;obtain⟨u,r,q,p,v⟩:=c;dsimp only at h i j k;subst h i j;show I.kept (t':=p) k
def Gk{a:List Int}(r:Ä (a.map V.int) its){i:Nat}(h:its.toArray[i]?=a0 v):∃t,v=.int (a.getD i 0) t:=by
 have b:its[i]?=a0 v:=by simpa using h
 have d:i<a.length:=by have:=(Ú.mp b).1;have:=r.length;rw[Å]at this;lia
 obtain⟨u,c,e⟩:=r.get (i:=i) (x:=.int a[i]) (by rw[ú,ó d];rfl);rw[b]at c;cases c;obtain⟨t,rfl⟩:=e;show⟨t,by simp[ę,d]⟩
def b0C(hc:X.calm=a9):ì X (.builtin "sum") (Gg X.K):=by
 intro B s N H M L Q I r h;obtain⟨p,d,rfl,w,q⟩:=h;obtain⟨u,rfl,G⟩:=iV r;cases G;have A:X.A.in1.handled=none:=I.ok.hd hc;have fin:∀a:gq,Ä (d.map V.int) a->preSum (λi=>d.getD i 0) a.toArray.size=d.sum:=λa l=>by
  have n:a.toArray.size=d.length:=by rw[ñ,<- l.length,Å]
  rw[n,Gi d _<|Õ _,ś]
 rcases w with w|w
 .obtain⟨a,l,g,E⟩:=I.list w;show Pr<|zc g.isList ?_;have j:p≠s.heap.objs.size:=by obtain⟨o,k,_⟩:=g.isList;show õ<|ß k
  show⟨s.heap.objs.size,_,_,_,_,_,_,λi=>d.getD i 0,rfl,(Ph A _ p j a.toArray).toS,⟨⟨_,ē _ rfl,rfl,rfl⟩,g.isList.push _⟩,?_,λi v y=>Gk l y,λK z m=>?_⟩
  .intro b c;change b<(s.heap.push _).objs.size;rw[fB];obtain⟨o,k,_⟩:=g.isList;have x:=ß k;simp only[ċ,uz,or_false]at c;rcases c with rfl|rfl
   .show Ψ _
   .show zg x
  .show⟨.int d.sum,H,Gj I m (λb o e=>æ _ e) (λb c=>?_) ⟨rfl,rfl,rfl⟩,⟨z,?_⟩,q⟩
   .have e:b=s.heap.objs.size:=by simpa using c
    show lu e.symm
   .rw[fin a l]
 .obtain⟨a,l,g,E⟩:=I.tuple w;show Pr<|My (show s.heap.IsTuple p a.toArray from g) ?_;have j:p≠s.heap.objs.size:=by obtain⟨o,k,_⟩:=g;show õ<|ß k
  show⟨s.heap.objs.size,_,_,_,_,_,_,λi=>d.getD i 0,rfl,(Pq A _ p j a.toArray).toS,⟨⟨_,ē _ rfl,rfl,rfl⟩,Se g _⟩,?_,λi v y=>Gk l y,λK z m=>?_⟩
  .intro b c;change b<(s.heap.push _).objs.size;rw[fB];obtain⟨o,k,_⟩:=g;have x:=ß k;simp only[ċ,uz,or_false]at c;rcases c with rfl|rfl
   .show Ψ _
   .show zg x
  .show⟨.int d.sum,H,Gj I m (λb o e=>æ _ e) (λb c=>?_) ⟨rfl,rfl,rfl⟩,⟨z,?_⟩,q⟩
   .have e:b=s.heap.objs.size:=by simpa using c
    show lu e.symm
   .rw[fin a l]
abbrev e8{b:Type}(xs:List b)(lo a st:Option Int):List b:=(Nk (ϭ lo a st xs.length).1 (ϭ lo a st xs.length).2.1 (ϭ lo a st xs.length).2.2).filterMap (xs[·]?)
abbrev oK(a:ME)(lo c st:MO):ME:=λρ d=>(a ρ d).bind λp=>(lo ρ p.2).bind λq=>(c ρ q.2).bind λr=>(st ρ r.2).bind λt=>if t.1≠a0 0 then(fP t.2 p.1).bind λb=>if(e8 b q.1 r.1 t.1).length<=Ñ then a0 (.loc t.2.length,t.2++[.lst<|e8 b q.1 r.1 t.1])else a7 else a7
def a9y(h:Æ K π n H vs ds)lo a st:Æ K π n H (e8 vs lo a st) (e8 ds lo a st):=by
 unfold e8;rw[h.length];generalize Nk _ _ _=l;induction l with
 |nil=>show .nil|cons i l b=>
  rw[qe,qe];cases a:ds[i]? with
  |none=>
   have:vs[i]?=none:=by rw[ϐ]at a ⊢;rw[h.length];show a
   rw[this];show b
  |some d=>obtain⟨v,c,e⟩:=h.get a;rw[c];show .cons e b
def a9x(r:Ä vs its)lo a st:Ä (e8 vs lo a st) (e8 its lo a st):=by
 unfold e8;rw[r.length];generalize Nk _ _ _=l;induction l with
 |nil=>show .nil|cons i l b=>
  rw[qe,qe];cases a:vs[i]? with
  |none=>
   have:its[i]?=none:=by rw[ϐ]at a ⊢;rw[<- r.length];show a
   rw[this];show b
  |some v=>obtain⟨u,c,d⟩:=r.get a;rw[c];show .cons d b
abbrev a9w(K:Ö)(te:TE)(tl th tt:TO):TE:=λσ H Q=>te σ H λx c=>tl σ c λl d=>th σ d λu g=>tt σ g λt b=>t≠a0 0/\∃a xs,x=.ref a/\č K b a xs/\(e8 xs l u t).length<=Ñ/\∀p,b p=a7->Q (.ref p) (aK b p<|.lst<|e8 xs l u t)
open PyProof.Rows in
def a9v{X:Cx}{e:Expr}{te:TE}{lo hi:Option Expr}{st:Expr}{tl th tt:TO}{pos p2:è}(N:PE X e te)(O:PO X lo tl)(T:PO X hi th)(R:PO X (a0 st) tt):PE X (.Subscript e (.Slice lo hi (a0 st) p2) pos) (a9w X.K te tl th tt):=by
 intro c s i H Q I h;show MM<|aQ (N c s i H _ I h) λv s1 ⟨x,y,E,r1,q1⟩=>?_;show wpAny_Slice<|aQ (O c s1 i y _ E q1) λo s2 ⟨l,z,G,pl,q2⟩=>aQ (T c s2 i z _ G q2) λw s3 ⟨u,A,K,pu,q3⟩=>aQ (R c s3 i A _ K q3) λp d ⟨t,B,L,pt,q4⟩=>?_;obtain⟨M,a,xs,rfl,U,Y,q⟩:=q4;cases r1;have m:Inv X c i B {d with heap:=d.heap.push {cls:=.type "slice",data:=.fields #[o,w,p]}}:=L.kept (t':=d.toks) λb ob q=>æ _ q;obtain⟨k,r,j,Z⟩:=m.list U;have n:=r.length;change Ç (É X.prog X.w) X.A (MQ e (.Slice lo hi (a0 st) p2) (.ref a)<|.ref d.heap.objs.size) (EP X c i Q) X.xe {d with heap:=d.heap.push {cls:=.type "slice",data:=.fields #[o,w,p]}};show Na (ops:=[.ref a,.ref d.heap.objs.size]) j.isList.typeIs OV.lookup ?_ (by with_unfolding_all rfl);show Qy j.isList (Sb ..) pl pu pt M ?_ (by rw[ñ]<;>lia);have g:M9 k.toArray l u t=(e8 k l u t).toArray:=by unfold M9 e8;simp
 rw[g];show⟨.ref _,_,m.laid (t':=d.toks) (o:=.lst (e8 xs l u t)) (λb ob q=>æ _ q) (Õ _) ?_,rfl,q _<|m.hok.fresh<|Õ _⟩;show⟨Y,_,0,a9x r l u t,ē _ rfl⟩
def a9t{pos:è}(he:QE X e z)(hl:QO X lo B)(hu:QO X hi A)(ht:QO X (a0 st) G):QE X (.Subscript e (.Slice lo hi (a0 st) p2) pos) (oK z B A G):=⟨c4 (a9v he.h hl.h hu.h ht.h)<|by
 rintro σ H Q ⟨π,m,μ,d,μ',R,E,a,k⟩;show aZ a ?_;clear a;intro x c T a;show aZ a ?_;clear a;intro l g U a;show aZ a ?_;clear a;intro u h Y a;show aZ a ?_;clear a;intro t o Z a;show⟨π,m,μ,x,c,R,E,T,λr v1 H1 i K i1=>⟨r,m,c,l,g,K,E.mono i,U,λs H2 j R2=>⟨s,m,g,u,h,R2,(E.mono i).mono j,Y,λv H3 n L=>⟨v,m,h,t,o,L,((E.mono i).mono j).mono n,Z,λπ4 H4 y w=>?_⟩⟩⟩⟩;split at a
 .rename_i O;show bU a ?_;clear a;intro xs h5 a;split at a
  .rename_i hz;cases a;obtain⟨p,I,rfl,q,hd⟩:=sC w (((i1.mono j).mono n).mono y) h5;have b:=a9y hd l u t;show⟨O,p,I,rfl,q,by rw[b.length];show hz,λp' hp=>?_⟩;obtain⟨N,M,_⟩:=w.alloc (c:=.lst (e8 xs l u t)) (o:=.lst (e8 I l u t)) hp b;show k _ _ _ ((((i.trans j).trans n).trans y).trans N) M j9
  .cases a
 .cases a⟩
def Bl{σ:St}{ch:List Addr}{a:Addr}(I:Inv X Dn σ H s)(k:∀b u,b∉ch->s.heap.get? b=a0 u->h'.get? b=a0 u)(i:∀b∈ch,iU X Dn H b)(j:s.heap.objs.size<=a)(new:â X.prog X.w (aK H a o) h' a o):Inv X Dn σ (aK H a o) {s with heap:=h',toks:=t'}:=by
 have d:=I.hok.fresh j;have g:∀b u,H b=a0 u->b∉ch:=λb u e z=>by have:=(i b z).1;rw[e]at this;cases this
 show I.step (g':=s.gens) (d':=s.drawn) (ch:=ch) (λb h=>let⟨L,x,M,y,A,B⟩:=i b h;⟨y,x,A,B⟩) (λb o _ _ hc e _=>k b o hc e) (λb o _ _ hc e _=>⟨o.slots,k b o hc e⟩) (λb K hc e n=>?_)
  (λb o hc e=>⟨o,k b o hc e⟩) (λb l q=>?_) (λb K l q=>?_) (λb N q=>?_) (λm E=>?_) (λb u e=>?_) I.bare
 .rw[aY<|õ<|ĩ (ß e) j];show n
 .rw[aY<|jW q d];show q
 .rw[aY<|jW q d];show q
 .show⟨#[],by rw[aY<|jW q d,q];simp⟩
 .obtain⟨o,w,p,G,r⟩:=E;show⟨o,w,p,k _ o (λz=>(i _ z).2.1 rfl) G,r⟩
 .by_cases h:b=a
  .subst h;rw[cP]at e;cases e;show new
  .rw[aY h]at e;show(I.hok b u e).stay (λc v hc q=>k c v ?_ q) (λc q=>by rw[aY<|jW q d];show q) λc l q=>by rw[aY<|jW q d];show q
   rcases hc with z|z
   .rw[z];show g b u e
   .show g c _ z
def Gm{σ:St}{ch:List Addr}(I:Inv X Dn σ H s)(k:∀b u,b∉ch->s.heap.get? b=a0 u->h'.get? b=a0 u)(d:∀b∈ch,iU X Dn H b):Inv X Dn σ H {s with heap:=h',toks:=t'}:=by
 have a:∀b u,H b=a0 u->b∉ch:=λb u e z=>by have:=(d b z).1;rw[e]at this;cases this
 show I.step (g':=s.gens) (d':=s.drawn) (ch:=ch) (λb x=>let⟨E,j,G,l,p,w⟩:=d b x;⟨l,j,p,w⟩) (λb o _ _ hc e _=>k b o hc e) (λb o _ _ hc e _=>⟨o.slots,k b o hc e⟩) (λb B hc e n=>n)
  (λb o hc e=>⟨o,k b o hc e⟩) (λb g q=>q) (λb B g q=>q) (λb K q=>⟨#[],by rw[q];simp⟩) (λm y=>?_) (λb u e=>?_) I.bare
 .obtain⟨o,i,h,A,r⟩:=y;show⟨o,i,h,k _ o (λz=>(d _ z).2.1 rfl) A,r⟩
 .show(I.hok b u e).stay (λc v hc q=>k c v ?_ q) (λc q=>q) λc g q=>q;rcases hc with z|z
  .rw[z];show a b u e
  .show a c _ z
abbrev Bm(K:Ö)(a:Addr):It:=
 ⟨λi H=>∃b x,č K H a b/\b[i]?=a0 x,λi H x c=>∃p v,x=.ref p/\H p=a7/\c=aK H p (.tup [.int i,v])/\∀b,č K H a b->b[i]?=a0 v,λi H=>∃b,č K H a b/\b.length<=i⟩
def Ta a e l(q:e≠l):
  Ņ Qc P w K (.Tuple es kx pt) (Bm K a) [e,l] e (λi h=>∃old,IsEnum h e l i old/\h.IsListIter l a i) where
 mem:=by simp
 obj:=λi h ⟨old,st,j⟩ b m=>by
  have g:b=e\/b=l:=by simpa using m
  rcases g with rfl|rfl
  .show⟨_,st,λv z=>by
    have z':Ŀ _=rT v:=z;cases z'⟩
  .obtain⟨o,G,c,d⟩:=j;show⟨o,G,λv z=>by rw[d]at z;cases z⟩
 keep:=λi h h' ⟨old,st,j⟩ k=>⟨old,k e (by simp) _ st,j.at λo G=>k l (by simp) o G⟩;item:=by
  intro X N hw M hc i B s σ H E I y ⟨old,st,j⟩ R;subst N hw M;obtain⟨xs,x,A,Z⟩:=R;obtain⟨its,rv,p,hz⟩:=I.list A;obtain⟨u,hu,ru⟩:=rv.get Z;show wpAny_pyNext_enum_item st j p.isList (x:=u) (by simpa using hu) q λh1 ho hit ht hsz hk=>⟨_,rfl,wpAny_letOwnedTupleGo_enum ho λh2 O n=>?_⟩;have r:e<s.heap.objs.size:=ß st;have T:s.heap.objs.size≠e:=Ř r;have Y:h2.get? s.heap.objs.size=a0 {cls:=.type "tuple",data:=.seq #[.int i s.toks,u]}:=(n.2 _ T).trans ht;have Q:H s.heap.objs.size=none:=I.hok.fresh<|Õ _;show⟨.ref s.heap.objs.size,aK H s.heap.objs.size<|.tup [.int i,x],?_,rfl,⟨s.heap.objs.size,x,rfl,Q,rfl,λys hy=>by rw[I.list_inj hy A];show Z⟩,⟨u,O,hit.extBut n.extBut<|ć q⟩,λb m=>?_⟩
  .show Bl (s:=s) (h':=h2) (t':=s.toks+1) (ch:=[e,l]) I (λb ob m L=>?_) y (Õ _) ?_
   .have g:b≠e/\b≠l:=by simpa using m
    show(n.2 b g.1).trans<|hk b ob g.1 g.2 L
   .show⟨by change(2:Nat)<=Ñ;decide,[.int i s.toks,u],.cons ⟨_,rfl⟩<|.cons ru .nil,_,Y,rfl,0,rfl,rfl⟩
  .have g:b=e\/b=l:=by simpa using m
   have hn:=(y b m).1;obtain⟨o,U,_⟩:=j;rw[aY]
   .show hn
   .rcases g with rfl|rfl
    .show õ r
    .show õ<|ß U
 done:=by
  intro X N hw M hc i B s σ H E I y ⟨old,st,j⟩ R;subst N hw M;obtain⟨xs,A,Z⟩:=R;obtain⟨its,rv,p,hz⟩:=I.list A;have hl:=rv.length;show wpAny_pyNext_enum_end (I.ok.hd hc) st j p.isList (by simp;lia) λh' L=>⟨rfl,Gm (t':=s.toks) (ch:=[e,l]) I (λb o m z=>L b o ?_ z) y⟩;have g:b≠e/\b≠l:=by simpa using m
  show g.2
 self:=λ_ _ _ _ _ ⟨old,st,_⟩ h=>Pu st h
structure wj(X:Cx)(e:Expr)(m:MI):Prop where
 h:∀es k p,PI X (.Tuple es k p) e (ψ X.K m)
def QJ.t(h:QJ X e m):wj X e m:=⟨λes k p=>h.h _⟩
abbrev sN(x:D):gO:=λa i=>(bM a x).map λxs=>(xs[i]?).map λd=>.tup [.int i,d]
abbrev sO(ms:MA):MI:=λρ b=>(ms ρ b).bind λp=>match p.1 with
 |[x]=>(fP p.2 x).map λa=>(sN x,a.length+1,p.2)|_=>a7
def Tc(R:Rp K π H r)(h:Ý K π r.length H v x)(w:fP r x=a0 xs):∃a,v=.ref a/\(∃vs,č K H a vs)/\Wk K (Bm K a) (sN x) π r.length H:=by
 have hw:bM r x=a0 xs:=by
  cases x with
  |rol k=>show w|loc b=>show w|_=>cases w
 obtain⟨p,vs,rfl,T,_⟩:=sC R h w;show⟨p,rfl,⟨vs,T⟩,?_⟩
  -- the list as it stands j
 have j:∀g c l,û π r.length H g c.length l->Rp K g l c->∀k,bM c x=a0 k->∃m,č K l p m/\Æ K g c.length l m k:=λg c l e n k I=>by
  have X:=h.mono e;have O:fP c x=a0 k:=by
   cases x with
   |rol zs=>show I|loc b=>show I|_=>cases w
  obtain⟨p',m,L,o,s⟩:=sC n X O;cases L;show⟨m,o,s⟩
 show⟨λg c l i e n z=>?_,λg c l i d e n z=>?_⟩
 .obtain⟨k,A,u⟩:=Ō.mp z;obtain⟨m,o,s⟩:=j g c l e n k A;have B:k[i]?=none:=by
   cases q:k[i]? with
   |none=>rfl|some d=>rw[q]at u;cases u
  show⟨m,o,by rw[s.length];show ϐ.mp B⟩
 .obtain⟨k,A,u⟩:=Ō.mp z;show bY u ?_;clear u;intro Z B M;subst M;obtain⟨m,o,s⟩:=j g c l e n k A;obtain⟨v,G,N⟩:=s.get B;show⟨⟨m,v,o,G⟩,?_⟩;rintro y Y ⟨t,v',rfl,Q,rfl,U⟩;have:=U m o;rw[G]at this;cases this;obtain⟨E,R2⟩:=n.fresh (o:=.tup [.int i,v]) Q;show⟨E,R2,.tup (.of cP)<|.cons (.int _)<|.cons (N.mono E) .nil⟩
abbrev Td(K:Ö)(c:TA):TI:=λσ H R=>c σ H λvs b=>∃a,vs=[.ref a]/\(∃xs,č K b a xs)/\R (Bm K a) b
open PyProof.Rows in
def Te{X:Cx}{a:Expr}{k:TA}{p pos pt:è}{es:List Expr}{G:Nat}(w:Gl X "enumerate") (y:X.mg "enumerate"=a7) (r:PA X [a] k)(A:ă [a] X.env=[(a8,eval a X.env)]):PI X (.Tuple es G pt) (.Call (.Name "enumerate" p) [a] [] pos) (Td X.K k):=by
 intro e s l H R I h;show Call_<|f9 I w y Boot.«enumerate»<|callWith_type1 (aQ (r pos e s l H _ I h) λT c ⟨U,i,d,M,L⟩=>?_) A rfl;obtain⟨n,rfl,⟨Y,z⟩,q⟩:=L;obtain⟨u,rfl,N⟩:=iV M;cases N;obtain⟨E,Q,K,O⟩:=d.list z;show call_enumerate_list K.isList λo j hit B x=>?_;show Pu j ?_;have m:Inv X e l i {c with heap:=o}:=d.kept (t':=c.toks) x;show⟨c.heap.objs.size+1,[c.heap.objs.size+1,c.heap.objs.size],_,_,i,rfl,m,Ta n _ _<|Nat.succ_ne_self _,⟨_,j,hit⟩,λb v=>?_,q⟩;have g:b=c.heap.objs.size+1\/b=c.heap.objs.size:=by simpa using v
 rcases g with rfl|rfl
 .show d.fpOk (ud _)<|d.hok.fresh<|ud _
 .show d.fpOk (Õ _)<|d.hok.fresh<|Õ _
def Tf{pos:è}(c:Gl X "enumerate")(d:X.mg "enumerate"=a7)(j:QA X [a] ms n):wj X (.Call (.Name "enumerate" p) [a] [] pos) (sO ms):=⟨λes L pt Dn s σ H R I hw=>by
 have l:=j.s;rw[Ŕ,í]at l;obtain⟨G,K,A,y,M,B,o,E,b,k⟩:=hw;show aZ b ?_;clear b;intro x g u b;show Te c d j.h (gN l.1) Dn s σ H R I ⟨G,K,A,x,g,o,E,u,λh N m r i e=>?_⟩;dsimp only at b;split at b
 .rename_i x;show bY b ?_;clear b;intro O v b;cases b;cases e with
  |cons e z=>cases z;obtain⟨q,rfl,w,W⟩:=Tc i e v;show⟨q,rfl,w,k h m _ r i W⟩
 .cases b⟩
def uH{pos:è}(I:PI X tg iter (ψ X.K w))(G:QG X tg g)(B:QB X body v)(K:xq (É X.prog X.w) X.A X.env X.xe)(hc:X.calm=a9)(L:iK iter=a9):
  QS X (.For tg iter body [] pos) (bO w g v):=⟨lR (b3a K hc I G.h B.h<|by intro z;cases iter<;>first|rfl|cases L)<|by
 rintro E T H ⟨O,Q,N,u,r,p,R,s,m,k⟩;obtain⟨⟨o,n,l⟩,A,m⟩:=œ.mp m;show⟨O,Q,N,o,n,l,R,s,A,λq x J i y W=>?_⟩;have M:pR X.K E q l.length x u r p:=by
  cases u with
  |nx=>show λa b e j h c=>k a b e (i.trans j) h c|bk=>show λa b e j h c=>k a b e (i.trans j) h c|ct=>show λa b e j h c=>k a b e (i.trans j) h c|rt d=>show KC.after k i
 show h16 W M .refl y (s.mono i) m⟩
abbrev Bn(put:D->D->D->Hm->Option Hm)(o i v:ME):MS:=λρ a=>(v ρ a).bind λp=>(o ρ p.2).bind λq=>(i ρ q.2).bind λr=>(put q.1 r.1 p.1 r.2).map λμ'=>(.nx,ρ,μ')
abbrev uI:D->D->D->Hm->Option Hm
 |.loc a,y,d,μ=>match μ[a]? with
  |some (.dT kvs)=>(dR y).bind λk=>if kvs.length<Ñ then a0 (μ.set a<|.dT<|cI kvs k d)else a7|_=>a7
 |_,_,_,_=>a7
abbrev sP:D->D->D->Hm->Option Hm:=uI
abbrev cQ:=Bn sP
def Gn:QS X st (aP i b8):=⟨λDn s σ H D I q=>by
 obtain⟨g,h,e,d,c,b,R,E,a,k⟩:=q;cases a⟩
abbrev oM(a:Hm)(x:D):List D->Option (List Bool)
 |[]=>a0 []|y::r=>(dG 8 a y x).bind λb=>(oM a x r).map λc=>b::c
abbrev sQ:D->List D->Hm->jk
 |.loc a,[x],μ=>match μ[a]? with
  |some (.lst xs)=>(oM μ x xs).bind λbs=>if bs.findIdx id<bs.length/\bs.length<=Ñ then a0 (.int (bs.findIdx id:Nat),μ)else a7|_=>a7
 |_,_,_=>a7
abbrev Gp(K:Ö):V->gw->Hp->VK->Prop:=λx vs H Q=>∃π b a xs y c bs,Rp K π H b/\x=.ref (π a)/\vs=[y]/\b[a]?=a0 (.lst xs)/\Ý K π b.length H y c/\oM b c xs=a0 bs/\bs.findIdx id<bs.length/\Q (.int (bs.findIdx id:Nat)) H
def Tg:jQ K sQ (Gp K):=by
 intro b H n x ds d o v p Q R j i a k;unfold sQ at a;split at a
 .split at a
  .rename_i m g;show bU a ?_;clear a;intro bs c a;split at a
   .rename_i e;cases a;cases i with
    |cons h l=>cases l;cases j;show⟨b,n,_,m,_,_,bs,R,rfl,rfl,g,h,c,e.1,k b _ H .refl R<|.int _⟩
   .cases a
  .cases a
 .cases a
def Th{σ:St}(I:Inv X Dn σ H s)(R:Rp X.K π H e)(Q:A.units+8<Ĉ)(rx:Ì x v)(Z:Ý X.K π e.length H x l):
  ∀{ys}{vs}{us}{bs},Æ X.K π e.length H vs ys->Ä vs us->oM e l ys=a0 bs->
   ∃g,(∀u∈us,uc A s u v (g u))/\us.map g=bs:=by
 classical
 intro ys vs us bs j k a
 have n:∀{ys:List D}{vs:gw}{us:gq}{bs:List Bool},Æ X.K π e.length H vs ys->Ä vs us->oM e l ys=a0 bs->(∀u∈us,∃c,uc A s u v c/\∃w m,Ì w u/\Ý X.K π e.length H w m/\dG 8 e m l=a0 c):=by
  intro ys
  induction ys with
  |nil=>
   intro vs us b j k a u d
   cases j
   cases k
   cases d
  |cons y ys G=>
   intro vs us b j k a u d
   cases j with
   |cons h t=>
    cases k with
    |cons r rt=>
     show bU a ?_
     clear a
     intro c q a
     show bY a ?_
     clear a
     intro M B a
     rcases ċ.mp d with rfl|d
     .show⟨c,AI I R 8 Q r rx h Z q,_,_,r,h,q⟩
     .show G t rt B u d
 have o:=n j k a
 show⟨λu=>if h:u∈us then mF (o u h)else a8,λu d=>?_,?_⟩
 .simp only[dif_pos d]
  show(vo<|o u d).1
 .have key:∀u (h:u∈us) w m c,Ì w u->Ý X.K π e.length H w m->dG 8 e m l=a0 c->mF (o u h)=c:=by
   intro u h w m c K Y L
   obtain⟨_,w2,N,r2,U,O⟩:=vo<|o u h
   have:w2=w:=r2.inj K
   subst this
   have:=A3 I R U Y
   subst this
   rw[O]at L
   show ė L
  have p:∀{ys:List D}{vs:gw}{i:gq}{bs:List Bool},(∀u∈i,u∈us)->Æ X.K π e.length H vs ys->Ä vs i->oM e l ys=a0 bs->i.map (λu=>if h:u∈us then mF (o u h)else a8)=bs:=by
   intro ys
   induction ys with
   |nil=>
    intro vs i b E j k a
    cases j
    cases k
    cases a
    rfl
   |cons y ys G=>
    intro vs i b E j k a
    cases j with
    |cons h t=>
     cases k with
     |@cons _ u _ us2 r rt=>
      show bU a ?_
      clear a
      intro c q a
      show bY a ?_
      clear a
      intro M B a
      have fI:u∈us:=E u<|Ĭ ..
      rw[ù,G (λz T=>E z<|ı _ T) t rt B,dif_pos fI,key u fI _ _ c r h q]
      show a
  show p (λ_ h=>h) j k a
def Ti(hu:X.A.units+20<Ĉ):kQ X "list.index" (Gp X.K):=by
 intro G s σ H x vs v us Q I rx Z h
 obtain⟨π,μ,a,xs,y,dy,bs,R,rfl,rfl,O,U,N,w,q⟩:=h
 cases rx
 obtain⟨u,rfl,Y⟩:=Z.one
 obtain⟨ws,L,hd⟩:=R.lst a xs O
 obtain⟨z,b,n,r,hl,e⟩:=I.lstM L
 obtain⟨g,K,E⟩:=Th I R (A:=X.A.in1) (by rw[pS];lia) Y U hd r N
 have k:bs.length=b.length:=by rw[<- E,Å]
 have A:bs.findIdx id<b.toArray.size:=by rw[ñ,<- k];show w
 have c:∀m (p:m<b.length),bs[m]?=a0 (g b[m]):=λm p=>by
  rw[<- E,ú,ó p];rfl
 have d:((bs.findIdx id:Nat):Int)<2^63-1:=by
  have l:bs.findIdx id<b.length:=by simpa using A
  have i:=pP
  have j:(bs.findIdx id:Nat)<Ñ:=by lia
  have o:((Ñ:Nat):Int)<=2^63-1:=by decide
  lia
 show jy F.slot_list_index ⟨_,e,rfl⟩ F.entry_list_index (F.args_list_index_2 _ _) (SeqAt.list_indexAt (π a) b.toArray n a7 #[] u g (bs.findIdx id) A d ?_ ?_) ⟨e,λy T=>K y<|by simpa using T,⟨.int (bs.findIdx id:Nat),H,I.tok _,⟨_,rfl⟩,q⟩⟩
 .have l:bs.findIdx id<b.length:=by simpa using A
  have i:=R0 (p:=id) (xs:=bs) (w:=w)
  have j:=c _ l
  rw[ó w]at j
  have o:=ė j
  rw[o]at i
  simpa using i
 .intro m p B
  have l:m<b.length:=by simpa using p
  have i:=Ry (p:=id) (xs:=bs) B
  have j:=c _ l
  have M:m<bs.length:=by lia
  rw[ó M]at j
  have o:=ė j
  rw[o]at i
  simpa using i
abbrev i0(c:List Int):List Int:=c.mergeSort λa b=>decide<|a<=b
def Gq(i:ns.Perm d)(j:ns.Pairwise (·<=·)):ns=i0 d:=by
 have e:(i0 d).Perm d:=Ov _ _;have g:(i0 d).Pairwise (·<=·):=by have:=P5 (le:=λa b:Int=>decide<|a<=b) (λa b c e g=>by simp only[decide_eq_true_eq]at *;lia) (λa b=>by simp only[pC,decide_eq_true_eq];lia) d;show this.imp λh=>by simpa using h
 show zq (le:=λa b:Int=>a<=b) (λa b _ _ e g=>by lia) j g<|i.trans e.symm
abbrev nE:MF:=λds a=>match ds with
 |[x]=>(fP a x).bind λc=>(pZ c).bind λb=>if b.length<64 then a0 (.loc a.length,a++[.lst<|(i0 b).map D.int])else a7|_=>a7
abbrev Gs(K:Ö):gw->Hp->VK->Prop:=λxs H Q=>∃(p:Addr)(a:List Int),xs=[.ref p]/\č K H p (a.map V.int)/\a.length<64/\∀l,H l=a7->Q (.ref l) (aK H l<|.lst<|(i0 a).map V.int)
def Tj:fF K nE (Gs K):=by
 intro v H u r d m n Q R i a k;unfold nE at a;split at a
 .obtain⟨s,e,a⟩:=œ.mp a;show bU a ?_;clear a;intro b g a;split at a
  .rename_i h;cases a;cases i with
   |cons i t=>cases t;obtain⟨p,o,rfl,q,hd⟩:=sC R i e;rw[xN g]at hd;have:=ĥ hd;subst this;show⟨p,b,rfl,q,h,λl j=>?_⟩;obtain⟨c,R2,_⟩:=R.alloc (c:=.lst ((i0 b).map D.int)) (o:=.lst ((i0 b).map V.int)) j<|uE _;show k _ _ _ c R2 j9
  .cases a
 .cases a
def Tn:ì X (.builtin "sorted") (Gs X.K):=by
 intro q s O H N M Q I r h;obtain⟨p,g,rfl,A,w,k⟩:=h;obtain⟨u,rfl,E⟩:=iV r;cases E;obtain⟨i,m,B,K⟩:=I.list A;have a:=m.length;rw[Å]at a;show b3O B.isList (wL m) ⋯ λc j n l o=>?_;obtain⟨e,x⟩:=b3Q s.heap i c;have y:H (s.heap.objs.size+1)=none:=I.hok.fresh<|ud _;have v:j=i0 g:=Gq l o;subst v;show⟨.ref<|s.heap.objs.size+1,_,I.laid (t':=s.toks) (a:=s.heap.objs.size+1) (o:=.lst ((i0 g).map V.int)) (λb L z=>b3P z) (ud _) ?_,rfl,k _ y⟩;have d:(i0 g).length<=Ñ:=by have:=l.length_eq;have G:=Ā;lia
 show⟨by rw[Å];show d,c.toList,e,Ax n,?_⟩;rw[x]
def To:rm (.type "list_reverseiterator") "__len__"=pure none:=by rw[MY,NH];kernel_rfl
def Tp:rm (.type "list_reverseiterator") "__length_hint__"=pure (a0<|.builtin "list_reverseiterator.__length_hint__"):=by rw[MY,NH];kernel_rfl
def Tq(b:s.TypeIs (.ref r) "list_reverseiterator")(h:Q a8 s):Ç (É prog w) A (Sf<|.ref r) Q E s:=by unfold Sf;show Á<|Ma b To ?_;dsimp only;show oh (λa=>absurd a<|by decide +kernel) λ_=>?_;show oh (λa=>absurd a<|by decide) λ_=>?_;show Á<|Ma b Tp ?_;generalize bH:("list_reverseiterator.__length_hint__":String)=id0;wp_delta;rw[show splitId id0=a0 ("list_reverseiterator","__length_hint__")from by subst bH;decide +kernel];subst bH;show Á (Me (T:="list_reverseiterator") (b:=a9) b (by rw[isSubtype_type];kernel_rfl) ?_);show oh (λa=>absurd a<|by decide) λ_=>?_;show oh (λ_=>?_) (λa=>absurd (by decide +kernel) a);show oh (λa=>absurd a<|by decide +kernel) λ_=>?_;show Ð h
def Ts(X:A.handled=a7)(hit:s.heap.IsRevIter p a ((its.size:Int)-1))(Z:s.heap.IsList a its)(G:a≠p)S(n:S≠p)(y:S≠a)res j(U:s.heap.get? S=a0 {cls:=.type "list",data:=.seq #[] j})(T:∀u tk c m,(∀b o,b≠S->b≠p->s.heap.get? b=a0 o->u.get? b=a0 o)->u.get? S=a0 {cls:=.type "list",dict:=a7,data:=.seq c m,slots:=#[]}->ItemsOf (λi v=>its[its.size-1-i]?=a0 v) c its.size->R (.ok<|.ret res) {s with heap:=u,toks:=tk})(hn:its.size<=Ñ):
  Ç (É prog w) A.in1 (il (.ref S) (.ref p) res)
   (λfin l=>match fin with|.done f=>R (.ok f) l|.again m=>m.quiet=a9/\Ρ (É prog w) A m R l) (λe l=>R (.error e) l) s:=by
 have z:S∉[p,a]:=by simp only[ċ,uz,or_false,not_or];show⟨n,y⟩
 have W:=Walks.listRev (prog:=prog) (w:=w) (A:=A.in1) X p a G its;have key:∀(h:Č)(d tk:Nat),h.IsRevIter p a ((its.size:Int)-1)->h.IsList a its->(∀b o,b≠S->s.heap.get? b=a0 o->h.get? b=a0 o)->
   h.get? S=a0 {cls:=.type "list",data:=.seq #[] d}->Ρ (É prog w) A (.builtin "list.extend.loop" ⟨[.ref S,.ref p,res],[]⟩) R {s with heap:=h,toks:=tk}:=by
  intro h d tk I r Y k;show codeAny_extend_loopS W.toS hn S z res its.size 0 _ #[] d rfl (Ģ _) ⟨Ģ _,by simpa using I,r⟩ k (ItemsOf.nil _) λl c m L x q=>?_;rw[Moved.eq_with L];show T l.heap l.toks c m (λb o K H e=>L.heap b o (λg=>?_)<|Y b o K e) x q;rcases ċ.mp g with M|g
  .show K M
  .show H<|ĉ.mp g
 unfold il;show Á<|yd (T:="list_reverseiterator") hit.typeIs ?_;have N:NQ (.ref S) (.ref p)=false:=by simp[NQ,n]
 have O:(ü "list_reverseiterator"==ü "list")=false:=by decide +kernel
 have Q:(ü "list_reverseiterator"==ü "tuple")=false:=by decide +kernel
 simp only[N,O,Q,Mn,ĸ,if_false];show Á<|wpAny_pyIter_revIter hit ?_;show Á<|ō<|Tq hit.typeIs ?_;show oh (λB=>absurd B<|by decide +kernel) λ_=>Ð ⟨Rr PySem.F.plain_extend_loop _,?_⟩;show key _ j s.toks hit Z (λb o _ e=>e) U
def Tt(G:A.handled=a7)(hit:s.heap.IsRevIter p a ((its.size:Int)-1))(I:s.heap.IsList a its)(u:a≠p)S(k:S≠p)(j:S≠a)(q:s.heap.get? S=a0 {cls:=.type "list",data:=.seq #[]})(B:∀h z c g,(∀b o,b≠S->b≠p->s.heap.get? b=a0 o->h.get? b=a0 o)->h.get? S=a0 {cls:=.type "list",dict:=a7,data:=.seq c g,slots:=#[]}->ItemsOf (λi v=>its[its.size-1-i]?=a0 v) c its.size->R (.ok<|.ret .none) {s with heap:=h,toks:=z})(K:its.size<=Ñ):
  Ç (É prog w) A.in1 (Builtin.«list.__init__» ⟨[.ref S,.ref p],[]⟩)
   (λfin n=>match fin with|.done f=>R (.ok f) n|.again g=>g.quiet=a9/\Ρ (É prog w) A g R n) (λe n=>R (.error e) n) s:=by
 change Ç _ _ (do let old <- NF (.ref S);SE (.ref S) λ_=>#[];letGo old.toList.reverse;il (.ref S) (.ref p) .none) _ _ s;show Á ?_;unfold NF;show Á<|Pc q rfl<|Ð ?_;change Ç _ _ (MB S (λ_=>#[]) >>= λ_=>letGo (#[]:Array Value).toList.reverse >>= λ_=>il (.ref S) (.ref p) .none) _ _ s;show Á<|yj q rfl ?_;have d:=gk (a3n λ_=>(#[]:Array Value)) q rfl;have jV:∀b o,b≠S->s.heap.get? b=a0 o->(s.heap.update S<|a3n λ_=>(#[]:Array Value)).get? b=a0 o:=
  λb o m e=>(gr _ _<|ć m).trans e
 show Á<|Nt ?_;show Ts G (hit.at λo e=>jV p o (ć k) e) (let⟨o,L,x⟩:=I;⟨o,jV a o (ć j) L,x⟩) u S k j .none _ d (λh z c g H r l=>?_) K;show B h z c g (λb o m y e=>H b o m y<|jV b o m e) r l
def Tu(H:A.handled=a7)(hit:s.heap.IsRevIter p a ((its.size:Int)-1))(y:s.heap.IsList a its)(q:a≠p)(K:its.size<=Ñ)(z:∀g r c m,(∀b o,b≠p->s.heap.get? b=a0 o->g.get? b=a0 o)->g.get? s.heap.objs.size=a0 {cls:=.type "list",dict:=a7,data:=.seq c m,slots:=#[]}->ItemsOf (λi v=>its[its.size-1-i]?=a0 v) c its.size->Q (.ref s.heap.objs.size) {s with heap:=g,toks:=r}):
  Ç (É prog w) A (call (.type "list") [.ref p]) Q E s:=by
 show Mi (Q₁:=λl d=>l=.ref s.heap.objs.size/\d={s with heap:=s.heap.push {cls:=.type "list",data:=.seq #[]}}) RV (SR _) SN
  (code_list_new _ ⟨rfl,rfl⟩) λl d k=>?_
 obtain⟨rfl,rfl⟩:=k;have u:(s.heap.push {cls:=.type "list",data:=.seq #[]}).get? s.heap.objs.size=a0 {cls:=.type "list",data:=.seq #[]}:=ē _ rfl;have L:p<s.heap.objs.size:=let⟨o,j,_⟩:=hit;ß j;have B:a<s.heap.objs.size:=let⟨o,j,_⟩:=y;ß j;show⟨⟨_,u,rfl⟩,SX _ _,Tt (A:=A.in1) H (hit.at λo e=>æ _ e) (let⟨o,j,x⟩:=y;⟨o,æ _ j,x⟩) q _ (Ř L) (Ř B) u (λg r c m I n h=>?_) K⟩;show⟨rfl,z g r c m (λb o G e=>I b o (õ<|ß e) G<|æ _ e) n h⟩
abbrev Gu(K:Ö):gw->Hp->VK->Prop:=λxs H Q=>∃(p:Addr)(ys:gw),xs=[.ref p]/\č K H p ys/\∀l,H l=a7->Q (.ref l) (aK H l<|.lst ys.reverse)
def Bo:∀{ys}{its},Ä ys its->Ä ys.reverse its.reverse
 |_,_,.nil=>.nil|_,_,.cons h t=>by rw[N7,N7];show(Bo t).append<|.cons h .nil
def Tv{pos:è}(hc:X.calm=a9)(O:Gl X "list")(T:X.mg "list"=a7)(r:Gl X "reversed")(w:X.mg "reversed"=a7)(N:PA X [e] t)(Y:ă [e] X.env=(a8,eval e X.env)::ă [] X.env):
  PE X (.Call (.Name "list" p) [.Call (.Name "reversed" G) [e] [] d] [] pos) (wK (Gu X.K) t):=by
 intro m s σ H Q I h;show ς (f9 I O T PB ?_ (by decide)<|by decide);show bj ?_ rfl rfl;change Ç _ _ (spliced<|(a8,eval (.Call (.Name "reversed" G) [e] [] d) X.env)::Ŋ pos (ă [] X.env)) _ _ s;show ig (ς<|f9 I r w b1W ?_ (by decide)<|by decide);show bj (aQ (N d m s σ H _ I h) λus j ⟨vs,H1,l,r1,q1⟩=>?_) Y rfl;obtain⟨q,ys,rfl,U,k⟩:=q1;obtain⟨u,rfl,ru⟩:=iV r1;cases ru;obtain⟨a,K,pl,Z⟩:=l.list U;have E:=K.length;have v:=pl.isList;have z:q<j.heap.objs.size:=let⟨o,y,_⟩:=v;ß y;show call_reversed_list v ?_;show ie ?_;show Tu (l.ok.hd hc) (p:=j.heap.objs.size) (a:=q) (its:=a.toArray) ⟨_,ē _ rfl,rfl,rfl⟩ (let⟨o,y,x⟩:=v;⟨o,æ _ y,x⟩) (õ z) (by simp only[ñ]<;>lia) λh' tk c L kp B g=>?_;have n:c.toList=a.reverse:=by
  show mq λi=>?_;have hn:c.size=a.length:=by simpa using g.1
  by_cases R:i<a.length
  .have M:=g.2 i c[i] (Oy<|by lia);rw[γ,Oy<|by lia,<- M,gm R,ñ,Ϸ]
  .rw[ώ<|by rw[ao];lia,ώ<|by rw[ό];lia]
 have A:(j.heap.push<|revObj q<|(a.toArray.size:Int)-1).objs.size=j.heap.objs.size+1:=by simp[Heap.push]
 rw[A]at B ⊢;show⟨.ref<|j.heap.objs.size+1,_,l.laid (t':=tk) (a:=j.heap.objs.size+1) (o:=.lst ys.reverse) (λb o e=>kp b o (õ<|ß e)<|æ _ e) ⋯ ⟨by rw[ό];show Z,a.reverse,L,Bo K,by rw[<- n];simpa using B⟩,rfl,k _<|l.hok.fresh<|by lia⟩
abbrev oN:MF:=λds b=>match ds with
 |[.loc a]=>match b[a]? with
  |some (.lst xs)=>a0 (.loc b.length,b++[.lst xs.reverse])|_=>a7
 |_=>a7
def Tw:fF K oN (Gu K):=by
 intro s H r q d o p Q R i b k;unfold oN at b;split at b
 .rename_i a;split at b
  .rename_i e n;cases b;cases i with
   |cons i t=>cases t;cases i;obtain⟨c,h,j⟩:=R.lst a e n;show⟨_,c,rfl,.of h,λl m=>?_⟩;obtain⟨g,R2,_⟩:=R.alloc (c:=.lst e.reverse) (o:=.lst c.reverse) m<|Fu j;show k _ _ _ g R2 j9
  .cases b
 .cases b
def Tx{pos:è}(hc:X.calm=a9)(d:X.mg "list"=a7)(g:X.mg "reversed"=a7)(h:QA X [e] ms n)(b:Gl X "list")(c:Gl X "reversed"):
  QE X (.Call (.Name "list" p) [.Call (.Name "reversed" j) [e] [] a] [] pos) (aG oN ms):=by
 have i:=h.s;rw[Ŕ,í]at i;show⟨c4 (Tv hc b d c g h.h<|gN i.1)<|AB Tw⟩
noncomputable abbrev bE:=List<|List Int×Addr×V
abbrev b6(ps:bE)(ws:gq):List (List Int×Addr×Value):=yq (λp w=>(p.1,p.2.1,w)) ps ws
def xV:∀(ps:bE)(ws:gq),yq wR ps ws=(b6 ps ws).map (Nj<|J0<|Ϛ P w)
 |[],_=>by simp[b6]
 |p::ps,[]=>by simp[b6]
 |p::ps,u::ws=>by have a:=xV (P:=P) (w:=w) ps ws;unfold b6 at a ⊢;rw[υ,υ,ù,a];rfl
def nG:∀{ps}{ws},Ä (ps.map (·.2.2)) ws->(b6 ps ws).map (·.1)=ps.map (·.1)
 |[],_,_=>by simp[b6]
 |p::ps,_,.cons r t=>by have a:=nG (ps:=ps) t;unfold b6 at a ⊢;rw[υ,ù,ù,a]
def Gv:∀{ps}{ws}{x},x∈b6 ps ws->∃p∈ps,p.1=x.1/\p.2.1=x.2.1
 |[],_,x,h=>by simp[b6]at h
 |p::ps,[],x,h=>by simp[b6]at h
 |p::ps,u::ws,x,h=>by
  unfold b6 at h;rw[υ]at h;rcases ċ.mp h with e|h
  .subst e;show⟨p,Ĭ ..,rfl,rfl⟩
  .obtain⟨q,a,e⟩:=Gv (ps:=ps) (ws:=ws) h;show⟨q,ı _ a,e⟩
abbrev d8(ps:bE)(k:List Int):Option V:=(ps.find? λp=>decide<|p.1=k).map (·.2.2)
abbrev dN(ps:bE)(k:List Int)(b:Addr)(v:V):bE:=if(d8 ps k).isSome then ps.map (λp=>if p.1=k then(p.1,p.2.1,v)else p)else ps++[(k,b,v)]
def qG:∀{ps}{ws},Ä (ps.map (·.2.2)) ws->∀k,Ŵ (d8 ps k) ((θ (b6 ps ws) k).map (·.2))
 |[],_,.nil,k=>by simp[d8,b6,θ];show J1
 |p::ps,_,.cons r t,k=>by
  have a:=qG (ps:=ps) t k;unfold d8 θ b6 at a ⊢;rw[υ,au,au];by_cases e:p.1=k
  .simp only[e,decide_true];show r
  .simp only[e,decide_false];show a
def uJ ps k b v:(dN ps k b v).length<=ps.length+1:=by unfold dN;split<;>simp
def Gw(d:Ì v u):∀{ps}{ws},Ä (ps.map (·.2.2)) ws->
  ∃a,Ä ((ps.map λp=>if p.1=k then(p.1,p.2.1,v)else p).map (·.2.2)) a/\(b6 ps ws).map (putAt k u)=b6 (ps.map λp=>if p.1=k then(p.1,p.2.1,v)else p) a
 |[],_,.nil=>⟨[],.nil,by simp[b6]⟩|p::ps,_,.cons (b:=w) r t=>by
  obtain⟨a,c,b⟩:=Gw d (ps:=ps) t;by_cases e:p.1=k
  .show⟨u::a,?_,?_⟩
   .rw[ù,ù,if_pos e];show .cons d c
   .unfold b6 at b ⊢;rw[υ,ù,b,ù,if_pos e,υ];unfold putAt;rw[if_pos e]
  .show⟨w::a,?_,?_⟩
   .rw[ù,ù,if_neg e];show .cons r c
   .unfold b6 at b ⊢;rw[υ,ù,b,ù,if_neg e,υ];unfold putAt;rw[if_neg e]
def Gx:∀{ps}{ws},Ä (ps.map (·.2.2)) ws->b6 ps ws++[(k,b,u)]=b6 (ps++[(k,b,v)]) (ws++[u])
 |[],_,.nil=>by simp[b6]
 |p::ps,_,.cons r t=>by have a:=Gx (k:=k) (b:=b) (v:=v) (u:=u) (ps:=ps) t;unfold b6 at a ⊢;rw[υ,Ű,a,Ű,Ű,υ]
def Bp(r:Ä (ps.map (·.2.2)) ws)k b(c:Ì v u):
  ∃a,Ä ((dN ps k b v).map (·.2.2)) a/\M3 (b6 ps ws) k b u=b6 (dN ps k b v) a:=by
 have e:=(qG r k).isSome_eq;rw[yw]at e;unfold dN M3;rw[e];by_cases h:(θ (b6 ps ws) k).isSome=a9
 .rw[if_pos h,if_pos h];show Gw c r
 .rw[if_neg h,if_neg h];show⟨ws++[u],?_,Gx r⟩;rw[Ę];show OJ r c
abbrev c6(K:Ö)(H:Hp)(ps:bE):Prop:=∀p∈ps,î K H p.2.1 (p.1.map V.int)
def jS{σ:St}{ps:bE}(I:Inv X Dn σ H s)(e:Rd H a (aL a ps))(n:c6 X.K H ps):(a==ř)=a8/\ps.length<=Ñ /\
  ∃b,Ä (ps.map (·.2.2)) b/\s.heap.DictOfH (J0<|Ϛ X.prog X.w) a (b6 ps b):=by
 obtain⟨⟨b,r,v,q,o,h,g,i,j,k,l,m⟩,_⟩:=(show â X.prog X.w H s.heap a (aL a ps)from e.ok I.hok);show⟨v,q,b,r,o,h,g,i,j,k,by rw[l];show xV ps b,λx w=>?_,by rw[nG r];show m⟩;obtain⟨p,u,c,d⟩:=Gv w;rw[<- c,<- d];show l7 I<|n p u
def xW{ps:bE}(l:(a==ř)=a8)(k:ps.length<=Ñ)(r:Ä (ps.map (·.2.2)) ws)(d:h'.DictOfH (J0<|Ϛ P w) a (b6 ps ws)):â P w m h' a (aL a ps):=by obtain⟨o,e,c,b,g,h,i,_,j⟩:=d;show⟨⟨ws,r,l,k,o,e,c,b,g,h,by rw[i,xV (P:=P) (w:=w)],by rw[<- nG r];show j⟩,⟨o,b⟩,?_⟩;rintro p q ⟨ws,r,l,k,o,e,c,b,g,h,i,j⟩ n;show⟨ws,r,l,k,o,e,c,n o b,g,h,i,j⟩
def Tz{σ:St}{ps:bE}(I:Inv X Dn σ H s)(e:Rd H a (aL a ps))(b:c6 X.K H ps):s.TypeIs (.ref a) "dict":=by obtain⟨_,_,c,_,d⟩:=jS I e b;show d.typeIs
def sR{X:Cx}{A:Ł}(b:A.units+1<Ĉ):(J0<|Ϛ X.prog X.w).room A.in1:=by change A.in1.units<Ĉ;rw[pS];lia
def TB{σ:St}{ps:bE}(o:A.units+1<Ĉ)(I:Inv X Dn σ H s)(e:Rd H a (aL a ps))(m:c6 X.K H ps)(l:î X.K H b (k.map V.int))(q:d8 ps k=a0 v)(h:∀c j,Inv X Dn σ H j->Ì v c->Q c j):Ç (É X.prog X.w) A (qy (.ref a)<|.ref b) Q E s:=by
 obtain⟨x,w,u,r,d⟩:=jS I e m;obtain⟨c,hw,i⟩:=Ŵ.some_of (v:=v) (o:=(θ (b6 ps u) k).map (·.2)) (by rw[<- q];show qG r k);show bY hw ?_;clear hw;intro p n g;show wpAny_getItem_heap (sR o) (l7 I l) d n ?_;rw[g];show h c _ (I.tok _) i
def TC{σ:St}{ps:bE}(l:A.units+1<Ĉ)(I:Inv X Dn σ H s)(e:Rd H a (aL a ps))(i:c6 X.K H ps)(g:î X.K H b (k.map V.int))(h:∀c,Inv X Dn σ H c->Q (.bool (d8 ps k).isSome) c):Ç (É X.prog X.w) A (ĺ .In (.ref b)<|.ref a) Q E s:=by
 obtain⟨j,m,n,r,d⟩:=jS I e i;show wpAny_in_heap (sR l) (l7 I g) j d ?_;have q:=(qG r k).isSome_eq;rw[yw]at q;rw[<- q];show h _<|I.tok _
def TF{σ:St}{ps:bE}(l:A.units+1<Ĉ)(I:Inv X Dn σ H s)(e:Rd H a (aL a ps))(i:c6 X.K H ps)(g:î X.K H b (k.map V.int))(h:∀c,Inv X Dn σ H c->Q (.bool<|!(d8 ps k).isSome) c):Ç (É X.prog X.w) A (ĺ .NotIn (.ref b)<|.ref a) Q E s:=by
 obtain⟨j,m,n,r,d⟩:=jS I e i;show b3N (sR l) (l7 I g) j d ?_;have q:=(qG r k).isSome_eq;rw[yw]at q;rw[<- q];show h _<|I.tok _
def TH{σ:St}{ps:bE}(x:A.units+1<Ĉ)(I:Inv X Dn σ H s)(e:H a=a0 (aL a ps))(o:c6 X.K H ps)(m:î X.K H b (k.map V.int))(hz:ps.length<Ñ)(B:Ì v u)(h:∀i,Inv X Dn σ (aK H a<|aL a<|dN ps k b v) i->Q () i):Ç (É X.prog X.w) A (setItem (.ref a) (.ref b) u) Q E s:=by
 obtain⟨w,L,G,r,d⟩:=jS I (.of e) o;have y:(b6 ps G).length<=Ñ:=by have:=congrArg ĭ<|nG r;rw[Å,Å]at this;lia
 show wpAny_setItem_heap (hsz:=y) (sR x) (l7 I m) d λl c g=>h _ ?_;obtain⟨K,z,j⟩:=Bp r k b B;rw[j]at c;have n:∃q,l.get? a=a0 q:=let⟨q,_,_,p,_⟩:=c;⟨q,p⟩;show Aq I (by rw[e];show J1) g n<|xW w (by have:=uJ ps k b v;lia) z c
abbrev ø(K:Ö)(π:Nat->Addr)(n:Nat)(H:Hp):bE->jx->Prop:=Ŧ λp q=>p.1=q.1/\î K H p.2.1 (p.1.map V.int)/\Ý K π n H p.2.2 q.2
def TJ{k:List Int}(h:Ý K π n H (.ref b) (.tup<|k.map D.int)):î K H b (k.map V.int):=by
 cases h with
 |tup q t=>rw[ĥ t]at q;show q
def ø.of:∀{ps}{kvs},ps.map (·.1)=kvs.map (·.1)->Æ K π n H (ps.map λp=>V.ref p.2.1) (kvs.map λk=>D.tup<|k.1.map D.int)->Æ K π n H (ps.map (·.2.2)) (kvs.map (·.2))->ø K π n H ps kvs
 |[],[],_,_,_=>.nil|[],_::_,h,_,_=>by cases h
 |_::_,[],h,_,_=>by cases h
 |p::ps,q::kvs,h,h2,h3=>by
  cases h2 with
  |cons a b=>
   cases h3 with
   |cons c d=>rw[ù,ù,Qz]at h;show .cons ⟨h.1,?_,c⟩<|ø.of h.2 b d;rw[h.1];show TJ a
def ø.keys:∀{ps}{kvs},ø K π n H ps kvs->c6 K H ps
 |_,_,.nil=>λp a=>nomatch a|_,_,.cons h t=>λp a=>by
  rcases ċ.mp a with e|a
  .subst e;show h.2.1
  .show ø.keys t p a
def ø.to:∀{ps}{kvs},ø K π n H ps kvs->ps.map (·.1)=kvs.map (·.1)/\Æ K π n H (ps.map λp=>V.ref p.2.1) (kvs.map λk=>D.tup<|k.1.map D.int)/\Æ K π n H (ps.map (·.2.2)) (kvs.map (·.2))
 |_,_,.nil=>⟨rfl,.nil,.nil⟩|_,_,.cons (a:=p) (b:=q) h t=>by obtain⟨a,b,c⟩:=ø.to t;show⟨by rw[ù,ù,h.1,a],.cons ?_ b,.cons h.2.2 c⟩;change Ý K π n H (.ref p.2.1) (.tup<|q.1.map D.int);rw[<- h.1];show .tup h.2.1<|uE p.1
def ø.val k:∀{ps}{kvs},ø K π n H ps kvs->(d8 ps k=a7/\bB kvs k=a7)\/∃v d,d8 ps k=a0 v/\bB kvs k=a0 d/\Ý K π n H v d
 |_,_,.nil=>.inl ⟨rfl,rfl⟩|_,_,.cons (a:=p) (b:=q) h t=>by
  have a:=ø.val k t;unfold d8 bB at a ⊢;rw[au,au,<- h.1];by_cases e:p.1=k
  .simp only[e,decide_true];show .inr ⟨_,_,rfl,rfl,h.2.2⟩
  .simp only[e,decide_false];show a
def ø.put(h:ø K π n H ps kvs)k(j:î K H b (k.map V.int))(i:Ý K π n H v d):ø K π n H (dN ps k b v) (cI kvs k d):=by
 have e:(d8 ps k).isSome=(bB kvs k).isSome:=by rcases h.val k with⟨c,g⟩|⟨v,d,c,g,_⟩<;>rw[c,g]<;>rfl
 have a:∀{ps:bE}{kvs:jx},ø K π n H ps kvs->ø K π n H (ps.map λp=>if p.1=k then(p.1,p.2.1,v)else p) (kvs.map λp=>if p.1=k then(p.1,d)else p):=by
  intro ps kvs h;unfold ø at h;induction h with
  |nil=>show .nil|@cons p q ps m h t l=>
   rw[ù,ù];show .cons ?_ l;by_cases z:p.1=k
   .rw[if_pos z,if_pos<|h.1.symm.trans z];show⟨h.1,h.2.1,i⟩
   .rw[if_neg z,if_neg λy=>z<|h.1.trans y];show h
 unfold dN cI;rw[e];split
 .show a h
 .show OJ h ⟨rfl,j,i⟩
def gR{kvs:jx}(R:Rp K π H μ)(h:μ[a]?=a0 (.dT kvs)):∃ps,H (π a)=a0 (aL (π a) ps)/\ø K π μ.length H ps kvs:=by obtain⟨ps,b,c,d,e⟩:=R.dT a kvs h;show⟨ps,b,.of c d e⟩
def uK{kvs:jx}(R:Rp K π H μ)(h:μ[a]?=a0 (.dF kvs)):∃b ps,H (π a)=a0 (.frz b<|aL (π a) ps)/\ø K π μ.length H ps kvs:=by obtain⟨b,ps,c,d,e,g⟩:=R.dF a kvs h;show⟨b,ps,c,.of d e g⟩
def nH(h:Ý K π n H v x)(e:dR x=a0 k):∃b,v=.ref b/\î K H b (k.map V.int):=by
 have:=a8J e;subst this;cases h with
 |tup q t=>rw[ĥ t]at q;show⟨_,rfl,q⟩
abbrev fA:ME:=λ_ a=>a0 (.loc a.length,a++[.dT []])
def xX(h:Č)(a:ř<h.objs.size):â P w H (h.push {cls:=.type "dict",data:=.dict #[]}) h.objs.size (aL h.objs.size []):=
 xW (ws:=[]) (beq_eq_false_iff_ne.mpr<|ć<|õ a) (Ģ _) .nil<|b4e h
abbrev TK:TE:=λ_ H Q=>∀p,H p=a7->Q (.ref p) (aK H p<|aL p [])
def TL{pos:è}:PE X (.Dict [] [] pos) TK:=λDn s σ H Q I h=>wpAny_Dict_empty ⟨.ref s.heap.objs.size,_,I.laid (a:=s.heap.objs.size) (o:=aL s.heap.objs.size []) (t':=s.toks) (λ_ _ q=>æ _ q) (Õ _)<|xX s.heap I.big,rfl,h _<|I.hok.fresh<|Õ _⟩
def TM{pos:è}:QE X (.Dict [] [] pos) fA:=⟨c4 TL<|by
 rintro m H Q ⟨j,l,i,d,g,R,E,c,k⟩ p e;cases c;obtain⟨b,a,h⟩:=R.alloc (c:=.dT []) (o:=aL p []) e ⟨[],rfl,rfl,.nil,.nil⟩;show k _ _ _ b a j9⟩
abbrev uL:D->D->Hm->jk
 |.loc a,y,μ=>match μ[a]? with
  |some (.dT kvs)=>(dR y).bind λk=>(bB kvs k).map λd=>(d,μ)|some (.dF kvs)=>(dR y).bind λk=>(bB kvs k).map λd=>(d,μ)|_=>a7
 |_,_,_=>a7
abbrev Gy(K:Ö):R2:=λx y H Q=>∃a b ps k v,x=.ref a/\y=.ref b/\Rd H a (aL a ps)/\c6 K H ps/\î K H b (k.map V.int)/\d8 ps k=a0 v/\Q v H
def TN{pos:è}(A:X.A.units+1<Ĉ)(w:PE X a td)(r:PE X b ty)(z:DY b):PE X (.Subscript a b pos) (λσ H Q=>td σ H λx d=>ty σ d λy g=>Gy X.K x y g Q):=by intro c s σ H Q I h;show a5N PySem.F.slot_dict_getitem.lookup z<|aQ (w c s σ H _ I h) λu N ⟨x,d,m,L,G⟩=>aQ (r c N σ d _ m G) λE R ⟨y,g,j,M,a,b,O,k,v,o,p,e,l,q,B,K⟩=>?_;subst o p;obtain rfl:u=Ò a:=L;obtain rfl:E=Ò b:=M;show⟨Tz j e l,TB A j e l q B λU T n i=>⟨v,g,n,i,K⟩⟩
def TQ:dE K uL (Gy K):=by
 intro u H L x y d E G I Q R r s c k;unfold uL at c;split at c
 .split at c
  .rename_i m hc;show bU c ?_;clear c;intro h j c;show bY c ?_;clear c;intro w g c;cases c;cases r;obtain⟨n,i,T⟩:=gR R hc;obtain⟨b,rfl,l⟩:=nH s j;rcases T.val h with⟨_,z⟩|⟨v,A,o,p,q⟩
   .rw[z]at g;cases g
   .rw[p]at g;cases g;show⟨_,b,n,h,v,rfl,rfl,.of i,T.keys,l,o,k u _ H .refl R q⟩
  .rename_i m hc;show bU c ?_;clear c;intro h j c;show bY c ?_;clear c;intro w g c;cases c;cases r;obtain⟨B,n,i,T⟩:=uK R hc;obtain⟨b,rfl,l⟩:=nH s j;rcases T.val h with⟨_,z⟩|⟨v,A,o,p,q⟩
   .rw[z]at g;cases g
   .rw[p]at g;cases g;show⟨_,b,n,h,v,rfl,rfl,.inr ⟨B,i⟩,T.keys,l,o,k u _ H .refl R q⟩
  .cases c
 .cases c
def TR{pos:è}(g:ç k X.A)(c:QE X a ma)(d:QE X b mb)(h:rY b=a9):QE X (.Subscript a b pos) (aC uL ma mb):=⟨c4 (TN (fI g) c.h d.h<|EZ h)<|t9 TQ⟩
abbrev TU(K:Ö)(td ty tv:TE):TS:=λD σ H=>tv σ H λv d=>td σ d λx g=>ty σ g λy c=>∃a b ps k,x=.ref a/\y=.ref b/\c a=a0 (aL a ps)/\c6 K c ps/\î K c b (k.map V.int)/\ps.length<Ñ/\D.nx σ (aK c a<|aL a<|dN ps k b v)
def TV{pos:è}{tv:TE}(K:X.A.units+1<Ĉ)(E:PE X o td)(A:PE X i ty)(L:PE X e tv)(G:dm e (a0<|.Subscript o i tpos) pos.line X.env=pure a8):
  PS X (.Assign [.Subscript o i tpos] e pos) (TU X.K td ty tv):=by
 intro c s d H D I h;show wpAny_Assign_Subscript (aQ (L c s d H _ I h) λr Z ⟨v,g,l,T,O⟩=>aQ (E c Z d g _ l O) λu s2 ⟨x,j,m,U,Q⟩=>aQ (A c s2 d j _ m Q) λN s3 ⟨y,H3,n,Y,a,b,ps,k,q,w,e,B,z,M,R⟩=>?_) G;subst q w;obtain rfl:u=Ò a:=U;obtain rfl:N=Ò b:=Y;show TH K n e B z M T λs4 p=>⟨d,_,p,R⟩
def TX{pos:è}(hr:ç g X.A)(ho:QE X o mo)(hi:QE X i mi)(he:QE X e me)(h:mX e=a9):QS X (.Assign [.Subscript o i tpos] e pos) (Bn uI mo mi me):=
 ⟨lR (TV (a7y hr) ho.h hi.h he.h<|AY h)<|by
 rintro E σ H ⟨π,K,μ,fl,ρ',μ',R,m,c,k⟩;show aZ c ?_;clear c;intro x j h1 c;show aZ c ?_;clear c;intro y l h2 c;show aZ c ?_;clear c;intro z A h3 c;show bY c ?_;clear c;intro μ4 d c;cases c;show⟨π,K,μ,x,j,R,m,h1,λB v1 H1 n Q i1=>⟨B,K,j,y,l,Q,m.mono n,h2,λG v2 H2 p R2 i2=>⟨G,K,l,z,A,R2,(m.mono n).mono p,h3,λI v3 H3 q L i3=>?_⟩⟩⟩;cases y with
 |loc a=>
  simp only[uI]at d;split at d
  .rename_i v hc;show bU d ?_;clear d;intro g h5 d;split at d
   .rename_i hz;cases d;have u:=i2.mono q;cases u with
    |loc r=>
     obtain⟨w,N,T⟩:=gR L hc;obtain⟨b,rfl,O⟩:=nH i3 h5;have hv:=(i1.mono p).mono q;have Y:=T.put g O hv;obtain⟨Z,g2,g3⟩:=Y.to;have s:w.length<Ñ:=by have:=congrArg ĭ (T.to).1;rw[Å,Å]at this;lia
     show⟨_,b,w,g,rfl,rfl,N,T.keys,O,s,?_⟩;obtain⟨M,U⟩:=L.put (c:=.dT (cI v g x)) (o:=aL _ (dN w g b v1)) r N (.inr<|.inr ⟨_,rfl⟩) ⟨_,rfl,Z,g2,g3⟩;show k I σ _ (((n.trans p).trans q).trans M) U<|(((m.mono n).mono p).mono q).mono M
   .cases d
  .cases d
 |_=>simp[uI]at d⟩
abbrev uM(b:Bool):D->D->Hm->jk
 |x,.loc a,μ=>match μ[a]? with
  |some (.dT kvs)=>(dR x).map λk=>(.bl<|if b then !(bB kvs k).isSome else(bB kvs k).isSome,μ)|some (.dF kvs)=>(dR x).map λk=>(.bl<|if b then !(bB kvs k).isSome else(bB kvs k).isSome,μ)|_=>a7
 |_,_,_=>a7
abbrev Bq(K:Ö)(c:Bool):R2:=λx y H Q=>∃a b ps k,x=.ref b/\y=.ref a/\Rd H a (aL a ps)/\c6 K H ps/\î K H b (k.map V.int)/\Q (.bl<|if c then !(d8 ps k).isSome else(d8 ps k).isSome) H
def Gz(j:X.A.units+1<Ĉ):Ĕ X (ĺ .In) (Bq X.K a8):=by intro d s p H x y v u Q I l m h;obtain⟨a,b,n,k,rfl,rfl,e,i,g,q⟩:=h;obtain rfl:v=Ò b:=l;obtain rfl:u=Ò a:=m;show TC j I e i g λo c=>⟨.bl _,H,c,rfl,q⟩
def GA(j:X.A.units+1<Ĉ):Ĕ X (ĺ .NotIn) (Bq X.K a9):=by intro d s p H x y v u Q I l m h;obtain⟨a,b,n,k,rfl,rfl,e,i,g,q⟩:=h;obtain rfl:v=Ò b:=l;obtain rfl:u=Ò a:=m;show TF j I e i g λo c=>⟨.bl _,H,c,rfl,q⟩
def xY:dE K (uM j) (Bq K j):=by
 intro q H z x y d s u w Q R o p a k;unfold uM at a;split at a
 .split at a
  .rename_i h hc;show bY a ?_;clear a;intro g c a;cases a;cases p;obtain⟨l,m,T⟩:=gR R hc;obtain⟨b,rfl,n⟩:=nH o c;have e:(d8 l g).isSome=(bB h g).isSome:=by rcases T.val g with⟨c,i⟩|⟨v,d,c,i,_⟩<;>rw[c,i]<;>rfl
   show⟨_,b,l,g,rfl,rfl,.of m,T.keys,n,?_⟩;rw[e];show k q _ H .refl R<|.bl _
  .rename_i h hc;show bY a ?_;clear a;intro g c a;cases a;cases p;obtain⟨r,l,m,T⟩:=uK R hc;obtain⟨b,rfl,n⟩:=nH o c;have e:(d8 l g).isSome=(bB h g).isSome:=by rcases T.val g with⟨c,i⟩|⟨v,d,c,i,_⟩<;>rw[c,i]<;>rfl
   show⟨_,b,l,g,rfl,rfl,.inr ⟨r,m⟩,T.keys,n,?_⟩;rw[e];show k q _ H .refl R<|.bl _
  .cases a
 .cases a
abbrev ö(h:Č)(d:Addr)(es:Array DictEntry)(ep:Nat):Prop:=∃z,h.get? d=a0 z/\z.ExactDict/\z.data=.dict es ep
def ö.ty{s:Ï}{es ep}(g:ö s.heap d es ep):s.TypeIs (.ref d) "dict":=let⟨z,a,b,_⟩:=g;⟨z,a,b.1⟩
def ö.stay{es ep}(g:ö h d es ep)(k:∀o,h.get? d=a0 o->h'.get? d=a0 o):ö h' d es ep:=let⟨z,a,b⟩:=g;⟨z,k z a,b⟩
def ö.lt{h:Č}{d:Addr} {es ep} (g:ö h d es ep):d<h.objs.size:=let⟨_,a,_⟩:=g;ß a
def GB(lo:(d==ř)=a8)(g:ö s.heap d es ep)(q:Q (.ref s.heap.objs.size) {s with heap:=s.heap.push {cls:=.type "dict_keyiterator",data:=.fields #[.ref d,.int 0 0,.int es.size 0,.int ep 0]}}):Ç (É P w) A (ϙ<|.ref d) Q E s:=by
 obtain⟨z,a,c,b⟩:=id g;show Mv g.ty F.slot_dict_iter<|Ϡ F.slot_dict_iter g.ty F.entry_dict_iter ?_<|F.args_dict_iter_1 _;unfold Builtin.«dict.__iter__» b4h;show Á<|Á<|qj g.ty ?_;change Ç _ _ (pure<|Ò d) _ _ _;show Ð ?_;change Ç _ _ (iu d >>= _) _ _ _;unfold iu;rw[if_neg λx=>Ī<|lo.symm.trans x];show Á<|Ð<|Á<|aj a b<|Á<|nj a b<|Á<|Η<|Ð ?_;show⟨_,rfl,"dict_keyiterator",_,⟨_,ē _ rfl,rfl⟩,F.slot_dict_keyiterator_next.lookup,by simpa[Ŝ]using q⟩
def xZ(o:A.handled=a7)(j:s.heap.IsKeyIter it d i es.size ep)(g:ö s.heap d es ep)(r:∀e a,es[i]?=a0 e->a.IsKeyIter it d (i+1) es.size ep->Ϭ it s.heap a->Q (a0 e.key) {s with heap:=a})(v:es[i]?=a7->∀a,ue it s.heap a->Q a7 {s with heap:=a}):Ç (É P w) A (Ŭ<|.ref it) Q E s:=by
 obtain⟨y,c,p,b⟩:=id j;obtain⟨z,l,B,m⟩:=id g;have k:∀{Q:String->Ï->Prop}{A:Ł}{E:Value->Ï->Prop},Q "dict_keyiterator" s->Ç (É P w) A (O4<|.ref it) Q E s:=λq=>wpAny_typeNameOfWhole_keyiter j.typeIs q;unfold Ŭ;show Á<|MR<|Oc (name:=Ż "__next__") j.typeIs F.slot_dict_keyiterator_next<|Ϡ F.slot_dict_keyiterator_next j.typeIs F.entry_dict_keyiterator_next ?_<|F.args_dict_keyiterator_next_1 _;show Á<|Ð<|Á<|Á<|Á<|k<|Ð<|Á<|OF c b ?_;rw[show vq "dict_keyiterator"=a8 by decide,if_neg Ī];change Ç _ _ (if(Ò d==ş)=a9 then _ else _) _ _ _;rw[if_neg<|show ¬ (Ò d==ş)=a9 from λx=>Ī x];show Á<|Ð<|Á<|aj l m ?_;rw[if_neg λx=>by simp at x];show Á<|Ð<|Á<|nj l m ?_;rw[if_neg λx=>by simp at x];show Ð ?_;dsimp only;rw[if_neg<|show ¬ ((i:Int)<0) by lia,vX];cases n:es[i]? with
 |some e=>
  show Á<|Á<|k<|Ð<|Á<|QX j.typeIs ?_;change Ç _ _ (rE (.ref it) 1 (Ŝ<|(i:Int)+1) >>= _) _ _ _;show Á (yu c b (by simp) ?_);have h:(s.heap.update it<|Ml (·.setIfInBounds 1<|Ŝ<|(i:Int)+1)).IsKeyIter it d (i+1) es.size ep:=
   ⟨_,gk _ c<|RA<|Mp b _,(QU ..).trans p,by simp[Mp b,Ŝ]⟩
  generalize hu:s.heap.update it (Ml (·.setIfInBounds 1<|Ŝ<|(i:Int)+1))=u at h;show Á<|ō<|Á<|QX (s:={s with heap:=u}) h.typeIs ?_;change Ç _ _ (pure e.key) _ _ _;show Ð<|Ð ⟨_,rfl,Ð<|r e u n h<|hu▸gD ..⟩
 |none=>show Á<|Á<|k<|Ð ?_;change Ç _ _ (rE (.ref it) 0 .none >>= _) _ _ _;show Á (yu c b (by simp) ?_);change Ç _ _ (qw (.type "StopIteration") [] >>= _) _ _ _;simp only[qw,NY];show Á (Á<|Η ?_<|by size_fits);show Á (m:=uq _ _) (Nu (a:=ş) (by first|rfl|(simp only[uq];rfl))<|Η ?_<|by size_fits);unfold NZ;show Á<|Nz ?_;rw[show A.in1.handled=a7 from o];show Á<|Ð<|Nv ?thrown;case thrown=>show Á<|Me (T:="StopIteration") (b:=a9) ⟨_,ē _ rfl,rfl⟩ OC<|Ð<|v n _<|((gD ..).extBut.push _).push _
def GC(m:A.handled=a7)(l:d≠it)es ep:Walks P w A it [it,d] [it] es.size (λi v=>∃e,es[i]?=a0 e/\v=e.key) (λi h=>h.IsKeyIter it d i es.size ep/\ö h d es ep) where
 sub:=λb a=>by rw[ĉ.mp a];show Ĭ ..
 frame:=λ_ _ _ st k=>⟨st.1.at λo e=>k it (by simp) o e,st.2.stay λo e=>k d (by simp) o e⟩
 item:=λi s Q E r st q=>xZ m st.1 st.2 (λe j c p n=>q _ j s.toks ⟨e,c,rfl⟩ ⟨p,st.2.stay λo g=>n.extBut d o l g⟩ λb o a g=>n.extBut b o (λz=>a<|by simp[z]) g) λc=>by simp at c;lia
 done:=λs Q E st q=>xZ m st.1 st.2 (λe j c=>by simp at c) λ_ j x=>q j s.toks λb o a g=>x b o (λz=>a<|by simp[z]) g
 self:=λ_ _ _ _ st q=>Qr st.1 q
def GD(lo:(d==ř)=a8):PySem.W.KdlSrc P w "dict" d d es.size (λi v=>∃e,es[i]?=a0 e/\v=e.key) (λh=>ö h d es ep) where
 type:=λ_ g=>g.ty
 there:=λ_ g=>⟨g.lt,g.lt⟩
 keep:=λ_ _ g k=>g.stay λo e=>k d (.inl rfl) o e
 notList:=by decide
 notTuple:=by decide
 hint:=λ_ _ _ _ g q=>PySem.W.kdl_hint_dict g.ty q
 iter:=λ_ _ a g=>⟨_,_,(λ_ _ q=>GB lo g q),GC a (õ g.lt) es ep,⟨⟨_,ē _ rfl,rfl,rfl⟩,g.stay λo e=>æ _ e⟩⟩
def TY(lo:(d==ř)=a8):xn P w (Builtin.«dict.__len__» ⟨[.ref d],[]⟩) (λ_ R s=>∃es ep,ö s.heap d es ep/\R (.ok<|.ret<|.int (es.size:Nat) s.toks) {s with toks:=s.toks+1}):=
 .of_wp λA R s ⟨es,ep,⟨z,a,c,b⟩,q⟩=>by change Ç _ _ (dictSize d >>= _) _ _ _;unfold dictSize;show Á<|Á<|aj a b<|Ð ?_;change Ç _ _ (b4f d >>= _) _ _ _;show Á<|wpAny_pendingCount_other lo<|wpAny_ret_mkInt ?_;rw[Q5];show q
def TZ{s:Ï}(lo:(d==ř)=a8)(g:ö s.heap d es ep)(hz:es.size<=Ñ)(q:Q (.int (es.size:Nat)<|s.toks+1) {s with toks:=s.toks+1+1}):Ç (É P w) A (call (.builtin "len") [.ref d]) Q E s:=
 b3X g.ty F.slot_dict_len (λb a=>WP F.slot_dict_len g.ty F.entry_dict_len (F.args_dict_len_1 _) (TY lo) ⟨es,ep,g,a⟩) ⋯ (by rw[Ā]at hz;lia) q
def Br:∀{ps}{ws},Ä (ps.map (·.2.2)) ws->(b6 ps ws).map (λx=>Ò x.2.1)=ps.map λp=>Ò p.2.1
 |[],_,_=>by simp[b6]
 |p::ps,_,.cons r t=>by have a:=Br (ps:=ps) t;unfold b6 at a ⊢;rw[υ,ù,ù,a]
def oO{σ:St}{ps:bE}(I:Inv X Dn σ H s)(e:H a=a0 (aL a ps))(h:c6 X.K H ps):(a==ř)=a8/\ps.length<=Ñ/\∃es ep,ö s.heap a es ep/\es.toList.map (·.key)=ps.map λp=>Ò p.2.1:=by obtain⟨j,i,k,r,z,es,ep,b,c,d,g,_⟩:=jS I (.of e) h;show⟨j,i,es,ep,⟨z,b,c,d⟩,?_⟩;rw[g,ã,<- Br r];rfl
abbrev GF(K:Ö):gw->Hp->VK->Prop:=λxs H Q=>∃a ps,xs=[V.ref a]/\H a=a0 (aL a ps)/\c6 K H ps/\Q (.int ps.length) H
def CpI:ì X (.builtin "len") (GF X.K):=by
 intro Dn s σ H o n Q I r h;obtain⟨a,ps,rfl,c,e,q⟩:=h;obtain⟨u,rfl,k⟩:=iV r;cases k;obtain⟨j,m,b,l,g,d⟩:=oO I c e;have i:b.size=ps.length:=by have:=congrArg ĭ d;simpa using this
 show TZ j g ⋯ ?_;rw[i];show⟨.int ps.length,H,(I.tok _).tok _,⟨_,rfl⟩,q⟩
def T3{pos:è}(l:ç k X.A)(g:QE X a ma)(j:QE X b mb)(h:rY b=a9):QE X (.Subscript a b pos) (aC aI ma mb):=
 pY (TR l g j h) (b2u g j h)<|jP λx y m r c=>by
  unfold aI at c;split at c
  .split at c
   .rename_i d hc;show .inl ?_;simp only[uL,hc];show c
   .rename_i d hc;show .inl ?_;simp only[uL,hc];show c
   .show .inr c
  .show .inr c
abbrev sS(c:Bool):D->D->Hm->jk:=λx y d=>match uM c x y d with
 |some r=>a0 r|none=>oF c x y d
def yA x y d r(h:sS c x y d=a0 r):uM c x y d=a0 r\/oF c x y d=a0 r:=by
 unfold sS at h;split at h
 .rename_i z;rw[z];show .inl h
 .show .inr h
def GG x y l r(h:cA g x y l=a0 r):(∃i j,x=.str i/\y=.str j)\/sS g x y l=a0 r:=by
 cases y with
 |loc a=>
  show .inr ?_;have e:cA g x (.loc a) l=(match l[a]? with
   |some (.dT d)=>(dR x).map λk=>(D.bl<|if g then !(bB d k).isSome else(bB d k).isSome,l)|some (.dF d)=>(dR x).map λk=>(D.bl<|if g then !(bB d k).isSome else(bB d k).isSome,l)
   |_=>oF g x (.loc a) l):=by cases x<;>rfl
  rw[e]at h;unfold sS;simp only[uM];cases hc:l[a]? with
  |none=>rw[hc]at h;show h|some c=>
   rw[hc]at h;cases c with
   |dT d=>dsimp only at h ⊢;rw[h]|dF d=>dsimp only at h ⊢;rw[h]|_=>show h
 |str j=>
  cases x with
  |str i=>show .inl ⟨i,j,rfl,rfl⟩|_=>show .inr h
 |_=>cases x<;>show .inr h
def GH x y c r(h:cA a8 x y c=a0 r):AR x y c=a0 r\/sS a8 x y c=a0 r:=by
 rcases GG x y c r h with⟨i,j,rfl,rfl⟩|z
 .show .inl h
 .show .inr z
def GJ x y c r(h:cA a9 x y c=a0 r):A6 x y c=a0 r\/sS a9 x y c=a0 r:=by
 rcases GG x y c r h with⟨i,j,rfl,rfl⟩|z
 .show .inl h
 .show .inr z
def T4{pos:è}(g:ç k X.A)(c:QE X a ma)(d:QE X b mb)(h:iK b=a9):QE X (.Compare a [.In] [b] pos) (aC (cA a8) ma mb):=
 pY ⟨gH DK EM c.h d.h<|kG h⟩ (pY ⟨gH (Gz<|fI g) xY c.h d.h<|kG h⟩ ⟨gH (Fj<|xG g) xE c.h d.h<|kG h⟩<|jP yA)<|jP GH
def T5{pos:è}(g:ç k X.A)(c:QE X a ma)(d:QE X b mb)(h:iK b=a9):QE X (.Compare a [.NotIn] [b] pos) (aC (cA a9) ma mb):=
 pY ⟨gH D7 Fn c.h d.h<|kG h⟩ (pY ⟨gH (GA<|fI g) xY c.h d.h<|kG h⟩ ⟨gH (Fm<|xG g) xE c.h d.h<|kG h⟩<|jP yA)<|jP GJ
def T6{pos:è}(g:ç k X.A)(c:QE X a ma)(d:QE X b mb)(h:iK b=a9):QT X (.Compare a [.In] [b] pos) (aT<|aC (cA a8) ma mb):=
 rZ ⟨gJ DK EM c.h d.h<|kG h⟩ (rZ ⟨gJ (Gz<|fI g) xY c.h d.h<|kG h⟩ ⟨gJ (Fj<|xG g) xE c.h d.h<|kG h⟩<|r6<|jP yA)<|r6<|jP GH
def T7{pos:è}(g:ç k X.A)(c:QE X a ma)(d:QE X b mb)(h:iK b=a9):QT X (.Compare a [.NotIn] [b] pos) (aT<|aC (cA a9) ma mb):=
 rZ ⟨gJ D7 Fn c.h d.h<|kG h⟩ (rZ ⟨gJ (GA<|fI g) xY c.h d.h<|kG h⟩ ⟨gJ (Fm<|xG g) xE c.h d.h<|kG h⟩<|r6<|jP yA)<|r6<|jP GJ
def T8{pos:è}(j:ç k X.A)(g:QE X o mo)(d:QE X i mi)(c:QE X e me)(h:mX e=a9):QS X (.Assign [.Subscript o i tpos] e pos) (cQ mo mi me):=TX j g d c h
abbrev Bs(K:Ö)(a b:Addr):It:=
 ⟨λi H=>∃c d x y,č K H a c/\č K H b d/\c[i]?=a0 x/\d[i]?=a0 y,
   λi H z e=>∃p v u,z=.ref p/\H p=a7/\e=aK H p (.tup [v,u])/\(∀c,č K H a c->c[i]?=a0 v)/\∀d,č K H b d->d[i]?=a0 u,
   λi H=>∃c d,č K H a c/\č K H b d/\(c.length<=i\/d.length<=i)⟩
def T9(A:ZipApart z n to l m a b):
  Ņ Qc P w K (.Tuple es kx pt) (Bs K a b) [z,n,to,l,m] z (λi h=>IsZip h z n to .none/\IsPair h n (.ref l) (.ref m)/\(∃u v,IsPair h to u v)/\h.IsListIter l a i/\h.IsListIter m b i) where
 mem:=by simp
 obj:=λi h ⟨r,B,⟨u,v,L⟩,M,N⟩ c hc=>by
  have hc':c=z\/c=n\/c=to\/c=l\/c=m:=by simpa using hc
  rcases hc' with rfl|rfl|rfl|rfl|rfl
  .show⟨_,r,λq e=>by
    have T:Ŀ _=rT q:=e;cases T⟩
  .show⟨_,B,λq e=>by
    have T:MH _ _=rT q:=e;cases T⟩
  .show⟨_,L,λq e=>by
    have T:MH _ _=rT q:=e;cases T⟩
  .obtain⟨o,e1,c,d⟩:=M;show⟨o,e1,λv e=>by rw[d]at e;cases e⟩
  .obtain⟨o,e1,c,d⟩:=N;show⟨o,e1,λv e=>by rw[d]at e;cases e⟩
 keep:=λi h h' ⟨r,B,⟨u,v,L⟩,M,N⟩ k=>⟨k z (by simp) _ r,k n (by simp) _ B,⟨u,v,k to (by simp) _ L⟩,M.at λo e=>k l (by simp) o e,N.at λo e=>k m (by simp) o e⟩;item:=by
  intro X hP hw hK hc i Dn s σ H E I Y ⟨r,B,⟨u,v,L⟩,M,N⟩ hg;subst hP hw hK;obtain⟨xs,ys,x,y,Z,G,R,hy⟩:=hg;obtain⟨its,rv,p,hz⟩:=I.list Z;obtain⟨U,O,p2,hz2⟩:=I.list G;obtain⟨u1,fI,ru1⟩:=rv.get R;obtain⟨u2,hu2,ru2⟩:=O.get hy;show wpAny_pyNext_zip_item A r B L M N p.isList p2.isList (x:=u1) (y:=u2) (by simpa using fI) (by simpa using hu2) λh1 a1 a2 a3 a4 a5 a6 hk=>⟨_,rfl,wpAny_letOwnedTupleGo_zip a1 λh2 b1 j=>?_⟩;have ne:∀{c o},s.heap.get? c=a0 o->s.heap.objs.size≠c:=λe=>Ř<|ß e;have l4:∃o,s.heap.get? l=a0 o:=let⟨o,e,_⟩:=M;⟨o,e⟩;have l5:∃o,s.heap.get? m=a0 o:=let⟨o,e,_⟩:=N;⟨o,e⟩;have ht2:h2.get? s.heap.objs.size=a0 {cls:=.type "tuple",data:=.seq #[u1,u2]}:=(j.2 _<|ne r).trans a5;have hfr:H s.heap.objs.size=none:=I.hok.fresh<|Õ _;have g2':IsPair h2 n (.ref l) (.ref m):=(j.2 _ A.TIz).trans<|hk _ _ A.TIz A.TITO A.TIi1 A.TIi2 B;show⟨.ref s.heap.objs.size,aK H s.heap.objs.size<|.tup [x,y],?_,rfl,⟨s.heap.objs.size,x,y,rfl,hfr,rfl,λws hw=>by rw[I.list_inj hw Z];show R,λws hw=>by rw[I.list_inj hw G];show hy⟩,
   ⟨b1,g2',⟨_,_,(j.2 _ A.TOz).trans a2⟩,a3.extBut j.extBut A.i1z,a4.extBut j.extBut A.i2z⟩,λc Q=>?_⟩
  .show Bl (s:=s) (h':=h2) (t':=s.toks) (ch:=[z,n,to,l,m]) I (λc oc Q ec=>?_) Y (Õ _) ?_
   .have g:c≠z/\c≠n/\c≠to/\c≠l/\c≠m:=by simpa using Q
    show(j.2 c g.1).trans<|hk c oc g.1 g.2.2.1 g.2.2.2.1 g.2.2.2.2 ec
   .show⟨by change(2:Nat)<=Ñ;decide,[u1,u2],.cons ru1<|.cons ru2 .nil,_,ht2,rfl,0,rfl,rfl⟩
  .have g:c=z\/c=n\/c=to\/c=l\/c=m:=by simpa using Q
   have hn:=(Y c Q).1;rw[aY]
   .show hn
   .rcases g with rfl|rfl|rfl|rfl|rfl
    .show(ne r).symm
    .show(ne B).symm
    .show(ne L).symm
    .show(ne l4.choose_spec).symm
    .show(ne l5.choose_spec).symm
 done:=by
  intro X hP hw hK hc i Dn s σ H E I Y ⟨r,B,⟨u,v,L⟩,M,N⟩ hg;subst hP hw hK;obtain⟨xs,ys,Z,G,R⟩:=hg;obtain⟨its,rv,p,hz⟩:=I.list Z;obtain⟨U,O,p2,hz2⟩:=I.list G;have hl:=rv.length;have hl2:=O.length;show wpAny_pyNext_zip_end (I.ok.hd hc) A r B L M N p.isList p2.isList ?_ λh' eb=>⟨rfl,Gm (t':=s.toks) (ch:=[z,n,to,l,m]) I (λc o Q e=>?_) Y⟩
  .rcases R with R|R
   .show .inl<|by simp;lia
   .show .inr<|by simp;lia
  .have g:c≠z/\c≠n/\c≠to/\c≠l/\c≠m:=by simpa using Q
   show eb c o g.1 g.2.2.1 g.2.2.2.1 g.2.2.2.2 e
 self:=λ_ _ _ _ _ ⟨r,_⟩ h=>Pm r h
abbrev uN(x y:D):gO:=λa i=>(bM a x).bind λxs=>(bM a y).map λys=>(xs[i]?).bind λd=>(ys[i]?).map λe=>.tup [d,e]
abbrev uO(ms:MA):MI:=λρ c=>(ms ρ c).bind λp=>match p.1 with
 |[x,y]=>(fP p.2 x).bind λa=>(fP p.2 y).map λb=>(uN x y,min a.length b.length+1,p.2)|_=>a7
def GK(R:Rp K π H j)(h:Ý K π j.length H v x)(k:fP j x=a0 xs):∃p,v=.ref p/\(∃vs,č K H p vs) /\
  ∀c a d,û π j.length H c a.length d->Rp K c d a->∀i,bM a x=a0 i->∃g,č K d p g/\Æ K c a.length d g i:=by
 obtain⟨p,vs,rfl,r,_⟩:=sC R h k;show⟨p,rfl,⟨vs,r⟩,λc a d e m i l=>?_⟩;have q:fP a x=a0 i:=by
  cases x with
  |rol w=>show l|loc b=>show l|_=>cases k
 obtain⟨u,g,o,s,n⟩:=sC m (h.mono e) q;cases o;show⟨g,s,n⟩
def Ua(R:Rp K π H l)(h:Ý K π l.length H v x)(h':Ý K π l.length H X y)(hs:fP l x=a0 xs)(B:fP l y=a0 ys):
  ∃a b,v=.ref a/\X=.ref b/\(∃I,č K H a I)/\(∃I,č K H b I)/\Wk K (Bs K a b) (uN x y) π l.length H:=by
 obtain⟨a,rfl,qa,O⟩:=GK R h hs;obtain⟨b,rfl,qb,Q⟩:=GK R h' B;show⟨a,b,rfl,rfl,qa,qb,λg c m i e j z=>?_,λg c m i d e j z=>?_⟩
 .obtain⟨n,w,z⟩:=œ.mp z;show bY z ?_;clear z;intro bs A z;obtain⟨r,o,s⟩:=O g c m e j n w;obtain⟨q,p,u⟩:=Q g c m e j bs A;show⟨r,q,o,p,?_⟩;rw[s.length,u.length];cases L:n[i]? with
  |none=>show .inl (ϐ.mp L)|some d=>
   cases k:bs[i]? with
   |none=>show .inr (ϐ.mp k)|some d'=>rw[L,k]at z;cases z
 .obtain⟨n,w,z⟩:=œ.mp z;show bY z ?_;clear z;intro bs A z;show bU z ?_;clear z;intro d1' h3 z;show bY z ?_;clear z;intro d2' h4 h5;subst h5;obtain⟨r,o,s⟩:=O g c m e j n w;obtain⟨q,p,u⟩:=Q g c m e j bs A;obtain⟨Y,M,k1⟩:=s.get h3;obtain⟨Z,N,k2⟩:=u.get h4;show⟨⟨r,q,Y,Z,o,p,M,N⟩,?_⟩;rintro y H2 ⟨t,v1,v2,rfl,hn,rfl,E,G⟩;have T:=E r o;have U:=G q p;rw[M]at T;rw[N]at U;cases T;cases U;obtain⟨k,R2⟩:=j.fresh (o:=.tup [Y,Z]) hn;show⟨k,R2,.tup (.of cP)<|.cons (k1.mono k)<|.cons (k2.mono k) .nil⟩
abbrev Ub(K:Ö)(d:TA):TI:=λσ H R=>d σ H λvs c=>∃a b,vs=[.ref a,.ref b]/\(∃xs,č K c a xs)/\(∃ys,č K c b ys)/\R (Bs K a b) c
open PyProof.Rows in
def Uc{X:Cx}{a b:Expr}{z:TA}{p pos pt:è}{es:List Expr}{kx:Nat}(Q:Gl X "zip") (U:X.mg "zip"=a7) (O:PA X [a,b] z)(Z:ă [a,b] X.env=(a8,eval a X.env)::ă [b] X.env)(o:(Ŋ pos<|ă [b] X.env).any (·.1)=a8) :
  PI X (.Tuple es kx pt) (.Call (.Name "zip" p) [a,b] [] pos) (Ub X.K z):=by
 intro i s A H R I h;show Call_<|f9 I Q U Boot.«zip»<|bj (aQ (O pos i s A H _ I h) λus d ⟨vs,v,g,r1,q1⟩=>?_) Z o;obtain⟨l,m,rfl,⟨ws,Y⟩,⟨ws2,n⟩,q⟩:=q1;cases r1 with
 |cons ru r=>
  cases r with
  |cons u r=>
   cases r;cases ru;cases u;obtain⟨its,rv,y,hz⟩:=g.list Y;obtain⟨x,rv2,k,hz2⟩:=g.list n;have la:l<d.heap.objs.size:=let⟨_,e,_⟩:=y.isList;ß e;have lb:m<d.heap.objs.size:=let⟨_,e,_⟩:=k.isList;ß e;show call_zip_2 y.isList k.isList λN w G K L M hsz T=>Pm w ?_;have B:Inv X i A v {d with heap:=N}:=g.kept (t':=d.toks) T;have E:ZipApart (d.heap.objs.size+4) (d.heap.objs.size+2) (d.heap.objs.size+3) d.heap.objs.size (d.heap.objs.size+1) l m:=by have la':@LT.lt Nat _ l d.heap.objs.size:=la;have lb':@LT.lt Nat _ m d.heap.objs.size:=lb;constructor<;>(change @Ne Nat _ _;lia)
   show⟨d.heap.objs.size+4,[d.heap.objs.size+4,d.heap.objs.size+2,d.heap.objs.size+3,d.heap.objs.size,d.heap.objs.size+1],_,_,v,rfl,B,T9 E,⟨w,G,⟨_,_,K⟩,L,M⟩,λc hc=>?_,q⟩;have j:d.heap.objs.size<=c:=by simp only[ċ,uz,or_false]at hc;rcases hc with rfl|rfl|rfl|rfl|rfl<;>first|show Nat.le_add_right _ _|show Õ _
   show g.fpOk j<|g.hok.fresh j
def Ud{pos:è}(d:Gl X "zip")(e:X.mg "zip"=a7)(m:QA X [a,b] ms n):wj X (.Call (.Name "zip" p) [a,b] [] pos) (uO ms):=⟨λes Y pt Dn s σ H R I hw=>by
 have g:=m.s;rw[Ŕ,í,Ŕ,í]at g;obtain⟨T,U,O,L,Z,Q,q,E,c,k⟩:=hw;show aZ c ?_;clear c;intro x i w c;show Uc d e m.h (gN g.1) (by rw[gN g.2.1];rfl) Dn s σ H R I ⟨T,U,O,x,i,q,E,w,λj vs o v l h=>?_⟩;dsimp only at c;split at c
 .rename_i x y;show bU c ?_;clear c;intro xs z c;show bY c ?_;clear c;intro ys A c;cases c;cases h with
  |cons h M=>
   cases M with
   |cons B N=>cases N;obtain⟨r,u,rfl,rfl,G,K,W⟩:=Ua l h B z A;show⟨r,u,rfl,G,K,k j o _ v l W⟩
 .cases c⟩
def Ue:rm (.type "tuple") "keys"=pure none:=by rw[MY,NH];kernel_rfl
def Ug(g:s.heap.get? a=a0 o)(j:o.cls=.type "tuple")(l:o.data=.seq xs k)(m:o.dict=a7)(hA:A.handled=a7)(q:∀h n,(∀b u,s.heap.get? b=a0 u->h.get? b=a0 u)->Q a7 {s with heap:=h,toks:=n}):Ç (É P w) A (M6 (.ref a) "keys") Q E s:=by
 obtain⟨c,r,p,B⟩:=o;dsimp only at j l m;subst j l m;obtain⟨y,x,v,n,z⟩:=s;have ty:∀d,(⟨y,x,v,d,z⟩:Ï).TypeIs (.ref a) "tuple":=λ_=>⟨_,g,rfl⟩;have G:=Qg;have H:=F.slot_tuple_getattribute.lookup;have I:=F.slot_tuple_getattribute.bind<|.ref a;have K:=am_tuple_getattr_none;unfold M6 getAttrBy? getAttrBy;repeat (any_goals (first|assumption|show ty _|((with_reducible change Ç _ _ (call (ο "tuple.__getattribute__") _ _) _ _ _);show jy F.slot_tuple_getattribute (ty _) am_entry_tuple_getattribute (F.args_tuple_getattribute_2 _ _) (meets_getattribute_miss_tuple a xs k B "keys" _ Ue<|by decide +kernel) ⟨g,hA,λh d e ne=>?_⟩)|wp_step))
 obtain⟨L,M,i⟩:=ne.there;change Ç _ _ (Mx _ _ _ _ a7 a8 a8) _ _ _;unfold Mx;repeat (any_goals (first|assumption|wp_step))
 show q _ _ ne.of.keeps
def yB:entryFor table "dict.update.loop"=a0 Builtin.«dict.update.loop»:=entryFor_of_tree<|by kernel_rfl
def oP:plainId "dict.update.loop"=true:=by decide +kernel
abbrev i7(ps:bE):List (Addr×List Int×Addr×V)->bE
 |[]=>ps|r::L=>i7 (dN ps r.2.1 r.2.2.1 r.2.2.2) L
def Bt{σ:St}{ps:bE}(z:A.units<Ĉ)(I:Inv X Dn σ H s)(e:H d=a0 (aL d ps))(w:c6 X.K H ps)(n:î X.K H b (k.map V.int))(hz:ps.length<Ñ)(K:Ì v u)(h:∀i,Inv X Dn σ (aK H d<|aL d<|dN ps k b v) i->(∀c o,c≠d->s.heap.get? c=a0 o->i.heap.get? c=a0 o)->Q () i):Ç (É X.prog X.w) A (dictSet d (.ref b) u) Q E s:=by
 obtain⟨y,N,L,r,j⟩:=jS I (.of e) w;have B:(b6 ps L).length<=Ñ:=by have:=congrArg ĭ<|nG r;rw[Å,Å]at this;lia
 show wpAny_dictSet_heap (hsz:=B) (show(J0<|Ϛ X.prog X.w).room A from z) (l7 I n) j λm g a=>h _ ?_ λc o hc e=>a.extBut c o hc e;obtain⟨M,G,l⟩:=Bp r k b K;rw[l]at g;have p:∃q,m.get? d=a0 q:=let⟨q,_,_,x,_⟩:=g;⟨q,x⟩;show Aq I (by rw[e];show J1) a p<|xW y (by have:=uJ ps k b v;lia) G g
def oQ{ps:bE}(e:H d=a0 (aL d ps))(h:î K H b vs):î K (aK H d o) b vs:=by
 have ne:∀{u},H b=a0 u->(∀c,u≠aL d c)->b≠d:=λz f y=>by rw[y,e]at z;cases z;show f ps rfl
 rcases h with(h|⟨a,h⟩)|h
 .show .inl<|.inl<|by rw[aY<|ne h λ_ z=>by cases z];show h
 .show .inl<|.inr ⟨a,by rw[aY<|ne h λ_ z=>by cases z];show h⟩
 .show .inr h
def GL(h:c6 K H ps)(g:î K H b (k.map V.int)):c6 K H (dN ps k b v):=by
 intro p a;unfold dN at a;split at a
 .obtain⟨d,c,e⟩:=Þ.mp a;by_cases z:d.1=k
  .rw[if_pos z]at e;subst e;show h d c
  .rw[if_neg z]at e;subst e;show h d c
 .rcases Ą.mp a with a|a
  .show h p a
  .rw[ĉ.mp a];show g
def yC:aK (aK H d o) d a=aK H d a:=by
 funext b;unfold aK;split
 .rfl
 .rfl
def GN{Q:gq->Ï->Prop}(h:ι s.heap p xs)(q:Q xs.toList s):Ç (É P w) A (S9<|.ref p) Q E s:=by obtain⟨o,g,c,n,a⟩:=h;have ty:s.TypeIs (.ref p) "tuple":=⟨o,g,c⟩;unfold S9;show Á<|yd ty ?_;rw[if_pos<|by decide];unfold seqItems?;show Á<|Á<|MN g ?_;rw[a];show Ð<|Ð q
def Uh{σ:St}(hh:A.handled=a7)(hu:A.in1.units<Ĉ):∀L i(ps:bE)H s,Inv X Dn σ H s->H d=a0 (aL d ps)->c6 X.K H ps->î X.K H t ys->ys.drop i=L.map (λr=>V.ref r.1)->
  (∀r∈L,î X.K H r.1 [.ref r.2.2.1,r.2.2.2]/\î X.K H r.2.2.1 (r.2.1.map V.int))->iU X Dn H it->s.heap.IsTupleIter it t i->ps.length+L.length<=Ñ->
  (∀E,Inv X Dn σ (aK H d<|aL d<|i7 ps L) E->R (.ok<|.ret .none) E)->Ρ (É X.prog X.w) A (.builtin "dict.update.loop" ⟨[.ref d,.ref it,Ŝ i,.none],[]⟩) R s:=by
 intro L;induction L with
 |nil=>
  intro i ps H s I e O w hd y N st T q;obtain⟨g,Z,p,U⟩:=I.tuple w;obtain⟨j,l,f2,m,n,v⟩:=N;have hl:=Z.length;have hlen:ys.length<=i:=by have:=congrArg ĭ hd;simp at this;lia
  show fC yB ?_;rw[gf oP _];change Ç _ A.in1 (Ŭ (.ref it) >>= _) _ _ s;show Á (RK hh st (show s.heap.IsTuple t g.toArray from p) (by simp;lia) λG eb=>?_);have k:Inv X Dn σ H {s with heap:=G}:=I.turned (t':=s.toks) (λb o K e=>eb b o K e) j l m n v;change Ç _ _ (SG d [] >>= _) _ _ _;show Á<|Ð<|Ð<|q _ ?_;have:aK H d (aL d<|i7 ps [])=H:=by
   funext b;unfold aK;split
   .rename_i z;rw[z];show e.symm
   .rfl
  rw[this];show k
 |cons r L ih=>
  intro i ps H s I e O w hd y N st T q;obtain⟨g,Z,p,U⟩:=I.tuple w;obtain⟨j,l,f2,m,n,v⟩:=id N;have B:ys[i]?=a0 (.ref r.1):=by have:=congrArg (·[0]?) hd;simpa using this
  obtain⟨u,fI,ru⟩:=Z.get B;cases ru;show fC yB ?_;rw[gf oP _];change Ç _ A.in1 (Ŭ (.ref it) >>= _) _ _ s;show Á (Qt st (show s.heap.IsTuple t g.toArray from p) (x:=.ref r.1) (by simpa using fI) λG st' sb=>?_);have k:Inv X Dn σ H {s with heap:=G}:=I.turned (t':=s.toks) (λb o K e=>(sb.2 b K).trans e) j l m n v;have a:=y r<|Ĭ ..;obtain⟨its2,rv2,p2,_⟩:=k.tuple a.1;cases rv2 with
  |cons rk Y=>
   cases Y with
   |cons rw' Y=>
    cases Y;cases rk;rename_i w0;show Á<|ō<|Á<|Pd<|GN p2 ?_;have Q:ps.length<Ñ:=by rw[Ļ]at T;lia
    show ō<|Bt hu k e O a.2 Q rw' λE I2 kp=>?_;show Ð ⟨Rr oP _,?_⟩;have bH:it≠d:=λz=>by rw[<- z,j]at e;cases e
    have c:∀x∈L,î X.K (aK H d<|aL d<|dN ps r.2.1 r.2.2.1 r.2.2.2) x.1 [.ref x.2.2.1,x.2.2.2]/\î X.K (aK H d<|aL d<|dN ps r.2.1 r.2.2.1 r.2.2.2) x.2.2.1 (x.2.1.map V.int):=λx B=>⟨oQ e (y x<|ı _ B).1,oQ e (y x<|ı _ B).2⟩;have M:ys.drop (i+1)=L.map (λr=>V.ref r.1):=by have:=congrArg Pa hd;simpa[Qi]using this
    show ih (i+1) (dN ps r.2.1 r.2.2.1 r.2.2.2) _ E I2 cP (GL (λp hp=>oQ e<|O p hp)<|oQ e a.2) (oQ e w) M c ⟨by rw[aY bH];show j,l,f2,m,n,v⟩ (st'.at λo ho=>kp it o bH ho) ?_ λs'' h=>q s'' ?_
    .have:=uJ ps r.2.1 r.2.2.1 r.2.2.2;rw[Ļ]at T;lia
    .rw[yC]at h;show h
abbrev GO(K:Ö):gw->Hp->VK->Prop:=λxs H Q=>∃(t:Addr)(L:List (Addr×List Int×Addr×V)),xs=[V.ref t]/\î K H t (L.map λr=>V.ref r.1) /\
 (∀r∈L,î K H r.1 [.ref r.2.2.1,r.2.2.2]/\î K H r.2.2.1 (r.2.1.map V.int))/\∀d,H d=a7->Q (.ref d) (aK H d<|aL d<|i7 [] L)
def Ui(hc:X.calm=a9)(Y:X.A.units+64<Ĉ):ì X (.type "dict") (GO X.K):=by
 intro d s N H xs us Q I r h;obtain⟨t,L,rfl,v,M,k⟩:=h;obtain⟨u,rfl,ru⟩:=iV r;cases ru;have K:H s.heap.objs.size=none:=I.hok.fresh<|Õ _;show Mi (Q₁:=λi c=>i=.ref s.heap.objs.size/\c={s with heap:=s.heap.push {cls:=.type "dict",data:=.dict #[]}}) F.kt_called_dict (F.kt_typeCall_dict_1 _) F.entry_dict_init (Pj _ ⟨rfl,rfl⟩) ?_;rintro i c ⟨rfl,rfl⟩;have B:Inv X d N (aK H s.heap.objs.size<|aL s.heap.objs.size []) {s with heap:=s.heap.push {cls:=.type "dict",data:=.dict #[]}}:=I.laid (a:=s.heap.objs.size) (o:=aL s.heap.objs.size []) (t':=s.toks) (λ_ _ q=>æ _ q) (Õ _)<|xX s.heap I.big;have ty:({s with heap:=s.heap.push {cls:=.type "dict",data:=.dict #[]}}:Ï).TypeIs (.ref s.heap.objs.size) "dict":=⟨_,ē _ rfl,rfl⟩;show⟨ty,F.args_dict_init_2 _ _,?_⟩;unfold Builtin.«dict.__init__»;show Á ?_;unfold SJ;show Á<|qj ty ?_;change Ç _ _ (pure (s.heap.objs.size,[Ò t])) _ _ _;show Ð ?_;change Ç _ _ (NO "dict.__init__" s.heap.objs.size (.ref t) [] .none) _ _ _;unfold NO;have mono:∀{b:Addr}{vs:gw},î X.K H b vs->î X.K (aK H s.heap.objs.size<|aL s.heap.objs.size []) b vs:=λ{b vs} z=>by
  have ne:H b≠a7->b≠s.heap.objs.size:=λf y=>by rw[y]at f;show f K
  rcases z with(z|⟨x,z⟩)|z
  .show .inl<|.inl<|by rw[aY<|ne<|by rw[z];show λy=>nomatch y];show z
  .show .inl<|.inr ⟨x,by rw[aY<|ne<|by rw[z];show λy=>nomatch y];show z⟩
  .show .inr z
 obtain⟨Z,rv,x,E,G,n,R,T⟩:=B.tupN<|mono v;show Á<|yd ⟨x,E,G⟩ ?_;rw[if_pos<|by decide];show Á<|Ug E G R T (I.ok.hd hc) λm l kp=>?_;have j:Inv X d N (aK H s.heap.objs.size<|aL s.heap.objs.size []) {s with heap:=m,toks:=l}:=B.kept (t':=l) kp;change Ç _ _ (rule _ >>= _) _ _ _;show Á<|dj ?_;obtain⟨a,rv',p',w⟩:=j.tuple<|mono v;show Á<|My (t:=t) (items:=a.toArray) (show({s with heap:=m,toks:=l}:Ï).heap.IsTuple t a.toArray from p') ?_;have O:=j.kept (t':=l) (h':=m.push {cls:=.type "tuple_iterator",data:=.fields #[.ref t,.int 0 0]}) λb o e=>æ _ e;show Ð ⟨Rr oP _,?_⟩;show Uh (A:=X.A.in1) (I.ok.hd hc) ?_ L 0 [] _ _ O cP (λp U=>nomatch U) (mono v) rfl (λr g=>⟨mono (M r g).1,mono (M r g).2⟩) (j.fpOk (Õ _)<|j.hok.fresh<|Õ _) ⟨_,ē _ rfl,rfl,rfl⟩ ?_ λs' A=>?_
 .change X.A.units+1+1<Ĉ;lia
 .have:=w;simp at this ⊢;show this
 .rw[yC]at A;show⟨rfl,.ref s.heap.objs.size,_,A,rfl,k _ K⟩
abbrev sT:List D->Option (jx)
 |[]=>a0 []|.tup [x,v]::r=>(dR x).bind λk=>(sT r).map λl=>(k,v)::l|_::_=>a7
abbrev qH:MF:=λds a=>match ds with
 |[.tup xs]=>(sT xs).map λl=>(.loc a.length,a++[.dT<|l.foldl (λq p=>cI q p.1 p.2) []])|_=>a7
noncomputable abbrev GP(K:Ö)(π:Nat->Addr)(n:Nat)(H:Hp):List (Addr×List Int×Addr×V)->jx->Prop:=
 Ŧ λr p=>r.2.1=p.1/\î K H r.1 [.ref r.2.2.1,r.2.2.2]/\î K H r.2.2.1 (r.2.1.map V.int)/\Ý K π n H r.2.2.2 p.2
def GQ:∀{xs}{ws}{l},Æ K π n H ws xs->sT xs=a0 l->∃L,ws=L.map (λr=>V.ref r.1)/\GP K π n H L l
 |[],_,_,.nil,h=>by cases h;show⟨[],rfl,.nil⟩
 |x::xs,_,l,.cons i t,h=>by
  unfold sT at h;split at h
  .rename_i a;cases a
  .rename_i y v r a;cases a;show bU h ?_;clear h;intro k d h;obtain⟨m,e,rfl⟩:=Ō.mp h;obtain⟨L,rfl,P⟩:=GQ t e;cases i with
   |tup q z=>
    cases z with
    |cons g z=>
     cases z with
     |cons j z=>cases z;obtain⟨b,rfl,c⟩:=nH g d;show⟨(_,k,b,_)::L,rfl,.cons ⟨rfl,q,c,j⟩ P⟩
  .cases h
def GR:∀{L}{l},GP K π n H L l->∀{ps}{kvs},ø K π n H ps kvs->ø K π n H (i7 ps L) (l.foldl (λq p=>cI q p.1 p.2) kvs)
 |_,_,.nil,_,_,h=>h|r::L,p::l,.cons e t,ps,kvs,h=>by obtain⟨a,_,b,c⟩:=e;change ø K π n H (i7 (dN ps r.2.1 r.2.2.1 r.2.2.2) L) (l.foldl _<|cI kvs p.1 p.2);rw[<- a];show GR t<|h.put r.2.1 b c
def Uj:fF K qH (GO K):=by
 intro w H v n d o u Q R i a k;unfold qH at a;split at a
 .rename_i n;show bY a ?_;clear a;intro l c j;cases j;cases i with
  |cons i t=>
   cases t;cases i with
   |tup q z=>
    obtain⟨L,rfl,P⟩:=GQ z c;show⟨_,L,rfl,q,?_,λd hd=>?_⟩
    .clear q z k c;induction P with
     |nil=>show λr b=>nomatch b|cons e t m=>
      intro r b;rcases ċ.mp b with rfl|b
      .show⟨e.2.1,e.2.2.1⟩
      .show m r b
    .have T:=GR P (ps:=[]) (kvs:=[]) .nil;obtain⟨h,g,s⟩:=R.alloc (c:=.dT (l.foldl (λq p=>cI q p.1 p.2) [])) (o:=aL d (i7 [] L)) hd ⟨_,rfl,T.to.1,T.to.2.1,T.to.2.2⟩;show k _ _ _ h g j9
 .cases a
abbrev ww(h:Č)(c d S:Addr)(i n ep:Nat):Prop:=∃(b ok g:Value)(e:Bool),h.get? c=a0 {cls:=.type "dict_itemiterator",dict:=a7,data:=.fields #[b,.bool e,.ref d,.int i 0,.int n 0,.int ep 0,ok,g],slots:=#[]} /\
 (b=.none\/∃(a:Addr)(o:Obj),b=Ŝ a/\h.get? a=a0 o/\a≠c/\a≠S)
def ww.stay{i n ep}(j:ww h c d S i n ep)(m:c≠S)(k:∀b o,b≠S->h.get? b=a0 o->h'.get? b=a0 o):ww h' c d S i n ep:=by
 obtain⟨v,ok,p,l,e,r⟩:=j;show⟨v,ok,p,l,k _ _ m e,?_⟩;rcases r with r|⟨a,o,q,s,u,g⟩
 .show .inl r
 .show .inr ⟨a,o,q,k _ _ g s,u,g⟩
def Bu{i ep:Nat}(hh:A.handled=a7)(y:s.heap.get? it=a0 {cls:=.type "dict_itemiterator",dict:=a7,data:=.fields #[n,.bool M,.ref d,.int i 0,.int es.size 0,.int ep 0,ok,G],slots:=#[]})(jr:n=.none\/∃(a:Addr)(o:Obj),n=Ŝ a/\s.heap.get? a=a0 o/\a≠it/\a≠S)(g:ö s.heap d es ep)(hS:S<s.heap.objs.size)(q1:∀e j,es[i]?=a0 e->ww j it d S (i+1) es.size ep->(n=.none->MP j it d (i+1) es.size ep e.key e.val s.heap.objs.size)->j.get? s.heap.objs.size=a0 {cls:=.type "tuple",data:=.seq #[e.key,e.val]}->j.objs.size=s.heap.objs.size+1->(∀b o,b≠it->s.heap.get? b=a0 o->j.get? b=a0 o)->Q (a0<|.ref s.heap.objs.size) {s with heap:=j})(q2:es[i]?=a7->∀j,ue it s.heap j->Q a7 {s with heap:=j}):Ç (É P w) A (Ŭ<|.ref it) Q E s:=by
 obtain⟨z,g1,g2,g3⟩:=id g;have ty:s.TypeIs (.ref it) "dict_itemiterator":=⟨_,y,rfl⟩;obtain⟨c,r,p,H,B⟩:=s;have U:∀{Q:String->Ï->Prop}{A:Ł}{E:Value->Ï->Prop},Q "dict_itemiterator" ⟨c,r,p,H,B⟩->Ç (É P w) A (O4<|.ref it) Q E ⟨c,r,p,H,B⟩:=λq=>wpAny_typeNameOfWhole_itemiter ty q;unfold Ŭ;show Á<|MR<|Oc (name:=Ż "__next__") ty F.slot_dict_itemiterator_next<|Ϡ F.slot_dict_itemiterator_next ty F.entry_dict_itemiterator_next ?_<|F.args_dict_itemiterator_next_1 _;show Á<|Ð<|Á<|Á<|Á<|U<|Ð<|Á<|OF y rfl ?_;rw[show vq "dict_itemiterator"=a9 by decide,if_pos rfl];change Ç _ _ (if(Ò d==ş)=a9 then _ else _) _ _ _;rw[if_neg<|show ¬ (Ò d==ş)=a9 from λx=>Ī x];show Á<|Ð<|Á<|aj g1 g3 ?_;rw[if_neg λx=>by simp at x];show Á<|Ð<|Á<|nj g1 g3 ?_;rw[if_neg λx=>by simp at x];show Ð ?_;dsimp only;rw[if_neg<|show ¬ ((i:Int)<0) by lia,vX];have T:it<c.objs.size:=ß y;cases he:es[i]? with
 |some e=>
  show Á<|Á<|U<|Ð<|Á<|OY ty ?_;change Ç _ _ (rE (.ref it) 3 (Ŝ<|(i:Int)+1) >>= _) _ _ _;show Á (vf y (by simp) λu O R=>?_);replace R:Ϭ it c u:=R;replace O:u.get? it=a0 {cls:=.type "dict_itemiterator",dict:=a7,data:=.fields #[n,.bool M,.ref d,.int ((i+1:Nat):Int) 0,.int es.size 0,.int ep 0,ok,G],slots:=#[]}:=by rw[show((i+1:Nat):Int)=(i:Int)+1 by lia];simpa[Ŝ]using O
  have I:Shared.TypeIs ⟨u,r,p,H,B⟩ (.ref it) "dict_itemiterator":=⟨_,O,rfl⟩;show Á<|ō<|Á<|OY I<|Á<|OY I ?_;change Ç _ _ (Sj (.ref it) 6 e.key e.val) _ _ _;unfold Sj;show Á<|Mj ?_;have zu:u.objs.size=c.objs.size:=R.1;have k:=æ {cls:=.type "tuple",data:=.seq #[e.key,e.val]} O;have Z:(u.push {cls:=.type "tuple",data:=.seq #[e.key,e.val]}).get? c.objs.size=a0 {cls:=.type "tuple",data:=.seq #[e.key,e.val]}:=zu▸ē u rfl;have vz:(u.push {cls:=.type "tuple",data:=.seq #[e.key,e.val]}).objs.size=c.objs.size+1:=by rw[fB,zu]
  have K:∀b o,b≠it->c.get? b=a0 o->(u.push {cls:=.type "tuple",data:=.seq #[e.key,e.val]}).get? b=a0 o:=λb o N x=>æ _<|R.extBut b o N x;change Ç _ _ (Si (.ref it) >>= _) _ _ ⟨u.push {cls:=.type "tuple",data:=.seq #[e.key,e.val]},r,p,H,B⟩;rw[zu];generalize u.push {cls:=.type "tuple",data:=.seq #[e.key,e.val]}=v at k Z vz K;have h:c.objs.size≠it:=Ř T;have fin:∀l:Č,ww l it d S (i+1) es.size ep->(n=.none->MP l it d (i+1) es.size ep e.key e.val c.objs.size)->Ϭ it v l->Q (a0<|.ref c.objs.size) ⟨l,r,p,H,B⟩:=λl j' jo Y=>q1 e l he j' jo (Y.extBut _ _ h Z) (by change l.objs.size=_;rw[Y.1,vz]) λb o N x=>Y.extBut b o N<|K b o N x;show Á ?_;unfold Si;rcases jr with rfl|⟨a,o,rfl,X,m,r4⟩
  .show Á<|eZ k rfl (x:=.none) rfl<|Ð ?_;simp only[if_true];show Á<|eZ k rfl (x:=ok) rfl<|Á<|eZ k rfl (x:=G) rfl ?_;show Á (vf k (by simp) λv3 x3 L=>Á<|vf x3 (by simp) λv4 x4 y4=>Á<|vf x4 (by simp) λv5 x5 y5=>Á<|vf x5 (by simp) λv6 x6 y6=>?_);have x7:MP v6 it d (i+1) es.size ep e.key e.val c.objs.size:=x6;show Á<|Nt<|Ð<|Ð ⟨_,rfl,Ð<|fin v6 ?_ (λ_=>x7) ?_⟩
   .show⟨Ŝ c.objs.size,e.key,e.val,a8,x7,.inr ⟨c.objs.size,_,rfl,y6.extBut _ _ h<|y5.extBut _ _ h<|y4.extBut _ _ h<|L.extBut _ _ h Z,h,Ř hS⟩⟩
   .show((L.trans y4).trans y5).trans y6
  .show Á<|eZ k rfl (x:=Ŝ a) rfl ?_;change Ç _ _ (loadIfAlive ((a:Int).toNat) >>= _) _ _ _;rw[vX];show Á<|PySem.W.kdx_alive (K a o m X) ?_;simp only[Option.isNone_some,ĸ,if_false];show Á<|eZ k rfl (x:=.bool M) rfl ?_;cases M with
   |true=>rw[if_neg<|show ¬ ((Ÿ a9 != Ÿ a9)=a9)from λx=>Ī x];show Ð ?_;simp only[ĸ,if_false];show Ð (Ð ⟨_,rfl,Ð<|fin v ⟨_,ok,G,a9,k,.inr ⟨a,o,rfl,K a o m X,m,r4⟩⟩ (λz=>nomatch z)<|Ra _ _⟩)|false=>rw[if_pos<|show(Ÿ a8 != Ÿ a9)=a9 from rfl];show Á (vf k (by simp) λv3 x3 L=>Ð ?_);simp only[ĸ,if_false];show Ð<|Ð ⟨_,rfl,Ð<|fin v3 ⟨_,ok,G,a9,by simpa using x3,.inr ⟨a,o,rfl,L.extBut a o m<|K a o m X,m,r4⟩⟩ (λz=>nomatch z) L⟩
 |none=>show Á<|Á<|U<|Ð ?_;change Ç _ _ (rE (.ref it) 2 .none >>= _) _ _ _;show Á (yu y rfl (by simp) ?_);change Ç _ _ (qw (.type "StopIteration") [] >>= _) _ _ _;simp only[qw,NY];show Á (Á<|Η ?_<|by size_fits);show Á (m:=uq _ _) (Nu (a:=ş) (by first|rfl|(simp only[uq];rfl))<|Η ?_<|by size_fits);unfold NZ;show Á<|Nz ?_;rw[show A.in1.handled=a7 from hh];show Á<|Ð<|Nv ?thrown;case thrown=>show Á<|Me (T:="StopIteration") (b:=a9) ⟨_,ē _ rfl,rfl⟩ OC<|Ð<|q2 he _<|((gD ..).extBut.push _).push _
def GS(a:s.heap.IsItemsView r d)(g:ö s.heap d es ep)(q:Q (.ref s.heap.objs.size) {s with heap:=s.heap.push {cls:=.type "dict_itemiterator",data:=.fields #[.none,.bool a8,.ref d,.int 0 0,.int es.size 0,.int ep 0,.none,.none]}}):Ç (É P w) A (ϙ<|.ref r) Q E s:=by
 obtain⟨y,e,k,h⟩:=id a;obtain⟨z,b,j,c⟩:=id g;show Mv a.typeIs F.slot_dict_items_iter<|Ϡ F.slot_dict_items_iter a.typeIs F.entry_dict_items_iter ?_<|F.args_dict_items_iter_1 _;unfold Builtin.«dict_items.__iter__» PC P8;show Á<|Ð<|Á<|Á<|eZ e h (x:=.ref d) rfl<|Ð<|Á<|Á<|aj b c<|Á<|nj b c ?_;simp only[show vq "dict_itemiterator"=a9 by decide,if_true];show Η (Ð ⟨_,rfl,"dict_itemiterator",_,⟨_,ē _ rfl,rfl⟩,F.slot_dict_itemiterator_next.lookup,?_⟩) (by simp only[sizeOk,Sg,ñ,å,Ļ,ug];rw[Ā];lia);simpa[Ŝ,Sg]using q
structure Ċ(es:Array DictEntry)(lo:Addr)(h:Č)(as:List Addr):Prop where
 up:as.Pairwise (·<·)
 over:∀a∈as,lo<a
 prs:∀(j:Nat)(a:Addr),as[j]?=a0 a->∃e,es[j]?=a0 e/\h.get? a=a0 {cls:=.type "tuple",data:=.seq #[e.key,e.val]}
def Ċ.stay(p:Ċ es lo h as)(k:∀b o,lo<b->h.get? b=a0 o->h'.get? b=a0 o):Ċ es lo h' as:=
 ⟨p.up,p.over,λj a c=>let⟨e,d,g⟩:=p.prs j a c;⟨e,d,k a _ (p.over a<|Ğ c) g⟩⟩
def Ċ.lt{es:Array DictEntry}{lo:Addr}{h:Č}{as:List Addr}(p:Ċ es lo h as){a:Addr}(b:a∈as):a<h.objs.size:=by obtain⟨j,c⟩:=uy.mp b;obtain⟨_,_,e⟩:=p.prs j a c;show ß e
def Ċ.snoc(p:Ċ es lo h as)(k:∀a∈as,a<b)(m:lo<b)(l:es[as.length]?=a0 e)(n:h.get? b=a0 {cls:=.type "tuple",data:=.seq #[e.key,e.val]}):Ċ es lo h (as++[b]):=by
 show⟨϶.mpr ⟨p.up,RW _ _,λa d c hc=>by rw[ĉ.mp hc];show k a d⟩,λa d=>?_,λj a g=>?_⟩
 .rcases Ą.mp d with d|d
  .show p.over a d
  .rw[ĉ.mp d];show m
 .rcases N3 j as.length with i|i|i
  .rw[Š i]at g;show p.prs j a g
  .subst i;have:b=a:=by simpa using g
   subst this;show⟨e,l,n⟩
  .rw[ώ<|by simp;lia]at g;cases g
def Uk{s:Ï}(U:A.handled=a7)(v:S<I)(K:d≠S)(H:d≠I)(hn:es.size<=Ñ)res{h1:Č}(X:∀h' tk j c as,(∀b o,b≠S->b≠I->h1.get? b=a0 o->h'.get? b=a0 o)->h'.get? S=a0 {cls:=.type "list",dict:=a7,data:=.seq j c,slots:=#[]}->as.length=es.size->Ċ es I h' as->j.toList=as.map Ò->R (.ok<|.ret res) {s with heap:=h',toks:=tk}):
  ∀k i h tk c j as,es.size-i=k->i<=es.size->ww h I d S i es.size ep->ö h d es ep->(∀b o,b≠S->b≠I->h1.get? b=a0 o->h.get? b=a0 o)->h.get? S=a0 {cls:=.type "list",dict:=a7,data:=.seq j c,slots:=#[]}->
   j.toList=as.map Ò->as.length=i->Ċ es I h as->I<h.objs.size->Ρ (É P w) A (.builtin "list.extend.loop" ⟨[.ref S,.ref I,res],[]⟩) R {s with heap:=h,toks:=tk}:=by
 have ne:S≠I:=õ v;intro k;induction k with
 |zero=>intro i h tk c j as Z Y ⟨_,_,_,_,N,O⟩ g Q n E y G lt;show fC F.entry_extend_loop ?_;rw[gf F.plain_extend_loop _];show Á (m:=Ŭ (.ref I)) (Bu (s:={s with heap:=h,toks:=tk}) (A:=A.in1) U N O g (ß n) (λe h' m=>?_) λ_ h' x=>Ð<|X h' tk j c as (λb o B r z=>x b o r<|Q b o B r z) (x S _ ne n) ⋯ (G.stay λb o p z=>x b o (Ř p) z) E);rw[NA<|by lia]at m;cases m|succ k ih=>
  intro i h tk c j as Z Y ⟨_,_,_,_,N,O⟩ g Q n E y G lt;have sz:j.size=i:=by rw[<- ao,E,Å,y]
  show fC F.entry_extend_loop ?_;rw[gf F.plain_extend_loop _];show Á (m:=Ŭ (.ref I))<|Bu (s:={s with heap:=h,toks:=tk}) (A:=A.in1) U N O g (ß n) (λe h' m j' _ M hz l=>?_) λm=>?_
  .dsimp only at M hz l ⊢;have u:=l S _ ne n;have T:S<h.objs.size:=ß n;have q:∀b o,b≠S->h'.get? b=a0 o->(h'.update S<|a3n (·.push<|Ò h.objs.size)).get? b=a0 o:=λb o p z=>(gr _ _<|ć p).trans z;show Á (m:=MB S (·.push<|Ò h.objs.size)) (yj u rfl (Ð ⟨Rr F.plain_extend_loop _,?_⟩) (by rw[sz];lia)<|by change(j.push<|Ò h.objs.size).size<=Ñ+1;rw[Array.size_push,sz];lia);show ih (i+1) _ tk _ (j.push<|Ò h.objs.size) (as++[h.objs.size]) ⋯ ⋯ (j'.stay (ć ne) q) (g.stay λo z=>q d o K<|l d o H z) (λb o B r z=>q b o B<|l b o r<|Q b o B r z) (gk _ u rfl) (by rw[ϯ,E,Ę];rfl) (by rw[å,y];rfl) ?_ ?_
   .show((G.stay λb o p z=>q b o (Ř<|lw v p)<|l b o (Ř p) z)).snoc (λa L=>G.lt L) lt (by rw[y];show m)<|q _ _ (Ř T) M
   .show lw lt<|ß<|q _ _ (Ř T) M
  .rw[Oy<|by lia]at m;cases m
def GU(H:A.handled=a7)(p:s.heap.IsItemsView r d)(g:ö s.heap d es ep)(Sr:S≠r)(x:d≠S)(z:s.heap.get? S=a0 {cls:=.type "list",data:=.seq #[] c0})(L:es.size<=Ñ)(E:∀h' tk k c as,(∀b o,b≠S->s.heap.get? b=a0 o->h'.get? b=a0 o)->h'.get? S=a0 {cls:=.type "list",dict:=a7,data:=.seq k c,slots:=#[]}->as.length=es.size->Ċ es s.heap.objs.size h' as->k.toList=as.map Ò->R (.ok<|.ret res) {s with heap:=h',toks:=tk}):
  Ç (É P w) A.in1 (il (.ref S) (.ref r) res) (λfin n=>match fin with|.done f=>R (.ok f) n|.again c'=>c'.quiet=a9/\Ρ (É P w) A c' R n) (λe n=>R (.error e) n) s:=by
 have v:S<s.heap.objs.size:=ß z;have B:d<s.heap.objs.size:=g.lt;have run:∀(h:Č)(c1 tk:Nat),(∀b o,b≠S->(s.heap.push {cls:=.type "dict_itemiterator",data:=.fields #[.none,.bool a8,.ref d,.int 0 0,.int es.size 0,.int ep 0,.none,.none]}).get? b=a0 o->h.get? b=a0 o)->h.get? S=a0 {cls:=.type "list",data:=.seq #[] c1}->
   Ρ (É P w) A (.builtin "list.extend.loop" ⟨[.ref S,.ref s.heap.objs.size,res],[]⟩) R {s with heap:=h,toks:=tk}:=by
  intro h c1 tk q i;have y:=q s.heap.objs.size _ (Ř v)<|ē _ rfl;show Uk (s:=s) (h1:=s.heap) (ep:=ep) H v x (õ B) L res (λh' u k c as N O Q T U=>E h' u k c as (λb o l e=>N b o l (õ<|ß e) e) O Q T U) es.size 0 h tk c1 #[] [] (MV _) (Ģ _)
   ⟨.none,.none,.none,a8,y,.inl rfl⟩ (g.stay λo e=>q d o x<|æ _ e) (λb o l _ e=>q b o l<|æ _ e) i rfl rfl ⟨Od,λ_ G=>(by cases G),λj a K=>(by simp at K)⟩<|ß y
 unfold il;show Á<|yd (T:="dict_items") p.typeIs ?_;simp only[show NQ (.ref S) (.ref r)=a8 by simp[NQ,Sr],show(ü "dict_items"==ü "list")=a8 by decide,show(ü "dict_items"==ü "tuple")=a8 by decide,Mn,ĸ,if_false];show Á<|GS p g ?_;have i:=æ {cls:=.type "dict_itemiterator",data:=.fields #[.none,.bool a8,.ref d,.int 0 0,.int es.size 0,.int ep 0,.none,.none]} z;show Á<|ō<|PySem.W.kdx_hint (let⟨o,M,hc,_⟩:=p;⟨o,æ _ M,hc⟩) ?_;show oh (λ_=>?_) λ_=>Ð ⟨Rr F.plain_extend_loop _,run _ c0 _ (λb o _ e=>e) i⟩;show Á<|dj<|Á ?_;show Á (m:=MB S (·.push .none))<|yj i rfl ?_;have m:=gk (a3n (·.push ş)) i rfl;show yj (hz:=by seq_fits) m rfl<|Ð ⟨Rr F.plain_extend_loop _,run _ _ _ (λb o l e=>?_)<|gk (a3n (·.pop)) m rfl⟩;show(gr _ _<|ć l).trans<|(gr _ _<|ć l).trans e
def Ul{T:gq->Ï->Prop}(G:A.handled=a7)(u:s.heap.IsItemsView r d)(g:ö s.heap d es ep)(H:es.size<=Ñ)(q:∀h' tk as,(∀b o,s.heap.get? b=a0 o->h'.get? b=a0 o)->as.length=es.size->Ċ es s.heap.objs.size h' as->s.heap.objs.size<=h'.objs.size->T (as.map Ò) {s with heap:=h',toks:=tk}):Ç (É P w) A (collect<|.ref r) T E s:=by
 have K:r<s.heap.objs.size:=let⟨_,n,_⟩:=u;ß n
 unfold collect
 show Á<|wpAny_runValue<|fC b3V ?_
 rw[gf F.plain_proto_collect _]
 show Á (m:=newList [])<|Η<|Ð ⟨Rr F.plain_list_iadd _,fC b3W ?_⟩
 rw[gf F.plain_list_iadd _]
 have z:(s.heap.push {cls:=.type "list",data:=.seq ([]:gq).toArray}).get? s.heap.objs.size=a0 {cls:=.type "list",data:=.seq #[]}:=ē _ rfl
 have all:=GU (A:=A) (s:={s with heap:=s.heap.push {cls:=.type "list",data:=.seq ([]:gq).toArray}}) (P:=P) (w:=w) (es:=es) (ep:=ep) (res:=.ref s.heap.objs.size) (c0:=0)
  (R:=λ(q:S8)(p:Ï)=>∃(h':Č)(tk:Nat)(h:Array Value)(c:Nat)(as:List Addr),q=.ok (.ret<|.ref s.heap.objs.size)/\p={s with heap:=h',toks:=tk}/\(∀b o,s.heap.get? b=a0 o->h'.get? b=a0 o)/\h'.get? s.heap.objs.size=a0 {cls:=.type "list",dict:=a7,data:=.seq h c,slots:=#[]}/\as.length=es.size/\Ċ es s.heap.objs.size h' as/\h.toList=as.map Ò)
  G (let⟨o,n,x⟩:=u;⟨o,æ _ n,x⟩) (g.stay λo e=>æ _ e) (Ř K) (õ g.lt) z H
  λh' tk h c as k i l j m=>⟨h',tk,h,c,as,rfl,rfl,λb o e=>k b o (õ<|ß e)<|æ _ e,i,l,⟨j.up,λa B=>lw (Ψ _)<|by have:=j.over a B;rw[fB]at this;show this,j.prs⟩,m⟩
 show Ķ all (λfin p x=>?_) λe p x=>?_
 .cases fin with
  |done f=>
   obtain⟨h',tk,h,c,as,e,rfl,k,i,l,j,m⟩:=x
   cases e
   show Á (m:=load s.heap.objs.size)<|MN i<|Ð ?_
   change T h.toList _
   rw[m]
   show q h' tk as k l j<|Ζ<|ß i
  |again c1=>
   show⟨x.1,MW x.2 λy L x=>?_⟩
   obtain⟨h',tk,h,c,as,rfl,rfl,k,i,l,j,m⟩:=x
   show Á (m:=load s.heap.objs.size)<|MN i<|Ð ?_
   change T h.toList _
   rw[m]
   show q h' tk as k l j<|Ζ<|ß i
 .obtain⟨_,_,_,_,_,v,_⟩:=x
  cases v
end L3
namespace L3
open PySem L2 PySem.W PyProof.Rows
def Um(q:Q a9 s):Ç (É P w) A (eqBool v v) Q E s:=by unfold eqBool;show ō ?_;rw[if_pos<|by simp];show Á<|dj<|Ð q
def GV:∀k,HT.lexLt k k=a8
 |[]=>rfl|a::k=>by simp[HT.lexLt,GV k]
abbrev yD(P:ł)(w:Į)(h:Č)(b:Addr)(k:List Int):Prop:=Tb.IsT P w h k b/\∃xs:gq,ι h b xs.toArray/\ŭ xs k
def Uo{C:Bool->Ï->Prop}(j:A.units<Ĉ)(m:s.heap.get? a=a0 {cls:=.type "tuple",data:=.seq #[.ref b,v]})(d:s.heap.get? g=a0 {cls:=.type "tuple",data:=.seq #[.ref h,l]})(i:yD P w s.heap b k)(c:yD P w s.heap h k')(n:k=k'->v=l)(q:C (HT.lexLt k k') s):Ç (É P w) A (L8 (tuples' a8) (.ref a)<|.ref g) C (λ_ _=>False) s:=by
 show kat_lt m rfl d rfl ?_;show kat_cons<|(J0<|Ϛ P w).eqBool j i.1 c.1 ?_;by_cases e:k=k'
 .obtain rfl:=n e;subst e;rw[decide_eq_true rfl];show kat_yes<|kat_cons<|Um<|kat_yes<|kat_nil ?_;rw[GV]at q;show q
 .rw[decide_eq_false e];obtain⟨x,r,o⟩:=i.2;obtain⟨y,u,p⟩:=c.2;show kat_no (kat_one _ _<|HT.lt_tupInts r u (by simpa using o) (by simpa using p) j ?_);show q
abbrev nI(P:ł)(w:Į)(A:Ł)(us:gq)(an:Nat->Nat->Bool)(s:Ï):Prop:=
 Ç (É P w) A (keyKind' us.toArray) (λb a=>a=s/\∀(i j:Nat)(C:Bool->Ï->Prop),i<us.length->j<us.length->C (an i j) s->Ç (É P w) A (L8 b (us.getD i .none)<|us.getD j .none) C (λ_ _=>False) s) (λ_ _=>False) s
def GW{lo:Addr}{bs:List Addr}{ks:List (List Int)}(hu:A.units<Ĉ)(p:Ċ es lo s.heap as)(h0:0<as.length)(hl:as.length=es.size)(hk:ks.length=es.size)(hbl:bs.length=es.size)(key:∀j e,es[j]?=a0 e->e.key=.ref (bs.getD j 0)/\yD P w s.heap (bs.getD j 0) (ks.getD j []))(M:ks.Nodup):nI P w A (as.map Ò) (λi j=>HT.lexLt (ks.getD i [])<|ks.getD j []) s:=by
 have g:∀i,i<as.length->∃(e:DictEntry),es[i]?=a0 e/\s.heap.get? (as.getD i 0)=a0 {cls:=.type "tuple",data:=.seq #[.ref (bs.getD i 0),e.val]}/\yD P w s.heap (bs.getD i 0) (ks.getD i []):=λi d=>by
  have O:as[i]?=a0 (as.getD i 0):=by simp[ę,d]
  obtain⟨e,r,m⟩:=p.prs i _ O;obtain⟨k1,u⟩:=key i e r;rw[k1]at m;show⟨e,r,m,u⟩
 unfold nI;have q:KatTups s.heap (as.map Ò) (bs.map Ò):=by
  have X:∀(n:Nat)(a c:List Addr),a.length=n->c.length=n->(∀i,i<n->∃v:Value,s.heap.get? (a.getD i 0)=a0 {cls:=.type "tuple",data:=.seq #[.ref (c.getD i 0),v]})->KatTups s.heap (a.map Ò) (c.map Ò):=by
   intro n;induction n with
   |zero=>intro a c k l _;rw[zm.mp k,zm.mp l];show .nil|succ n ih=>
    intro a c k l L;match a,c,k,l with
    |x::a,y::c,k,l=>obtain⟨v,I⟩:=L 0 ⋯;show .cons I rfl rfl (by simp) (ih a c (by simpa using k) (by simpa using l) λi d=>?_);have:=L (i+1) ⋯;simpa using this
  show X as.length as bs rfl ⋯ λi d=>?_;obtain⟨e,_,m,_⟩:=g i d;show⟨_,m⟩
 show kat_kind (T:=.type "tuple") q (by rw[Å];lia) (λv I=>?_) (by decide) ⟨rfl,λi j C d H Y=>?_⟩
 .obtain⟨b,Z,rfl⟩:=Þ.mp I;obtain⟨i,d⟩:=uy.mp Z;have B:i<as.length:=by have:=(Ú.mp d).1;lia
  obtain⟨e,_,_,u⟩:=g i B;have:bs.getD i 0=b:=by simp[ę,d]
  rw[this]at u;obtain⟨xs,⟨o,o1,o2,_⟩,_⟩:=u.2;show kitAt_ty _ _ ⟨o,o1,o2⟩
 .rw[Å]at d H;obtain⟨e,r,m,N⟩:=g i d;obtain⟨e',K,Q,R⟩:=g j H;have T:(as.map Ò).getD i .none=.ref (as.getD i 0):=by simp[ę,d]
  have U:(as.map Ò).getD j .none=.ref (as.getD j 0):=by simp[ę,H]
  rw[T,U];show Uo hu m Q N R (λz=>?_) Y;have G:i=j:=by
   have k:ks.getD i []=ks[i]:=by simp[ę,show i<ks.length by lia]
   have l:ks.getD j []=ks[j]:=by simp[ę,show j<ks.length by lia]
   rw[k,l]at z;rcases N3 i j with h|h|h
   .show absurd z<|(ϳ.mp M) i j ⋯ ⋯ h
   .show h
   .show absurd z.symm<|(ϳ.mp M) j i ⋯ ⋯ h
  subst G;rw[r]at K;cases K;rfl
open Classical in
abbrev dX(us:gq)(v:Value):Nat:=if h:∃i,us[i]?=a0 v then h.choose else 0
def yE(k:us.Nodup)(h:us[i]?=a0 v):dX us v=i:=by
 unfold dX;have b:∃i,us[i]?=a0 v:=⟨i,h⟩;rw[dif_pos b];have j:=b.choose_spec;obtain⟨e,c⟩:=Ú.mp h;obtain⟨g,d⟩:=Ú.mp j;have:=ϳ.mp k;rcases N3 i b.choose with a|a|a
 .show absurd (c.trans d.symm)<|this _ _ e g a
 .show a.symm
 .show absurd (d.trans c.symm)<|this _ _ g e a
def GX{e:Type}d{ks:List e}(p:ks.length=us.length)(m:ks.Nodup)(n:us.Nodup):(∀i,i<us.length->ks.getD i d∈ks)/\(∀i j,i<us.length->j<us.length->i≠j->ks.getD i d≠ks.getD j d)/\∀v∈us,∃i,i<us.length/\us[i]?=a0 v/\dX us v=i:=by
 have k:∀i,i<us.length->ks.getD i d∈ks:=λi a=>by rw[š,ó<|by lia];show bf _
 have l:∀i j,i<us.length->j<us.length->i≠j->ks.getD i d≠ks.getD j d:=λi j a o b=>by
  rw[š,š,ó<|by lia,ó<|by lia];have:=ϳ.mp m;rcases Nat.lt_or_gt_of_ne b with h|h
  .show this i j ⋯ ⋯ h
  .show(this j i ⋯ ⋯ h).symm
 have c:∀v∈us,∃i,i<us.length/\us[i]?=a0 v/\dX us v=i:=λv g=>by obtain⟨i,a⟩:=ϴ g;show⟨i,(Ú.mp a).1,a,yE n a⟩
 show⟨k,l,c⟩
def GY{lt:r->r->Bool}(O:ť lt)d{ks:List r}{us out:gq}(X:ks.length=us.length)(nk:ks.Nodup)(N:us.Nodup)(L:2<=us.length)(o1:out.Perm us)(o2:out.Pairwise λx y=>fQ lt ks (ks.getD (dX us x) d)<=fQ lt ks (ks.getD (dX us y) d)):out=(cR (λi j=>lt (ks.getD i d)<|ks.getD j d) us.length).map λi=>us.getD i ş:=by
 obtain⟨p,M,m⟩:=GX d X nk N;have n:∀i∈cR (λi j=>lt (ks.getD i d)<|ks.getD j d) us.length,i<us.length:=λi l=>Ů.mp<|(gP _ _).mem_iff.mp l;have T:∀i,i<us.length->us[i]?=a0 (us.getD i .none):=λi l=>by rw[š,ó l];rfl
 have B:∀v∈out,v∈us:=λv G=>o1.mem_iff.mp G
  -- the places of what came out
 have k:out.map (dX us)=cR (λi j=>lt (ks.getD i d)<|ks.getD j d) us.length:=by
  have g:(out.map<|dX us).Perm (ġ us.length):=by
   show(o1.map<|dX us).trans ?_;have:us.map (dX us)=ġ us.length:=by
    apply mq;intro i;rw[ú];by_cases l:i<us.length
    .rw[ó l,Mr l];show congrArg a0<|yE N<|ó l
    .rw[ώ<|by lia,ώ<|by simp;lia];rfl
   rw[this]
  have s1:(out.map<|dX us).Pairwise λi j=>lt (ks.getD i d) (ks.getD j d)=true:=by rw[Χ];have o:(out.map<|dX us).Nodup:=g.nodup_iff.mpr QN;unfold yg at o;rw[Χ]at o;show zz (R:=λx y=>fQ lt ks (ks.getD (dX us x) d)<=fQ lt ks (ks.getD (dX us y) d)/\dX us x≠dX us y) (λ{x y} Y Z h=>?_)<|o2.and o;obtain⟨i,q,K,z⟩:=m x<|B x Y;obtain⟨j,H,gj,Q⟩:=m y<|B y Z;rw[z,Q]at h ⊢;rw[xQ O (p i q)<|p j H,decide_eq_true_eq];have:=F9 O (p i q) (p j H)<|M i j q H h.2;have:=h.1;lia
  have s2:(cR (λi j=>lt (ks.getD i d)<|ks.getD j d) us.length).Pairwise λi j=>lt (ks.getD i d) (ks.getD j d)=true:=by
   have a:=Bj (lt:=lt) O.ir O.tr (λa b c h=>by
    cases e:lt a c with
    |true=>show .inl rfl|false=>
     cases u:lt c b with
     |true=>show .inr rfl|false=>
      cases I:lt c a with
      |true=>rw[O.tr _ _ _ I h]at u;cases u
      |false=>rw[O.to _ _ e I,u]at h;cases h) d ks (n:=us.length)<|by lia
   have o:(cR (λi j=>lt (ks.getD i d)<|ks.getD j d) us.length).Nodup:=(gP _ _).nodup_iff.mpr QN;show zz (R:=λi j=>lt (ks.getD j d) (ks.getD i d)=a8/\i≠j) (λ{i j} l U h=>?_)<|a.and o;cases e:lt (ks.getD i d) (ks.getD j d)with
   |true=>rfl|false=>show absurd (O.to _ _ e h.1)<|M i j (n i l) (n j U) h.2
  show zq (le:=λi j=>lt (ks.getD i d) (ks.getD j d)=a9) (λi j _ _ R L=>by
   have:=O.tr _ _ _ R L;rw[O.ir]at this;cases this) s1 s2<|g.trans (gP _ _).symm
 rw[<- k,ã];symm;conv=>rhs;rw[<- WF out]
 show a2x λv G=>?_;obtain⟨i,q,K,z⟩:=m v<|B v G;change us.getD (dX us v) .none=v;rw[z,š,K];rfl
def G0{lt:g->g->Bool}(O:ť lt)d{ks:List g}(H:ks.length=us.length)(M:ks.Nodup)(n:us.Nodup):(us.Pairwise λx y=>fQ lt ks (ks.getD (dX us x) d)≠fQ lt ks (ks.getD (dX us y) d)) /\
  ∀s,nI P w A us (λi j=>lt (ks.getD i d)<|ks.getD j d) s->xM P w A us (λx y=>decide<|fQ lt ks (ks.getD (dX us x) d)<fQ lt ks (ks.getD (dX us y) d)) s:=by
 obtain⟨c,L,b⟩:=GX d H M n;show⟨?_,λs a=>?_⟩
 .show ϳ.mpr λi j k l G=>?_;rw[yE n<|ó k,yE n<|ó l];show F9 O (c i k) (c j l)<|L i j k l<|by lia
 .unfold nI at a;unfold xM;show Ķ a (λQ N m=>?_) λ_ _ x=>x;obtain⟨e,m⟩:=m;show⟨e,λx y C I K h=>?_⟩;obtain⟨i,o,z,u⟩:=b x I;obtain⟨j,p,B,v⟩:=b y K;dsimp only at h;rw[u,v,<- xQ O (c i o)<|c j p]at h;have:=m i j C o p h;have q:us.getD i .none=x:=by rw[š,z];rfl
  have r:us.getD j .none=y:=by rw[š,B];rfl
  rw[q,r]at this;show this
def G4{lt:e->e->Bool}(O:ť lt)d{ks:List e}(k:ks.length=us.length)(l:ks.Nodup)(m:us.Nodup)(h:2<=us.length)(hz:us.length<=Ñ)(g:s.heap.get? c=a0 (ý "list" us.toArray z))(H:∀a,(∀b o,b≠c->s.heap.get? b=a0 o->a.get? b=a0 o)->nI P w A us (λi j=>lt (ks.getD i d)<|ks.getD j d) {s with heap:=a})(q:R (.done<|.ret .none) {s with heap:=JF s.heap c us ((cR (λi j=>lt (ks.getD i d)<|ks.getD j d) us.length).map λi=>us.getD i ş).toArray}):Ç (É P w) A (Builtin.«list.sort» ⟨[.ref c],[]⟩) R E s:=by
 obtain⟨n,p⟩:=G0 (P:=P) (w:=w) (A:=A) O d k l m;show a9U (rk:=λv=>fQ lt ks<|ks.getD (dX us v) d) n h hz g (λa r=>p _<|H a r) λu o1 o2=>?_;rw[GY O d k l m h o1 o2];show q
def G5{lt:y->y->Bool}(O:ť lt)l{ks:List y}(z:an=λi j=>lt (ks.getD i l)<|ks.getD j l)(X:ks.length=es.size)(Z:ks.Nodup)(U:A.handled=a7)(Y:s.heap.IsItemsView r d)(g:ö s.heap d es ep)(N:es.size<=Ñ)(H:2<=es.size->∀k tk as,(∀b o,s.heap.get? b=a0 o->k.get? b=a0 o)->as.length=es.size->Ċ es s.heap.objs.size k as->nI P w A.in1.in1 (as.map Ò) an {s with heap:=k,toks:=tk})(q:∀k tk as(L e:Nat),(∀b o,s.heap.get? b=a0 o->k.get? b=a0 o)->as.length=es.size->Ċ es s.heap.objs.size k as->s.heap.objs.size<=L->(∀a∈as,a≠L)->k.get? L=a0 (ý "list" ((cR an es.size).map λi=>Ò<|as.getD i 0).toArray e)->Q (.ref L) {s with heap:=k,toks:=tk}):
  Ç (É P w) A (call (.builtin "sorted") [.ref r]) Q E s:=by
 show Rj Nq O2 O0 (args_sorted1 _) ?_;unfold Oj;show Á (m:=Nh "sorted" 1 1 _) (Ð<|Á<|Ul (A:=A.in1) U Y g ⋯ λc tk as M u v p=>?_);have I:(as.map Ò).length=es.size:=by rw[Å,u]
 show Á (t6 ?_<|by rw[I];lia);have nu:(as.map Ò).Nodup:=by unfold yg;rw[Χ];show v.up.imp λh e=>by cases e;show absurd h<|ϣ _
 subst z;have n:(c.push<|ý "list" (as.map Ò).toArray 0).get? c.objs.size=a0 (ý "list" (as.map Ò).toArray 0):=ē _ rfl;have fin:∀m:gq,m=((cR (λi j=>lt (ks.getD i l)<|ks.getD j l) es.size).map λi=>Ò<|as.getD i 0)->Q (.ref c.objs.size) {s with heap:=JF (c.push<|ý "list" (as.map Ò).toArray 0) c.objs.size (as.map Ò) m.toArray,toks:=tk}:=by
  rintro m rfl;obtain⟨e,T⟩:=Nx (h:=c.push (ý "list" (as.map Ò).toArray 0)) (out:=((cR (λi j=>lt (ks.getD i l)<|ks.getD j l) es.size).map λi=>Ò<|as.getD i 0).toArray) n;have old:∀b o,c.get? b=a0 o->(JF (c.push<|ý "list" (as.map Ò).toArray 0) c.objs.size (as.map Ò) ((cR (λi j=>lt (ks.getD i l)<|ks.getD j l) es.size).map λi=>Ò<|as.getD i 0).toArray).get? b=a0 o:=λb o x=>by rw[OE (õ<|ß x)<|by rw[fB];show zg<|ß x];show æ _ x
  show q _ tk as c.objs.size e (λb o x=>old b o<|M b o x) u (v.stay λb o _ x=>old b o x) p (λa R=>õ<|v.lt R) T
 by_cases B:2<=es.size
 .show Á<|ō<|Ϡ yt (s:={s with heap:=c.push<|ý "list" (as.map Ò).toArray 0,toks:=tk}) ⟨_,n,rfl⟩ yh (G4 O l (by rw[I];show X) Z nu ⋯ ⋯ n (λk K=>?_) ⟨_,rfl,?_⟩)<|Mh _
  .show H B k tk as (λb o e=>K b o (õ<|ĩ (ß e) p)<|æ _<|M b o e) u<|v.stay λb o hb e=>K b o (õ<|ß e)<|æ _ e
  .show Ð ⟨_,rfl,fin _ ?_⟩;rw[I];show a2x λi G=>?_;have G:i<as.length:=by have:=Ů.mp<|(gP _ es.size).mem_iff.mp G;lia
   simp[ę,G]
 .show Á (ō<|Ϡ yt (s:={s with heap:=c.push<|ý "list" (as.map Ò).toArray 0,toks:=tk}) ⟨_,n,rfl⟩ yh (FA ⋯ n ⟨_,rfl,?_⟩)<|Mh _);show Ð ⟨_,rfl,fin (as.map Ò) ?_⟩;match as,u with
  |[],e=>rw[<- e];change[]=(cR _ 0).map _;rw[A9];rfl|[b],e=>rw[<- e];change[Ò b]=(cR _ 1).map _;rw[FC];rfl|_::_::_,e=>rw[<- e]at B;simp at B
end L3
namespace L3
open PySem L2
def Up:rm (.type "list") "keys"=pure none:=by rw[MY,NH];kernel_rfl
def Uq(g:s.heap.get? a=a0 o)(j:o.cls=.type "list")(l:o.data=.seq xs k)(m:o.dict=a7)(hA:A.handled=a7)(q:∀h n,(∀b u,s.heap.get? b=a0 u->h.get? b=a0 u)->Q a7 {s with heap:=h,toks:=n}):Ç (É P w) A (M6 (.ref a) "keys") Q E s:=by
 obtain⟨c,r,p,B⟩:=o;dsimp only at j l m;subst j l m;obtain⟨y,x,v,n,z⟩:=s;have ty:∀d,(⟨y,x,v,d,z⟩:Ï).TypeIs (.ref a) "list":=λ_=>⟨_,g,rfl⟩;have G:=Qg;have H:=F.slot_list_getattribute.lookup;have I:=F.slot_list_getattribute.bind<|.ref a;have K:=am_list_getattr_none;unfold M6 getAttrBy? getAttrBy;repeat (any_goals (first|assumption|show ty _|((with_reducible change Ç _ _ (call (ο "list.__getattribute__") _ _) _ _ _);show jy F.slot_list_getattribute (ty _) am_entry_list_getattribute (F.args_list_getattribute_2 _ _) (meets_getattribute_miss_list a xs k B "keys" _ Up<|by decide +kernel) ⟨g,hA,λh d e ne=>?_⟩)|wp_step))
 obtain⟨L,M,i⟩:=ne.there;change Ç _ _ (Mx _ _ _ _ a7 a8 a8) _ _ _;unfold Mx;repeat (any_goals (first|assumption|wp_step))
 show q _ _ ne.of.keeps
def Ur{σ:St}(hh:A.handled=a7)(hu:A.in1.units<Ĉ)(ld:l≠d)(li:l≠it):∀L i(ps:bE)H s,Inv X Dn σ H s->H d=a0 (aL d ps)->c6 X.K H ps->s.heap.IsList l items->items.toList.drop i=L.map (λr=>Ò r.1)->
  (∀r∈L,(∃u,Ì r.2.2.2 u/\ι s.heap r.1 #[.ref r.2.2.1,u])/\î X.K H r.2.2.1 (r.2.1.map V.int)/\r.1≠d/\r.1≠it)->iU X Dn H it->s.heap.IsListIter it l i->ps.length+L.length<=Ñ->
  (∀j,Inv X Dn σ (aK H d<|aL d<|i7 ps L) j->R (.ok<|.ret .none) j)->Ρ (É X.prog X.w) A (.builtin "dict.update.loop" ⟨[.ref d,.ref it,Ŝ i,.none],[]⟩) R s:=by
 intro L;induction L with
 |nil=>
  intro i ps H s I e N y hd Q M st U q;obtain⟨g,k,f2,m,n,v⟩:=M;have h:items.size<=i:=by have:=congrArg ĭ hd;simp at this;lia
  show fC yB ?_;rw[gf oP _];change Ç _ A.in1 (Ŭ (.ref it) >>= _) _ _ s;show Á<|Oo hh st y (NA h) λw eb=>?_;have E:Inv X Dn σ H {s with heap:=w}:=I.turned (t':=s.toks) (λb o G e=>eb b o G e) g k m n v;change Ç _ _ (SG d [] >>= _) _ _ _;show Á<|Ð<|Ð<|q _ ?_;have:aK H d (aL d<|i7 ps [])=H:=by
   funext b;unfold aK;split
   .rename_i z;rw[z];show e.symm
   .rfl
  rw[this];show E
 |cons r L ih=>
  intro i ps H s I e N y hd Q M st U q;obtain⟨g,k,f2,m,n,v⟩:=id M;have T:items[i]?=a0 (.ref r.1):=by have:=congrArg (·[0]?) hd;simpa using this
  show fC yB ?_;rw[gf oP _];change Ç _ A.in1 (Ŭ (.ref it) >>= _) _ _ s;show Á<|OZ st y T λw st' B=>?_;have E:Inv X Dn σ H {s with heap:=w}:=I.turned (t':=s.toks) (λb o G e=>(B.2 b G).trans e) g k m n v;obtain⟨⟨u,ru,t0⟩,sq,r1,r2⟩:=Q r<|Ĭ ..;have t1:ι ({s with heap:=w}:Ï).heap r.1 #[.ref r.2.2.1,u]:=let⟨o,o1,o2⟩:=t0;⟨o,B.extBut _ o r2 o1,o2⟩;show Á<|ō<|Á<|Pd<|GN t1 ?_;have O:ps.length<Ñ:=by rw[Ļ]at U;lia
  show ō<|Bt hu E e N sq O ru λj I2 Y=>?_;show Ð ⟨Rr oP _,?_⟩;have bH:it≠d:=λz=>by rw[<- z,g]at e;cases e
  have a:∀x∈L,(∃u,Ì x.2.2.2 u/\ι j.heap x.1 #[.ref x.2.2.1,u])/\î X.K (aK H d<|aL d<|dN ps r.2.1 r.2.2.1 r.2.2.2) x.2.2.1 (x.2.1.map V.int)/\x.1≠d/\x.1≠it:=λx T=>by obtain⟨⟨u',Z,⟨o,o1,o2⟩⟩,sq',x1,x2⟩:=Q x<|ı _ T;show⟨⟨u',Z,o,Y _ o x1<|B.extBut _ o x2 o1,o2⟩,oQ e sq',x1,x2⟩
  have K:items.toList.drop (i+1)=L.map (λr=>Ò r.1):=by have:=congrArg Pa hd;simpa[Qi]using this
  show ih (i+1) (dN ps r.2.1 r.2.2.1 r.2.2.2) _ j I2 cP (GL (λp hp=>oQ e<|N p hp)<|oQ e sq) ?_ K a ⟨by rw[aY bH];show g,k,f2,m,n,v⟩ (st'.at λo ho=>Y it o bH ho) ?_ λs'' c=>q s'' ?_
  .obtain⟨o,o1,o2⟩:=y;show⟨o,Y l o ld<|B.extBut l o li o1,o2⟩
  .have:=uJ ps r.2.1 r.2.2.1 r.2.2.2;rw[Ļ]at U;lia
  .rw[yC]at c;show c
def G6:∀L ps,(ps.map (·.1)++L.map (·.2.1)).Nodup->i7 ps L=ps++L.map (·.2)
 |[],ps,_=>by simp[i7]
 |r::L,ps,h=>by
  have d:r.2.1∉ps.map (·.1):=λz=>by rw[ù]at h;show(Ϯ.mp h).2.2 _ z _ (Ĭ ..) rfl
  have e:dN ps r.2.1 r.2.2.1 r.2.2.2=ps++[r.2]:=by unfold dN;rw[if_neg];intro z;obtain⟨v,a⟩:=SM.mp z;unfold d8 at a;show bY a ?_;clear a;intro p b _;have c:=Ql b;simp only[decide_eq_true_eq]at c;show d<|Þ.mpr ⟨p,Ox b,c⟩
  change i7 (dN ps r.2.1 r.2.2.1 r.2.2.2) L=_;rw[e,G6 L _<|by simpa using h];simp
def Us{σ:St}(hc:X.calm=a9)(T:X.A.units+64<Ĉ)(I:Inv X Dn σ H s)(A:s.heap.get? l=a0 {cls:=.type "list",data:=.seq (L.map λr=>Ò r.1).toArray e})(N:L.length<=Ñ)(R:∀r∈L,(∃u,Ì r.2.2.2 u/\ι s.heap r.1 #[.ref r.2.2.1,u])/\î X.K H r.2.2.1 (r.2.1.map V.int))(k:∀d,H d=a7->Q (.ref d) (aK H d<|aL d<|i7 [] L)):
  Ç (É X.prog X.w) X.A (call (.type "dict") [.ref l]) (EP X Dn σ Q) X.xe s:=by
 have G:H s.heap.objs.size=none:=I.hok.fresh<|Õ _;show Mi (Q₁:=λi a=>i=.ref s.heap.objs.size/\a={s with heap:=s.heap.push {cls:=.type "dict",data:=.dict #[]}}) F.kt_called_dict (F.kt_typeCall_dict_1 _) F.entry_dict_init (Pj _ ⟨rfl,rfl⟩) ?_;rintro i a ⟨rfl,rfl⟩;have K:Inv X Dn σ (aK H s.heap.objs.size<|aL s.heap.objs.size []) {s with heap:=s.heap.push {cls:=.type "dict",data:=.dict #[]}}:=I.laid (a:=s.heap.objs.size) (o:=aL s.heap.objs.size []) (t':=s.toks) (λ_ _ q=>æ _ q) (Õ _)<|xX s.heap I.big;have ty:({s with heap:=s.heap.push {cls:=.type "dict",data:=.dict #[]}}:Ï).TypeIs (.ref s.heap.objs.size) "dict":=⟨_,ē _ rfl,rfl⟩;show⟨ty,F.args_dict_init_2 _ _,?_⟩;unfold Builtin.«dict.__init__»;show Á ?_;unfold SJ;show Á<|qj ty ?_;change Ç _ _ (pure (s.heap.objs.size,[Ò l])) _ _ _;show Ð ?_;change Ç _ _ (NO "dict.__init__" s.heap.objs.size (.ref l) [] .none) _ _ _;unfold NO;have mono:∀{b:Addr}{vs:gw},î X.K H b vs->î X.K (aK H s.heap.objs.size<|aL s.heap.objs.size []) b vs:=λ{b vs} z=>by
  have ne:H b≠a7->b≠s.heap.objs.size:=λf y=>by rw[y]at f;show f G
  rcases z with(z|⟨U,z⟩)|z
  .show .inl<|.inl<|by rw[aY<|ne<|by rw[z];show λy=>nomatch y];show z
  .show .inl<|.inr ⟨U,by rw[aY<|ne<|by rw[z];show λy=>nomatch y];show z⟩
  .show .inr z
 have w:=æ {cls:=.type "dict",data:=.dict #[]} A;show Á<|yd (T:="list") ⟨_,w,rfl⟩ ?_;rw[if_pos<|by decide];show Á<|Uq w rfl rfl rfl (I.ok.hd hc) λj n m=>?_;have v:Inv X Dn σ (aK H s.heap.objs.size<|aL s.heap.objs.size []) {s with heap:=j,toks:=n}:=K.kept (t':=n) m;change Ç _ _ (rule _ >>= _) _ _ _;show Á<|dj ?_;have c:({s with heap:=j,toks:=n}:Ï).heap.IsList l (L.map λr=>Ò r.1).toArray:=⟨_,m _ _ w,rfl,_,rfl⟩;show Á<|zc c ?_;have M:=v.kept (t':=n) (h':=j.push {cls:=.type "list_iterator",data:=.fields #[.ref l,.int 0 0]}) λb o e=>æ _ e;show Ð ⟨Rr oP _,?_⟩;have g:∀{b:Addr}{o:Obj},s.heap.get? b=a0 o->b≠s.heap.objs.size:=λx=>õ<|ß x;have h:∀{b:Addr}{o:Obj},s.heap.get? b=a0 o->b≠j.objs.size:=λx=>õ<|ß<|m _ _<|æ _ x;show Ur (A:=X.A.in1) (items:=(L.map λr=>Ò r.1).toArray) (I.ok.hd hc) (by change X.A.units+1+1<Ĉ;lia) (g A) (h A) L 0 [] _ _ M cP (λp O=>nomatch O) (let⟨o,o1,o2⟩:=c;⟨o,æ _ o1,o2⟩) (by simp) (λr B=>?_) (v.fpOk (Õ _)<|v.hok.fresh<|Õ _) ⟨_,ē _ rfl,rfl,rfl⟩ (by simpa using N) λZ E=>?_
 .obtain⟨⟨u,Y,o,o1,o2⟩,sq⟩:=R r B;show⟨⟨u,Y,o,æ _<|m _ _<|æ _ o1,o2⟩,mono sq,g o1,h o1⟩
 .rw[yC]at E;show⟨rfl,.ref s.heap.objs.size,_,E,rfl,k _ G⟩
abbrev eF(ps:bE):bE:=(cR (λi j=>HT.lexLt ((ps.map (·.1)).getD i [])<|(ps.map (·.1)).getD j []) ps.length).map λi=>ps.getD i ([],0,.non)
def Ĵ:(eF ps).Perm ps:=by
 unfold eF;have p:=(gP (λi j=>HT.lexLt ((ps.map (·.1)).getD i [])<|(ps.map (·.1)).getD j []) ps.length).map λi=>ps.getD i ([],0,.non);have e:(ġ ps.length).map (λi=>ps.getD i ([],0,.non))=ps:=by show QC (by simp) λi b a=>?_;simp[ę,a]
 rw[e]at p;show p
def Ut{σ:St}(hc:X.calm=a9)(T:X.A.units+64<Ĉ)(I:Inv X Dn σ H s){ps:bE}(e:H d=a0 (aL d ps))(N:c6 X.K H ps)(h2:2<=ps.length)(h64:ps.length<64)(hv:s.heap.IsItemsView r d)(k:∀l,H l=a7->Q (.ref l) (aK H l<|aL l<|eF ps)):
  Ç (É X.prog X.w) X.A (call (.builtin "sorted") [.ref r]) (λv s'=>Ç (É X.prog X.w) X.A (call (.type "dict") [v]) (EP X Dn σ Q) X.xe s') X.xe s:=by
 obtain⟨lo,hl,E,rv,z,es,ep,z1,z2,z3,z4,z5,z6⟩:=jS I (.of e) N;have U:E.length=ps.length:=by have:=rv.length;rw[Å]at this;show this.symm
 have Y:(b6 ps E).length=ps.length:=by unfold b6;rw[Ou,U,OA]
 have a:es.size=ps.length:=by rw[<- ao,z4,Å,Y]
 have nd:(ps.map (·.1)).Nodup:=by rw[nG rv]at z6;show z6
 have q:∀(j:Nat)(b:DictEntry),es[j]?=a0 b->∃p u,ps[j]?=a0 p/\E[j]?=a0 u/\b.key=.ref p.2.1/\b.val=u:=λj b h=>by
  rw[<- γ,z4,ú]at h;obtain⟨x,c,rfl⟩:=Ō.mp h;unfold b6 at c;rw[NJ]at c;cases R:ps[j]? with
  |none=>rw[R]at c;simp at c|some p=>
   cases hw:E[j]? with
   |none=>rw[R,hw]at c;simp at c|some u=>
    rw[R,hw]at c;have:(p.1,p.2.1,u)=x:=by simpa using c
    subst this;show⟨p,u,rfl,rfl,rfl,rfl⟩
 show G5 xR [] (ks:=ps.map (·.1)) (an:=λi j=>HT.lexLt ((ps.map (·.1)).getD i [])<|(ps.map (·.1)).getD j []) rfl (by rw[Å,a]) nd (I.ok.hd hc) hv ⟨z,z1,z2,z3⟩ (by rw[Ā];lia) (λh22 B o n Z al pr=>?_) λB o n L b Z al pr hL nL G=>?_
 .have A:Inv X Dn σ H {s with heap:=B,toks:=o}:=I.kept (t':=o) Z;show GW (A:=X.A.in1.in1) (s:={s with heap:=B,toks:=o}) (bs:=ps.map (·.2.1)) (ks:=ps.map (·.1)) (by change X.A.units+1+1<Ĉ;lia) pr ⋯ al (by rw[Å,a]) (by rw[Å,a]) (λj b hj=>?_) nd;obtain⟨p,u,g,p2,p3,p4⟩:=q j b hj;have hjl:j<ps.length:=(Ú.mp g).1;have eb:(ps.map (·.2.1)).getD j 0=p.2.1:=by simp[ę,g]
  have ek:(ps.map (·.1)).getD j []=p.1:=by simp[ę,g]
  rw[eb,ek];have sq:=N p<|Ğ g;show⟨p3,l7 A sq,?_⟩;obtain⟨xs,rx,t,_⟩:=A.tuple sq;show⟨xs,t,FD rx⟩
 .have A:Inv X Dn σ H {s with heap:=B,toks:=o}:=I.kept (t':=o) Z;rw[a]at G;have m:=(A8 (λi j=>HT.lexLt ((ps.map (·.1)).getD i [])<|(ps.map (·.1)).getD j []) (n:=ps.length)<|by lia);have w:∀i∈cR (λi j=>HT.lexLt ((ps.map (·.1)).getD i [])<|(ps.map (·.1)).getD j []) ps.length,i<ps.length:=λi K=>Ů.mp<|m.mem_iff.mp K;generalize hix:cR (λi j=>HT.lexLt ((ps.map (·.1)).getD i [])<|(ps.map (·.1)).getD j []) ps.length=ix at G m w;have y:eF ps=ix.map λi=>ps.getD i ([],0,.non):=by unfold eF;rw[hix]
  show Us hc T A (L:=ix.map λi=>(n.getD i 0,ps.getD i ([],0,.non))) (e:=b) ?_ (by rw[Å,m.length_eq,Qa];show hl) (λr hr=>?_) λl O=>?_
  .rw[ã];show G
  .obtain⟨i,K,rfl⟩:=Þ.mp hr;have hi':=w i K;have M:n[i]?=a0 (n.getD i 0):=by simp[ę,show i<n.length by lia]
   obtain⟨x,x1,x2⟩:=pr.prs i _ M;obtain⟨p,u,g,p2,p3,p4⟩:=q i x x1;have ep:ps.getD i ([],0,.non)=p:=by simp[ę,g]
   dsimp only;rw[ep];obtain⟨u',g1,g2⟩:=rv.get (i:=i) (x:=p.2.2) (by rw[ú,g];rfl);rw[p2]at g1;cases g1;rw[p3,p4]at x2;show⟨⟨u,g2,_,x2,rfl,_,rfl⟩,N p<|Ğ g⟩
  .have hf:i7 [] (ix.map λi=>(n.getD i 0,ps.getD i ([],0,.non)))=eF ps:=by
    rw[G6 _ [] ?_,ź,ã,y]
    .rfl
    .rw[Ϣ,ź,ã];have pm:=(Ĵ (ps:=ps)).map (·.1);rw[y,ã]at pm;show pm.nodup_iff.mpr nd
   rw[hf];show k l O
def yF d(hd:(d==ř)=a8):xn P w (Builtin.«dict.items» ⟨[.ref d],[]⟩) (λ_ R s=>(∃es ep,ö s.heap d es ep) /\
   R (.ok<|.ret<|.ref s.heap.objs.size) {s with heap:=s.heap.push {cls:=.type "dict_items",data:=.fields #[.ref d]}}):=
 .of_wp λA R s ⟨⟨es,ep,g⟩,h⟩=>by unfold Builtin.«dict.items»;show Á ?_;unfold NM;show Á<|qj g.ty ?_;change Ç _ _ (pure d) _ _ s;show Ð ?_;change Ç _ _ (iu d >>= _) _ _ s;unfold iu;rw[if_neg<|by rw[hd];show Ī];show Á<|Ð ?_;show Á<|Η<|Ð ⟨_,rfl,h⟩
abbrev G7(K:Ö):V->gw->Hp->VK->Prop:=λx _ H Q=>∃a ps,x=.ref a/\H a=a0 (aL a ps)/\c6 K H ps/\2<=ps.length/\ps.length<64/\∀l,H l=a7->Q (.ref l) (aK H l<|aL l<|eF ps)
def Uu{pos:è}(hc:X.calm=a9)(w:X.A.units+64<Ĉ)(r:X.mg "sorted"=a7)(u:X.mg "dict"=a7)(m:Gl X "sorted")(n:Gl X "dict")(T:PE X o to)(c:ω o "items" X.env (eval o X.env)=eval o X.env)(d:(apos.endLine==cpos.line)=a9):
  PE X (.Call (.Name "dict" p) [.Call (.Name "sorted" p2) [.Call (.Attribute o "items" apos) [] [] cpos] [] pos2] [] pos) (λj H Q=>to j H λx k=>G7 X.K x [] k Q):=by
 intro i s j H Q I h;show ς<|f9 I n u P9 ?_;show bj ?_ rfl rfl;show ig ?_;show ς<|f9 I m r vm ?_;show NN ?_ rfl rfl;show ig ?_;show pq c d<|aQ (T i s j H _ I h) λv y ⟨x,k,A,Z,a,ps,M,e,B,R,l,q⟩=>?_;subst M;obtain rfl:v=Ò a:=Z;obtain⟨Y,hl,L,K,g,he⟩:=oO A e B;show⟨"dict","dict.items",qd,iy,ND,g.ty,λb G=>?_,bu rfl<|qi ?_⟩
 .cases G;obtain⟨z,N,O,_⟩:=g;show⟨z,N,O.2.1⟩
 show WP iy g.ty NG (NP _) (yF a Y) ⟨⟨L,K,g⟩,?_⟩;show ie ?_;have E:Inv X i j k {y with heap:=y.heap.push {cls:=.type "dict_items",data:=.fields #[.ref a]}}:=A.kept (t':=y.toks) λb o e=>æ _ e;show aQ (Ut hc w E e B R l ⟨_,ē _ rfl,rfl,rfl⟩ q) λv s' U=>ie U
abbrev dO(kvs:jx):jx:=(cR (λi j=>HT.lexLt ((kvs.map (·.1)).getD i [])<|(kvs.map (·.1)).getD j []) kvs.length).map λi=>kvs.getD i ([],.non)
abbrev uP:D->Hm->jk
 |.loc a,μ=>match μ[a]? with
  |some (.dT kvs)=>if 2<=kvs.length/\kvs.length<64 then a0 (.loc μ.length,μ++[.dT<|dO kvs])else a7|_=>a7
 |_,_=>a7
abbrev yG(m:ME):ME:=λρ a=>(m ρ a).bind λr=>uP r.1 r.2
def Bv{R:b->c->Prop}{as:List b}{bs:List c}(h:Ŧ R as bs)d g:∀i,i<as.length->R (as.getD i d) (bs.getD i g):=by
 induction h with
 |nil=>show λi a=>nomatch a|cons e t j=>
  intro i a;cases i with
  |zero=>show e|succ i=>show j i<|by simpa using a
def Bw{R:a->b->Prop}{f:Nat->a}{g:Nat->b}:∀{l:List Nat},(∀i∈l,R (f i) (g i))->Ŧ R (l.map f) (l.map g)
 |[],_=>.nil|i::l,h=>.cons (h i<|Ĭ ..)<|Bw λj c=>h j<|ı _ c
def Bx(h:ø K π n H ps kvs):ps.length=kvs.length/\ø K π n H (eF ps) (dO kvs):=by
 have a:=h.to.1;have b:ps.length=kvs.length:=by have:=congrArg ĭ a;simpa using this
 show⟨b,?_⟩;unfold eF dO;rw[a,b];show Bw λi c=>Bv h _ _ i ?_;have:=Ů.mp<|(gP _ kvs.length).mem_iff.mp c;lia
def Uv:∀σ H Q,tM K (yG i) σ H Q->tM K i σ H λx g=>G7 K x [] g Q:=by
 rintro σ H Q ⟨y,A,v,d,w,R,E,a,k⟩;show aZ a ?_;clear a;intro x e q a;show⟨y,A,v,x,e,R,E,q,λz L g n h s=>?_⟩;have u:=k.after n;dsimp only at a;unfold uP at a;split at a
 .split at a
  .rename_i c hc;split at a
   .rename_i G;cases a;cases s;obtain⟨j,o,T⟩:=gR h hc;obtain⟨B,b⟩:=Bx T;show⟨_,j,rfl,o,T.keys,by lia,by lia,λl r=>?_⟩;obtain⟨p,m,I⟩:=h.alloc (c:=.dT (dO c)) (o:=aL l (eF j)) r ⟨_,rfl,b.to.1,b.to.2.1,b.to.2.2⟩;show u _ _ _ p m j9
   .cases a
  .cases a
 .cases a
def Uw{pos:è}(hc:X.calm=a9)(i:X.A.units+64<Ĉ)(g:X.mg "sorted"=a7)(h:X.mg "dict"=a7)(d:Gl X "sorted")(e:Gl X "dict")(l:QE X o j)(m:eE o=a9)(k:(a.endLine==b.line)=a9):
  QE X (.Call (.Name "dict" p) [.Call (.Name "sorted" n) [.Call (.Attribute o "items" a) [] [] b] [] c] [] pos) (yG j):=
 ⟨c4 (Uu hc i g h d e l.h (jR m) k) Uv⟩
abbrev qI(mk mv:ME):ME:=λρ a=>(mk ρ<|a++[.dT []]).bind λp=>(mv ρ p.2).bind λq=>match q.2[a.length]? with
 |some (.dT [])=>(dR p.1).map λk=>(.loc a.length,q.2.set a.length<|.dT [(k,q.1)])|_=>a7
abbrev Ux(K:Ö)(tk tv:TE):TE:=λσ H Q=>∀p,H p=a7->tk σ (aK H p<|aL p []) λx d=>tv σ d λy a=>a p=a0 (aL p [])/\∃b c,x=.ref b/\î K a b (c.map V.int)/\Q (.ref p) (aK a p<|aL p [(c,b,y)])
def Uy{tv:TE}{pos:è}(L:X.A.units+1<Ĉ)(n:PE X k tk)(w:PE X v tv):PE X (.Dict [a0 k] [v] pos) (Ux X.K tk tv):=by intro a s c H Q I q;have o:=I.hok.fresh<|Õ s.heap.objs.size;have h:=I.laid (a:=s.heap.objs.size) (o:=aL s.heap.objs.size []) (h':=s.heap.push {cls:=.type "dict",data:=.dict #[]}) (t':=s.toks) (λ_ _ q=>æ _ q) (Õ _)<|xX s.heap I.big;show wpAny_Dict_any rfl rfl (by simp) (by simp)<|pairTrees_cons_walk<|aQ (n a _ c _ _ h<|q _ o) λu G ⟨x,d,i,B,z⟩=>aQ (w a G c d _ i z) λR O ⟨y,K,j,E,e,b,M,l,m,A⟩=>pairTrees_nil_walk ?_;subst l;obtain rfl:u=Ò b:=B;unfold storeAll;show Á (Á<|Bt ⋯ j e (λp r=>nomatch r) m (by rw[Ā];simp) E λN g _=>Ð<|Ð ?_);show⟨.ref s.heap.objs.size,_,g,rfl,A⟩
def Uz{pos:è}(hr:ç n X.A)(Y:QE X k mk)(hv:QE X v mv):QE X (.Dict [a0 k] [v] pos) (qI mk mv):=⟨c4 (Uy (fI hr) Y.h hv.h)<|by
 rintro σ H Q ⟨π,L,h,d,μ',R,E,a,kc⟩ p Z;show aZ a ?_;clear a;intro x c O a;show aZ a ?_;clear a;intro y e U a;obtain⟨q,N,q1⟩:=R.alloc (c:=.dT []) (o:=aL p []) Z ⟨[],rfl,rfl,.nil,.nil⟩;show⟨_,L,_,x,c,N,E.mono q,O,λz v1 H1 m R2 i1=>⟨z,L,c,y,e,R2,(E.mono q).mono m,U,λg K M r A i2=>?_⟩⟩;dsimp only at a;split at a
 .rename_i hc;show bY a ?_;clear a;intro l u a;cases a;have i:h.length<e.length:=(Ú.mp hc).1;have w:(h++[C.dT []]).length<=c.length:=m.le;have j:g h.length=p:=by rw[r.pi h.length<|by simp at w;lia,m.pi h.length<|by simp,q1]
  obtain⟨ps,s,T⟩:=gR A hc;cases T;obtain⟨b,rfl,I⟩:=nH (i1.mono r) u;obtain⟨G,B⟩:=A.put (a:=h.length) (c:=.dT [(l,y)]) (o:=aL _ [(l,b,K)]) i s (.inr<|.inr ⟨_,rfl⟩)<|by
   have o:ø X.K g e.length M [(l,b,K)] [(l,y)]:=.cons ⟨rfl,I,i2⟩ .nil;show⟨_,rfl,o.to.1,o.to.2.1,o.to.2.2⟩
  rw[j]at s G B;show⟨s,b,l,rfl,I,kc g _ _ (((q.trans m).trans r).trans G) B ?_⟩;rw[<- j];show .loc<|by rw[Θ];show i
 .cases a⟩
def Inv.freeze{σ:St}{ps:bE}(I:Inv X Dn σ H s)(e:H a=a0 (aL a ps))(c:s.heap.get? a=a0 ob):Inv X Dn σ (aK H a<|.frz ob<|aL a ps) s:=by have ok:â X.prog X.w H s.heap a (aL a ps):=I.hok a _ e;show I.write (x:=a) (e:=a) (h':=s.heap) (t':=s.toks) (by rw[e];show J1) (.inl rfl) (λb q _ z=>z) ⟨ob,c⟩ ⟨c,ok⟩
def Inv.thaw{σ σ0:St}{ps ps0:bE}(m:Inv X pins0 σ0 H0 s0)(n:H0 a=a0 (aL a ps0))(I:Inv X Dn σ H s)(e:H a=a0 (.frz ob<|aL a ps)):Inv X Dn σ (aK H a<|aL a ps) s:=by
 have ne:∀{b:Addr},H b=a7->b≠a:=λ{b} h z=>by rw[z,e]at h;cases h
 show⟨I.ok,I.os,I.bare,⟨I.base.keep,I.base.slot,λb o d g i=>?_,I.base.there,λb k h=>?_,λb o u h=>?_,λb v h=>?_⟩,I.loc,I.cell,?_,λx c h=>?_,λp r=>?_,λb u q=>?_,I.len⟩
 .have:=I.base.free b o d g i;rw[aY<|ne this];show this
 .have:=I.base.tups b k h;rw[aY λz=>by rw[z,e]at this;cases this];show this
 .have:=I.base.frzs b o u h;rw[aY λz=>by
   have l:=m.base.frzs b o u h;rw[z,n]at l;cases l]
  show this
 .obtain⟨more,d⟩:=I.base.tbls b v h;show⟨more,by rw[aY λz=>by rw[z,e]at d;cases d];show d⟩
 .rw[aY<|ne I.free];show I.free
 .have:=I.freeC x c h;rw[aY<|ne this];show this
 .obtain⟨d,g,i⟩:=I.pin p r;show⟨d,by rw[aY<|ne g];show g,i⟩
 .by_cases j:b=a
  .subst j;rw[cP]at q;cases q;show(show â X.prog X.w H s.heap b (.frz ob<|aL b ps)from I.hok b _ e).2
  .rw[aY j]at q;show(I.hok b u q).stay (λ_ _ _ z=>z) (λc h=>by rw[aY λz=>by rw[z,e]at h;cases h];show h) λc k h=>by rw[aY λz=>by rw[z,e]at h;cases h];show h
abbrev sU(i:Nat)(ρ:aF)(b:Hm):Option (Nat×jx):=match ρ[i]? with
 |some (a0<|.loc a)=>match b[a]? with
  |some (.dT kvs)=>a0 (a,kvs)|_=>a7
 |_=>a7
def G8(h:sU i ρ b=a0 (a,kvs)):b[a]?=a0 (.dT kvs):=by
 unfold sU at h;split at h
 .split at h
  .rename_i hc;cases h;show hc
  .cases h
 .cases h
abbrev By(i:Nat)(c d:ME):ME:=λρ b=>match sU i ρ b with
 |some (a,kvs)=>(c ρ<|b.set a<|.dF kvs).bind λr=>match r.2[a]? with
  |some (.dF kvs')=>a0 (r.1,r.2.set a<|.dT kvs')|_=>a7
 |none=>d ρ b
abbrev gT(i:Nat)(c d:MS):MS:=λρ b=>match sU i ρ b with
 |some (a,kvs)=>(c ρ<|b.set a<|.dF kvs).bind λr=>match r.2.2[a]? with
  |some (.dF kvs')=>a0 (r.1,r.2.1,r.2.2.set a<|.dT kvs')|_=>a7
 |none=>d ρ b
def G9{σ:St}{kvs:jx}(I:Inv X Dn σ H s)(R:Rp X.K π H μ)(E:En X.K π μ.length H σ ρ)(hc:μ[a]?=a0 (.dT kvs)):∃b ps,H (π a)=a0 (aL (π a) ps)/\Inv X Dn σ (aK H (π a)<|.frz b<|aL (π a) ps) s /\
  Rp X.K π (aK H (π a)<|.frz b<|aL (π a) ps) (μ.set a<|.dF kvs)/\En X.K π (μ.set a<|.dF kvs).length (aK H (π a)<|.frz b<|aL (π a) ps) σ ρ:=by
 obtain⟨ps,c,T⟩:=gR R hc;obtain⟨_,⟨b,e⟩,_⟩:=(show â X.prog X.w H s.heap (π a) (aL (π a) ps)from I.hok _ _ c);obtain⟨d,R2⟩:=R.put (c:=.dF kvs) (o:=.frz b (aL (π a) ps)) (Ú.mp hc).1 c (.inr<|.inr ⟨_,rfl⟩) ⟨b,ps,rfl,T.to⟩;show⟨b,ps,c,Inv.freeze I c e,R2,E.mono d⟩
def uQ{σ:St}{μ:Hm}{kvs:jx}{m:St}{ps:bE}{d:jx}(I:Inv X Dn σ H s)(e:H (π a)=a0 (aL (π a) ps))(y:a<μ.length)(x:Inv X g m j w)(v:Rp X.K c j μ')(k:û π (μ.set a<|.dF kvs).length (aK H (π a)<|.frz B<|aL (π a) ps) c μ'.length j)(hc:μ'[a]?=a0 (.dF d)):
  ∃n,Inv X g m n w/\û π μ.length H c (μ'.set a<|.dT d).length n/\Rp X.K c n (μ'.set a<|.dT d)/\ņ c μ'.length j c (μ'.set a<|.dT d).length n:=by
 have q:c a=π a:=k.pi a (by rw[Θ];show y);obtain⟨E,i,r,T⟩:=uK v hc;obtain⟨K,R2⟩:=v.put0 (c:=.dT d) (o:=aL (c a) i) (Ú.mp hc).1 r (.inr<|.inr<|.inr ⟨_,_,rfl⟩) ⟨i,rfl,T.to⟩;rw[q]at r;show⟨aK j (c a)<|aL (c a) i,?_,⟨?_,λb A=>k.pi b<|by rw[Θ];show A,λp G h=>?_,λp o u h=>?_⟩,R2,K⟩
 .rw[q];show Inv.thaw I e x r
 .have:=k.le;rw[Θ]at this ⊢;show this
 .have l:p≠π a:=λz=>by rw[z,e]at h;cases h
  have:=k.tup p G (by rw[aY l];show h);rw[q,aY l];show this
 .have l:p≠π a:=λz=>by rw[z,e]at h;cases h
  have:=k.frz p o u (by rw[aY l];show h);rw[q,aY l];show this
def En.mono0(E:En K π n H σ ρ)(e:ņ π n H b g c):En K b g c σ ρ:=
 ⟨E.len,λi d h=>let⟨v,j,k⟩:=E.get i d h;⟨v,j,k.mono0 e⟩⟩
def UA(h1:QE X e y)(h2:QE X e z):QE X e (By i y z):=⟨by
 intro j s G H Q I hw;obtain⟨l,B,A,d,q,R,E,c,k⟩:=hw;unfold By at c;split at c
 .rename_i a p hv;show aZ c ?_;clear c;intro x g Z c;dsimp only at c;split at c
  .rename_i w n;cases c;have hc:=G8 hv;obtain⟨ob,ps,U,L,O,K⟩:=G9 I R E hc;show aQ (h1.h j s G _ (λv h=>∃b,û l (A.set a<|.dF p).length (aK H (l a)<|.frz ob<|aL (l a) ps) b g.length h/\Rp X.K b h g/\Ý X.K b g.length h v d) L ⟨l,B,_,d,g,O,K,Z,λb v h m R2 o=>⟨b,m,R2,o⟩⟩) λu s2 ⟨v,h,M,rv,b,m,R2,o⟩=>?_;obtain⟨r,N,Y,T,x3⟩:=uQ I U (Ú.mp hc).1 M R2 m n;show⟨v,r,N,rv,k b v r Y T<|o.mono0 x3⟩
  .cases c
 .show h2.h j s G H Q I ⟨l,B,A,d,q,R,E,c,k⟩⟩
def Bz(h1:QS X st Z)(h2:QS X st m2):QS X st (gT i Z m2):=⟨by
 intro K s σ H D I hw;obtain⟨l,ρ,L,B,o,U,R,E,r,k⟩:=hw;unfold gT at r;split at r
 .rename_i a w hv;obtain⟨⟨fl1,ρ1,g⟩,g1,r⟩:=œ.mp r;dsimp only at r;split at r
  .rename_i Y p;cases r;have hc:=G8 hv;have N:=(Ú.mp hc).1;obtain⟨O,Q,M,I1,R1,E1⟩:=G9 I R E hc;show aQ (h1.h K s σ _ ⟨λc h=>B=.nx/\∃b,û l (L.set a<|.dF w).length (aK H (l a)<|.frz O<|aL (l a) Q) b g.length h/\Rp X.K b h g/\En X.K b g.length h c o,
     λv h=>∃d,B=.rt d/\∃b,û l (L.set a<|.dF w).length (aK H (l a)<|.frz O<|aL (l a) Q) b g.length h/\Rp X.K b h g/\Ý X.K b g.length h v d,
     λc h=>B=.bk/\∃b,û l (L.set a<|.dF w).length (aK H (l a)<|.frz O<|aL (l a) Q) b g.length h/\Rp X.K b h g/\En X.K b g.length h c o,
     λc h=>B=.ct/\∃b,û l (L.set a<|.dF w).length (aK H (l a)<|.frz O<|aL (l a) Q) b g.length h/\Rp X.K b h g/\En X.K b g.length h c o⟩ I1 ⟨l,ρ,_,B,o,g,R1,E1,g1,?_⟩) λf s2 q=>?_
   .cases B with
    |nx=>show λb c h j R2 m=>⟨rfl,b,j,R2,m⟩|bk=>show λb c h j R2 m=>⟨rfl,b,j,R2,m⟩|ct=>show λb c h j R2 m=>⟨rfl,b,j,R2,m⟩|rt d=>show λb v h j R2 T=>⟨d,rfl,b,j,R2,T⟩
   .cases f with
    |next=>obtain⟨c,h,x,rfl,b,j,R2,m⟩:=q;obtain⟨n,y,A,z,G⟩:=uQ I M N x R2 j p;show⟨c,n,y,k b c n A z<|En.mono0 m G⟩|brk=>obtain⟨c,h,x,rfl,b,j,R2,m⟩:=q;obtain⟨n,y,A,z,G⟩:=uQ I M N x R2 j p;show⟨c,n,y,k b c n A z<|En.mono0 m G⟩|cont=>obtain⟨c,h,x,rfl,b,j,R2,m⟩:=q;obtain⟨n,y,A,z,G⟩:=uQ I M N x R2 j p;show⟨c,n,y,k b c n A z<|En.mono0 m G⟩|ret u=>obtain⟨v,c,h,x,rv,d,rfl,b,j,R2,T⟩:=q;obtain⟨n,y,A,z,G⟩:=uQ I M N x R2 j p;show⟨v,c,n,y,rv,k b v n A z<|T.mono0 G⟩
  .cases r
 .show h2.h K s σ H D I ⟨l,ρ,L,B,o,U,R,E,r,k⟩⟩
abbrev BA(d:Addr)(a:Obj)(ps:bE):It:=⟨λi H=>H d=a0 (.frz a<|aL d ps)/\i<ps.length,λi H x b=>b=H/\∃p,ps[i]?=a0 p/\x=.ref p.2.1,λi H=>H d=a0 (.frz a<|aL d ps)/\ps.length<=i⟩
def qJ{σ:St}{ps:bE}(I:Inv X Dn σ H s)(e:H d=a0 (.frz c<|aL d ps)):
  (d==ř)=a8/\ps.length<=Ñ/\∃a b,ö s.heap d a b/\c.data=.dict a b/\a.toList.map (·.key)=ps.map λp=>Ò p.2.1:=by
 obtain⟨g,⟨q,r,m,l,o,a,b,h,j,i,k,n⟩,_⟩:=(show â X.prog X.w H s.heap d (.frz c<|aL d ps)from I.hok d _ e);rw[g]at h;cases h;show⟨m,l,a,b,⟨c,g,j,i⟩,i,?_⟩;rw[k,xV (P:=X.prog) (w:=X.w),ã,<- Br r];rfl
def Ha:∀(ps:bE)(ws:gq),ps.length=ws.length->(yq wR ps ws).map (·.val)=ws
 |[],[],_=>rfl|[],_::_,h=>by cases h
 |_::_,[],h=>by cases h
 |p::ps,u::ws,h=>by rw[υ,ù,Ha ps ws<|by simpa using h];rfl
def uR{σ:St}{ps:bE}(I:Inv X Dn σ H s)(e:H d=a0 (.frz c<|aL d ps)):
  (d==ř)=a8/\ps.length<=Ñ/\∃a b,ö s.heap d a b/\c.data=.dict a b/\Ä (ps.map (·.2.2)) (a.toList.map (·.val)):=by
 obtain⟨h,⟨g,r,p,n,o,a,b,i,l,j,m,q⟩,_⟩:=(show â X.prog X.w H s.heap d (.frz c<|aL d ps)from I.hok d _ e);rw[h]at i;cases i;show⟨p,n,a,b,⟨c,h,l,j⟩,j,?_⟩;have k:(yq wR ps g).map (·.val)=g:=Ha ps g<|by
  have:=r.length;rw[Å]at this;show this
 rw[m,k];show r
def UB(hd:Y.data=.dict es ep):Ņ Qc P w K tg (BA d Y ps) [n] n (λi h=>h.IsKeyIter n d i es.size ep) where
 mem:=by simp
 obj:=λi h st b j=>by
  have e:b=n:=by simpa using j
  subst e;obtain⟨o,e,c,d⟩:=st;show⟨o,e,λv z=>by rw[d]at z;cases z⟩
 keep:=λi h q st k=>st.at λo e=>k n (by simp) o e;item:=by
  intro X Q hw O hc i p s Z H E I x st R;subst Q hw O;obtain⟨m,r⟩:=R;obtain⟨lo,hl,A,y,g,a,u⟩:=qJ I m;rw[hd]at a;cases a;have hs:es.size=ps.length:=by have:=congrArg ĭ u;simpa using this
  obtain⟨B,G,f2,L,M,N⟩:=x n (by simp);show xZ (I.ok.hd hc) st g (λe q l U sb=>?_) λhn=>by simp at hn;lia
  have I1:Inv X p Z H {s with heap:=q}:=I.turned (t':=s.toks) (λb o j e=>(sb.2 b j).trans e) B G L M N;obtain⟨o,e1,c,d1⟩:=id U;have T:ps[i]?=a0 ps[i]:=ó r;have ek:e.key=.ref (ps[i]).2.1:=by have:=congrArg (·[i]?) u;simp only[ú,γ,l,T,į]at this;show ė this
  show⟨e.key,rfl,tW (s:={s with heap:=q}) e1 c d1 (by decide) ⟨.ref (ps[i]).2.1,H,I1,ek,⟨rfl,ps[i],T,rfl⟩,U,λb j=>(x b j).1⟩⟩
 done:=by
  intro X Q hw O hc i p s Z H E I x st R;subst Q hw O;obtain⟨m,r⟩:=R;obtain⟨lo,hl,A,y,g,a,u⟩:=qJ I m;rw[hd]at a;cases a;have hs:es.size=ps.length:=by have:=congrArg ĭ u;simpa using this
  obtain⟨B,G,f2,L,M,N⟩:=x n (by simp);show xZ (I.ok.hd hc) st g (λe q l=>by
   have:=(Oz.mp l).1;lia) λ_ q eb=>⟨rfl,I.turned (t':=s.toks) (λb o j e=>eb b o j e) B G L M N⟩
 self:=λ_ _ _ _ _ st h=>Qr st h
def UC(m:PE X l n):PI X tg l (λσ H R=>n σ H λv a=>∃d k ps,v=.ref d/\a d=a0 (.frz k<|aL d ps)/\R (BA d k ps) a):=by
 intro j s σ H R I h;show aQ (m j s σ H _ I h) λv i ⟨y,a,c,x,w⟩=>?_;obtain⟨d,k,ps,e,r,q⟩:=w;subst e;obtain rfl:v=Ò d:=x;obtain⟨u,m,A,z,g,hd,B⟩:=qJ c r;show GB u g ⟨i.heap.objs.size,[i.heap.objs.size],_,_,a,rfl,c.kept (t':=i.toks) λb o e=>æ _ e,UB hd,⟨_,ē _ rfl,rfl,rfl⟩,λb p=>?_,q⟩;have e:b=i.heap.objs.size:=by simpa using p
 subst e;show c.fpOk (Õ _)<|c.hok.fresh<|Õ _
abbrev fJ(kvs:jx):List D:=kvs.map λk=>D.tup<|k.1.map D.int
def UD{ps:bE}(c:H d=a0 (.frz h<|aL d ps))(T:ø K π n H ps kvs):Wk K (BA d h ps) (c9<|.tup<|fJ kvs) π n H:=by
 have u:ps.length=kvs.length:=by have:=congrArg ĭ T.to.1;simpa using this
 show⟨λb r j i e R z=>?_,λb r j i k e R z=>?_⟩
 .have a:(fJ kvs)[i]?=none:=ė z;have:=ϐ.mp a;rw[fJ,Å]at this;show⟨e.frz _ _ _ c,by lia⟩
 .have a:(fJ kvs)[i]?=a0 k:=ė z;have w:i<kvs.length:=by have:=(Ú.mp a).1;rwa [fJ,Å]at this
  show⟨⟨e.frz _ _ _ c,by lia⟩,λv s ⟨l,p,m,o⟩=>?_⟩;subst l o;obtain⟨x,g,q⟩:=(T.to.2.1.mono e).get a;rw[ú,m]at g;cases g;show⟨.refl,R,q⟩
abbrev fR(m:ME):MI:=λρ b=>(m ρ b).bind λp=>match p.1 with
 |.loc a=>match p.2[a]? with
  |some (.dF kvs)=>a0 (c9<|.tup<|fJ kvs,kvs.length+1,p.2)|_=>a7
 |_=>a7
def BB(h:QE X e m):QJ X e (fR m):=⟨λtg Dn s σ H R I hw=>by
 obtain⟨z,A,v,u,n,w,i,E,a,k⟩:=hw;show aZ a ?_;clear a;intro x y l a;dsimp only at a;split at a
 .split at a
  .rename_i p hc;cases a;show UC h.h Dn s σ H R I ⟨z,A,v,_,_,i,E,l,λb B g j c o=>?_⟩;cases o;obtain⟨q,r,d,T⟩:=uK c hc;show⟨_,q,r,rfl,d,k b g _ j c<|UD d T⟩
  .cases a
 .cases a⟩
end L3
namespace L3
open PySem L2 PySem.W PyProof.Rows
abbrev BC(h:Č)(b:Addr)(k:List Int):Prop:=∃xs:gq,ι h b xs.toArray/\ŭ xs k
def Hb{bs:List Addr}{ks:List (List Int)}(K:0<bs.length)(r:ks.length=bs.length)(key:∀j b,bs[j]?=a0 b->BC s.heap b (ks.getD j [])/\ks.getD j []≠[]):nI P w A (bs.map Ò) (λi j=>HT.lexLt (ks.getD i [])<|ks.getD j []) s:=by
 have l:∃fs:gq,fs.length=bs.length/\KatTups s.heap (bs.map Ò) fs/\∀v∈fs,∃i t,v=Ġ i t:=by
  clear K;induction bs generalizing ks with
  |nil=>show⟨[],rfl,.nil,λv a=>nomatch a⟩|cons b bs Q=>
   match ks,r with
   |k::ks,r=>
    obtain⟨fs,u,m,p⟩:=Q (ks:=ks) (by simpa using r) λj c hc=>by simpa using key (j+1) c (by simpa using hc)
    obtain⟨⟨xs,⟨o,e,c,n,d⟩,g⟩,h⟩:=key 0 b rfl;simp only[List.getD_cons_zero]at g h;cases g with
    |nil=>show absurd rfl h|@cons i x T R M=>
     show⟨Ġ i x::fs,by simp[u],.cons e c d (by simp) m,λv a=>?_⟩;rcases ċ.mp a with rfl|a
     .show⟨i,x,rfl⟩
     .show p v a
 obtain⟨fs,u,m,p⟩:=l;unfold nI;show kat_kind (T:=.type "int") m ?_ (λv a=>?_) rfl ⟨rfl,λi j C g q L=>?_⟩
 .lia
 .obtain⟨i,t,rfl⟩:=p v a;show .now
 .rw[Å]at g q;obtain⟨⟨xa,⟨oa,B,U,Y,y⟩,N⟩,_⟩:=key i bs[i]<|ó g;obtain⟨⟨xb,⟨ob,G,X,Z,z⟩,O⟩,_⟩:=key j bs[j]<|ó q;have H:(bs.map Ò).getD i .none=.ref bs[i]:=by simp[ę,g]
  have I:(bs.map Ò).getD j .none=.ref bs[j]:=by simp[ę,q]
  rw[H,I];show kat_lt B y G z<|Fz 0 N O L
end L3
namespace L3
open PySem L2
abbrev sV(b:Hm):D->Bool
 |.loc a=>match b[a]? with|some (.dT _)=>a9|_=>a8
 |_=>a8
abbrev oR(f:D->List D->Hm->jk)(a:ME)(ms:MA):ME:=λρ b=>(a ρ b).bind λp=>match sV p.2 p.1 with
 |true=>(ms ρ p.2).bind λq=>f p.1 q.1 q.2|false=>a7
abbrev BE(K:Ö)(x:V)(H:Hp):Prop:=∃a ps,x=.ref a/\H a=a0 (aL a ps)/\c6 K H ps
def UE(R:Rp K π H b)(h:Ý K π b.length H v x)(e:sV b x=a9):BE K v H:=by
 cases h with
 |@loc a i=>
  simp only[sV]at e;split at e
  .rename_i j d;obtain⟨g,c,T⟩:=gR R d;show⟨_,g,rfl,c,T.keys⟩
  .cases e
 |_=>cases e
def UG{id:String}(m:Slot "dict" name id)(w:qx (.builtin id)=pure (.type "method_descriptor"))(O:kQ X id r)(R:PE X o to)(M:PA X (e::es) t)(i:ω o name X.env (eval o X.env)=eval o X.env)(l:((Ŋ cpos<|ă (e::es) X.env).all (λx=>!x.1)&&(jt cpos<|ju [] X.env).all (λx=>x.1.isSome)&&decide ((e::es).length+([]:List Γ).length+(if([]:List Γ).isEmpty then 0 else 1)<30))=a9)(j:(apos.endLine==cpos.line)=a9)(T:ă (e::es) X.env=(a8,eval e X.env)::ă es X.env)(c:(Ŋ cpos<|ă es X.env).any (·.1)=a8):
  PE X (.Call (.Attribute o name apos) (e::es) [] cpos) (λk H Q=>to k H λx p=>BE X.K x p/\t k p λq u=>r x q u Q):=by
 intro d s k H Q I h;show RJ i l j rfl<|aQ (R d s k H _ I h) λv s1 ⟨x,p,y,Z,ty,U⟩=>?_;obtain⟨a,ps,rfl,G,N⟩:=ty;obtain rfl:v=Ò a:=Z;obtain⟨lo,hl,q,ep,g,_⟩:=oO y G N;show⟨"dict",id,qd,m,w,g.ty,λb E=>?_,?_⟩
 .cases E;obtain⟨z,K,L,_⟩:=g;show⟨z,K,L.2.1⟩
 have A:=M cpos d s1 k p _ y U;rw[T]at A ⊢;show bu (by change(a8||(Ŋ cpos<|ă es X.env).any (·.1))=a8;rw[c]<;>rfl)<|Ro ?_;show aQ A λus s2 ⟨q,u,B,r2,Y⟩=>O d s2 k u (.ref a) q _ us Q B rfl r2 Y
def UH(z:jQ K f r):∀σ H Q,tM K (oR f mo ms) σ H Q->tM K mo σ H λx g=>BE K x g/\ŷ K ms σ g λvs h=>r x vs h Q:=by
 rintro σ H Q ⟨L,v,I,d,i,R,E,a,k⟩;show aZ a ?_;clear a;intro x b w a;dsimp only at a;split at a
 .rename_i A;show aZ a ?_;clear a;intro u c y a;show⟨L,v,I,x,b,R,E,w,λj G g p m s=>⟨UE m s A,j,v,b,u,c,m,E.mono p,y,λl vs h q R2 B=>?_⟩⟩;show z l h c x u d i G vs Q R2 (s.mono q) B a<|k.after<|p.trans q
 .cases a
def Hc{id:String}(c:Slot "dict" name id)(d:qx (.builtin id)=pure (.type "method_descriptor"))(j:kQ X id r)(h:jQ X.K f r)(l:QE X o mo)(g:QA X (e::es) ms n)(m:eE o=a9)(i:(apos.endLine==cpos.line)=a9)(k:(e::es).length<30):QE X (.Call (.Attribute o name apos) (e::es) [] cpos) (oR f mo ms):=by
 have b:=g.s;have a:=b;rw[Ŕ,í]at a;show⟨c4 (UG c d j l.h g.h (jR m) (Fs b k) i (gN a.1)<|pW a.2)<|UH h⟩
abbrev qK:D->List D->Hm->jk
 |.loc a,[y,z],μ=>match μ[a]? with
  |some (.dT kvs)=>(dR y).map λk=>((bB kvs k).getD z,μ)|_=>a7
 |_,_,_=>a7
abbrev He(K:Ö):V->gw->Hp->VK->Prop:=λx vs H Q=>∃a b ps k z,x=.ref a/\vs=[.ref b,z]/\H a=a0 (aL a ps)/\c6 K H ps/\î K H b (k.map V.int)/\Q ((d8 ps k).getD z) H
def UI:jQ K qK (He K):=by
 intro u H A x z d s v y Q R m c a k;unfold qK at a;split at a
 .split at a
  .rename_i p hc;show bY a ?_;clear a;intro h j a;cases a;cases m;cases c with
   |cons n t=>
    cases t with
    |cons o t=>
     cases t;obtain⟨q,i,T⟩:=gR R hc;obtain⟨b,rfl,l⟩:=nH n j;show⟨_,b,q,h,_,rfl,rfl,i,T.keys,l,k u _ H .refl R ?_⟩;rcases T.val h with⟨e,g⟩|⟨v,w,e,g,r⟩
     .rw[e,g];show o
     .rw[e,g];show r
  .cases a
 .cases a
def UJ(w:X.A.units+1<Ĉ):kQ X "dict.get" (He X.K):=by
 intro m s O H x M v L Q I E B h;obtain⟨a,b,g,k,z,rfl,rfl,e,o,n,q⟩:=h;cases E;obtain⟨u,G,rfl,A,i⟩:=B.two;obtain rfl:u=Ò b:=A;obtain⟨p,K,l,r,d⟩:=jS I (.of e) o;show WP RY d.typeIs PySem.F.entry_dict_get (PySem.F.args_dict_get_3 _ _ _) (meetsH_dict_get_default (J0<|Ϛ X.prog X.w) a b p G) ⟨sR w,k,_,l7 I n,d,?_⟩;show⟨(d8 g k).getD z,H,I.tok _,?_,q⟩;have:=qG r k;cases j:d8 g k with
 |none=>
  rw[j]at this;cases c:(θ (b6 g l) k).map (·.2)with
  |none=>show i|some y=>rw[c]at this;show this.elim
 |some N=>
  rw[j]at this;cases c:(θ (b6 g l) k).map (·.2)with
  |none=>rw[c]at this;show this.elim|some y=>rw[c]at this;show this
section
variable{P:ł}{w:Į}{K:Type} [DecidableEq K] {knd:HeapKind P w K}{A:Ł}{E:Value->Ï->Prop}{s:Ï}{d a:Addr}{k:K}{xs:List (K×Addr×Value)}
def UK(z:knd.room A)(q:knd.is s.heap k a)(I:s.heap.DictOfH knd d xs)(hz:xs.length<=Ñ)(h1:∀p,θ xs k=a0 p->Q p.2 {s with toks:=s.toks+knd.draws k})(H:θ xs k=a7->∀n,n.DictOfH knd d (M3 xs k a v)->Ϭ d s.heap n->Q v {s with heap:=n,toks:=s.toks+knd.draws k}):
  Ç (É P w) A (OB d (.ref a) v) Q E s:=by
 obtain⟨o,L,G,g,hc,hd,m,h,r⟩:=id I;unfold OB;show ō<|Á<|knd.pyHash z q<|Á<|wpAny_dictFind_heap (s:={s with toks:=s.toks+knd.draws k}) z q g hd m h r (λi=>?_) λj p u=>?_
 .have b:=atKey_none_of_get i;have l:k∉xs.map (·.1):=not_mem_keys_of_get i;show Á<|dj<|Á<|wpAny_updateDictKeys (hz:=by have e:=size_of_entries m;lia) (s:={s with toks:=s.toks+knd.draws k}) g hd<|Ð<|H b _ ⟨_,_,G+1,gk _ g<|Obj.isFreed_of_dict<|Qx hd _,hc.mapDictKeys _,Qx hd _,?_,λx c=>?_,?_⟩<|gD ..
  .rw[Nr b];simp[m,Nj]
  .rw[Nr b]at c;rcases Ą.mp c with c|c
   .show knd.keeps (h x c) g hd<|gD ..
   .rw[ĉ]at c;subst c;show knd.keeps q g hd<|gD ..
  .rw[Nr b,Ę,Ϯ];show⟨r,by simp,λx c y B e=>by
    simp only[ù,Ϣ,ĉ]at B;subst B;show l<|e▸c⟩
 .show Á<|aj (s:={s with toks:=s.toks+knd.draws k}) g hd ?_;rw[entry_at m j,u];show Á<|dj<|Ð<|h1 _<|atKey_of_get r u
def UL(knd:HeapKind P w K)d a(hd:(d==ř)=a8)v:xn P w (Builtin.«dict.setdefault» ⟨[.ref d,.ref a,v],[]⟩) (λA R s=>knd.room A.in1/\∃k xs,knd.is s.heap k a/\s.heap.DictOfH knd d xs/\xs.length<=Ñ /\
   (∀p,θ xs k=a0 p->R (.ok<|.ret p.2) {s with toks:=s.toks+knd.draws k})/\(θ xs k=a7->∀b,b.DictOfH knd d (M3 xs k a v)->Ϭ d s.heap b->R (.ok<|.ret v) {s with heap:=b,toks:=s.toks+knd.draws k})):=
 .of_wp λA R s ⟨n,k,xs,j,g,o,h,i⟩=>by unfold Builtin.«dict.setdefault»;show Á ?_;unfold b4g;show Á<|qj g.typeIs<|Ð ?_;change Ç _ _ (if(d==ř)=a9 then _ else(OB d (.ref a) v >>= _)) _ _ s;rw[if_neg<|by rw[hd];show Ī];show Á<|UK n j g o (λp m=>Ð ⟨_,rfl,h p m⟩) λl b c e=>Ð ⟨v,rfl,i l b c e⟩
end
abbrev qL:D->List D->Hm->jk
 |.loc a,[y,z],μ=>match μ[a]? with
  |some (.dT kvs)=>(dR y).bind λk=>match bB kvs k with
   |some d=>a0 (d,μ)|none=>if kvs.length<Ñ then a0 (z,μ.set a<|.dT<|cI kvs k z)else a7
  |_=>a7
 |_,_,_=>a7
abbrev Hf(K:Ö):V->gw->Hp->VK->Prop:=λx vs H Q=>∃a b ps k z,x=.ref a/\vs=[.ref b,z]/\H a=a0 (aL a ps)/\c6 K H ps/\î K H b (k.map V.int)/\((∃v,d8 ps k=a0 v/\Q v H)\/(d8 ps k=a7/\ps.length<Ñ/\Q z (aK H a<|aL a<|dN ps k b z)))
def UM:jQ K qL (Hf K):=by
 intro q H M x L d B v I Q R y h a k;unfold qL at a;split at a
 .split at a
  .rename_i e hc;show bU a ?_;clear a;intro c u a;cases y with
   |loc g=>
    cases h with
    |cons z t=>
     cases t with
     |cons p t=>
      cases t;obtain⟨i,m,T⟩:=gR R hc;obtain⟨b,rfl,o⟩:=nH z u;show⟨_,b,i,c,_,rfl,rfl,m,T.keys,o,?_⟩;have w:i.length=e.length:=by have:=congrArg ĭ T.to.1;simpa using this
      rcases T.val c with⟨j,l⟩|⟨v,E,j,l,A⟩
      .rw[l]at a;dsimp only at a;split at a
       .rename_i G;cases a;have s:=T.put c o p;obtain⟨n,r⟩:=R.put (c:=.dT (cI e c d)) (o:=aL _ (dN i c b _)) g m (.inr<|.inr ⟨_,rfl⟩) ⟨_,rfl,s.to⟩;show .inr ⟨j,by lia,k q _ _ n r<|p.mono n⟩
       .cases a
      .rw[l]at a;cases a;show .inl ⟨v,j,k q _ H .refl R A⟩
  .cases a
 .cases a
def UN(N:X.A.units+1<Ĉ):kQ X "dict.setdefault" (Hf X.K):=by
 intro w s σ H x vs v us Q I Y U h;obtain⟨a,b,n,k,z,rfl,rfl,e,G,B,q⟩:=h;cases Y;obtain⟨u,Z,rfl,T,i⟩:=U.two;obtain rfl:u=Ò b:=T;obtain⟨m,hl,ws,r,d⟩:=jS I (.of e) G;have O:(b6 n ws).length<=Ñ:=by have:=congrArg ĭ<|nG r;rw[Å,Å]at this;lia
 have c:=qG r k;show WP SF d.typeIs PySem.F.entry_dict_setdefault (PySem.F.args_dict_setdefault_3 _ _ _) (UL (J0<|Ϛ X.prog X.w) a b m Z) ⟨sR N,k,_,l7 I B,d,O,λp L=>?_,λK A j l=>?_⟩
 .rw[L]at c;rcases q with⟨o,g,q⟩|⟨g,_⟩
  .rw[g]at c;show⟨o,H,I.tok _,c,q⟩
  .rw[g]at c;show c.elim
 .rw[K]at c;rcases q with⟨o,g,q⟩|⟨g,hz,q⟩
  .rw[g]at c;show c.elim
  .obtain⟨ws',R,y⟩:=Bp r k b i;rw[y]at j;have E:∃q,A.get? a=a0 q:=let⟨q,_,_,M,_⟩:=j;⟨q,M⟩;show⟨z,_,Aq I (by rw[e];show J1) l E<|xW m (by have:=uJ n k b z;lia) R j,i,q⟩
noncomputable abbrev uS:=List<|List Int×Addr×Value
inductive bz (A:Ł)(s:Ï)(ys:uS):uS->Bool->Prop
 |nil:bz A s ys [] a9
 |miss {x:List Int×Addr×Value}{r:uS}:θ ys x.1=a7->bz A s ys (x::r) a8
 |hit {x:List Int×Addr×Value}{p:Addr×Value}{r:uS}{e b:Bool}:θ ys x.1=a0 p->uc A s x.2.2 p.2 e->bz A s ys r b->bz A s ys (x::r) (e&&b)
noncomputable abbrev BF(_:Nat):Prop:=True
def Hg{σ:St}(I:Inv X Dn σ H s)(k:∀b u,s.heap.get? b=a0 u->h'.get? b=a0 u)(old:∀b,b<s.heap.objs.size->H' b=H b)(new:∀b o,s.heap.objs.size<=b->H' b=a0 o->â X.prog X.w H' h' b o):
  Inv X Dn σ H' {s with heap:=h',toks:=t'}:=by
 have lt:∀b u,H b=a0 u->b<s.heap.objs.size:=λb u e=>Qn λz=>by rw[I.hok.fresh z]at e;cases e
 have a:∀b u,H b=a0 u->H' b=a0 u:=λb u e=>by rw[old b<|lt b u e];show e
 show I.un ⟨λb u q _ _ _=>k b u q,λb u q _ _ _=>⟨u.slots,k b u q⟩,λb u q n _=>by rw[old b<|ß q];show n,λb u q _=>⟨u,k b u q⟩,λb g q=>a b _ q,λb u g q=>a b _ q,λb h q=>⟨#[],by rw[a b _ q];simp⟩⟩ λb u e=>?_;by_cases d:b<s.heap.objs.size
 .rw[old b d]at e;show(I.hok b u e).stay (λc v _ q=>k c v q) (λc q=>a c _ q) λc g q=>a c _ q
 .show new b u (a6g d) e
abbrev eH(H:Hp):List Addr->bE->Hp
 |a::as,p::ps=>eH (aK H a<|.tup [.ref p.2.1,p.2.2]) as ps|_,_=>H
def mD:∀{as}{ps}{H}{b},b∉as->eH H as ps b=H b
 |[],_,_,_,_=>by simp[eH]
 |a::as,[],_,_,_=>rfl|a::as,p::ps,H,b,h=>by rw[ċ,not_or]at h;change eH (aK H a _) as ps b=H b;rw[mD h.2,aY h.1]
def sW:∀{as:List Addr}{ps:bE}{H:Hp}{i:Nat}{a:Addr}{p:List Int×Addr×V},as.Nodup->as[i]?=a0 a->ps[i]?=a0 p->eH H as ps a=a0 (.tup [.ref p.2.1,p.2.2])
 |[],_,_,_,_,_,_,h,_=>by simp at h
 |_::_,[],_,_,_,_,_,_,h=>by simp at h
 |x::as,y::ps,H,0,a,p,nd,h1,h2=>by
  obtain rfl:x=a:=by simpa using h1
  obtain rfl:y=p:=by simpa using h2
  rw[Ś]at nd;change eH (aK H x _) as ps x=_;rw[mD nd.1,cP]
 |x::as,y::ps,H,i+1,a,p,nd,h1,h2=>by rw[Ś]at nd;show sW (as:=as) (ps:=ps) (i:=i) nd.2 (by simpa using h1)<|by simpa using h2
abbrev gU(ps:bE):List Nat:=cR (λi j=>HT.lexLt ((ps.map (·.1)).getD i [])<|(ps.map (·.1)).getD j []) ps.length
abbrev fS(as:List Addr)(ps:bE):gw:=(gU ps).map λi=>V.ref<|as.getD i 0
def UO{σ:St}(hc:X.calm=a9)(hun:X.A.units+64<Ĉ)(I:Inv X Dn σ H s){ps:bE}(e:H d=a0 (aL d ps))(hk:c6 X.K H ps)(h64:BF ps.length)(hv:s.heap.IsItemsView r d)(k:∀as L l,as.length=ps.length->(l::L::as).Nodup->(∀a∈l::L::as,H a=a7)->Q (.ref l) (aK (aK (eH H as ps) L<|.lst<|fS as ps) l<|.tup<|fS as ps)):
  Ç (É X.prog X.w) X.A (call (.builtin "sorted") [.ref r]) (λv s'=>Ç (É X.prog X.w) X.A (call (.type "tuple") [v]) (EP X Dn σ Q) X.xe s') X.xe s:=by
 obtain⟨lo,hl,ws,rv,z,es,ep,z1,z2,z3,z4,z5,z6⟩:=jS I (.of e) hk;have hwl:ws.length=ps.length:=by have:=rv.length;rw[Å]at this;show this.symm
 have hxl:(b6 ps ws).length=ps.length:=by unfold b6;rw[Ou,hwl,OA]
 have m:es.size=ps.length:=by rw[<- ao,z4,Å,hxl]
 have nd:(ps.map (·.1)).Nodup:=by rw[nG rv]at z6;show z6
 have M:∀(j:Nat)(q:DictEntry),es[j]?=a0 q->∃p u,ps[j]?=a0 p/\ws[j]?=a0 u/\q.key=.ref p.2.1/\q.val=u:=λj q h=>by
  rw[<- γ,z4,ú]at h;obtain⟨x,w,rfl⟩:=Ō.mp h;unfold b6 at w;rw[NJ]at w;cases A:ps[j]? with
  |none=>rw[A]at w;simp at w|some p=>
   cases hw:ws[j]? with
   |none=>rw[A,hw]at w;simp at w|some u=>
    rw[A,hw]at w;have:(p.1,p.2.1,u)=x:=by simpa using w
    subst this;show⟨p,u,rfl,rfl,rfl,rfl⟩
 show G5 xR [] (ks:=ps.map (·.1)) (an:=λi j=>HT.lexLt ((ps.map (·.1)).getD i [])<|(ps.map (·.1)).getD j []) rfl (by rw[Å,m]) nd (I.ok.hd hc) hv ⟨z,z1,z2,z3⟩ ⋯ (λh22 Y K as kp U G=>?_) λY K as L q kp U G hL nL gL=>?_
 .have I3:Inv X Dn σ H {s with heap:=Y,toks:=K}:=I.kept (t':=K) kp;show GW (A:=X.A.in1.in1) (s:={s with heap:=Y,toks:=K}) (bs:=ps.map (·.2.1)) (ks:=ps.map (·.1)) (by change X.A.units+1+1<Ĉ;lia) G ⋯ U (by rw[Å,m]) (by rw[Å,m]) (λj q y=>?_) nd;obtain⟨p,u,E,p2,p3,p4⟩:=M j q y;have n:j<ps.length:=(Ú.mp E).1;have g:(ps.map (·.2.1)).getD j 0=p.2.1:=by simp[ę,E]
  have ek:(ps.map (·.1)).getD j []=p.1:=by simp[ę,E]
  rw[g,ek];have sq:=hk p<|Ğ E;show⟨p3,l7 I3 sq,?_⟩;obtain⟨xs,rx,t,_⟩:=I3.tuple sq;show⟨xs,t,FD rx⟩
 .rw[m]at gL U;have B:as.Nodup:=G.up.imp λh=>õ h;have hin:∀i∈gU ps,i<ps.length:=λi hi=>Ů.mp<|(gP _ _).mem_iff.mp hi;have T:(gU ps).length=ps.length:=by have:=(gP (λi j=>HT.lexLt ((ps.map (·.1)).getD i [])<|(ps.map (·.1)).getD j []) ps.length).length_eq;rw[Qa]at this;show this
  have nLa:L∉as:=λh=>nL L h rfl;have I1:Inv X Dn σ (aK (eH H as ps) L<|.lst<|fS as ps) {s with heap:=Y,toks:=K}:=by
   show Hg (t':=K) I kp (λb Z=>?_) λb o Z g=>?_
   .rw[aY<|õ<|ĩ Z hL,mD λh=>Q6 Z<|G.over b h]
   .by_cases O:b=L
    .subst O;rw[cP]at g;cases g;show⟨by unfold fS;rw[Å,T];show hl,(gU ps).map λi=>Ò<|as.getD i 0,q,?_,gL⟩;unfold fS;show Bw λi _=>rfl
    .rw[aY O]at g;by_cases R:b∈as
     .obtain⟨j,y⟩:=uy.mp R;have n:j<ps.length:=by have:=(Ú.mp y).1;lia
      have A:ps[j]?=a0 ps[j]:=ó n;rw[sW B y A]at g;cases g;obtain⟨x,x1,x2⟩:=G.prs j _ y;obtain⟨p,u,E,p2,p3,p4⟩:=M j x x1;rw[A]at E;cases E;obtain⟨u',g1,g2⟩:=rv.get (i:=j) (x:=ps[j].2.2) (by rw[ú,A];rfl);rw[p2]at g1;cases g1;rw[p3,p4]at x2;show⟨by change(2:Nat)<=Ñ;decide,[.ref ps[j].2.1,u],.cons rfl<|.cons g2 .nil,_,x2,rfl,0,rfl,rfl⟩
     .rw[mD R,I.hok.fresh Z]at g;cases g
  show D8 Dn _ σ _ [.ref L] [.ref L] Q I1 (.cons rfl .nil) ⟨L,fS as ps,rfl,.inl ⟨.inl<|.inl cP,λl c=>?_⟩⟩;have lL:l≠L:=λh=>by rw[h,cP]at c;cases c
  rw[aY lL]at c;have la:l∉as:=λh=>by
   obtain⟨j,y⟩:=uy.mp h;have n:j<ps.length:=by have:=(Ú.mp y).1;lia
   rw[sW B y<|ó n]at c;cases c
  rw[mD la]at c;show k as L l U ?_ λa N=>?_
  .rw[Ś,Ś];show⟨λh=>(ċ.mp h).elim lL la,nLa,B⟩
  .rcases ċ.mp N with rfl|N
   .show c
   rcases ċ.mp N with rfl|N
   .show I.hok.fresh hL
   .show I.hok.fresh<|Ζ<|G.over a N
abbrev mG(k:List Int×D):D:=.tup [.tup<|k.1.map D.int,k.2]
abbrev yH:D->Hm->jk
 |.loc a,μ=>match μ[a]? with
  |some (.dT kvs)=>if BF kvs.length then a0 (.tup<|(dO kvs).map mG,μ)else a7|_=>a7
 |_,_=>a7
abbrev yI(m:ME):ME:=λρ a=>(m ρ a).bind λr=>yH r.1 r.2
abbrev Hh(K:Ö):V->Hp->VK->Prop:=λx H Q=>∃a ps,x=.ref a/\H a=a0 (aL a ps)/\c6 K H ps/\BF ps.length /\
 ∀(as:List Addr)(L l:Addr),as.length=ps.length->(l::L::as).Nodup->(∀a∈l::L::as,H a=a7)->Q (.ref l) (aK (aK (eH H as ps) L<|.lst<|fS as ps) l<|.tup<|fS as ps)
def UP{pos:è}(hc:X.calm=a9)(w:X.A.units+64<Ĉ)(r:X.mg "sorted"=a7)(u:X.mg "tuple"=a7)(m:Gl X "sorted")(n:Gl X "tuple")(R:PE X o to)(c:ω o "items" X.env (eval o X.env)=eval o X.env)(d:(apos.endLine==cpos.line)=a9):
  PE X (.Call (.Name "tuple" p) [.Call (.Name "sorted" p2) [.Call (.Attribute o "items" apos) [] [] cpos] [] pos2] [] pos) (λj H Q=>to j H λx k=>Hh X.K x k Q):=by
 intro i s j H Q I h;show ς<|f9 I n u P7 ?_;show bj ?_ rfl rfl;show ig ?_;show ς<|f9 I m r vm ?_;show NN ?_ rfl rfl;show ig ?_;show pq c d<|aQ (R i s j H _ I h) λv y ⟨x,k,A,Y,a,ps,M,e,B,l,q⟩=>?_;subst M;obtain rfl:v=Ò a:=Y;obtain⟨U,hl,L,K,g,Z⟩:=oO A e B;show⟨"dict","dict.items",qd,iy,ND,g.ty,λb G=>?_,bu rfl<|qi ?_⟩
 .cases G;obtain⟨z,N,O,_⟩:=g;show⟨z,N,O.2.1⟩
 show WP iy g.ty NG (NP _) (yF a U) ⟨⟨L,K,g⟩,?_⟩;show ie ?_;have E:Inv X i j k {y with heap:=y.heap.push {cls:=.type "dict_items",data:=.fields #[.ref a]}}:=A.kept (t':=y.toks) λb o e=>æ _ e;show aQ (UO hc w E e B l ⟨_,ē _ rfl,rfl,rfl⟩ q) λv s' T=>ie T
def BG:∀{as}{ps}{H},Rp K π H c->as.Nodup->(∀a∈as,H a=a7)->û π c.length H π c.length (eH H as ps)/\Rp K π (eH H as ps) c
 |[],_,H,R,_,_=>by simp only[eH];show⟨.refl,R⟩
 |a::as,[],H,R,_,_=>⟨.refl,R⟩|a::as,p::ps,H,R,nd,hf=>by
  rw[Ś]at nd;obtain⟨g,e⟩:=R.fresh (o:=.tup [.ref p.2.1,p.2.2])<|hf a<|Ĭ ..;obtain⟨h,R2⟩:=BG (as:=as) (ps:=ps) e nd.2 λb d=>by rw[aY λw:b=a=>nd.1<|w▸d];show hf b<|ı _ d
  show⟨g.trans h,R2⟩
def UQ:∀σ H Q,tM K (yI X) σ H Q->tM K X σ H λx n=>Hh K x n Q:=by
 rintro σ H Q ⟨π,ρ,μ,d,o,R,E,g,k⟩;show aZ g ?_;clear g;intro x A h1 g;show⟨π,ρ,μ,x,A,R,E,h1,λh v1 n e1 B i1=>?_⟩;have k1:=k.after e1;dsimp only at g;unfold yH at g;split at g
 .split at g
  .rename_i b hc;split at g
   .rename_i hb;cases g;cases i1;obtain⟨c,e2,T⟩:=gR B hc;have U:c.length=b.length:=by have:=congrArg ĭ T.to.1;simpa using this
    show⟨_,c,rfl,e2,T.keys,by rw[U];show hb,λe L l al m v=>?_⟩;rw[Ś,Ś]at m;obtain⟨G,Z⟩:=BG (ps:=c) B m.2.2 λa ha=>v a<|ı _<|ı _ ha;have hL:eH n e c L=none:=by rw[mD m.2.1];show v L<|ı _<|Ĭ ..
    obtain⟨I,R4⟩:=Z.fresh (o:=.lst (fS e c)) hL;have hl:aK (eH n e c) L (.lst<|fS e c) l=none:=by rw[aY λw:l=L=>m.1<|by rw[w];show Ĭ ..,mD λw=>m.1<|ı _ w];show v l<|Ĭ ..
    obtain⟨M,R5⟩:=R4.fresh (o:=.tup (fS e c)) hl;show k1 h _ _ ((G.trans I).trans M) R5<|.tup (.of cP) ?_;have z:c.map (·.1)=b.map (·.1):=T.to.1;have key:∀p:List Nat,(∀i∈p,i<b.length)->Æ K h o.length (aK (aK (eH n e c) L<|.lst<|fS e c) l<|.tup<|fS e c) (p.map λi=>V.ref<|e.getD i 0) (p.map<|mG∘λi=>b.getD i ([],.non)):=λp r=>by
     induction p with
     |nil=>show .nil|cons i p ih=>
      have s:=r i<|Ĭ ..;have q:e[i]?=a0 (e.getD i 0):=by simp[ę,show i<e.length by lia]
      have y:c[i]?=a0 c[i]:=ó ⋯;have hik:b[i]?=a0 b[i]:=ó s;have N:b.getD i ([],.non)=b[i]:=by simp[ę,s]
      have ep:c.getD i ([],0,.non)=c[i]:=by simp[ę,show i<c.length by lia]
      have Y:=Bv T ([],0,.non) ([],.non) i ⋯;rw[ep,N]at Y;obtain⟨q1,q2,q3⟩:=Y;show .cons ?_<|ih λj hj=>r j<|ı _ hj;have u:aK (aK (eH n e c) L<|.lst<|fS e c) l (.tup<|fS e c) (e.getD i 0)=a0 (.tup [.ref c[i].2.1,c[i].2.2]):=by have g:=Ğ q;rw[aY λw:e.getD i 0=l=>m.1<|by rw[<- w];show ı _ g,aY λw:e.getD i 0=L=>m.2.1<|by rw[<- w];show g];show sW m.2.2 q y
      change Ý K h o.length _ (.ref<|e.getD i 0) (mG<|b.getD i ([],.non));rw[N];have O:=(G.trans I).trans M;have ik:Ý K h o.length n (.ref c[i].2.1) (.tup<|b[i].1.map D.int):=by rw[<- q1];show .tup q2<|uE _
      show .tup (.of u)<|.cons (ik.mono O)<|.cons (q3.mono O) .nil
    have ey:fS e c=(cR (λi j=>HT.lexLt ((b.map (·.1)).getD i [])<|(b.map (·.1)).getD j []) b.length).map λi=>V.ref (e.getD i 0):=by unfold fS gU;rw[z,U]
    have fin:=key (cR (λi j=>HT.lexLt ((b.map (·.1)).getD i [])<|(b.map (·.1)).getD j []) b.length) λi s=>Ů.mp<|(gP _ _).mem_iff.mp s;rw[<- ey]at fin;unfold dO;rw[ã];show fin
   .cases g
  .cases g
 .cases g
def UR{pos:è}(hc:X.calm=a9)(i:X.A.units+64<Ĉ)(g:X.mg "sorted"=a7)(h:X.mg "tuple"=a7)(d:Gl X "sorted")(e:Gl X "tuple")(l:QE X o j)(m:eE o=a9)(k:(a.endLine==b.line)=a9):
  QE X (.Call (.Name "tuple" p) [.Call (.Name "sorted" n) [.Call (.Attribute o "items" a) [] [] b] [] c] [] pos) (yI j):=
 ⟨c4 (UP hc i g h d e l.h (jR m) k) UQ⟩
def US d(hd:(d==ř)=a8):xn P w (Builtin.«dict.values» ⟨[.ref d],[]⟩) (λ_ R s=>(∃es ep,ö s.heap d es ep) /\
   R (.ok<|.ret<|.ref s.heap.objs.size) {s with heap:=s.heap.push {cls:=.type "dict_values",data:=.fields #[.ref d]}}):=
 .of_wp λA R s ⟨⟨es,ep,g⟩,h⟩=>by change Ç _ _ (NM "values" _ >>= _) _ _ s;show Á ?_;unfold NM;show Á<|qj g.ty ?_;change Ç _ _ (pure d) _ _ s;show Ð ?_;change Ç _ _ (iu d >>= _) _ _ s;unfold iu;rw[if_neg<|by rw[hd];show Ī];show Á<|Ð ?_;show Á<|Η<|Ð ⟨_,rfl,h⟩
def UT(c:s.heap.IsValuesView v d)(g:ö s.heap d es ep)(q:Q (.ref s.heap.objs.size) {s with heap:=s.heap.push {cls:=.type "dict_valueiterator",data:=.fields #[.ref d,.int 0 0,.int es.size 0,.int ep 0]}}):Ç (É P w) A (ϙ<|.ref v) Q E s:=by
 obtain⟨l,b,j,a⟩:=id c;obtain⟨z,e,k,h⟩:=id g;show Mv c.typeIs F.slot_dict_values_iter<|Ϡ F.slot_dict_values_iter c.typeIs F.entry_dict_values_iter ?_<|F.args_dict_values_iter_1 _;unfold Builtin.«dict_values.__iter__»;show Á<|Ð<|Á ?_;unfold PC;show Á<|eZ b a (x:=.ref d) rfl<|Ð<|Á ?_;unfold P8;show Á<|aj e h<|Á<|nj e h ?_;simp only[show vq "dict_valueiterator"=a8 by decide,ĸ,if_false];show Η<|Ð ⟨_,rfl,"dict_valueiterator",_,⟨_,ē _ rfl,rfl⟩,F.slot_dict_valueiterator_next.lookup,?_⟩;simpa[Ŝ]using q
def Hi(o:A.handled=a7)(j:s.heap.IsValIter it d i es.size ep)(g:ö s.heap d es ep)(r:∀e a,es[i]?=a0 e->a.IsValIter it d (i+1) es.size ep->Ϭ it s.heap a->Q (a0 e.val) {s with heap:=a})(v:es[i]?=a7->∀a,ue it s.heap a->Q a7 {s with heap:=a}):Ç (É P w) A (Ŭ<|.ref it) Q E s:=by
 obtain⟨y,h,p,b⟩:=id j;obtain⟨z,l,B,m⟩:=id g;have k:∀{Q:String->Ï->Prop}{A:Ł}{E:Value->Ï->Prop},Q "dict_valueiterator" s->Ç (É P w) A (O4<|.ref it) Q E s:=λq=>wpAny_typeNameOfWhole_valiter j.typeIs q;unfold Ŭ;show Á<|MR<|Oc (name:=Ż "__next__") j.typeIs F.slot_dict_valueiterator_next<|Ϡ F.slot_dict_valueiterator_next j.typeIs F.entry_dict_valueiterator_next ?_<|F.args_dict_valueiterator_next_1 _;show Á<|Ð<|Á<|Á<|Á<|k<|Ð<|Á<|OF h b ?_;simp only[show vq "dict_valueiterator"=a8 by decide,ĸ,if_false];change Ç _ _ (if(Ò d==ş)=a9 then _ else _) _ _ _;rw[if_neg<|show ¬ (Ò d==ş)=a9 from λx=>Ī x];show Á<|Ð<|Á<|aj l m ?_;rw[if_neg λx=>by simp at x];show Á<|Ð<|Á<|nj l m ?_;rw[if_neg λx=>by simp at x];show Ð ?_;simp only[if_neg<|show ¬ ((i:Int)<0) by lia,vX];cases n:es[i]? with
 |some e=>
  show Á<|Á<|k<|Ð<|Á<|Om j.typeIs ?_;change Ç _ _ (rE (.ref it) 1 (Ŝ<|(i:Int)+1) >>= _) _ _ _;show Á (yu h b (by simp) ?_);have c:(s.heap.update it<|Ml (·.setIfInBounds 1<|Ŝ<|(i:Int)+1)).IsValIter it d (i+1) es.size ep:=
   ⟨_,gk _ h<|RA<|Mp b _,(QU ..).trans p,by simp[Mp b,Ŝ]⟩
  generalize hu:s.heap.update it (Ml (·.setIfInBounds 1<|Ŝ<|(i:Int)+1))=u at c;show Á<|ō<|Á<|Om (s:={s with heap:=u}) c.typeIs<|Á<|Om (s:={s with heap:=u}) c.typeIs ?_;change Ç _ _ (pure e.val) _ _ _;show Ð<|Ð ⟨_,rfl,Ð<|r e u n c<|hu▸gD ..⟩
 |none=>show Á<|Á<|k<|Ð ?_;change Ç _ _ (rE (.ref it) 0 .none >>= _) _ _ _;show Á (yu h b (by simp) ?_);change Ç _ _ (qw (.type "StopIteration") [] >>= _) _ _ _;simp only[qw,NY];show Á (Á<|Η ?_<|by size_fits);show Á (m:=uq _ _) (Nu (a:=ş) (by first|rfl|(simp only[uq];rfl))<|Η ?_<|by size_fits);simp only[NZ];show Á<|Nz ?_;rw[show A.in1.handled=a7 from o];show Á<|Ð<|Nv ?thrown;case thrown=>show Á<|Me (T:="StopIteration") (b:=a9) ⟨_,ē _ rfl,rfl⟩ OC<|Ð<|v n _<|((gD ..).extBut.push _).push _
abbrev BH(d:Addr)(a:Obj)(ps:bE):It:=⟨λi H=>H d=a0 (.frz a<|aL d ps)/\i<ps.length,λi H x b=>b=H/\∃p,ps[i]?=a0 p/\x=p.2.2,λi H=>H d=a0 (.frz a<|aL d ps)/\ps.length<=i⟩
def UU(hd:Z.data=.dict es ep):Ņ Qc P w K tg (BH d Z ps) [n] n (λi h=>h.IsValIter n d i es.size ep) where
 mem:=by simp
 obj:=λi h st b j=>by
  have e:b=n:=by simpa using j
  subst e;obtain⟨o,e,c,d⟩:=st;show⟨o,e,λv z=>by rw[d]at z;cases z⟩
 keep:=λi h q st k=>let⟨o,e,c⟩:=st;⟨o,k n (by simp) o e,c⟩;item:=by
  intro X R hw Q hc i p s σ H E I y st T;subst R hw Q;obtain⟨m,r⟩:=T;obtain⟨lo,hl,B,A,g,a,x⟩:=uR I m;rw[hd]at a;cases a;have hs:es.size=ps.length:=by have:=x.length;rw[Å,Å,ao]at this;show this.symm
  obtain⟨G,L,f2,M,N,O⟩:=y n (by simp);show Hi (I.ok.hd hc) st g (λe q l Y sb=>?_) λhn=>by simp at hn;lia
  have I1:Inv X p σ H {s with heap:=q}:=I.turned (t':=s.toks) (λb o j e=>(sb.2 b j).trans e) G L M N O;obtain⟨o,e1,c,d1⟩:=id Y;have U:ps[i]?=a0 ps[i]:=ó r;obtain⟨u,u1,u2⟩:=x.get (i:=i) (x:=ps[i].2.2) (by rw[ú,U];rfl);rw[ú,γ,l]at u1;cases u1;show⟨e.val,rfl,tW (s:={s with heap:=q}) e1 c d1 (by decide) ⟨ps[i].2.2,H,I1,u2,⟨rfl,ps[i],U,rfl⟩,Y,λb j=>(y b j).1⟩⟩
 done:=by
  intro X R hw Q hc i p s σ H E I y st T;subst R hw Q;obtain⟨m,r⟩:=T;obtain⟨lo,hl,B,A,g,a,x⟩:=uR I m;rw[hd]at a;cases a;have hs:es.size=ps.length:=by have:=x.length;rw[Å,Å,ao]at this;show this.symm
  obtain⟨G,L,f2,M,N,O⟩:=y n (by simp);show Hi (I.ok.hd hc) st g (λe q l=>by
   have:=(Oz.mp l).1;lia) λ_ q eb=>⟨rfl,I.turned (t':=s.toks) (λb o j e=>eb b o j e) G L M N O⟩
 self:=λ_ _ _ _ _ st h=>wpAny_pyIter_valiter st h
def Hj(G:PE X l K)(j:ω l "values" X.env (eval l X.env)=eval l X.env)(k:(a.endLine==c.line)=a9):
  PI X tg (.Call (.Attribute l "values" a) [] [] c) (λp H R=>K p H λv m=>∃d x A,v=.ref d/\m d=a0 (.frz x<|aL d A)/\R (BH d x A) m):=by
 intro i s p H R I h;show pq j k<|aQ (G i s p H _ I h) λv n ⟨y,m,B,r1,q1⟩=>?_;obtain⟨d,x,A,e,E,q⟩:=q1;subst e;obtain rfl:v=Ò d:=r1;obtain⟨lo,G,O,M,g,hd,he⟩:=uR B E;show⟨"dict","dict.values",qd,Sa,PySem.F.type_dict_values,g.ty,λb L=>?_,bu rfl<|qi ?_⟩
 .cases L;obtain⟨z,T,u,_⟩:=g;show⟨z,T,u.2.1⟩
 show WP Sa g.ty PySem.F.entry_dict_values (PySem.F.args_dict_values_1 _) (US d lo) ⟨⟨O,M,g⟩,?_⟩;have r:Inv X i p m {n with heap:=n.heap.push {cls:=.type "dict_values",data:=.fields #[.ref d]}}:=B.kept (t':=n.toks) λb o e=>æ _ e;obtain⟨lo2,Z,Q,N,u,w,Y⟩:=uR r E;change Ç (É X.prog X.w) X.A (ϙ<|.ref n.heap.objs.size) (Ac X i p tg R) X.xe _;show UT ⟨_,ē _ rfl,rfl,rfl⟩ u ⟨_,[_],_,_,m,rfl,r.kept (t':=n.toks) λb o e=>æ _ e,UU w,⟨_,ē _ rfl,rfl,rfl⟩,λb U=>?_,q⟩;have e:=ĉ.mp U;subst e;show r.fpOk (Õ _)<|r.hok.fresh<|Õ _
abbrev i8(kvs:jx):List D:=kvs.map (·.2)
def Hk{ps:bE}(c:H d=a0 (.frz h<|aL d ps))(T:ø K π n H ps kvs):Wk K (BH d h ps) (c9<|.tup<|i8 kvs) π n H:=by
 have u:ps.length=kvs.length:=by have:=congrArg ĭ T.to.1;simpa using this
 show⟨λb r j i e R z=>?_,λb r j i k e R z=>?_⟩
 .have a:(i8 kvs)[i]?=none:=ė z;have:=ϐ.mp a;rw[i8,Å]at this;show⟨e.frz _ _ _ c,by lia⟩
 .have a:(i8 kvs)[i]?=a0 k:=ė z;have w:i<kvs.length:=by have:=(Ú.mp a).1;rwa [i8,Å]at this
  show⟨⟨e.frz _ _ _ c,by lia⟩,λv s ⟨l,p,m,o⟩=>?_⟩;subst l o;obtain⟨x,g,q⟩:=(T.to.2.2.mono e).get a;rw[ú,m]at g;cases g;show⟨.refl,R,q⟩
abbrev Hn(m:ME):MI:=λρ b=>(m ρ b).bind λp=>match p.1 with
 |.loc a=>match p.2[a]? with
  |some (.dF kvs)=>a0 (c9<|.tup<|i8 kvs,kvs.length+1,p.2)|_=>a7
 |_=>a7
def UW(h:QE X e m)(r:eE e=a9)(q:(b.endLine==c.line)=a9):QJ X (.Call (.Attribute e "values" b) [] [] c) (Hn m):=⟨λtg Dn s σ H R I hw=>by
 obtain⟨K,L,A,z,n,B,l,E,a,k⟩:=hw;show aZ a ?_;clear a;intro x G p a;dsimp only at a;split at a
 .split at a
  .rename_i v hc;cases a;show Hj h.h (jR r) q Dn s σ H R I ⟨K,L,A,_,_,l,E,p,λd M j o g u=>?_⟩;cases u;obtain⟨w,y,i,T⟩:=uK g hc;show⟨_,w,y,rfl,i,k d j _ o g<|Hk i T⟩
  .cases a
 .cases a⟩
end L3
namespace L3
open PySem L2 PySem.W PyProof.Rows
def UX{es:Array DictEntry}{bs:List Addr}{ks:List (List Int)}(K:CR P w T r d es.size (λi v=>∃e,es[i]?=a0 e/\v=e.key) G)(U:A.handled=a7)(y:G s.heap)(H:es.toList.map (·.key)=bs.map Ò)(hz:es.size<=Ñ)(L:ks.length=bs.length)(Z:ks.Nodup)(z:bs.Nodup)(key:∀j b,bs[j]?=a0 b->BC s.heap b (ks.getD j [])/\ks.getD j []≠[])(q:∀(h' p:Č)tk e,(∀b o,s.heap.get? b=a0 o->h'.get? b=a0 o)->(∀b o,h'.get? b=a0 o->p.get? b=a0 o)->p.get? h'.objs.size=a0 (ý "list" ((cR (λi j=>HT.lexLt (ks.getD i [])<|ks.getD j []) es.size).map λi=>Ò<|bs.getD i 0).toArray e)->Q (.ref h'.objs.size) {s with heap:=p,toks:=tk}):
  Ç (É P w) A (call (.builtin "sorted") [.ref r]) Q E s:=by
 have g:bs.length=es.size:=by have:=congrArg ĭ H;simpa using this.symm
 show Rj Nq O2 O0 (args_sorted1 _) ?_;unfold Oj;show Á (m:=Nh "sorted" 1 1 _)<|Ð<|Á<|kdu_collect (A:=A.in1) K U y hz λh' tk c N a=>?_;have O:c.toList=bs.map Ò:=by
  rw[<- H];show mq λi=>?_;rw[ú,γ,γ];cases M:c[i]? with
  |some v=>obtain⟨e,z1,z2⟩:=a.2 i v M;rw[z1,z2];rfl|none=>
   have:c.size<=i:=by simpa using M
   rw[NA<|by rw[<- a.1];show this];rfl
 rw[O];have B:(bs.map Ò).length=es.size:=by rw[Å,g]
 show Á (t6 ?_<|by rw[B];lia);have nu:(bs.map Ò).Nodup:=by unfold yg;rw[Χ];show z.imp λh e=>h<|by cases e;rfl
 have l:(h'.push<|ý "list" (bs.map Ò).toArray 0).get? h'.objs.size=a0 (ý "list" (bs.map Ò).toArray 0):=ē _ rfl;have fin:∀k:gq,k=((cR (λi j=>HT.lexLt (ks.getD i [])<|ks.getD j []) es.size).map λi=>Ò<|bs.getD i 0)->Q (.ref h'.objs.size) {s with heap:=JF (h'.push<|ý "list" (bs.map Ò).toArray 0) h'.objs.size (bs.map Ò) k.toArray,toks:=tk}:=by rintro k rfl;obtain⟨e,R⟩:=Nx (h:=h'.push (ý "list" (bs.map Ò).toArray 0)) (out:=((cR (λi j=>HT.lexLt (ks.getD i [])<|ks.getD j []) es.size).map λi=>Ò<|bs.getD i 0).toArray) l;show q h' _ tk e N (λb o x=>?_) R;rw[OE (õ<|ß x)<|by rw[fB];show zg<|ß x];show æ _ x
 by_cases I:2<=es.size
 .show Á<|ō<|Ϡ yt (s:={s with heap:=h'.push<|ý "list" (bs.map Ò).toArray 0,toks:=tk}) ⟨_,l,rfl⟩ yh (G4 xR [] (ks:=ks) (by rw[B,L,g]) Z nu ⋯ ⋯ l (λp Y=>?_) ⟨_,rfl,?_⟩)<|Mh _
  .show Hb ⋯ L λj b X=>?_;obtain⟨⟨xs,⟨o,o1,o2⟩,m⟩,u⟩:=key j b X;have n:=N _ _ o1;show⟨⟨xs,⟨o,Y b o (õ<|ß n)<|æ _ n,o2⟩,m⟩,u⟩
  .show Ð ⟨_,rfl,fin _ ?_⟩;rw[B];show a2x λi m=>?_;have m:i<bs.length:=by have:=Ů.mp<|(gP _ es.size).mem_iff.mp m;lia
   simp[ę,m]
 .show Á (ō<|Ϡ yt (s:={s with heap:=h'.push<|ý "list" (bs.map Ò).toArray 0,toks:=tk}) ⟨_,l,rfl⟩ yh (FA ⋯ l ⟨_,rfl,?_⟩)<|Mh _);show Ð ⟨_,rfl,fin (bs.map Ò) ?_⟩;match bs,g with
  |[],e=>rw[<- e];change[]=(cR _ 0).map _;rw[A9];rfl|[b],e=>rw[<- e];change[Ò b]=(cR _ 1).map _;rw[FC];rfl|_::_::_,e=>rw[<- e]at I;simp at I
def UY d(hd:(d==ř)=a8):xn P w (Builtin.«dict.keys» ⟨[.ref d],[]⟩) (λ_ R s=>(∃es ep,ö s.heap d es ep) /\
   R (.ok<|.ret<|.ref s.heap.objs.size) {s with heap:=s.heap.push {cls:=.type "dict_keys",data:=.fields #[.ref d]}}):=
 .of_wp λA R s ⟨⟨es,ep,g⟩,h⟩=>by unfold Builtin.«dict.keys»;show Á ?_;unfold NM;show Á<|qj g.ty ?_;change Ç _ _ (pure d) _ _ s;show Ð ?_;change Ç _ _ (iu d >>= _) _ _ s;unfold iu;rw[if_neg<|by rw[hd];show Ī];show Á<|Ð ?_;show Á<|Η<|Ð ⟨_,rfl,h⟩
def UZ(h:KdlKeysView s.heap v d)(g:ö s.heap d es ep)(j:Q (.ref s.heap.objs.size) {s with heap:=s.heap.push {cls:=.type "dict_keyiterator",data:=.fields #[.ref d,.int 0 0,.int es.size 0,.int ep 0]}}):
  Ç (É P w) A (ϙ<|.ref v) Q E s:=by
 obtain⟨l,e,k,c⟩:=id h;obtain⟨o,i,hc,a⟩:=id g;show Mv h.typeIs Pz<|Ϡ Pz h.typeIs kdl_entry_keys_iter ?_<|kdl_args_keys_iter _;unfold Builtin.«dict_keys.__iter__»;show Á<|Ð ?_;show Á ?_;unfold PC;show Á<|eZ e c (x:=.ref d) rfl<|Ð ?_;show Á ?_;unfold P8;show Á<|aj i a ?_;show Á<|nj i a ?_;have b:vq "dict_keyiterator"=false:=by decide
 simp only[b,ĸ,if_false];show Η<|Ð ⟨_,rfl,"dict_keyiterator",_,⟨_,ē _ rfl,rfl⟩,PySem.F.slot_dict_keyiterator_next.lookup,?_⟩;simpa[Ŝ]using j
def U0:CR P w "dict_keys" r d es.size (λi v=>∃e,es[i]?=a0 e/\v=e.key) (λh=>KdlKeysView h r d/\ö h d es ep) where
 type:=λ_ g=>g.1.typeIs
 there:=λ_ g=>⟨let⟨_,a,_⟩:=g.1;ß a,g.2.lt⟩
 keep:=λ_ _ g c=>⟨let⟨o,a,x⟩:=g.1;⟨o,c r (.inl rfl) o a,x⟩,g.2.stay λo e=>c d (.inr rfl) o e⟩
 notList:=by decide
 notTuple:=by decide
 hint:=λ_ _ _ _ g b=>kdl_hint_keys g.1.typeIs b
 iter:=λ_ _ j g=>⟨_,_,(λ_ _ b=>UZ g.1 g.2 b),GC j (õ g.2.lt) es ep,⟨⟨_,ē _ rfl,rfl,rfl⟩,g.2.stay λo e=>æ _ e⟩⟩
def U1(I:A.handled=a7)(q:s.heap.IsItemsView r d)(g:ö s.heap d es ep)(K:es.size<=Ñ)(B:∀h' tk c as,(∀b o,s.heap.get? b=a0 o->h'.get? b=a0 o)->h'.get? s.heap.objs.size=a0 (ý "list" (as.map Ò).toArray c)->as.length=es.size->Ċ es s.heap.objs.size h' as->Q (.ref s.heap.objs.size) {s with heap:=h',toks:=tk}):
  Ç (É P w) A (call (.type "list") [.ref r]) Q E s:=by
 show Mi (Q₁:=λk h=>k=.ref s.heap.objs.size/\h={s with heap:=s.heap.push {cls:=.type "list",data:=.seq #[]}}) RV (SR _) SN
  (code_list_new _ ⟨rfl,rfl⟩) λk h j=>?_
 obtain⟨rfl,rfl⟩:=j;have l:(s.heap.push {cls:=.type "list",data:=.seq #[]}).get? s.heap.objs.size=a0 {cls:=.type "list",data:=.seq #[]}:=ē _ rfl;have L:r<s.heap.objs.size:=let⟨_,m,_⟩:=q;ß m;have v:=g.lt;show⟨⟨_,l,rfl⟩,SX _ _,?_⟩;change Ç _ _ (do let old <- NF (.ref s.heap.objs.size);SE (.ref s.heap.objs.size) λ_=>#[];letGo old.toList.reverse;il (.ref s.heap.objs.size) (.ref r) .none) _ _ _;show Á ?_;unfold NF;show Á<|Pc l rfl<|Ð ?_;change Ç _ _ (MB s.heap.objs.size (λ_=>#[]) >>= λ_=>letGo (#[]:Array Value).toList.reverse >>= λ_=>il (.ref s.heap.objs.size) (.ref r) .none) _ _ _;show Á<|yj l rfl ?_;have i:=gk (a3n λ_=>(#[]:Array Value)) l rfl;have jV:∀b o,b≠s.heap.objs.size->(s.heap.push {cls:=.type "list",data:=.seq #[]}).get? b=a0 o->((s.heap.push {cls:=.type "list",data:=.seq #[]}).update s.heap.objs.size<|a3n λ_=>(#[]:Array Value)).get? b=a0 o:=
  λb o H e=>(gr _ _<|ć H).trans e
 have old:∀b o,s.heap.get? b=a0 o->((s.heap.push {cls:=.type "list",data:=.seq #[]}).update s.heap.objs.size<|a3n λ_=>(#[]:Array Value)).get? b=a0 o:=λb o e=>jV b o (õ<|ß e)<|æ _ e;have n:((s.heap.push {cls:=.type "list",data:=.seq #[]}).update s.heap.objs.size<|a3n λ_=>(#[]:Array Value)).objs.size=s.heap.objs.size+1:=by rw[Heap.size_update,fB]
 show Á<|Nt ?_;show GU (A:=A.in1) (s:={s with heap:=(s.heap.push {cls:=.type "list",data:=.seq #[]}).update s.heap.objs.size<|a3n λ_=>(#[]:Array Value)}) I (let⟨o,m,x⟩:=q;⟨o,old _ _ m,x⟩) (g.stay λo e=>old _ _ e) (Ř L) (õ v) i K λh' tk u c as M N O p R=>?_;show⟨rfl,B h' tk c as (λb o e=>M b o (õ<|ß e)<|old b o e) ?_ O ⟨p.up,λa G=>?_,p.prs⟩⟩
 .rw[N,<- R,Array.toArray_toList]
 .have y:_<a:=p.over a G;have z:s.heap.objs.size+1<a:=n▸y;show mj z
abbrev yJ(K:Ö):gw->Hp->VK->Prop:=λxs H Q=>∃a ps,xs=[V.ref a]/\H a=a0 (aL a ps)/\c6 K H ps/\(∀p∈ps,p.1≠[])/\∀l,H l=a7->Q (.ref l) (aK H l<|.lst<|(eF ps).map λp=>V.ref p.2.1)
def BI{σ:L2.St}(I:L2.Inv X Dn σ H s){ps:bE}(e:H a=a0 (aL a ps))(c:c6 X.K H ps):(ps.map (·.1)).Nodup/\(ps.map (·.2.1)).Nodup:=by
 obtain⟨o,n,p,k,z,m,l,q,r,u,v,w,g⟩:=jS I (.of e) c;have b:(ps.map (·.1)).Nodup:=by rw[nG k]at g;show g
 show⟨b,?_⟩;unfold yg at b ⊢;rw[Χ]at b ⊢;show zz (λ{x y} i j h e=>h ?_) b;have d:=c x i;rw[e]at d;show a8q I d<|c y j
def Ho{σ:L2.St}{es:Array DictEntry}(hc:X.calm=a9)(I:L2.Inv X Dn σ H s)(g:ps.length<=Ñ)(z:es.toList.map (·.key)=ps.map λp=>Ò p.2.1)(K:CR X.prog X.w T r a es.size (λi v=>∃e,es[i]?=a0 e/\v=e.key) y)(o:y s.heap)(N:c6 X.K H ps)(B:(ps.map (·.1)).Nodup/\(ps.map (·.2.1)).Nodup)(n:∀p∈ps,p.1≠[])(q:∀l,H l=a7->Q (.ref l) (aK H l<|.lst<|(eF ps).map λp=>V.ref p.2.1)):Ç (É X.prog X.w) X.A (call (.builtin "sorted") [.ref r]) (EP X Dn σ Q) X.xe s:=by
 have O:es.size=ps.length:=by have:=congrArg ĭ z;simpa using this
 have L:∀{j:Nat}{b:Addr},(ps.map (·.2.1))[j]?=a0 b->∃p∈ps,ps[j]?=a0 p/\p.2.1=b:=λ{j b} c=>by rw[ú]at c;show bY c ?_;clear c;intro p d G;show⟨p,Ğ d,d,G⟩
 show UX (bs:=ps.map (·.2.1)) (ks:=ps.map (·.1)) K (I.ok.hd hc) o (by rw[z,ã];rfl) ⋯ (by simp) B.1 B.2 (λj b c=>?_) λh M w e U Y Z=>?_
 .obtain⟨p,A,d,rfl⟩:=L c;have E:(ps.map (·.1)).getD j []=p.1:=by simp[ę,d]
  rw[E];obtain⟨u,rx,t,_⟩:=I.tuple<|N p A;show⟨⟨u,t,wL rx⟩,n p A⟩
 .have x:Inv X Dn σ H {s with heap:=h,toks:=w}:=I.kept (t':=w) U;show⟨.ref h.objs.size,_,x.laid (t':=w) (h':=M) (a:=h.objs.size) (o:=.lst ((eF ps).map λp=>V.ref p.2.1)) Y (Õ _) ?_,rfl,q _<|x.hok.fresh<|Õ _⟩;have m:(eF ps).length=ps.length:=Ĵ.length_eq;show⟨by rw[Å,m];show g,_,e,?_,Z⟩;unfold eF;rw[O,ã];have:∀l:List Nat,(∀i∈l,i<ps.length)->Ä (l.map<|(λp:List Int×Addr×V=>V.ref p.2.1)∘λi=>ps.getD i ([],0,.non)) (l.map λi=>Ò<|(ps.map (·.2.1)).getD i 0):=λl g=>by
   induction l with
   |nil=>show .nil|cons i l R=>show .cons ?_<|R λj c=>g j<|ı _ c;have k:=g i<|Ĭ ..;change Ò _=Ò _;simp[ę,k]
  show this _ λi k=>Ů.mp<|(gP _ ps.length).mem_iff.mp k
def U2(hc:X.calm=a9):ì X (.builtin "sorted") (yJ X.K):=by intro Dn s σ H p o Q I r h;obtain⟨a,n,rfl,d,b,c,q⟩:=h;obtain⟨u,rfl,k⟩:=iV r;cases k;obtain⟨j,i,m,l,g,e⟩:=oO I d b;show Ho hc I i e (GD j) g b (BI I d b) c q
abbrev fT:MF:=λds b=>match ds with
 |[.loc a]=>match b[a]? with
  |some (.dT kvs)=>if(∀p∈kvs,p.1≠[])then a0 (.loc b.length,b++[.lst<|(dO kvs).map λk=>D.tup<|k.1.map D.int])else a7|_=>a7
 |_=>a7
def Hr{K:Ö}:fF K fT (yJ K):=by
 intro B H A y d v x Q R i a k;unfold fT at a;split at a
 .split at a
  .rename_i b u;split at a
   .rename_i m;cases a;cases i with
    |cons i t=>
     cases t;cases i;obtain⟨c,j,T⟩:=gR R u;obtain⟨w,g⟩:=Bx T;show⟨_,c,rfl,j,T.keys,λp o z=>?_,λl n=>?_⟩
     .have:p.1∈b.map (·.1):=by rw[<- T.to.1];show Þ.mpr ⟨p,o,rfl⟩
      obtain⟨q,r,e⟩:=Þ.mp this;show m q r<|e.trans z
     .obtain⟨h,R2,_⟩:=R.alloc (c:=.lst ((dO b).map λk:List Int×D=>D.tup<|k.1.map D.int)) (o:=.lst ((eF c).map λp:List Int×Addr×V=>V.ref p.2.1)) n g.to.2.1;show k _ _ _ h R2 j9
   .cases a
  .cases a
 .cases a
abbrev BJ(m:ME):ME:=λρ a=>(m ρ a).bind λr=>fT [r.1] r.2
def U4{pos:è}(hc:X.calm=a9)(r:X.mg "sorted"=a7)(m:Gl X "sorted")(O:PE X o to)(i:ω o "keys" X.env (eval o X.env)=eval o X.env)(j:(c.endLine==d.line)=a9):
  PE X (.Call (.Name "sorted" p) [.Call (.Attribute o "keys" c) [] [] d] [] pos) (λσ H Q=>to σ H λx k=>yJ X.K [x] k Q):=by
 intro Dn s σ H Q I h;show ς<|f9 I m r vm ?_;show NN ?_ rfl rfl;show ig ?_;show pq i j<|aQ (O Dn s σ H _ I h) λv w ⟨x,k,l,T,a,U,G,e,n,u,q⟩=>?_;cases G;obtain rfl:v=Ò a:=T;obtain⟨R,N,E,y,g,M⟩:=oO l e n;show⟨"dict","dict.keys",qd,Rf,PySem.F.type_dict_keys,g.ty,λb B=>?_,bu rfl<|qi ?_⟩
 .cases B;obtain⟨z,K,L,_⟩:=g;show⟨z,K,L.2.1⟩
 show WP Rf g.ty PySem.F.entry_dict_keys (PySem.F.args_dict_keys_1 _) (UY a R) ⟨⟨E,y,g⟩,?_⟩;show ie ?_;have A:Inv X Dn σ k {w with heap:=w.heap.push {cls:=.type "dict_keys",data:=.fields #[.ref a]}}:=l.kept (t':=w.toks) λb o e=>æ _ e;show Ho hc A N M (U0 (ep:=y)) ⟨⟨_,ē _ rfl,rfl,rfl⟩,g.stay λo e=>æ _ e⟩ n (BI l e n) u q
def U5{K:Ö}:∀σ H Q,tM K (BJ h) σ H Q->tM K h σ H λx c=>yJ K [x] c Q:=by rintro σ H Q ⟨p,q,o,d,e,R,E,b,k⟩;show aZ b ?_;clear b;intro x a l b;show⟨p,q,o,x,a,R,E,l,λg n c j i m=>?_⟩;show Hr g c a [x] d e [n] Q i (.cons m .nil) b<|k.after j
def U6{pos:è}(hc:X.calm=a9)(d:X.mg "sorted"=a7)(c:Gl X "sorted")(h:QE X o e)(i:eE o=a9)(g:(a.endLine==b.line)=a9):
  QE X (.Call (.Name "sorted" p) [.Call (.Attribute o "keys" a) [] [] b] [] pos) (BJ e):=
 ⟨c4 (U4 hc d c h.h (jR i) g) U5⟩
abbrev Hs:D->Hm->jk
 |.loc a,μ=>match μ[a]? with
  |some (.dT kvs)=>a0 (.loc μ.length,μ++[.lst<|kvs.map mG])|_=>a7
 |_,_=>a7
abbrev BK(m:ME):ME:=λρ a=>(m ρ a).bind λr=>Hs r.1 r.2
abbrev Ht(K:Ö):V->Hp->VK->Prop:=λx H Q=>∃a ps,x=.ref a/\H a=a0 (aL a ps)/\c6 K H ps /\
 ∀(as:List Addr)(L:Addr),as.length=ps.length->(L::as).Nodup->(∀a∈L::as,H a=a7)->Q (.ref L) (aK (eH H as ps) L<|.lst<|as.map V.ref)
def Hv:∀as:List Addr,Ä (as.map V.ref) (as.map Ò)
 |[]=>.nil|a::as=>.cons rfl<|Hv as
def U7{σ:L2.St}{ps:bE}(hc:X.calm=a9)(I:L2.Inv X Dn σ H s)(e:H d=a0 (aL d ps))(hk:c6 X.K H ps)(hv:s.heap.IsItemsView r d)(k:∀as L,as.length=ps.length->(L::as).Nodup->(∀a∈L::as,H a=a7)->Q (.ref L) (aK (eH H as ps) L<|.lst<|as.map V.ref)):
  Ç (É X.prog X.w) X.A (call (.type "list") [.ref r]) (EP X Dn σ Q) X.xe s:=by
 obtain⟨lo,hl,y,Z,z,T,ep,z1,z2,z3,z4,z5,z6⟩:=jS I (.of e) hk;have N:y.length=ps.length:=by have:=Z.length;rw[Å]at this;show this.symm
 have O:(b6 ps y).length=ps.length:=by unfold b6;rw[Ou,N,OA]
 have G:T.size=ps.length:=by rw[<- ao,z4,Å,O]
 have B:∀(j:Nat)(l:DictEntry),T[j]?=a0 l->∃p u,ps[j]?=a0 p/\y[j]?=a0 u/\l.key=.ref p.2.1/\l.val=u:=λj l h=>by
  rw[<- γ,z4,ú]at h;obtain⟨x,c,rfl⟩:=Ō.mp h;unfold b6 at c;rw[NJ]at c;cases i:ps[j]? with
  |none=>rw[i]at c;simp at c|some p=>
   cases hw:y[j]? with
   |none=>rw[i,hw]at c;simp at c|some u=>
    rw[i,hw]at c;have:(p.1,p.2.1,u)=x:=by simpa using c
    subst this;show⟨p,u,rfl,rfl,rfl,rfl⟩
 show U1 (I.ok.hd hc) hv ⟨z,z1,z2,z3⟩ ⋯ λh3 tk l as kp gL A v=>?_;rw[G]at A;have q:as.Nodup:=v.up.imp λh=>õ h;have R:s.heap.objs.size∉as:=λh=>ϣ _<|v.over _ h;have hf:∀a∈s.heap.objs.size::as,H a=none:=λa E=>by
  rcases ċ.mp E with rfl|E
  .show I.hok.fresh<|Õ _
  .show I.hok.fresh<|Ζ<|v.over a E
 show⟨.ref s.heap.objs.size,_,?_,rfl,k as s.heap.objs.size A (Ś.mpr ⟨R,q⟩) hf⟩;show Hg (t':=tk) I kp (λb w=>?_) λb o w g=>?_
 .rw[aY<|õ w,mD λh=>Q6 w<|v.over b h]
 .by_cases m:b=s.heap.objs.size
  .subst m;rw[cP]at g;cases g;show⟨by rw[Å,A];show hl,as.map Ò,l,Hv as,gL⟩
  .rw[aY m]at g;by_cases n:b∈as
   .obtain⟨j,K⟩:=uy.mp n;have M:j<ps.length:=by have:=(Ú.mp K).1;lia
    have i:ps[j]?=a0 ps[j]:=ó M;rw[sW q K i]at g;cases g;obtain⟨x,x1,x2⟩:=v.prs j _ K;obtain⟨p,u,Y,p2,p3,p4⟩:=B j x x1;rw[i]at Y;cases Y;obtain⟨u',U,g2⟩:=Z.get (i:=j) (x:=ps[j].2.2) (by rw[ú,i];rfl);rw[p2]at U;cases U;rw[p3,p4]at x2;show⟨by change(2:Nat)<=Ñ;decide,[.ref ps[j].2.1,u],.cons rfl<|.cons g2 .nil,_,x2,rfl,0,rfl,rfl⟩
   .rw[mD n,I.hok.fresh w]at g;cases g
def U8{pos:è}(hc:X.calm=a9)(m:X.mg "list"=a7)(l:Gl X "list")(L:PE X o to)(i:ω o "items" X.env (eval o X.env)=eval o X.env)(j:(c.endLine==d.line)=a9):
  PE X (.Call (.Name "list" p) [.Call (.Attribute o "items" c) [] [] d] [] pos) (λσ H Q=>to σ H λx k=>Ht X.K x k Q):=by
 intro Dn s σ H Q I h;show ς<|f9 I l m PB ?_;show bj ?_ rfl rfl;show ig ?_;show pq i j<|aQ (L Dn s σ H _ I h) λv n ⟨x,k,r,N,a,T,E,e,u,q⟩=>?_;subst E;obtain rfl:v=Ò a:=N;obtain⟨M,R,B,A,g,O⟩:=oO r e u;show⟨"dict","dict.items",qd,iy,ND,g.ty,λb y=>?_,bu rfl<|qi ?_⟩
 .cases y;obtain⟨z,G,K,_⟩:=g;show⟨z,G,K.2.1⟩
 show WP iy g.ty NG (NP _) (yF a M) ⟨⟨B,A,g⟩,?_⟩;show ie ?_;have w:Inv X Dn σ k {n with heap:=n.heap.push {cls:=.type "dict_items",data:=.fields #[.ref a]}}:=r.kept (t':=n.toks) λb o e=>æ _ e;show U7 hc w e u ⟨_,ē _ rfl,rfl,rfl⟩ q
def U9{K:Ö}:∀σ H Q,tM K (BK B) σ H Q->tM K B σ H λx n=>Ht K x n Q:=by
 rintro σ H Q ⟨π,ρ,μ,d,μ',R,E,h,k⟩;show aZ h ?_;clear h;intro x g h1 h;show⟨π,ρ,μ,x,g,R,E,h1,λm v1 n N y i1=>?_⟩;have k1:=k.after N;dsimp only at h;unfold Hs at h;split at h
 .split at h
  .rename_i b hc;cases h;cases i1;obtain⟨e,O,T⟩:=gR y hc;have el:e.length=b.length:=by have:=congrArg ĭ T.to.1;simpa using this
   show⟨_,e,rfl,O,T.keys,λc L al r A=>?_⟩;rw[Ś]at r;obtain⟨u,I⟩:=BG (ps:=e) y r.2 λa ha=>A a<|ı _ ha;have hL:eH n c e L=none:=by rw[mD r.1];show A L<|Ĭ ..
   have p:Æ K m g.length (eH n c e) (c.map V.ref) (b.map mG):=by
    have key:∀o:List Nat,(∀i∈o,i<b.length)->Æ K m g.length (eH n c e) (o.map λi=>V.ref<|c.getD i 0) (o.map λi=>mG<|b.getD i ([],.non)):=λo q=>by
     induction o with
     |nil=>show .nil|cons i o ih=>
      have l:=q i<|Ĭ ..;have v:c[i]?=a0 (c.getD i 0):=by simp[ę,show i<c.length by lia]
      have w:e[i]?=a0 e[i]:=ó ⋯;have z:b.getD i ([],.non)=b[i]:=by simp[ę,l]
      have ep:e.getD i ([],0,.non)=e[i]:=by simp[ę,show i<e.length by lia]
      have G:=Bv T ([],0,.non) ([],.non) i ⋯;rw[ep,z]at G;obtain⟨q1,q2,q3⟩:=G;show .cons ?_<|ih λj hj=>q j<|ı _ hj;change Ý K m g.length _ (.ref<|c.getD i 0) (mG<|b.getD i ([],.non));rw[z];have ik:Ý K m g.length n (.ref e[i].2.1) (.tup<|b[i].1.map D.int):=by rw[<- q1];show .tup q2<|uE _
      show .tup (.of<|sW r.2 v w)<|.cons (ik.mono u)<|.cons (q3.mono u) .nil
    have:=key (ġ b.length) λi l=>Ů.mp l;have Y:(ġ b.length).map (λi=>V.ref<|c.getD i 0)=c.map V.ref:=by
     apply mq;intro i;rw[ú,ú];by_cases l:i<b.length
     .rw[Mr l,ó<|show i<c.length by lia];simp[ę,show i<c.length by lia]
     .rw[ώ<|by simp;lia,ώ<|by lia];rfl
    have Z:(ġ b.length).map (λi=>mG<|b.getD i ([],.non))=b.map mG:=by
     apply mq;intro i;rw[ú,ú];by_cases l:i<b.length
     .rw[Mr l,ó l];simp[ę,l]
     .rw[ώ<|by simp;lia,ώ<|by lia];rfl
    rw[Y,Z]at this;show this
   obtain⟨U,M,_⟩:=I.alloc (c:=.lst (b.map mG)) (o:=.lst (c.map V.ref)) hL p;show k1 _ _ _ (u.trans U) M j9
  .cases h
 .cases h
def Va{pos:è}(hc:X.calm=a9)(d:X.mg "list"=a7)(c:Gl X "list")(h:QE X o e)(i:eE o=a9)(g:(a.endLine==b.line)=a9):
  QE X (.Call (.Name "list" p) [.Call (.Attribute o "items" a) [] [] b] [] pos) (BK e):=
 ⟨c4 (U8 hc d c h.h (jR i) g) U9⟩
end L3
namespace L3
open PySem L2
def Hw(h:A.handled=a7)(j:IsItemIter s.heap it d i es.size ep ok ov)(g:ö s.heap d es ep)(m:∀e a,es[i]?=a0 e->MP a it d (i+1) es.size ep e.key e.val s.heap.objs.size->a.get? s.heap.objs.size=a0 {cls:=.type "tuple",data:=.seq #[e.key,e.val]}->
   (∀b o,b≠it->s.heap.get? b=a0 o->a.get? b=a0 o)->Q (a0<|.ref s.heap.objs.size) {s with heap:=a})(n:es[i]?=a7->∀a,ue it s.heap a->Q a7 {s with heap:=a}):Ç (É P w) A (Ŭ<|.ref it) Q E s:=
 Bu (S:=d) h j (.inl rfl) g g.lt (λe a c _ o l _ k=>m e a c (o rfl) l k) n
abbrev BL(d:Addr)(a:Obj)(ps:bE):It:=⟨λi H=>H d=a0 (.frz a<|aL d ps)/\i<ps.length,λi H x b=>∃t p,x=.ref t/\H t=a7/\ps[i]?=a0 p/\b=aK H t (.tup [.ref p.2.1,p.2.2]),λi H=>H d=a0 (.frz a<|aL d ps)/\ps.length<=i⟩
def Vb(hd:ob.data=.dict es ep):Ņ Qc P w K (.Tuple el kx pt) (BL d ob ps) [j] j (λi h=>∃ok p,IsItemIter h j d i es.size ep ok p) where
 mem:=by simp
 obj:=λi h ⟨ok,p,st⟩ b n=>by
  have e:b=j:=by simpa using n
  subst e;show⟨_,st,λv z=>by
   have z':Ŀ _=rT v:=z;cases z'⟩
 keep:=λi h R ⟨ok,p,st⟩ k=>⟨ok,p,k j (by simp) _ st⟩;item:=by
  intro X U hw T hc i M s σ H E I G ⟨ok,p,st⟩ Z;subst U hw T;obtain⟨m,x⟩:=Z;obtain⟨lo,hl,O,N,g,a,L⟩:=qJ I m;rw[hd]at a;cases a;obtain⟨_,_,es2,ep2,_,r,he⟩:=uR I m;rw[hd]at r;cases r;have hs:es.size=ps.length:=by have:=congrArg ĭ L;simpa using this
  show Hw (I.ok.hd hc) st g (λe R l a1 a2 a3=>⟨_,rfl,wpAny_letOwnedTupleGo_items a1 λh2 b1 B=>?_⟩) λhn=>by simp at hn;lia
  have hp:ps[i]?=a0 ps[i]:=ó x;have ek:e.key=.ref (ps[i]).2.1:=by have:=congrArg (·[i]?) L;simp only[ú,γ,l,hp,į]at this;show ė this
  obtain⟨u,u1,u2⟩:=he.get (i:=i) (x:=ps[i].2.2) (by rw[ú,hp];rfl);rw[ú,γ,l]at u1;cases u1;have y:j<s.heap.objs.size:=ß st;have ht2:h2.get? s.heap.objs.size=a0 {cls:=.type "tuple",data:=.seq #[e.key,e.val]}:=(B.2 _<|Ř y).trans a2;have Y:H s.heap.objs.size=none:=I.hok.fresh<|Õ _;show⟨.ref s.heap.objs.size,aK H s.heap.objs.size<|.tup [.ref (ps[i]).2.1,(ps[i]).2.2],?_,rfl,⟨_,ps[i],rfl,Y,hp,rfl⟩,⟨_,_,b1⟩,λc n=>?_⟩
  .show Bl (s:=s) (h':=h2) (t':=s.toks) (ch:=[j]) I (λc oc n ec=>?_) G (Õ _) ?_
   .have q:c≠j:=by simpa using n
    show(B.2 c q).trans<|a3 c oc q ec
   .show⟨by change(2:Nat)<=Ñ;decide,[e.key,e.val],.cons ek<|.cons u2 .nil,_,ht2,rfl,0,rfl,rfl⟩
  .rw[aY]
   .show(G c n).1
   .have e:c=j:=by simpa using n
    rw[e];show õ y
 done:=by
  intro X U hw T hc i M s σ H E I G ⟨ok,p,st⟩ Z;subst U hw T;obtain⟨m,x⟩:=Z;obtain⟨lo,hl,O,N,g,a,L⟩:=qJ I m;rw[hd]at a;cases a;have hs:es.size=ps.length:=by have:=congrArg ĭ L;simpa using this
  obtain⟨f0,f1,f2,f3,f4,f5⟩:=G j (by simp);show Hw (I.ok.hd hc) st g (λe R l=>by
   have:=(Oz.mp l).1;lia) λ_ R eb=>⟨rfl,I.turned (t':=s.toks) (λb o n e=>eb b o n e) f0 f1 f3 f4 f5⟩
 self:=λA i s Q E ⟨ok,p,st⟩ h=>PySem.W.kcp_self st h
def Vc(K:PE X l M)(j:ω l "items" X.env (eval l X.env)=eval l X.env)(k:(a.endLine==c.line)=a9):
  PI X (.Tuple E L pt) (.Call (.Attribute l "items" a) [] [] c) (λp H R=>M p H λv m=>∃d x A,v=.ref d/\m d=a0 (.frz x<|aL d A)/\R (BL d x A) m):=by
 intro i s p H R I h;show pq j k<|aQ (K i s p H _ I h) λv n ⟨y,m,B,r1,q1⟩=>?_;obtain⟨d,x,A,e,G,q⟩:=q1;subst e;obtain rfl:v=Ò d:=r1;obtain⟨lo,K,T,O,g,hd,he⟩:=qJ B G;show⟨"dict","dict.items",qd,iy,ND,g.ty,λb N=>?_,bu rfl<|qi ?_⟩
 .cases N;obtain⟨z,Y,u,_⟩:=g;show⟨z,Y,u.2.1⟩
 show WP iy g.ty NG (NP _) (yF d lo) ⟨⟨T,O,g⟩,?_⟩;have r:Inv X i p m {n with heap:=n.heap.push {cls:=.type "dict_items",data:=.fields #[.ref d]}}:=B.kept (t':=n.toks) λb o e=>æ _ e;obtain⟨lo2,hl2,U,Q,u,w,he2⟩:=qJ r G;change Ç (É X.prog X.w) X.A (ϙ<|.ref n.heap.objs.size) (Ac X i p (.Tuple E L pt) R) X.xe _;show GS ⟨_,ē _ rfl,rfl,rfl⟩ u ⟨_,[_],_,_,m,rfl,r.kept (t':=n.toks) λb o e=>æ _ e,Vb w,⟨_,_,ē _ rfl⟩,λb Z=>?_,q⟩;have e:=ĉ.mp Z;subst e;show r.fpOk (Õ _)<|r.hok.fresh<|Õ _
abbrev jT(kvs:jx):List D:=kvs.map λk=>.tup [.tup<|k.1.map D.int,k.2]
def Vd{ps:bE}(h:H d=a0 (.frz l<|aL d ps))(T:ø K π n H ps kvs):Wk K (BL d l ps) (c9<|.tup<|jT kvs) π n H:=by
 have E:ps.length=kvs.length:=by have:=congrArg ĭ T.to.1;simpa using this
 show⟨λg A m i e R z=>?_,λg A m i o e R z=>?_⟩
 .have a:(jT kvs)[i]?=none:=ė z;have:=ϐ.mp a;rw[jT,Å]at this;show⟨e.frz _ _ _ h,by lia⟩
 .have a:(jT kvs)[i]?=a0 o:=ė z;have y:i<kvs.length:=by have:=(Ú.mp a).1;rwa [jT,Å]at this
  show⟨⟨e.frz _ _ _ h,by lia⟩,λv B ⟨t,p,q,r,s,u⟩=>?_⟩;subst q u;have b:kvs[i]?=a0 kvs[i]:=ó y;obtain⟨G,j,w⟩:=(T.to.2.1.mono e).get (i:=i) (d:=D.tup ((kvs[i]).1.map D.int)) (by rw[ú,b];rfl);obtain⟨I,k,x⟩:=(T.to.2.2.mono e).get (i:=i) (d:=(kvs[i]).2) (by rw[ú,b];rfl);rw[ú,s]at j k;cases j;cases k;obtain⟨c,R2⟩:=R.fresh (o:=.tup [.ref p.2.1,p.2.2]) r;rw[jT,ú,b]at a;cases a;show⟨c,R2,.tup (.of cP)<|.cons (w.mono c)<|.cons (x.mono c) .nil⟩
def Hy(j:PE X l i):PE X l (λσ H Q=>i σ H λv a=>∃d ps,v=.ref d/\a d=a0 (aL d ps)/\∀c,Q v (aK a d<|.frz c<|aL d ps)):=by intro b s σ H Q I h;show aQ (j b s σ H _ I h) λv o ⟨y,a,g,n,m⟩=>?_;obtain⟨d,ps,rfl,e,q⟩:=m;obtain⟨_,⟨c,k⟩,_⟩:=(show â X.prog X.w a o.heap d (aL d ps)from g.hok _ _ e);show⟨_,_,Inv.freeze g e k,n,q c⟩
abbrev uT(m:ME):MI:=λρ b=>(m ρ b).bind λp=>match p.1 with
 |.loc a=>match p.2[a]? with
  |some (.dT kvs)=>a0 (c9<|.tup<|jT kvs,kvs.length+1,p.2.set a<|.dF kvs)|_=>a7
 |_=>a7
def Ve(h:QE X e m)(w:eE e=a9)(v:(b.endLine==c.line)=a9):wj X (.Call (.Attribute e "items" b) [] [] c) (uT m):=⟨λes N pt Dn s σ H R I hw=>by
 obtain⟨K,L,A,z,n,B,q,E,a,k⟩:=hw;show aZ a ?_;clear a;intro x G u a;dsimp only at a;split at a
 .split at a
  .rename_i i hc;cases a;show Vc (Hy h.h) (jR w) v Dn s σ H R I ⟨K,L,A,_,_,q,E,u,λl O M r o y=>?_⟩;cases y;obtain⟨d,p,T⟩:=gR o hc;show⟨_,d,rfl,p,λj=>?_⟩;obtain⟨g,R2⟩:=o.put (c:=.dF i) (o:=.frz j (aL _ d)) (Ú.mp hc).1 p (.inr<|.inr ⟨_,rfl⟩) ⟨j,d,rfl,T.to⟩;show⟨_,j,d,rfl,cP,k l _ _ (r.trans g) R2<|Vd cP<|ø.of T.to.1 (T.to.2.1.mono g)<|T.to.2.2.mono g⟩
  .cases a
 .cases a⟩
abbrev uU(m:ME):MI:=λρ b=>(m ρ b).bind λp=>match p.1 with
 |.loc a=>match p.2[a]? with
  |some (.dT kvs)=>a0 (c9<|.tup<|i8 kvs,kvs.length+1,p.2.set a<|.dF kvs)|_=>a7
 |_=>a7
def Vf(h:QE X e m)(w:eE e=a9)(v:(b.endLine==c.line)=a9):QJ X (.Call (.Attribute e "values" b) [] [] c) (uU m):=⟨λtg Dn s σ H R I hw=>by
 obtain⟨K,L,A,z,n,B,q,E,a,k⟩:=hw;show aZ a ?_;clear a;intro x G u a;dsimp only at a;split at a
 .split at a
  .rename_i i hc;cases a;show Hj (Hy h.h) (jR w) v Dn s σ H R I ⟨K,L,A,_,_,q,E,u,λl N M r o y=>?_⟩;cases y;obtain⟨d,p,T⟩:=gR o hc;show⟨_,d,rfl,p,λj=>?_⟩;obtain⟨g,R2⟩:=o.put (c:=.dF i) (o:=.frz j (aL _ d)) (Ú.mp hc).1 p (.inr<|.inr ⟨_,rfl⟩) ⟨j,d,rfl,T.to⟩;show⟨_,j,d,rfl,cP,k l _ _ (r.trans g) R2<|Hk cP<|ø.of T.to.1 (T.to.2.1.mono g)<|T.to.2.2.mono g⟩
  .cases a
 .cases a⟩
end L3
namespace L3
open PySem L2 PySem.W PyProof.Rows
def Vg{rk:Value->Int}(N:us.Pairwise λx y=>rk x≠rk y)(h1:2<=us.length)(h2:us.length<=Ñ)(g:s.heap.get? c=a0 (ý "list" us.toArray z))(H:∀l,(∀b o,b≠c->s.heap.get? b=a0 o->l.get? b=a0 o)->xM P w A us (λx y=>decide<|rk x<rk y) {s with heap:=l})(q:∀a:gq,a.Perm us->a.Pairwise (λx y=>rk x<=rk y)->R (.done<|.ret .none) {s with heap:=JF s.heap c us a.reverse.toArray}):
  Ç (É P w) A (Builtin.«list.sort» ⟨[.ref c],[(Ż "reverse",.bool a9)]⟩) R E s:=by
 rw[list_sort_rev]
 have lt:c<s.heap.objs.size:=ß g
 show Á<|O1 g rfl<|Á<|su g rfl ?_ (by rw[ñ];lia)<|Ģ _
 obtain⟨y,M⟩:∃y,(s.heap.update c<|a3n λ_=>#[]).get? c=a0 (ý "list" #[] y):=⟨_,O3 g _⟩
 show Á<|tu M rfl<|Á<|Mj (Á<|t6 (ō ?_)<|Ģ _)<|by change us.length<=_;lia
 have O:(((s.heap.update c<|a3n λ_=>#[]).push<|ý "tuple" us.toArray 0).push<|ý "list" #[] 0).get? c=a0 (ý "list" #[] y):=
  æ _<|æ _ M
 have m:=H (((s.heap.update c<|a3n λ_=>#[]).push<|ý "tuple" us.toArray 0).push<|ý "list" #[] 0) λb o Y e=>æ _<|æ _<|(gr _ _<|ć Y).trans e
 change Ç (É P w) A _ R E ⟨((s.heap.update c<|a3n λ_=>#[]).push<|ý "tuple" us.toArray 0).push<|ý "list" #[] 0,s.gens,s.drawn,s.toks,s.os⟩
 dsimp only
 have i:¬ us.toArray.size<2:=by rw[ñ];lia
 rw[if_pos rfl,if_neg i,if_neg i]
 show Á<|dj<|Á<|Ķ m (λκ L B=>?_) λ_ _ x=>x.elim
 obtain⟨rfl,B⟩:=B
 rw[if_pos rfl]
 have X:(us.toArray.zip us.toArray).reverse=((us.map λu=>(u,u)).reverse).toArray:=by
  apply bh.mp
  rw[Ob,FI,ϥ]
 have run:=F7 (prog:=P) (w:=w) (A₀:=A) (E:=E) (κ:=κ) (X:=λp=>∃u∈us,p=(u,u)) (r:=λp=>rk p.1)
  (s:={s with heap:=((s.heap.update c<|a3n λ_=>#[]).push<|ý "tuple" us.toArray 0).push<|ý "list" #[] 0}) (L:=(us.map λu=>(u,u)).reverse) (mg:=7)
  (λx y C k K hc=>by
   obtain⟨u,I,rfl⟩:=k
   obtain⟨v,hv,rfl⟩:=K
   show B u v C I hv hc) (λx k=>by
   obtain⟨u,I,rfl⟩:=Þ.mp<|zf.mp k
   show⟨u,I,rfl⟩) (by unfold jc;rw[NK,Χ];show N.imp λh=>ć h) (by rw[ό,Å];show h1)
  (Q:=λ_ j L=>L={s with heap:=((s.heap.update c<|a3n λ_=>#[]).push<|ý "tuple" us.toArray 0).push<|ý "list" #[] 0}/\failedOf j=a7/\∃a:gq,(cj j).map (·.2)=a.toArray/\a.Perm us/\a.Pairwise λx y=>rk x<=rk y) λT pd mg' l n=>⟨rfl,rfl,T.map (·.2),by
   change T.toArray.map (·.2)=_
   rw[QL],by
   have:=(n.trans<|my _).map (·.2)
   rw[ã]at this
   show this.trans<|by rw[show((λp:Keyed=>p.2)∘λu:Value=>(u,u))=id from rfl,WF],by
   rw[Χ]
   show zz (R:=λx y:Keyed=>rk x.1<=rk y.1) (λ{x y} k K h=>?_) l
   obtain⟨u,_,rfl⟩:=Þ.mp<|zf.mp<|n.mem_iff.mp k
   obtain⟨v,_,rfl⟩:=Þ.mp<|zf.mp<|n.mem_iff.mp K
   show h⟩
 rw[X]
 show Á<|Ķ run (λr L hr=>?_) λ_ _ e=>e
 obtain⟨⟨⟩,j⟩:=r
 obtain⟨rfl,Q,a,d,U,G⟩:=hr
 dsimp only at Q d ⊢
 rw[d,if_pos rfl,List.reverse_toArray]
 have Z:=U.length_eq
 show Á<|tu O rfl<|Á<|su O rfl ?_ (hsz2:=by rw[ñ,ό];lia)
 rw[Q]
 simp only[bne_self_eq_false,ĸ,if_false]
 show Ð<|q a U G
def Vh{lt:e->e->Bool}(O:ť lt)d{ks:List e}(k:ks.length=us.length)(l:ks.Nodup)(m:us.Nodup)(h:2<=us.length)(hz:us.length<=Ñ)(g:s.heap.get? c=a0 (ý "list" us.toArray z))(H:∀a,(∀b o,b≠c->s.heap.get? b=a0 o->a.get? b=a0 o)->nI P w A us (λi j=>lt (ks.getD i d)<|ks.getD j d) {s with heap:=a})(q:R (.done<|.ret .none) {s with heap:=JF s.heap c us ((cR (λi j=>lt (ks.getD i d)<|ks.getD j d) us.length).map λi=>us.getD i ş).reverse.toArray}):Ç (É P w) A (Builtin.«list.sort» ⟨[.ref c],[(Ż "reverse",.bool a9)]⟩) R E s:=by
 obtain⟨n,p⟩:=G0 (P:=P) (w:=w) (A:=A) O d k l m
 show Vg (rk:=λv=>fQ lt ks<|ks.getD (dX us v) d) n h hz g (λa r=>p _<|H a r) λu o1 o2=>?_
 rw[GY O d k l m h o1 o2]at *
 show q
def Vi{es:Array DictEntry}{bs:List Addr}{ks:List (List Int)}(K:CR P w T r d es.size (λi v=>∃e,es[i]?=a0 e/\v=e.key) G)(R:A.handled=a7)(y:G s.heap)(H:es.toList.map (·.key)=bs.map Ò)(h2:2<=es.size)(hz:es.size<=Ñ)(I:ks.length=bs.length)(Y:ks.Nodup)(z:bs.Nodup)(key:∀j b,bs[j]?=a0 b->BC s.heap b (ks.getD j [])/\ks.getD j []≠[])(q:∀(h' n:Č)tk e,(∀b o,s.heap.get? b=a0 o->h'.get? b=a0 o)->(∀b o,h'.get? b=a0 o->n.get? b=a0 o)->n.get? h'.objs.size=a0 (ý "list" ((cR (λi j=>HT.lexLt (ks.getD i [])<|ks.getD j []) es.size).map λi=>Ò<|bs.getD i 0).reverse.toArray e)->Q (.ref h'.objs.size) {s with heap:=n,toks:=tk}):
  Ç (É P w) A (call (.builtin "sorted") [.ref r] [(Ż "reverse",.bool a9)]) Q E s:=by
 have k:bs.length=es.size:=by have:=congrArg ĭ H;simpa using this.symm
 show call_function_entry_kw Nq O2 O0 (args_sorted_rev _ _) ?_;unfold Oj;show Á (m:=Nh "sorted" 1 1 _)<|Ð<|Á<|kdu_collect (A:=A.in1) K R y hz λh' tk c M a=>?_;have N:c.toList=bs.map Ò:=by
  rw[<- H];show mq λi=>?_;rw[ú,γ,γ];cases L:c[i]? with
  |some v=>obtain⟨e,z1,z2⟩:=a.2 i v L;rw[z1,z2];rfl|none=>
   have:c.size<=i:=by simpa using L
   rw[NA<|by rw[<- a.1];show this];rfl
 rw[N];have B:(bs.map Ò).length=es.size:=by rw[Å,k]
 show Á (t6 ?_<|by rw[B];lia);have Z:(bs.map Ò).Nodup:=by unfold yg;rw[Χ];show z.imp λh e=>h<|by cases e;rfl
 have p:(h'.push<|ý "list" (bs.map Ò).toArray 0).get? h'.objs.size=a0 (ý "list" (bs.map Ò).toArray 0):=ē _ rfl;have fin:∀g:gq,g=((cR (λi j=>HT.lexLt (ks.getD i [])<|ks.getD j []) es.size).map λi=>Ò<|bs.getD i 0).reverse->Q (.ref h'.objs.size) {s with heap:=JF (h'.push<|ý "list" (bs.map Ò).toArray 0) h'.objs.size (bs.map Ò) g.toArray,toks:=tk}:=by rintro g rfl;obtain⟨e,O⟩:=Nx (h:=h'.push (ý "list" (bs.map Ò).toArray 0)) (out:=((cR (λi j=>HT.lexLt (ks.getD i [])<|ks.getD j []) es.size).map λi=>Ò<|bs.getD i 0).reverse.toArray) p;show q h' _ tk e M (λb o x=>?_) O;rw[OE (õ<|ß x)<|by rw[fB];show zg<|ß x];show æ _ x
 show Á<|ō<|wpAny_call_entry_kw yt (s:={s with heap:=h'.push<|ý "list" (bs.map Ò).toArray 0,toks:=tk}) ⟨_,p,rfl⟩ yh (Vh xR [] (ks:=ks) (by rw[B,I,k]) Y Z ⋯ ⋯ p (λn X=>?_) ⟨_,rfl,?_⟩)<|args_list_sort_rev _ _
 .show Hb ⋯ I λj b U=>?_;obtain⟨⟨xs,⟨o,o1,o2⟩,l⟩,u⟩:=key j b U;have m:=M _ _ o1;show⟨⟨xs,⟨o,X b o (õ<|ß m)<|æ _ m,o2⟩,l⟩,u⟩
 .show Ð ⟨_,rfl,fin _ ?_⟩;rw[B];show congrArg List.reverse<|a2x λi l=>?_;have l:i<bs.length:=by have:=Ů.mp<|(gP _ es.size).mem_iff.mp l;lia
  simp[ę,l]
abbrev Hz(K:Ö):gw->Hp->VK->Prop:=λxs H Q=>∃a ps,xs=[V.ref a,.bl a9]/\H a=a0 (aL a ps)/\c6 K H ps/\2<=ps.length/\(∀p∈ps,p.1≠[])/\∀l,H l=a7->Q (.ref l) (aK H l<|.lst ((eF ps).map λp=>V.ref p.2.1).reverse)
def Vj{σ:L2.St}(hc:X.calm=a9){xs:gw}(I:Inv X Dn σ H s)(r:∃y,xs=[y,.bl a9]/\Ì y u)(h:Hz X.K xs H Q):
  Ç (É X.prog X.w) X.A (call (.builtin "sorted") [u] [(Ż "reverse",.bool a9)]) (EP X Dn σ Q) X.xe s:=by
 obtain⟨a,c,rfl,E,v,h2,x,q⟩:=h;obtain⟨y,O,ru⟩:=r;cases O;cases ru;obtain⟨lo,m,N,ep,g,G⟩:=oO I E v;have L:=BI I E v;have Y:N.size=c.length:=by have:=congrArg ĭ G;simpa using this
 have T:∀{j:Nat}{b:Addr},(c.map (·.2.1))[j]?=a0 b->∃p∈c,c[j]?=a0 p/\p.2.1=b:=λ{j b} d=>by rw[ú]at d;show bY d ?_;clear d;intro p k R;show⟨p,Ğ k,k,R⟩
 show Vi (bs:=c.map (·.2.1)) (ks:=c.map (·.1)) (GD lo) (I.ok.hd hc) g (by rw[G,ã];rfl) ⋯ ⋯ (by simp) L.1 L.2 (λj b d=>?_) λn U A e k1 k2 k3=>?_
 .obtain⟨p,K,k,rfl⟩:=T d;have M:(c.map (·.1)).getD j []=p.1:=by simp[ę,k]
  rw[M];obtain⟨z,rx,t,_⟩:=I.tuple<|v p K;show⟨⟨z,t,wL rx⟩,x p K⟩
 .have B:Inv X Dn σ H {s with heap:=n,toks:=A}:=I.kept (t':=A) k1;show⟨.ref n.objs.size,_,B.laid (t':=A) (h':=U) (a:=n.objs.size) (o:=.lst ((eF c).map λp=>V.ref p.2.1).reverse) k2 (Õ _) ?_,rfl,q _<|B.hok.fresh<|Õ _⟩;have w:(eF c).length=c.length:=Ĵ.length_eq;show⟨by rw[ό,Å,w];show m,_,e,Bo ?_,k3⟩;unfold eF;rw[Y,ã];have:∀l:List Nat,(∀i∈l,i<c.length)->Ä (l.map<|(λp:List Int×Addr×V=>V.ref p.2.1)∘λi=>c.getD i ([],0,.non)) (l.map λi=>Ò<|(c.map (·.2.1)).getD i 0):=λl m=>by
   induction l with
   |nil=>show .nil|cons i l Z=>show .cons ?_<|Z λj d=>m j<|ı _ d;have o:=m i<|Ĭ ..;change Ò _=Ò _;simp[ę,o]
  show this _ λi o=>Ů.mp<|(gP _ c.length).mem_iff.mp o
abbrev nJ:MF:=λds b=>match ds with
 |[.loc a,.bl a9]=>match b[a]? with
  |some (.dT kvs)=>if 2<=kvs.length/\(∀p∈kvs,p.1≠[])then a0 (.loc b.length,b++[.lst ((dO kvs).map λk=>D.tup<|k.1.map D.int).reverse])else a7|_=>a7
 |_=>a7
def Vk{K:Ö}:fF K nJ (Hz K):=by
 intro G H E B d x A Q R i a k;unfold nJ at a;split at a
 .split at a
  .rename_i b u;split at a
   .rename_i g;cases a;cases i with
    |cons i t=>
     cases t with
     |cons v t=>
      cases t;cases i;cases v;obtain⟨c,m,T⟩:=gR R u;obtain⟨y,h⟩:=Bx T;have w:c.length=b.length:=by have:=congrArg ĭ T.to.1;simpa using this
      show⟨_,c,rfl,m,T.keys,by rw[w];show g.1,λp o z=>?_,λl n=>?_⟩
      .have:p.1∈b.map (·.1):=by rw[<- T.to.1];show Þ.mpr ⟨p,o,rfl⟩
       obtain⟨q,r,e⟩:=Þ.mp this;show g.2 q r<|e.trans z
      .obtain⟨j,R2,_⟩:=R.alloc (c:=.lst ((dO b).map λk:List Int×D=>D.tup<|k.1.map D.int).reverse) (o:=.lst ((eF c).map λp:List Int×Addr×V=>V.ref p.2.1).reverse) n<|Fu h.to.2.1;show k _ _ _ j R2 j9
   .cases a
  .cases a
 .cases a
def Vl{pos:è}(hc:X.calm=a9)(hg:Gl X "sorted")(hm:X.mg "sorted"=a7)(h:QE X e m)(h1:QE X j N)(hs:dW e=a9):
  QE X (.Call (.Name "sorted" p) [e] [⟨a0 "reverse",j,p1⟩] pos) (aG nJ<|aB m<|aB N aD):=⟨by
 intro Dn s σ H Q I hw;obtain⟨Y,Z,U,d,K,R,E,hw,k⟩:=hw;show aZ hw ?_;clear hw;intro ds μ2 l hw;show aZ l ?_;clear l;intro x c g1 l;show aZ l ?_;clear l;intro ds' μ3 r l;show aZ r ?_;clear r;intro y g L r;cases r;cases l;dsimp only at L hw;show ς (f9 I hg hm vm ?_ (by decide)<|by decide);have st:ă [e] X.env=(a8,eval e X.env)::ă [] X.env:=gN hs;show b3Y (aQ (DR h.h DQ st pos Dn s σ H (λO i=>∃v a,O=[v]/\û Y U.length H a c.length i/\Rp X.K a i c/\Ý X.K a c.length i v x) I ⟨Y,Z,U,x,c,R,E,g1,λa v i j z A=>⟨v,a,rfl,j,z,A⟩⟩) λus s1 ⟨O,i,I1,r1,v,a,ev,j,z,A⟩=>?_) (by rw[st];rfl) (by rw[st];rfl);subst ev;show aQ (a6N h1.h a6O pos Dn s1 σ i (λT n=>∃w b,T=[w]/\û a c.length i b g.length n/\Rp X.K b n g/\Ý X.K b g.length n w y) I1 ⟨a,Z,c,y,g,z,E.mono j,L,λb w n o R2 B=>⟨w,b,rfl,o,R2,B⟩⟩) λws s2 ⟨T,n,I2,r2,w,b,ew,o,R2,B⟩=>?_;subst ew;obtain⟨u,rfl,ru⟩:=iV r1;obtain⟨u2,rfl,G⟩:=iV r2;have M:=Vk b n g [x,y] d K [v,w] Q R2 (.cons (A.mono o)<|.cons B .nil) hw<|k.after<|j.trans o;obtain⟨q,ps,e5,hr'⟩:=id M;cases e5;cases G;show Vj hc I2 ⟨_,rfl,ru⟩ M⟩
end L3
namespace L3
open PySem L2
structure ģ where
 fn:List<|Str×Nat
 con:List<|Str×D
 tab:List<|Str×List (cN×D)
 no:List Str
 dIt:List Str
 dEq:List Str
 dMe:List Str
structure Cs where
 N:List Str
 ks:List<|Str×ϝ
abbrev oS(x:Str):List Str->Option Nat
 |[]=>a7|y::r=>if x=y then a0 0 else(oS x r).map (·+1)
def uV:∀{N}{i},oS x N=a0 i->N[i]?=a0 x
 |[],_,h=>by cases h
 |y::r,i,h=>by
  unfold oS at h;split at h
  .rename_i e;cases h;subst e;rfl
  .obtain⟨j,a,b⟩:=Ō.mp h;subst b;have:=uV a;simpa using this
abbrev glob(c:Cs)(x:Str):Bool:=decide (c.ks.lookup x=a0 .globalImplicit)&&!(x==("__debug__":Str))
abbrev pQ(c:Cs)(x:Str):Bool:=(decide (c.ks.lookup x=a0 .local)||decide (c.ks.lookup x=a0 .cell)||decide (c.ks.lookup x=a0 .free))&&!(x==("__debug__":Str))&&!(x==("__classdict__":Str))
abbrev oT(c:Cs)(x:Str):Bool:=decide (c.ks.lookup x=a0 .local)||decide (c.ks.lookup x=a0 .cell)
def fK{κ b:Type} [BEq κ] [LawfulBEq κ] {x k:κ}{a n:b}{r:List (κ×b)}{P:Prop}(h:dq x ((k,a)::r)=a0 n)(h1:x=k->a=n->P)(c:dq x r=a0 n->P):P:=by
 rw[um]at h;by_cases e:x=k
 .rw[beq_iff_eq.mpr e]at h;show h1 e<|ė h
 .rw[beq_eq_false_iff_ne.mpr e]at h;show c h
abbrev HA(x:Str):Option String:=dq x [("int","int"),("bool","bool"),("str","str"),("list","list"),("tuple","tuple"),("dict","dict")]
def Vm(h:HA x=a0 n):Ε x=a0 (.type n)/\x ≠ "__name__":=by
 show fK h (λe g=>?_) λh=>?_
 .subst e;cases g;show⟨b1Z,by decide⟩
 show fK h (λe g=>?_) λh=>?_
 .subst e;cases g;show⟨b2a,by decide⟩
 show fK h (λe g=>?_) λh=>?_
 .subst e;cases g;show⟨b1V,by decide⟩
 show fK h (λe g=>?_) λh=>?_
 .subst e;cases g;show⟨PB,by decide⟩
 show fK h (λe g=>?_) λh=>?_
 .subst e;cases g;show⟨P7,by decide⟩
 show fK h (λe g=>?_) λh=>?_
 .subst e;cases g;show⟨P9,by decide⟩
 cases h
abbrev BM(S:ģ)(c:Cs)(x:Str):ME:=
 if pQ c x=a9 then(match oS x c.N with|some i=>aA i|none=>b8)
 else if glob c x=a9 then(match S.con.lookup x with
  |some d=>mC d
  |none=>if S.no.contains x=a9 then(match HA x with|some n=>mC (.ty n)|none=>b8)else b8)
 else b8
abbrev fD(r:Expr->ME):List Expr->MA
 |[]=>aD|e::es=>aB (r e)<|fD r es
abbrev yK(op:BoolOp):List ME->ME
 |[]=>b8|[m]=>m|m::r=>match op with
  |.And=>eJ m (yK op r)|.Or=>AA m<|yK op r
abbrev yL(op:BoolOp):List MT->MT
 |[]=>pX|[m]=>m|m::r=>match op with
  |.And=>j6 m (yL op r)|.Or=>jJ m<|yL op r
abbrev HB(op:b0P)(a b:ME):ME:=match op with
 |.Add=>aC bA a b|.Sub=>aC dH a b|.Mult=>aC bQ a b|.FloorDiv=>aC iJ a b|.Mod=>aC bN a b|_=>b8
abbrev oU(op:Mt)(ns:Bool)(a b:ME):ME:=match op with
 |.Eq=>aC (bD a8) a b|.NotEq=>aC (bD a9) a b|.Lt=>aC lT a b|.LtE=>aC rR a b|.Gt=>aC oD a b|.GtE=>aC uA a b|.In=>if ns=a9 then aC (cA a8) a b else b8|.NotIn=>if ns=a9 then aC (cA a9) a b else b8|.Is=>aC (mB a8) a b|.IsNot=>aC (mB a9) a b
abbrev sX(r:Expr->ME):Option Expr->MO
 |none=>fG|some e=>eV<|r e
abbrev yM:Expr->Option (Expr×List Expr)
 |.Call f as [] _=>a0 (f,as)|_=>a7
def HC(h:yM e=a0 (f,as)):∃pos,e=.Call f as [] pos:=by
 unfold yM at h;split at h
 .cases h;show⟨_,rfl⟩
 .cases h
abbrev kX:Expr->Option Str
 |.Name x _=>a0 x|_=>a7
def uW(h:kX e=a0 x):∃p,e=.Name x p:=by
 unfold kX at h;split at h
 .cases h;show⟨_,rfl⟩
 .cases h
abbrev o1:List Expr->Option Expr
 |[e]=>a0 e|_=>a7
def yN(h:o1 l=a0 e):l=[e]:=by
 match l,h with
 |[_],h=>cases h;rfl
abbrev o2:List Expr->Option (Expr×Expr)
 |[a,b]=>a0 (a,b)|_=>a7
def Vn(h:o2 l=a0 (a,b)):l=[a,b]:=by
 match l,h with
 |[_,_],h=>cases h;rfl
abbrev fL:MF:=λds b=>match ds with
 |[.loc a]=>match b[a]? with
  |some (.lst xs)=>a0 (.int xs.length,b)|some (.st ks)=>a0 (.int ks.length,b)|some (.dT kvs)=>a0 (.int kvs.length,b)|_=>a7
 |_=>uB ds b
abbrev BN:MF:=λds a=>match ds with
 |[x]=>(bM a x).map λb=>(.tup b,a)|_=>a7
def Vo:fF K BN (λxs H Q=>∃p ys,xs=[.ref p]/\((č K H p ys/\∀l,H l=a7->Q (.ref l) (aK H l<|.tup ys))\/(î K H p ys/\Q (.ref p) H))):=by
 intro e H o xs d m n Q R i a k;unfold BN at a;split at a
 .obtain⟨ys,g,h⟩:=Ō.mp a;cases h;cases i with
  |cons i t=>
   cases t;obtain⟨p,c,rfl,q,hd⟩:=rX R i g;show⟨p,c,rfl,?_⟩;rcases q with q|q
   .show .inl ⟨q,λl j=>?_⟩;obtain⟨b,R2⟩:=R.fresh (o:=.tup c) j;show k e _ _ b R2<|.tup (.of cP)<|hd.mono b
   .show .inr ⟨q,k e _ H .refl R<|.tup q hd⟩
 .cases a
abbrev bltT:List (Str×MF):=[("len",fL)
 ,("isinstance",fH)
 ,("tuple",BN)
 ,("all",xI)
 ,("sum",nD)
 ]
abbrev HD(x:Str):Option MF:=bltT.lookup x
abbrev Vp(K:Ö):gw->Hp->VK->Prop:=λxs H Q=>AV K xs H Q\/(∃a L,xs=[V.ref a]/\H a=a0 (wQ a L)/\Q (.int L.length) H)\/GF K xs H Q
def Vq:fF K fL (Vp K):=by
 intro g H l q d e j Q R i b k;unfold fL at b;split at b
 .rename_i a;split at b
  .rename_i r c;show .inl<|EU g H l _ d e j Q R i ?_ k;simp only[uB,bM,c];show b
  .rename_i n c;cases b;cases i with
   |cons i t=>cases t;cases i;obtain⟨L,h,m,_⟩:=R.st a n c;have:=congrArg ĭ m;rw[Å]at this;show .inr<|.inl ⟨_,L,rfl,h,?_⟩;rw[this];show k g _ H .refl R<|.int _
  .rename_i o c;cases b;cases i with
   |cons i t=>cases t;cases i;obtain⟨p,h,T⟩:=gR R c;have:=congrArg ĭ T.to.1;rw[Å,Å]at this;show .inr<|.inr ⟨_,p,rfl,h,T.keys,?_⟩;rw[this];show k g _ H .refl R<|.int _
  .cases b
 .show .inl<|EU g H l _ d e j Q R i b k
def Vr(a:X.calm=a9)(b:X.A.units+64<Ĉ)(h:HD x=a0 f):∃v r,Ε x=a0 v/\((∃id,v=.builtin id)\/∃T,v=.type T)/\ì X v r/\fF X.K f r/\x ≠ "__name__":=by
 show fK h (λe g=>?_) λh=>?_
 .subst e;cases g;show⟨_,_,b1X,.inl ⟨_,rfl⟩,η.or<|ζ.or CpI,Vq,by decide⟩
 show fK h (λe g=>?_) λh=>?_
 .subst e;cases g;show⟨_,_,b1Y,.inl ⟨_,rfl⟩,a6E,a6e,by decide⟩
 show fK h (λe g=>?_) λh=>?_
 .subst e;cases g;show⟨_,_,P7,.inr ⟨_,rfl⟩,D8,Vo,by decide⟩
 show fK h (λe g=>?_) λh=>?_
 .subst e;cases g;show⟨_,_,b2b,.inl ⟨_,rfl⟩,b1h a,b1i rfl,by decide⟩
 show fK h (λe g=>?_) λh=>?_
 .subst e;cases g;show⟨_,_,b1U,.inl ⟨_,rfl⟩,b0C a,a9J,by decide⟩
 cases h
abbrev BO(x:Str):Option MF:=
 if x="dict" then a0 qH else
 HD x
def Vs(a:X.calm=a9)(b:X.A.units+64<Ĉ)(h:BO x=a0 f):∃v r,Ε x=a0 v/\((∃id,v=.builtin id)\/∃T,v=.type T)/\ì X v r/\fF X.K f r/\x ≠ "__name__":=by
 unfold BO at h;split at h
 .rename_i e;subst e;cases h;show⟨_,_,P9,.inr ⟨_,rfl⟩,Ui a b,Uj,by decide⟩
 show Vr a b h
abbrev xg:List ((Str×Nat)×(D->List D->Hm->jk)):=[(("append",1),dJ)
 ,(("extend",1),oG)
 ,(("index",1),sQ)
 ,(("clear",0),qB)
 ,(("pop",0),kT)
 ]
abbrev HE(m:Str)(n:Nat):Option (D->List D->Hm->jk):=xg.lookup (m,n)
abbrev Vt(S:ģ)(x:Str)(a:Expr):Bool:=match kX a with
 |some y=>S.dMe.contains y|none=>a8
abbrev Vu(S:ģ)(f:Expr)(args:List Expr):Option (Bool×Expr):=(kX f).bind λx=>(o1 args).bind λa=>if(dW a&&Vt S x a)=a9 then(if x="sorted" then a0 (a9,a)else if x="dict" then a0 (a8,a)else a7)else a7
abbrev PZ:List ((Str×Nat)×(D->List D->Hm->jk)):=
 (("setdefault",2),qL) ::
 (("get",2),qK) ::
 []
abbrev HF(S:ģ)(o:Expr)(m:Str)(n:Nat):Option (D->List D->Hm->jk):=
 PZ.lookup (m,n)
abbrev yO(S:ģ)(c:Cs)(tg:Expr):Expr->Option Nat
 |.Name x _=>match tg with
  |.Name _ _=>if S.dIt.contains x=a9 then oS x c.N else a7|_=>a7
 |_=>a7
abbrev BP(S:ģ)(F:Str->MF)(r:Expr->ME)(c:Cs)(f:Expr)(args:List Expr)(a:è):ME:=match f with
 |.Name x _=>if glob c x&&args.all dW then(match S.fn.lookup x with
   |some n=>if args.length=n then aG (F x) (fD r args)else b8|none=>
   if S.no.contains x&&!args.isEmpty then(match BO x with|some g=>aG g (fD r args)|none=>b8)else b8)
  else b8
 |.Attribute o m apos=>if eE o&&(apos.endLine==a.line)&&args.all dW then(
   match HF S o m args.length with
   |some g=>oR g (r o) (fD r args)|none=>
   match HE m args.length with
   |some g=>cK g (r o) (fD r args)|none=>
    b8)
  else b8
 |_=>b8
abbrev yP(f:Expr)(args:List Expr):Option (Str×Str×Expr):=(kX f).bind λx=>(o1 args).bind λa=>(yM a).bind λg=>(kX g.1).bind λy=>(o1 g.2).map λe=>(x,y,e)
def BQ(h:yP f args=a0 (x,y,e)):∃p c pos,f=.Name x p/\args=[.Call (.Name y c) [e] [] pos]:=by show bU h ?_;clear h;intro m d h;show bU h ?_;clear h;intro a i h;show bU h ?_;clear h;intro g j h;show bU h ?_;clear h;intro n b h;show bY h ?_;clear h;intro l k h;cases h;obtain⟨p,rfl⟩:=uW d;obtain⟨pos,rfl⟩:=HC j;obtain⟨c,b⟩:=uW b;show⟨p,c,pos,rfl,by rw[yN i,b,yN k]⟩
abbrev Vv(f:Expr)(args:List Expr):Option (Bool×Expr):=(yP f args).bind λt=>
 if t.1="list"/\t.2.1="reversed" then a0 (a9,t.2.2)else
 a7
abbrev HG:Bool->Str
 |false=>"range"|true=>"reversed"
abbrev lstM:Bool->MF
 |true=>oN|false=>oN
abbrev BR(S:ģ)(F:Str->MF)(r:Expr->ME)(c:Cs)(f:Expr)(args:List Expr)(a:è):ME:=
 match Vv f args with
 |some (b,e)=>if glob c "list" && glob c (HG b)&&S.no.contains "list" && S.no.contains (HG b)&&dW e then aG (lstM b) (fD r [e])else b8|none=>BP S F r c f args a
abbrev uX:Expr->Option (Expr×è×è)
 |.Call g [] [] cpos=>match g with
  |.Attribute o m apos=>if m="items" then a0 (o,apos,cpos)else a7|_=>a7
 |_=>a7
def BS(h:uX e=a0 (o,a,b)):e=.Call (.Attribute o "items" a) [] [] b:=by
 unfold uX at h;split at h
 .split at h
  .split at h
   .rename_i c;cases h;rw[c]
   .cases h
  .cases h
 .cases h
abbrev Vx(f:Expr)(args:List Expr):Option (Expr×è×è):=(yP f args).bind λt=>if t.1="dict"/\t.2.1="sorted" then uX t.2.2 else a7
abbrev Vy(f:Expr)(args:List Expr):Option (Expr×è×è):=(yP f args).bind λt=>if t.1="tuple"/\t.2.1="sorted" then uX t.2.2 else a7
abbrev BU:Expr->Option (Expr×è×è)
 |.Call g [] [] cpos=>match g with
  |.Attribute o m apos=>if m="keys" then a0 (o,apos,cpos)else a7|_=>a7
 |_=>a7
def Vz(h:BU e=a0 (o,a,b)):e=.Call (.Attribute o "keys" a) [] [] b:=by
 unfold BU at h;split at h
 .split at h
  .split at h
   .rename_i c;cases h;rw[c]
   .cases h
  .cases h
 .cases h
abbrev yQ(f:Expr)(args:List Expr):Option (Str×Expr):=(kX f).bind λx=>(o1 args).map λe=>(x,e)
def BV(h:yQ f args=a0 (x,e)):∃p,f=.Name x p/\args=[e]:=by show bU h ?_;clear h;intro d b h;show bY h ?_;clear h;intro a c h;cases h;obtain⟨p,rfl⟩:=uW b;show⟨p,rfl,yN c⟩
abbrev VA(f:Expr)(args:List Expr):Option (Expr×è×è):=(yQ f args).bind λt=>if t.1="sorted" then BU t.2 else a7
abbrev VB(f:Expr)(args:List Expr):Option (Expr×è×è):=(yQ f args).bind λt=>if t.1="list" then uX t.2 else a7
abbrev VC(S:ģ)(f:Expr)(args:List Expr):Option (Bool×Expr):=(yQ f args).bind λt=>if t.1="sorted"/\S.dMe.contains "#T"=a9 then a0 ((match kX t.2 with|some y=>S.dMe.contains y|none=>a8),t.2)else a7
abbrev BW(S:ģ)(F:Str->MF)(r:Expr->ME)(c:Cs)(f:Expr)(args:List Expr)(a:è):ME:=
 match Vy f args with
 |some q=>if glob c "sorted" && glob c "tuple" && S.no.contains "sorted" && S.no.contains "tuple" && eE q.1&&(q.2.1.endLine==q.2.2.line)then yI (r q.1)else b8|none=>
 match Vx f args with
 |some q=>if glob c "sorted" && glob c "dict" && S.no.contains "sorted" && S.no.contains "dict" && eE q.1&&(q.2.1.endLine==q.2.2.line)then yG (r q.1)else b8|none=>
 match VA f args with
 |some q=>if glob c "sorted" && S.no.contains "sorted" && eE q.1&&(q.2.1.endLine==q.2.2.line)then BJ (r q.1)else b8|none=>
 match VB f args with
 |some q=>if glob c "list" && S.no.contains "list" && eE q.1&&(q.2.1.endLine==q.2.2.line)then BK (r q.1)else b8|none=>
 match VC S f args with
 |some q=>if glob c "sorted" && S.no.contains "sorted" && dW q.2 then(match q.1 with|true=>aG fT (fD r [q.2])|false=>aG nE<|fD r [q.2])else b8|none=>
 match Vu S f args with
 |some (a9,e)=>b8|some (a8,e)=>b8|none=>
 BR S F r c f args a
abbrev sY(c:Cs)(scope:Δ)(xs:List Str):Bool:=
 (scope.names.all λy=>decide<|y.2≠.cell)&&decide (scope.kind=.function)&&(scope.names.all λy=>decide (y.2≠.local)||decide (scope.names.lookup y.1=a0 .local)) &&
 (xs.all λx=>decide<|scope.names.lookup x=a0 .local)&&decide xs.Nodup&&(scope.names.all λy=>decide (y.2≠.free)||decide (c.ks.lookup y.1=a0 .cell)||decide (c.ks.lookup y.1=a0 .free)) &&
 (scope.names.all λy=>decide (y.2≠.local)||!(bH xs c.N).contains y.1)&&decide (bH xs c.N).Nodup&&(c.N.all λy=>!xs.contains y||decide (scope.names.lookup (rS y)=a7))
abbrev uY(c:Cs)(scope:Δ)(xs:List Str):Cs:=
 ⟨bH xs c.N++xs,scope.names.map λ(n,k)=>if(k==ϰ&&c.ks.lookup n==a0 .cell)then(n,Sd)else(n,k)⟩
abbrev HH(r:Expr->MT):List Expr->MT
 |[]=>eX|[t]=>r t|_=>pX
abbrev qM(S:ģ)(c:Cs)(x:Str)(e:Expr):Option (List Expr):=(yM e).bind λg=>(kX g.1).bind λy=>if y=x/\(glob c x&&S.no.contains x&&g.2.all dW)=a9 then a0 g.2 else a7
abbrev VD(r:Expr->ME):List Expr->MI
 |[a]=>oE (fD r [a])|[a,b]=>lV (fD r [a,b])|_=>E7
abbrev yR(S:ģ)(r:Expr->ME)(c:Cs)(e:Expr):MI:=match qM S c "range" e with
 |some a=>VD r a|none=>bZ<|r e
abbrev BX(S:ģ)(r:Expr->ME)(c:Cs)(e:Expr):MI:=match(qM S c "enumerate" e).bind o1 with
 |some a=>sO (fD r [a])|none=>yR S r c e
abbrev BY(S:ģ)(r:Expr->ME)(c:Cs)(e:Expr):MI:=match(qM S c "zip" e).bind o2 with
 |some (a,b)=>uO (fD r [a,b])|none=>BX S r c e
abbrev BZ:Expr->Option (List Str)
 |.Name x _=>a0 [x]|.Tuple es _ _=>es.mapM kX|_=>a7
abbrev B0:Expr->Nat->BD
 |.Tuple ..,n=>AS n|_,_=>rW
abbrev yS(S:ģ)(r:Expr->ME)(c:Cs)(tg e:Expr):MI:=match tg with
 |.Tuple ..=>BY S r c e|_=>yR S r c e
abbrev oV(b:MI)(d:Cs->Expr->ME)(e:Cs->Expr->MT)(c:Cs)(elt tg iter:Expr)(ifs:List Expr)(scope:Δ):ME:=match BZ tg with
 |some a=>if sY c scope a&&iK iter then lW (B0 tg a.length) b (HH (e<|uY c scope a) ifs) (d (uY c scope a) elt)else b8|none=>b8
abbrev B1(S:ģ)(a:Cs->Expr->ME)(b:Cs->Expr->MT)(c:Cs)(elt tg iter:Expr)(ifs:List Expr)(scope:Δ):ME:=
 match yO S c tg iter with
 |some i=>By i (oV (fR<|a c iter) a b c elt tg iter ifs scope) b8|none=>
 oV (yS S (a c) c tg iter) a b c elt tg iter ifs scope
abbrev HJ:Const->ME
 |.int i=>mC (.int i)|.bool b=>mC (.bl b)|.str s=>mC (.str s)|.none=>mC .non|_=>b8
abbrev HK(m:ME):UnaryOp->ME
 |.USub=>mW m|.Not=>rN m|_=>b8
abbrev HL(S:ģ)(r:Expr->ME)(a:Expr):List Mt->List Expr->ME
 |[op],[b]=>oU op (iK b) (r a)<|r b
 |[op,op'],[b,b']=>(match iM op,iM op' with
  |some p,a0 q=>kW (gK p) (gK q) (r a) (r b)<|r b'
  |_,_=>b8)
 |_,_=>b8
abbrev B2(r:Expr->ME):List (Option Expr)->List Expr->ME
 |[],[]=>fA|[a0 k],[v]=>qI (r k) (r v)|_,_=>b8
abbrev B3(S:ģ)(r:Expr->ME)(c:Cs)(a b:Expr):ME:=match b with
 |.Slice lo hi a7 _=>jL (r a) (sX r lo) (sX r hi)|.Slice lo hi (a0 st) _=>oK (r a) (sX r lo) (sX r hi) (sX r<|a0 st)|b=>if rY b then aC aI (r a) (r b)else b8
abbrev B4(r:Expr->ME)(es:List Expr):ME:=if es.all dW then bP (fD r es)else b8
abbrev B5(r:Expr->ME)(es:List Expr):ME:=if es.all dW then cX (fD r es)else b8
abbrev B6(S:ģ)(r:Expr->ME)(c:Cs)(f:Expr)(args:List Expr)(d:Str)(b:Expr):ME:=match f with
 |.Name x _=>match args with
  |[a]=>if x="sorted"/\d="reverse"/\(glob c "sorted" && S.no.contains "sorted" && dW a)=a9 then aG nJ (aB (r a)<|aB (r b) aD)else b8|_=>b8
 |_=>b8
abbrev B7(S:ģ)(F:Str->MF)(r:Expr->ME)(c:Cs)(f:Expr)(args:List Expr)(a:è):List Γ->ME
 |[]=>BW S F r c f args a|[⟨a0 k1,e1,_⟩]=>B6 S r c f args k1 e1|_=>b8
abbrev HM(S:ģ)(a:Cs->Expr->ME)(b:Cs->Expr->MT)(c:Cs)(elt:Expr)(scope:Δ):List Comprehension->ME
 |[⟨tg,iter,ifs,0⟩]=>B1 S a b c elt tg iter ifs scope|_=>b8
abbrev HN(S:ģ)(F:Str->MF)(d:Cs->Expr->ME)(e:Cs->Expr->MT)(c:Cs):Expr->ME
 |.Name x _=>BM S c x|.Constant v _ _=>HJ v|.BinOp a op b _=>HB op (d c a) (d c b)|.UnaryOp op a _=>HK (d c a) op|.Compare a ops bs _=>HL S (d c) a ops bs|.BoolOp op vs _=>yK op (vs.map<|d c)|.IfExp t a b _=>j7 (e c t) (d c a) (d c b)|.Tuple es _ _=>B4 (d c) es|.List es _=>B5 (d c) es|.Dict keys values _=>B2 (d c) keys values|.Subscript a b _=>B3 S (d c) c a b|.Call f args kws cpos=>B7 S F (d c) c f args cpos kws|.ListComp elt gs scope _=>HM S d e c elt scope gs|_=>b8
abbrev uZ(r:Expr->ME)(e:Expr):MT:=if AX e then dS (r e)else pX
abbrev B8(S:ģ)(r:Expr->ME)(a:Expr)(ops:List Mt)(bs:List Expr)(p:è):MT:=match ops,bs with
 |[op],[b]=>aT<|oU op (iK b) (r a)<|r b
 |[op,op'],[b,b']=>(match iM op,iM op' with
  |some p,a0 q=>aT<|kW (gK p) (gK q) (r a) (r b)<|r b'
  |_,_=>pX)
 |ops,bs=>uZ r<|.Compare a ops bs p
abbrev VE(r:Expr->ME)(t:MT)(a:Expr)(p:è):UnaryOp->MT
 |.Not=>t|op=>uZ r<|.UnaryOp op a p
abbrev HP(S:ģ)(b:Cs->Expr->ME)(d:Cs->Expr->MT)(c:Cs):Expr->MT
 |.BoolOp op vs _=>yL op (vs.map<|d c)|.UnaryOp op a p=>VE (b c) (iY<|d c a) a p op|.Compare a ops bs p=>B8 S (b c) a ops bs p|e=>uZ (b c) e
abbrev tr(S:ģ)(F:Str->MF):Nat->(Cs->Expr->ME)×(Cs->Expr->MT)
 |0=>(λ_ _=>b8,λ_ _=>pX)|n+1=>(HN S F (tr S F n).1 (tr S F n).2,HP S (tr S F n).1 (tr S F n).2)
structure ÿ(S:ģ)(F:Str->MF)(k:Nat)(c:Cs)(X:Cx):Prop where
 N:X.N=c.N
 nd:X.N.Nodup
 ks:X.env.scope.names=c.ks
 kind:X.env.scope.kind=.function
 calm:X.calm=a9
 room:ç k X.A
 never:xq (É X.prog X.w) X.A X.env X.xe
 fn:∀x n,S.fn.lookup x=a0 n->∃(f:Addr)(fd:nA)(ps:List Str),ļ X.prog X.w X.K X.mg X.base iI k f fd ps (kR X.K n<|F x)/\X.mg x=a0 (.ref f)/\Ϟ X.K (.ref f)=a9/\Ħ X.K fd ps []
 con:∀x d,S.con.lookup x=a0 d->∃v u,X.mg x=a0 u/\Ì v u/\∀π n H,Ý X.K π n H v d
 tab:∀x kvs,S.tab.lookup x=a0 kvs->TabOk X x kvs
 no:∀x,S.no.contains x=a9->X.mg x=a7
def VF(ks:X.env.scope.names=c.ks)(h:glob c x=a9):Gl X x/\(x==("__debug__":Str))=false:=by unfold glob at h;rw[í]at h;show⟨?_,by simpa using h.2⟩;change X.env.scope.names.lookup x=_;rw[ks];show of_decide_eq_true h.1
def VG{X:Cx}(ks:X.env.scope.names=c.ks)(h:pQ c x=a9):rH X.env.scope x/\(x==("__debug__":Str))=a8/\(x==("__classdict__":Str))=false:=by
 unfold pQ at h;rw[í,í,pC,pC]at h;obtain⟨⟨a,b⟩,d⟩:=h;show⟨?_,by simpa using b,by simpa using d⟩;unfold rH;rw[ks];rcases a with(a|a)|a
 .show .inl<|of_decide_eq_true a
 .show .inr<|.inl<|of_decide_eq_true a
 .show .inr<|.inr<|of_decide_eq_true a
def ÿ.gl(O:ÿ S F k c X)(h:glob c x=a9):Gl X x/\(x==("__debug__":Str))=false:=VF O.ks h
def ÿ.vis(O:ÿ S F k c X)(h:pQ c x=a9):rH X.env.scope x/\(x==("__debug__":Str))=a8/\(x==("__classdict__":Str))=false:=VG O.ks h
def VH(O:ÿ S F k c X)x pos:QE X (.Name x pos) (BM S c x):=by
 unfold BM;split
 .rename_i h;obtain⟨a,b,j⟩:=O.vis h;split
  .rename_i i l;show b2e i (by rw[O.N];show uV l) a b j
  .show bR
 split
 .rename_i h;obtain⟨a,b⟩:=O.gl h;split
  .rename_i d hd;obtain⟨v,u,m,r,i⟩:=O.con x d hd;show⟨rM (a8N a m r b) i⟩
  .split
   .rename_i o;split
    .rename_i n p;obtain⟨e,g⟩:=Vm p;show b2o (O.no x o) e a g b
    .show bR
   .show bR
 .show bR
def kH(a:∀e,QE X e (r e)):∀es,es.all dW=a9->QA X es (fD r es) es.length
 |[],_=>b1k|e::es,h=>by rw[Ŕ,í]at h;show b2x (a e) (kH a es h.2) h.1
def HQ(a:∀e,QE X e (r e))op pos:∀vs,QE X (.BoolOp op vs pos) (yK op<|vs.map r)
 |[]=>bR|[e]=>b1t (a e)|e::d::es=>by
  have b:=HQ a op pos<|d::es;cases op with
  |And=>show b1s (a e) b|Or=>show b1q (a e) b
def HR(a:∀e,QT X e (r e))op pos:∀vs,QW X (.BoolOp op vs pos) (yL op<|vs.map r)
 |[]=>b1T|[e]=>by
  cases op with
  |And=>show b3E (a e)|Or=>show b3D<|a e
 |e::d::es=>by
  have b:=HR a op pos<|d::es;cases op with
  |And=>show b3C (a e) b|Or=>show b3A (a e) b
def VI(d:QE X a g)(e:QE X b h)op pos:QE X (.BinOp a op b pos) (HB op g h):=by
 cases op with
 |Add=>show b2V d e|Sub=>show b2S d e|Mult=>show b2R d e|FloorDiv=>show b2Q d e|Mod=>show b2P d e|_=>show bR
def VJ(O:ÿ S F k c X)(d:QE X a g)(e:QE X b i)op pos:QE X (.Compare a [op] [b] pos) (oU op (iK b) g i):=by
 cases op with
 |Eq=>show b2M O.room d e|NotEq=>show b2H O.room d e|Lt=>show b2C d e|LtE=>show b2A d e|Gt=>show b1w d e|GtE=>show b1u d e|In=>
  simp only[oU];split
  .rename_i h;show T4 O.room d e h
  .show bR
 |NotIn=>
  simp only[oU];split
  .rename_i h;show T5 O.room d e h
  .show bR
 |Is=>show a9Q d e|IsNot=>show a9M d e
def HS:QT X e (aT b8):=⟨λDn s σ H Q I h=>by
 obtain⟨i,j,g,d,b,R,E,a,k⟩:=h;cases a⟩
def VL(O:ÿ S F k c X)(d:QE X a g)(e:QE X b i)op pos:QT X (.Compare a [op] [b] pos) (aT<|oU op (iK b) g i):=by
 cases op with
 |Eq=>show b2m O.room d e|NotEq=>show b2l O.room d e|Lt=>show b2j d e|LtE=>show b2i d e|Gt=>show b3M d e|GtE=>show b3L d e|In=>
  simp only[oU];split
  .rename_i h;show T6 O.room d e h
  .show HS
 |NotIn=>
  simp only[oU];split
  .rename_i h;show T7 O.room d e h
  .show HS
 |Is=>show a9L d e|IsNot=>show a9K d e
def u3(a:∀e,QE X e (r e)):∀o,QO X o (sX r o)
 |none=>b2t|some e=>b2s<|a e
def VM(O:ÿ S F k c X)(j:∀e,QE X e (r e))(h1:eE o=a9)(i:(d.endLine==h.line)=a9)(n:QA X args (fD r args) args.length)(b:HE m args.length=a0 g):QE X (.Call (.Attribute o m d) args [] h) (cK g (r o)<|fD r args):=by
 show fK b (λe g=>?_) λb=>?_
 .obtain⟨rfl,a⟩:=ϊ e;cases g;cases args with
  |nil=>cases a|cons e l=>show A7 PySem.F.slot_list_append PySem.F.type_list_append Ed b1F (j o) n h1 i<|by rw[a];decide
 show fK b (λe g=>?_) λb=>?_
 .obtain⟨rfl,a⟩:=ϊ e;cases g;cases args with
  |nil=>cases a|cons e l=>show A7 PySem.F.slot_list_extend PySem.F.type_list_extend a8F b1E (j o) n h1 i<|by rw[a];decide
 show fK b (λe g=>?_) λb=>?_
 .obtain⟨rfl,a⟩:=ϊ e;cases g;cases args with
  |nil=>cases a|cons e l=>show A7 PySem.F.slot_list_index PySem.F.type_list_index (Ti<|by have:=O.room.units;lia) Tg (j o) n h1 i<|by rw[a];decide
 show fK b (λe g=>?_) λb=>?_
 .obtain⟨rfl,a⟩:=ϊ e;cases g;cases args with
  |cons e l=>cases a|nil=>show Ft PySem.F.slot_list_clear PySem.F.type_list_clear a8D b1D (j o) h1 i
 show fK b (λe g=>?_) λb=>?_
 .obtain⟨rfl,a⟩:=ϊ e;cases g;cases args with
  |cons e l=>cases a|nil=>show Ft PySem.F.slot_list_pop PySem.F.type_list_pop a8E b0z (j o) h1 i
 cases b
def VN(O:ÿ S F k c X)(l:∀e,QE X e (r e))(h1:eE o=a9)(i:(a.endLine==b.line)=a9)(j:QA X args (fD r args) args.length)(h:PZ.lookup (m,args.length)=a0 g):QE X (.Call (.Attribute o m a) args [] b) (oR g (r o)<|fD r args):=by
 show fK h (λe g=>?_) λh=>?_
 .obtain⟨rfl,d⟩:=ϊ e;cases g;cases args with
  |nil=>cases d|cons e n=>show Hc SF PySem.F.type_dict_setdefault (UN<|by have:=O.room.units;lia) UM (l o) j h1 i<|by rw[d];decide
 show fK h (λe g=>?_) λh=>?_
 .obtain⟨rfl,d⟩:=ϊ e;cases g;cases args with
  |nil=>cases d|cons e n=>show Hc RY PySem.F.type_dict_get (UJ<|by have:=O.room.units;lia) UI (l o) j h1 i<|by rw[d];decide
 cases h
def VO(O:ÿ S F k c X)(s:∀e,QE X e (r e))f args b:QE X (.Call f args [] b) (BP S F r c f args b):=by
 unfold BP;split
 .rename_i x p;split
  .rename_i i;rw[í]at i;obtain⟨j,l⟩:=O.gl i.1;have h:=kH s args i.2;split
   .rename_i n N;split
    .rename_i M;obtain⟨Q,R,U,u,d,H,q⟩:=O.fn x n N;subst M;cases args with
     |nil=>show b0r u O.room d H q j l|cons e K=>show b2q u O.room d H q h j l
    .show bR
   .skip;split
    .rename_i a;rw[í]at a;split
     .rename_i g q;obtain⟨v,Y,y,I,z,A,B⟩:=Vs (X:=X) O.calm O.room.units q;cases args with
      |nil=>show absurd a.2 (by simp)|cons e K=>
       rcases I with⟨id,rfl⟩|⟨T,rfl⟩
       .show AW z A (O.no x a.1) y h j B l
       .show b2p z A (O.no x a.1) y h j B l
     .show bR
    .show bR
  .show bR
 .rename_i o m w;split
  .rename_i i;rw[í,í]at i;obtain⟨⟨E,G⟩,L⟩:=i;have h:=kH s args L;split
   .rename_i g d;unfold HF at d;show VN O s E G h d
   split
   .rename_i g d;show VM O s E G h d
   .skip
    .show bR
  .show bR
 .show bR
def VP(O:ÿ S F k c X)(j:∀e,QE X e (r e))f args a:QE X (.Call f args [] a) (BR S F r c f args a):=by
 unfold BR;split
 .rename_i b e h;split
  .rename_i i;rw[í,í,í,í]at i;obtain⟨⟨⟨⟨l,m⟩,q⟩,s⟩,st⟩:=i;have o:=kH j [e] (by rw[Ŕ,st];rfl);show bU h ?_;clear h;intro t n g;obtain⟨p,u,pos,rfl,rfl⟩:=BQ n;split at g
   .rename_i d;cases g;rw[d.1,d.2];show Tx O.calm (O.no _ q) (O.no _ s) o (O.gl l).1 (O.gl m).1
   .cases g
  .show bR
 .show VO O j f args a
def VQ{X:Cx}(s:X.N.Nodup)(e:X.N=c.N)(ks:X.env.scope.names=c.ks)(h:sY c scope xs=a9):ľ X.env.scope X.N scope xs/\xs.Nodup:=by
 unfold sY at h;rw[í,í]at h;obtain⟨⟨h,b⟩,q⟩:=h;have b:=of_decide_eq_true b;have d:∀y∈c.N,xs.contains y=a9->scope.names.lookup (rS y)=none:=λy a hc=>by have:=ul.mp q y a;rw[hc]at this;simpa using this
 simp only[í,ul,decide_eq_true_eq,pC,N4,List.contains_eq_mem,decide_eq_false_iff_not]at h;obtain⟨⟨⟨⟨⟨⟨i,j⟩,l⟩,m⟩,p⟩,n⟩,o⟩:=h;show⟨⟨i,j,λy a g=>(l y a).resolve_left λz=>z g,m,λy a r=>?_,λy a g=>?_,s,by rw[e];show b,by rw[e];show d⟩,p⟩
 .rw[ks];rcases n y a with(z|z)|z
  .show absurd r z
  .show .inl z
  .show .inr z
 .rw[e];have:=(o y a).resolve_left λz=>z g;show this
def u4(O:ÿ S F k c X)(h:sY c scope xs=a9):ľ X.env.scope X.N scope xs/\xs.Nodup:=VQ O.nd O.N O.ks h
def HU{N:List Str}(h:N.Nodup)(d:xs.Nodup)(g:∀x∈xs,x∉N):(N++xs).Nodup:=by rw[Ϯ];show⟨h,d,λa i b j e=>by subst e;show g _ j i⟩
def HV{X:Cx}(Q:ľ X.env.scope X.N scope xs/\xs.Nodup):(bH xs X.N++xs).Nodup:=HU Q.1.hnd Q.2 λx a=>Q.1.own (x,.local) (Ϧ<|Q.1.here x a) rfl
def VR{X:Cx}(a:X.env.scope.kind=.function)(ks:X.env.scope.names=c.ks)scope xs:(M0 scope X.env).names=(uY c scope xs).ks:=by
 unfold M0 uY;dsimp only;show a2x λy _=>?_;obtain⟨n,b⟩:=y;dsimp only;have:(X.env.scope.kind==ScopeKind.function)=true:=by rw[a];rfl
 rw[this,O5];change(if(b==ϰ&&X.env.scope.names.lookup n==a0 Sd)=a9 then _ else _)=_;rw[ks]
def ÿ.comp(O:ÿ S F k c X)(h:sY c scope xs=a9){C:Addr}:ÿ S F k (uY c scope xs) (cZ X scope b C (bH xs X.N++xs) s₀ H₀ d):=
 ⟨show bH xs X.N++xs=bH xs c.N++xs by rw[O.N],HV<|u4 O h,VR O.kind O.ks scope xs,(u4 O h).1.kind,O.calm,O.room,RC,O.fn,O.con,λy a q=>⟨(O.tab y a q).ex⟩,O.no
  ⟩
def HW(j:∀e,QT X e (r e)):∀es,QI X es (HH r es)
 |[]=>b2y|[t]=>b0m<|j t
 |a::b::es=>⟨λg s p H Q I h=>by
   obtain⟨n,o,m,d,l,R,E,i,k⟩:=h;cases i⟩
def B9(O:ÿ S F k c X)(h:qM S c x e=a0 args):∃p pos,e=.Call (.Name x p) args [] pos/\Gl X x/\X.mg x=a7/\args.all dW=true:=by
 show bU h ?_;clear h;intro g d j;show bU j ?_;clear j;intro y i a;by_cases z:y=x/\(glob c x&&S.no.contains x&&g.2.all dW)=a9
 .rw[if_pos z]at a;cases a;have b:=z.2;rw[í,í]at b;obtain⟨pos,d⟩:=HC d;obtain⟨p,i⟩:=uW i;show⟨p,pos,by rw[d,i,z.1],(O.gl b.1.1).1,O.no _ b.1.2,b.2⟩
 .rw[if_neg z]at a;cases a
def HX(O:ÿ S F k c X)(i:∀e,QE X e (r e))e:QJ X e (yR S r c e):=by
 unfold yR;cases h:qM S c "range" e with
 |some m=>
  obtain⟨p,pos,rfl,j,l,g⟩:=B9 O h;match m,g with
  |[],_=>show A2|[a],g=>show b0G j l (kH i [a] g)|[a,b],g=>show b0F j l (kH i [a,b] g)|[a,b,d],g=>show A2|_::_::_::_::_,_=>show A2
 |none=>show b0S<|i e
def VS(O:ÿ S F k c X)(b:∀e,QE X e (r e))e:wj X e (BX S r c e):=by
 unfold BX;cases h:(qM S c "enumerate" e).bind o1 with
 |some a=>show bU h ?_;clear h;intro m d g;obtain rfl:=yN g;obtain⟨p,pos,rfl,i,j,l⟩:=B9 O d;show Tf i j (kH b [a] l)|none=>show(HX O b e).t
def VT(O:ÿ S F k c X)(a:∀e,QE X e (r e))e:wj X e (BY S r c e):=by
 unfold BY;cases h:(qM S c "zip" e).bind o2 with
 |some t=>show bU h ?_;clear h;intro l b d;obtain rfl:=Vn (a:=t.1) (b:=t.2) d;obtain⟨p,pos,rfl,g,i,j⟩:=B9 O b;show Ud g i (kH a [t.1,t.2] j)|none=>show VS O a e
def Ca(O:ÿ S F k c X)(a:∀e,QE X e (r e))tg e:PI X tg e (ψ X.K<|yS S r c tg e):=by
 cases tg with
 |Tuple=>show(VT O a e).h _ _ _|_=>show(HX O a e).h _
def HY(h:iK iter=a9):∀x,vD iter env x=pure x:=by intro z;cases iter<;>first|rfl|cases h
def HZ(b:X.N.Nodup):∀es xs n,es.mapM kX=a0 xs->(∀j x,xs[j]?=a0 x->X.N[n+j]?=a0 x/\X.env.scope.names.lookup x=a0 .local)->wk X es (dw n xs.length)
 |[],xs,n,h,hx=>by cases h;show E4
 |e::es,xs,n,h,hx=>by rw[List.mapM_cons]at h;show bU h ?_;clear h;intro x c h;show bU h ?_;clear h;intro i d h;cases h;obtain⟨p,rfl⟩:=uW c;rw[Ļ,ON];have a:=hx 0 x rfl;show E6 n b (HZ b es i (n+1) d λj z g=>?_) a.1 (.inl a.2)<|.inr a.2;have:=hx (j+1) z g;rw[<- kj,Of]at this;show this
def VU{c:Cs}(Q:ľ X.env.scope X.N scope [x]/\[x].Nodup)a C s₀ H₀ b:PG (cZ X scope a C (bH [x] X.N++[x]) s₀ H₀ b) (.Name x p) (Ŷ X.K<|gB X.N.length rW):=by have e:=HV Q;have d:(M0 scope X.env).names.lookup x=a0 .local:=Qq (Q.1.here x<|by simp);show b0E (X:=cZ X scope a C (bH [x] X.N++[x]) s₀ H₀ b) (by change(bH [x] X.N++[x]).length=_;rw[å,pT];rfl)<|EO (X:=cZ X scope a C (bH [x] X.N++[x]) s₀ H₀ b) e (by change(bH [x] X.N++[x])[X.N.length]?=_;rw[<- pT [x] X.N];simp) (.inl d)<|.inr d
def yT(O:ÿ S F k c X)(a:BZ tg=a0 xs)(h:sY c scope xs=a9)b C s₀ H₀ e:
  PG (cZ X scope b C (bH xs X.N++xs) s₀ H₀ e) tg (Ŷ X.K<|gB X.N.length<|B0 tg xs.length)/\∀d n z,B0 tg xs.length d n=a0 z->z.length=xs.length:=by
 obtain⟨St,i⟩:=u4 O h;have r:(bH xs X.N++xs).Nodup:=HU St.hnd i λx a=>St.own (x,.local) (Ϧ<|St.here x a) rfl;have g:∀x∈xs,(M0 scope X.env).names.lookup x=a0 .local:=λx a=>Qq<|St.here x a;unfold BZ at a;split at a
 .rename_i x p;cases a;show⟨VU (c:=c) ⟨St,i⟩ b C s₀ H₀ e,λd n z m=>?_⟩;cases m;rfl
 .rename_i q v pt;show⟨b1g (X:=cZ X scope b C (bH xs X.N++xs) s₀ H₀ e) (by change(bH xs X.N++xs).length=_;rw[å,pT]) (AZ (X:=cZ X scope b C (bH xs X.N++xs) s₀ H₀ e) (HZ (X:=cZ X scope b C (bH xs X.N++xs) s₀ H₀ e) r q xs X.N.length a λj x o=>⟨?_,g x<|Ğ o⟩) O.calm).h,λd n z m=>?_⟩
  .change(bH xs X.N++xs)[X.N.length+j]?=a0 x;rw[ż<|by rw[pT];lia,pT,show X.N.length+j-X.N.length=j by lia];show o
  .obtain⟨w,u,l⟩:=œ.mp m;split at l
   .rename_i s;cases l;rw[Å];show s
   .cases l
 .cases a
def VW(O:ÿ S F k c X)(m:∀e,QE X e (r e))f args l:QE X (.Call f args [] l) (BW S F r c f args l):=by
 unfold BW;split
 .rename_i q h;split
  .rename_i b;rw[í,í,í,í,í]at b;obtain⟨⟨⟨⟨⟨d,s⟩,i⟩,u⟩,st⟩,n⟩:=b;show bU h ?_;clear h;intro t j a;split at a
   .rename_i g;obtain⟨p,w,pos,rfl,rfl⟩:=BQ j;rw[g.1,g.2,BS a];show UR O.calm O.room.units (O.no _ i) (O.no _ u) (O.gl d).1 (O.gl s).1 (m _) st n
   .cases a
  .show bR
 split
 .rename_i q h;split
  .rename_i b;rw[í,í,í,í,í]at b;obtain⟨⟨⟨⟨⟨d,s⟩,i⟩,u⟩,st⟩,n⟩:=b;show bU h ?_;clear h;intro t j a;split at a
   .rename_i g;obtain⟨p,w,pos,rfl,rfl⟩:=BQ j;rw[g.1,g.2,BS a];show Uw O.calm O.room.units (O.no _ i) (O.no _ u) (O.gl d).1 (O.gl s).1 (m _) st n
   .cases a
  .show bR
 split
 .rename_i q h;split
  .rename_i b;rw[í,í,í]at b;obtain⟨⟨⟨d,i⟩,st⟩,n⟩:=b;show bU h ?_;clear h;intro t j a;split at a
   .rename_i o;obtain⟨p,rfl,rfl⟩:=BV j;rw[o,Vz a];show U6 O.calm (O.no _ i) (O.gl d).1 (m _) st n
   .cases a
  .show bR
 split
 .rename_i q h;split
  .rename_i b;rw[í,í,í]at b;obtain⟨⟨⟨d,i⟩,st⟩,n⟩:=b;show bU h ?_;clear h;intro t j a;split at a
   .rename_i o;obtain⟨p,rfl,rfl⟩:=BV j;rw[o,BS a];show Va O.calm (O.no _ i) (O.gl d).1 (m _) st n
   .cases a
  .show bR
 split
 .rename_i q h;split
  .rename_i b;rw[í,í]at b;obtain⟨⟨d,i⟩,st⟩:=b;show bU h ?_;clear h;intro t j a;split at a
   .rename_i o;obtain⟨p,rfl,rfl⟩:=BV j;cases a;rw[o.1];have v:([t.2]:List Expr).all dW=true:=by rw[Ŕ,List.all_nil,O5];show st
    split
    .show AW (U2 O.calm) Hr (O.no _ i) vm (kH m _ v) (O.gl d).1 (by decide) (O.gl d).2
    .show AW Tn Tj (O.no _ i) vm (kH m _ v) (O.gl d).1 (by decide) (O.gl d).2
   .cases a
  .show bR
 split
 .show bR
 .show bR
 show VP O m _ _ _
def Cb(o:∀c X,ÿ S F k c X->∀e,QE X e (m c e))(p:∀c X,ÿ S F k c X->∀e,QT X e (n c e))c X(O:ÿ S F k c X)elt tg iter ifs scope pos(r:PI X tg iter (ψ X.K l)):QE X (.ListComp elt [⟨tg,iter,ifs,0⟩] scope pos) (oV l m n c elt tg iter ifs scope):=by
 unfold oV;split
 .rename_i w j;split
  .rename_i h;rw[í]at h;show⟨λg s v H Q I q=>?_⟩;show b1b ((u4 O h.1).1.ok I.ok) O.calm r (λd u z=>(yT O j h.1 [] 0 s H []).2 d u z) (λC b a i=>(yT O j h.1 _ C b a i).1) (λC b a i=>(HW (p _ _<|O.comp h.1) _).h) (λC b a i=>(o _ _ (O.comp h.1) _).h) (HY h.2) g s v H Q I q
  .show bR
 .show bR
def VX(a:∀c X,ÿ S F k c X->∀e,QE X e (d c e))(b:∀c X,ÿ S F k c X->∀e,QT X e (g c e))c X(O:ÿ S F k c X)elt tg iter ifs scope pos:QE X (.ListComp elt [⟨tg,iter,ifs,0⟩] scope pos) (B1 S d g c elt tg iter ifs scope):=by
 unfold B1;split
 .show UA (Cb a b c X O elt tg iter ifs scope pos<|(BB<|a c X O iter).h tg) bR
 show Cb a b c X O elt tg iter ifs scope pos<|Ca O (a c X O) tg iter
def VY v n p:QE X (.Constant v n p) (HJ v):=by cases v<;>first|show b2d|show b2c|show b2Z|show b2W|show bR
def VZ{r:Expr->ME}(b:∀e,QE X e (r e))op a p:QE X (.UnaryOp op a p) (HK (r a) op):=by cases op<;>first|show b2O (b _)|show b2N (b _)|show bR
def V0(O:ÿ S F k c X)(d:∀e,QE X e (r e))a ops bs p:QE X (.Compare a ops bs p) (HL S r a ops bs):=by
 match ops,bs with
 |[op],[b]=>show VJ O (d _) (d _) _ _|[op,op'],[b,b']=>
  change QE X _ (match iM op,iM op' with
  |some p,a0 q=>kW (gK p) (gK q) (r a) (r b)<|r b'
  |_,_=>b8)
  cases g:iM op with
  |none=>show bR|some p=>cases h:iM op' with
   |none=>show bR|some q=>show a9T g h (d _) (d _)<|d _
 |[],_=>show bR|[_],[]=>show bR|[_],_::_::_=>show bR|[_,_],[]=>show bR|[_,_],[_]=>show bR|[_,_],_::_::_::_=>show bR|_::_::_::_,_=>show bR
def V1(O:ÿ S F k c X)(a:∀e,QE X e (r e))ks vs p:QE X (.Dict ks vs p) (B2 r ks vs):=by
 unfold B2;try split
 .show TM
 .show Uz O.room (a _)<|a _
 .show bR
def V2(O:ÿ S F k c X)(d:∀e,QE X e (r e))a b p:QE X (.Subscript a b p) (B3 S r c a b):=by
 unfold B3;split
 .show b2r (d _) (u3 d _)<|u3 d _
 .show a9t (d _) (u3 d _) (u3 d _)<|u3 d _
 .split
  .rename_i h
   .show T3 O.room (d _) (d _) h
  .show bR
def nM(a:∀e,QE X e (r e))e:QT X e (uZ r e):=by
 unfold uZ;split
 .rename_i h;show b0s (a _) h
 .show xC
def V3(O:ÿ S F k c X)(d:∀e,QE X e (r e))a ops bs p:QT X (.Compare a ops bs p) (B8 S r a ops bs p):=by
 match ops,bs with
 |[op],[b]=>show VL O (d _) (d _) _ _|[op,op'],[b,b']=>
  unfold B8;dsimp only;cases g:iM op with
  |none=>show xC|some p=>cases h:iM op' with
   |none=>show xC|some q=>show a9S g h (d _) (d _)<|d _
 |[],_=>show nM d _|[_],[]=>show nM d _|[_],_::_::_=>show nM d _|[_,_],[]=>show nM d _|[_,_],[_]=>show nM d _|[_,_],_::_::_::_=>show nM d _|_::_::_::_,_=>show nM d _
def V4(a:∀e,QE X e (r e))es n p:QE X (.Tuple es n p) (B4 r es):=by
 unfold B4;split
 .rename_i h;show b2w<|kH a _ h
 .show bR
def V5(a:∀e,QE X e (r e))es p:QE X (.List es p) (B5 r es):=by
 unfold B5;split
 .rename_i h;show b2v<|kH a _ h
 .show bR
def V6(O:ÿ S F k c X)(b:∀e,QE X e (r e))f args d a g p:QE X (.Call f args [⟨a0 d,a,g⟩] p) (B6 S r c f args d a):=by
 unfold B6;cases f with
 |Name x i=>
  dsimp only;split
  .split
   .rename_i h;obtain⟨rfl,rfl,h⟩:=h;rw[í,í]at h;show Vl O.calm (O.gl h.1.1).1 (O.no _ h.1.2) (b _) (b _) h.2
   .show bR
  .show bR
 |_=>show bR
def V7(O:ÿ S F k c X)(b:∀e,QE X e (r e))f args a p:QE X (.Call f args a p) (B7 S F r c f args p a):=by
 unfold B7;split
 .show VW O b _ _ _
 .show V6 O b _ _ _ _ _ _
 .show bR
def Ia(z:∀c X,ÿ S F k c X->∀e,QE X e (m c e))(A:∀c X,ÿ S F k c X->∀e,QT X e (o c e))c X(O:ÿ S F k c X):
  (∀e,QE X e (HN S F m o c e))/\∀e,QT X e (HP S m o c e):=by
 have d:=z c X O;have s:=A c X O;constructor
 .intro e;cases e with
  |Name x p=>show VH O _ _|Constant v n p=>show VY v n p|BinOp a i b p=>show VI (d _) (d _) _ _|UnaryOp i a p=>show VZ d i a p|Compare a g bs p=>show V0 O d a g bs p|BoolOp i w p=>show HQ d _ _ _|IfExp t a b p=>show b1n (s _) (d _) (d _)|Tuple r n p=>show V4 d r n p|List r p=>show V5 d r p|Dict B w p=>show V1 O d B w p|Subscript a b p=>show V2 O d a b p|Call f j u l=>show V7 O d f j u l|ListComp q y h p=>
   change QE X _ (HM S m o c q h y);match y with
   |[]=>show bR|[⟨_,_,_,.ofNat 0⟩]=>show VX z A c X O _ _ _ _ _ _|[⟨_,_,_,.ofNat<|_+1⟩]=>show bR|[⟨_,_,_,.negSucc _⟩]=>show bR|⟨_,_,_,.ofNat 0⟩::_::_=>show bR|⟨_,_,_,.ofNat<|_+1⟩::_::_=>show bR|⟨_,_,_,.negSucc _⟩::_::_=>show bR
  |_=>show bR
 .intro e;cases e with
  |BoolOp i w p=>show b2z (HR s _ _ _)|UnaryOp i a p=>
   cases i;case Not=>show b3G<|s _
   all_goals show nM d _
  |Compare a g bs p=>show V3 O d a g bs p|_=>show nM d _
def Cd:∀n,(∀c X,ÿ S F k c X->∀e,QE X e ((tr S F n).1 c e))/\∀c X,ÿ S F k c X->∀e,QT X e ((tr S F n).2 c e)
 |0=>⟨λc X O e=>bR,λc X O e=>xC⟩|n+1=>by have a:=Cd (S:=S) (F:=F) (k:=k) n;show⟨λc X O e=>(Ia a.1 a.2 c X O).1 e,λc X O e=>(Ia a.1 a.2 c X O).2 e⟩
abbrev yU:MG:=λ_ _ _=>a7
abbrev u6(c:Cs):List Expr->Option (List Nat)
 |[]=>a0 []|.Name x _::r=>if oT c x then(oS x c.N).bind λi=>(u6 c r).map (i::·)else a7|_=>a7
abbrev qN(c:Cs):Expr->MG
 |.Name x _=>if oT c x then(match oS x c.N with|some i=>bS i|none=>yU)else yU|.Tuple es _ _=>match u6 c es with|some a=>c8 a|none=>yU
 |_=>yU
abbrev kY(r:Stmt->MS):List Stmt->MS
 |[]=>bV|[s]=>r s|s::t=>aE (r s)<|kY r t
abbrev Ce(S:ģ)(E:Cs->Expr->ME)(T:Cs->Expr->MT)(c:Cs)(i:Nat):Expr->MS
 |.ListComp elt [⟨tg,iter,ifs,0⟩] scope _=>match yO S c tg iter with
  |some j=>gT j (aP i<|oV (fR<|E c iter) E T c elt tg iter ifs scope) c5|none=>aP i<|oV (yS S (E c) c tg iter) E T c elt tg iter ifs scope
 |_=>c5
abbrev Cf(S:ģ)(E:Cs->Expr->ME)(T:Cs->Expr->MT)(c:Cs)(tg e:Expr):MS:=match tg with
 |.Name y _=>if oT c y then(match oS y c.N with
   |some i=>if mX e then aP i (E c e)else Ce S E T c i e
   |none=>c5)else c5
 |.Tuple es _ _=>if A1 e then(match u6 c es with|some a=>gM (E c e) (c8 a)|none=>c5)
   else c5
 |.Subscript o i _=>if mX e&&rY i then cQ (E c o) (E c i) (E c e)else c5|_=>c5
abbrev nN:Nat:=1000000000
abbrev Cg(S:ģ)(c:Cs)(tg:Expr):Expr->Option (Nat×Expr×è×è)
 |.Call g [] [] cpos=>match g with
  |.Attribute o m apos=>if m="values" then(yO S c tg o).map λj=>(j,o,apos,cpos)else a7|_=>a7
 |_=>a7
def V8(h:Cg S c tg e=a0 q):e=.Call (.Attribute q.2.1 "values" q.2.2.1) [] [] q.2.2.2:=by
 unfold Cg at h;split at h
 .split at h
  .split at h
   .rename_i a;obtain⟨j,_,rfl⟩:=Ō.mp h;rw[a]
   .cases h
  .cases h
 .cases h
abbrev Ci:Expr->Option (Expr×è×è)
 |.Call g [] [] cpos=>match g with
  |.Attribute o m apos=>if m="values" then a0 (o,apos,cpos)else a7|_=>a7
 |_=>a7
def V9(h:Ci e=a0 q):e=.Call (.Attribute q.1 "values" q.2.1) [] [] q.2.2:=by
 unfold Ci at h;split at h
 .split at h
  .split at h
   .rename_i a;cases h;rw[a]
   .cases h
  .cases h
 .cases h
abbrev Cj(tg:Expr):Expr->Option (Expr×è×è)
 |.Call g [] [] cpos=>match g with
  |.Attribute o m apos=>match tg with
   |.Tuple ..=>if m="items" then a0 (o,apos,cpos)else a7|_=>a7
  |_=>a7
 |_=>a7
def Wa(h:Cj tg e=a0 q):e=.Call (.Attribute q.1 "items" q.2.1) [] [] q.2.2/\∃es b p,tg=.Tuple es b p:=by
 unfold Cj at h;split at h
 .split at h
  .split at h
   .split at h
    .rename_i a;cases h;rw[a];show⟨rfl,_,_,_,rfl⟩
    .cases h
   .cases h
  .cases h
 .cases h
abbrev Ib(S:ģ)(E:Cs->Expr->ME)(T:Cs->Expr->MT)(c:Cs)(r:Stmt->MS):Stmt->MS
 |.Return (a0 e) _=>aR (E c e)|.Return a7 _=>aR (mC .non)|.If t a b _=>bK (T c t) (kY r a) (kY r b)|.Assign [tg] e _=>Cf S E T c tg e|.Expr e _=>if mX e then cY (E c e)else c5|.For tg iter body [] _=>if iK iter then
  (match Cj tg iter with
  |some q=>if eE q.1&&(q.2.1.endLine==q.2.2.line)then bO (uT<|E c q.1) (qN c tg) (kY r body)else c5|none=>
  (match Cg S c tg iter with
  |some q=>if eE q.2.1&&(q.2.2.1.endLine==q.2.2.2.line)then gT q.1 (bO (Hn<|E c q.2.1) (qN c tg)<|kY r body) c5 else c5|none=>
  (match Ci iter with
  |some q=>if eE q.1&&(q.2.1.endLine==q.2.2.line)then bO (uU<|E c q.1) (qN c tg) (kY r body)else c5|none=>
  (match yO S c tg iter with
  |some j=>gT j (bO (fR<|E c iter) (qN c tg)<|kY r body) c5
  |none=>bO (yS S (E c) c tg iter) (qN c tg)<|kY r body)
  )
  )
  )
  else c5
 |.While t body [] _=>mY nN (T c t) (kY r body)|.Pass _=>bV|_=>c5
abbrev Ck(S:ģ)(F:Str->MF)(m:Nat)(c:Cs):Nat->Stmt->MS
 |0=>λ_=>c5|n+1=>Ib S (tr S F m).1 (tr S F m).2 c<|Ck S F m c n
def Wb{X:Cx}(ks:X.env.scope.names=c.ks)(h:oT c x=a9):L2.Loc X.env.scope x:=by unfold oT at h;rw[pC]at h;unfold L2.Loc;rw[ks];show h.imp of_decide_eq_true of_decide_eq_true
def ÿ.own(O:ÿ S F k c X)(h:oT c x=a9):L2.Loc X.env.scope x:=Wb O.ks h
def Cm(O:ÿ S F k c X)(b:∀x,X.fn x=a9):∀es a,u6 c es=a0 a->wk X es a
 |[],a,h=>by cases h;show E4
 |e::es,a,h=>by
  cases e with
  |Name x p=>
   unfold u6 at h;split at h
   .rename_i j;show bU h ?_;clear h;intro i d h;show bY h ?_;clear h;intro l g h;subst h;show E6 i O.nd (Cm O b es l g) (by rw[O.N];show uV d) (O.own j)<|.inl<|b x
   .cases h
  |_=>cases h
def u7(O:ÿ S F k c X)(b:∀x,X.fn x=a9)e:QG X e (qN c e):=by
 unfold qN;split
 .split
  .rename_i d;split
   .rename_i i a;show b0X i O.nd (by rw[O.N];show uV a) (O.own d)<|.inl<|b _
   .show xD λ_ _ _=>rfl
  .show xD λ_ _ _=>rfl
 .split
  .rename_i g a;show AZ (Cm O b _ g a) O.calm
  .show xD λ_ _ _=>rfl
 .show xD λ_ _ _=>rfl
def mH(a:∀s,QS X s (r s)):∀b,QB X b (kY r b)
 |[]=>b0l|[s]=>b0i (a s)|s::t::ts=>b0k (a s)<|mH a<|t::ts
def Wc{pos:è}:
  ∃b,dm (.ListComp elt [⟨tg,iter,ifs,0⟩] scope pos) (a0<|.Name y py) n env=pure b/\(b=a9->env.kindOf y=a0 .local):=by
 show⟨env.blockKind==.function&&env.kindOf y==a0 .local&&py.line==pos.line&&!(scope.names.any λ(n,k)=>n==y&&(k==.local||k==.cell)),rfl,λh=>?_⟩;simp only[í,beq_iff_eq]at h;show h.1.1.2
def Ic(O:ÿ S F k c X)(B:∀x,X.fn x=a9)(r:∀c X,ÿ S F k c X->∀e,QE X e (E c e))(u:∀c X,ÿ S F k c X->∀e,QT X e (T c e))(v:X.N[i]?=a0 y)(G:oT c y=a9)elt tg iter ifs scope pos(m:PI X tg iter (ψ X.K A)):QS X (.Assign [.Name y py] (.ListComp elt [⟨tg,iter,ifs,0⟩] scope pos) j) (aP i<|oV A E T c elt tg iter ifs scope):=by
  obtain⟨b,l,p⟩:=Wc (elt:=elt) (tg:=tg) (iter:=iter) (ifs:=ifs) (scope:=scope) (pos:=pos) (py:=py) (y:=y) (n:=j.line) (env:=X.env);cases b with
  |false=>show⟨Ez O.nd v (O.own G) (Cb r u c X O elt tg iter ifs scope pos m).h l<|.inl<|B y⟩|true=>
   unfold oV;split
   .rename_i M w;split
    .rename_i h;rw[í]at h;show⟨λn s L H D I q=>?_⟩;show b1a ((u4 O h.1).1.ok I.ok) O.nd O.calm m (λd K z=>(yT O w h.1 [] 0 s H []).2 d K z) (λC g a o=>(yT O w h.1 _ C g a o).1) (λC g a o=>(HW (u _ _<|O.comp h.1) _).h) (λC g a o=>(r _ _ (O.comp h.1) _).h) (HY h.2) v (p rfl) l n s L H D I q
    .show Gn
   .show Gn
def We(O:ÿ S F k c X)(g:∀x,X.fn x=a9)(b:∀c X,ÿ S F k c X->∀e,QE X e (E c e))(d:∀c X,ÿ S F k c X->∀e,QT X e (T c e))(h:X.N[i]?=a0 y)(j:oT c y=a9)e:QS X (.Assign [.Name y py] e a) (Ce S E T c i e):=by
 unfold Ce;split
 .split
  .show Bz (Ic O g b d h j _ _ _ _ _ _<|(BB<|b c X O _).h _) eD
  .show Ic O g b d h j _ _ _ _ _ _<|Ca O (b c X O) _ _
 .show eD
def Wg(O:ÿ S F k c X)(d:∀x,X.fn x=a9)(b:∀c X,ÿ S F k c X->∀e,QE X e (E c e))(m:∀c X,ÿ S F k c X->∀e,QT X e (T c e))tg e pos:
  QS X (.Assign [tg] e pos) (Cf S E T c tg e):=by
 unfold Cf;split
 .split
  .rename_i l;split
   .rename_i i g;have a:=uV g;rw[<- O.N]at a;split
    .rename_i j;show b0Y i O.nd (b c X O e) j a (O.own l)<|.inl<|d _
    .show We O d b m a l e
   .show eD
  .show eD
 .split
  .rename_i j;split
   .rename_i n g;show b0U (b c X O e) (AZ (Cm O d _ n g) O.calm) j
   .show eD
  .show eD
 .split
  .rename_i h;rw[í]at h;show T8 O.room (b c X O _) (b c X O _) (b c X O _) h.1
  .show eD
 .show eD
def Wh(O:ÿ S F k c X)(l:∀x,X.fn x=a9)(i:∀c X,ÿ S F k c X->∀e,QE X e (E c e))(v:∀c X,ÿ S F k c X->∀e,QT X e (T c e))(j:∀s,QS X s (r s))st:
  QS X st (Ib S E T c r st):=by
 cases st with
 |Return o p=>
  cases o with
  |none=>show b1j|some e=>show b0g<|i c X O _
 |If t a b p=>show b0Z (v c X O _) (mH j _) (mH j _)|Assign w e p=>
  cases w with
  |nil=>show eD|cons B G=>
   cases G with
   |nil=>show Wg O l i v _ _ _|cons _ _=>show eD
 |Expr e p=>
  change QS X _ (if mX e then cY (E c e)else c5);split
  .rename_i h;show b0d (i c X O _) h
  .show eD
 |For B u m d p=>
  cases d with
  |cons _ _=>show eD|nil=>
   change QS X _ (if iK u then _ else c5);split
   .rename_i h;split
    .rename_i q n;split
     .rename_i g;rw[í]at g;obtain⟨e,z,A,pt,y⟩:=Wa n;rw[e]at h ⊢;subst y;show uH ((Ve (i c X O _) g.1 g.2).h z A pt) (u7 O l _) (mH j _) O.never O.calm h
     .show eD
    split
    .rename_i q n;split
     .rename_i g;rw[í]at g;have e:=V8 n;rw[e]at h ⊢;show Bz (uH ((UW (i c X O _) g.1 g.2).h _) (u7 O l _) (mH j _) O.never O.calm h) eD
     .show eD
    split
    .rename_i q n;split
     .rename_i g;rw[í]at g;have e:=V9 n;rw[e]at h ⊢;show uH ((Vf (i c X O _) g.1 g.2).h _) (u7 O l _) (mH j _) O.never O.calm h
     .show eD
    split
    .show Bz (uH ((BB<|i c X O _).h _) (u7 O l _) (mH j _) O.never O.calm h) eD
    show uH (Ca O (i c X O) _ _) (u7 O l _) (mH j _) O.never O.calm h
   .show eD
 |While t m d p=>
  cases d with
  |nil=>show b0p _ (v c X O _) (mH j _) O.never|cons _ _=>show eD
 |Pass p=>show b0h|_=>show eD
def Ie(O:ÿ S F k c X)(a:∀x,X.fn x=a9)m:∀n st,QS X st (Ck S F m c n st)
 |0,_=>eD|n+1,st=>Wh O a (Cd m).1 (Cd m).2 (Ie O a m n) st
abbrev d9(st:Stmt):List Str:=(jY st).args.map (·.arg)
abbrev oW(st:Stmt):List Str:=d9 st++(cW st).names.filterMap λy=>if(y.2==NameKind.local||y.2==Sd)&&!(d9 st).contains y.1 then a0 y.1 else a7
abbrev oX(st:Stmt):Bool:=
 decide ((cW st).kind=.function)&&!(cW st).isCoroutine&&!(cW st).isGenerator&&decide (oW st).Nodup &&
 ((d9 st).all λx=>decide ((cW st).names.lookup x=a0 .local)||decide ((cW st).names.lookup x=a0 .cell))&&((cW st).names.all λy=>decide<|y.2≠.free)
def Wi(h:oX st=a9):ī (oW st) (d9 st) (cW st):=by unfold oX at h;simp only[í,decide_eq_true_eq,N4,ul,pC]at h;obtain⟨⟨⟨⟨⟨a,b⟩,c⟩,d⟩,e⟩,g⟩:=h;show⟨a,b,c,d,by unfold oW;simp,e,g⟩
abbrev Ig:Nat:=40
abbrev Ih:Nat:=40
noncomputable abbrev lk(_:ģ)(ds:List (Str×Stmt))(x:Str):Option Stmt:=ds.lookup x
abbrev Cn(S:ģ)(F:Str->MF)(st:Stmt):MF:=AD (oW st).length<|kY (Ck S F Ig ⟨oW st,(cW st).names⟩ Ih)<|gG st
abbrev kZ(S:ģ)(ds:List (Str×Stmt)):Nat->Str->MF
 |0,_=>λ_ _=>a7|k+1,x=>match lk S ds x with
  |none=>λ_ _=>a7|some st=>Cn S (kZ S ds k) st
structure δ(K:Ö)(mg:Str->Option Value)(x:Str)(st:Stmt):Prop where
 ex:∃f fd,ϓ K x x st f fd/\mg x=a0 (.ref f)/\Ħ K fd (d9 st) []
structure Ţ(P:ł)(w:Į)(K:Ö)(mg:Str->Option Value)(S:ģ)(ds:List (Str×Stmt)):Prop where
 fns:∀x n,S.fn.lookup x=a0 n->∃st,ds.lookup x=a0 st/\(d9 st).length=n
 defs:∀x st,ds.lookup x=a0 st->δ K mg x st/\oX st=a9
 con:∀x d,S.con.lookup x=a0 d->∃v u,mg x=a0 u/\Ì v u/\∀π n H,Ý K π n H v d
 tab:∀x kvs,S.tab.lookup x=a0 kvs->∃(p:Addr)(vs:List (cN×V))(ws:List (cN×Value)),mg x=a0 (.ref p)/\(p==ř)=a8/\(∀h:Č,K.In h->h.DictOf (tS P w) p ws)/\KV vs ws/\∀π n H,ϩ K π n H vs kvs
 no:∀x,S.no.contains x=a9->mg x=a7
def Ii(h:ds.lookup x=a0 st):lk S ds x=a0 st:=by unfold lk;rw[h]
def Ţ.sc(T:Ţ P w K mg S ds)(h:lk S ds x=a0 st):oX st=true:=(T.defs _ _ h).2
def Wj(T:Ţ P w K mg S ds)k:∀x st B q f j,lk S ds x=a0 st->ϓ K B q st f j->
  ļ P w K mg base iI k f j (d9 st) (kR K (d9 st).length<|kZ S ds k x):=by
 induction k using Nat.strongRecOn with
 |_ k l=>
 intro x st B q f j v M;cases k with
 |zero=>show⟨λvs H Q E h=>h.1,λA outer s H p us vs Q E z he hb hv U=>by
   obtain⟨_,π,I,μ,d,μ',R,i,N,kc⟩:=U;cases N⟩
 |succ k=>
  have Y:=l k<|Ψ k;have e:kZ S ds (k+1) x=Cn S (kZ S ds k) st:=by change(match lk S ds x with|none=>_|some st=>Cn S (kZ S ds k) st)=_;rw[v]
  rw[e];have c:=Wi<|T.sc v;show b0T M c (by unfold oW;simp) rfl λg A outer s H E z=>?_;have O:ÿ S (kZ S ds k) k ⟨oW st,(cW st).names⟩ (mS iI P w K mg base (oW st) q (cW st) f g A outer s H E).nox:=by
   show⟨rfl,c.nd,rfl,c.kind,rfl,z,RC,λy n X=>?_,T.con,λy m q=>⟨T.tab y m q⟩,T.no
    ⟩
   .obtain⟨a,u,L⟩:=T.fns y n X;obtain⟨r,b,o,Z,G⟩:=(T.defs y a u).1.ex;subst L;show⟨r,b,d9 a,Y y a _ _ r b (Ii u) o,Z,o.kp,G⟩
  show mH (Ie O (λ_=>rfl) Ig Ih)<|gG st
def Wl(T:Ţ P w K mg S ds)k x st f a(c:ds.lookup x=a0 st)(b:ϓ K x x st f a):
  ļ P w K mg base iI k f a (d9 st) (kR K (d9 st).length<|kZ S ds k x):=Wj T k x st x x f a (Ii c) b
def Ij:∀{ns:List Int}{b},P1 (ns.map uo)<=b->∀n∈ns,ű n<=b
 |[],_,_,n,a=>nomatch a|m::ns,b,h,n,a=>by
  have e:P1 ((m::ns).map uo)=S7 (.int m)+1+P1 (ns.map uo):=rfl;have c:S7 (.int m)=ű m:=rfl;rw[e,c]at h;rcases ċ.mp a with rfl|a
  .lia
  .show Ij (b:=b) ⋯ n a
section
open PySem PySem.W PySem.Calls PyProof.Rows
def Wm{l:RT}(U:l.most=a0 n)(x:d.params.defaults=[])(call:∀w s₀ b mg A g o B p c a(vs:gq)ns,
   Ground q loose [] XP w s₀ mg A b.heap->YP w b.heap->
   b.heap.get? g=a0 o->o.data=.func (docDef d.name d.params d.body d.scope B p c)->b.heap.CodeRec p d.name->mg d.name=a0 (.ref g)->
   b.heap.get? a=a0 {cls:=.type "list",data:=.seq vs.toArray}->ŭ vs ns->ns.length<=n->(∀m∈ns,ű m<=2^20)->b.gens=#[]->
   Ρ (É l.prog w) jn (.call (.ref g) ⟨[.ref a],[]⟩) (λr s=>r=.ok (.ret<|.bool a9)/\OldK b.heap s.heap/\s.os=b.os/\dg s.gens) b):
  QV q loose XP YP l.row.toRowW d [] (λf vs=>Q7 f vs):=by
 intro w s₀ b mg A G Y g o B p c K kV X hd v H y Q E I as k h hrd z R;obtain rfl:K=.none:=Dflts.none H x;obtain rfl:kV=.none:=Dflts.noKw H;obtain⟨a,vs,ns,rfl,rfl,j,e,i⟩:=Att.script_of U k z;have O:∀m∈ns,ű m<=2^20:=by
  have u:SD (.list<|ns.map uo)=true:=by have:=h;unfold b3B at this;simpa using this
  unfold SD at u;rw[í]at u;show Ij<|of_decide_eq_true u.2
 show enter_call<|MW (call w s₀ b mg A g o B p c a vs ns G Y X (fd_plain hd) v y j e i O Q) λr s Z=>?_;obtain⟨rfl,L,M,N⟩:=Z;show⟨.inl ⟨.bool a9,.bool a9,[],rfl,λ_=>rfl,.bool a9,Att.post_true l _,λ_=>⟨Od,λ_ T=>(nomatch T)⟩⟩,L,M,N⟩
end
def walkM{l:RT}{K:ξ->Ö}(hn:l.most=a0 63)(L:d.params.defaults=[])(hr:ç k jn)(hY:∀w h,YP w h->(K w.params).In h)(hl:ds.lookup d.name=a0 st)(hx:d9 st=[x])(T:∀w mg h,(K w.params).In h->h.Ns Ũ mg->Ţ l.prog w (K w.params) mg S ds/\∃f E,ϓ (K w.params) d.name d.name st f E/\mg d.name=a0 (.ref f)/\∀s u,jm s E ⟨[u],[]⟩ [(x,u)])(M:∀b:List Int,b.length<=63->(∀m∈b,ű m<=2^20)->∃p,kZ S ds k d.name [.rol<|b.map D.int] []=a0 (.bl a9,p)):
  QV q loose XP YP l.row.toRowW d [] (λf vs=>Q7 f vs):=by
 show Wm hn L λw X Z mg mb fa o pm cd doc a vs b G Y ho hd hcd O A g c I hg=>?_;have R:=hY w _ Y;obtain⟨hT,f,E,hF,U,hb⟩:=T w mg _ R G.T.g;rw[O]at U;cases U;show L2.law_call (CX:=iI) (sp:=kR (K w.params) 1 (kZ S ds k d.name)) R G.T.g G.T.b G.T.builtins G.T.nolimit hg A g (Đ c<|by decide) hr (λy hb1 hb2=>?_) hb (λH hO hS=>?_) λH e s' z=>z
 .have:=Wl (base:=y) hT k d.name st fa E hl hF;rw[hx]at this;show this
 .obtain⟨p,hM⟩:=M b c I;have Q:Ϻ (K w.params) H a (b.map V.int):=by
   rcases hS with(h|h)|h
   .rcases hO a with z|⟨o,B,z⟩
    .rw[z]at h;cases h
    .rw[z]at h;cases h
   .show .inl h
   .show .inr h
  show⟨rfl,λ_=>0,[.rol<|b.map D.int],[],.bl a9,p,⟨λi j N=>absurd N<|Mf _,λi N=>absurd N<|Mf _,λi B h=>(by cases h),λi B h=>(by cases h),λi B h=>(by cases h)
   ,λi B h=>(by cases h)
   ,λi B h=>(by cases h)
   ⟩,.cons (.rol Q ?_) .nil,hM,λπ' v H' _ _ hv=>?_⟩
  .have:∀b:List Int,Æ (K w.params) (λ_=>0) ([]:Hm).length H (b.map V.int) (b.map D.int):=λb=>by
    induction b with
    |nil=>show .nil|cons n r ih=>show .cons (.int n) ih
   show this b
  .cases hv;rfl
end L3
namespace L3
open PySem L2
def yV{a:Type}:∀{l:List (Str×a)}{x}{b},l.lookup x=a0 b->(x,b)∈l:=λh=>Ϧ h
def Wn{S:ģ}{ds:List (Str×Stmt)}(h:(S.fn.all λp=>match ds.lookup p.1 with|some st=>decide ((d9 st).length=p.2)|none=>a8)=a9):∀x n,S.fn.lookup x=a0 n->∃st,ds.lookup x=a0 st/\(d9 st).length=n:=by
 intro x n e;have:=ul.mp h (x,n)<|yV e;dsimp only at this;split at this
 .rename_i st a;show⟨st,a,of_decide_eq_true this⟩
 .cases this
def Wo{ds:List (Str×Stmt)}(h:∀p∈ds,δ K mg p.1 p.2/\oX p.2=a9):∀x st,ds.lookup x=a0 st->δ K mg x st/\oX st=true:=λx st e=>h (x,st)<|yV e
def Wq{mg:Str->Option Value}{a:List (Str×D)}(h:∀p∈a,∃v u,mg p.1=a0 u/\Ì v u/\∀π n H,Ý K π n H v p.2):∀x d,a.lookup x=a0 d->∃v u,mg x=a0 u/\Ì v u/\∀π n H,Ý K π n H v d:=λx d e=>h (x,d)<|yV e
inductive Λ (w:Į):List DictEntry->List (cN×Value)->Prop where
 |nil:Λ w [] []
 |cons {e:DictEntry}{k:cN}{v:Value}{es:List DictEntry}{kvs:List (cN×Value)}(h:z9 k e.key=a9)(hh:e.hash=Dx w k)(hv:e.val=v)(t:Λ w es kvs):Λ w (e::es)<|(k,v)::kvs
def Wr{mg:Str->Option Value}{ns:List Str}(h:∀x∈ns,mg x=a7):∀x,ns.contains x=a9->mg x=none:=λx e=>h x<|by simpa using e
abbrev yW:Nat->(Nat->Value)->gq
 |0,_=>[]|n+1,u=>u 0::yW n λi=>u<|i+1
def Ik:∀us,∃u,us=yW us.length u
 |[]=>⟨λ_=>.none,rfl⟩|v::us=>let⟨u,a⟩:=Ik us;⟨λi=>match i with|0=>v|i+1=>u i,congrArg (v::·) a⟩
noncomputable abbrev Il:Type:=Value->Value->Value->Option Addr->Value->Value->(Nat->Value)->ĵ (List<|Str×Value)
abbrev Ws(x:Str)(st:Stmt)(m:Value)(c:Addr):Obj:=⟨ü "function",a7,.func<|ν x x (jY st) (gG st) (cW st) .none .none .none m a7 (.ref c) .none,#[]⟩
abbrev Im(K:Ö)(d:(Str×Stmt)×Value×Addr×Addr):Option (Option Value)×Option Obj×Bool×Bool×Bool×Il:=(yr K Ũ d.1.1,K.lookup d.2.2.2,Mu K (.ref d.2.2.1) d.1.1,Ϟ K<|.ref d.2.2.2,oX d.1.2,λkV b c an a ct u=>M5 (ν d.1.1 d.1.1 (jY d.1.2) (gG d.1.2) (cW d.1.2) .none kV b c an a ct) ⟨yW (d9 d.1.2).length u,[]⟩)
abbrev Io(d:(Str×Stmt)×Value×Addr×Addr):Option (Option Value)×Option Obj×Bool×Bool×Bool×Il:=(a0<|a0<|.ref d.2.2.2,a0<|Ws d.1.1 d.1.2 d.2.1 d.2.2.1,a9,a9,a9,λ_ _ _ _ _ _ u=>pure<|(d9 d.1.2).zip<|yW (d9 d.1.2).length u)
abbrev yX(K:Ö)(d:Str×Stmt):(Str×Stmt)×Value×Addr×Addr:=(d,match yr K Ũ d.1 with
 |some (a0<|.ref f)=>(match K.lookup f with
  |some ⟨_,_,.func fd,_⟩=>(match fd.code with
   |.ref c=>(fd.pyModule,c,f)
   |_=>(.none,0,0))
  |_=>(.none,0,0))
 |_=>(.none,0,0))
abbrev yY(K:Ö)(ds:List (Str×Stmt)):Prop:=ds.map (λd=>Im K<|yX K d)=ds.map λd=>Io<|yX K d
def Ip(X:K.In h)(G:h.Ns Ũ mg)(q:yY K ds):∀p∈ds,(δ K mg p.1 p.2/\oX p.2=a9)/\∃f i,ϓ K p.1 p.1 p.2 f i/\mg p.1=a0 (.ref f)/\∀us:gq,us.length=(d9 p.2).length->M5 i ⟨us,[]⟩=pure ((d9 p.2).zip us):=by
 intro g o;have t:=Qb.mp q g o;have e:(yX K g).1=g:=rfl;generalize yX K g=d at t e;obtain⟨p,m,c,f⟩:=d;cases e;unfold Im Io at t;obtain⟨a,t⟩:=ϊ t;obtain⟨l,t⟩:=ϊ t;obtain⟨c,t⟩:=ϊ t;obtain⟨k,t⟩:=ϊ t;obtain⟨s,b⟩:=ϊ t;have F:=a8A (st:=p.2) l c k;have D:=λkV doc pm an cdv ct (us:gq)(n:us.length=(d9 p.2).length)=>(by
  obtain⟨u,j⟩:=Ik us;rw[n]at j;rw[j];show congrFun (congrFun (congrFun (congrFun (congrFun (congrFun (congrFun b kV) doc) pm) an) cdv) ct) u:M5 (ν p.1 p.1 (jY p.2) (gG p.2) (cW p.2) .none kV doc pm an cdv ct) ⟨us,[]⟩=pure ((d9 p.2).zip us))
 show⟨⟨⟨_,_,F,OU X G a,Ħ.all<|D _ _ _ _ _ _⟩,s⟩,_,_,F,OU X G a,D _ _ _ _ _ _⟩
def Wt(X:K.In h)(G:h.Ns Ũ mg)(q:yY K ds)(c:ds.lookup x=a0 st)(d:d9 st=[y]):∃f a,ϓ K x x st f a/\mg x=a0 (.ref f)/\∀s u,jm s a ⟨[u],[]⟩ [(y,u)]:=by obtain⟨f,a,F,m,b⟩:=(Ip X G q (x,st)<|yV c).2;dsimp only at b;rw[d]at b;show⟨f,a,F,m,λs u=>.of_eq<|b [u] rfl⟩
def Wu(X:K.In h)(G:h.Ns Ũ mg){ns:List Str}(q:ns.map (yr K Ũ)=ns.map λ_=>a0 a7):∀x∈ns,mg x=none:=λx a=>PySem.W.mg_none_of X G<|Qb.mp q x a
abbrev u9{c d:Type}(f:c->d->Bool):List c->List d->Bool
 |[],[]=>a9|a::as,b::bs=>f a b&&u9 f as bs|_,_=>a8
abbrev vA(K:Ö):Nat->Value->D->Bool
 |0,_,_=>a8|k+1,u,d=>match d with
  |.non=>(match u with|.none=>a9|_=>a8)|.bl b=>(match u with|.bool c=>decide (b=c)|_=>a8)|.int i=>(match u with|.int j _=>decide (i=j)|_=>a8)|.str x=>(match u with|.str y _=>decide (x=y)|_=>a8)
  |.tup ds=>(match u with
   |.ref p=>(match K.lookup p with
    |some ⟨.type t,a7,.seq its _,_⟩=>decide (t="tuple")&&decide (its.size<=1000)&&u9 (vA K k) its.toList ds
    |_=>a8)
   |_=>a8)
  |.rol ds=>(match u with
   |.ref p=>(match K.lookup p with
    |some ⟨.type t,a7,.seq its _,_⟩=>decide (t="list")&&decide (its.size<=1000)&&u9 (vA K k) its.toList ds
    |_=>a8)
   |_=>a8)
  |_=>a8
def Iq(h:∀u d,f u d=a9->∃v,Ì v u/\∀π n H,Ý K π n H v d):∀us ds,u9 f us ds=a9->∃vs,Ä vs us/\∀π n H,Æ K π n H vs ds
 |[],[],_=>⟨[],.nil,λ_ _ _=>.nil⟩|u::us,d::ds,e=>by obtain⟨a,b⟩:=zr.mp e;obtain⟨v,r,q⟩:=h u d a;obtain⟨vs,rs,c⟩:=Iq h us ds b;show⟨v::vs,.cons r rs,λ_ _ _=>.cons (q _ _ _)<|c _ _ _⟩
 |[],_::_,e=>nomatch e|_::_,[],e=>nomatch e
def Ir:∀k u d,vA K k u d=a9->∃v,Ì v u/\∀π n H,Ý K π n H v d
 |0,_,_,e=>nomatch e|k+1,u,d,e=>by
  have seq:∀{p:Addr}{ds:List D}{c:String},(match K.lookup p with|some ⟨.type t,a7,.seq g _,_⟩=>decide (t=c)&&decide (g.size<=1000)&&u9 (vA K k) g.toList ds|_=>a8)=a9->∃h g n l,K.lookup p=a0 ⟨.type c,a7,.seq g n,l⟩/\g.size<=Ñ/\Ä h g.toList/\∀π n H,Æ K π n H h ds:=λ{p ds c} e=>by
   split at e
   .rename_i t g n l j;obtain⟨e,q⟩:=zr.mp e;obtain⟨a,b⟩:=zr.mp e;cases of_decide_eq_true a;obtain⟨h,r,i⟩:=Iq (Ir k) _ _ q;show⟨h,g,n,l,j,Đ (of_decide_eq_true b)<|by decide,r,i⟩
   .cases e
  cases d with
  |non=>cases u with
   |none=>show⟨.non,rfl,λ_ _ _=>.non⟩|_=>cases e
  |bl b=>cases u with
   |bool c=>cases of_decide_eq_true e;show⟨.bl b,rfl,λ_ _ _=>.bl _⟩|_=>cases e
  |int b=>cases u with
   |int c=>cases of_decide_eq_true e;show⟨.int b,⟨_,rfl⟩,λ_ _ _=>.int _⟩|_=>cases e
  |str b=>cases u with
   |str c=>cases of_decide_eq_true e;show⟨.str b,⟨_,rfl⟩,λ_ _ _=>.str _⟩|_=>cases e
  |tup ds=>cases u with
   |ref p=>obtain⟨h,g,n,l,j,m,r,i⟩:=seq e;show⟨.ref p,rfl,λ_ _ _=>.tup (vs:=h) (.inr ⟨_,g,n,j,rfl,rfl,rfl,m,r⟩)<|i _ _ _⟩|_=>cases e
  |rol ds=>cases u with
   |ref p=>obtain⟨h,g,n,l,j,m,r,i⟩:=seq e;show⟨.ref p,rfl,λ_ _ _=>.rol (vs:=h) (.inr ⟨_,g,n,j,rfl,rfl,rfl,m,r⟩)<|i _ _ _⟩|_=>cases e
  |_=>cases e
abbrev Iu(K:Ö)(a:List (Str×D)):Bool:=a.all λc=>match yr K Ũ c.1 with|some (a0 u)=>vA K 8 u c.2|_=>a8
def Wv(X:K.In h)(G:h.Ns Ũ mg)(q:Iu K a=a9):∀p∈a,∃v u,mg p.1=a0 u/\Ì v u/\∀π n H,Ý K π n H v p.2:=λp b=>by
 have t:=ul.mp q p b;split at t
 .rename_i u c;obtain⟨v,r,i⟩:=Ir _ _ _ t;show⟨v,u,OU X G c,r,i⟩
 .cases t
abbrev W{a:Type}(o:Option a)(Q:a->Prop):Prop:=∃r,o=a0 r/\Q r
def À{r:α}{Q:α->Prop}:W (a0 r) Q↔Q r:=⟨λ⟨_,h,q⟩=>by cases h;show q,λq=>⟨r,rfl,q⟩⟩
def é{Q:α->Prop}:W a7 Q↔False:=⟨λ⟨_,h,_⟩=>(by cases h),λh=>h.elim⟩
def Ã{o:Option α}{g:α->Option β}{Q:β->Prop}:W (o.bind g) Q↔W o λr=>W (g r) Q:=by
 cases o with
 |none=>show⟨λ⟨_,h,_⟩=>(by cases h),λ⟨_,h,_⟩=>(by cases h)⟩|some a=>simp[À]
def k0{o:Option α}{g:α->β}{Q:β->Prop}:W (o.map g) Q↔W o λr=>Q (g r):=by
 cases o with
 |none=>show⟨λ⟨_,h,_⟩=>(by cases h),λ⟨_,h,_⟩=>(by cases h)⟩|some a=>simp[À]
def bI{o:Option α}{Q:α->Prop}{a:α->Prop}(h:W o Q)(k:∀r,Q r->a r):W o a:=let⟨r,e,q⟩:=h;⟨r,e,k r q⟩
def yZ{Q:α->Prop}[Decidable c]{a b:Option α}:W (if c then a else b) Q↔if c then W a Q else W b Q:=by split<;>rfl
abbrev fin:Option (Fl×aF×Hm)->jk:=λo=>o.bind λp=>match p.1 with|.rt d=>a0 (d,p.2.2)|.nx=>a0 (.non,p.2.2)|_=>a7
def Ù{Q:jz}:W (fin o) Q↔W o λp=>match p.1 with|.rt d=>Q (d,p.2.2)|.nx=>Q (.non,p.2.2)|_=>False:=by
 unfold fin;rw[Ã];constructor
 .show λh=>bI h λp q=>by obtain⟨a,c,b⟩:=p;cases a<;>simpa[À,é]using q
 .show λh=>bI h λp q=>by obtain⟨a,c,b⟩:=p;cases a<;>simpa[À,é]using q
def aH{b μ':Hm}(h:b<+:μ'){a:Nat}(e:b[a]?=a0 c):μ'[a]?=a0 c:=by obtain⟨t,rfl⟩:=h;have d:=(Ú.mp e).1;rw[Š d];show e
def Ww{a μ':Hm}(h:a<+:μ'):a.length<=μ'.length:=h.length_le
def aM(a:Hm)(c:C):a<+:a++[c]:=⟨[c],rfl⟩
def cS{b μ':Hm}(h:b<+:μ')(d:b.length<=a)c:b<+:μ'.set a c:=by obtain⟨t,rfl⟩:=h;rw[NL _ _ d];show⟨_,rfl⟩
def Ê{Q}:W (aE a b ρ c) Q↔W (a ρ c) λp=>match p.1 with|.nx=>W (b p.2.1 p.2.2) Q|_=>Q p:=by
 unfold aE;rw[Ã];constructor
 .show λh=>bI h λp q=>by obtain⟨d,ρ,c⟩:=p;cases d<;>simpa[À,é]using q
 .show λh=>bI h λp q=>by obtain⟨d,ρ,c⟩:=p;cases d<;>simpa[À,é]using q
def Î{Q}:W (aR m ρ a) Q↔W (m ρ a) λp=>Q (.rt p.1,ρ,p.2):=k0
def Ć{Q}:W (cY m ρ a) Q↔W (m ρ a) λp=>Q (.nx,ρ,p.2):=k0
def Ē{Q}:W (aP i m ρ a) Q↔W (m ρ a) λp=>Q (.nx,ρ.set i<|a0 p.1,p.2):=k0
def Ø{Q}:W (bV ρ a) Q↔Q (.nx,ρ,a):=À
def Û{Q}:W (bK t a b ρ c) Q↔W (t ρ c) λp=>if p.1=a9 then W (a ρ p.2) Q else W (b ρ p.2) Q:=by unfold bK;rw[Ã];constructor<;>show λh=>bI h λp q=>by obtain⟨x,c⟩:=p;cases x<;>simpa using q
def ő{Q}:W (j7 t a b ρ c) Q↔W (t ρ c) λp=>if p.1=a9 then W (a ρ p.2) Q else W (b ρ p.2) Q:=by unfold j7;rw[Ã];constructor<;>show λh=>bI h λp q=>by obtain⟨x,c⟩:=p;cases x<;>simpa using q
def ň{Q}:W (j6 a b ρ c) Q↔W (a ρ c) λp=>if p.1=a9 then W (b ρ p.2) Q else Q (a8,p.2):=by unfold j6;rw[Ã];constructor<;>show λh=>bI h λp q=>by obtain⟨x,c⟩:=p;cases x<;>simpa[À]using q
def Ő{Q}:W (jJ a b ρ c) Q↔W (a ρ c) λp=>if p.1=a9 then Q (a9,p.2)else W (b ρ p.2) Q:=by unfold jJ;rw[Ã];constructor<;>show λh=>bI h λp q=>by obtain⟨x,c⟩:=p;cases x<;>simpa[À]using q
def Ň{Q}:W (iY a ρ b) Q↔W (a ρ b) λp=>Q (!p.1,p.2):=k0
def Ô{Q}:W (aC f a b ρ c) Q↔W (a ρ c) λp=>W (b ρ p.2) λq=>W (f p.1 q.1 q.2) Q:=by unfold aC;rw[Ã];simp only[Ã]
def cV{Q}:W (mC d ρ a) Q↔Q (d,a):=À
def aV{ρ:aF}{Q}:W (aA 0 (a0 d::ρ) a) Q↔Q (d,a):=by change W (a0 (d,a)) Q↔_;show À
def bF{ρ:aF}{Q}:W (aA (i+1) (x::ρ) a) Q↔W (aA i ρ a) Q:=by unfold aA;rw[List.getElem?_cons_succ]
def b7{Q}:W (aD ρ a) Q↔Q ([],a):=À
def Â{Q}:W (aB a r ρ b) Q↔W (a ρ b) λp=>W (r ρ p.2) λq=>Q (p.1::q.1,q.2):=by unfold aB;simp only[Ã,À]
def à{Q}:W (bP ms ρ a) Q↔W (ms ρ a) fun p=>p.1.length<=Ñ/\Q (.tup p.1,p.2):=by
 unfold bP
 rw [Ã]
 constructor<;>show fun h=>bI h fun p q=>by
  first
  | (rw [yZ] at q;split at q
     .show ⟨by assumption,À.mp q⟩
     .show (é.mp q).elim)
  | (rw [if_pos q.1];show À.mpr q.2)
def ô{Q}:W (cX ms ρ a) Q↔W (ms ρ a) fun p=>p.1.length<=Ñ/\Q (.loc p.2.length,p.2++[.lst p.1]):=by
 unfold cX
 rw [Ã]
 constructor<;>show fun h=>bI h fun p q=>by
  first
  | (rw [yZ] at q;split at q
     .show ⟨by assumption,À.mp q⟩
     .show (é.mp q).elim)
  | (rw [if_pos q.1];show À.mpr q.2)
def Ë{Q}:W (aG f ms ρ a) Q↔W (ms ρ a) fun p=>W (f p.1 p.2) Q:=Ã
def ê{Q}:W (aT m ρ a) Q↔W (m ρ a) λp=>match p.1 with|.bl b=>Q (b,p.2)|_=>False:=by unfold aT;rw[Ã];constructor<;>show λh=>bI h λp q=>by obtain⟨d,a⟩:=p;cases d<;>simpa[À,é]using q
def Ė{Q}:W (dS m ρ a) Q↔W (m ρ a) λp=>W (oH p.2 p.1) λb=>Q (b,p.2):=by unfold dS;simp only[Ã,k0]
def Wx{Q}:W (mW a ρ b) Q↔W (a ρ b) λp=>match p.1 with|.int i=>Q (.int<|-i,p.2)|_=>False:=by unfold mW;rw[Ã];constructor<;>show λh=>bI h λp q=>by obtain⟨d,b⟩:=p;cases d<;>simpa[À,é,k0,AL]using q
def Iw{Q}:W (rN a ρ c) Q↔W (a ρ c) λp=>match p.1 with|.bl b=>Q (.bl<|!b,p.2)|_=>False:=by unfold rN;rw[Ã];constructor<;>show λh=>bI h λp q=>by obtain⟨d,c⟩:=p;cases d<;>simpa[À,é]using q
def ë{Q}:W (eJ a b ρ e) Q↔W (a ρ e) λp=>match p.1 with|.bl c=>if c=a9 then W (b ρ p.2) Q else Q (.bl a8,p.2)|_=>False:=by
 unfold eJ;rw[Ã];constructor<;>show λh=>bI h λp q=>by
  obtain⟨d,e⟩:=p;cases d with
  |bl c=>cases c<;>simpa[À]using q|_=>simpa[é]using q
def ĳ{Q}:W (gM m g ρ b) Q↔W (m ρ b) λp=>W (g p.1 ρ p.2) λa=>Q (.nx,a,p.2):=by unfold gM;simp only[Ã,k0]
def ä{Q:jz}:W (bA (.int i) (.int j) μ) Q↔Q (.int<|i+j,μ):=À
def ϔ{Q:jz}:W (dH (.int i) (.int j) μ) Q↔Q (.int<|i-j,μ):=À
def i9{Q:jz}(h:0<j):W (bN (.int i) (.int j) μ) Q↔Q (.int<|i%j,μ):=by change W ((if 0<j then a0 (i%j)else a7).map λz=>(D.int z,μ)) Q↔_;rw[if_pos h];show À
def Wy:(1073741824:Int)<2^4000:=by decide +kernel
def Wz{Q:jz}(h:0<j)(k:j<2^4000):W (iJ (.int i) (.int j) μ) Q↔Q (.int<|i/j,μ):=by change W ((if 0<j/\j<2^4000 then a0 (i/j)else a7).map λz=>(D.int z,μ)) Q↔_;rw[if_pos ⟨h,k⟩];show À
def qO{Q:jz}(h:0<j)(k:j<1073741824):W (iJ (.int i) (.int j) μ) Q↔Q (.int<|i/j,μ):=Wz h<|Int.lt_trans k Wy
def k7{Q:jz}(h:(-(2^64)<i/\i<2^64)\/(-(2^64)<j/\j<2^64)):W (bQ (.int i) (.int j) μ) Q↔Q (.int<|i*j,μ):=by change W ((if((-(2^64)<i/\i<2^64)\/(-(2^64)<j/\j<2^64))\/(i.natAbs<2^4000/\j.natAbs<2^4000)\/ű i+ű j<=134217728 then a0 (i*j)else a7).map λz=>(D.int z,μ)) Q↔_;rw[if_pos<|.inl h];show À
def Ĥ{Q:jz}:W (bD a8 (.int i) (.int j) μ) Q↔Q (.bl<|i==j,μ):=À
def y8{Q:jz}:W (bD a9 (.int i) (.int j) μ) Q↔Q (.bl<|!(i==j),μ):=À
def Co{Q:jz}:W (lT (.int i) (.int j) μ) Q↔Q (.bl<|decide<|i<j,μ):=À
def WA{Q:jz}:W (rR (.int i) (.int j) μ) Q↔Q (.bl<|decide<|i<=j,μ):=À
def Μ{Q:jz}:W (oD (.int i) (.int j) μ) Q↔Q (.bl<|decide<|j<i,μ):=À
def wz{Q:jz}:W (uA (.int i) (.int j) μ) Q↔Q (.bl<|decide<|j<=i,μ):=À
def Ă{Q:jz}:W (aI (.tup [a,b]) (.int 0) μ) Q↔Q (a,μ):=À
def ā{Q:jz}:W (aI (.tup [a,b]) (.int 1) μ) Q↔Q (b,μ):=À
def Ĝ:W (oH μ<|.bl b) Q↔Q b:=À
def Ν:W (c8 [i,j] (.tup [a,b]) ρ μ) Q↔Q ((ρ.set i<|a0 a).set j<|a0 b):=À
def vB{Q:jz}(h:b[a]?=a0 (.lst xs))(c:atI xs i=a0 d):W (aI (.loc a) (.int i) b) Q↔Q (d,b):=by
 have:aI (.loc a) (.int i) b=a0 (d,b):=by simp only[aI,jK,bM,h,ğ,c,į]
 rw[this];show À
def Iy(h:c[l]?=a0 (.lst [a,b])):W (c8 [i,j] (.loc l) ρ c) Q↔Q ((ρ.set i<|a0 a).set j<|a0 b):=by
 have:c8 [i,j] (.loc l) ρ c=a0 ((ρ.set i<|a0 a).set j<|a0 b):=by simp only[c8,bM,h,ğ];rfl
 rw[this];show À
def Ó:W (bZ m ρ a) Q↔W (m ρ a) λp=>W (lU p.2 p.1) λxs=>Q (c9 p.1,xs.length+1,p.2):=by unfold bZ;simp only[Ã,k0]
def Í{Q}:W (bO a g b ρ c) Q↔W (a ρ c) λp=>W (dZ p.1 g b p.2.1 0 ρ p.2.2) Q:=Ã
def Iz{j:Int}:W (oE ms ρ c) Q↔W (ms ρ c) fun p=>match p.1 with|[.int j]=>(-(2 ^ 62)<=j/\j<2 ^ 62)/\Q (jN 0 j.toNat,j.toNat+1,p.2)|_=>False:=by
 unfold oE
 rw [Ã]
 constructor<;>show fun h=>bI h fun p q=>by
  obtain ⟨l,c⟩:=p
  match l,q with
  | [],q=>simpa [é] using q
  | [d],q=>
   cases d with
   | int j=>
    first
    | (dsimp only at q;rw [yZ] at q;split at q
       .rename_i e;show ⟨e,À.mp q⟩
       .show (é.mp q).elim)
    | (dsimp only;rw [if_pos q.1];show À.mpr q.2)
   | _=>simpa [é] using q
  | a::b::l,q=>simpa [é] using q
def sZ:W (lV ms ρ a) Q↔W (ms ρ a) fun p=>match p.1 with|[.int i,.int j]=>(-(2 ^ 62)<=i/\i<2 ^ 62/\-(2 ^ 62)<=j/\j<2 ^ 62)/\Q (jN i (j - i).toNat,(j - i).toNat+1,p.2)|_=>False:=by
 unfold lV
 rw [Ã]
 constructor<;>show fun h=>bI h fun p q=>by
  split at q
  .rename_i e
   try rw [e]
   first
   | (rw [yZ] at q;split at q
      .rename_i b;show ⟨b,À.mp q⟩
      .show (é.mp q).elim)
   | ((try dsimp only);rw [if_pos q.1];show À.mpr q.2)
  .first
   | show (é.mp q).elim
   | show q.elim
def qP{e:gO}{b:MS}(I:Nat->aF->Hm->Prop)(n:∀ i ρ a,i<N->I i ρ a->∃ d j,e a i=a0 (a0 d)/\g d ρ a=a0 j/\W (b j a) fun p=>match p.1 with|.nx=>I (i+1) p.2.1 p.2.2|.ct=>I (i+1) p.2.1 p.2.2|.bk=>Q (.nx,p.2.1,p.2.2)|.rt d=>Q (.rt d,p.2.1,p.2.2))(c:∀ ρ a,I N ρ a->e a N=a0 a7/\Q (.nx,ρ,a)):∀m i ρ a,i+m=N->I i ρ a->W (dZ e g b (m+1) i ρ a) Q
 | 0,i,ρ,a,h,hI=>by
  have:i=N:=by lia
  subst this
  obtain ⟨o,r⟩:=c ρ a hI
  unfold dZ
  rw [o]
  show À.mpr r
 | m+1,i,ρ,a,h,hI=>by
  obtain ⟨d,j,o,r,u⟩:=n i ρ a ⋯ hI
  unfold dZ
  rw [o]
  simp only [ğ,r]
  rw [Ã]
  show bI u fun p q=>?_
  obtain ⟨s,l,k⟩:=p
  cases s with
  | nx=>show qP I n c m (i+1) l k ⋯ q
  | ct=>show qP I n c m (i+1) l k ⋯ q
  | bk=>show À.mpr q
  | rt d=>show À.mpr q
def gW{b:MS}(I:Nat->aF->Hm->Prop)(n:I 0 ρ c)(l:∀i ρ c,I i ρ c->c[a]?=a0 (.lst xs))(m:∀i d ρ c,xs[i]?=a0 d->I i ρ c->∃h,g d ρ c=a0 h/\W (b h c) λp=>match p.1 with|.nx=>I (i+1) p.2.1 p.2.2|.ct=>I (i+1) p.2.1 p.2.2|.bk=>Q (.nx,p.2.1,p.2.2)|.rt d=>Q (.rt d,p.2.1,p.2.2))(k:∀ρ c,I xs.length ρ c->Q (.nx,ρ,c)):W (dZ (c9<|.loc a) g b (xs.length+1) 0 ρ c) Q:=by
 show qP (N:=xs.length) I (λi ρ c r j=>?_) (λρ c j=>⟨?_,k ρ c j⟩) xs.length 0 ρ c ⋯ n
 .have e:xs[i]?=a0 xs[i]:=ó r;obtain⟨h,o,q⟩:=m i xs[i] ρ c e j;show⟨xs[i],h,?_,o,q⟩;simp only[c9,lU,bM,l i ρ c j,į,e]
 .simp only[c9,lU,bM,l _ ρ c j,į];simp
def IA(k:∀a,lU a x=a0 xs){b:MS}(I:Nat->aF->Hm->Prop)(m:I 0 ρ a)(l:∀i d ρ a,xs[i]?=a0 d->I i ρ a->∃c,g d ρ a=a0 c/\W (b c a) λp=>match p.1 with|.nx=>I (i+1) p.2.1 p.2.2|.ct=>I (i+1) p.2.1 p.2.2|.bk=>Q (.nx,p.2.1,p.2.2)|.rt d=>Q (.rt d,p.2.1,p.2.2))(h:∀ρ a,I xs.length ρ a->Q (.nx,ρ,a)):W (dZ (c9 x) g b (xs.length+1) 0 ρ a) Q:=by
 show qP (N:=xs.length) I (λi ρ a q j=>?_) (λρ a j=>⟨?_,h ρ a j⟩) xs.length 0 ρ a ⋯ m
 .have e:xs[i]?=a0 xs[i]:=ó q;obtain⟨c,n,o⟩:=l i xs[i] ρ a e j;show⟨xs[i],c,?_,n,o⟩;simp only[c9,k,į,e]
 .simp only[c9,k,į];simp
def vC{b:MS}(I:Nat->aF->Hm->Prop)(l:I 0 ρ a)(k:∀i ρ a,i<n->I i ρ a->∃c,g (.int<|lo+i) ρ a=a0 c/\W (b c a) λp=>match p.1 with|.nx=>I (i+1) p.2.1 p.2.2|.ct=>I (i+1) p.2.1 p.2.2|.bk=>Q (.nx,p.2.1,p.2.2)|.rt d=>Q (.rt d,p.2.1,p.2.2))(e:∀ρ a,I n ρ a->Q (.nx,ρ,a)):W (dZ (jN lo n) g b (n+1) 0 ρ a) Q:=by
 show qP (N:=n) I (λi ρ a j h=>?_) (λρ a h=>⟨?_,e ρ a h⟩) n 0 ρ a ⋯ l
 .obtain⟨c,m,o⟩:=k i ρ a j h;show⟨_,c,by simp only[jN,if_pos j],m,o⟩
 .simp only[jN,ϣ,if_false]
def Cp(h:b[a]?=a0 (.lst ys))(c:ys.length<Ñ):rV b a y=a0 (b.set a<|.lst<|ys++[y]):=by unfold rV;rw[h];show if_pos c
def Cq{u:gO}{μ0:Hm}{xs:List D}(x:∀a i,μ0<+:a->u a i=a0 xs[i]?)(G:xs.length<=Ñ)(hc:∀d a,d∈xs->μ0<+:a->W (c (ρ++[a0 d]) a) λr=>r.1=p d/\a<+:r.2)(z:∀d a,d∈xs->p d=a9->μ0<+:a->W (e (ρ++[a0 d]) a) λr=>r.1=v d/\a<+:r.2)(fin:∀a,μ0<+:a->a[μ0.length]?=a0 (.lst<|(xs.filter p).map v)->Q a):
  ∀m i(a:Hm),i+m=xs.length->μ0<+:a->a[μ0.length]?=a0 (.lst<|((xs.take i).filter p).map v)->W (jO u rW c e ρ μ0.length (m+1) i a) Q
 |0,i,a,hi,hp,ha=>by
  have:i=xs.length:=by lia
  subst this;unfold jO;rw[x a _ hp];rw[ώ<|Õ _];simp only[ğ];show À.mpr<|fin a hp ?_;simpa using ha
 |m+1,i,a,hi,hp,ha=>by
  have o:i<xs.length:=by lia
  have H:xs[i]?=a0 xs[i]:=ó o;have h:xs[i]∈xs:=bf o;unfold jO;rw[x a _ hp,H];simp only[ğ,rW];rw[Ã];show bI (hc _ a h hp) λr q=>?_;obtain⟨b,w⟩:=r;obtain⟨I,s⟩:=q;dsimp only at I s ⊢;subst I;have g:xs.take (i+1)=xs.take i++[xs[i]]:=by rw[yl,H];rfl
  have k:=aH s ha;cases j:p xs[i]with
  |false=>show Cq x G hc z fin m (i+1) w ⋯ (hp.trans s) ?_;rw[k,g,Ϗ];simp[j]|true=>
   dsimp only;rw[Ã];show bI (z _ w h j<|hp.trans s) λr q=>?_;obtain⟨y,E⟩:=r;obtain⟨K,B⟩:=q;dsimp only at K B ⊢;subst K;have l:=aH B k;have n:(((xs.take i).filter p).map v).length<Ñ:=by have L:=Ų p<|xs.take i;rw[Å];rw[Ń]at L;lia
   rw[Cp l n,ğ];have A:μ0<+:E:=(hp.trans s).trans B;show Cq x G hc z fin m (i+1) _ ⋯ (cS A (Õ _) _) ?_;rw[τ (Ú.mp l).1,g,Ϗ];simp[j]
def jA{xs:List D}{Q:jz}(hit:W (o ρ u) λr=>(∀a i,r.2.2<+:a->r.1 a i=a0 xs[i]?)/\r.2.1=xs.length+1/\xs.length<=Ñ /\
   (∀d a,d∈xs->r.2.2<+:a->W (c (ρ++[a0 d]) a) λs=>s.1=p d/\a<+:s.2)/\(∀d a,d∈xs->p d=a9->r.2.2<+:a->W (e (ρ++[a0 d]) a) λs=>s.1=v d/\a<+:s.2) /\
   ∀a,r.2.2<+:a->a[r.2.2.length]?=a0 (.lst<|(xs.filter p).map v)->Q (.loc r.2.2.length,a)):W (eC o c e ρ u) Q:=by
 unfold eC lW;rw[Ã];show bI hit λr q=>?_;obtain⟨w,n,b⟩:=r;obtain⟨g,h,j,k,l,m⟩:=q;dsimp only at g h j k l m ⊢;subst h;rw[k0];show Cq g j k l m xs.length 0 (b++[.lst []]) ⋯ (aM _ _)<|by simp
def k8{b:Hm}(h:b[a]?=a0 (.lst xs)):∀μ' i,b<+:μ'->c9 (.loc a) μ' i=a0 xs[i]?:=λμ' i c=>by simp only[c9,lU,bM,aH c h,į]
def IB{a:Hm}:∀μ' i,a<+:μ'->c9 (.tup xs) μ' i=a0 xs[i]?:=λμ' i b=>rfl
abbrev nO(lo:Int)(n:Nat):List D:=(ġ n).map λ(i:Nat)=>.int<|lo+(i:Int)
def WB{a:Hm}:∀μ' i,a<+:μ'->jN lo n μ' i=a0 (nO lo n)[i]?:=λμ' i _=>by
 unfold jN nO;rw[ú];by_cases h:i<n
 .rw[if_pos h,Mr h];rfl
 .rw[if_neg h,ώ<|by simpa using rn.mp h];rfl
noncomputable abbrev P(x y:Int):D:=.tup [.int x,.int y]
noncomputable abbrev PP(p:Int×Int):D:=P p.1 p.2
def Cr n e p q:dG (n+2) e (PP p) (PP q)=a0 (p==q):=by obtain⟨a,b⟩:=p;obtain⟨c,d⟩:=q;change a0 (a==c&&(b==d&&a9))=a0 ((a,b)==(c,d));rw[O5];rfl
def IC n a:∀ps qs:jq,jM (kS (n+2) a) (ps.map PP) (qs.map PP)=a0 (ps==qs)
 |[],[]=>rfl|[],_::_=>rfl|_::_,[]=>rfl|p::ps,q::qs=>by rw[ù,ù];change(dG (n+2) a (PP p)<|PP q).bind (λb=>(jM (kS (n+2) a) (ps.map PP)<|qs.map PP).map λc=>b&&c)=_;rw[Cr,IC n a ps qs];rfl
def WC{ps:jq}(g:c[a]?=a0 (.lst<|ps.map PP))(h:c[b]?=a0 (.lst<|qs.map PP)):dG 8 c (.loc a) (.loc b)=a0 (ps==qs):=by
 have d:eW c (.loc a)=a0 (.lst<|ps.map PP):=by simp only[eW,g]
 have e:eW c (.loc b)=a0 (.lst<|qs.map PP):=by simp only[eW,h]
 change(eW c<|.loc a).bind (λx=>(eW c<|.loc b).bind λy=>rO (kS 7 c) x y)=_;rw[d,e];show IC 5 c ps qs
def WD{ps:jq}{Q:jz}(d:c[a]?=a0 (.lst<|ps.map PP))(e:c[b]?=a0 (.lst<|qs.map PP)):W (bD ne (.loc a) (.loc b) c) Q↔Q (.bl<|if ne then !(ps==qs)else ps==qs,c):=by unfold bD;rw[WC d e];show À
def ID n a:∀ps qs:List Int,jM (kS (n+1) a) (ps.map D.int) (qs.map D.int)=a0 (ps==qs)
 |[],[]=>rfl|[],_::_=>rfl|_::_,[]=>rfl|p::ps,q::qs=>by rw[ù,ù];change(dG (n+1) a (.int p)<|.int q).bind (λb=>(jM (kS (n+1) a) (ps.map D.int)<|qs.map D.int).map λc=>b&&c)=_;rw[ID n a ps qs];rfl
def y9{Q:jz}(d:c[a]?=a0 (.lst xs))(e:c[b]?=a0 (.lst ys))(g:xs.length+ys.length<=Ñ):W (bA (.loc a) (.loc b) c) Q↔Q (.loc c.length,c++[.lst<|xs++ys]):=by simp only[bA,d,e,if_pos g];show À
def iO{Q:jz}(h:W (a ρ b) λp=>qA p.2 p.1=a9/\W (ms ρ p.2) λq=>W (f p.1 q.1 q.2) Q):W (cK f a ms ρ b) Q:=by unfold cK;rw[Ã];show bI h λp q=>?_;rw[q.1];show Ã.mpr q.2
def gX(h:b[a]?=a0 (.lst xs)):qA b (.loc a)=true:=by simp only[qA,h]
def nP{Q:jz}(h:b[a]?=a0 (.lst xs))(c:xs.length<Ñ):W (dJ (.loc a) [y] b) Q↔Q (.non,b.set a<|.lst<|xs++[y]):=by simp only[dJ,Cp h c,į];show À
def WE{Q:jz}(h:b[a]?=a0 (.lst xs)):W (qB (.loc a) [] b) Q↔Q (.non,b.set a<|.lst []):=by simp only[qB,h];show À
def IE{Q:jz}(h:c[a]?=a0 (.lst xs))(d:c[b]?=a0 (.lst ys))(e:xs.length+ys.length<=Ñ):W (oG (.loc a) [.loc b] c) Q↔Q (.non,c.set a<|.lst<|xs++ys):=by simp only[oG,h,d,if_pos e];show À
def IH{Q:jz}:W (fH [.tup xs,.ty "tuple"] a) Q↔Q (.bl a9,a):=À
def Ct{Q:jz}:W (fH [.int i,.ty "bool"] a) Q↔Q (.bl a8,a):=À
def II{Q:jz}:W (fH [.int i,.ty "int"] a) Q↔Q (.bl a9,a):=À
def WG{Q:jz}:W (fH [.str b,.ty "str"] a) Q↔Q (.bl a9,a):=À
def WH{Q:jz}(h:b[a]?=a0 (.lst xs)):W (fH [.loc a,.ty "list"] b) Q↔Q (.bl a9,b):=by
 have:fH [.loc a,.ty "list"] b=a0 (.bl a9,b):=by simp only[fH,w4,h,ğ];rfl
 rw[this];show À
def vF{Q:jz}(h:b[a]?=a0 (.lst xs)):W (fL [.loc a] b) Q↔Q (.int xs.length,b):=by simp only[fL,uB,bM,h,į];show À
def IJ{Q:jz}:W (fL [.rol xs] a) Q↔Q (.int xs.length,a):=À
def dA(h:b[a]?=a0 (.lst xs)):W (lU b<|.loc a) Q↔Q xs:=by simp only[lU,bM,h];show À
def jd:W (lU a<|.tup xs) Q↔Q xs:=À
def ε:W (fG ρ a) Q↔Q (a7,a):=À
def ϻ:W (eV m ρ a) Q↔W (m ρ a) λp=>match p.1 with|.int i=>Q (a0 i,p.2)|_=>False:=by unfold eV;rw[Ã];constructor<;>show λh=>bI h λp q=>by obtain⟨d,a⟩:=p;cases d<;>simpa[À,é]using q
def Cu{Q:jz}(h:W (a ρ g) λp=>∃l,p.1=.loc l/\W (lo ρ p.2) λq=>W (b ρ q.2) λr=>∃xs,r.2[l]?=a0 (.lst xs)/\Q (.loc r.2.length,r.2++[.lst<|j8 xs q.1 r.1])):W (jL a lo b ρ g) Q:=by unfold jL;rw[Ã];show bI h λp q=>?_;obtain⟨d,k⟩:=p;obtain⟨l,c,e⟩:=q;dsimp only at c e ⊢;subst c;rw[Ã];show bI e λs q=>?_;rw[Ã];show bI q λr q=>?_;obtain⟨xs,i,j⟩:=q;simp only[bM,i,ğ];show À.mpr j
def aU(a:Hm)c:(a++[c])[a.length]?=a0 c:=by simp
def Cv{Q}:W (kW f g a b c ρ e) Q↔W (a ρ e) λp=>W (b ρ p.2) λq=>W (f p.1 q.1 q.2) λr=>match r.1 with|.bl k=>if k=a9 then W (c ρ r.2) λt=>W (g q.1 t.1 t.2) Q else Q (.bl a8,r.2)|_=>False:=by
 unfold kW;simp only[Ã];constructor<;>show λh=>bI h λp q=>bI q λl j=>bI j λr i=>by
  obtain⟨d,e⟩:=r;cases d with
  |bl k=>cases k<;>simpa[À,Ã]using i|_=>simpa[é]using i
def WI{Q:jz}:W (mB a9 .non .non μ) Q↔Q (.bl a8,μ):=À
def Cw:∀a,pZ (a.map D.int)=a0 a
 |[]=>rfl|i::a=>by change(pZ<|a.map D.int).map (i::·)=_;rw[Cw a];rfl
def IK{Q:jz}{b:List Int}(h:μ[a]?=a0 (.lst<|b.map D.int)):W (nD [.loc a] μ) Q↔Q (.int b.sum,μ):=by simp only[nD,bM,h,ğ,Cw,į];show À
def WJ{Q:jz}{bs:List Bool}(h:μ[a]?=a0 (.lst<|bs.map D.bl)):W (xI [.loc a] μ) Q↔Q (.bl<|bs.all id,μ):=by
 have e:∀bs:List Bool,r8 (bs.map D.bl)=a0 bs:=λbs=>by
  induction bs with
  |nil=>rfl|cons b bs c=>change(r8<|bs.map D.bl).map (b::·)=_;rw[c];rfl
 simp only[xI,bM,h,ğ,e,į];show À
def IL{Q:jz}(h:W (a ρ g) λp=>∃l,p.1=.loc l/\W (lo ρ p.2) λq=>W (b ρ q.2) λr=>W (st ρ r.2) λt=>t.1≠a0 0/\∃xs,t.2[l]?=a0 (.lst xs)/\(e8 xs q.1 r.1 t.1).length<=Ñ/\Q (.loc t.2.length,t.2++[.lst<|e8 xs q.1 r.1 t.1])):W (oK a lo b st ρ g) Q:=by unfold oK;rw[Ã];show bI h λp q=>?_;obtain⟨d,n⟩:=p;obtain⟨l,c,e⟩:=q;dsimp only at c e ⊢;subst c;rw[Ã];show bI e λs q=>?_;rw[Ã];show bI q λr q=>?_;rw[Ã];show bI q λt q=>?_;obtain⟨i,xs,j,k,m⟩:=q;rw[if_pos i];simp only[fP,j,ğ];rw[if_pos k];show À.mpr m
def IM(h:W (ms ρ e) λp=>∃a xs,p.1=[.loc a]/\p.2[a]?=a0 (.lst xs)/\Q (sN<|.loc a,xs.length+1,p.2)):W (sO ms ρ e) Q:=by unfold sO;rw[Ã];show bI h λp q=>?_;obtain⟨l,g⟩:=p;obtain⟨a,xs,b,c,d⟩:=q;dsimp only at b c d ⊢;subst b;dsimp only;simp only[fP,c,į];show À.mpr d
def IP{b:MS}(I:Nat->aF->Hm->Prop)(n:I 0 ρ c)(l:∀i ρ c,I i ρ c->c[a]?=a0 (.lst xs))(m:∀i d ρ c,xs[i]?=a0 d->I i ρ c->∃h,g (.tup [.int i,d]) ρ c=a0 h/\W (b h c) λp=>match p.1 with|.nx=>I (i+1) p.2.1 p.2.2|.ct=>I (i+1) p.2.1 p.2.2|.bk=>Q (.nx,p.2.1,p.2.2)|.rt d=>Q (.rt d,p.2.1,p.2.2))(k:∀ρ c,I xs.length ρ c->Q (.nx,ρ,c)):W (dZ (sN<|.loc a) g b (xs.length+1) 0 ρ c) Q:=by
 show qP (N:=xs.length) I (λi ρ c r j=>?_) (λρ c j=>⟨?_,k ρ c j⟩) xs.length 0 ρ c ⋯ n
 .have e:xs[i]?=a0 xs[i]:=ó r;obtain⟨h,o,q⟩:=m i xs[i] ρ c e j;show⟨_,h,?_,o,q⟩;simp only[sN,bM,l i ρ c j,į,e]
 .simp only[sN,bM,l _ ρ c j,į];simp
def Cy{l:gO}(I:Nat->List D->Hm->Prop)(A:N<=Ñ)(j:∀i ys g,I i ys g->ys.length<=i)(p:∀i ys g,i<N->I i ys g->g[a]?=a0 (.lst ys)->∃d x,l g i=a0 (a0 d)/\z d g=a0 x/\W (c (ρ++x) g) λr=>(r.1=a8->r.2[a]?=a0 (.lst ys)/\I (i+1) ys r.2) /\
   (r.1=a9->W (e (ρ++x) r.2) λs=>s.2[a]?=a0 (.lst ys)/\I (i+1) (ys++[s.1]) (s.2.set a<|.lst<|ys++[s.1])))(k:∀ys g,I N ys g->g[a]?=a0 (.lst ys)->l g N=a0 a7/\Q g):∀m i ys g,i+m=N->I i ys g->g[a]?=a0 (.lst ys)->W (jO l z c e ρ a (m+1) i g) Q
 |0,i,ys,g,h,hI,hg=>by
  have:i=N:=by lia
  subst this;obtain⟨u,v⟩:=k ys g hI hg;unfold jO;rw[u];show À.mpr v
 |m+1,i,ys,g,h,hI,hg=>by
  obtain⟨d,x,u,v,B⟩:=p i ys g ⋯ hI hg;unfold jO;rw[u];simp only[ğ,v];rw[Ã];show bI B λr q=>?_;obtain⟨b,w⟩:=r;cases b with
  |false=>obtain⟨n,o⟩:=q.1 rfl;show Cy I A j p k m (i+1) ys w ⋯ o n|true=>dsimp only;rw[Ã];show bI (q.2 rfl) λs q=>?_;obtain⟨y,E⟩:=s;obtain⟨n,o⟩:=q;dsimp only at n o ⊢;have G:=j i ys g hI;rw[Cp n<|by lia,ğ];show Cy I A j p k m (i+1) _ _ ⋯ o ?_;rw[τ (Ú.mp n).1]
def WK{o:gO}{μ0:Hm}{xs:List D}{x:D->aF}(E:∀a i,μ0<+:a->o a i=a0 xs[i]?)(L:xs.length<=Ñ)(I:∀d a,d∈xs->A d a=a0 (x d))(hc:∀d a,d∈xs->μ0<+:a->W (c (ρ++x d) a) λr=>r.1=p d/\a<+:r.2)(K:∀d a,d∈xs->p d=a9->μ0<+:a->W (e (ρ++x d) a) λr=>r.1=v d/\a<+:r.2)(fin:∀a,μ0<+:a->a[μ0.length]?=a0 (.lst<|(xs.filter p).map v)->Q a):W (jO o A c e ρ μ0.length (xs.length+1) 0<|μ0++[.lst []]) Q:=by
 show Cy (N:=xs.length) (λi u a=>u=((xs.take i).filter p).map v/\μ0<+:a) L ?_ ?_ ?_ xs.length 0 [] _ ⋯ ⟨by simp,aM _ _⟩<|by simp
 .rintro i u a ⟨rfl,_⟩;rw[Å];show Đ (Ų _ _) ?_;rw[Ń];lia
 .rintro i u a B ⟨rfl,j⟩ n;have G:xs[i]?=a0 xs[i]:=ó B;have g:xs[i]∈xs:=bf B;have h:xs.take (i+1)=xs.take i++[xs[i]]:=by rw[yl,G];rfl
  show⟨xs[i],x xs[i],by rw[E a i j,G],I _ _ g,bI (hc _ a g j) λr q=>?_⟩;obtain⟨b,z⟩:=r;obtain⟨l,m⟩:=q;dsimp only at l m ⊢;show⟨λk=>⟨aH m n,?_,j.trans m⟩,λk=>?_⟩
  .rw[h,Ϗ];rw[k]at l;simp[<- l]
  .rw[k]at l;show bI (K _ z g l.symm<|j.trans m) λs q=>?_;obtain⟨y,M⟩:=s;obtain⟨H,w⟩:=q;dsimp only at H w ⊢;subst H;show⟨aH (m.trans w) n,?_,cS ((j.trans m).trans w) (Õ _) _⟩;rw[h,Ϗ,Ę];simp[<- l]
 .rintro u a ⟨rfl,j⟩ n;show⟨by rw[E a _ j];simp,fin a j ?_⟩;rw[ś]at n;show n
def WL{xs:List D}{x:D->aF}{Q:jz}(hit:W (u ρ w) λr=>(∀a i,r.2.2<+:a->r.1 a i=a0 xs[i]?)/\r.2.1=xs.length+1/\xs.length<=Ñ/\(∀d a,d∈xs->b d a=a0 (x d)) /\
   (∀d a,d∈xs->r.2.2<+:a->W (c (ρ++x d) a) λs=>s.1=p d/\a<+:s.2)/\(∀d a,d∈xs->p d=a9->r.2.2<+:a->W (e (ρ++x d) a) λs=>s.1=v d/\a<+:s.2) /\
   ∀a,r.2.2<+:a->a[r.2.2.length]?=a0 (.lst<|(xs.filter p).map v)->Q (.loc r.2.2.length,a)):W (lW b u c e ρ w) Q:=by
 unfold lW;rw[Ã];show bI hit λr q=>?_;obtain⟨y,n,z⟩:=r;obtain⟨g,h,j,k,l,m,o⟩:=q;dsimp only at g h j k l m o ⊢;subst h;rw[k0];show WK g j k l m o
def ď:W (eX ρ a) Q↔Q (a9,a):=À
def ï{Q}:W (cQ o i v ρ a) Q↔W (v ρ a) λp=>W (o ρ p.2) λq=>W (i ρ q.2) λr=>W (sP q.1 r.1 p.1 r.2) λμ'=>Q (.nx,ρ,μ'):=by unfold cQ Bn;simp only[Ã,k0]
def WM(h:W (ms ρ c) λp=>∃a b xs ys,p.1=[.loc a,.loc b]/\p.2[a]?=a0 (.lst xs)/\p.2[b]?=a0 (.lst ys)/\Q (uN (.loc a)<|.loc b,min xs.length ys.length+1,p.2)):W (uO ms ρ c) Q:=by unfold uO;rw[Ã];show bI h λp q=>?_;obtain⟨a,b,xs,ys,e,d,g,q⟩:=q;rw[e];simp only[fP,d,g,ğ,į];show À.mpr q
def Ü{Q:jz}:W (fA ρ μ) Q↔Q (.loc μ.length,μ++[.dT []]):=À
def Cz{kvs:jx}{Q:jz}(h:μ[a]?=a0 (.dT kvs))(b:dR y=a0 k)(c:bB kvs k=a0 d):W (aI (.loc a) y μ) Q↔Q (d,μ):=by simp only[aI,h,b,ğ,c,į];show À
def tB{kvs:jx}{Q:jz}(h:μ[a]?=a0 (.dT kvs))(c:dR y=a0 k):W (cA b y (.loc a) μ) Q↔Q (.bl<|if b then !(bB kvs k).isSome else(bB kvs k).isSome,μ):=by
 have:cA b y (.loc a) μ=a0 (.bl<|if b then !(bB kvs k).isSome else(bB kvs k).isSome,μ):=by simp only[cA,h,c,į]
 rw[this];show À
def fU(h:μ[a]?=a0 (.dT kvs))(b:dR y=a0 k)(c:kvs.length<Ñ):W (sP (.loc a) y d μ) Q↔Q (μ.set a<|.dT<|cI kvs k d):=by simp only[sP,uI,h,b,ğ,if_pos c];show À
def WN{Q:jz}(h:b[a]?=a0 (.lst xs)):W (oN [.loc a] b) Q↔Q (.loc b.length,b++[.lst xs.reverse]):=by simp only[oN,h];show À
end L3
namespace Lw
open PySem L2 L3
abbrev ds:List (Str×Stmt):=(("is_whole",aJ 10)::("is_place",aJ 11)::("is_corner",aJ 12)::("is_edge",aJ 13)::("is_quarter",aJ 14)::("line_of",aJ 15)::("beside",aJ 16)::("edges_of",aJ 17)::("moved_by",aJ 18)::("edges_round",aJ 19)::("number_by",aJ 20)::("mirrored",aJ 21)::("is_size",aJ 24)::("check_size",aJ 25)::("is_mark",aJ 26)::("is_within",aJ 27)::("places_within",aJ 28)::("quarters_in",aJ 29)::("corners_in",aJ 30)::("is_inner_edge",aJ 31)::("neighbours_in",aJ 32)::("sheet_of",aJ 33)::("marks_in",aJ 34)::("face_with",aJ 36)::("faces",aJ 37)::("is_good",aJ 39)::("creases_at",aJ 41)::("gaps_at",aJ 42)::("barred",aJ 43)::("check_corners",aJ 44)::("laying_by",aJ 47)::("mirror_in",aJ 48)::("led",aJ 49)::("then",aJ 50)::("laid",aJ 52)::("stacks",aJ 53)::("numbers_of",aJ 55)::("faces_at",aJ 56)::("pairs_among",aJ 57)::("pairs",aJ 58)::("_law_given",aJ 60)::("_law_number",aJ 61)::("_law_quarters",aJ 62)::("_law_rims",aJ 63)::("_law_beside",aJ 64)::("_law_value",aJ 65)::("_law_mirror",aJ 66)::("_law_led",aJ 67)::("_law_then",aJ 68)::("_law_fold",aJ 69)::("_law_grown",aJ 70)::("_law_creased",aJ 71)::("_law_homes",aJ 72)::("_law_shared",aJ 73)::("_law_told",aJ 74)::("law",aJ 75)::[])
abbrev IQ:D:=(.tup [(.tup [(.int 2),(.int 0)]),(.tup [(.int 1),(.int 1)]),(.tup [(.int 0),(.int 2)]),(.tup [(.int<|-1),(.int 1)]),(.tup [(.int<|-2),(.int 0)]),(.tup [(.int<|-1),(.int<|-1)]),(.tup [(.int 0),(.int<|-2)]),(.tup [(.int 1),(.int<|-1)])])
abbrev IT:D:=(.tup [(.tup [(.int 1),(.int 1)]),(.tup [(.int<|-1),(.int 1)]),(.tup [(.int<|-1),(.int<|-1)]),(.tup [(.int 1),(.int<|-1)])])
abbrev CA:D:=(.tup [(.str "h"),(.str "v"),(.str "o")])
abbrev vG:D:=(.tup [(.int 1),(.int 0),(.int 0),(.int 1),(.int 0),(.int 0)])
abbrev S:ģ:={fn:=(("is_whole",1)::("is_place",1)::("is_corner",1)::("is_edge",1)::("is_quarter",1)::("line_of",1)::("beside",1)::("edges_of",1)::("moved_by",2)::("edges_round",1)::("number_by",2)::("mirrored",2)::("is_size",1)::("check_size",2)::("is_mark",1)::("is_within",3)::("places_within",2)::("quarters_in",2)::("corners_in",2)::("is_inner_edge",3)::("neighbours_in",3)::("sheet_of",3)::("marks_in",1)::("face_with",3)::("faces",1)::("is_good",1)::("creases_at",2)::("gaps_at",2)::("barred",1)::("check_corners",1)::("laying_by",3)::("mirror_in",1)::("led",2)::("then",2)::("laid",1)::("stacks",1)::("numbers_of",1)::("faces_at",2)::("pairs_among",1)::("pairs",2)::("_law_given",2)::("_law_number",2)::("_law_quarters",2)::("_law_rims",2)::("_law_beside",1)::("_law_value",2)::("_law_mirror",2)::("_law_led",2)::("_law_then",2)::("_law_fold",6)::("_law_grown",5)::("_law_creased",3)::("_law_homes",3)::("_law_shared",2)::("_law_told",2)::("law",1)::[]),con:=[("EIGHT_EDGES",IQ),("FOUR_EDGES",IT),("MARKS",CA),("STILL",vG)],tab:=[],no:=["all","bool","dict","enumerate","int","isinstance","len","list","range","reversed","sorted","str","sum","tuple","zip"],dIt:=["_law_ways","_law_heaps","_law_gone"],dEq:=[],dMe:=["layings","_law_heaps","_law_near","found","_law_found","_law_ways","#T"]}
@[irreducible] noncomputable def f(k:Nat)(x:Str):MF:=kZ S ds k x
abbrev IU(k:Nat):MS:=aE (cQ (aA 9) (aA 10)<|aC aI (aA 0)<|aA 10)<|bK (aT<|aC (bD a8) (aC oD (aG (f k "_law_value")<|aB (aG (f k "_law_led")<|aB (aC aI (aA 0)<|aA 10)<|aB (aA 10) aD)<|aB (aA 2) aD)<|aA 3)<|aA 4) (cQ (aA 9) (aA 10)<|aG (f k "_law_then")<|aB (aC aI (aA 0)<|aA 10)<|aB (aA 8) aD) bV
abbrev IV(k:Nat):MS:=bK (aT<|aC (bD a8) (aC oD (aG (f k "_law_value")<|aB (aA 6)<|aB (aA 2) aD)<|aA 3)<|aA 4) (cQ (aA 12) (aG (f k "_law_led")<|aB (aA 8)<|aB (aA 6) aD)<|aG oN<|aB (aC aI (aA 1)<|aA 6) aD)<|cQ (aA 11) (aA 6)<|aC aI (aA 1)<|aA 6
abbrev IW:MS:=aE (aP 13<|oR qK (aA 11)<|aB (aA 6)<|aB (cX aD) aD)<|cQ (aA 11) (aA 6)<|j7 (dS<|aA 5) (aC bA (aA 13)<|aC aI (aA 12)<|aA 6)<|aC bA (aC aI (aA 12)<|aA 6)<|aA 13
abbrev IX:MS:=aE (cQ (aA 5) (aA 7)<|bP<|aB (mC<|.int 1)<|aB (mC<|.int 0)<|aB (mC<|.int 0)<|aB (mC<|.int 1)<|aB (mC<|.int 0)<|aB (mC<|.int 0) aD)<|cQ (aA 6) (aA 7)<|cX<|aB (aA 7) aD
def IY k a b:f (k+1) "is_whole" [a] b=fin ((aR<|eJ (aG fH<|aB (aA 0)<|aB (mC<|.ty "int") aD)<|rN<|aG fH<|aB (aA 0)<|aB (mC<|.ty "bool") aD) [a0 a] b):=by kernel_rfl
def WO k a b:f (k+1) "is_place" [a] b=fin ((aR<|eJ (aG fH<|aB (aA 0)<|aB (mC<|.ty "tuple") aD)<|eJ (aC (bD a8) (aG fL<|aB (aA 0) aD)<|mC<|.int 2)<|eJ (aG (f k "is_whole")<|aB (aC aI (aA 0)<|mC<|.int 0) aD)<|aG (f k "is_whole")<|aB (aC aI (aA 0)<|mC<|.int 1) aD) [a0 a] b):=by kernel_rfl
def WQ k a b:f (k+1) "is_corner" [a] b=fin ((aR<|eJ (aC (bD a8) (aC bN (aC aI (aA 0)<|mC<|.int 0)<|mC<|.int 2)<|mC<|.int 0)<|aC (bD a8) (aC bN (aC aI (aA 0)<|mC<|.int 0)<|mC<|.int 4)<|aC bN (aC aI (aA 0)<|mC<|.int 1)<|mC<|.int 4) [a0 a] b):=by kernel_rfl
def IZ k a b:f (k+1) "is_edge" [a] b=fin ((aE (bK (aT<|aC (bD a8) (aC bN (aC aI (aA 0)<|mC<|.int 0)<|mC<|.int 2)<|mC<|.int 1) (aR<|aC (bD a8) (aC bN (aC aI (aA 0)<|mC<|.int 1)<|mC<|.int 2)<|mC<|.int 1) bV)<|aR<|eJ (aC (bD a8) (aC bN (aC aI (aA 0)<|mC<|.int 1)<|mC<|.int 2)<|mC<|.int 0)<|aC (bD a9) (aC bN (aC aI (aA 0)<|mC<|.int 0)<|mC<|.int 4)<|aC bN (aC aI (aA 0)<|mC<|.int 1)<|mC<|.int 4) [a0 a] b):=by kernel_rfl
def WR k a b:f (k+1) "is_quarter" [a] b=fin ((aE (bK (aT<|aC (bD a8) (aC bN (aC aI (aA 0)<|mC<|.int 0)<|mC<|.int 2)<|mC<|.int 1) (aR<|aC (bD a8) (aC bN (aC aI (aA 0)<|mC<|.int 1)<|mC<|.int 4)<|mC<|.int 2) bV)<|aR<|eJ (aC (bD a8) (aC bN (aC aI (aA 0)<|mC<|.int 0)<|mC<|.int 4)<|mC<|.int 2)<|aC (bD a8) (aC bN (aC aI (aA 0)<|mC<|.int 1)<|mC<|.int 2)<|mC<|.int 1) [a0 a] b):=by kernel_rfl
def WS k a b:f (k+1) "line_of" [a] b=fin ((aE (bK (aT<|aC (bD a8) (aC bN (aC aI (aA 0)<|mC<|.int 0)<|mC<|.int 2)<|mC<|.int 1) (aR<|j7 (aT<|aC (bD a8) (aC bN (aC aI (aA 0)<|mC<|.int 0)<|mC<|.int 4)<|aC bN (aC aI (aA 0)<|mC<|.int 1)<|mC<|.int 4) (mC<|.str "falling")<|mC<|.str "rising") bV)<|aR<|j7 (aT<|aC (bD a8) (aC bN (aC aI (aA 0)<|mC<|.int 1)<|mC<|.int 4)<|mC<|.int 0) (mC<|.str "level")<|mC<|.str "upright") [a0 a] b):=by kernel_rfl
def WT k a b:f (k+1) "beside" [a] b=fin ((aE (aP 1<|aC aI (aA 0)<|mC<|.int 0)<|aE (aP 2<|aC aI (aA 0)<|mC<|.int 1)<|aR<|cX<|aB (bP<|aB (aC dH (aA 1)<|mC<|.int 1)<|aB (aA 2) aD)<|aB (bP<|aB (aA 1)<|aB (aC dH (aA 2)<|mC<|.int 1) aD)<|aB (bP<|aB (aA 1)<|aB (aC bA (aA 2)<|mC<|.int 1) aD)<|aB (bP<|aB (aC bA (aA 1)<|mC<|.int 1)<|aB (aA 2) aD) aD) [a0 a,a7,a7] b):=by kernel_rfl
def WU k a b:f (k+1) "edges_of" [a] b=fin ((aR<|eC (bZ<|aG (f k "beside")<|aB (aA 0) aD) (dS<|aG (f k "is_edge")<|aB (aA 1) aD)<|aA 1) [a0 a] b):=by kernel_rfl
def WV k a b c:f (k+1) "moved_by" [a,b] c=fin ((aR<|eC (bZ<|aA 1) eX<|bP<|aB (aC bA (aC aI (aA 0)<|mC<|.int 0)<|aC aI (aA 2)<|mC<|.int 0)<|aB (aC bA (aC aI (aA 0)<|mC<|.int 1)<|aC aI (aA 2)<|mC<|.int 1) aD) [a0 a,a0 b] c):=by kernel_rfl
def WW k a b:f (k+1) "edges_round" [a] b=fin ((aR<|aG (f k "moved_by")<|aB (aA 0)<|aB (j7 (aT<|aC (bD a8) (aC bN (aC aI (aA 0)<|mC<|.int 0)<|mC<|.int 4)<|mC<|.int 0) (mC IQ)<|mC IT) aD) [a0 a] b):=by kernel_rfl
def WX k a b c:f (k+1) "number_by" [a,b] c=fin ((aE (bK (aT<|aC (bD a8) (aA 0)<|mC<|.str "level") (aR<|aC aI (aA 1)<|mC<|.int 1) bV)<|aE (bK (aT<|aC (bD a8) (aA 0)<|mC<|.str "upright") (aR<|aC aI (aA 1)<|mC<|.int 0) bV)<|aE (bK (aT<|aC (bD a8) (aA 0)<|mC<|.str "falling") (aR<|aC dH (aC aI (aA 1)<|mC<|.int 0)<|aC aI (aA 1)<|mC<|.int 1) bV)<|aR<|aC bA (aC aI (aA 1)<|mC<|.int 0)<|aC aI (aA 1)<|mC<|.int 1) [a0 a,a0 b] c):=by kernel_rfl
def WY k a b c:f (k+1) "mirrored" [a,b] c=fin ((aE (aP 2<|aC aI (aA 0)<|mC<|.int 0)<|aE (aP 3<|aC aI (aA 0)<|mC<|.int 1)<|aE (aP 4<|aG (f k "line_of")<|aB (aA 1) aD)<|aE (aP 5<|aG (f k "number_by")<|aB (aA 4)<|aB (aA 1) aD)<|aE (bK (aT<|aC (bD a8) (aA 4)<|mC<|.str "level") (aR<|bP<|aB (aA 2)<|aB (aC dH (aC bQ (mC<|.int 2)<|aA 5)<|aA 3) aD) bV)<|aE (bK (aT<|aC (bD a8) (aA 4)<|mC<|.str "upright") (aR<|bP<|aB (aC dH (aC bQ (mC<|.int 2)<|aA 5)<|aA 2)<|aB (aA 3) aD) bV)<|aE (bK (aT<|aC (bD a8) (aA 4)<|mC<|.str "falling") (aR<|bP<|aB (aC bA (aA 3)<|aA 5)<|aB (aC dH (aA 2)<|aA 5) aD) bV)<|aR<|bP<|aB (aC dH (aA 5)<|aA 3)<|aB (aC dH (aA 5)<|aA 2) aD) [a0 a,a0 b,a7,a7,a7,a7] c):=by kernel_rfl
def WZ k a b:f (k+1) "is_size" [a] b=fin ((aR<|eJ (aG (f k "is_whole")<|aB (aA 0) aD)<|kW rR rR (mC<|.int 1) (aA 0)<|mC<|.int 6) [a0 a] b):=by kernel_rfl
def W0 k a b c:f (k+1) "check_size" [a,b] c=fin ((bK (iY<|j6 (dS<|aG (f k "is_size")<|aB (aA 0) aD)<|dS<|aG (f k "is_size")<|aB (aA 1) aD) c5 bV) [a0 a,a0 b] c):=by kernel_rfl
def W2 k a b:f (k+1) "is_mark" [a] b=fin ((aR<|eJ (aG fH<|aB (aA 0)<|aB (mC<|.ty "str") aD)<|aC (cA a8) (aA 0)<|mC CA) [a0 a] b):=by kernel_rfl
def Ja k a b c d:f (k+1) "is_within" [a,b,c] d=fin ((aR<|eJ (kW lT lT (mC<|.int 0) (aC aI (aA 2)<|mC<|.int 0)<|aC bQ (mC<|.int 4)<|aA 0)<|kW lT lT (mC<|.int 0) (aC aI (aA 2)<|mC<|.int 1)<|aC bQ (mC<|.int 4)<|aA 1) [a0 a,a0 b,a0 c] d):=by kernel_rfl
def W3 k a b c:f (k+1) "places_within" [a,b] c=fin ((aE (aP 2<|cX aD)<|aE (bO (lV<|aB (mC<|.int 1)<|aB (aC bQ (mC<|.int 4)<|aA 0) aD) (bS 3)<|cY<|cK oG (aA 2)<|aB (eC (lV<|aB (mC<|.int 1)<|aB (aC bQ (mC<|.int 4)<|aA 1) aD) eX<|bP<|aB (aA 3)<|aB (aA 4) aD) aD)<|aR<|aA 2) [a0 a,a0 b,a7,a7] c):=by kernel_rfl
def W4 k a b c:f (k+1) "quarters_in" [a,b] c=fin ((aR<|eC (bZ<|aG (f k "places_within")<|aB (aA 0)<|aB (aA 1) aD) (dS<|aG (f k "is_quarter")<|aB (aA 2) aD)<|aA 2) [a0 a,a0 b] c):=by kernel_rfl
def W5 k a b c:f (k+1) "corners_in" [a,b] c=fin ((aR<|eC (bZ<|aG (f k "places_within")<|aB (aA 0)<|aB (aA 1) aD) (dS<|aG (f k "is_corner")<|aB (aA 2) aD)<|aA 2) [a0 a,a0 b] c):=by kernel_rfl
def W6 k a b c d:f (k+1) "is_inner_edge" [a,b,c] d=fin ((aR<|eJ (aG (f k "is_place")<|aB (aA 2) aD)<|eJ (aG (f k "is_within")<|aB (aA 0)<|aB (aA 1)<|aB (aA 2) aD)<|aG (f k "is_edge")<|aB (aA 2) aD) [a0 a,a0 b,a0 c] d):=by kernel_rfl
def W7 k a b c d:f (k+1) "neighbours_in" [a,b,c] d=fin ((aR<|eC (bZ<|aG (f k "edges_of")<|aB (aA 2) aD) (dS<|aG (f k "is_within")<|aB (aA 0)<|aB (aA 1)<|aB (aA 3) aD)<|bP<|aB (aA 3)<|aB (aG (f k "mirrored")<|aB (aA 2)<|aB (aA 3) aD) aD) [a0 a,a0 b,a0 c] d):=by kernel_rfl
def W8 k a b c d:f (k+1) "sheet_of" [a,b,c] d=fin ((aE (cY<|aG (f k "check_size")<|aB (aA 0)<|aB (aA 1) aD)<|aE (aP 3 fA)<|aE (bO (bZ<|aA 2) (bS 4)<|aE (aP 5<|aC aI (aA 4)<|mC<|.int 0)<|aE (bK (iY<|dS<|aG (f k "is_inner_edge")<|aB (aA 0)<|aB (aA 1)<|aB (aA 5) aD) c5 bV)<|aE (bK (iY<|dS<|aG (f k "is_mark")<|aB (aC aI (aA 4)<|mC<|.int 1) aD) c5 bV)<|aE (bK (aT<|aC (cA a8) (aA 5)<|aA 3) c5 bV)<|cQ (aA 3) (aA 5)<|aC aI (aA 4)<|mC<|.int 1)<|aR<|bP<|aB (aA 0)<|aB (aA 1)<|aB (yI<|aA 3) aD) [a0 a,a0 b,a0 c,a7,a7,a7] d):=by kernel_rfl
def CB k a b:f (k+1) "marks_in" [a] b=fin ((aR<|aG qH<|aB (aC aI (aA 0)<|mC<|.int 2) aD) [a0 a] b):=by kernel_rfl
def W9 k a b c d:f (k+1) "face_with" [a,b,c] d=fin ((aE (aP 3<|qI (aA 2)<|mC<|.bl a9)<|aE (aP 4<|cX<|aB (aA 2) aD)<|aE (mY nN (dS<|aA 4)<|aE (aP 5<|cK kT (aA 4) aD)<|bO (bZ<|aG (f k "neighbours_in")<|aB (aC aI (aA 0)<|mC<|.int 0)<|aB (aC aI (aA 0)<|mC<|.int 1)<|aB (aA 5) aD) (c8 [6,7])<|bK (j6 (aT<|aC (cA a9) (aA 6)<|aA 1)<|aT<|aC (cA a9) (aA 7)<|aA 3) (aE (cQ (aA 3) (aA 7)<|mC<|.bl a9)<|cY<|cK dJ (aA 4)<|aB (aA 7) aD) bV)<|aR<|aG fT<|aB (aA 3) aD) [a0 a,a0 b,a0 c,a7,a7,a7,a7,a7] d):=by kernel_rfl
def Xa k a b:f (k+1) "faces" [a] b=fin ((aE (aP 1<|aG (f k "marks_in")<|aB (aA 0) aD)<|aE (aP 2<|cX aD)<|aE (aP 3 fA)<|aE (bO (bZ<|aG (f k "quarters_in")<|aB (aC aI (aA 0)<|mC<|.int 0)<|aB (aC aI (aA 0)<|mC<|.int 1) aD) (bS 4)<|bK (aT<|aC (cA a9) (aA 4)<|aA 3) (aE (aP 5<|aG (f k "face_with")<|aB (aA 0)<|aB (aA 1)<|aB (aA 4) aD)<|aE (cY<|cK dJ (aA 2)<|aB (aA 5) aD)<|bO (bZ<|aA 5) (bS 6)<|cQ (aA 3) (aA 6)<|mC<|.bl a9) bV)<|aR<|aA 2) [a0 a,a7,a7,a7,a7,a7,a7] b):=by kernel_rfl
def Xb k a b:f (k+1) "is_good" [a] b=fin ((aE (bK (jJ (aT<|aC oD (aG fL<|aB (aA 0) aD)<|mC<|.int 8)<|aT<|aC (bD a8) (aC bN (aG fL<|aB (aA 0) aD)<|mC<|.int 2)<|mC<|.int 1) (aR<|mC<|.bl a8) bV)<|aE (bK (iY<|dS<|aG xI<|aB (eC (bZ<|aA 0) eX<|eJ (aG (f k "is_whole")<|aB (aA 1) aD)<|aC uA (aA 1)<|mC<|.int 1) aD) (aR<|mC<|.bl a8) bV)<|aR<|aC (bD a8) (aG nD<|aB (oK (aA 0) fG fG<|eV<|mC<|.int 2) aD)<|aG nD<|aB (oK (aA 0) (eV<|mC<|.int 1) fG<|eV<|mC<|.int 2) aD) [a0 a] b):=by kernel_rfl
def Xc k a b c:f (k+1) "creases_at" [a,b] c=fin ((aE (aP 2<|aG (f k "marks_in")<|aB (aA 0) aD)<|aR<|eC (bZ<|aG (f k "edges_round")<|aB (aA 1) aD) (aT<|aC (cA a8) (aA 3)<|aA 2)<|aA 3) [a0 a,a0 b,a7] c):=by kernel_rfl
def Xd k a b c:f (k+1) "gaps_at" [a,b] c=fin ((aE (aP 2<|aG (f k "edges_round")<|aB (aA 1) aD)<|aE (aP 3<|aG (f k "creases_at")<|aB (aA 0)<|aB (aA 1) aD)<|aE (aP 4<|eC (bZ<|aA 3) eX<|cK sQ (aA 2)<|aB (aA 7) aD)<|aE (aP 5<|aC bA (jL (aA 4) (eV<|mC<|.int 1) fG)<|eC (bZ<|jL (aA 4) fG<|eV<|mC<|.int 1) eX<|aC bA (aA 7)<|aG fL<|aB (aA 2) aD)<|aE (aP 6<|aC iJ (mC<|.int 8)<|aG fL<|aB (aA 2) aD)<|aR<|lW (AS 2) (uO<|aB (aA 4)<|aB (aA 5) aD) eX<|aC bQ (aC dH (aA 8)<|aA 7)<|aA 6) [a0 a,a0 b,a7,a7,a7,a7,a7] c):=by kernel_rfl
def Xe k a b:f (k+1) "barred" [a] b=fin ((aE (bO (bZ<|aG (f k "corners_in")<|aB (aC aI (aA 0)<|mC<|.int 0)<|aB (aC aI (aA 0)<|mC<|.int 1) aD) (bS 1)<|bK (iY<|dS<|aG (f k "is_good")<|aB (aG (f k "gaps_at")<|aB (aA 0)<|aB (aA 1) aD) aD) (aR<|aA 1) bV)<|aR<|mC .non) [a0 a,a7] b):=by kernel_rfl
def Xf k a b:f (k+1) "check_corners" [a] b=fin ((aE (aP 1<|aG (f k "barred")<|aB (aA 0) aD)<|bK (aT<|aC (mB a9) (aA 1)<|mC .non) c5 bV) [a0 a,a7] b):=by kernel_rfl
def Xg k a b c d:f (k+1) "laying_by" [a,b,c] d=fin ((aR<|bP<|aB (aC dH (aC aI (aA 1)<|mC<|.int 0)<|aC aI (aA 0)<|mC<|.int 0)<|aB (aC dH (aC aI (aA 2)<|mC<|.int 0)<|aC aI (aA 0)<|mC<|.int 0)<|aB (aC dH (aC aI (aA 1)<|mC<|.int 1)<|aC aI (aA 0)<|mC<|.int 1)<|aB (aC dH (aC aI (aA 2)<|mC<|.int 1)<|aC aI (aA 0)<|mC<|.int 1)<|aB (aC aI (aA 0)<|mC<|.int 0)<|aB (aC aI (aA 0)<|mC<|.int 1) aD) [a0 a,a0 b,a0 c] d):=by kernel_rfl
def Xh k a b:f (k+1) "mirror_in" [a] b=fin ((aR<|aG (f k "laying_by")<|aB (aG (f k "mirrored")<|aB (bP<|aB (mC<|.int 0)<|aB (mC<|.int 0) aD)<|aB (aA 0) aD)<|aB (aG (f k "mirrored")<|aB (bP<|aB (mC<|.int 1)<|aB (mC<|.int 0) aD)<|aB (aA 0) aD)<|aB (aG (f k "mirrored")<|aB (bP<|aB (mC<|.int 0)<|aB (mC<|.int 1) aD)<|aB (aA 0) aD) aD) [a0 a] b):=by kernel_rfl
def Xi k a b c:f (k+1) "led" [a,b] c=fin ((aE (aP 2<|aC aI (aA 1)<|mC<|.int 0)<|aE (aP 3<|aC aI (aA 1)<|mC<|.int 1)<|aR<|bP<|aB (aC bA (aC bA (aC bQ (aC aI (aA 0)<|mC<|.int 0)<|aA 2)<|aC bQ (aC aI (aA 0)<|mC<|.int 1)<|aA 3)<|aC aI (aA 0)<|mC<|.int 4)<|aB (aC bA (aC bA (aC bQ (aC aI (aA 0)<|mC<|.int 2)<|aA 2)<|aC bQ (aC aI (aA 0)<|mC<|.int 3)<|aA 3)<|aC aI (aA 0)<|mC<|.int 5) aD) [a0 a,a0 b,a7,a7] c):=by kernel_rfl
def Xj k a b c:f (k+1) "then" [a,b] c=fin ((aR<|aG (f k "laying_by")<|aB (aG (f k "led")<|aB (aA 1)<|aB (aG (f k "led")<|aB (aA 0)<|aB (bP<|aB (mC<|.int 0)<|aB (mC<|.int 0) aD) aD) aD)<|aB (aG (f k "led")<|aB (aA 1)<|aB (aG (f k "led")<|aB (aA 0)<|aB (bP<|aB (mC<|.int 1)<|aB (mC<|.int 0) aD) aD) aD)<|aB (aG (f k "led")<|aB (aA 1)<|aB (aG (f k "led")<|aB (aA 0)<|aB (bP<|aB (mC<|.int 0)<|aB (mC<|.int 1) aD) aD) aD) aD) [a0 a,a0 b] c):=by kernel_rfl
def Xk k a b:f (k+1) "laid" [a] b=fin ((aE (cY<|aG (f k "check_corners")<|aB (aA 0) aD)<|aE (aP 1<|aG (f k "marks_in")<|aB (aA 0) aD)<|aE (aP 2<|aC aI (aG (f k "quarters_in")<|aB (aC aI (aA 0)<|mC<|.int 0)<|aB (aC aI (aA 0)<|mC<|.int 1) aD)<|mC<|.int 0)<|aE (aP 3<|qI (aA 2)<|mC vG)<|aE (aP 4<|cX<|aB (aA 2) aD)<|aE (mY nN (dS<|aA 4)<|aE (aP 5<|cK kT (aA 4) aD)<|bO (bZ<|aG (f k "neighbours_in")<|aB (aC aI (aA 0)<|mC<|.int 0)<|aB (aC aI (aA 0)<|mC<|.int 1)<|aB (aA 5) aD) (c8 [6,7])<|bK (aT<|aC (cA a9) (aA 7)<|aA 3) (aE (cQ (aA 3) (aA 7)<|j7 (aT<|aC (cA a8) (aA 6)<|aA 1) (aG (f k "then")<|aB (aG (f k "mirror_in")<|aB (aA 6) aD)<|aB (aC aI (aA 3)<|aA 5) aD)<|aC aI (aA 3)<|aA 5)<|cY<|cK dJ (aA 4)<|aB (aA 7) aD) bV)<|aR<|yG<|aA 3) [a0 a,a7,a7,a7,a7,a7,a7,a7] b):=by kernel_rfl
def Xl k a b:f (k+1) "stacks" [a] b=fin ((aE (aP 1 fA)<|aE (bO (bZ<|aG fT<|aB (aA 0) aD) (bS 2)<|cY<|cK dJ (oR qL (aA 1)<|aB (aG (f k "led")<|aB (aC aI (aA 0)<|aA 2)<|aB (aA 2) aD)<|aB (cX aD) aD)<|aB (aA 2) aD)<|aR<|aA 1) [a0 a,a7,a7] b):=by kernel_rfl
def Xm k a b:f (k+1) "numbers_of" [a] b=fin ((aE (aP 1 fA)<|aE (bO (sO<|aB (aG (f k "faces")<|aB (aA 0) aD) aD) (c8 [2,3])<|bO (bZ<|aA 3) (bS 4)<|cQ (aA 1) (aA 4)<|aA 2)<|aR<|aA 1) [a0 a,a7,a7,a7,a7] b):=by kernel_rfl
def Xn k a b c:f (k+1) "faces_at" [a,b] c=fin ((aE (aP 2<|aG (f k "numbers_of")<|aB (aA 0) aD)<|aE (aP 3 fA)<|aE (bO (uT<|aG (f k "stacks")<|aB (aA 1) aD) (c8 [4,5])<|cQ (aA 3) (aA 4)<|aG nE<|aB (eC (bZ<|aA 5) eX<|aC aI (aA 2)<|aA 6) aD)<|aR<|aA 3) [a0 a,a0 b,a7,a7,a7,a7] c):=by kernel_rfl
def Xo k a b:f (k+1) "pairs_among" [a] b=fin ((aE (aP 1<|cX aD)<|aE (bO (sO<|aB (aA 0) aD) (c8 [2,3])<|cY<|cK oG (aA 1)<|aB (eC (bZ<|jL (aA 0) (eV<|aC bA (aA 2)<|mC<|.int 1) fG) eX<|bP<|aB (aA 3)<|aB (aA 4) aD) aD)<|aR<|aA 1) [a0 a,a7,a7,a7] b):=by kernel_rfl
def Xp k a b c:f (k+1) "pairs" [a,b] c=fin ((aE (aP 2 fA)<|aE (bO (uU<|aG (f k "faces_at")<|aB (aA 0)<|aB (aA 1) aD) (bS 3)<|bO (bZ<|aG (f k "pairs_among")<|aB (aA 3) aD) (bS 4)<|cQ (aA 2) (aA 4)<|mC<|.bl a9)<|aR<|aG fT<|aB (aA 2) aD) [a0 a,a0 b,a7,a7,a7] c):=by kernel_rfl
def Xq k a b c:f (k+1) "_law_given" [a,b] c=fin ((aE (bK (aT<|aC lT (aA 1)<|aG fL<|aB (aA 0) aD) (aR<|aC aI (aA 0)<|aA 1) bV)<|aE (aP 2<|aC bQ (aC bQ (aC bA (aA 1)<|mC<|.int 3)<|aC bA (aA 1)<|mC<|.int 3)<|mC<|.int 48271)<|aR<|j7 (aT<|aC (bD a8) (aA 0)<|cX aD) (aA 2)<|aC bA (aA 2)<|aC bQ (aC aI (aA 0)<|aC bN (aA 1)<|aG fL<|aB (aA 0) aD)<|aC bA (aA 1)<|mC<|.int 5) [a0 a,a0 b,a7] c):=by kernel_rfl
def Xr k a b c:f (k+1) "_law_number" [a,b] c=fin ((aE (aP 2<|aC bA (aC bA (aC bN (aG (f k "_law_given")<|aB (aA 0)<|aB (aA 1) aD)<|mC<|.int 1000003)<|aC bQ (mC<|.int 7)<|aA 1)<|mC<|.int 3)<|aR<|aC bN (aC bQ (aC bQ (aA 2)<|aA 2)<|mC<|.int 48271)<|mC<|.int 2147483647) [a0 a,a0 b,a7] c):=by kernel_rfl
def Xs k a b c:f (k+1) "_law_quarters" [a,b] c=fin ((aE (aP 2<|cX aD)<|aE (bO (lV<|aB (mC<|.int 1)<|aB (aC bQ (mC<|.int 4)<|aA 0) aD) (bS 3)<|bO (lV<|aB (mC<|.int 1)<|aB (aC bQ (mC<|.int 4)<|aA 1) aD) (bS 4)<|bK (jJ (j6 (aT<|aC (bD a8) (aC bN (aA 3)<|mC<|.int 4)<|mC<|.int 2)<|aT<|aC (bD a8) (aC bN (aA 4)<|mC<|.int 2)<|mC<|.int 1)<|j6 (aT<|aC (bD a8) (aC bN (aA 4)<|mC<|.int 4)<|mC<|.int 2)<|aT<|aC (bD a8) (aC bN (aA 3)<|mC<|.int 2)<|mC<|.int 1) (cY<|cK dJ (aA 2)<|aB (bP<|aB (aA 3)<|aB (aA 4) aD) aD) bV)<|aR<|aA 2) [a0 a,a0 b,a7,a7,a7] c):=by kernel_rfl
def Xu k a b c:f (k+1) "_law_rims" [a,b] c=fin ((aE (aP 2<|cX aD)<|aE (bO (lV<|aB (mC<|.int 1)<|aB (aC bQ (mC<|.int 4)<|aA 0) aD) (bS 3)<|bO (lV<|aB (mC<|.int 1)<|aB (aC bQ (mC<|.int 4)<|aA 1) aD) (bS 4)<|bK (j6 (aT<|aC (bD a8) (aC bN (aA 3)<|mC<|.int 2)<|aC bN (aA 4)<|mC<|.int 2)<|jJ (aT<|aC (bD a8) (aC bN (aA 3)<|mC<|.int 2)<|mC<|.int 1)<|aT<|aC (bD a9) (aC bN (aA 3)<|mC<|.int 4)<|aC bN (aA 4)<|mC<|.int 4) (cY<|cK dJ (aA 2)<|aB (bP<|aB (aA 3)<|aB (aA 4) aD) aD) bV)<|aR<|aA 2) [a0 a,a0 b,a7,a7,a7] c):=by kernel_rfl
def Xv k a b:f (k+1) "_law_beside" [a] b=fin ((aE (gM (aA 0)<|c8 [1,2])<|aE (bK (aT<|aC (bD a8) (aC bN (aA 1)<|mC<|.int 2)<|mC<|.int 1) (aR<|cX<|aB (bP<|aB (aA 1)<|aB (aC dH (aC bA (aA 2)<|mC<|.int 2)<|aC bN (aA 2)<|mC<|.int 4) aD)<|aB (bP<|aB (aC dH (aC bA (aA 1)<|mC<|.int 2)<|aC bN (aA 1)<|mC<|.int 4)<|aB (aA 2) aD) aD) bV)<|aE (bK (aT<|aC (bD a8) (aC bN (aA 2)<|mC<|.int 4)<|mC<|.int 0) (aR<|cX<|aB (bP<|aB (aA 1)<|aB (aC dH (aA 2)<|mC<|.int 1) aD)<|aB (bP<|aB (aA 1)<|aB (aC bA (aA 2)<|mC<|.int 1) aD) aD) bV)<|aR<|cX<|aB (bP<|aB (aC dH (aA 1)<|mC<|.int 1)<|aB (aA 2) aD)<|aB (bP<|aB (aC bA (aA 1)<|mC<|.int 1)<|aB (aA 2) aD) aD) [a0 a,a7,a7] b):=by kernel_rfl
def Xw k a b c:f (k+1) "_law_value" [a,b] c=fin ((aE (gM (aA 0)<|c8 [2,3])<|aR<|aC aI (cX<|aB (aA 3)<|aB (aA 2)<|aB (aC dH (aA 2)<|aA 3)<|aB (aC bA (aA 2)<|aA 3) aD)<|aA 1) [a0 a,a0 b,a7,a7] c):=by kernel_rfl
def XA k a b c:f (k+1) "_law_mirror" [a,b] c=fin ((aE (aP 2<|cX<|aB (bP<|aB (mC<|.int 1)<|aB (mC<|.int 0)<|aB (mC<|.int 0)<|aB (mW<|mC<|.int 1)<|aB (mC<|.int 0)<|aB (aC bQ (mC<|.int 2)<|aA 1) aD)<|aB (bP<|aB (mW<|mC<|.int 1)<|aB (mC<|.int 0)<|aB (mC<|.int 0)<|aB (mC<|.int 1)<|aB (aC bQ (mC<|.int 2)<|aA 1)<|aB (mC<|.int 0) aD) aD)<|aR<|aC aI (aC bA (aA 2)<|cX<|aB (bP<|aB (mC<|.int 0)<|aB (mC<|.int 1)<|aB (mC<|.int 1)<|aB (mC<|.int 0)<|aB (aA 1)<|aB (mW<|aA 1) aD)<|aB (bP<|aB (mC<|.int 0)<|aB (mW<|mC<|.int 1)<|aB (mW<|mC<|.int 1)<|aB (mC<|.int 0)<|aB (aA 1)<|aB (aA 1) aD) aD)<|aA 0) [a0 a,a0 b,a7] c):=by kernel_rfl
def XB k a b c:f (k+1) "_law_led" [a,b] c=fin ((aE (gM (aA 0)<|c8 [2,3,4,5,6,7])<|aE (gM (aA 1)<|c8 [8,9])<|aR<|bP<|aB (aC bA (aC bA (aC bQ (aA 2)<|aA 8)<|aC bQ (aA 3)<|aA 9)<|aA 6)<|aB (aC bA (aC bA (aC bQ (aA 4)<|aA 8)<|aC bQ (aA 5)<|aA 9)<|aA 7) aD) [a0 a,a0 b,a7,a7,a7,a7,a7,a7,a7,a7] c):=by kernel_rfl
def XC k a b c:f (k+1) "_law_then" [a,b] c=fin ((aE (gM (aA 0)<|c8 [2,3,4,5,6,7])<|aE (gM (aA 1)<|c8 [8,9,10,11,12,13])<|aE (aP 14<|bP<|aB (aC bA (aC bQ (aA 8)<|aA 2)<|aC bQ (aA 9)<|aA 4)<|aB (aC bA (aC bQ (aA 8)<|aA 3)<|aC bQ (aA 9)<|aA 5)<|aB (aC bA (aC bQ (aA 10)<|aA 2)<|aC bQ (aA 11)<|aA 4)<|aB (aC bA (aC bQ (aA 10)<|aA 3)<|aC bQ (aA 11)<|aA 5) aD)<|aR<|aC bA (aA 14)<|bP<|aB (aC bA (aC bA (aC bQ (aA 8)<|aA 6)<|aC bQ (aA 9)<|aA 7)<|aA 12)<|aB (aC bA (aC bA (aC bQ (aA 10)<|aA 6)<|aC bQ (aA 11)<|aA 7)<|aA 13) aD) [a0 a,a0 b,a7,a7,a7,a7,a7,a7,a7,a7,a7,a7,a7,a7,a7] c):=by kernel_rfl
def XD k a b c d e g h:f (k+1) "_law_fold" [a,b,c,d,e,g] h=fin ((aE (gT 1 (aP 7<|eC (fR<|aA 1) eX<|aC (bD a8) (aC oD (aG (f k "_law_value")<|aB (aA 14)<|aB (aA 2) aD)<|aA 3)<|aA 4) c5)<|aE (bK (jJ (aT<|aC (cA a9) (mC<|.bl a9)<|aA 7)<|aT<|aC (cA a9) (mC<|.bl a8)<|aA 7) (aR<|bP<|aB (aA 0)<|aB (aA 1) aD) bV)<|aE (aP 8<|aG (f k "_law_mirror")<|aB (aA 2)<|aB (aA 3) aD)<|aE (aP 9 fA)<|aE (gT 0 (bO (fR<|aA 0) (bS 10)<|IU k) c5)<|aE (aP 11 fA)<|aE (aP 12 fA)<|aE (gT 1 (bO (fR<|aA 1) (bS 6)<|IV k) c5)<|aE (gT 12 (bO (fR<|aA 12) (bS 6) IW) c5)<|aR<|bP<|aB (aA 9)<|aB (aA 11) aD) [a0 a,a0 b,a0 c,a0 d,a0 e,a0 g,a7,a7,a7,a7,a7,a7,a7,a7] h):=by kernel_rfl
def XE k a b c d e g:f (k+1) "_law_grown" [a,b,c,d,e] g=fin ((aE (aP 5 fA)<|aE (aP 6 fA)<|aE (bO (bZ<|aG (f k "_law_quarters")<|aB (aA 1)<|aB (aA 2) aD) (bS 7) IX)<|aE (bO (oE<|aB (aA 4) aD) (bS 8)<|aE (aP 9<|aG (f k "_law_number")<|aB (aA 0)<|aB (aC bA (aA 3)<|aA 8) aD)<|aE (aP 10<|aC bN (aA 9)<|mC<|.int 4)<|aE (aP 11<|aG fT<|aB (aA 6) aD)<|aE (aP 12<|aG (f k "_law_value")<|aB (aC aI (aA 11)<|aC bN (aC iJ (aA 9)<|mC<|.int 4)<|aG fL<|aB (aA 11) aD)<|aB (aA 10) aD)<|aE (aP 13<|aC bN (aC iJ (aA 9)<|mC<|.int 4096)<|mC<|.int 4)<|gM (aG (f k "_law_fold")<|aB (aA 5)<|aB (aA 6)<|aB (aA 10)<|aB (aC dH (aA 12)<|aC bN (aA 12)<|mC<|.int 4)<|aB (aC (bD a8) (aC bN (aA 13)<|mC<|.int 2)<|mC<|.int 0)<|aB (aC lT (aA 13)<|mC<|.int 2) aD)<|c8 [5,6])<|aR<|bP<|aB (aA 5)<|aB (aA 6) aD) [a0 a,a0 b,a0 c,a0 d,a0 e,a7,a7,a7,a7,a7,a7,a7,a7,a7] g):=by kernel_rfl
def XF k a b c d:f (k+1) "_law_creased" [a,b,c] d=fin ((aE (aP 3<|cX aD)<|aE (bO (bZ<|aG (f k "_law_rims")<|aB (aA 1)<|aB (aA 2) aD) (bS 4)<|aE (gM (aG (f k "_law_beside")<|aB (aA 4) aD)<|c8 [5,6])<|bK (aT<|aC (bD a9) (aC aI (aA 0)<|aA 5)<|aC aI (aA 0)<|aA 6) (cY<|cK dJ (aA 3)<|aB (aA 4) aD) bV)<|aR<|aA 3) [a0 a,a0 b,a0 c,a7,a7,a7,a7] d):=by kernel_rfl
def XG k a b c d:f (k+1) "_law_homes" [a,b,c] d=fin ((aE (aP 3 fA)<|aE (bO (bZ<|aG (f k "_law_quarters")<|aB (aA 0)<|aB (aA 1) aD) (bS 4)<|cQ (aA 3) (aA 4)<|cX aD)<|aE (bO (bZ<|aG (f k "_law_rims")<|aB (aA 0)<|aB (aA 1) aD) (bS 5)<|aE (gM (aG (f k "_law_beside")<|aB (aA 5) aD)<|c8 [6,7])<|bK (aT<|aC (cA a9) (aA 5)<|aA 2) (aE (cY<|cK dJ (aC aI (aA 3)<|aA 6)<|aB (aA 7) aD)<|cY<|cK dJ (aC aI (aA 3)<|aA 7)<|aB (aA 6) aD) bV)<|aE (aP 8 fA)<|aE (aP 9<|mC<|.int 0)<|aE (bO (bZ<|aG fT<|aB (aA 3) aD) (bS 4)<|bK (aT<|aC (cA a9) (aA 4)<|aA 8) (aE (cQ (aA 8) (aA 4)<|aA 9)<|aE (aP 10<|cX<|aB (aA 4) aD)<|aE (mY nN (aT<|aC (bD a9) (aA 10)<|cX aD)<|aE (aP 11<|cK kT (aA 10) aD)<|bO (bZ<|aC aI (aA 3)<|aA 11) (bS 12)<|bK (aT<|aC (cA a9) (aA 12)<|aA 8) (aE (cQ (aA 8) (aA 12)<|aA 9)<|cY<|cK dJ (aA 10)<|aB (aA 12) aD) bV)<|aP 9<|aC bA (aA 9)<|mC<|.int 1) bV)<|aR<|aA 8) [a0 a,a0 b,a0 c,a7,a7,a7,a7,a7,a7,a7,a7,a7,a7] d):=by kernel_rfl
def XH k a b c:f (k+1) "_law_shared" [a,b] c=fin ((aE (aP 2 fA)<|aE (gT 0 (bO (fR<|aA 0) (bS 3)<|aE (aP 4<|aG nE<|aB (eC (bZ<|aC aI (aA 0)<|aA 3) eX<|aC aI (aA 1)<|aA 7) aD)<|bO (oE<|aB (aG fL<|aB (aA 4) aD) aD) (bS 5)<|bO (bZ<|jL (aA 4) (eV<|aC bA (aA 5)<|mC<|.int 1) fG) (bS 6)<|cQ (aA 2) (bP<|aB (aC aI (aA 4)<|aA 5)<|aB (aA 6) aD)<|mC<|.bl a9) c5)<|aR<|aG fT<|aB (aA 2) aD) [a0 a,a0 b,a7,a7,a7,a7,a7] c):=by kernel_rfl
def XI k a b c:f (k+1) "_law_told" [a,b] c=fin ((aE (bK (jJ (iY<|dS<|aG fH<|aB (aA 0)<|aB (mC<|.ty "list") aD)<|aT<|aC (bD a9) (aA 0)<|aA 1) (aR<|mC<|.bl a8) bV)<|aE (bO (bZ<|aA 0) (bS 2)<|bK (jJ (iY<|dS<|aG fH<|aB (aA 2)<|aB (mC<|.ty "tuple") aD)<|jJ (dS<|aG fH<|aB (aC aI (aA 2)<|mC<|.int 0)<|aB (mC<|.ty "bool") aD)<|dS<|aG fH<|aB (aC aI (aA 2)<|mC<|.int 1)<|aB (mC<|.ty "bool") aD) (aR<|mC<|.bl a8) bV)<|aR<|mC<|.bl a9) [a0 a,a0 b,a7] c):=by kernel_rfl
def XJ k a b:f (k+1) "law" [a] b=fin ((aE (aP 1<|aG (f k "_law_number")<|aB (aA 0)<|aB (mC<|.int 0) aD)<|aE (aP 2<|aC bA (mC<|.int 1)<|aC bN (aA 1)<|mC<|.int 3)<|aE (aP 3<|aC bA (mC<|.int 1)<|aC bN (aC iJ (aA 1)<|mC<|.int 3)<|mC<|.int 3)<|aE (gM (aG (f k "_law_grown")<|aB (aA 0)<|aB (aA 2)<|aB (aA 3)<|aB (mC<|.int 2)<|aB (aC bN (aC iJ (aA 1)<|mC<|.int 9)<|mC<|.int 6) aD)<|c8 [4,5])<|aE (aP 6<|aG (f k "_law_creased")<|aB (aA 4)<|aB (aA 2)<|aB (aA 3) aD)<|aE (aP 7<|aG (f k "sheet_of")<|aB (aA 2)<|aB (aA 3)<|aB (eC (bZ<|aA 6) eX<|bP<|aB (aA 13)<|aB (aC aI (mC<|.str "hvo")<|aC bN (aC bA (aC bA (aC aI (aA 13)<|mC<|.int 0)<|aC bQ (mC<|.int 5)<|aC aI (aA 13)<|mC<|.int 1)<|aC iJ (aA 1)<|mC<|.int 54)<|mC<|.int 3) aD) aD)<|aE (aP 8<|aG (f k "_law_shared")<|aB (aA 5)<|aB (aG (f k "_law_homes")<|aB (aA 2)<|aB (aA 3)<|aB (aA 6) aD) aD)<|aE (aP 9<|aG (f k "pairs")<|aB (aA 7)<|aB (aA 4) aD)<|aE (bK (iY<|dS<|aG (f k "_law_told")<|aB (aA 9)<|aB (aA 8) aD) (aR<|mC<|.bl a8) bV)<|aE (cY<|cK qB (aA 9) aD)<|aE (aP 10<|aG (f k "_law_mirror")<|aB (aC bN (aA 1)<|mC<|.int 4)<|aB (aC bQ (mC<|.int 4)<|aC dH (aC bN (aC iJ (aA 1)<|mC<|.int 1000)<|mC<|.int 41)<|mC<|.int 20) aD)<|aE (aP 11 fA)<|aE (bO (bZ<|aG nJ<|aB (aA 4)<|aB (mC<|.bl a9) aD) (bS 12)<|cQ (aA 11) (aA 12)<|aG (f k "_law_then")<|aB (aC aI (aA 4)<|aA 12)<|aB (aA 10) aD)<|aR<|eJ (aG (f k "_law_told")<|aB (aG (f k "pairs")<|aB (aA 7)<|aB (aA 11) aD)<|aB (aA 8) aD)<|aG (f k "_law_told")<|aB (aG (f k "pairs")<|aB (aA 7)<|aB (aG (f k "laid")<|aB (aA 7) aD) aD)<|aB (aA 8) aD) [a0 a,a7,a7,a7,a7,a7,a7,a7,a7,a7,a7,a7,a7] b):=by kernel_rfl
def oY{Q:jz}:W (bQ (.int 4) (.int z) a) Q↔Q (.int<|4*z,a):=k7<|.inl ⟨by decide,by decide⟩
def Ĳ{Q:jz}:W (bN (.int z) (.int 2) a) Q↔Q (.int<|z%2,a):=i9<|by decide
def ĝ{Q:jz}:W (bN (.int z) (.int 4) a) Q↔Q (.int<|z%4,a):=i9<|by decide
def jf{Q:jz}:W (iJ (.int z) (.int 4) a) Q↔Q (.int<|z/4,a):=qO (by decide)<|by decide
def XM:(2:Nat)<=Ñ:=by decide
def fV:([a,b]:List D).length<=Ñ:=XM
def XN:(1:Nat)<=Ñ:=by decide
def Jb:([a]:List D).length<=Ñ:=XN
abbrev rK:D->Int
 |.int i=>i|_=>0
def XO(h:d∈nO lo n):∃j,j<n/\d=.int (lo+(j:Int)):=by unfold nO at h;obtain⟨j,a,rfl⟩:=Þ.mp h;show⟨j,Ů.mp a,rfl⟩
def Jc{C:MS}{Q:jz}(h:t ρ a=a0 (b,μ'))(h1:b=a9->W (fin<|aE A C ρ μ') Q)(c:b=a8->W (fin<|aE B C ρ μ') Q):W (fin<|aE (bK t A B) C ρ a) Q:=by
 cases b
 .have e:aE (bK t A B) C ρ a=aE B C ρ μ':=by unfold aE bK;rw[h];rfl
  rw[e];show c rfl
 .have e:aE (bK t A B) C ρ a=aE A C ρ μ':=by unfold aE bK;rw[h];rfl
  rw[e];show h1 rfl
def qQ{C:MS}{Q:jz}(h:a ρ c=a0 (.nx,b,μ'))(k:W (fin<|C b μ') Q):W (fin<|aE a C ρ c) Q:=by unfold aE;rw[h];show k
def Jd(h:m ρ a=a0 (d,μ')):aP i m ρ a=a0 (.nx,ρ.set i<|a0 d,μ'):=by unfold aP;rw[h];rfl
def vH{o:Option a}{r:a}{Q:a->Prop}(h:W o λx=>x=r):W o Q↔Q r:=by obtain⟨_,h,rfl⟩:=h;rw[h];show À
def Je{o:Option a}{r:a}(h:∀Q,W o Q↔Q r):o=a0 r:=by obtain⟨_,e,b⟩:=(h λx=>x=r).mpr rfl;rw[e,b]
def XQ{ds:List D}{Q:jz}(h:ms ρ a=a0 (ds,μ'))(k:W (g ds μ') Q):W (aG g ms ρ a) Q:=by unfold aG;rw[h];show k
def XR{Q:jz}(h1:a ρ e=a0 (x,c))(h:b ρ c=a0 (y,d))(k:W (g x y d) Q):W (aC g a b ρ e) Q:=by unfold aC;rw[h1,ğ,h];show k
def XS{Q:jz}(k:W (m ρ a) Q):W (fin<|aR m ρ a) Q:=Ù.mpr<|Î.mpr<|bI k λ_ q=>q
def Jf{o:Option α}{r:α}{Q:α->Prop}(h:o=a0 r)(q:Q r):W o Q:=⟨r,h,q⟩
def ð{Q:jz}(e:o=fin a)(h:W a λp=>match p.1 with|.rt d=>Q (d,p.2.2)|.nx=>Q (.non,p.2.2)|_=>False):W o Q:=e▸Ù.mpr h
def bL{C:MS}(h:W (m ρ μ) λp=>W (C (ρ.set i<|a0 p.1) p.2) R):W (aE (aP i m) C ρ μ) R:=Ê.mpr<|Ē.mpr h
def hG{C:MS}(h:W (A ρ μ) λp=>p.1=.nx/\W (C p.2.1 p.2.2) R):W (aE A C ρ μ) R:=Ê.mpr<|bI h λp q=>by rw[q.1];show q.2
def vJ{C:MS}(h:W (m ρ μ) λp=>W (C ρ p.2) R):W (aE (cY m) C ρ μ) R:=Ê.mpr<|Ć.mpr h
def dP(h:W (m ρ μ) λp=>R (.rt p.1,ρ,p.2)):W (aR m ρ μ) R:=Î.mpr h
def bX{ds:List D}{Q:jz}(h:ms ρ μ=a0 (ds,μ'))(k:W (g ds μ') Q):W (aG g ms ρ μ) Q:=Ë.mpr ⟨_,h,k⟩
def eM{Q:jz}(h:W (ms ρ μ) λp=>W (g p.1 p.2) Q):W (aG g ms ρ μ) Q:=Ë.mpr h
def bJ(h:W (m ρ μ) λp=>W (ms ρ p.2) λq=>Q (p.1::q.1,q.2)):W (aB m ms ρ μ) Q:=Â.mpr h
def vK{Q:jz}(h:W (m ρ μ) λp=>W (g [p.1] p.2) Q):W (aG g (aB m aD) ρ μ) Q:=Ë.mpr<|Â.mpr<|bI h λ_ q=>⟨_,rfl,q⟩
def XT{C:MS}(h:t ρ μ=a0 (b,μ'))(h1:b=a9->W (aE A C ρ μ') R)(a:b=a8->W (aE B C ρ μ') R):W (aE (bK t A B) C ρ μ) R:=by
 show Ê.mpr<|Û.mpr ⟨_,h,?_⟩;cases b
 .show Ê.mp<|a rfl
 .show Ê.mp<|h1 rfl
def vL{C:MS}(h:W (t ρ μ) λp=>p.1=a8/\W (aE B C ρ p.2) R):W (aE (bK t A B) C ρ μ) R:=Ê.mpr<|Û.mpr<|bI h λp q=>by rw[if_neg<|by rw[q.1];show Ī];show Ê.mp q.2
def vM(h:W (t ρ μ) λp=>T (!p.1,p.2)):W (iY t ρ μ) T:=Ň.mpr h
def tD(h:W (m ρ μ) λp=>p.1=.bl b/\T (b,p.2)):W (dS m ρ μ) T:=Ė.mpr<|bI h λp ⟨e,q⟩=>by rw[e];show Ĝ.mpr q
def XU{C:MS}(h:W (m ρ μ) λp=>R (.rt p.1,ρ,p.2)):W (aE (aR m) C ρ μ) R:=Ê.mpr<|Î.mpr h
def tE{C:MS}(h:W (C ρ μ) R):W (aE bV C ρ μ) R:=Ê.mpr<|Ø.mpr h
def iA(h:W (m ρ μ) λp=>∃b,p.1=.bl b/\T (b,p.2)):W (aT m ρ μ) T:=ê.mpr<|bI h λp ⟨b,e,q⟩=>by rw[e];show q
def Jg(h:W (s ρ μ) λp=>p.1=a8/\W (t ρ p.2) T):W (jJ s t ρ μ) T:=Ő.mpr<|bI h λp q=>by rw[if_neg<|by rw[q.1];show Ī];show q.2
def bW{Q:jz}(h1:a ρ μ=a0 (x,c))(e:b ρ c=a0 (y,d))(k:W (h x y d) Q):W (aC h a b ρ μ) Q:=Ô.mpr ⟨_,h1,_,e,k⟩
def cG{Q:jz}(k:W (a ρ μ) λp=>W (b ρ p.2) λq=>W (h p.1 q.1 q.2) Q):W (aC h a b ρ μ) Q:=Ô.mpr k
noncomputable abbrev CC:MF:=fT
def Jh{kvs:jx}{Q:jz}(h:b[a]?=a0 (.dT kvs))(_:kvs.length<64)(c:∀p∈kvs,p.1≠[]):W (CC [.loc a] b) Q↔Q (.loc b.length,b++[.lst<|(dO kvs).map λk=>D.tup<|k.1.map D.int]):=by
 have e:fT [.loc a] b=a0 (.loc b.length,b++[.lst<|(dO kvs).map λk=>D.tup<|k.1.map D.int]):=by simp only[fT,h];rw[if_pos c]
 change W (fT [.loc a] b) Q↔_;rw[e];show À
abbrev vO(x y:Int):Str:=if x%2=1 then(if x%4=y%4 then "falling" else "rising")else if y%4=0 then "level" else "upright"
def XW k x y a(Q:jz):W (f (k+1) "line_of" [P x y] a) Q↔Q (.str<|vO x y,a):=by rw[WS,Ù];simp only[Ê,Î,Ø,Û,ő,Ô,cV,aV,ê,Ă,ā,Ĥ,i9<|show(0:Int)<2 by decide,i9<|show(0:Int)<4 by decide];unfold vO;split<;>split<;>simp_all
abbrev CD(x y:Int)(a b:Int):Int:=if x%2=1 then(if x%4=y%4 then a-b else a+b)else if y%4=0 then b else a
def XX k x y a b c(Q:jz):W (f (k+1) "number_by" [.str<|vO x y,P a b] c) Q↔Q (.int<|CD x y a b,c):=by show vH ?_;rw[WX];unfold vO CD;split<;>split<;>show⟨_,rfl,rfl⟩
abbrev bG(p e:Int×Int):Int×Int:=
 if e.1%2=1 then(if e.1%4=e.2%4 then(p.2+(e.1-e.2),p.1-(e.1-e.2))else(e.1+e.2-p.2,e.1+e.2-p.1))else if e.2%4=0 then(p.1,2*e.2-p.2)else(2*e.1-p.1,p.2)
def Ji k x y a b c(Q:jz):W (f (k+2) "mirrored" [P x y,P a b] c) Q↔Q (PP<|bG (x,y) (a,b),c):=by show vH ?_;rw[WY];show qQ rfl<|qQ rfl<|qQ (Jd<|Je<|XW k a b c)<|qQ (Jd<|Je<|XX k a b a b c) ?_;unfold vO CD bG;split<;>split<;>show⟨_,rfl,rfl⟩
def Jj p a b:bG (bG p (a,b)) (a,b)=p:=by obtain⟨x,y⟩:=p;unfold bG;dsimp only;split<;>split<;>(show þ ?_ ?_<;>dsimp only<;>lia)
abbrev dC:D->Int×Int
 |.tup [.int x,.int y]=>(x,y)|_=>(0,0)
def vP p(l:jq):((l.map PP).filter λd=>p<|dC d).map (λd=>d)=(l.filter p).map PP:=by
 rw[Pn];induction l with
 |nil=>rfl|cons a l b=>
  have e:(xu PP<|a::l).filter (λd=>p<|dC d)=if p a then PP a::(l.map PP).filter (λd=>p<|dC d)else(l.map PP).filter λd=>p (dC d):=by rw[ù,QD];rfl
  rw[e,b,QD];split<;>rfl
def qR{l:jq}(h:d∈l.map PP):∃x y,d=P x y:=by obtain⟨p,_,rfl⟩:=Þ.mp h;show⟨p.1,p.2,rfl⟩
def CF{n:Nat}{i:Int}(a:0<=i)(h:i<n):lQ n i=a0 i.toNat:=by unfold lQ;rw[if_pos a,if_pos h]
def Jk{a:List Int}{i:Int}(b:0<=i)(h:i<a.length):atI (a.map D.int) i=a0 (.int<|a.getD i.toNat 0):=by
 unfold atI;rw[Å,CF b h,ğ,ú];have c:i.toNat<a.length:=by lia
 simp[ę,c]
def Jl{Q:jz}(h:atI xs i=a0 d):W (aI (.rol xs) (.int i) a) Q↔Q (d,a):=by
 have:aI (.rol xs) (.int i) a=a0 (d,a):=by simp only[aI,jK,bM,ğ,h,į]
 rw[this];show À
abbrev mI:List Int->Int
 |[]=>0|g::r=>g-mI r
def XY{Q:jz}(e:a[b]?=a0 (.lst [])):W (bD a8 (.rol<|ns.map D.int) (.loc b) a) Q↔Q (.bl<|ns==[],a):=by
 have c:eW a (.rol<|ns.map D.int)=a0 (.lst<|ns.map D.int):=rfl;have d:eW a (.loc b)=a0 (.lst<|([]:List Int).map D.int):=by simp only[eW,e];rfl
 have:dG 8 a (.rol<|ns.map D.int) (.loc b)=a0 (ns==[]):=by change(eW a<|.rol<|ns.map D.int).bind (λx=>(eW a<|.loc b).bind λy=>rO (dG 7 a) x y)=_;rw[c,d];show ID 6 a ns []
 unfold bD;rw[this];show À
structure Ly where
 a:Int
 b:Int
 c:Int
 d:Int
 e:Int
 g:Int
 deriving DecidableEq
noncomputable abbrev LD(A:Ly):D:=.tup [.int A.a,.int A.b,.int A.c,.int A.d,.int A.e,.int A.g]
abbrev Ď(A:Ly):Prop:=(A.b=0/\A.c=0/\(A.a=1\/A.a=-1)/\(A.d=1\/A.d=-1))\/(A.a=0/\A.d=0/\(A.b=1\/A.b=-1)/\(A.c=1\/A.c=-1))
def Ď.sm(h:Ď A):(-1<=A.a/\A.a<=1)/\(-1<=A.b/\A.b<=1)/\(-1<=A.c/\A.c<=1)/\(-1<=A.d/\A.d<=1):=by
 have z:∀{x:Int},x=0->-1<=x/\x<=1:=λe=>e▸by decide
 have o:∀{x:Int},x=1\/x=-1->-1<=x/\x<=1:=λe=>by rcases e with e|e<;>cases e<;>decide
 show h.elim (λ⟨b,c,a,d⟩=>⟨o a,z b,z c,o d⟩) λ⟨a,d,b,c⟩=>⟨z a,o b,o c,z d⟩
abbrev aO(A:Ly)(p:Int×Int):Int×Int:=(A.a*p.1+A.b*p.2+A.e,A.c*p.1+A.d*p.2+A.g)
abbrev cB(A B:Ly):Ly:=⟨B.a*A.a+B.b*A.c,B.a*A.b+B.b*A.d,B.c*A.a+B.d*A.c,B.c*A.b+B.d*A.d,B.a*A.e+B.b*A.g+B.e,B.c*A.e+B.d*A.g+B.g⟩
abbrev CG(A:Ly):Ly:=⟨A.a,A.c,A.b,A.d,-(A.a*A.e+A.c*A.g),-(A.b*A.e+A.d*A.g)⟩
abbrev cT:Ly:=⟨1,0,0,1,0,0⟩
abbrev fM(e:Int×Int):Ly:=
 ⟨(bG (1,0) e).1-(bG (0,0) e).1,(bG (0,1) e).1-(bG (0,0) e).1,(bG (1,0) e).2-(bG (0,0) e).2,(bG (0,1) e).2-(bG (0,0) e).2,(bG (0,0) e).1,(bG (0,0) e).2⟩
abbrev jU(A:Ly):Int:=A.a*A.d-A.b*A.c
def Ly.ext'{A:Ly}(h1:A.a=B.a)(a:A.b=B.b)(b:A.c=B.c)(c:A.d=B.d)(d:A.e=B.e)(e:A.g=B.g):A=B:=by cases A;cases B;simp_all
def Jm(a b d:Int):a+d-(b+d)=a-b:=by lia
def Jn(a b d:Int):a-d-(b-d)=a-b:=by lia
def oZ(a b d:Int):d-a-(d-b)=b-a:=by lia
def zA e:Ď (fM e):=by
 unfold fM bG;split<;>split
 .show .inr ⟨Jm 0 0 _,Jn 0 0 _,.inl<|Jm 1 0 _,.inl<|Jn 1 0 _⟩
 .show .inr ⟨oZ 0 0 _,oZ 0 0 _,.inr<|oZ 1 0 _,.inr<|oZ 1 0 _⟩
 .show .inl ⟨rfl,oZ 0 0 _,.inl rfl,.inr<|oZ 1 0 _⟩
 .show .inl ⟨oZ 0 0 _,rfl,.inr<|oZ 1 0 _,.inl rfl⟩
def XZ e:jU (fM e)=-1:=by
 have h:=zA e;obtain⟨x,y⟩:=e;unfold jU fM bG;dsimp only;split<;>split<;>dsimp only
 .rw[show(0:Int)+(x-y)-(0+(x-y))=0 by lia,show(1:Int)+(x-y)-(0+(x-y))=1 by lia,show(1:Int)-(x-y)-(0-(x-y))=1 by lia,show(0:Int)-(x-y)-(0-(x-y))=0 by lia];rfl
 .rw[show x+y-0-(x+y-0)=0 by lia,show x+y-1-(x+y-0)=-1 by lia];rfl
 .rw[show(1:Int)-0=1 by rfl,show 2*y-1-(2*y-0)=-1 by lia,show(0:Int)-0=0 by rfl,show 2*y-0-(2*y-0)=0 by lia];rfl
 .rw[show 2*x-1-(2*x-0)=-1 by lia,show(1:Int)-0=1 by rfl,show 2*x-0-(2*x-0)=0 by lia,show(0:Int)-0=0 by rfl];rfl
def mJ e p:aO (fM e) p=bG p e:=by
 obtain⟨x,y⟩:=e;obtain⟨u,v⟩:=p;unfold aO fM bG;dsimp only;split<;>split<;>dsimp only
 .rw[show(0:Int)+(x-y)-(0+(x-y))=0 by lia,show(1:Int)+(x-y)-(0+(x-y))=1 by lia,show(1:Int)-(x-y)-(0-(x-y))=1 by lia,show(0:Int)-(x-y)-(0-(x-y))=0 by lia];show þ ?_ ?_<;>dsimp only<;>lia
 .rw[show x+y-0-(x+y-0)=0 by lia,show x+y-1-(x+y-0)=-1 by lia];show þ ?_ ?_<;>dsimp only<;>lia
 .rw[show(1:Int)-0=1 by rfl,show 2*y-1-(2*y-0)=-1 by lia,show(0:Int)-0=0 by rfl,show 2*y-0-(2*y-0)=0 by lia];show þ ?_ ?_<;>dsimp only<;>lia
 .rw[show 2*x-1-(2*x-0)=-1 by lia,show(1:Int)-0=1 by rfl,show 2*x-0-(2*x-0)=0 by lia,show(0:Int)-0=0 by rfl];show þ ?_ ?_<;>dsimp only<;>lia
def k9 A B p:aO (cB A B) p=aO B (aO A p):=by unfold aO cB;show þ ?_ ?_<;>dsimp only<;>grind
def Jo A B:jU (cB A B)=jU A*jU B:=by unfold jU cB;dsimp only;grind
def X0 A:cB A cT=A:=by unfold cB cT;show Ly.ext' (by dsimp only;lia) (by dsimp only;lia) (by dsimp only;lia) (by dsimp only;lia) (by dsimp only;lia)<|by dsimp only;lia
def Jp A:cB cT A=A:=by unfold cB cT;show Ly.ext' (by dsimp only;lia) (by dsimp only;lia) (by dsimp only;lia) (by dsimp only;lia) (by dsimp only;lia)<|by dsimp only;lia
def vQ A B E:cB (cB A B) E=cB A (cB B E):=by unfold cB;show Ly.ext' ?_ ?_ ?_ ?_ ?_ ?_<;>dsimp only<;>grind
def zB:Ď cT:=.inl ⟨rfl,rfl,.inl rfl,.inl rfl⟩
def CH(h:Ď A):∃e g,A=⟨1,0,0,1,e,g⟩\/A=⟨1,0,0,-1,e,g⟩\/A=⟨-1,0,0,1,e,g⟩\/A=⟨-1,0,0,-1,e,g⟩\/A=⟨0,1,1,0,e,g⟩\/A=⟨0,1,-1,0,e,g⟩\/A=⟨0,-1,1,0,e,g⟩\/A=⟨0,-1,-1,0,e,g⟩:=by
 obtain⟨a,b,c,d,e,g⟩:=A;show⟨e,g,?_⟩;rcases h with⟨k,l,i,j⟩|⟨k,l,i,j⟩<;>cases k<;>cases l
 .rcases i with i|i<;>rcases j with j|j<;>cases i<;>cases j
  .show .inl rfl
  .show .inr<|.inl rfl
  .show .inr<|.inr<|.inl rfl
  .show .inr<|.inr<|.inr<|.inl rfl
 .rcases i with i|i<;>rcases j with j|j<;>cases i<;>cases j
  .show .inr<|.inr<|.inr<|.inr<|.inl rfl
  .show .inr<|.inr<|.inr<|.inr<|.inr<|.inl rfl
  .show .inr<|.inr<|.inr<|.inr<|.inr<|.inr<|.inl rfl
  .show .inr<|.inr<|.inr<|.inr<|.inr<|.inr<|.inr rfl
def o8(a:x=1\/x=-1)(b:y=1\/y=-1):x*y=1\/x*y=-1:=by rcases a with rfl|rfl<;>rcases b with rfl|rfl<;>decide
def o9{x:Int}(h:x=0\/y=0)(k:z=0\/t=0):x*y+z*t=0:=by rw[fj.mpr h,fj.mpr k];rfl
def zC(k:z=0\/t=0)(h:x*y=1\/x*y=-1):x*y+z*t=1\/x*y+z*t=-1:=by rw[fj.mpr k,ye];show h
def zD(k:x=0\/y=0)(h:z*t=1\/z*t=-1):x*y+z*t=1\/x*y+z*t=-1:=by rw[fj.mpr k,Q3];show h
def vT(hA:Ď A)(hB:Ď B):Ď (cB A B):=by
 rcases hA with⟨a,b,c,d⟩|⟨a,b,c,d⟩<;>rcases hB with⟨u,v,w,x⟩|⟨u,v,w,x⟩
 .show .inl ⟨o9 (.inr a)<|.inl u,o9 (.inl v)<|.inr b,zC (.inl u)<|o8 w c,zD (.inl v)<|o8 x d⟩
 .show .inr ⟨o9 (.inl u)<|.inr b,o9 (.inr a)<|.inl v,zD (.inl u)<|o8 w d,zC (.inl v)<|o8 x c⟩
 .show .inr ⟨o9 (.inr a)<|.inl u,o9 (.inl v)<|.inr b,zC (.inl u)<|o8 w c,zD (.inl v)<|o8 x d⟩
 .show .inl ⟨o9 (.inl u)<|.inr b,o9 (.inr a)<|.inl v,zD (.inl u)<|o8 w d,zC (.inl v)<|o8 x c⟩
def zE(hA:Ď A)p:aO (CG A) (aO A p)=p:=by obtain⟨e,g,h⟩:=CH hA;rcases h with rfl|rfl|rfl|rfl|rfl|rfl|rfl|rfl<;>(show þ ?_ ?_<;>dsimp only[aO,CG]<;>lia)
def CI(h:∀p,aO A p=aO B p):A=B:=by have a:=h (0,0);have b:=h (1,0);have c:=h (0,1);unfold aO at a b c;simp only[OT]at a b c;show Ly.ext' ⋯ ⋯ ⋯ ⋯ ⋯<|by lia
def CJ p:aO cT p=p:=by unfold aO cT;show þ ?_ ?_<;>dsimp only<;>lia
def X1 e:cB (fM e) (fM e)=cT:=CI λp=>by rw[k9,mJ,mJ,CJ];show Jj p e.1 e.2
def CK:([a,b,c,d,e,g]:List D).length<=Ñ:=by change(6:Nat)<=Ñ;decide
def Jq k p q r a(Q:jz):W (f (k+1) "laying_by" [PP p,PP q,PP r] a) Q↔Q (LD ⟨q.1-p.1,r.1-p.1,q.2-p.2,r.2-p.2,p.1,p.2⟩,a):=by rw[show f (k+1) "laying_by" [PP p,PP q,PP r] a=a0 (LD ⟨q.1-p.1,r.1-p.1,q.2-p.2,r.2-p.2,p.1,p.2⟩,a)from(Xg k _ _ _ a).trans<|by kernel_rfl];show À
def CL{Q:jz}(d:aA 0 ρ c=a0 (P x y,c))(H:Q (PP<|bG (a,b) (x,y),c)):W (aG (f (k+2) "mirrored") (aB (bP<|aB (mC<|.int a)<|aB (mC<|.int b) aD)<|aB (aA 0) aD) ρ c) Q:=
 eM<|bJ<|à.mpr ⟨_,rfl,fV,bJ ⟨_,d,_,rfl,(Ji k a b x y _ _).mpr H⟩⟩
def X2 k x y a(Q:jz):W (f (k+3) "mirror_in" [P x y] a) Q↔Q (LD<|fM (x,y),a):=
 vH <|ð (Xh (k+2) _ a)<|dP<|eM<|bJ<|CL rfl<|bJ<|CL rfl<|bJ<|CL rfl ⟨_,rfl,(Jq (k+1) _ _ _ _ _).mpr rfl⟩
def pF(h:-1<=i/\i<=1){Q:jz}:W (bQ (.int i) (.int j) a) Q↔Q (.int<|i*j,a):=k7<|.inl ⟨by lia,by lia⟩
def Jr{Q:jz}(h:aI A (.int c0) c=a0 (.int a,c))(h1:aI A (.int c1) c=a0 (.int b,c))(k:aI A (.int g) c=a0 (.int e,c))(d:aA n ρ c=a0 (A,c))(o:aA i ρ c=a0 (.int x,c))(p:aA j ρ c=a0 (.int y,c))(l:-1<=a/\a<=1)(m:-1<=b/\b<=1)(H:Q (.int<|a*x+b*y+e,c)):
  W (aC bA (aC bA (aC bQ (aC aI (aA n)<|mC<|.int c0)<|aA i)<|aC bQ (aC aI (aA n)<|mC<|.int c1)<|aA j) (aC aI (aA n)<|mC<|.int g) ρ c) Q:=
 cG<|cG<|cG<|bW d rfl ⟨_,h,_,o,(pF l).mpr<|cG<|bW d rfl ⟨_,h1,_,p,(pF m).mpr<|ä.mpr<|bW d rfl ⟨_,k,ä.mpr H⟩⟩⟩
def CM k A(hA:Ď A)x y a(Q:jz):W (f (k+1) "led" [LD A,P x y] a) Q↔Q (PP<|aO A (x,y),a):=by
 obtain⟨b,c,d,e⟩:=hA.sm;show vH <|
  ð (Xi k _ _ a)<|bL ⟨_,rfl,bL ⟨_,rfl,dP<|à.mpr<|bJ<|Jr rfl rfl rfl rfl rfl rfl b c<|bJ<|Jr rfl rfl rfl rfl rfl rfl d e ⟨_,rfl,fV,rfl⟩⟩⟩
def Js(p q a b c d e g h:Int):p*(a*1+b*0+e)+q*(c*1+d*0+g)+h-(p*(a*0+b*0+e)+q*(c*0+d*0+g)+h)=p*a+q*c:=by grind
def Jt(p q a b c d e g h:Int):p*(a*0+b*1+e)+q*(c*0+d*1+g)+h-(p*(a*0+b*0+e)+q*(c*0+d*0+g)+h)=p*b+q*d:=by grind
def Ju(p q a b c d e g h:Int):p*(a*0+b*0+e)+q*(c*0+d*0+g)+h=p*e+q*g+h:=by grind
def CN(hA:Ď A)(hB:Ď B){Q:jz}(b:aA 0 ρ a=a0 (LD A,a))(h1:aA 1 ρ a=a0 (LD B,a))(H:Q (PP<|aO B<|aO A (x,y),a)):W (aG (f (k+1) "led") (aB (aA 1)<|aB (aG (f (k+1) "led")<|aB (aA 0)<|aB (bP<|aB (mC<|.int x)<|aB (mC<|.int y) aD) aD) aD) ρ a) Q:=
 eM<|bJ ⟨_,h1,bJ<|eM<|bJ ⟨_,b,bJ<|à.mpr ⟨_,rfl,fV,_,rfl,(CM k A hA x y _ _).mpr ⟨_,rfl,(CM k B hB _ _ _ _).mpr H⟩⟩⟩⟩
def X3 k A B(hA:Ď A)(hB:Ď B)a(Q:jz):W (f (k+2) "then" [LD A,LD B] a) Q↔Q (LD<|cB A B,a):=
 vH <|ð (Xj (k+1) _ _ a)<|dP<|eM<|bJ<|CN hA hB rfl rfl<|bJ<|CN hA hB rfl rfl<|bJ<|CN hA hB rfl rfl ⟨_,rfl,(Jq k _ _ _ _ _).mpr<|congrArg (λz=>(LD z,a))<|Ly.ext' (Js ..) (Jt ..) (Js ..) (Jt ..) (Ju ..)<|Ju ..⟩
abbrev kI(lo:Int)(n m:Nat):jq:=(ġ n).flatMap λ(i:Nat)=>(ġ m).map λ(j:Nat)=>(lo+(i:Int),lo+(j:Int))
abbrev lE(lo x:Int)(m:Nat):jq:=(ġ m).map λ(j:Nat)=>(x,lo+(j:Int))
def Jv lo n m:kI lo (n+1) m=kI lo n m++lE lo (lo+(n:Int)) m:=by unfold kI lE;rw[za,Mq];simp
def Jw lo x m:lE lo x (m+1)=lE lo x m++[(x,lo+(m:Int))]:=by unfold lE;rw[za,Ę];rfl
def Jx lo x m:(lE lo x m).length=m:=by unfold lE;simp
def Jy lo m:∀n,(kI lo n m).length=n*m
 |0=>by simp[kI]
 |n+1=>by rw[Jv,å,Jy lo m n,Jx,yf]
def Jz{b:Hm}:(b.set a c).set a c'=b.set a c':=OI ..
def cH{b:Hm}(h:b[a]?=a0 c):(b.set a c')[a]?=a0 c':=by rw[τ (Ú.mp h).1]
def CO(a:Hm)(c c':C):(a++[c]).set a.length c'=a++[c']:=by rw[NL _ _<|Õ _];simp
def CP{b:Hm}(h:b[a]?=a0 c):b.set a c=b:=by obtain⟨d,rfl⟩:=Ú.mp h;show List.set_getElem_self d
noncomputable abbrev JA:MS:=cY<|cK dJ (aA 2)<|aB (bP<|aB (aA 3)<|aB (aA 4) aD) aD
def X4 T(c:Int->Int->Bool)e g a x(r:∀y b Q,W (T [a0 e,a0 g,a0<|.loc a,a0<|.int x,a0<|.int y] b) Q↔Q (c x y,b))lo m(ps:jq)(s:ps.length+m<=1000)b(h:b[a]?=a0 (.lst<|ps.map PP))o Q(d:∀o,Q (.nx,[a0 e,a0 g,a0<|.loc a,a0<|.int x,o],b.set a<|.lst<|(ps++(lE lo x m).filter λp=>c p.1 p.2).map PP)):W (dZ (jN lo m) (bS 4) (bK T JA bV) (m+1) 0 [a0 e,a0 g,a0<|.loc a,a0<|.int x,o] b) Q:=by
 show vC (λi l j=>i<=m/\j=b.set a (.lst<|(ps++(lE lo x i).filter λp=>c p.1 p.2).map PP)/\∃o,l=[a0 e,a0 g,a0<|.loc a,a0<|.int x,o]) ⟨Ģ _,?_,o,rfl⟩ ?_ ?_
 .simp only[lE,Qm,Ϣ,Mg,ů];show(CP h).symm
 .rintro i l k q ⟨_,rfl,o,rfl⟩;show⟨_,rfl,?_⟩;simp only[ũ,Ž,Û];rw[r];cases n:c x (lo+(i:Int))with
  |false=>simp only[ĸ,if_false,Ø];show⟨q,?_,_,rfl⟩;rw[Jw,Ϗ];simp[n]|true=>
   simp only[if_true,Ć];show iO ?_;simp only[aV,bF];show⟨gX<|cH h,?_⟩;simp only[Â,b7,à,aV,bF,fV,true_and];show(nP (cH h) ?_).mpr ?_
   .have:=Ų (λp=>c p.1 p.2)<|lE lo x i;rw[Jx]at this;rw[Å,å,Ā];lia
   show⟨q,?_,_,rfl⟩;rw[Jz,Jw,Ϗ];simp[n,PP,P]
 .rintro l k ⟨_,rfl,o,rfl⟩;show d o
def JB T(e:Int->Int->Bool)c d a(r:MI)lo m(hit:∀o1 o2 b Q,W (r [a0 c,a0 d,a0<|.loc a,o1,o2] b) Q↔Q (jN lo m,m+1,b))(u:∀x y b Q,W (T [a0 c,a0 d,a0<|.loc a,a0<|.int x,a0<|.int y] b) Q↔Q (e x y,b))n(w:n*m+m<=900)b(l:b[a]?=a0 (.lst []))Q(g:∀o1 o2,Q (.nx,[a0 c,a0 d,a0<|.loc a,o1,o2],b.set a<|.lst<|((kI lo n m).filter λp=>e p.1 p.2).map PP)):W (dZ (jN lo n) (bS 3) (bO r (bS 4)<|bK T JA bV) (n+1) 0 [a0 c,a0 d,a0<|.loc a,a7,a7] b) Q:=by
 show vC (λi k h=>i<=n/\h=b.set a (.lst<|((kI lo i m).filter λp=>e p.1 p.2).map PP)/\∃o1 o2,k=[a0 c,a0 d,a0<|.loc a,o1,o2]) ⟨Ģ _,?_,a7,a7,rfl⟩ ?_ ?_
 .simp only[kI,Qm,QF,Mg,Ϣ];show(CP l).symm
 .rintro i k j q ⟨_,rfl,o1,o2,rfl⟩;show⟨_,rfl,?_⟩;simp only[ũ,Ž,Í];rw[hit];show X4 T e c d a _ (u _) lo m _ ?_ _ (cH l) _ _ λo=>?_
  .have s:=Ų (λp=>e p.1 p.2)<|kI lo i m;rw[Jy]at s;have v:i*m<=n*m:=Nat.mul_le_mul_right _<|Ζ q;lia
  .show⟨q,?_,_,_,rfl⟩;rw[Jz,Jv,Ϗ]
 .rintro k j ⟨_,rfl,o1,o2,rfl⟩;show g o1 o2
abbrev nQ(x y:Int):Bool:=(x%2==1&&y%2==1)||(x%2==0&&x%4+y%4==2)
abbrev X5(x y:Int):Bool:=(x%4==2&&y%2==1)||(x%2==1&&y%4==2)
abbrev aX(w h:Int):jq:=(kI 0 (4*w).toNat (4*h).toNat).filter λp=>X5 p.1 p.2
abbrev aN(p:Int×Int):List Int:=[p.1,p.2]
def CQ{a:Type}l(d:a):(ġ l.length).map (λi=>l.getD i d)=l:=by show QC (by simp) λi c b=>?_;simp[ę,b]
def kJ{es:jq}{i:Nat}(h:(es.map PP)[i]?=a0 d):∃p,es[i]?=a0 p/\d=PP p:=by rw[ú]at h;obtain⟨p,a,b⟩:=Ō.mp h;show⟨p,a,b.symm⟩
def cC q:dR (PP q)=a0 (aN q):=rfl
noncomputable abbrev Kv:=List<|(Int×Int)×Ly
abbrev c7(kvs:Kv):jx:=kvs.map λp=>(aN p.1,LD p.2)
def CS(a:(l.map (·.1)).Nodup)(h:(k,d)∈l):bB l k=a0 d:=by
 induction l with
 |nil=>cases h|cons p l b=>
  rw[ù,Ś]at a;unfold bB;rw[au];rcases ċ.mp h with h|h
  .rw[<- h];simp
  .have:decide (p.1=k)=false:=decide_eq_false λz=>a.1<|Þ.mpr ⟨_,h,z.symm⟩;rw[this];show b a.2 h
def mM(h:aN p=aN q):p=q:=by unfold aN at h;injection h with h1 h2;injection h2 with h2;show þ h1 h2
def ţ:W (c8 [i1,i2,i3,h,i,j] (.tup [a,b,c,d,e,g]) ρ k) Q↔Q ((((((ρ.set i1<|a0 a).set i2<|a0 b).set i3<|a0 c).set h<|a0 d).set i<|a0 e).set j<|a0 g):=À
def X6(d:(kvs.map (·.1)).Nodup):((c7 kvs).map (·.1)).Nodup:=by
 have e:(c7 kvs).map (·.1)=(kvs.map (·.1)).map aN:=by unfold c7;rw[ã,ã];rfl
 rw[e];show NI _ (λa b c z=>c<|mM z) d
noncomputable abbrev Gr:=List<|(Int×Int)×jq
abbrev eN(G:Gr)(p q:Int×Int):Gr:=if(G.map (·.1)).contains p then G.map (λg=>if g.1=p then(g.1,g.2++[q])else g)else G++[(p,[q])]
noncomputable abbrev Zr:=List<|(Int×Int)×jq×Nat
abbrev GZ(Z:Zr):Gr:=Z.map λz=>(z.1,z.2.1)
abbrev aW(Z:Zr):jx:=Z.map λz=>(aN z.1,D.loc z.2.2)
structure GI(μ0 μ:Hm)(a:Nat)(Z:Zr):Prop where
 pre:μ0<+:μ
 lo:μ0.length<=a
 dic:μ[a]?=a0 (.dT<|aW Z)
 kd:(Z.map (·.1)).Nodup
 bd:(Z.map (·.2.2)).Nodup
 at_:∀z∈Z,μ0.length<=z.2.2/\μ[z.2.2]?=a0 (.lst<|z.2.1.map PP)
def qS(d:(Z.map (·.1)).Nodup)(h:z∈Z):bB (aW Z) (aN z.1)=a0 (.loc z.2.2):=by
 show CS ?_<|Þ.mpr ⟨z,h,rfl⟩;have e:(aW Z).map (·.1)=(Z.map (·.1)).map aN:=by unfold aW;rw[ã,ã];rfl
 rw[e];show NI _ (λa b c x=>c<|mM x) d
def CT(h:p∉Z.map (·.1)):bB (aW Z) (aN p)=none:=by
 unfold bB;rw[ni.mpr]
 .rfl
 .intro x a;obtain⟨z,b,rfl⟩:=Þ.mp a;rw[decide_eq_true_iff];show λe=>h<|Þ.mpr ⟨z,b,mM e⟩
def zF{Z:Zr}(h:p∈Z.map (·.1)):∃z∈Z,z.1=p:=by obtain⟨z,a,b⟩:=Þ.mp h;show⟨z,a,b⟩
def X7{Z:Zr}(b:(Z.map (·.1)).Nodup)(hz:z∈Z)(c:y∈Z)(e:z.1=y.1):z=y:=by
 induction Z with
 |nil=>cases hz|cons x Z d=>
  rw[ù,Ś]at b;rcases ċ.mp hz with a|a<;>rcases ċ.mp c with h2|h2
  .rw[a,h2]
  .show(b.1<|Þ.mpr ⟨y,h2,by rw[<- a];show e.symm⟩).elim
  .show(b.1<|Þ.mpr ⟨z,a,by rw[<- h2];show e⟩).elim
  .show d b.2 a h2
def X8{Z:Zr}(b:(Z.map (·.2.2)).Nodup)(hz:z∈Z)(c:y∈Z)(e:z.2.2=y.2.2):z=y:=by
 induction Z with
 |nil=>cases hz|cons x Z d=>
  rw[ù,Ś]at b;rcases ċ.mp hz with a|a<;>rcases ċ.mp c with h2|h2
  .rw[a,h2]
  .show(b.1<|Þ.mpr ⟨y,h2,by rw[<- a];show e.symm⟩).elim
  .show(b.1<|Þ.mpr ⟨z,a,by rw[<- h2];show e⟩).elim
  .show d b.2 a h2
def lH Z:(GZ Z).map (·.1)=Z.map (·.1):=by unfold GZ;rw[ã];rfl
def X9(h:p∈Z.map (·.1)):eN (GZ Z) p q=GZ (Z.map λz=>if z.1=p then(z.1,z.2.1++[q],z.2.2)else z):=by
 unfold eN;rw[lH,if_pos<|ύ.mpr h];unfold GZ;rw[ã,ã];show a2x λz _=>?_;change(if z.1=p then(z.1,z.2.1++[q])else(z.1,z.2.1))=_;by_cases e:z.1=p
 .simp[e]
 .simp[e]
def Yb(h:p∉Z.map (·.1)):eN (GZ Z) p q=GZ (Z++[(p,[q],b)]):=by unfold eN;rw[lH,if_neg λz=>h<|ύ.mp z];unfold GZ;rw[Ę];rfl
def GI.more{μ':Hm}(I:GI μ0 b a Z)(h:b<+:μ'):GI μ0 μ' a Z:=⟨I.pre.trans h,I.lo,aH h I.dic,I.kd,I.bd,λz hz=>⟨(I.at_ z hz).1,aH h (I.at_ z hz).2⟩⟩
def GI.ne(I:GI μ0 c a Z)(hz:z∈Z):z.2.2≠a:=λe=>by have b:=(I.at_ z hz).2;rw[e,I.dic]at b;cases b
def GI.hit(I:GI μ0 c a Z)(hz:z∈Z)q:
  GI μ0 (c.set z.2.2<|.lst<|z.2.1.map PP++[PP q]) a (Z.map λy=>if y.1=z.1 then(y.1,y.2.1++[q],y.2.2)else y):=by
 have i:(Z.map λy=>if y.1=z.1 then(y.1,y.2.1++[q],y.2.2)else y).map (·.1)=Z.map (·.1):=by rw[ã];show a2x λy _=>?_;change(if y.1=z.1 then(y.1,y.2.1++[q],y.2.2)else y).1=y.1;split<;>rfl
 have h:(Z.map λy=>if y.1=z.1 then(y.1,y.2.1++[q],y.2.2)else y).map (·.2.2)=Z.map (·.2.2):=by rw[ã];show a2x λy _=>?_;change(if y.1=z.1 then(y.1,y.2.1++[q],y.2.2)else y).2.2=y.2.2;split<;>rfl
 have j:aW (Z.map λy=>if y.1=z.1 then(y.1,y.2.1++[q],y.2.2)else y)=aW Z:=by unfold aW;rw[ã];show a2x λy _=>?_;change(aN (if y.1=z.1 then(y.1,y.2.1++[q],y.2.2)else y).1,D.loc (if y.1=z.1 then(y.1,y.2.1++[q],y.2.2)else y).2.2)=_;split<;>rfl
 show⟨cS I.pre (I.at_ z hz).1 _,I.lo,?_,by rw[i];show I.kd,by rw[h];show I.bd,λy k=>?_⟩
 .rw[j,đ<|I.ne hz];show I.dic
 .obtain⟨x,b,rfl⟩:=Þ.mp k;obtain⟨d,g⟩:=I.at_ x b;by_cases e:x.1=z.1
  .have:x=z:=X7 I.kd b hz e;subst this;rw[if_pos rfl];show⟨d,?_⟩;change(c.set x.2.2 _)[x.2.2]?=_;rw[cH g,Ę];rfl
  .rw[if_neg e];show⟨d,?_⟩;rw[đ λw=>e<|by rw[X8 I.bd b hz w.symm]];show g
def JC(h:p∉Z.map (·.1)):cI (aW Z) (aN p) (.loc b)=aW (Z++[(p,qs,b)]):=by unfold cI;rw[CT h,if_neg<|by simp];unfold aW;rw[Ę];rfl
def GI.new(I:GI μ0 j a Z)(k:p∉Z.map (·.1))(h:j[b]?=a0 (.lst<|qs.map PP))(m:μ0.length<=b)(n:∀z∈Z,z.2.2≠b):
  GI μ0 (j.set a<|.dT<|cI (aW Z) (aN p)<|.loc b) a (Z++[(p,qs,b)]):=by
 have i:b≠a:=λe=>by rw[e,I.dic]at h;cases h
 show⟨cS I.pre I.lo _,I.lo,by rw[cH I.dic,JC k],?_,?_,λz c=>?_⟩
 .rw[Ę,Ϯ];show⟨I.kd,by simp,λx g y d e=>by
   simp only[ù,Ϣ,ĉ]at d;rw[e,d]at g;show k g⟩
 .rw[Ę,Ϯ];show⟨I.bd,by simp,λx g y d e=>by
   simp only[ù,Ϣ,ĉ]at d;obtain⟨z,c,l⟩:=Þ.mp g;show n z c<|by rw[l,e,d]⟩
 .rcases Ą.mp c with c|c
  .rw[đ<|ć<|I.ne c];show I.at_ z c
  .rw[ĉ.mp c];show⟨m,by rw[đ<|ć i];show h⟩
def Yc(h:p∈Z.map (·.1))(d:(Z.map (·.1)).Nodup):cI (aW Z) (aN p) (.loc b)=aW (Z.map λy=>if y.1=p then(y.1,qs,b)else y):=by
 obtain⟨z,c,e⟩:=zF h;unfold cI;rw[<- e,qS d c,RB,if_pos rfl];unfold aW;rw[ã,ã];show a2x λy _=>?_;change(if aN y.1=aN z.1 then(aN y.1,D.loc b)else(aN y.1,D.loc y.2.2))=(aN (if y.1=z.1 then(y.1,qs,b)else y).1,D.loc (if y.1=z.1 then(y.1,qs,b)else y).2.2);by_cases a:y.1=z.1
 .rw[if_pos<|by rw[a],if_pos a]
 .rw[if_neg λw=>a<|mM w,if_neg a]
def nC:∀a b c,HT.lexLt a b=a9->HT.lexLt b c=a9->HT.lexLt a c=a9
 |[],[],_,h,_=>by cases h
 |[],_::_,[],_,h=>by cases h
 |[],_::_,_::_,_,_=>rfl|_::_,[],_,h,_=>by cases h
 |_::_,_::_,[],_,h=>by cases h
 |x::xs,y::ys,z::zs,e,d=>by
  rw[HT.lexLt_cons]at e d ⊢;by_cases i:x=y
  .subst i;rw[if_pos rfl]at e;by_cases g:x=z
   .rw[if_pos g]at d ⊢;show nC xs ys zs e d
   .rw[if_neg g]at d ⊢;show d
  .rw[if_neg i]at e;have e:=of_decide_eq_true e;by_cases g:y=z
   .subst g;rw[if_neg i];show decide_eq_true e
   .rw[if_neg g]at d;have d:=of_decide_eq_true d;rw[if_neg<|by lia];show decide_eq_true<|by lia
def CU:∀a b c,HT.lexLt a b=a9->HT.lexLt a c=a9\/HT.lexLt c b=a9
 |[],[],_,h=>by cases h
 |[],_::_,[],_=>.inr rfl|[],_::_,_::_,_=>.inl rfl|_::_,[],_,h=>by cases h
 |_::_,_::_,[],_=>.inr rfl|x::xs,y::ys,z::zs,h=>by
  rw[HT.lexLt_cons]at h ⊢;rw[HT.lexLt_cons];by_cases e:x=y
  .subst e;rw[if_pos rfl]at h;by_cases d:x=z
   .subst d;rw[if_pos rfl,if_pos rfl];show CU xs ys zs h
   .rw[if_neg d,if_neg<|ć d,decide_eq_true_iff,decide_eq_true_iff];lia
  .rw[if_neg e]at h;have h:=of_decide_eq_true h;by_cases d:x=z
   .subst d;rw[if_neg e];show .inr<|decide_eq_true h
   .rw[if_neg d,decide_eq_true_iff];by_cases g:z=y
    .subst g;show .inl h
    .rw[if_neg g,decide_eq_true_iff];lia
def nB:∀k,HT.lexLt k k=a8
 |[]=>rfl|a::k=>by rw[HT.lexLt_cons,if_pos rfl];show nB k
def zG:∀a b,HT.lexLt a b=a8->HT.lexLt b a=a8->a=b
 |[],[],_,_=>rfl|[],_::_,h,_=>by cases h
 |_::_,[],_,h=>by cases h
 |x::xs,y::ys,c,d=>by
  rw[HT.lexLt_cons]at c d;by_cases e:x=y
  .subst e;rw[if_pos rfl]at c d;rw[zG xs ys c d]
  .rw[if_neg e]at c;rw[if_neg<|ć e]at d;have c:=of_decide_eq_false c;have d:=of_decide_eq_false d;lia
def JD(l:jx)i:(l.getD i ([],.non)).1=(l.map (·.1)).getD i []:=by rw[ę,ę,ú];cases l[i]?<;>rfl
def Yd(c:0<l.length)(k:(l.map (·.1)).Perm ks)(m:ks.Pairwise λx y=>HT.lexLt y x=a8):(dO l).map (·.1)=ks:=by
 have n:((dO l).map (·.1)).Perm ks:=by
  have p:(dO l).Perm l:=by unfold dO;have p:=(A8 (λi j=>HT.lexLt ((l.map (·.1)).getD i [])<|(l.map (·.1)).getD j []) c).map λi=>l.getD i ([],.non);rw[CQ]at p;show p
  show(p.map _).trans k
 have S:=Bj (lt:=HT.lexLt) nB nC CU [] (l.map (·.1)) (n:=l.length) c;have d:((dO l).map (·.1)).Pairwise λx y=>HT.lexLt y x=false:=by unfold dO;rw[ã,Χ];show S.imp λ{i j} h=>?_;change HT.lexLt (l.getD j ([],.non)).1 (l.getD i ([],.non)).1=a8;rw[JD,JD];show h
 show zq (le:=λx y=>HT.lexLt y x=a8) (λa b _ _ e g=>(zG b a e g).symm) d m n
def Ye(qs:jq):(qs.map aN).map (λk=>D.tup<|k.map D.int)=qs.map PP:=by rw[ã];rfl
def JE{f:D->List D->Hm->jk}{Q:jz}(h:W (a ρ b) λp=>sV p.2 p.1=a9/\W (ms ρ p.2) λq=>W (f p.1 q.1 q.2) Q):W (oR f a ms ρ b) Q:=by unfold oR;rw[Ã];show bI h λp q=>?_;rw[q.1];show Ã.mpr q.2
def JG{kvs:jx}(h:b[a]?=a0 (.dT kvs)):sV b (.loc a)=true:=by simp only[sV,h]
abbrev Yg(a:Nat)(Z:Zr)(b μ':Hm):Prop:=∀c x,b[c]?=a0 x->c≠a->(∀z∈Z,z.2.2≠c)->μ'[c]?=a0 x
def Yh{Z:Zr}{b:Nat}(h:p∉Z.map (·.1)):((Z++[(p,[],b)]:Zr).map λy=>if y.1=p then(y.1,y.2.1++[q],y.2.2)else y)=Z++[(p,[q],b)]:=by
 rw[Ę];have:(Z.map λy=>if y.1=p then(y.1,y.2.1++[q],y.2.2)else y)=Z:=by have e:(Z.map λy=>if y.1=p then(y.1,y.2.1++[q],y.2.2)else y)=Z.map id:=a2x λy a=>if_neg λe=>h<|Þ.mpr ⟨y,a,e⟩;rw[e,WF]
 rw[this];simp
def nR Z:(aW Z).length=Z.length:=Å ..
def Yi(I:GI μ0 b a Z)p q(K:Z.length<1000)(E:∀z∈Z,z.2.1.length<1000)(Q:jz)(H:∀l h,GI μ0 h a l->GZ l=eN (GZ Z) p q->Yg a Z b h->(∀z∈l,(∃y∈Z,y.2.2=z.2.2)\/b.length<=z.2.2)->Q (.non,h)):
  W (qL (.loc a) [PP p,.loc b.length]<|b++[.lst []]) λr=>qA r.2 r.1=a9/\W (dJ r.1 [PP q] r.2) Q:=by
 have i:=I.more<|aM b<|C.lst [];have A:=aU b<|C.lst [];have B:μ0.length<=b.length:=I.pre.length_le;have old:∀z∈Z,z.2.2<b.length:=λz d=>(Ú.mp (I.at_ z d).2).1;have L:a<b.length:=(Ú.mp I.dic).1;have k:∀c x,b[c]?=a0 x->(b++[C.lst []])[c]?=a0 x:=λc x e=>aH (aM _ _) e;by_cases j:p∈Z.map (·.1)
 .obtain⟨z,d,rfl⟩:=zF j;simp only[qL,i.dic,cC,ğ,qS I.kd d];show À.mpr ⟨gX (i.at_ z d).2,(nP (i.at_ z d).2<|by rw[Å,Ā];have:=E z d;lia).mpr ?_⟩;show H _ _ (i.hit d q) (X9 j).symm (λc x e u v=>?_) λy g=>?_
  .rw[đ<|v z d];show k c x e
  .obtain⟨x,G,rfl⟩:=Þ.mp g;show .inl ⟨x,G,?_⟩;split<;>rfl
 .have m:(aW Z).length<Ñ:=by rw[nR,Ā];lia
  simp only[qL,i.dic,cC,ğ,CT j,if_pos m];have n:=i.new j (qs:=[]) (b:=b.length) A B λz d=>õ<|old z d;have w:(p,([]:jq),b.length)∈Z++[(p,[],b.length)]:=Ą.mpr<|.inr<|ĉ.mpr rfl;have s:=(n.at_ _ w).2;show À.mpr ⟨gX s,(nP s<|by rw[Å,Ā];change(0:Nat)<_;decide).mpr ?_⟩;have o:=n.hit w q;rw[Yh j]at o;show H _ _ o (Yb j).symm (λc x e u v=>?_) λy g=>?_
  .have hc:c<b.length:=(Ú.mp e).1;rw[đ<|by change b.length≠c;lia,đ<|ć u];show k c x e
  .rcases Ą.mp g with g|g
   .show .inl ⟨y,g,rfl⟩
   .rw[ĉ.mp g];show .inr<|Õ _
abbrev jB(g:Int×Int->Int×Int)(qs:jq):Gr:=qs.foldl (λG q=>eN G (g q) q) []
def Yj{qs:jq}(h:qs[i]?=a0 q):jB g (qs.take<|i+1)=eN (jB g<|qs.take i) (g q) q:=by unfold jB;rw[N8,h,N6];rfl
def Yk G p q:(eN G p q).length<=G.length+1:=by unfold eN;split<;>simp
def Yl(h:∀g∈G,g.2.length<=n):∀g∈eN G p q,g.2.length<=n+1:=by
 intro g a;unfold eN at a;split at a
 .obtain⟨x,b,rfl⟩:=Þ.mp a;have:=h x b;split
  .simp;lia
  .lia
 .rcases Ą.mp a with a|a
  .have:=h g a;lia
  .rw[ĉ.mp a];simp
def CV g qs:(jB g qs).length<=qs.length/\∀x∈jB g qs,x.2.length<=qs.length:=by
 suffices ∀(qs:jq)(G:Gr)(n:Nat),G.length<=n->(∀x∈G,x.2.length<=n)->(qs.foldl (λG q=>eN G (g q) q) G).length<=n+qs.length/\∀x∈qs.foldl (λG q=>eN G (g q) q) G,x.2.length<=n+qs.length by have:=this qs [] 0 (Õ _) λx c=>nomatch c;unfold jB;simpa using this
 intro qs;induction qs with
 |nil=>show λG n b a=>⟨b,a⟩|cons q qs d=>intro G n b a;have:=d (eN G (g q) q) (n+1) (by have:=Yk G (g q) q;lia)<|Yl a;rw[Ļ,show n+(qs.length+1)=n+1+qs.length by lia];show this
def fW Z:(GZ Z).length=Z.length:=Å ..
def Ym(e:GZ Z=G)(h:G.length<=n/\∀x∈G,x.2.length<=n):Z.length<=n/\∀z∈Z,z.2.1.length<=n:=by subst e;show⟨by rw[<- fW];show h.1,λz a=>h.2 (z.1,z.2.1)<|Þ.mpr ⟨z,a,rfl⟩⟩
def Yn{F:Int×Int->Ly}{row:jq}(a:row.Nodup)(h:q∈row):bB (c7<|row.map λq=>(q,F q)) (aN q)=a0 (LD<|F q):=by show CS (X6<|by rw[ã];show(by simpa[Function.comp_def]using a)) ?_;unfold c7;rw[ã];show Þ.mpr ⟨q,h,rfl⟩
def JI(F:Int×Int->Ly)(row:jq):(c7<|row.map λq=>(q,F q)).map (·.1)=row.map aN:=by unfold c7;rw[ã,ã];rfl
def JJ(F:Int×Int->Ly)(row:jq):(c7<|row.map λq=>(q,F q)).length=row.length:=by unfold c7;rw[Å,Å]
def Yo a xs:GI a ((a++[C.dT []])++[C.lst xs]) a.length []:=
 ⟨(aM _ _).trans<|aM _ _,Õ _,aH (aM _ _)<|aU _ _,ϱ,ϱ,λz b=>nomatch b⟩
def Yp k t(F:Int×Int->Ly)(O:∀q,Ď (F q))(row qs:jq)(j:row.Perm qs)(X:(qs.map aN).Pairwise λx y=>HT.lexLt y x=a8)(hn:1<=qs.length/\qs.length<64)(nd:qs.Nodup)c(G:c[t]?=a0 (.dT<|c7<|row.map λq=>(q,F q)))(Q:jz)(H:∀a Z b,GI c b a Z->GZ Z=jB (λq=>aO (F q) q) qs->Q (.loc a,b)):W (f (k+2) "stacks" [.loc t] c) Q:=by
 have w:row.Nodup:=j.nodup_iff.mpr nd;have T:row.length=qs.length:=j.length_eq;rw[Xl,Ù];simp only[Ê,Ē,Ü,ũ,Ž,Í,Ó,Ë,Â,b7,aV,bF];show(Jh (aH (aM _ _) G) (by rw[JJ];lia) λp U z=>?_).mpr ?_
 .have:p.1∈row.map aN:=by rw[<- JI F];show Þ.mpr ⟨p,U,rfl⟩
  obtain⟨x,_,e⟩:=Þ.mp this;rw[z]at e;cases e
 have N:(dO<|c7<|row.map λq=>(q,F q)).map (λk=>D.tup<|k.1.map D.int)=qs.map PP:=by have M:=Yd (l:=c7 (row.map λq=>(q,F q))) (by rw[JJ];lia) (by rw[JI];show j.map aN) X;rw[<- Ye,<- M,ã];rfl
 rw[N];show(dA<|aU _ _).mpr ?_;have R:(c++[C.dT []]).length=c.length+1:=by simp
 have u:=aU (c++[C.dT []])<|C.lst<|qs.map PP;have B:=Yo c<|qs.map PP;rw[R]at u ⊢;generalize(c++[C.dT []])++[C.lst<|qs.map PP]=μ1 at u B;show gW (λi r b=>∃Z o2,GI c b c.length Z/\GZ Z=jB (λq=>aO (F q) q) (qs.take i)/\b[c.length+1]?=a0 (.lst<|qs.map PP)/\(∀z∈Z,c.length+1<z.2.2)/\r=[a0<|.loc t,a0<|.loc c.length,o2]) ⟨[],a7,B,rfl,u,(λz m=>nomatch m),rfl⟩ (λi r b h=>let⟨Z,o2,_,_,g,_⟩:=h;g) ?_ ?_
 .rintro i d r A hd ⟨Z,o2,I,n,v,l,rfl⟩;obtain⟨q,E,rfl⟩:=kJ hd;have o:q∈row:=j.mem_iff.mpr<|Ğ E;show⟨[a0<|.loc t,a0<|.loc c.length,a0<|PP q],rfl,?_⟩;simp only[Ć];show iO<|JE ?_;simp only[aV,bF];show⟨JG I.dic,?_⟩;simp only[Â,b7,Ë,Ô,aV,bF,ô];show(Cz (aH I.pre G) (cC q)<|Yn w o).mpr ?_;show(CM k (F q) (O q) q.1 q.2 _ _).mpr ⟨Ģ _,?_⟩;have sm:=Ym n<|CV _ _;have Y:=ϵ i qs;show Yi I (aO (F q) q) q (by have:=sm.1;lia) (λz m=>by have:=sm.2 z m;lia) _ λL b K s kp nw=>?_;show⟨L,a0<|PP q,K,by rw[s,n,Yj E],kp _ _ v ⋯ λz m=>by have:=l z m;lia,λz m=>?_,rfl⟩;rcases nw z m with⟨y,hy,e⟩|e
  .rw[<- e];show l y hy
  .have:=(Ú.mp v).1;lia
 .rintro r A ⟨Z,o2,I,n,v,l,rfl⟩;rw[Å,ś]at n;simp only[Î,aV,bF];show H _ _ _ I n
abbrev cL(k:Int)(p:Int×Int):Int:=if k=0 then p.2 else if k=1 then p.1 else if k=2 then p.1-p.2 else p.1+p.2
abbrev cD(k n:Int):Ly:=if k=0 then⟨1,0,0,-1,0,2*n⟩else if k=1 then⟨-1,0,0,1,2*n,0⟩else if k=2 then⟨0,1,1,0,n,-n⟩else⟨0,-1,-1,0,n,n⟩
def vU k n:Ď (cD k n):=by
 unfold cD;split
 .show .inl ⟨rfl,rfl,.inl rfl,.inr rfl⟩
 split
 .show .inl ⟨rfl,rfl,.inr rfl,.inl rfl⟩
 split
 .show .inr ⟨rfl,rfl,.inl rfl,.inl rfl⟩
 .show .inr ⟨rfl,rfl,.inr rfl,.inr rfl⟩
def zH k n p:aO (cD k n) (aO (cD k n) p)=p:=by
 obtain⟨x,y⟩:=p;unfold cD aO;split
 .show þ ?_ ?_<;>dsimp only<;>lia
 split
 .show þ ?_ ?_<;>dsimp only<;>lia
 split
 .show þ ?_ ?_<;>dsimp only<;>lia
 .show þ ?_ ?_<;>dsimp only<;>lia
abbrev cU(G:Gr)(p:Int×Int):jq:=match G.find? (λg=>decide<|g.1=p)with|some g=>g.2|none=>[]
abbrev eQ(G:Gr)(p:Int×Int)(L:jq):Gr:=if(G.map (·.1)).contains p then G.map (λg=>if g.1=p then(g.1,L)else g)else G++[(p,L)]
def CW p:cU [] p=[]:=rfl
def jC g(G:Gr)p:cU (g::G) p=if g.1=p then g.2 else cU G p:=by
 unfold cU;rw[au];by_cases e:g.1=p
 .rw[if_pos e,decide_eq_true e]
 .rw[if_neg e,decide_eq_false e]
def lI(a:(G.map (·.1)).Nodup)(h:g∈G):cU G g.1=g.2:=by
 induction G with
 |nil=>cases h|cons x G b=>
  rw[ù,Ś]at a;rw[jC];rcases ċ.mp h with rfl|h
  .show if_pos rfl
  .rw[if_neg λe:x.1=g.1=>a.1<|by rw[e];show Þ.mpr ⟨g,h,rfl⟩,b a.2 h]
def qT(h:p∉G.map (·.1)):cU G p=[]:=by
 induction G with
 |nil=>rfl|cons x G a=>rw[ù,ċ,not_or]at h;rw[jC,if_neg λe=>h.1 e.symm,a h.2]
def JK(h:p∉G.map (·.1)):cU (G++K) p=cU K p:=by
 induction G with
 |nil=>rfl|cons x G a=>rw[ù,ċ,not_or]at h;rw[Ű,jC,if_neg λe=>h.1 e.symm,a h.2]
def ū(h:p∈G.map (·.1)):cU (G++K) p=cU G p:=by
 induction G with
 |nil=>cases h|cons x G a=>
  rw[Ű,jC,jC];by_cases e:x.1=p
  .rw[if_pos e,if_pos e]
  .rw[if_neg e,if_neg e];rw[ù,ċ]at h;show a<|h.resolve_left λw=>e w.symm
def JM G p L:(eQ G p L).map (·.1)=if(G.map (·.1)).contains p then G.map (·.1)else G.map (·.1)++[p]:=by
 unfold eQ;split
 .rw[ã];show a2x λg _=>?_;change(if g.1=p then(g.1,L)else g).1=g.1;split<;>rfl
 .rw[Ę];rfl
def JN(a:(G.map (·.1)).Nodup):((eQ G p L).map (·.1)).Nodup:=by
 rw[JM];split
 .show a
 .rename_i h;rw[Ϯ];show⟨a,by simp,λx b y c e=>h<|ύ.mpr<|by rw[ĉ.mp c]at e;show e▸b⟩
def Ϙ:q∈(eQ G p L).map (·.1)↔q∈G.map (·.1)\/q=p:=by
 rw[JM];split
 .rename_i h;show⟨.inl,λz=>z.elim id λe=>e▸ύ.mp h⟩
 .rw[Ą,ĉ]
def CY G p q L:cU (eQ G p L) q=if q=p then L else cU G q:=by
 unfold eQ;split
 .rename_i h;have h:=ύ.mp h;induction G with
  |nil=>cases h|cons x G d=>
   rw[ù,jC,jC];by_cases e:x.1=p
   .rw[if_pos e];by_cases a:q=p
    .rw[if_pos a,if_pos<|by rw[e,a]]
    .rw[if_neg a,if_neg<|by change ¬ x.1=q;rw[e];show λw=>a w.symm,if_neg<|by rw[e];show λw=>a w.symm];by_cases b:p∈G.map (·.1)
     .rw[d (ύ.mpr b) b,if_neg a]
     .have:(G.map λg=>if g.1=p then(g.1,L)else g)=G:=by have w:(G.map λg=>if g.1=p then(g.1,L)else g)=G.map id:=a2x λg i=>if_neg λe=>b<|Þ.mpr ⟨g,i,e⟩;rw[w,WF]
      rw[this]
   .rw[if_neg e];rw[ù,ċ]at h;have c:=h.resolve_left λw=>e w.symm;rw[d (ύ.mpr c) c];by_cases a:x.1=q
    .rw[if_pos a,if_pos a,if_neg<|by rw[<- a];show e]
    .rw[if_neg a,if_neg a]
 .rename_i h;have h:p∉G.map (·.1):=λz=>h<|ύ.mpr z;by_cases e:q=p
  .rw[if_pos e,e,JK h,jC,if_pos rfl]
  .rw[if_neg e];by_cases b:q∈G.map (·.1)
   .show ū b
   .rw[JK b,jC,if_neg λw=>e w.symm,CW,qT b]
def Yq(h:cU G p≠[]):p∈G.map (·.1):=SA λz=>h<|qT z
structure ŏ(qs:jq)(f:Int×Int->Int×Int)(G:Gr):Prop where
 kd:(G.map (·.1)).Nodup
 ne:∀g∈G,g.2≠[]
 pm:∀p,(cU G p).Perm (qs.filter λq=>decide<|f q=p)
def ŏ.key{f:Int×Int->Int×Int}(h:ŏ qs f G):p∈G.map (·.1)↔∃q∈qs,f q=p:=by
 constructor
 .intro d;obtain⟨g,c,rfl⟩:=Þ.mp d;have a:=h.pm g.1;rw[lI h.kd c]at a;obtain⟨q,b⟩:=Rb _<|h.ne g c;have:=Ŏ.mp<|a.mem_iff.mp b;show⟨q,this.1,of_decide_eq_true this.2⟩
 .rintro⟨q,b,rfl⟩;show Yq λe=>?_;have a:=h.pm<|f q;rw[e]at a;have:q∈([]:jq):=a.mem_iff.mpr<|Ŏ.mpr ⟨b,decide_eq_true rfl⟩;cases this
def JO{g:Type}a b(hd:∀x,a x=a9->b x=a8):∀l:List g,(l.filter λx=>a x||b x).Perm (l.filter a++l.filter b)
 |[]=>.nil|x::l=>by
  have e:=JO a b hd l;cases c:a x with
  |true=>rw[ϲ<|by simp[c],ϲ c,Ϥ<|by simp[hd x c]];show e.cons x|false=>
   cases d:b x with
   |true=>rw[ϲ<|by simp[d],Ϥ<|by simp[c],ϲ d];show(e.cons x).trans QR.symm|false=>rw[Ϥ<|by simp[c,d],Ϥ<|by simp[c],Ϥ<|by simp[d]];show e
abbrev kK(mv:Int×Int->Bool)(G:Gr):Gr:=G.filter λg=>!mv g.1
abbrev iP(mv:Int×Int->Bool)(M:Int×Int->Int×Int)(G:Gr):Gr:=(G.filter λg=>mv g.1).map λg=>(M g.1,g.2.reverse)
abbrev jD(a:Bool)(S:Gr)(g:(Int×Int)×jq):Gr:=eQ S g.1<|if a then cU S g.1++g.2 else g.2++cU S g.1
abbrev CZ(mv:Int×Int->Bool)(M:Int×Int->Int×Int)(a:Bool)(G:Gr):Gr:=(iP mv M G).foldl (jD a)<|kK mv G
def JP p:∀G,cU (kK mv G) p=if mv p then[]else cU G p
 |[]=>by cases mv p<;>rfl
 |g::G=>by
  have a:=JP (mv:=mv) p G;unfold kK at a ⊢;rw[jC];cases h:mv g.1 with
  |true=>
   rw[Ϥ<|by simp[h],a];by_cases e:g.1=p
   .rw[<- e,h];rfl
   .rw[if_neg e]
  |false=>
   rw[ϲ<|by simp[h],jC];by_cases e:g.1=p
   .rw[if_pos e,if_pos e,<- e,h];rfl
   .rw[if_neg e,if_neg e,a]
def JQ(a:∀p,M (M p)=p)p:∀G,cU (iP mv M G) p=if mv (M p)then(cU G<|M p).reverse else[]
 |[]=>by cases mv (M p)<;>rfl
 |g::G=>by
  have b:=JQ (mv:=mv) a p G;unfold iP at b ⊢;rw[jC];have c:M g.1=p↔g.1=M p:=⟨λe=>by rw[<- e,a],λe=>by rw[e,a]⟩;cases h:mv g.1 with
  |true=>
   rw[ϲ<|by simp[h],ù,jC];by_cases e:g.1=M p
   .rw[if_pos<|c.mpr e,if_pos e,<- e,h];rfl
   .rw[if_neg λw=>e<|c.mp w,if_neg e,b]
  |false=>
   rw[Ϥ<|by simp[h],b];by_cases e:g.1=M p
   .rw[<- e,h];rfl
   .rw[if_neg e]
def JR a:∀(K S:Gr),(K.map (·.1)).Nodup->(S.map (·.1)).Nodup->(∀g∈S,g.2≠[])->(∀g∈K,g.2≠[])->
  ((K.foldl (jD a) S).map (·.1)).Nodup/\(∀g∈K.foldl (jD a) S,g.2≠[])/\∀p,(cU (K.foldl (jD a) S) p).Perm (cU S p++cU K p)
 |[],S,_,hs,ns,_=>⟨hs,ns,λp=>by rw[CW,ů];show .refl _⟩|g::K,S,hk,hs,ns,nk=>by
  rw[ù,Ś]at hk;rw[az];have b:((jD a S g).map (·.1)).Nodup:=JN hs;have i:∀x∈jD a S g,x.2≠[]:=λx c=>by
   have e:cU (jD a S g) x.1=x.2:=lI b c;rw[<- e];unfold jD;rw[CY];have k:=nk g<|Ĭ ..;split
   .cases a
    .show λw=>k (Rw.mp w).1
    .show λw=>k (Rw.mp w).2
   .rename_i d;have:x.1∈(jD a S g).map (·.1):=Þ.mpr ⟨x,c,rfl⟩;rcases Ϙ.mp this with h|h
    .obtain⟨y,j,l⟩:=Þ.mp h;rw[<- l,lI hs j];show ns y j
    .show absurd h d
  obtain⟨m,n,o⟩:=JR a K (jD a S g) hk.2 b i λx c=>nk x<|ı _ c;show⟨m,n,λp=>(o p).trans ?_⟩;rw[jC];unfold jD;rw[CY];by_cases e:p=g.1
  .rw[if_pos e,if_pos e.symm,e,qT hk.1,ů];cases a
   .show ql
   .show .refl _
  .rw[if_neg e,if_neg λw=>e w.symm]
def Ys{f:Int×Int->Int×Int}(h:ŏ qs f G){mv:Int×Int->Bool}(d:∀p,M (M p)=p)c:
  ŏ qs (λq=>if mv (f q)then M (f q)else f q) (CZ mv M c G):=by
 have sub:∀(l:List ((Int×Int)×jq)),l.Sublist G->(l.map (·.1)).Nodup:=λl v=>(v.map _).nodup h.kd;have n:((iP mv M G).map (·.1)).Nodup:=by
  have e:(iP mv M G).map (·.1)=((G.filter λg=>mv g.1).map (·.1)).map M:=by unfold iP;rw[ã,ã];rfl
  rw[e];show NI _ (λa b j w=>j<|by rw[<- d a,w,d])<|sub _ Oq
 obtain⟨o,r,s⟩:=JR c (iP mv M G) (kK mv G) n (sub _ Oq) (λg k=>h.ne g (Ŏ.mp k).1) λg k=>by
  obtain⟨y,x,rfl⟩:=Þ.mp k;show λw=>h.ne y (Ŏ.mp x).1<|List.reverse_eq_nil_iff.mp w
 show⟨o,r,λp=>(s p).trans ?_⟩;rw[JP,JQ d];have e:(qs.filter λq=>decide<|(if mv (f q)then M (f q)else f q)=p)=qs.filter λq=>(!mv (f q)&&decide (f q=p))||(mv (f q)&&decide (f q=M p)):=by
  congr 1;funext q;have u:M (f q)=p↔f q=M p:=⟨λe=>by rw[<- e,d],λe=>by rw[e,d]⟩;cases mv (f q)with
  |true=>simp[u]|false=>simp
 rw[e];show Oe ?_ (JO _ _ (λq m=>?_) qs).symm
 .show Rq ?_ ?_
  .cases i:mv p with
   |true=>rw[if_pos rfl,N9.mpr];intro q _ w;rw[í]at w;have e:=of_decide_eq_true w.2;rw[e,i]at w;show Ī w.1|false=>
    rw[if_neg Ī];have:(qs.filter λq=>!mv (f q)&&decide (f q=p))=qs.filter λq=>decide (f q=p):=by
     congr 1;funext q;by_cases e:f q=p
     .simp[e,i]
     .simp[e]
    rw[this];show h.pm p
  .cases i:mv (M p)with
   |true=>
    rw[if_pos rfl];have:(qs.filter λq=>mv (f q)&&decide (f q=M p))=qs.filter λq=>decide (f q=M p):=by
     congr 1;funext q;by_cases e:f q=M p
     .simp[e,i]
     .simp[e]
    rw[this];show(my _).trans<|h.pm<|M p
   |false=>rw[if_neg Ī,N9.mpr];intro q _ w;rw[í]at w;have e:=of_decide_eq_true w.2;rw[e,i]at w;show Ī w.1
 .rw[í]at m;simp only[N4]at m;rw[m.1];rfl
def Yt(a:0<=u/\u<4):atI [D.int p.2,.int p.1,.int<|p.1-p.2,.int<|p.1+p.2] u=a0 (.int<|cL u p):=by
 have:u=0\/u=1\/u=2\/u=3:=by lia
 rcases this with rfl|rfl|rfl|rfl<;>rfl
def zI k p u(b:0<=u/\u<4)(a:Hm)(Q:jz)(H:∀μ',a<+:μ'->Q (.int<|cL u p,μ')):W (f (k+1) "_law_value" [PP p,.int u] a) Q:=by rw[Xw];show qQ rfl<|XS<|XR rfl rfl<|(vB (aU _ _)<|Yt b).mpr<|H _<|aM _ _
def Yu(a:0<=u/\u<4):atI [LD ⟨1,0,0,-1,0,2*n⟩,LD ⟨-1,0,0,1,2*n,0⟩,LD ⟨0,1,1,0,n,-n⟩,LD ⟨0,-1,-1,0,n,n⟩] u=a0 (LD<|cD u n):=by
 have:u=0\/u=1\/u=2\/u=3:=by lia
 rcases this with rfl|rfl|rfl|rfl<;>rfl
def JS k u n(b:0<=u/\u<4)(a:Hm)(Q:jz)(H:∀μ',a<+:μ'->Q (LD<|cD u n,μ')):W (f (k+1) "_law_mirror" [.int u,.int n] a) Q:=by rw[XA];show qQ rfl<|Ù.mpr ?_;simp only[Î,Ô,ô,à,Â,b7,cV,Wx,aV,bF,ũ,Ž];show⟨CK,CK,fV,?_⟩;show(y9 (aH (aM _ _)<|aU _ _) (aU _ _)<|by change(4:Nat)<=Ñ;decide).mpr ?_;show(vB (aU _ _)<|Yu b).mpr<|H _<|((aM _ _).trans<|aM _ _).trans<|aM _ _
def JT k A(hA:Ď A)p a(Q:jz):W (f (k+1) "_law_led" [LD A,PP p] a) Q↔Q (PP<|aO A p,a):=by obtain⟨b,c,d,e⟩:=hA.sm;rw[XB,Ù];simp only[Ê,ĳ,aV,ţ,Ν,ũ,Ž,Î,à,Â,b7,Ô,bF,pF b,pF c,pF d,pF e,ä,fV,true_and];rfl
def Yv{Q:jz}(h:xs≠[]/\ys≠[]/\xs.length+ys.length<=Ñ):W (bA (.tup xs) (.tup ys) a) Q↔Q (.tup<|xs++ys,a):=by simp only[bA];rw[if_pos h];show À
def Yw k(ns:List Int)i(d:0<=i/\i<=100)(c:Hm)(Q:jz)(H:∀v μ',c<+:μ'->Q (.int v,μ')):W (f (k+1) "_law_given" [.rol<|ns.map D.int,.int i] c) Q:=by
 rw[Xq,Ù];simp only[Ê,Û,ê,Ô,Ë,Â,b7,aV,bF,cV,IJ,Co,Å];by_cases h:i<ns.length
 .simp only[h,decide_true,if_true,Î,Ô,aV,bF];rw[Jl<|Jk d.1 h];show H _ _<|İ _
 .simp only[h,decide_false,ĸ,if_false,Ø,Ê,Ē,Ô,aV,bF,cV,ä];show(k7<|.inl<|by lia).mpr ((k7<|.inr<|by decide).mpr ?_);simp only[ũ,Ž,Î,ő,ê,Ô,aV,bF,ô,b7,cV];show⟨Ģ _,(XY<|aU _ _).mpr ?_⟩;by_cases a:ns=[]
  .have e:(ns==[])=true:=by rw[a];rfl
   rw[e];simp only[if_true];show H _ _<|aM _ _
  .have e:(ns==[])=false:=by
    cases ns with
    |nil=>show absurd rfl a|cons=>rfl
   have g:0<ns.length:=Ot.mpr a;rw[e];simp only[ĸ,if_false,Ë,Â,b7,aV,bF,IJ,Å];show(i9<|by lia).mpr ?_;have b:0<=i%(ns.length:Int)/\i%(ns.length:Int)<ns.length:=⟨uf _<|by lia,vg _<|by lia⟩;rw[Jl<|Jk b.1 b.2];simp only[ä];show(k7<|.inr<|by lia).mpr ?_;simp only[ä];show H _ _<|aM _ _
def JU k(ns:List Int)i(b:0<=i/\i<=100)(a:Hm)(Q:jz)(H:∀v μ',0<=v->v<2147483647->a<+:μ'->Q (.int v,μ')):W (f (k+2) "_law_number" [.rol<|ns.map D.int,.int i] a) Q:=by rw[Xr,Ù];simp only[Ê,Ē,Ô,Ë,Â,b7,aV,bF,cV];show Yw k ns i b _ _ λv d c=>?_;show(i9<|by decide).mpr ((k7<|.inl<|by decide).mpr ?_);simp only[ä,ũ,Ž,Î,Ô,aV,bF,cV];have e:=uf v (show(1000003:Int)≠0 by decide);have g:=vg v (show(0:Int)<1000003 by decide);show(k7<|.inl<|by lia).mpr ((k7<|.inr<|by decide).mpr<|(i9<|by decide).mpr ?_);show H _ _ (uf _<|by decide) (vg _<|by decide) c
def ſ{Q:jz}:W (bD a8 (.bl x) (.bl y) a) Q↔Q (.bl<|x==y,a):=À
def tF{Q:jz}(b:aA i ρ a=a0 (.int x,a))(c:aA j ρ a=a0 (.int y,a))(d:aA p ρ a=a0 (.int z,a))(e:aA q ρ a=a0 (.int w,a))(g:-1<=x/\x<=1)(hz:-1<=z/\z<=1)(H:Q (.int<|x*y+z*w,a)):W (aC bA (aC bQ (aA i)<|aA j) (aC bQ (aA p)<|aA q) ρ a) Q:=
 cG<|bW b c<|(pF g).mpr<|bW d e<|(pF hz).mpr<|ä.mpr H
def JV k A B(hA:Ď A)(hB:Ď B)a(Q:jz):W (f (k+1) "_law_then" [LD A,LD B] a) Q↔Q (LD<|cB A B,a):=by
 obtain⟨b,c,d,g⟩:=hB.sm;have w:W (f (k+1) "_law_then" [LD A,LD B] a) λr=>r=(LD<|cB A B,a):=by show ð (XC k _ _ a)<|Ê.mpr<|ĳ.mpr ⟨_,rfl,ţ.mpr<|Ê.mpr<|ĳ.mpr ⟨_,rfl,ţ.mpr ?_⟩⟩;dsimp only[ũ,Ž];show bL (à.mpr<|bJ<|tF rfl rfl rfl rfl b c<|bJ<|tF rfl rfl rfl rfl b c<|bJ<|tF rfl rfl rfl rfl d g<|bJ<|tF rfl rfl rfl rfl d g ⟨_,rfl,by change(4:Nat)<=Ñ;decide,?_⟩);show dP<|cG ⟨_,rfl,à.mpr<|bJ<|cG<|tF rfl rfl rfl rfl b c ⟨_,rfl,ä.mpr<|bJ<|cG<|tF rfl rfl rfl rfl d g ⟨_,rfl,ä.mpr ⟨_,rfl,fV,(Yv ⟨by simp,by simp,by change(6:Nat)<=Ñ;decide⟩).mpr rfl⟩⟩⟩⟩
 obtain⟨r,e,rfl⟩:=w;rw[e];show À
abbrev C0(x y:Int):Bool:=(x%4==2&&y%2==1)||(y%4==2&&x%2==1)
abbrev fX(w h:Int):jq:=(kI 1 (4*w-1).toNat (4*h-1).toNat).filter λp=>C0 p.1 p.2
def bT(h:1<=w/\w<=3):w∈[(1:Int),2,3]:=by
 have:w=1\/w=2\/w=3:=by lia
 rcases this with rfl|rfl|rfl<;>decide
abbrev qU:List (List Int)->Bool
 |x::y::r=>HT.lexLt x y&&qU (y::r)|_=>a9
def zJ:∀{l},qU l=a9->l.Pairwise λx y=>HT.lexLt x y=a9
 |[],_=>.nil|[x],_=>RW _ _|x::y::r,h=>by
  unfold qU at h;rw[í]at h;have b:=zJ h.2;show ut.mpr ⟨λz a=>?_,b⟩;rcases ċ.mp a with rfl|a
  .show h.1
  .show nC _ _ _ h.1<|(ut.mp b).1 z a
def Yx(h:HT.lexLt a b=a9):HT.lexLt b a=false:=by
 cases e:HT.lexLt b a with
 |false=>rfl|true=>have:=nC _ _ _ h e;rw[nB]at this;show this.symm
abbrev Dc(b:Hm)(a:Nat)(kvs:jx):Prop:=b[a]?=a0 (.dT kvs)\/b[a]?=a0 (.dF kvs)
def lJ{Q:jz}(h:Dc b a kvs)(c:dR y=a0 k)(e:bB kvs k=a0 d):W (aI (.loc a) y b) Q↔Q (d,b):=by
 have:aI (.loc a) y b=a0 (d,b):=by rcases h with h|h<;>simp only[aI,h,c,ğ,e,į]
 rw[this];show À
def JW{kvs:jx}(h:ρ[i]?=a0 (a0<|.loc a))(hc:b[a]?=a0 (.dT kvs))(H:W (c ρ<|b.set a<|.dF kvs) λr=>r.2.2[a]?=a0 (.dF kvs)/\Q (r.1,r.2.1,r.2.2.set a<|.dT kvs)):W (gT i c d ρ b) Q:=by
 have e:sU i ρ b=a0 (a,kvs):=by simp only[sU,h,hc]
 unfold gT;rw[e];rw[Ã];show bI H λr q=>?_;rw[q.1];show À.mpr q.2
def zK{kvs:jx}(m:ρ[i]?=a0 (a0<|.loc a))(hc:g[a]?=a0 (.dT kvs))(I:Nat->aF->Hm->Prop)(s:I 0 ρ (g.set a<|.dF kvs))(r:∀n k d c b,kvs[n]?=a0 (k,d)->I n c b->W (body (c.set j<|a0<|.tup<|k.map D.int) b) λp=>p.1=.nx/\I (n+1) p.2.1 p.2.2)(h:∀c b,I kvs.length c b->b[a]?=a0 (.dF kvs)/\Q (.nx,c,b.set a<|.dT kvs)):W (gT i (bO (fR<|aA i) (bS j) body) v ρ g) Q:=by
 show JW m hc ?_;have o:(g.set a<|.dF kvs)[a]?=a0 (.dF kvs):=cH hc;have hit:fR (aA i) ρ (g.set a<|.dF kvs)=a0 (c9<|.tup<|fJ kvs,kvs.length+1,g.set a<|.dF kvs):=by simp only[fR,aA,m,ğ,o]
 rw[Í,hit,À];show qP (N:=kvs.length) I (λn c b u l=>?_) (λc b l=>⟨?_,h c b l⟩) kvs.length 0 ρ _ ⋯ s
 .have e:kvs[n]?=a0 (kvs[n].1,kvs[n].2):=ó u;show⟨.tup<|kvs[n].1.map D.int,_,?_,rfl,bI (r n _ _ c b e l) λp q=>?_⟩
  .change a0 ((fJ kvs)[n]?)=_;unfold fJ;rw[ú,e];rfl
  .rw[q.1];show q.2
 .change a0 ((fJ kvs)[kvs.length]?)=_;rw[ώ<|by unfold fJ;simp]
structure HI(μ:Hm)(a:Nat)(Z:Zr):Prop where
 dic:Dc μ a<|aW Z
 kd:(Z.map (·.1)).Nodup
 at_:∀z∈Z,μ[z.2.2]?=a0 (.lst<|z.2.1.map PP)
def Dc.more{μ':Hm}(I:Dc b a kvs)(h:b<+:μ'):Dc μ' a kvs:=I.elim (λe=>.inl<|aH h e) λe=>.inr<|aH h e
def HI.more{μ':Hm}(I:HI b a Z)(h:b<+:μ'):HI μ' a Z:=⟨I.dic.more h,I.kd,λz hz=>aH h<|I.at_ z hz⟩
def HI.ne(I:HI d a Z)(h:Dc d b kvs)(hz:z∈Z):z.2.2≠b:=λe=>by have c:=I.at_ z hz;rw[e]at c;rcases h with h|h<;>(rw[h]at c;cases c)
def HI.frz{kvs:jx}(I:HI c a Z)(h:c[b]?=a0 (.dT kvs)):HI (c.set b<|.dF kvs) a Z:=by
 show⟨?_,I.kd,λz d=>by rw[đ<|ć<|I.ne (.inl h) d];show I.at_ z d⟩;by_cases e:b=a
 .subst e;have:kvs=aW Z:=by
   rcases I.dic with w|w
   .rw[h]at w;injection w with w;injection w
   .rw[h]at w;cases w
  rw[<- this];show .inr<|cH h
 .unfold Dc;rw[đ e];show I.dic
def zL{c b:Hm}{kvs:jx}(hc:c[a]?=a0 (.dT kvs))(h:c.set a (.dF kvs)<+:b):c<+:b.set a (.dT kvs):=by obtain⟨t,rfl⟩:=h;have d:a<c.length:=(Ú.mp hc).1;rw[Oa _ _<|by rw[Θ];show d,OI,CP hc];show RP _ _
def JX{w h:Int}(hw:1<=w/\w<=6)(c:1<=h/\h<=6):(4*w-1).toNat*(4*h-1).toNat+(4*h-1).toNat<=900:=by
 have a:(4*w-1).toNat<=23:=by lia
 have b:(4*h-1).toNat<=23:=by lia
 have:=ur a b;lia
def Yy k w h(hw:1<=w/\w<=6)(b:1<=h/\h<=6)a(Q:jz)(H:Q (.loc a.length,a++[.lst<|(fX w h).map PP])):W (f (k+1) "_law_quarters" [.int w,.int h] a) Q:=by
 rw[Xs,Ù];simp only[Ê,Ē,ô,b7];show⟨Ģ _,?_⟩;simp only[ũ,Ž,Í,sZ,Â,b7,cV,Ô,aV,bF,oY];show⟨by lia,?_⟩;show JB _ C0 _ _ _ _ 1 (4*h-1).toNat (λo1 o2 a Q=>?_) (λx y a Q=>?_) (4*w-1).toNat (JX hw b) _ (aU _ _) _ λo1 o2=>?_
 .simp only[sZ,Â,b7,cV,Ô,aV,bF,oY];show and_iff_right<|by lia
 .simp only[Ő,ň,ê,Ô,aV,bF,cV,Ĳ,ĝ,Ĥ,ä];unfold C0;cases x%4==2<;>cases y%2==1<;>cases y%4==2<;>cases x%2==1<;>simp
 .simp only[Î,aV,bF];rw[CO];show H
def JY k w h(hw:1<=w/\w<=3)(b:1<=h/\h<=3)a(Q:jz)(H:Q (.loc a.length,a++[.lst<|(fX w h).map PP])):W (f (k+1) "_law_quarters" [.int w,.int h] a) Q:=Yy k w h ⋯ ⋯ a Q H
def JZ{n:Nat}(h:(aW Z)[n]?=a0 (k,d)):∃z∈Z,Z[n]?=a0 z/\k=aN z.1/\d=.loc z.2.2:=by unfold aW at h;rw[ú]at h;obtain⟨z,a,b⟩:=Ō.mp h;cases b;show⟨z,Ğ a,a,rfl,rfl⟩
def eT{a:Type}{l:List a}{x:a}(h:l[n]?=a0 x):l.take (n+1)=l.take n++[x]:=by rw[N8,h];rfl
def qV{c:Type}{l:List c}(i:l.Nodup){x:c}(h:l[n]?=a0 x):x∉l.take n:=λg=>by
 obtain⟨j,a⟩:=uy.mp g;have b:j<n:=by have:=(Ú.mp a).1;rw[Ń]at this;lia
 rw[j4 b]at a;have k:n<l.length:=(Ú.mp h).1;have d:=(Ú.mp a).2;have e:=(Ú.mp h).2;show absurd ((QH i).mp<|d.trans e.symm)<|by lia
noncomputable abbrev aS(v:Int×Int->D)(ps:jq):jx:=ps.map λp=>(aN p,v p)
def nS(d:ps.Nodup)(h:p∈ps):bB (aS v ps) (aN p)=a0 (v p):=by show CS ?_<|Þ.mpr ⟨p,h,rfl⟩;rw[ã];show NI _ (λa b c x=>c<|mM x) d
def zM(h:p∉ps):bB (aS v ps) (aN p)=none:=by
 unfold bB;rw[ni.mpr]
 .rfl
 .intro x a;obtain⟨z,b,rfl⟩:=Þ.mp a;rw[decide_eq_true_iff];show λe=>h<|mM e▸b
def qW(h:p∉ps):cI (aS v ps) (aN p) (v p)=aS v (ps++[p]):=by unfold cI;rw[zM h,if_neg<|by simp];change _=xu _ _;rw[Ę];rfl
abbrev cM(ps:jq):jq:=(cR (λi j=>HT.lexLt ((ps.map aN).getD i [])<|(ps.map aN).getD j []) ps.length).map λi=>ps.getD i (0,0)
def kL ps:(cM ps).Perm ps:=by have p:=(gP (λi j=>HT.lexLt ((ps.map aN).getD i [])<|(ps.map aN).getD j []) ps.length).map λi=>ps.getD i (0,0);rw[CQ]at p;show p
def vV v ps:dO (aS v ps)=aS v (cM ps):=by
 unfold dO cM aS;have b:(ps.map λp=>(aN p,v p)).map (·.1)=ps.map aN:=by rw[ã];rfl
 rw[b,Å,ã];show a2x λi a=>?_;have a:i<ps.length:=Ů.mp<|(gP _ _).mem_iff.mp a;simp[ę,a]
def C1 ps:((cM ps).map aN).Pairwise λx y=>HT.lexLt y x=false:=by
 by_cases h:ps=[]
 .subst h;have:cM []=[]:=by have:=(kL []).length_eq;show zm.mp this
  rw[this];show .nil
 have c:0<ps.length:=Ot.mpr h;have S:=Bj (lt:=HT.lexLt) nB nC CU [] (ps.map aN) (n:=ps.length) c;unfold cM;rw[ã,Χ];have b:∀i∈cR (λi j=>HT.lexLt ((ps.map aN).getD i [])<|(ps.map aN).getD j []) ps.length,aN (ps.getD i (0,0))=(ps.map aN).getD i []:=λi a=>by have a:i<ps.length:=Ů.mp<|(gP _ _).mem_iff.mp a;simp[ę,a]
 show S.imp_of_mem λ{i j} a d h=>by change HT.lexLt (aN<|ps.getD j (0,0)) (aN<|ps.getD i (0,0))=a8;rw[b i a,b j d];show h
def jg:cM ps=cM qs↔ps.Perm qs:=by
 constructor
 .intro h;show(kL ps).symm.trans<|h▸kL qs
 .intro h;have e:(cM ps).map aN=(cM qs).map aN:=zq (le:=λx y=>HT.lexLt y x=a8) (λa b _ _ c d=>(zG b a c d).symm) (C1 ps) (C1 qs)<|(((kL ps).trans h).trans (kL qs).symm).map _;have inj:∀{a b:jq},a.map aN=b.map aN->a=b:=λ{a}=>by
   induction a with
   |nil=>intro b h;cases b with
    |nil=>rfl|cons=>cases h
   |cons x a g=>intro b h;cases b with
    |nil=>cases h|cons y b=>rw[ù,ù]at h;injection h with c d;rw[mM c,g d]
  show inj e
def Yz{Q:jz}(h:b[a]?=a0 (.dT (aS v ps)))(h1:ps.length<64):W (CC [.loc a] b) Q↔Q (.loc b.length,b++[.lst ((cM ps).map PP)]):=by rw[Jh h (by rw[Å];show h1) (λp c z=>by obtain⟨x,_,rfl⟩:=Þ.mp c;cases z),vV,ã];rfl
def YA ps:(cM ps).length=ps.length:=(kL ps).length_eq
def YB(b:(G.map (·.1)).Nodup)p q:eN G p q=eQ G p (cU G p++[q]):=by
 unfold eN eQ;by_cases h:(G.map (·.1)).contains p=a9
 .rw[if_pos h,if_pos h];show a2x λg a=>?_;by_cases e:g.1=p
  .rw[if_pos e,if_pos e,<- e,lI b a]
  .rw[if_neg e,if_neg e]
 .rw[if_neg h,if_neg h,qT λw=>h<|ύ.mpr w];rfl
def J2(g:Int×Int->Int×Int):∀(qs:jq)G,(G.map (·.1)).Nodup->((qs.foldl (λG q=>eN G (g q) q) G).map (·.1)).Nodup/\∀p,cU (qs.foldl (λG q=>eN G (g q) q) G) p=cU G p++qs.filter λq=>decide<|g q=p
 |[],G,kd=>⟨kd,λp=>by simp⟩|q::qs,G,kd=>by
  rw[az,YB kd];obtain⟨a,b⟩:=J2 g qs (eQ G (g q)<|cU G (g q)++[q])<|JN kd;show⟨a,λp=>?_⟩;rw[b,CY];by_cases e:p=g q
  .subst e;rw[if_pos rfl,ϲ<|by simp];simp
  .rw[if_neg e,Ϥ<|by simp;show λw=>e w.symm]
def J3:ŏ qs g (jB g qs):=by
 obtain⟨b,c⟩:=J2 g qs [] ϱ;show⟨b,λx a e=>?_,λp=>by unfold jB;rw[c,CW];show .refl _⟩
  -- no empty list is made
 have:∀(qs:jq)(G:Gr),(∀x∈G,x.2≠[])->∀x∈qs.foldl (λG q=>eN G (g q) q) G,x.2≠[]:=λqs=>by
  induction qs with
  |nil=>show λG h=>h|cons q qs i=>
   intro G h;rw[az];show i _ λx a=>?_;unfold eN at a;split at a
   .obtain⟨y,d,rfl⟩:=Þ.mp a;split
    .simp
    .show h y d
   .rcases Ą.mp a with a|a
    .show h x a
    .rw[ĉ.mp a];simp
 show this qs [] (λx a=>nomatch a) x a e
abbrev zN(Z:Zr)(p:Int×Int):D:=match Z.find? (λz=>decide<|z.1=p)with|some z=>.loc z.2.2|none=>.non
def YC(a:(Z.map (·.1)).Nodup)(h:z∈Z):zN Z z.1=.loc z.2.2:=by
 unfold zN;induction Z with
 |nil=>cases h|cons x Z b=>
  rw[ù,Ś]at a;rw[au];rcases ċ.mp h with rfl|h
  .rw[decide_eq_true rfl]
  .have e:decide (x.1=z.1)=false:=decide_eq_false λe=>a.1 (by rw[e];show Þ.mpr ⟨z,h,rfl⟩);rw[e];show b a.2 h
def YD(b:(Z.map (·.1)).Nodup):aW Z=aS (zN Z) (Z.map (·.1)):=by unfold aW aS;rw[ã];show a2x λz a=>by change _=(aN z.1,zN Z z.1);rw[YC b a]
def YE{Q:jz}(c:(Z.map (·.1)).Nodup)(h:b[a]?=a0 (.dT<|aW Z))(h1:Z.length<64):W (CC [.loc a] b) Q↔Q (.loc b.length,b++[.lst<|(cM<|Z.map (·.1)).map PP]):=by rw[YD c]at h;show Yz h<|by rw[Å];show h1
def J4(a:(Z.map (·.1)).Nodup)(h:z∈Z):cU (GZ Z) z.1=z.2.1:=lI (by rw[lH];show a) (g:=(z.1,z.2.1))<|Þ.mpr ⟨z,h,rfl⟩
def YF(h:d∈fJ (aW Z)):∃p∈Z.map (·.1),d=PP p:=by obtain⟨c,a,rfl⟩:=Þ.mp h;obtain⟨z,b,rfl⟩:=Þ.mp a;show⟨z.1,Þ.mpr ⟨z,b,rfl⟩,rfl⟩
def YG(d:ρ[i]?=a0 (a0<|.loc a))(c:b[a]?=a0 (.dF kvs)):fR (aA i) ρ b=a0 (c9<|.tup<|fJ kvs,kvs.length+1,b):=by simp only[fR,aA,d,ğ,c]
def YH p:dC (PP p)=p:=rfl
def YI{L:jq}(a:lQ L.length i=a0 j)(b:L[j]?=a0 q):atI (L.map PP) i=a0 (PP q):=by unfold atI;rw[Å,a,ğ,ú,b];rfl
def J5(h:bB K k=a7):cI K k d=K++[(k,d)]:=by unfold cI;rw[h,if_neg<|by simp]
def YJ(h:bB K k=a7):cI (K++[(k,d)]) k e=K++[(k,e)]:=by
 have b:∀p∈K,p.1≠k:=λp a w=>by unfold bB at h;rw[Option.map_eq_none_iff,ni]at h;show h p a<|decide_eq_true w
 have c:(bB (K++[(k,d)]) k).isSome=true:=by unfold bB;rw[yw,QY];show⟨(k,d),Ą.mpr<|.inr<|ĉ.mpr rfl,decide_eq_true rfl⟩
 unfold cI;rw[if_pos c,Ę];have:(K.map λp=>if p.1=k then(p.1,e)else p)=K:=by have w:(K.map λp=>if p.1=k then(p.1,e)else p)=K.map id:=a2x λp a=>if_neg<|b p a;rw[w,WF]
 rw[this];simp
abbrev eI(u n:Int)(a:Bool)(p:Int×Int):Bool:=decide (n<cL u p)==a
abbrev eA(u n:Int)(a:Bool)(F:Int×Int->Ly)(q:Int×Int):Ly:=if eI u n a (aO (F q) q)then cB (F q) (cD u n)else F q
def J6(b:∀q,Ď (F q))q:Ď (eA u n a F q):=by
 unfold eA;split
 .show vT (b q)<|vU u n
 .show b q
def YK u n a F q:aO (eA u n a F q) q=if eI u n a (aO (F q) q)then aO (cD u n) (aO (F q) q)else aO (F q) q:=by
 unfold eA;split
 .rw[k9]
 .rfl
def HI.put(I:HI j s Z)(d:j[s]?=a0 (.dT<|aW Z))(i:j[b]?=a0 (.lst<|L.map PP)):
  ∃h,cI (aW Z) (aN p) (.loc b)=aW h/\GZ h=eQ (GZ Z) p L/\HI (j.set s<|.dT<|aW h) s h:=by
 have bs:b≠s:=λe=>by rw[e,d]at i;cases i
 have k:((GZ Z).map (·.1)).Nodup:=by rw[lH];show I.kd
 by_cases c:p∈Z.map (·.1)
 .show⟨Z.map λy=>if y.1=p then(y.1,L,b)else y,Yc c I.kd,?_,.inl<|cH d,?_,λy a=>?_⟩
  .unfold eQ;rw[lH,if_pos<|ύ.mpr c];unfold GZ;rw[ã,ã];show a2x λz _=>?_;change((if z.1=p then(z.1,L,b)else z).1,(if z.1=p then(z.1,L,b)else z).2.1)=if z.1=p then(z.1,L)else(z.1,z.2.1)
   split<;>rfl
  .have e:(Z.map λy=>if y.1=p then(y.1,L,b)else y).map (·.1)=Z.map (·.1):=by rw[ã];show a2x λy _=>?_;change(if y.1=p then(y.1,L,b)else y).1=y.1;split<;>rfl
   rw[e];show I.kd
  .obtain⟨x,g,rfl⟩:=Þ.mp a;split
   .rw[đ<|ć bs];show i
   .rw[đ<|ć<|I.ne (.inl d) g];show I.at_ x g
 .show⟨Z++[(p,L,b)],JC c,?_,.inl<|cH d,?_,λy a=>?_⟩
  .unfold eQ;rw[lH,if_neg λw=>c<|ύ.mp w];unfold GZ;rw[Ę];rfl
  .rw[Ę,Ϯ];show⟨I.kd,by simp,λx g y a e=>by
    simp only[ù,Ϣ,ĉ]at a;rw[e,a]at g;show c g⟩
  .rcases Ą.mp a with a|a
   .rw[đ<|ć<|I.ne (.inl d) a];show I.at_ y a
   .rw[ĉ.mp a,đ<|ć bs];show i
def HI.off{kvs:jx}(I:HI b a Z)(e:b[s]?=a0 (.dT kvs))(h:a≠s)c:HI (b.set s c) a Z:=by show⟨?_,I.kd,λz d=>by rw[đ<|ć<|I.ne (.inl e) d];show I.at_ z d⟩;unfold Dc;rw[đ<|ć h];show I.dic
def C2(h:p∉G.map (·.1)):eQ G p L=G++[(p,L)]:=by unfold eQ;rw[if_neg λw=>h<|ύ.mp w]
def J7 mv G g:kK mv (G++[g])=if mv g.1 then kK mv G else kK mv G++[g]:=by unfold kK;rw[Ϗ];cases h:mv g.1<;>simp[h]
def J8 mv M G g:iP mv M (G++[g])=if mv g.1 then iP mv M G++[(M g.1,g.2.reverse)]else iP mv M G:=by unfold iP;rw[Ϗ,Ę];cases h:mv g.1<;>simp[h]
def J9{c:Type} [DecidableEq c]:∀{l m:List c},l.Nodup->(∀x∈l,x∈m)->l.length<=m.length
 |[],_,_,_=>Ģ _|x::l,m,h,hs=>by rw[Ś]at h;have a:=hs x<|Ĭ ..;have d:=J9 (l:=l) (m:=m.erase x) h.2 λy b=>(R6 λe:y=x=>h.1<|e▸b).mpr<|hs y<|ı _ b;rw[RX a]at d;have:=P4 a;rw[Ļ];lia
def ŏ.len(P:ŏ qs g G):G.length<=qs.length/\∀x∈G,x.2.length<=qs.length:=by
 constructor
 .have:=J9 P.kd (m:=qs.map g) λp a=>by obtain⟨q,b,e⟩:=P.key.mp a;show Þ.mpr ⟨q,b,e⟩
  rw[Å,Å]at this;show this
 .intro x c;have:=(P.pm x.1).length_eq;rw[lI P.kd c]at this;rw[this];show Ų _ _
def ŏ.lenZ(P:ŏ qs g (GZ Z)):Z.length<=qs.length/\∀z∈Z,1<=z.2.1.length/\z.2.1.length<=qs.length:=by obtain⟨a,c⟩:=P.len;unfold GZ at a;rw[Å]at a;show⟨a,λz d=>?_⟩;have b:(z.1,z.2.1)∈GZ Z:=Þ.mpr ⟨z,d,rfl⟩;show⟨Ot.mpr<|P.ne _ b,c _ b⟩
def Ka a x:∀bs:List Bool,∃b,lX a (.bl x) (bs.map D.bl)=a0 b
 |[]=>⟨_,rfl⟩|b::bs=>by obtain⟨c,e⟩:=Ka a x bs;rw[ù];unfold lX;cases b<;>cases x<;>first|show⟨_,rfl⟩|show⟨c,e⟩|(rw[e];show⟨_,rfl⟩)
def Kb{bs:List Bool}x(h:c[a]?=a0 (.lst<|bs.map D.bl)):∃b,cA a9 (.bl x) (.loc a) c=a0 (.bl b,c):=by obtain⟨b,e⟩:=Ka c x bs;show⟨!b,?_⟩;simp only[cA,h,oF,bM,ğ,e,į,if_true]
def C3(h:Z[i]?=a0 z):(GZ Z).take (i+1)=(GZ Z).take i++[(z.1,z.2.1)]:=eT<|by unfold GZ;rw[ú,h];rfl
def iQ{P:Prop}(h:b=a8)(q:Q):if b=a9 then P else Q:=by rw[h];show q
def iB{P:Prop}(h:b=a9)(q:P):if b=a9 then P else Q:=by rw[h];show q
def YL(I:HI a s Z)(h:a[s]?=a0 (.dT<|aW Z))p:∃c,qK (.loc s) [PP p,.loc a.length] (a++[C.lst []])=a0 (.loc c,a++[C.lst []])/\(a++[C.lst []])[c]?=a0 (.lst<|(cU (GZ Z) p).map PP):=by
 have g:=aM a<|C.lst [];by_cases b:p∈Z.map (·.1)
 .obtain⟨t,d,e⟩:=zF b;show⟨t.2.2,?_,?_⟩
  .simp only[qK,aH g h,cC,į];rw[<- e,qS I.kd d];rfl
  .rw[<- e,J4 I.kd d];show aH g<|I.at_ t d
 .show⟨a.length,?_,?_⟩
  .simp only[qK,aH g h,cC,į];rw[CT b];rfl
  .rw[qT<|by rw[lH];show b];show aU _ _
def YM(h:y∈eQ G p L):y∈G\/y.2=L:=by
 unfold eQ at h;split at h
 .obtain⟨t,a,e⟩:=Þ.mp h;split at e
  .rw[<- e];show .inr rfl
  .rw[<- e];show .inl a
 .rcases Ą.mp h with h|h
  .show .inl h
  .rw[ĉ.mp h];show .inr rfl
def Kc{b:Hm}{kvs:jx}(d:b[a]?=a0 (.dT kvs)){c:Hm}(p:b<+:c):b.set a (.dF kvs)<+:c.set a (.dF kvs):=by obtain⟨t,rfl⟩:=p;rw[Oa _ _ (Ú.mp d).1];show RP _ _
def qX{b:Hm}{kvs:jx}(e:b[a]?=a0 (.dT kvs))(h:b.length<=c)x(d:Hm):(d.set a x)[c]?=d[c]?:=đ<|õ<|ĩ (Ú.mp e).1 h
section
variable{u n:Int}{a o:Bool}{m2:MS}{Z:Zr}{μ:Hm}{h:Nat}
def YN k(U:0<=u/\u<4)(K:∀q,Ď (F q))(N:qs.Nodup)(R:qs.length<=100)(hw:μ[w]?=a0 (.dT<|aS (λq=>LD<|F q) qs))Q(H:∀x b,μ<+:b->b[μ.length]?=a0 (.dT<|aS (λq=>LD<|eA u n a F q) qs)->Q (.nx,a0 (.loc w)::v::a0 (.int u)::a0 (.int n)::a0 (.bl a)::y::z::A::a0 (LD<|cD u n)::a0 (.loc μ.length)::x::xs,b)):
  W (gT 0 (bO (fR<|aA 0) (bS 10)<|IU<|k+1) m2 (a0 (.loc w)::v::a0 (.int u)::a0 (.int n)::a0 (.bl a)::y::z::A::a0 (LD<|cD u n)::a0 (.loc μ.length)::a7::xs)<|μ++[.dT []]) Q:=by
 have I:(μ.set w<|.dF<|aS (λq=>LD<|F q) qs)[w]?=a0 (.dF<|aS (λq=>LD<|F q) qs):=cH hw;have M:(μ.set w<|.dF<|aS (λq=>LD<|F q) qs).length<=μ.length:=lu Θ;show zK rfl (aH (aM _ _) hw) (λi c b=>∃x,c=a0 (.loc w)::v::a0 (.int u)::a0 (.int n)::a0 (.bl a)::y::z::A::a0 (LD<|cD u n)::a0 (.loc μ.length)::x::xs/\μ.set w (.dF<|aS (λq=>LD<|F q) qs)<+:b/\b[μ.length]?=a0 (.dT<|aS (λq=>LD<|eA u n a F q)<|qs.take i))
  ⟨a7,rfl,Kc hw<|aM _ _,by rw[qX hw<|Õ _];show aU _ _⟩ ?_ ?_
 .rintro i Y d c b L ⟨x,rfl,p,g⟩;rw[ú]at L;obtain⟨q,r,e⟩:=Ō.mp L;cases e;have s:∀{B:Hm}{Q:jz},μ.set w (.dF<|aS (λq=>LD<|F q) qs)<+:B->Q (LD<|F q,B)->W (aI (.loc w) (PP q) B) Q:=λT h=>(lJ (.inr<|aH T I) (cC q)<|nS N<|Ğ r).mpr h;have O:bB (aS (λq=>LD<|eA u n a F q)<|qs.take i) (aN q)=none:=zM<|qV N r;have lt:(qs.take i).length<=100:=Đ (ϵ _ _) R;have E:aS (λq=>LD<|eA u n a F q) (qs.take<|i+1)=aS (λq=>LD<|eA u n a F q) (qs.take i)++[(aN q,LD<|eA u n a F q)]:=by rw[eT r,aS,Ę];rfl
  show Ê.mpr (ï.mpr<|bW rfl rfl<|s p ⟨_,rfl,_,rfl,(fU g (cC q)<|by rw[Å,Ā];lia).mpr ?_⟩);rw[J5 O];have j:=cS p M<|C.dT<|aS (λq=>LD<|eA u n a F q) (qs.take i)++[(aN q,LD<|F q)];have G:=cH (c':=C.dT (aS (λq=>LD<|eA u n a F q) (qs.take i)++[(aN q,LD<|F q)])) g;generalize b.set μ.length (C.dT<|aS (λq=>LD<|eA u n a F q) (qs.take i)++[(aN q,LD<|F q)])=μ2 at j G;show Û.mpr<|iA<|cG<|cG<|eM<|bJ<|eM<|bJ<|bW rfl rfl<|s j ⟨_,rfl,(JT k (F q) (K q) q _ _).mpr ⟨_,rfl,zI k _ u U _ _ λX l=>⟨_,rfl,Μ.mpr ⟨_,rfl,ſ.mpr ⟨_,rfl,?_⟩⟩⟩⟩⟩;have m:=aH l G;cases hc:eI u n a (aO (F q) q)with
  |true=>show iB hc (ï.mpr<|eM<|bJ<|bW rfl rfl<|s (j.trans l) ⟨_,rfl,(JV k (F q) (cD u n) (K q) (vU u n) _ _).mpr ⟨_,rfl,_,rfl,(fU m (cC q)<|by rw[å,Å,Ā];change _+1<_;lia).mpr ⟨rfl,_,rfl,cS (j.trans l) M _,?_⟩⟩⟩);rw[cH m,YJ O,E,eA,if_pos hc]|false=>show iQ hc<|Ø.mpr ⟨rfl,_,rfl,j.trans l,?_⟩;rw[m,E,eA,if_neg<|by rw[hc];show Ī]
 .rintro c b ⟨x,rfl,p,g⟩;rw[Å,ś]at g;show⟨aH p I,H x _ (zL hw p)<|by rw[qX hw<|Õ _];show g⟩
def HI.thaw{kvs:jx}(J:HI μ' c Y)(g:μ'[b]?=a0 (.dF kvs))(hc:c≠b)x:HI (μ'.set b x) c Y:=by show⟨?_,J.kd,λz d=>by rw[đ<|ć<|J.ne (.inr g) d];show J.at_ z d⟩;unfold Dc;rw[đ<|ć hc];show J.dic
inductive Su (u n:Int)(a:Bool)(Z:Zr)(s:Nat)(μ:Hm)(i:Nat)(μ':Hm):Prop
 |mk (S G:Zr)(p:μ<+:μ')(IS:HI μ' s S)(g1:μ'[s]?=a0 (.dT<|aW S))(eS:GZ S=kK (eI u n a) ((GZ Z).take i))(IG:HI μ' (s+1) G)(g2:μ'[s+1]?=a0 (.dT<|aW G))(eG:GZ G=iP (eI u n a) (aO<|cD u n) ((GZ Z).take i)):Su u n a Z s μ i μ'
def YO k(hu:0<=u/\u<4)(I:HI μ h Z)(g:μ[h]?=a0 (.dT<|aW Z))(hl:Z.length<=100){m:Hm}(Y:μ<+:m)(ls:μ.length<=s)(gs:m[s]?=a0 (.dT []))(gg:m[s+1]?=a0 (.dT []))Q(H:∀x S G b,μ<+:b->HI b s S->b[s]?=a0 (.dT<|aW S)->GZ S=kK (eI u n a) (GZ Z)->HI b (s+1) G->b[s+1]?=a0 (.dT<|aW G)->GZ G=iP (eI u n a) (aO<|cD u n) (GZ Z)->Q (.nx,[x0,a0<|.loc h,a0<|.int u,a0<|.int n,a0<|.bl a,x5,x,x7,a0<|LD<|cD u n,x9,q,a0<|.loc s,a0<|.loc<|s+1,r],b)):
  W (gT 1 (bO (fR<|aA 1) (bS 6)<|IV<|k+1) m2 [x0,a0<|.loc h,a0<|.int u,a0<|.int n,a0<|.bl a,x5,x6,x7,a0<|LD<|cD u n,x9,q,a0<|.loc s,a0<|.loc<|s+1,r] m) Q:=by
 have IF:=I.frz g;have l0:(μ.set h<|.dF<|aW Z).length<=s:=by rw[Θ];show ls
 have gF:(μ.set h<|.dF<|aW Z)[h]?=a0 (.dF<|aW Z):=cH g;have R:∀{c:Nat}{m:Hm},m[c]?=a0 (.dT [])->HI m c []:=λe=>⟨.inl e,ϱ,λz K=>nomatch K⟩;have N:(m.set h<|.dF<|aW Z)[s]?=a0 (.dT []):=(qX g ls _ _).trans gs;have M:(m.set h<|.dF<|aW Z)[s+1]?=a0 (.dT []):=(qX g ⋯ _ _).trans gg;show zK rfl (aH Y g) (λi A b=>∃x,A=[x0,a0<|.loc h,a0<|.int u,a0<|.int n,a0<|.bl a,x5,x,x7,a0<|LD<|cD u n,x9,q,a0<|.loc s,a0<|.loc<|s+1,r]/\Su u n a Z s (μ.set h<|.dF<|aW Z) i b) ⟨x6,rfl,[],[],Kc g Y,R N,N,rfl,R M,M,rfl⟩ ?_ ?_
 .rintro i kk d A b hk ⟨x,rfl,S,G,L,IS,g1,E,IG,g2,B⟩;obtain⟨z,K,T,rfl,rfl⟩:=JZ hk;have et:=C3 T;have U:z.1∉((GZ Z).take i).map (·.1):=by rw[Mo,lH];show qV I.kd<|by rw[ú,T];rfl
  have lt:((GZ Z).take i).length<=100:=Đ (ϵ _ _) (by rw[fW];show hl);show Û.mpr<|iA<|cG<|cG<|bX rfl<|zI k _ u hu _ _ λv l=>⟨_,rfl,Μ.mpr ⟨_,rfl,ſ.mpr ⟨_,rfl,?_⟩⟩⟩;replace l:b<+:v:=l;have j:=IF.more<|L.trans l;have q13:=L.trans l;cases hc:eI u n a z.1 with
  |true=>
   have lG:G.length<=100:=by rw[<- fW,B,iP,Å];show Đ (Ų _ _) lt
   show iB hc<|ï.mpr<|eM<|bJ<|bW rfl rfl<|(lJ j.dic (cC z.1)<|qS I.kd K).mpr ⟨_,rfl,(WN<|j.at_ z K).mpr ⟨_,rfl,bX rfl<|(JT k (cD u n) (vU u n) z.1 _ _).mpr ?_⟩⟩;have X:=l.trans<|aM v<|C.lst (z.2.1.map PP).reverse;have g4:=aH X g2;obtain⟨G',e1,e2,I4⟩:=(IG.more X).put g4 (p:=aO (cD u n) z.1) (L:=z.2.1.reverse) (b:=v.length) (by rw[QK];show aU _ _);show(fU g4 (cC _)<|by rw[nR,Ā];lia).mpr ?_;rw[e1];show⟨rfl,_,rfl,S,G',cS (L.trans X) ⋯ _,(IS.more X).off g4 ⋯ _,by rw[đ<|by lia];show aH X g1,by rw[et,J7,if_pos hc];show E,I4,cH g4,?_⟩;rw[et,J8,if_pos hc,e2,B,C2];intro w;obtain⟨y,hy,ey⟩:=Þ.mp w;obtain⟨y',hy',rfl⟩:=Þ.mp hy;have:y'.1=z.1:=by rw[<- zH u n y'.1,show aO (cD u n) y'.1=aO (cD u n) z.1 from ey,zH]
   show U<|this▸Þ.mpr ⟨y',(Ŏ.mp hy').1,rfl⟩
  |false=>
   have lS:S.length<=100:=by rw[<- fW,E,kK];show Đ (Ų _ _) lt
   have O:¬ eI u n a z.1=true:=by rw[hc];show Ī
   have g3:=aH l g1;obtain⟨S',e1,e2,I4⟩:=(IS.more l).put g3 (p:=z.1)<|j.at_ z K;show iQ hc (ï.mpr<|bW rfl rfl<|(lJ j.dic (cC z.1)<|qS I.kd K).mpr ⟨_,rfl,_,rfl,(fU g3 (cC z.1)<|by rw[nR,Ā];lia).mpr ?_⟩);rw[e1];show⟨rfl,_,rfl,S',G,cS q13 l0 _,I4,cH g3,?_,(IG.more l).off g3 ⋯ _,by rw[đ<|by lia];show aH l g2,by rw[et,J8,if_neg O];show B⟩;rw[et,J7,if_neg O,e2,E,C2];intro w;obtain⟨y,hy,ey⟩:=Þ.mp w;show U<|ey▸Þ.mpr ⟨y,(Ŏ.mp hy).1,rfl⟩
 .rintro A b ⟨x,rfl,S,G,L,IS,g1,E,IG,g2,B⟩;have p:=aH L gF;have hhl:=(Ú.mp g).1;rw[Ϲ<|by rw[nR,fW];show Õ _]at E B;show⟨p,H x S G _ (zL g L) (IS.thaw p ⋯ _) ((qX g ls _ _).trans g1) E (IG.thaw p ⋯ _) ((qX g ⋯ _ _).trans g2) B⟩
inductive PD (μ:Hm)(s:Nat)(S0 G:Zr)(o:Bool)(i:Nat)(μ':Hm):Prop
 |mk (S:Zr)(p:μ<+:μ')(IS:HI μ' s S)(g:μ'[s]?=a0 (.dT<|aW S))(eS:GZ S=((GZ G).take i).foldl (jD o) (GZ S0))(l1:S.length<=S0.length+i)(l2:∀z∈S,z.2.1.length<=100+100*i)(IG:HI μ' (s+1) G)(gF:μ'[s+1]?=a0 (.dF<|aW G)):PD μ s S0 G o i μ'
def YQ(IS0:HI v s j)(hs:v[s]?=a0 (.dT<|aW j))(IG:HI v (s+1) G)(U:v[s+1]?=a0 (.dT<|aW G))(lS:j.length+G.length<=100)(ll:∀z∈j,z.2.1.length<=100)(lg:∀z∈G,z.2.1.length<=100)(pre:μ<+:v)(ls:μ.length<=s)Q(H:∀x y S b,μ<+:b->HI b s S->b[s]?=a0 (.dT<|aW S)->GZ S=(GZ G).foldl (jD o) (GZ j)->Q (.nx,[x0,x1,x2,x3,x4,a0<|.bl o,x,x7,x8,x9,m,a0<|.loc s,a0<|.loc<|s+1,y],b)):
  W (gT 12 (bO (fR<|aA 12) (bS 6) IW) m2 [x0,x1,x2,x3,x4,a0<|.bl o,x6,x7,x8,x9,m,a0<|.loc s,a0<|.loc<|s+1,a7] v) Q:=by
 have IF:=IG.frz U;show zK rfl U (λi p b=>∃x y,p=[x0,x1,x2,x3,x4,a0<|.bl o,x,x7,x8,x9,m,a0<|.loc s,a0<|.loc<|s+1,y]/\PD μ s j G o i b)
  ⟨x6,a7,rfl,j,cS pre ⋯ _,IS0.frz U,by rw[đ<|by lia];show hs,rfl,by lia,λz r=>by have:=ll z r;lia,IF,cH U⟩ ?_ ?_
 .rintro i kk d p b hk ⟨x,y,rfl,S,p1,w,E,O,l1,l2,Y,T⟩;obtain⟨z,r,I,rfl,rfl⟩:=JZ hk;have hil:=(Ú.mp I).1;have lz:=lg z r;obtain⟨c,e1,B⟩:=YL w E z.1;show bL<|JE ⟨_,rfl,JG E,Â.mpr ⟨_,rfl,Â.mpr<|ô.mpr ⟨_,rfl,Ģ _,_,rfl,_,e1,ï.mpr<|ő.mpr<|tD ⟨_,rfl,rfl,?_⟩⟩⟩⟩;have M:=aM b<|C.lst [];have A:=w.more M;have g2:=aH M E;have g:=Y.more M;have l:=aH M T;have K:=p1.trans M;generalize b++[C.lst []]=μ2 at B A g2 g l K;have la:(cU (GZ S) z.1).length<=100+100*i:=by
   by_cases hp:z.1∈S.map (·.1)
   .obtain⟨t,X,e⟩:=zF hp;rw[<- e,J4 w.kd X];show l2 t X
   .rw[qT<|by rw[lH];show hp];show Ģ _
  have k:∀L:jq,jD o (GZ S) (z.1,z.2.1)=eQ (GZ S) z.1 L->L.length<=100+100*(i+1)->W (sP (.loc s) (PP z.1) (.loc μ2.length)<|μ2++[.lst<|L.map PP]) (PD μ s j G o<|i+1):=λL eo lL=>by
   have N:=aM μ2<|C.lst<|L.map PP;have R:=aH N g2;obtain⟨S',e3,e4,I4⟩:=(A.more N).put R (p:=z.1)<|aU _ _;show(fU R (cC z.1)<|by rw[nR,Ā];lia).mpr ?_;rw[e3];show⟨S',cS (K.trans N) ls _,I4,cH R,?_,?_,λy hy=>?_,(g.more N).off R ⋯ _,by rw[đ<|by lia];show aH N l⟩
   .rw[C3 I,N6,<- O,e4,<- eo];rfl
   .rw[<- fW,e4,eQ];split
    .rw[Å,fW];lia
    .rw[å,fW];change _+1<=_;lia
   .have hy':(y.1,y.2.1)∈eQ (GZ S) z.1 L:=by rw[<- e4];show Þ.mpr ⟨y,hy,rfl⟩
    rcases YM hy' with h|h
    .obtain⟨t,X,e⟩:=Þ.mp h;have:=l2 t X;have B:t.2.1=y.2.1:=congrArg (·.2) e;rw[<- B];lia
    .rw[show y.2.1=L from h];show lL
  have it:∀{Q:jz},Q (.loc z.2.2,μ2)->W (aI (.loc<|s+1) (PP z.1) μ2) Q:=λh=>(lJ (.inr l) (cC z.1)<|qS IG.kd r).mpr h;cases o with
  |true=>show iB rfl (cG ⟨_,rfl,bW rfl rfl<|it<|(y9 B (g.at_ z r)<|by rw[Å,Å,Ā];lia).mpr ⟨_,rfl,_,rfl,?_⟩⟩);have:=k (cU (GZ S) z.1++z.2.1) rfl (by rw[å];lia);rw[Ę]at this;show bI this λ_ q=>⟨rfl,_,_,rfl,q⟩|false=>show iQ rfl (cG<|bW rfl rfl<|it ⟨_,rfl,(y9 (g.at_ z r) B<|by rw[Å,Å,Ā];lia).mpr ⟨_,rfl,_,rfl,?_⟩⟩);have:=k (z.2.1++cU (GZ S) z.1) rfl (by rw[å];lia);rw[Ę]at this;show bI this λ_ q=>⟨rfl,_,_,rfl,q⟩
 .rintro p b ⟨x,y,rfl,S,p1,w,E,O,_,_,_,T⟩;rw[nR,Ϲ<|by rw[fW];show Õ _]at O;show⟨T,H x y S _ (cS p1 ⋯ _) (w.thaw T ⋯ _) (by rw[đ<|by lia];show E) O⟩
end
def YR k(L:0<=u/\u<4)(N:∀q,Ď (F q))(nd:qs.Nodup)(hl:qs.length<=36)(hw:g[w]?=a0 (.dT<|aS (λq=>LD<|F q) qs))(I:HI g h Z)(l:g[h]?=a0 (.dT<|aW Z))(P:ŏ qs (λq=>aO (F q) q) (GZ Z))(Q:jz)(H:∀w' h' (F':Int×Int->Ly) Z' c,g<+:c->c[w']?=a0 (.dT<|aS (λq=>LD<|F' q) qs)->HI c h' Z'->c[h']?=a0 (.dT<|aW Z')->(∀q,Ď (F' q))->ŏ qs (λq=>aO (F' q) q) (GZ Z')->((F'=F/\Z'=Z)\/(F'=eA u n a F/\GZ Z'=CZ (eI u n a) (aO<|cD u n) o (GZ Z)))->Q (.tup [.loc w',.loc h'],c)):
  W (f (k+2) "_law_fold" [.loc w,.loc h,.int u,.int n,.bl a,.bl o] g) Q:=by
 have lZ:=P.len.1;rw[fW]at lZ;have X:(g.set h<|.dF<|aW Z)[h]?=a0 (.dF<|aW Z):=cH l;show ð (XD (k+1) _ _ _ _ _ _ g)<|Ê.mpr<|JW rfl l<|Ē.mpr<|jA (xs:=fJ (aW Z)) (p:=λ_=>a9) (v:=λd=>.bl<|eI u n a<|dC d) ?_;rw[YG rfl X];show À.mpr ⟨IB,by rw[fJ,Å],by rw[fJ,Å,nR,Ā];lia,λd c hd K=>ď.mpr ⟨rfl,İ _⟩,λd c hd _ K=>?_,λc K Y=>⟨aH K X,?_⟩⟩
 .obtain⟨p,hpm,rfl⟩:=YF hd;show cG<|cG<|bX rfl<|zI k _ u L _ _ λi R=>⟨_,rfl,Μ.mpr ⟨_,rfl,ſ.mpr ⟨?_,R⟩⟩⟩;rw[YH];rfl
 have e1:((fJ<|aW Z).filter λ_=>a9).map (λd=>D.bl<|eI u n a<|dC d)=((fJ<|aW Z).map λd=>eI u n a<|dC d).map D.bl:=by rw[yz.mpr λ_ _=>rfl,ã];rfl
 rw[e1]at Y;have m:=zL l K;have lq:(g.set h<|.dF<|aW Z).length=g.length:=Θ;have B:=(qX l (lu lq.symm) (.dT<|aW Z) c).trans Y;generalize(g.set h<|.dF<|aW Z).length=b at B;generalize c.set h (.dT<|aW Z)=μ1 at m B;obtain⟨b1,i1⟩:=Kb a9 B;obtain⟨b2,i2⟩:=Kb a8 B;have j:=H w h F Z μ1 m (aH m hw) (I.more m) (aH m l) N P<|.inl ⟨rfl,rfl⟩;show Ê.mpr<|Û.mpr<|Ő.mpr<|iA<|bW rfl rfl ⟨_,i1,_,rfl,?_⟩;cases b1 with
 |true=>show iB rfl (iB rfl<|dP<|à.mpr ⟨_,rfl,fV,j⟩)|false=>
  show iQ rfl<|iA<|bW rfl rfl ⟨_,i2,_,rfl,?_⟩;cases b2 with
  |true=>show iB rfl (dP<|à.mpr ⟨_,rfl,fV,j⟩)|false=>
   show iQ rfl<|Ø.mpr<|bL<|bX rfl<|JS k u n L _ _ λμ2 p2=>bL<|Ü.mpr<|Ê.mpr ?_;have q2:=m.trans p2;show YN k L N nd ⋯ (aH q2 hw) _ λx i R g3=>bL<|Ü.mpr<|bL<|Ü.mpr<|Ê.mpr ?_;have T:=q2.trans R;have l4:(i++[C.dT []]).length=i.length+1:=å;have E:=aU (i++[C.dT []])<|C.dT [];rw[l4]at E ⊢;show YO k L (I.more T) (aH T l) ⋯ ((aM _ _).trans<|aM _ _) (Õ _) (aH (aM _ _)<|aU _ _) E _ λx' S G μ5 p5 IS E A IG g6 v=>Ê.mpr ?_;have lS:S.length<=36:=by rw[<- fW,A,kK];show Đ (Ų _ _)<|by rw[fW];lia
   have lG:G.length<=36:=by rw[<- fW,v,iP,Å];show Đ (Ų _ _)<|by rw[fW];lia
   show YQ IS E IG g6 ⋯ (λz O=>?_) (λz O=>?_) p5 (Õ _) _ λx2 y2 S' U p6 M g8 r=>dP<|à.mpr ⟨_,rfl,fV,H _ _ (eA u n a F) S' U (T.trans p6) (aH p6 g3) M g8 (J6 N) ?_<|.inr ⟨rfl,by rw[r,A,v];rfl⟩⟩
   .have s:(z.1,z.2.1)∈GZ S:=Þ.mpr ⟨z,O,rfl⟩;rw[A]at s;show Đ (P.len.2 _ (Ŏ.mp s).1)<|by lia
   .have s:(z.1,z.2.1)∈GZ G:=Þ.mpr ⟨z,O,rfl⟩;rw[v]at s;obtain⟨y,hy,e⟩:=Þ.mp s;have:=P.len.2 _ (Ŏ.mp hy).1;injection e with _ e;rw[<- e,ό];lia
   rw[r,A,v,show(λq=>aO (eA u n a F q) q)=_ from funext λq=>YK u n a F q];show Ys P (zH u n) o
def Kd{a:Type}[DecidableEq a]:∀{l:List a},l.Nodup->∀{p},p∈l->(l.filter λq=>decide<|q=p)=[p]
 |[],_,_,h=>by cases h
 |x::l,nd,p,h=>by
  rw[Ś]at nd;by_cases e:x=p
  .subst e;rw[ϲ<|by simp,N9.mpr];intro y b w;show nd.1<|of_decide_eq_true w▸b
  .rw[Ϥ<|by simp[e]];show Kd nd.2<|(ċ.mp h).resolve_left λw=>e w.symm
abbrev mN(qs:jq):Gr:=qs.map λq=>(q,[q])
def C4 qs:(mN qs).map (·.1)=qs:=by unfold mN;rw[ã];show WF _
def YS(b:qs.Nodup):ŏ qs (λq=>aO cT q) (mN qs):=by
 have a:((mN qs).map (·.1)).Nodup:=by rw[C4];show b
 show⟨a,λg c=>?_,λp=>?_⟩
 .obtain⟨q,_,rfl⟩:=Þ.mp c;simp
 .have e:(λq=>decide<|aO cT q=p)=λq=>decide (q=p):=funext λq=>by rw[CJ]
  rw[e];by_cases h:p∈qs
  .have:=lI a (g:=(p,[p]))<|Þ.mpr ⟨p,h,rfl⟩;rw[this,Kd b h]
  .rw[qT<|by rw[C4];show h,N9.mpr];intro q d w;show h<|of_decide_eq_true w▸d
structure NS(qs:jq)(μ:Hm)(w h:Nat)(F:Int×Int->Ly)(Z:Zr):Prop where
 hw:μ[w]?=a0 (.dT<|aS (λq=>LD<|F q) qs)
 hi:HI μ h Z
 hh:μ[h]?=a0 (.dT<|aW Z)
 di:∀q,Ď (F q)
 pl:ŏ qs (λq=>aO (F q) q)<|GZ Z
inductive Sz (μ0:Hm)(a b l:Nat)(qs:jq)(i:Nat)(μ':Hm):Prop
 |mk (Z:Zr)(p:μ0<+:μ')(g1:μ'[a]?=a0 (.dT<|aS (λ_=>LD cT)<|qs.take i))(I:HI μ' b Z)(g2:μ'[b]?=a0 (.dT<|aW Z))(eG:GZ Z=mN (qs.take i))(g3:μ'[l]?=a0 (.lst<|qs.map PP)):Sz μ0 a b l qs i μ'
def YT{μ0 n:Hm}(O:qs.Nodup)(hl:qs.length<=100)(B:μ0<+:n)(la:μ0.length<=a)(p:a<b)(u:n[a]?=a0 (.dT []))(o:n[b]?=a0 (.dT []))(gl:n[l]?=a0 (.lst<|qs.map PP))Q(H:∀x Z c,μ0<+:c->NS qs c a b (λ_=>cT) Z->GZ Z=mN qs->Q (.nx,E::G::K::L::M::a0 (.loc a)::a0 (.loc b)::x::xs,c)):
  W (dZ (c9<|.loc l) (bS 7) IX ((qs.map PP).length+1) 0 (E::G::K::L::M::a0 (.loc a)::a0 (.loc b)::T::xs) n) Q:=by
 have w:a≠l:=λe=>by rw[e,gl]at u;cases u
 have y:b≠l:=λe=>by rw[e,gl]at o;cases o
 show gW (λi g c=>∃x,g=E::G::K::L::M::a0 (.loc a)::a0 (.loc b)::x::xs/\Sz μ0 a b l qs i c)
  ⟨T,rfl,[],B,u,⟨.inl o,ϱ,λz hz=>nomatch hz⟩,o,rfl,gl⟩ (by rintro _ _ _ ⟨_,_,_,_,_,_,_,_,h⟩;show h) ?_ ?_
 .rintro i d g c hd ⟨x,rfl,Z,A,k,I,r,j,N⟩;obtain⟨q,v,rfl⟩:=kJ hd;have R:q∉qs.take i:=qV O v;have lt:(qs.take i).length<=100:=Đ (ϵ _ _) hl;have lZ:Z.length<=100:=by rw[<- fW,j,mN,Å];show lt
  show⟨_,rfl,Ê.mpr<|ï.mpr<|à.mpr ⟨_,rfl,CK,_,rfl,_,rfl,(fU k (cC q)<|by rw[Å,Ā];lia).mpr ?_⟩⟩;have Y:cI (aS (λ_=>LD cT)<|qs.take i) (aN q) (LD cT)=aS (λ_=>LD cT) (qs.take<|i+1):=by rw[eT v];show qW (v:=λ_=>LD cT) R
  have p2:=cS A la<|C.dT<|aS (λ_=>LD cT)<|qs.take<|i+1;have m:=aM (c.set a<|C.dT<|aS (λ_=>LD cT)<|qs.take<|i+1)<|C.lst [PP q];have s:=aH m<|(đ<|õ p).trans r;obtain⟨X,e3,e4,U⟩:=((I.off k (Ř p) _).more m).put s (p:=q) (L:=[q])<|aU _ _;rw[show D.tup [.int 1,.int 0,.int 0,.int 1,.int 0,.int 0]=LD cT from rfl,Y];show ï.mpr (ô.mpr ⟨_,rfl,Jb,_,rfl,_,rfl,(fU s (cC q)<|by rw[nR,Ā];lia).mpr ?_⟩);rw[e3];show⟨_,rfl,X,cS (p2.trans m) ⋯ _,(đ<|Ř p).trans<|aH m<|cH k,U,cH s,?_,(đ y).trans<|aH m<|(đ w).trans N⟩;rw[e4,j,C2<|by rw[C4];show R,eT v,mN,mN,Ę];rfl
 .rintro g c ⟨x,rfl,Z,A,k,I,r,j,N⟩;rw[Å,ś]at k j;show H x Z c A ⟨k,I,r,λ_=>zB,by rw[j];show YS O⟩ j
inductive Sw (J:(Int×Int->Ly)->Gr->Prop)(ns:List Int)(w h c m:Int)(μ:Hm):aF->Hm->Prop
 |mk {a b:Nat}(F:Int×Int->Ly)(Z:Zr){x7 x8 x9 NU wy x12 x13:Option D}{μ':Hm}(p:μ<+:μ')(G:NS (fX w h) μ' a b F Z)(j:J F (GZ Z)):Sw J ns w h c m μ [a0<|.rol<|ns.map D.int,a0<|.int w,a0<|.int h,a0<|.int c,a0<|.int m,a0<|.loc a,a0<|.loc b,x7,x8,x9,NU,wy,x12,x13] μ'
def YU(J:(Int×Int->Ly)->Gr->Prop)k(ns:List Int)w h(K:J (λ_=>cT) (mN<|fX w h))(L:∀F G u n a o,0<=u/\u<4->n%4=0->ŏ (fX w h) (λq=>aO (F q) q) G->J F G->J (eA u n a F) (CZ (eI u n a) (aO<|cD u n) o G))(hw:1<=w/\w<=3)(hh:1<=h/\h<=3)c m(hc:0<=c/\c<=50)(hm:0<=m/\m<=10)(z:(fX w h).Nodup)(hl:(fX w h).length<=36)(h1:1<=(fX w h).length)(g:Hm)(Q:jz)(H:∀a b F Z e,g<+:e->NS (fX w h) e a b F Z->J F (GZ Z)->Q (.tup [.loc a,.loc b],e)):W (f (k+3) "_law_grown" [.rol<|ns.map D.int,.int w,.int h,.int c,.int m] g) Q:=by
 show ð (XE (k+2) _ _ _ _ _ g)<|bL<|Ü.mpr<|bL<|Ü.mpr<|Ê.mpr<|Í.mpr<|Ó.mpr<|bX rfl<|JY (k+1) w h hw hh _ _<|(dA<|aU _ _).mpr ?_;show YT (μ0:=g) z ⋯ (((aM _ _).trans<|aM _ _).trans<|aM _ _) (Õ _) (by rw[å];show Ψ _) (aH ((aM _ _).trans<|aM _ _)<|aU _ _) (aH (aM _ _)<|aU _ _) (aU _ _) _ λx Z μ1 p1 E U=>hG (Í.mpr<|(Iz (j:=0)).mpr ⟨_,rfl,by lia,?_⟩);show vC (λ_=>Sw J ns w h c m g) (.mk _ Z p1 E<|by rw[U];show K) ?_ ?_
 .rintro i s j hi ⟨F,Z,r,G,p⟩;have lZ:=G.pl.lenZ.1;have zp:0<(cM<|Z.map (·.1)).length:=by rw[YA,Å];obtain⟨q,hq⟩:=List.exists_mem_of_length_pos (l:=fX w h) h1;have:=G.pl.key.mpr ⟨q,hq,rfl⟩;rw[lH]at this;have:=P4 this;rwa [Å]at this
  show⟨_,rfl,bL<|bX rfl<|JU k ns _ ⋯ _ _ λv l v0 v1 A=>bL<|bW rfl rfl<|ĝ.mpr<|bL<|bX rfl<|(YE G.hi.kd (aH A G.hh)<|by lia).mpr<|bL ?_⟩;have p4:=aM l<|C.lst<|(cM<|Z.map (·.1)).map PP;have y:=aU l<|C.lst<|(cM<|Z.map (·.1)).map PP;have O:=uf (v/4) (show((cM<|Z.map (·.1)).length:Int)≠0 by lia);have R:=vg (v/4) (show 0<((cM<|Z.map (·.1)).length:Int) by lia);show eM (bJ<|cG ⟨_,rfl,cG<|bW rfl rfl<|jf.mpr<|bX rfl<|(vF y).mpr<|(i9<|by rw[Å];lia).mpr ?_⟩);rw[Å];show(vB y<|YI (CF O R)<|ó<|by lia).mpr ⟨_,rfl,zI (k+1) _ (v%4) ⋯ _ _ λμ5 p5=>bL<|cG<|bW rfl rfl<|(qO (by decide)<|by decide).mpr ⟨_,rfl,ĝ.mpr<|ĳ.mpr<|bX rfl ?_⟩⟩;have d:=(A.trans p4).trans p5;show YR k ⋯ G.di z hl (aH d G.hw) (G.hi.more d) (aH d G.hh) G.pl _ λw' h' B N μ6 p6 g6 I g7 T M X=>Ν.mpr<|.mk B N (r.trans<|d.trans p6) ⟨g6,I,g7,T,M⟩ ?_;rcases X with⟨rfl,rfl⟩|⟨rfl,Y⟩
  .show p
  .rw[Y];show L F _ _ _ _ _ ⋯ ⋯ G.pl p
 .rintro s j ⟨F,Z,r,G,p⟩;show⟨rfl,dP<|à.mpr ⟨_,rfl,fV,H _ _ F Z j r G p⟩⟩
def YV u n p:aO (cD u n) p=if u=0 then(p.1,2*n-p.2)else if u=1 then(2*n-p.1,p.2)else if u=2 then(p.2+n,p.1-n)else(n-p.2,n-p.1):=by
 unfold cD aO;split
 .show þ ?_ ?_<;>dsimp only<;>lia
 split
 .show þ ?_ ?_<;>dsimp only<;>lia
 split
 .show þ ?_ ?_<;>dsimp only<;>lia
 .show þ ?_ ?_<;>dsimp only<;>lia
def YW u n:jU (cD u n)=-1:=by
 unfold cD jU;split
 .rfl
 split
 .rfl
 split
 .rfl
 .rfl
def Ke(h:Ď A):(jU A=1/\A.c=-A.b/\A.d=A.a)\/(jU A=-1/\A.c=A.b/\A.d=-A.a):=by
 obtain⟨a,b,c,d,e,g⟩:=A;unfold Ď at h;unfold jU;dsimp only at h ⊢;rcases h with⟨rfl,rfl,i,j⟩|⟨rfl,rfl,i,j⟩
 .rcases i with rfl|rfl<;>rcases j with rfl|rfl<;>decide
 .rcases i with rfl|rfl<;>rcases j with rfl|rfl<;>decide
def Kf{a:Int}(h1:a*x+b*y=0)(e:a*y-b*x=0)(hd:x*x+y*y≠0):a=0/\b=0:=by
 have c:a*(x*x+y*y)=0:=by grind
 have d:b*(x*x+y*y)=0:=by grind
 show⟨(fj.mp c).resolve_right hd,(fj.mp d).resolve_right hd⟩
def YX{p:Int×Int}(h:p≠q):(p.1-q.1)*(p.1-q.1)+(p.2-q.2)*(p.2-q.2)≠0:=λe=>by
 have b:(p.1-q.1)*(p.1-q.1)=0/\(p.2-q.2)*(p.2-q.2)=0:=by
  have a:∀z:Int,0<=z*z:=λz=>by
   rcases Int.le_total 0 z with h|h
   .show Int.mul_nonneg h h
   .show Int.mul_nonneg_of_nonpos_of_nonpos h h
  have:=a<|p.1-q.1;have:=a<|p.2-q.2;omega
 show h<|þ ?_ ?_
 .rcases fj.mp b.1 with z|z<;>lia
 .rcases fj.mp b.2 with z|z<;>lia
def YY{C:Ly}(hB:Ď B)(hC:Ď C)(hd:jU B=jU C)(R:p≠q)(h1:aO B p=aO C p)(l:aO B q=aO C q):B=C:=by
 have j:=Ke hB;have k:=Ke hC;have nz:=YX R;clear R;obtain⟨x,y⟩:=p;obtain⟨z,w⟩:=q;unfold aO at h1 l;injection h1 with u1 u2;injection l with v1 v2;dsimp only at nz u1 u2 v1 v2;have h:(B.a-C.a)*(x-z)+(B.b-C.b)*(y-w)=0:=by grind
 have i:(B.c-C.c)*(x-z)+(B.d-C.d)*(y-w)=0:=by grind
 have key:B.a-C.a=0/\B.b-C.b=0:=by
  rcases j with⟨a,c,d⟩|⟨a,c,d⟩<;>rcases k with⟨c1,c2,c3⟩|⟨c1,c2,c3⟩
  .show Kf h (by rw[c,d,c2,c3]at i;grind) nz
  .rw[hd,c1]at a;cases a
  .rw[hd,c1]at a;cases a
  .show Kf h (by rw[c,d,c2,c3]at i;grind) nz
 have e:B.a=C.a:=by lia
 have g:B.b=C.b:=by lia
 have b:B.c=C.c/\B.d=C.d:=by
  rcases j with⟨a,c,d⟩|⟨a,c,d⟩<;>rcases k with⟨c1,c2,c3⟩|⟨c1,c2,c3⟩
  .rw[c,d,c2,c3,e,g];show⟨rfl,rfl⟩
  .rw[hd,c1]at a;cases a
  .rw[hd,c1]at a;cases a
  .rw[c,d,c2,c3,e,g];show⟨rfl,rfl⟩
 show Ly.ext' e g b.1 b.2 ?_ ?_
 .rw[e,g]at u1;lia
 .rw[b.1,b.2]at u2;lia
def Kg{P:Int->Int->Prop}(h:∀a∈[(0:Int),1,2,3],∀b∈[(0:Int),1,2,3],P a b)x y:P (x%4) (y%4):=by
 have m:∀z:Int,z%4∈[(0:Int),1,2,3]:=λz=>by
  have:z%4=0\/z%4=1\/z%4=2\/z%4=3:=by lia
  simpa using this
 show h _ (m x) _<|m y
def qY(z:Int):z%4%2=z%2:=Qu z<|by decide
abbrev cE(x y:Int):Bool:=x%2==y%2&&(x%2==1||!(x%4==y%4))
abbrev sA(e:Int×Int):Int×Int:=if e.1%2=1 then(e.1,e.2+2-e.2%4)else if e.2%4=0 then(e.1,e.2-1)else(e.1-1,e.2)
abbrev sB(e:Int×Int):Int×Int:=if e.1%2=1 then(e.1+2-e.1%4,e.2)else if e.2%4=0 then(e.1,e.2+1)else(e.1+1,e.2)
def qZ{e:Int×Int}(h:cE e.1 e.2=a9):(e.1%2=1/\e.2%2=1)\/(e.1%2=0/\e.2%4=0/\e.1%4=2)\/(e.1%2=0/\e.2%4=2/\e.1%4=0):=by unfold cE at h;rw[<- qY e.1,<- qY e.2]at h ⊢;revert h;show Kg (P:=λa b=>(a%2==b%2&&(a%2==1||!(a==b)))=a9->(a%2=1/\b%2=1)\/(a%2=0/\b=0/\a=2)\/(a%2=0/\b=2/\a=0)) (by decide) e.1 e.2
def C5(h:cE e.1 e.2=a9):bG (sA e) e=sB e/\bG (sB e) e=sA e:=by
 have:=qZ h;unfold bG sA sB;rcases this with⟨b,c⟩|⟨b,c,a⟩|⟨b,c,a⟩
 .simp only[if_pos b];by_cases a:e.1%4=e.2%4
  .simp only[if_pos a];show⟨þ ?_ ?_,þ ?_ ?_⟩<;>dsimp only<;>lia
  .simp only[if_neg a];show⟨þ ?_ ?_,þ ?_ ?_⟩<;>dsimp only<;>lia
 .simp only[if_neg<|show ¬ e.1%2=1 by lia,if_pos c];show⟨þ ?_ ?_,þ ?_ ?_⟩<;>dsimp only<;>lia
 .simp only[if_neg<|show ¬ e.1%2=1 by lia,if_neg<|show ¬ e.2%4=0 by lia];show⟨þ ?_ ?_,þ ?_ ?_⟩<;>dsimp only<;>lia
def EdF.pos{F:Int×Int->Ly}(a:cE e.1 e.2=a9)(h:F (sA e)=cB (fM e) (F<|sB e)):aO (F<|sA e) (sA e)=aO (F<|sB e) (sB e):=by rw[h,k9,mJ,(C5 a).1]
def YZ u n:cB (cD u n) (cD u n)=cT:=CI λp=>by rw[k9,zH,CJ]
abbrev q8(h:Int)(x:Int):jq:=(ġ (4*h-1).toNat).map λ(j:Nat)=>(x,1+(j:Int))
abbrev pG(h:Int)(n:Nat):jq:=(ġ n).flatMap λ(i:Nat)=>q8 h<|1+(i:Int)
abbrev fY(w h:Int):jq:=pG h (4*w-1).toNat
def Kh h n:pG h (n+1)=pG h n++q8 h (1+(n:Int)):=by unfold pG;rw[za,Mq];simp
def Ki h x:(q8 h x).length=(4*h-1).toNat:=by unfold q8;simp
def C6 h:∀n,(pG h n).length=n*(4*h-1).toNat
 |0=>by simp[pG]
 |n+1=>by rw[Kh,å,C6 h n,Ki,yf]
def Kj{h:Int}(b:h<=6)(a:n<=23):n*(4*h-1).toNat<=529:=by have:n*(4*h-1).toNat<=23*23:=ur a ⋯;lia
def Y0 h x:((nO 1 (4*h-1).toNat).filter λ_=>a9).map (λd=>P x<|rK d)=(q8 h x).map PP:=by unfold nO q8;rw[show ∀l:List D,l.filter (λ_=>a9)=l from λl=>by simp,ã,ã];rfl
def Kk k w h(hw:1<=w/\w<=6)(r:1<=h/\h<=6)(c:Hm)(Q:jz)(H:∀a μ',c<+:μ'->μ'[a]?=a0 (.lst<|(fY w h).map PP)->c.length<=a->Q (.loc a,μ')):W (f (k+1) "places_within" [.int w,.int h] c) Q:=by
 rw[W3,Ù];simp only[Ê,Ē,ô,b7];show⟨Ģ _,?_⟩;simp only[ũ,Ž,Í,sZ,Â,b7,cV,Ô,aV,bF,oY];show⟨by lia,?_⟩;show vC (lo:=1) (λi p μ'=>c<+:μ'/\μ'[c.length]?=a0 (.lst<|(pG h i).map PP)/\∃o,p=[a0<|.int w,a0<|.int h,a0<|.loc c.length,o]) ⟨aM _ _,aU _ _,a7,rfl⟩ ?_ ?_
 .rintro i p n u ⟨m,e,o,rfl⟩;show⟨_,rfl,?_⟩;simp only[ũ,Ž,Ć];show iO ?_;simp only[aV,bF];show⟨gX e,?_⟩;simp only[Â,b7];show jA (xs:=nO 1 (4*h-1).toNat) (p:=λ_=>a9) (v:=λd=>P (1+(i:Int))<|rK d) ?_;simp only[sZ,Â,b7,cV,Ô,aV,bF,oY];show⟨by lia,WB,by simp[nO],by rw[Ā];simp[nO];lia,?_,?_,?_⟩
  .intro d μ' hd m;show ď.mpr ⟨rfl,İ _⟩
  .intro d μ' hd _ m;obtain⟨j,v,rfl⟩:=XO hd;simp only[Ű,ź,à,Â,b7,aV,bF,fV,true_and];show⟨rfl,İ _⟩
  .intro s b g;rw[Y0]at g;have l:((pG h i).map PP).length+((q8 h<|1+(i:Int)).map PP).length<=Ñ:=by have q:=Kj (h:=h) r.2 (n:=i+1) ⋯;rw[yf]at q;rw[Å,Å,C6,Ki,Ā];lia
   show(IE (aH b e) g l).mpr ?_;show⟨cS (m.trans b) (Õ _) _,?_,_,rfl⟩;rw[τ (Ú.mp<|aH b e).1,Kh,Ę]
 .rintro p n ⟨m,e,o,rfl⟩;simp only[Î,aV,bF];show H _ _ m e<|Õ _
def Kl(hw:w<=6)(a:h<=6):(fY w h).length<=529:=by unfold fY;rw[C6];show Kj a<|by lia
noncomputable abbrev MD(p:(Int×Int)×Str):D:=.tup [PP p.1,.str p.2]
def vW{d:Hm}(h:a≠b):(d.set a c)[b]?=d[b]?:=đ h
abbrev tG(a:List Int):Bool:=decide (a.length<=8)&&decide (a.length%2=0)&&a.all (λg=>decide<|1<=g)&&mI a==0
def Y1 k i a(Q:jz):W (f (k+1) "is_whole" [.int i] a) Q↔Q (.bl a9,a):=by rw[IY,Ù];simp only[Î,ë,Iw,Ë,Â,b7,aV,cV,Ct,II];simp
def Y2:∀i,i.length<=8->i.length%2=0->∃es j:List Int,e8 (i.map D.int) a7 a7 (a0 2)=es.map D.int/\e8 (i.map D.int) (a0 1) a7 (a0 2)=j.map D.int/\es.sum-j.sum=mI i/\es.length<=8/\j.length<=8
 |[],_,_=>⟨[],[],rfl,rfl,rfl,by decide,by decide⟩|[_],_,h=>by simp at h
 |[a,b],_,_=>⟨[a],[b],by kernel_rfl,by kernel_rfl,by simp[mI]<;>lia,by simp,by simp⟩|[_,_,_],_,h=>by simp at h
 |[a,b,c,d],_,_=>⟨[a,c],[b,d],by kernel_rfl,by kernel_rfl,by simp[mI]<;>lia,by simp,by simp⟩|[_,_,_,_,_],_,h=>by simp at h
 |[a,b,c,d,e,g],_,_=>⟨[a,c,e],[b,d,g],by kernel_rfl,by kernel_rfl,by simp[mI]<;>lia,by simp,by simp⟩|[_,_,_,_,_,_,_],_,h=>by simp at h
 |[a,b,c,d,e,g,x,y],_,_=>⟨[a,c,e,x],[b,d,g,y],by kernel_rfl,by kernel_rfl,by simp[mI]<;>lia,by simp,by simp⟩|_::_::_::_::_::_::_::_::_::_,h,_=>absurd h<|by simp
def Km{a:List Int}(h:d∈a.map D.int):∃g∈a,d=.int g:=by obtain⟨g,b,rfl⟩:=Þ.mp h;show⟨g,b,rfl⟩
def zO{a:Type}(l:List a):l.filter (λ_=>a9)=l:=by simp
def Kn{o:Option a}{r:a}:W o (λx=>x=r)->o=a0 r:=λ⟨_,e,q⟩=>e.trans<|congrArg a0 q
def Y3 k a b(hz:b.length<=8)(h:Hm)(Q:jz)(o:h[a]?=a0 (.lst<|b.map D.int))(H:∀μ',h<+:μ'->Q (.bl<|tG b,μ')):W (f (k+2) "is_good" [.loc a] h) Q:=by
 have q:fL [.loc a] h=a0 (.int (b.length:Nat),h):=Kn ((vF o).mpr<|by rw[Å]);have x:tG b=(decide (b.length%2=0)&&b.all (λg=>decide<|1<=g)&&mI b==0):=by unfold tG;rw[decide_eq_true hz,Px]
 rw[x]at H;show ð (Xb (k+1) _ h)<|XT (b:=(b.length:Int)%2==1) (μ':=h) (Kn<|Jg<|iA<|cG<|bX rfl<|Jf q ⟨_,rfl,Μ.mpr ⟨_,rfl,decide_eq_false<|by lia,iA<|cG<|cG<|bX rfl<|Jf q ⟨_,rfl,Ĳ.mpr ⟨_,rfl,Ĥ.mpr ⟨_,rfl,rfl⟩⟩⟩⟩⟩) (λl=>?_) λl=>tE ?_
 .have l:=beq_iff_eq.mp l;rw[decide_eq_false<|show ¬ b.length%2=0 by lia]at H;show XU ⟨_,rfl,H _<|İ _⟩
 .have l:=beq_eq_false_iff_ne.mp l;have r:b.length%2=0:=by lia
  rw[decide_eq_true r,Px]at H;obtain⟨w,B,u,m,A,I,K⟩:=Y2 b hz r;have fin:∀(R:Fl×aF×Hm->Prop) c,h<+:c->(∀G μ',h<+:μ'->R (.rt<|.bl<|mI b==0,G,μ'))->W (aR (aC (bD a8) (aG nD<|aB (oK (aA 0) fG fG<|eV<|mC<|.int 2) aD)<|aG nD<|aB (oK (aA 0) (eV<|mC<|.int 1) fG<|eV<|mC<|.int 2) aD) [a0<|.loc a] c) R:=λR c v y=>by
   have i:=aH v o;show dP (cG<|vK<|IL ⟨_,rfl,_,rfl,_,rfl,_,rfl,_,rfl,by change a0 (2:Int)≠a0 0;decide,_,i,by rw[u,Å,Ā];lia,?_⟩);rw[u];show(IK<|aU _ _).mpr (vK<|IL ⟨_,rfl,_,rfl,_,rfl,_,rfl,_,rfl,by change a0 (2:Int)≠a0 0;decide,_,aH (aM _ _) i,by rw[m,Å,Ā];lia,?_⟩);rw[m];show(IK<|aU _ _).mpr<|Ĥ.mpr ?_;have e:(w.sum==B.sum)=(mI b==0):=by rw[<- A,ϟ,beq_iff_eq,beq_iff_eq];lia
   rw[e];show y _ _<|v.trans<|(aM _ _).trans<|aM _ _
  show Ê.mpr<|Û.mpr<|vM<|tD (b:=b.all λg=>decide<|1<=g)<|vK<|jA (xs:=b.map D.int) (p:=λ_=>a9) (v:=λd=>.bl<|decide<|1<=rK d)<|Ó.mpr ⟨_,rfl,(dA o).mpr ⟨k8 o,rfl,by rw[Å,Ā];lia,λd μ' hd z=>ď.mpr ⟨rfl,İ _⟩,λd μ' hd _ z=>?_,λc n p=>?_⟩⟩
  .obtain⟨g,_,rfl⟩:=Km hd;show ë.mpr<|bX rfl<|(Y1 k g _ _).mpr<|(if_pos rfl).mpr<|bW rfl rfl<|wz.mpr ⟨rfl,İ _⟩
  .have j:c[h.length]?=a0 (.lst<|(b.map λg=>decide<|1<=g).map D.bl):=by rw[p,zO,ã,ã];rfl
   show(WJ j).mpr ⟨by rw[OG];rfl,?_⟩;cases s:b.all λg=>decide (1<=g)with
   |false=>rw[s]at H;show(if_pos rfl).mpr (Î.mpr ⟨_,rfl,H _ n⟩)|true=>rw[s]at H;show(if_neg Ī).mpr<|Ø.mpr<|fin _ c n λ_ μ' E=>H μ' E
abbrev mv(x y:Int)(l:jq):jq:=l.map λs=>(x+s.1,y+s.2)
def Ko k x y l(g:l.length<=63)(c:Hm)(Q:jz)(h:∀a μ',c<+:μ'->μ'[a]?=a0 (.lst<|(mv x y l).map PP)->c.length<=a->Q (.loc a,μ')):W (f (k+1) "moved_by" [P x y,.tup<|l.map PP] c) Q:=by
 rw[WV,Ù];simp only[Î];show jA (xs:=l.map PP) (p:=λ_=>a9) (v:=λd=>PP (x+(dC d).1,y+(dC d).2)) ?_;simp only[Ó,aV,bF];show jd.mpr ?_;show⟨IB,rfl,by rw[Å,Ā];lia,λd μ' hd b=>À.mpr ⟨rfl,İ _⟩,λd μ' hd _ b=>?_,λμ' b e=>?_⟩
 .obtain⟨u,v,rfl⟩:=qR hd;simp only[Ű,ź,à,Ô,cV,Â,b7,aV,bF,Ă,ā,ä,fV,true_and];show⟨rfl,İ _⟩
 .show h _ _ b ?_<|Õ _;rw[e,yz.mpr λ_ _=>rfl,ã];unfold mv;rw[ã];rfl
abbrev E8:jq:=[(2,0),(1,1),(0,2),(-1,1),(-2,0),(-1,-1),(0,-2),(1,-1)]
abbrev F4:jq:=[(1,1),(-1,1),(-1,-1),(1,-1)]
abbrev dD(x:Int):jq:=if x%4=0 then E8 else F4
def Kp k x y(b:Hm)(Q:jz)(h:∀a μ',b<+:μ'->μ'[a]?=a0 (.lst<|(mv x y<|dD x).map PP)->b.length<=a->Q (.loc a,μ')):W (f (k+2) "edges_round" [P x y] b) Q:=by
 rw[WW,Ù];simp only[Î,Ë,Â,b7,aV,ő,ê,Ô,cV,Ă,ĝ,Ĥ];unfold dD at h;by_cases e:x%4=0
 .rw[if_pos e]at h;rw[e];show Ko k x y E8 (by decide) b _ h
 .rw[if_neg e]at h;rw[if_neg<|by simpa using e];show Ko k x y F4 (by decide) b _ h
def Kq a q:∀ps:jq,lX a (PP q) (ps.map PP)=a0 (ps.any λp=>p==q)
 |[]=>rfl|p::ps=>by rw[ù];change(dG 8 a (PP p)<|PP q).bind (λb=>(lX a (PP q)<|ps.map PP).map λc=>b||c)=_;rw[Cr 6,Kq a q ps];rfl
abbrev nU(x y:Int):Int×Int:=if y%4=0 then(0,y)else if x%4=0 then(1,x)else if x%4=y%4 then(2,x-y)else(3,x+y)
abbrev vY(p l:Int×Int):Int×Int:=if l.1=0 then(p.1,2*l.2-p.2)else if l.1=1 then(2*l.2-p.1,p.2)else if l.1=2 then(p.2+l.2,p.1-l.2)else(l.2-p.2,l.2-p.1)
abbrev rA(x y:Int):jq:=if y%4=0 then[(x,y-1),(x,y+1)]else if x%4=0 then[(x-1,y),(x+1,y)]else[(x+2-x%4,y),(x,y+2-y%4)]
def rB kvs k:(bB kvs k).isSome=kvs.any λp=>decide (p.1=k):=by unfold bB;rw[yw,ϟ,QY,Mw]
def Y4 kvs k k' d:(bB (cI kvs k d) k').isSome=(decide (k=k')||(bB kvs k').isSome):=by
 unfold cI;split
 .rename_i h;have e:(kvs.map λp=>if p.1=k then(p.1,d)else p).any (λp=>decide<|p.1=k')=kvs.any λp=>decide (p.1=k'):=by rw[OH];congr 1;funext p;simp only[Function.comp];split<;>rfl
  rw[rB,e,rB kvs k'];by_cases z:k=k'
  .subst z;rw[rB]at h;rw[h];simp
  .simp[z]
 .rw[rB,List.any_append,rB];simp only[O6,List.any_nil,Mn];show Bool.or_comm _ _
def kM(h:1<=w/\w<=3):w∈[(1:Int),2,3]:=by
 have:w=1\/w=2\/w=3:=by lia
 rcases this with rfl|rfl|rfl<;>decide
abbrev zP(k:Int)(p:Int×Int):Int×Int:=if k=0 then(p.1,-p.2)else if k=1 then(-p.1,p.2)else if k=2 then(p.2,p.1)else(-p.2,-p.1)
abbrev pH(k x y:Int):Int:=if k=0 then y else if k=1 then x else if k=2 then x-y else x+y
def Y5 k x y p:vY (x+p.1,y+p.2) (k,pH k x y)=(x+(zP k p).1,y+(zP k p).2):=by
 unfold vY zP pH;dsimp only;by_cases a:k=0
 .simp only[a,if_true];show þ rfl<|by dsimp only;lia
 .by_cases b:k=1
  .subst b;simp only[if_true,a,if_false];show þ (by dsimp only;lia) rfl
  .by_cases c:k=2
   .subst c;simp only[if_true,a,b,if_false];show þ (by dsimp only;lia)<|by dsimp only;lia
   .simp only[a,b,c,if_false];show þ (by dsimp only;lia)<|by dsimp only;lia
abbrev vZ(m:Int×Int->Bool)(es:jq)(p:Int×Int):Int×Int:=es.foldl (λp e=>if m e then vY p (nU e.1 e.2)else p) p
abbrev tH:List Int->List Bool->Int×Int->Int×Int
 |k::ks,b::bs,p=>tH ks bs (if b then zP k p else p)|_,_,p=>p
def Kr m x y:∀l ks p,ks.length=l.length->(∀q∈l.zip ks,nU (x+q.1.1) (y+q.1.2)=(q.2,pH q.2 x y))->
  vZ m (mv x y l) (x+p.1,y+p.2)=(x+(tH ks ((mv x y l).map m) p).1,y+(tH ks ((mv x y l).map m) p).2)
 |[],[],p,_,_=>rfl|[],_::_,_,h,_=>by simp at h
 |_::_,[],_,h,_=>by simp at h
 |o::l,k::ks,p,h,hl=>by
  have b:=hl (o,k) (by simp);have a:=λp=>Kr m x y l ks p (by simpa using h) λq c=>hl q (by rw[yx];show ı _ c);unfold vZ mv at a ⊢;simp only[ù,az,tH];dsimp only at b;cases d:m (x+o.1,y+o.2)with
  |true=>simp only[if_true];rw[b,Y5];show a _|false=>simp only[ĸ,if_false];show a p
abbrev K8:List Int:=[0,2,1,3,0,2,1,3]
abbrev K4:List Int:=[2,3,2,3]
def Y6(d:x%4=0)(g:y%4=0):∀q∈E8.zip K8,nU (x+q.1.1) (y+q.1.2)=(q.2,pH q.2 x y):=by
 have e:∀{a b:Int}{k n:Int},(if b%4=0 then(0,b)else if a%4=0 then(1,a)else if a%4=b%4 then(2,a-b)else(3,a+b):Int×Int)=(k,n)->nU a b=(k,n):=λh=>h;intro q c;simp only[E8,K8,yx,Oi,ċ,uz,or_false]at c;rcases c with rfl|rfl|rfl|rfl|rfl|rfl|rfl|rfl<;>show e ?_<;>dsimp only[pH]
 .rw[if_pos<|by lia];show þ rfl<|by simp
 .rw[if_neg<|by lia,if_neg<|by lia,if_pos<|by lia];show þ rfl<|by simp<;>lia
 .rw[if_neg<|by lia,if_pos<|by lia];show þ rfl<|by simp
 .rw[if_neg<|by lia,if_neg<|by lia,if_neg<|by lia];show þ rfl<|by simp<;>lia
 .rw[if_pos<|by lia];show þ rfl<|by simp
 .rw[if_neg<|by lia,if_neg<|by lia,if_pos<|by lia];show þ rfl<|by simp<;>lia
 .rw[if_neg<|by lia,if_pos<|by lia];show þ rfl<|by simp
 .rw[if_neg<|by lia,if_neg<|by lia,if_neg<|by lia];show þ rfl<|by simp<;>lia
def Y7(d:x%4=2)(g:y%4=2):∀q∈F4.zip K4,nU (x+q.1.1) (y+q.1.2)=(q.2,pH q.2 x y):=by
 have e:∀{a b:Int}{k n:Int},(if b%4=0 then(0,b)else if a%4=0 then(1,a)else if a%4=b%4 then(2,a-b)else(3,a+b):Int×Int)=(k,n)->nU a b=(k,n):=λh=>h;intro q c;simp only[F4,K4,yx,Oi,ċ,uz,or_false]at c;rcases c with rfl|rfl|rfl|rfl<;>show e ?_<;>dsimp only[pH]
 .rw[if_neg<|by lia,if_neg<|by lia,if_pos<|by lia];show þ rfl<|by simp<;>lia
 .rw[if_neg<|by lia,if_neg<|by lia,if_neg<|by lia];show þ rfl<|by simp<;>lia
 .rw[if_neg<|by lia,if_neg<|by lia,if_pos<|by lia];show þ rfl<|by simp<;>lia
 .rw[if_neg<|by lia,if_neg<|by lia,if_neg<|by lia];show þ rfl<|by simp<;>lia
abbrev D3:jq:=[(0,0),(2,1),(1,-2)]
abbrev kN(m:Int×Int->Bool)(x y:Int):Bool:=D3.all λd=>vZ m (mv x y<|dD x) (x+d.1,y+d.2)==(x+d.1,y+d.2)
abbrev zQ(ks:List Int)(bs:List Bool):Bool:=D3.all λd=>tH ks bs d==d
abbrev gU(bs:List Bool):List Int:=((ġ bs.length).filter λi=>bs.getD i a8).map λ(i:Nat)=>(i:Int)
abbrev rC(bs:List Bool):List Int:=((gU bs).zip<|(gU bs).drop 1++((gU bs).take 1).map λs=>s+(bs.length:Int)).map λp=>(p.2-p.1)*(8/(bs.length:Int))
def Y8:∀a b c d e g h i,tG (rC [a,b,c,d,e,g,h,i])=zQ K8 [a,b,c,d,e,g,h,i]:=by decide +kernel
def Y9:∀a b c d,tG (rC [a,b,c,d])=zQ K4 [a,b,c,d]:=by decide +kernel
def Ks(a:dD x=l)(b:ks.length=l.length)(c:∀q∈l.zip ks,nU (x+q.1.1) (y+q.1.2)=(q.2,pH q.2 x y)):kN m x y=zQ ks ((mv x y l).map m):=by unfold kN zQ;rw[a];congr 1;funext d;rw[Kr m x y l ks d b c];generalize tH ks ((mv x y l).map m) d=q;rw[ϟ];simp only[beq_iff_eq,OL];lia
def Za(c:x%2=0)(b:x%4=y%4):tG (rC<|(mv x y<|dD x).map m)=kN m x y:=by
 by_cases h:x%4=0
 .have a:dD x=E8:=by unfold dD;rw[if_pos h]
  rw[Ks a rfl<|Y6 h<|by lia,a];show Y8 _ _ _ _ _ _ _ _
 .have a:dD x=F4:=by unfold dD;rw[if_neg h]
  rw[Ks a rfl<|Y7 ⋯<|by lia,a];show Y9 _ _ _ _
abbrev iR(p:Int×Int):Bool:=p.1%2==0&&p.1%4==p.2%4
def Zb k x y a(Q:jz):W (f (k+1) "is_corner" [P x y] a) Q↔Q (.bl<|iR (x,y),a):=by rw[WQ,Ù];simp only[Î,ë,Ô,cV,aV,Ă,ā,Ĥ,Ĳ,ĝ];unfold iR;cases x%2==0<;>simp
def Zc k w h(hw:1<=w/\w<=3)(l:1<=h/\h<=3)(e:Hm)(Q:jz)(H:∀a μ',e<+:μ'->μ'[a]?=a0 (.lst<|((fY w h).filter iR).map PP)->Q (.loc a,μ')):W (f (k+2) "corners_in" [.int w,.int h] e) Q:=by
 rw[W5,Ù];simp only[Î];show jA (xs:=(fY w h).map PP) (p:=λd=>iR<|dC d) (v:=λd=>d) ?_;simp only[Ó,Ë,Â,b7,aV,bF];show Kk _ w h ⋯ ⋯ _ _ λa j i c m=>?_;show(dA c).mpr ⟨k8 c,rfl,?_,λd μ' hd b=>?_,λd μ' hd _ b=>?_,λμ' b g=>?_⟩
 .have:=Kl (w:=w) (h:=h) ⋯ ⋯;rw[Å,Ā];lia
 .obtain⟨u,v,rfl⟩:=qR hd;simp only[Ű,ź,Ė,Ë,Â,b7,aV,bF,Zb,Ĝ];show⟨rfl,İ _⟩
 .simp only[Ű,ź,aV,bF];show⟨trivial,İ _⟩
 .show H _ _ (i.trans b) ?_;rw[g,vP iR]
abbrev cJ(ms:List ((Int×Int)×Str))(p:Int×Int):Bool:=(ms.map (·.1)).any λq=>q==p
def Kt:∀ms:List<|(Int×Int)×Str,sT (ms.map MD)=a0 (ms.map λm=>(aN m.1,D.str m.2))
 |[]=>rfl|m::ms=>by rw[ù,ù];change(dR<|PP m.1).bind (λk=>(sT<|ms.map MD).map λl=>(k,D.str m.2)::l)=_;rw[Kt ms];rfl
def Ku k:∀(l kvs:jx),(bB (l.foldl (λq p=>cI q p.1 p.2) kvs) k).isSome=((bB kvs k).isSome||l.any λp=>decide<|p.1=k)
 |[],kvs=>by simp
 |p::l,kvs=>by rw[az,Ku k l,Y4,O6];cases decide (p.1=k)<;>cases(bB kvs k).isSome<;>simp
def C7 p q:decide (aN p=aN q)=(p==q):=by rw[ϟ];simp only[decide_eq_true_eq,beq_iff_eq,aN,Qz,and_true,OL]
def C8 ms p:(bB ((ms.map λm=>(aN m.1,D.str m.2)).foldl (λq p=>cI q p.1 p.2) [])<|aN p).isSome=cJ ms p:=by rw[Ku];unfold cJ;rw[OH,OH];change(a8||_)=_;rw[Bool.false_or];congr 1;funext m;show C7 m.1 p
def ϕ{Q:jz}:W (aI (.tup [a,b,c]) (.int 2) d) Q↔Q (c,d):=À
def ϗ{Q:jz}:W (aI (.tup [a,b,c]) (.int 0) d) Q↔Q (a,d):=À
def ϖ{Q:jz}:W (aI (.tup [a,b,c]) (.int 1) d) Q↔Q (b,d):=À
noncomputable abbrev SH(w h:Int)(ms:List ((Int×Int)×Str)):D:=.tup [.int w,.int h,.tup<|ms.map MD]
def Α{ms:List ((Int×Int)×Str)}{Q:jz}:W (qH [.tup<|ms.map MD] a) Q↔Q (.loc a.length,a++[.dT<|(ms.map λm=>(aN m.1,D.str m.2)).foldl (λq p=>cI q p.1 p.2) []]):=by
 have:qH [.tup<|ms.map MD] a=a0 (.loc a.length,a++[.dT<|(ms.map λm=>(aN m.1,D.str m.2)).foldl (λq p=>cI q p.1 p.2) []]):=by simp only[qH,Kt,į]
 rw[this];show À
def Zd k w h ms x y(g:Hm)(Q:jz)(H:∀a μ',g<+:μ'->μ'[a]?=a0 (.lst<|((mv x y<|dD x).filter<|cJ ms).map PP)->Q (.loc a,μ')):W (f (k+3) "creases_at" [SH w h ms,P x y] g) Q:=by
 rw[Xc,Ù];simp only[Ê,Ē,Ë,Â,b7,aV,bF];rw[CB,Ù];simp only[Î,Ë,Â,b7,Ô,aV,cV,ϕ,Α,ũ,Ž];show jA (xs:=(mv x y<|dD x).map PP) (p:=λd=>cJ ms<|dC d) (v:=λd=>d) ?_;simp only[Ó,Ë,Â,b7,aV,bF];show Kp k x y _ _ λa j e c l=>?_;show(dA c).mpr ⟨k8 c,rfl,?_,λd μ' hd b=>?_,λd μ' hd _ b=>?_,λμ' b i=>?_⟩
 .rw[Å,Ā];unfold mv dD;rw[Å];split<;>decide
 .obtain⟨u,v,rfl⟩:=qR hd;simp only[Ű,ź,ê,Ô,aV,bF];show(tB (aH (e.trans b)<|aU _ _)<|cC (u,v)).mpr ?_;simp only[ĸ,if_false];show⟨C8 ms (u,v),İ _⟩
 .simp only[Ű,ź,aV,bF];show⟨trivial,İ _⟩
 .show H _ _ ((aM _ _).trans<|e.trans b) ?_;rw[i,vP<|cJ ms]
def Kw a q:∀ps:jq,oM a (PP q) (ps.map PP)=a0 (ps.map λp=>p==q)
 |[]=>rfl|p::ps=>by rw[ù,ù];simp only[oM,Kw a q ps];rw[Cr 6];rfl
def Ze{ps:jq}{Q:jz}(h:b[a]?=a0 (.lst<|ps.map PP))(d:q∈ps)(hz:ps.length<=Ñ):W (sQ (.loc a) [PP q] b) Q↔Q (.int (ps.idxOf q:Nat),b):=by
 have e:(ps.map λp=>p==q).findIdx id=ps.idxOf q:=by rw[List.findIdx_map];rfl
 have c:ps.idxOf q<ps.length:=P0 d;simp only[sQ,h,Kw,ğ];rw[e,Å,if_pos ⟨c,hz⟩];show À
def Zf{es:jq}(d:es.Nodup)(a:i<es.length):es.idxOf (es.getD i (0,0))=i:=by
 have e:es.getD i (0,0)=es[i]:=by simp[ę,a]
 rw[e];have b:es.idxOf es[i]<es.length:=P0<|bf a;have c:es[es.idxOf es[i]]=es[i]:=Oh b;rcases N3 (es.idxOf es[i]) i with h|h|h
 .show absurd c<|(ϳ.mp d) _ i b a h
 .show h
 .show absurd c.symm<|(ϳ.mp d) i _ a b h
def Ky{es:jq}(d:es.Nodup)m:(es.filter m).map (λq=>((es.idxOf q:Nat):Int))=gU (es.map m):=by
 have b:es.filter m=((ġ es.length).filter λi=>m<|es.getD i (0,0)).map λi=>es.getD i (0,0):=by
  conv=>lhs;rw[<- CQ es (0,0)]
  rw[Qk];rfl
 unfold gU;rw[b,ã,Å];have c:(ġ es.length).filter (λi=>m<|es.getD i (0,0))=(ġ es.length).filter λi=>(es.map m).getD i false:=by show OO λi a=>?_;have a:=Ů.mp a;simp[ę,a]
 rw[<- c];show a2x λi a=>?_;have a:=Ů.mp (Ŏ.mp a).1;change((es.idxOf (es.getD i (0,0)):Nat):Int)=_;rw[Zf d a]
def Zg x y(h:l.Nodup):(mv x y l).Nodup:=by unfold mv;change List.Pairwise _ _;rw[Χ];show b3F (λ{a b} c e=>c ?_) h;simp only[OL]at e ⊢;lia
def Zh x:(dD x).Nodup:=by unfold dD;split<;>decide
def Kz x:(dD x).length=8\/(dD x).length=4:=by
 unfold dD;split
 .show .inl rfl
 .show .inr rfl
def Zi(b:List Int):j8 (b.map D.int) (a0 1) a7=(b.drop 1).map D.int:=by
 cases b with
 |nil=>rfl|cons a l=>unfold j8;rw[show(1:Int)=((1:Nat):Int)from rfl,HT.sIx_nat,HT.sIx_none,Å,aq<|by simp,<- Py,Ϲ<|by rw[Å,ŧ];lia]
def Zj(b:List Int):j8 (b.map D.int) a7 (a0 1)=(b.take 1).map D.int:=by
 cases b with
 |nil=>rfl|cons a l=>unfold j8;rw[show(1:Int)=((1:Nat):Int)from rfl,HT.sIx_nat,HT.sIx_none,Å,aq<|by simp,U3,MV,Mo]
abbrev rD(a b:List Int):List D:=(a.zip b).map PP
def Zk{e:Hm}(h:e[a]?=a0 (.lst<|c.map D.int))(j:e[b]?=a0 (.lst<|d.map D.int)):∀μ' i,e<+:μ'->uN (.loc a) (.loc b) μ' i=a0 (rD c d)[i]?:=λμ' i g=>by simp only[uN,bM,aH g h,aH g j,ğ,į];unfold rD List.zip;rw[ú,ú,ú,NJ];cases c[i]?<;>cases d[i]?<;>rfl
def Zl k w h ms x y(E:Hm)(Q:jz)(H:∀a μ',E<+:μ'->μ'[a]?=a0 (.lst<|(rC<|(mv x y<|dD x).map<|cJ ms).map D.int)->Q (.loc a,μ')):W (f (k+4) "gaps_at" [SH w h ms,P x y] E) Q:=by
 have v:=Kz x;have l:(mv x y<|dD x).length=(dD x).length:=by unfold mv;rw[Å]
 have m:=Zg x y<|Zh x;show ð (Xd (k+3) _ _ E)<|bL<|bX rfl<|Kp (k+1) x y _ _ λa1 μ1 p1 R l1=>bL<|bX rfl<|Zd k w h ms x y _ _ λa2 G L o=>?_;have c:=aH L R;generalize hes:mv x y (dD x)=es at c o l m H;have z:(es.filter<|cJ ms).length<=8:=Đ (Ų _ _) ⋯;show bL<|jA (xs:=(es.filter<|cJ ms).map PP) (p:=λ_=>a9) (v:=λd=>.int ((es.idxOf (dC d):Nat):Int))<|Ó.mpr ⟨_,rfl,(dA o).mpr ⟨k8 o,rfl,by rw[Å,Ā];lia,λd μ' hd e=>ď.mpr ⟨rfl,İ _⟩,λd μ' hd _ e=>?_,λb M T=>?_⟩⟩
 .obtain⟨q,Y,rfl⟩:=Þ.mp hd;show iO ⟨_,rfl,gX<|aH e c,_,rfl,(Ze (aH e c) (Ŏ.mp Y).1<|by rw[Ā];lia).mpr ⟨rfl,İ _⟩⟩
 .have g:b[G.length]?=a0 (.lst<|(gU<|es.map<|cJ ms).map D.int):=by rw[T,zO,ã,<- Ky m,ã];rfl
  have A:(gU<|es.map<|cJ ms).length<=8:=by rw[<- Ky m,Å];show z
  generalize hix:gU (es.map<|cJ ms)=is at g A;show bL<|cG<|Cu ⟨_,rfl,_,rfl,_,rfl,_,rfl,_,g,?_⟩;rw[Zi];have p:=aH (aM b<|C.lst<|(is.drop 1).map D.int) g;have j:=aH (M.trans<|aM b<|C.lst<|(is.drop 1).map D.int) c;have u:=aU b<|C.lst<|(is.drop 1).map D.int;have N:=p1.trans<|L.trans<|M.trans<|aM b<|C.lst<|(is.drop 1).map D.int;dsimp only;generalize b.length=l3 at u ⊢;generalize b++[C.lst<|(is.drop 1).map D.int]=μ4 at p j u N ⊢;show jA (xs:=(is.take 1).map D.int) (p:=λ_=>a9) (v:=λd=>.int<|rK d+(es.length:Int))<|Ó.mpr<|Cu ⟨_,rfl,_,rfl,_,rfl,_,rfl,_,p,?_⟩;rw[Zj];show(dA<|aU _ _).mpr ⟨k8<|aU _ _,rfl,by rw[Å,Ń,Ā];lia,λd μ' hd e=>ď.mpr ⟨rfl,İ _⟩,λd μ' hd _ e=>?_,λn p5 U=>?_⟩
  .obtain⟨i,_,rfl⟩:=Km hd;show cG ⟨_,rfl,bX rfl<|(vF<|aH ((aM _ _).trans e) j).mpr<|ä.mpr ⟨by rw[Å];rfl,İ _⟩⟩
  .have O:=(aM μ4<|C.lst<|(is.take 1).map D.int).trans p5;have r:n[(μ4++[C.lst<|(is.take 1).map D.int]).length]?=a0 (.lst<|((is.take 1).map λs=>s+(es.length:Int)).map D.int):=by rw[U,zO,ã,ã];rfl
   show(y9 (aH O u) r<|by rw[Å,Å,Å,ŧ,Ń,Ā];lia).mpr ?_;rw[<- Ę];generalize hjs:is.drop 1++(is.take 1).map (λs=>s+(es.length:Int))=js;have B:=O.trans<|aM n<|C.lst<|js.map D.int;show bL (cG ⟨_,rfl,bX rfl<|(vF<|aH B j).mpr<|(qO (by rw[Å];lia)<|by rw[Å];lia).mpr<|dP ?_⟩);rw[Å];have I:=aH B p;have K:=aU n<|C.lst<|js.map D.int;have Z:(rD is js).length<=8:=by unfold rD;rw[Å,OW];lia
   have h8:8/(es.length:Int)=1\/8/(es.length:Int)=2:=by
    rcases v with h|h
    .left;rw[l,h];rfl
    .right;rw[l,h];rfl
   show WL (xs:=rD is js) (x:=λd=>[a0<|.int (dC d).1,a0<|.int (dC d).2]) (p:=λ_=>a9) (v:=λd=>.int<|((dC d).2-(dC d).1)*(8/(es.length:Int)))<|WM ⟨_,rfl,_,_,_,_,rfl,I,K,Zk I K,?_,by rw[Ā];lia,λd μ' hd=>?_,λd μ' hd e=>ď.mpr ⟨rfl,İ _⟩,λd μ' hd _ e=>?_,λμ8 p8 X=>?_⟩
   .unfold rD;simp only[Å,OW]
   .obtain⟨q,_,rfl⟩:=Þ.mp hd;rfl
   .obtain⟨q,_,rfl⟩:=Þ.mp hd;show cG<|bW rfl rfl<|ϔ.mpr ⟨_,rfl,(k7<|.inr<|by lia).mpr ⟨rfl,İ _⟩⟩
   .show H _ _ (N.trans<|B.trans p8) ?_;rw[X,zO];unfold rD rC;rw[hix,Å,hjs,ã,ã];rfl
def Zm{a:Type}{l A B:List a}{x:a}{q:a->Bool}(b:l=A++x::B)(hA:∀y∈A,q y=a8)(c:q x=a9):l.find? q=a0 x:=by
 rw[b,List.find?_append];have:A.find? q=none:=ni.mpr λy d=>by rw[hA y d];show Ī
 rw[this,List.find?_cons_of_pos c];rfl
def Zn{a:Type}{l:List a}{x:a}(h:l[i]?=a0 x):l=l.take i++x::l.drop (i+1):=by obtain⟨b,rfl⟩:=Ú.mp h;rw[<- vp b,ž]
abbrev pI(ms:List ((Int×Int)×Str))(p:Int×Int):Bool:=iR p&&!(kN (cJ ms) p.1 p.2)
abbrev KA:Option (Int×Int)->D
 |none=>.non|some p=>PP p
def Zo bs:(rC bs).length<=bs.length:=by
 unfold rC;rw[Å,OW];have:(gU bs).length<=bs.length:=by unfold gU;rw[Å];show Đ (Ų _ _)<|by simp
 lia
def KG(h:iR p=a9):p.1%2=0/\p.1%4=p.2%4:=by unfold iR at h;simpa using h
def Zp k(hw:1<=w/\w<=3)(L:1<=h/\h<=3)ms(B:Hm)(Q:jz)(H:∀μ',B<+:μ'->Q (KA<|(fY w h).find?<|pI ms,μ')):W (f (k+5) "barred" [SH w h ms] B) Q:=by
 rw[Xe,Ù];simp only[Ê,Í,Ó,Ë,Â,b7,Ô,aV,cV,ϗ,ϖ];show Zc (k+2) w h hw L _ _ λa r v n=>?_;show(dA n).mpr ?_;have K:(fY w h).find? (pI ms)=((fY w h).filter iR).find? λp=>!(kN (cJ ms) p.1 p.2):=by rw[List.find?_filter];congr 1;funext p;unfold pI;cases iR p<;>cases kN (cJ ms) p.1 p.2<;>simp
 rw[K]at H;generalize hcs:(fY w h).filter iR=cs at n H;have o:∀p∈cs,iR p=true:=λp j=>by rw[<- hcs]at j;show(Ŏ.mp j).2
 show gW (xs:=cs.map PP) (λi m μ'=>r<+:μ'/\(∀q∈cs.take i,(!(kN (cJ ms) q.1 q.2))=a8)/\∃o1,m=[a0<|SH w h ms,o1]) ⟨İ _,λq l=>by simp at l,a7,rfl⟩ (λi m μ' I=>aH I.1 n) ?_ ?_
 .rintro i d m s hd ⟨j,g,o1,rfl⟩;obtain⟨⟨x,y⟩,l,rfl⟩:=kJ hd;have hc:=KG<|o _<|Ğ l;show⟨_,rfl,?_⟩;simp only[ũ,Ž,Û,Ň,Ė,Ë,Â,b7,aV,bF];show Zl k w h ms x y _ _ λb N z E=>?_;show Y3 (k+2) b _ ?_ _ _ E λO A=>?_
  .have G:=Zo<|(mv x y<|dD x).map<|cJ ms;rw[Å]at G;have R:(mv x y<|dD x).length=(dD x).length:=by unfold mv;rw[Å]
   have:=Kz x;lia
  rw[Za hc.1 hc.2];simp only[Ĝ];cases u:kN (cJ ms) x y with
  |true=>
   simp only[Mm,ĸ,if_false,Ø];show⟨j.trans<|z.trans A,λq c=>?_,_,rfl⟩;rw[yl,l]at c;rcases Ą.mp c with c|c
   .show g q c
   .have:q=(x,y):=by simpa using c
    rw[this,u];rfl
  |false=>simp only[Md,if_true,Î,aV,bF];have e:=Zm (q:=λp=>!(kN (cJ ms) p.1 p.2)) (Zn l) g (by dsimp only;rw[u];rfl);rw[e]at H;show H _<|v.trans<|j.trans<|z.trans A
 .rintro m s ⟨j,g,o1,rfl⟩;simp only[Î,cV];rw[Å,ś]at g;have e:cs.find? (λp=>!(kN (cJ ms) p.1 p.2))=none:=ni.mpr λy M=>by rw[g y M];show Ī
  rw[e]at H;show H _<|v.trans j
abbrev st(m:Int×Int->Bool)(e:Int×Int)(A:Ly):Ly:=if m e then cB (fM e) A else A
def Zq m e A:st m e (st m e A)=A:=by
 unfold st;cases m e with
 |false=>rfl|true=>simp only[if_true];rw[<- vQ,X1,Jp]
def Zs(h:Ď A):Ď (st m e A):=by
 unfold st;split
 .show vT (zA e) h
 .show h
abbrev kP(m:Int×Int->Bool)(e p:Int×Int):Int×Int:=if m e then bG p e else p
def Zt m e p:kP m e (kP m e p)=p:=by
 unfold kP;split
 .show Jj p e.1 e.2
 .rfl
def Zu m e p A:aO (st m e A) p=aO A (kP m e p):=by
 unfold st kP;split
 .rw[k9,mJ]
 .rfl
abbrev zR(m:Int×Int->Bool)(es:jq)(A:Ly):Ly:=es.foldl (λA e=>st m e A) A
def KH m p:∀es A,aO (zR m es A) p=aO A (es.foldr (kP m) p)
 |[],A=>rfl|e::es,A=>by change aO (zR m es<|st m e A) p=_;rw[KH m p es,Zu];rfl
def KI m:∀(es:jq)p,es.foldr (kP m) (es.foldl (λp e=>kP m e p) p)=p
 |[],p=>rfl|e::es,p=>by rw[az,List.foldr_cons,KI m es,Zt]
def Zv(h:nQ e.1 e.2=a9)p:bG p e=vY p (nU e.1 e.2):=by
 unfold nQ at h;simp only[pC,í,beq_iff_eq]at h;unfold bG nU vY;rcases h with h|h
 .rw[if_pos h.1,if_neg<|show ¬ e.2%4=0 by lia,if_neg<|show ¬ e.1%4=0 by lia];by_cases z:e.1%4=e.2%4
  .rw[if_pos z,if_pos z];rfl
  .rw[if_neg z,if_neg z];rfl
 .rw[if_neg<|show ¬ e.1%2=1 by lia];by_cases z:e.2%4=0
  .rw[if_pos z,if_pos z];rfl
  .rw[if_neg z,if_neg z,if_pos<|show e.1%4=0 by lia];rfl
def KJ(e:x%4=a%4)(g:y%4=b%4)(h:nQ a b=a9):nQ x y=true:=by
 have c:x%2=a%2:=by lia
 have d:y%2=b%2:=by lia
 unfold nQ at *;rw[c,d,e,g];show h
def Zw(c:x%2=0)(b:x%4=y%4):∀e∈mv x y (dD x),nQ e.1 e.2=true:=by
 intro e a;obtain⟨d,hd,rfl⟩:=Þ.mp a;unfold dD at hd;split at hd
 .show KJ (a:=d.1) (b:=d.2) (by dsimp only;lia) (by dsimp only;lia)<|(by decide:∀d∈E8,nQ d.1 d.2=a9) d hd
 .show KJ (a:=2+d.1) (b:=2+d.2) (by dsimp only;lia) (by dsimp only;lia)<|(by decide:∀d∈F4,nQ (2+d.1) (2+d.2)=a9) d hd
def KL:∀{es},(∀e∈es,nQ e.1 e.2=a9)->∀p,es.foldl (λp e=>kP m e p) p=vZ m es p
 |[],_,p=>rfl|e::es,h,p=>by have b:=KL (m:=m) (es:=es) (λx a=>h x<|ı _ a)<|kP m e p;rw[az,b];unfold kP vZ;rw[Zv<|h e<|Ĭ ..,az]
abbrev jV(e q:Int×Int):Int×Int:=match rA e.1 e.2 with
 |[a,b]=>if q=a then b else a|_=>q
abbrev KN(L:Int×Int->Ly)(m:Int×Int->Bool)(e:Int×Int):Prop:=∀q∈rA e.1 e.2,L (jV e q)=st m e (L q)
abbrev C9(q:Int×Int)(es:jq):Int×Int:=es.foldl (λq e=>jV e q) q
abbrev zS:Int×Int->jq->Bool
 |_,[]=>a9|q,e::es=>decide (q∈rA e.1 e.2)&&zS (jV e q) es
def KO:∀es q,(∀e∈es,KN L m e)->zS q es=a9->L (C9 q es)=zR m es (L q)
 |[],q,_,_=>rfl|e::es,q,h,hb=>by rw[zS,í,decide_eq_true_eq]at hb;change L (C9 (jV e q) es)=zR m es (st m e<|L q);rw[KO es (jV e q) (λx a=>h x<|ı _ a) hb.2,h e (Ĭ ..) q hb.1]
abbrev rF(c:Int×Int):jq:=mv c.1 c.2<|dD c.1
abbrev v7(c:Int×Int):Int×Int:=if c.1%4=0 then(c.1+2,c.2-1)else(c.1+1,c.2)
abbrev KP(c:Int×Int):Bool:=zS (v7 c) (rF c)&&decide (C9 (v7 c) (rF c)=v7 c)
noncomputable abbrev Tr:=List<|(Int×Int)×(Int×Int)×(Int×Int)
abbrev jE(q:Int×Int):jq:=[(q.1-1,q.2),(q.1,q.2-1),(q.1,q.2+1),(q.1+1,q.2)]
abbrev pJ(p:Int×Int):Bool:=if p.1%2=1 then p.2%2==1 else p.2%2==0&&!(p.1%4==p.2%4)
abbrev v8(w h:Int)(p:Int×Int):Bool:=decide (0<p.1)&&decide (p.1<4*w)&&(decide (0<p.2)&&decide (p.2<4*h))
abbrev fZ(w h:Int)(q:Int×Int):jq:=((jE q).filter pJ).filter<|v8 w h
abbrev dQ(p:Int×Int):Bool:=if p.1%2=1 then p.2%4==2 else p.1%4==2&&p.2%2==1
abbrev tI(w h:Int):jq:=(fY w h).filter dQ
abbrev first(w h:Int):Int×Int:=(tI w h).headD (0,0)
abbrev f7(a:Int×Int)(t:Tr):jq:=a::t.map (·.1)
abbrev eU(b a:Int×Int)(s:jq×Tr)(e:Int×Int):jq×Tr:=
 if bG a e∈f7 b s.2 then s else(s.1++[bG a e],s.2++[(bG a e,e,a)])
abbrev v9(w h:Int)(b:Int×Int)(s:jq×Tr):jq×Tr:=match s.1.getLast? with
 |none=>s|some a=>(fZ w h a).foldl (eU b a) (s.1.dropLast,s.2)
abbrev iC(w h:Int)(a:Int×Int):Nat->jq×Tr
 |0=>([a],[])|n+1=>v9 w h a<|iC w h a n
abbrev iS(w h:Int):Tr:=(iC w h (first w h) 36).2
abbrev zT:jq->Tr->Bool
 |_,[]=>a9|ks,(c,_,p)::t=>!ks.contains c&&ks.contains p&&zT (ks++[c]) t
def zU:∀w∈[(1:Int),2,3],∀h∈[(1:Int),2,3],(iC w h (first w h) 36).1=[]/\zT [first w h] (iS w h)=a9/\(∀t∈iS w h,t.2.2∈rA t.2.1.1 t.2.1.2/\jV t.2.1 t.2.2=t.1)/\(∀q∈aX w h,q∈f7 (first w h) (iS w h))/\first w h=(aX w h).headD (0,0)/\2<=(iS w h).length/\(iS w h).length<=40:=by decide +kernel
abbrev fN(kvs:Kv)(q:Int×Int):Ly:=((kvs.find? λp=>p.1==q).map (·.2)).getD cT
abbrev fE(m:Int×Int->Bool):Kv->Tr->Kv
 |kvs,[]=>kvs|kvs,(c,e,p)::t=>fE m (kvs++[(c,st m e<|fN kvs p)]) t
def KQ m c e p:∀t kvs,fE m kvs (t++[(c,e,p)])=fE m kvs t++[(c,st m e<|fN (fE m kvs t) p)]
 |[],kvs=>rfl|(c',e',p')::t,kvs=>KQ m c e p t _
def zV m:∀t kvs,(fE m kvs t).map (·.1)=kvs.map (·.1)++t.map (·.1)
 |[],kvs=>by simp[fE]
 |(c,e,p)::t,kvs=>by rw[fE,zV m t];simp
def KR(h:∀p∈kvs,Ď p.2)q:Ď (fN kvs q):=by
 unfold fN;cases z:kvs.find? λp=>p.1==q with
 |none=>show zB|some x=>show h x<|Ox z
def KS m:∀t kvs,(∀p∈kvs,Ď p.2)->∀p∈fE m kvs t,Ď p.2
 |[],kvs,h=>h|(c,e,p)::t,kvs,h=>KS m t _ λx a=>by
  rcases Ą.mp a with a|a
  .show h x a
  .rw[ĉ.mp a];show Zs<|KR h p
abbrev pK(m:Int×Int->Bool)(w h:Int):Kv:=fE m [(first w h,cT)]<|iS w h
def Zx k x y a(Q:jz):W (f (k+1) "is_edge" [P x y] a) Q↔Q (.bl<|pJ (x,y),a):=by
 rw[IZ,Ù];simp only[Ê,Î,Ø,Û,ê,ë,Ô,cV,aV,Ă,ā,Ĥ,y8,Ĳ,ĝ];unfold pJ;by_cases h:x%2=1
 .simp[h]
 .have e:(x%2==1)=false:=by simpa using h
  simp only[e,h,ĸ,if_false];cases y%2==0<;>simp
def Zy k x y a(Q:jz):W (f (k+1) "is_quarter" [P x y] a) Q↔Q (.bl<|dQ (x,y),a):=by
 rw[WR,Ù];simp only[Ê,Î,Ø,Û,ê,ë,Ô,cV,aV,Ă,ā,Ĥ,y8,Ĳ,ĝ];unfold dQ;by_cases h:x%2=1
 .simp[h]
 .have e:(x%2==1)=false:=by simpa using h
  simp only[e,h,ĸ,if_false];cases x%4==2<;>simp
def KU:(4:Nat)<=Ñ:=by decide
def Zz k q a:f (k+1) "beside" [PP q] a=a0 (.loc a.length,a++[C.lst [P (q.1-1) q.2,P q.1<|q.2-1,P q.1<|q.2+1,P (q.1+1) q.2]]):=by rw[WT];kernel_rfl
def ZA k q(b:Hm)(Q:jz)(H:∀a μ',b<+:μ'->μ'[a]?=a0 (.lst<|((jE q).filter pJ).map PP)->b.length<=a->Q (.loc a,μ')):W (f (k+2) "edges_of" [PP q] b) Q:=by
 rw[WU,Ù];simp only[Î];show jA (xs:=(jE q).map PP) (p:=λd=>pJ<|dC d) (v:=λd=>d) ?_;show Ó.mpr<|XQ rfl ?_;rw[Zz,À];have e:(b++[C.lst [P (q.1-1) q.2,P q.1<|q.2-1,P q.1<|q.2+1,P (q.1+1) q.2]])[b.length]?=a0 (.lst<|(jE q).map PP):=aU _ _;show(dA e).mpr ⟨k8 e,rfl,KU,λd μ' hd c=>?_,λd μ' hd _ c=>?_,λμ' c g=>?_⟩
 .obtain⟨u,v,rfl⟩:=qR hd;simp only[Ű,ź,Ė,Ë,Â,b7,aV,bF,Zx,Ĝ];show⟨rfl,İ _⟩
 .simp only[Ű,ź,aV,bF];show⟨trivial,İ _⟩
 .show H _ _ ((aM _ _).trans c) ?_ (by simp);rw[g,vP pJ]
def ZC k w h x y a(Q:jz):W (f (k+1) "is_within" [.int w,.int h,P x y] a) Q↔Q (.bl<|v8 w h (x,y),a):=by rw[Ja,Ù];simp only[Î,ë,Cv,Ô,cV,aV,bF,Ă,ā,Co,oY];unfold v8;dsimp only;cases decide (0<x)<;>cases decide (x<4*w)<;>cases decide (0<y)<;>cases decide (y<4*h)<;>simp
abbrev NB(q e:Int×Int):D:=.tup [PP e,PP<|bG q e]
def KW k w h q(c:Hm)(Q:jz)(H:∀a μ',c<+:μ'->μ'[a]?=a0 (.lst<|(fZ w h q).map<|NB q)->c.length<=a->Q (.loc a,μ')):W (f (k+3) "neighbours_in" [.int w,.int h,PP q] c) Q:=by
 rw[W7,Ù];simp only[Î];show jA (xs:=((jE q).filter pJ).map PP) (p:=λd=>v8 w h<|dC d) (v:=λd=>NB q<|dC d) ?_;simp only[Ó,Ë,Â,b7,aV,bF];show ZA k q _ _ λa j g e l=>?_;show(dA e).mpr ⟨k8 e,rfl,?_,λd μ' hd b=>?_,λd μ' hd _ b=>?_,λμ' b i=>?_⟩
 .rw[Å];show Đ (Ų _ _) KU
 .obtain⟨u,v,rfl⟩:=qR hd;simp only[Ű,ź,Ė,Ë,Â,b7,aV,bF,ZC,Ĝ];show⟨rfl,İ _⟩
 .obtain⟨u,v,rfl⟩:=qR hd;simp only[Ű,ź,à,Ë,Â,b7,aV,bF,Ji,fV,true_and];show⟨rfl,İ _⟩
 .show H _ _ (g.trans b) ?_ g.length_le;rw[i];have:=vP (v8 w h)<|(jE q).filter pJ;rw[Pn]at this;rw[this,ã];rfl
def KY k w h(hw:1<=w/\w<=3)(l:1<=h/\h<=3)(e:Hm)(Q:jz)(H:∀a μ',e<+:μ'->μ'[a]?=a0 (.lst<|(tI w h).map PP)->Q (.loc a,μ')):W (f (k+2) "quarters_in" [.int w,.int h] e) Q:=by
 rw[W4,Ù];simp only[Î];show jA (xs:=(fY w h).map PP) (p:=λd=>dQ<|dC d) (v:=λd=>d) ?_;simp only[Ó,Ë,Â,b7,aV,bF];show Kk _ w h ⋯ ⋯ _ _ λa j i c m=>?_;show(dA c).mpr ⟨k8 c,rfl,?_,λd μ' hd b=>?_,λd μ' hd _ b=>?_,λμ' b g=>?_⟩
 .have:=Kl (w:=w) (h:=h) ⋯ ⋯;rw[Å,Ā];lia
 .obtain⟨u,v,rfl⟩:=qR hd;simp only[Ű,ź,Ė,Ë,Â,b7,aV,bF,Zy,Ĝ];show⟨rfl,İ _⟩
 .simp only[Ű,ź,aV,bF];show⟨trivial,İ _⟩
 .show H _ _ (i.trans b) ?_;rw[g,vP dQ];rfl
def ZD k(hw:1<=w/\w<=3)(c:1<=h/\h<=3)ms(b:(fY w h).find? (pI ms)=a7)(a:Hm)(Q:jz)(H:∀μ',a<+:μ'->Q (.non,μ')):W (f (k+6) "check_corners" [SH w h ms] a) Q:=by rw[Xf,Ù];simp only[Ê,Ē,Ë,Â,b7,aV];show Zp k hw c ms _ _ λμ' d=>?_;rw[b];simp only[KA,ũ,Ž,Û,ê,Ô,aV,bF,cV,WI,ĸ,if_false,Ø];show H _ d
def KZ kvs q:(bB (c7 kvs)<|aN q).isSome=decide (q∈kvs.map (·.1)):=by
 rw[rB];induction kvs with
 |nil=>rfl|cons p kvs a=>change(decide (aN p.1=aN q)||(c7 kvs).any _)=_;rw[a,C7];simp only[ù,ċ,Bool.decide_or];congr 1;rw[ϟ,beq_iff_eq,decide_eq_true_iff];show eq_comm
def ZE(h:q∈kvs.map (·.1)):bB (c7 kvs) (aN q)=a0 (LD<|fN kvs q):=by
 induction kvs with
 |nil=>simp at h|cons p kvs a=>
  unfold bB fN c7;rw[ù,au,au];dsimp only;rw[C7];cases z:p.1==q with
  |true=>rfl|false=>
   rcases ċ.mp h with h|h
   .simp[h]at z
   .show a h
def ZF(h:q∉kvs.map (·.1))A:cI (c7 kvs) (aN q) (LD A)=c7 (kvs++[(q,A)]):=by unfold cI;rw[KZ,decide_eq_false h,if_neg<|by simp];unfold c7;rw[Ę];rfl
def ZG{b:MS}(I:Nat->aF->Hm->Prop)(s:∀m ρ e,I m ρ e->W (c ρ e) λp=>if p.1=a9 then W (b ρ p.2) λq=>match q.1 with
   |.nx=>∃a,a<m/\I a q.2.1 q.2.2|.ct=>∃a,a<m/\I a q.2.1 q.2.2|.bk=>Q (.nx,q.2.1,q.2.2)
   |.rt d=>Q (.rt d,q.2.1,q.2.2)else Q (.nx,ρ,p.2)):∀n m ρ e,m<n->I m ρ e->W (qC c b n ρ e) Q:=by
 intro n;induction n with
 |zero=>intro m ρ e h;lia|succ n k=>
  intro m ρ e y r;unfold qC;rw[Ã];show bI (s m ρ e r) λp j=>?_;obtain⟨u,v⟩:=p;cases u with
  |false=>show À.mpr (by simpa using j)|true=>
   simp only[if_true]at j;dsimp only;rw[Ã];show bI j λq g=>?_;obtain⟨l,x,w⟩:=q;cases l with
   |nx=>obtain⟨a,o,i⟩:=g;show k a _ _ ⋯ i|ct=>obtain⟨a,o,i⟩:=g;show k a _ _ ⋯ i|bk=>show À.mpr g|rt d=>show À.mpr g
def Dd{b:MS}(I:Nat->aF->Hm->Prop)m(h:m<1000000000)(g:I m ρ a)(i:∀m ρ a,I m ρ a->W (c ρ a) λp=>if p.1=a9 then W (b ρ p.2) λq=>match q.1 with
   |.nx=>∃e,e<m/\I e q.2.1 q.2.2|.ct=>∃e,e<m/\I e q.2.1 q.2.2|.bk=>Q (.nx,q.2.1,q.2.2)
   |.rt d=>Q (.rt d,q.2.1,q.2.2)else Q (.nx,ρ,p.2)):W (mY nN c b ρ a) Q:=by
 unfold mY;show ZG I i nN m ρ a (by unfold nN;show h) g
def K0(h:b[a]?=a0 (.lst xs)):W (oH b<|.loc a) Q↔Q (!xs.isEmpty):=by simp only[oH,h];show À
def De{Q:jz}(h:b[a]?=a0 (.lst<|xs++[y])):W (kT (.loc a) [] b) Q↔Q (y,b.set a<|.lst xs):=by
 have:kT (.loc a) [] b=a0 (y,b.set a<|.lst xs):=by simp only[kT,h];simp
 rw[this];show À
def ZH{kvs:jx}{Q:jz}(h:b[a]?=a0 (.dT kvs))(c:2<=kvs.length/\kvs.length<64):W (uP (.loc a) b) Q↔Q (.loc b.length,b++[.dT<|dO kvs]):=by
 have:uP (.loc a) b=a0 (.loc b.length,b++[.dT<|dO kvs]):=by simp only[uP,h];rw[if_pos c]
 rw[this];show À
def K1{Q:jz}(h:ρ[i]?=a0 (a0 x))(b:dR x=a0 k):W (qI (aA i) (mC y) ρ a) Q↔Q (.loc a.length,a++[.dT [(k,y)]]):=by
 have:qI (aA i) (mC y) ρ a=a0 (.loc a.length,a++[.dT [(k,y)]]):=by unfold qI aA mC;simp only[h,ğ,aU,b,į,CO]
 rw[this];show À
abbrev iF(ms:List ((Int×Int)×Str)):jx:=(ms.map λm=>(aN m.1,D.str m.2)).foldl (λq p=>cI q p.1 p.2) []
structure LI(ms:List ((Int×Int)×Str))(f0:Int×Int)(μ3:Hm)(s:jq×Tr)(μ':Hm):Prop where
 pre:μ3<+:μ'
 dic:μ'[μ3.length]?=a0 (.dT<|c7<|fE (cJ ms) [(f0,cT)] s.2)
 due:μ'[μ3.length+1]?=a0 (.lst<|s.1.map PP)
 sub:∀q∈s.1,q∈f7 f0 s.2
def zW m a t:(fE m [(a,cT)] t).map (·.1)=f7 a t:=zV m t _
def K2 m a t q:Ď (fN (fE m [(a,cT)] t) q):=
 KR (KS m t _ λp b=>by rw[ĉ.mp b];show zB) q
def K3 m a t:(c7<|fE m [(a,cT)] t).length=t.length+1:=by have:=congrArg ĭ<|zW m a t;unfold c7;rw[Å]at this ⊢;rw[this];simp[f7]
abbrev zX(k:Nat):MS:=bK (aT<|aC (cA a9) (aA 7)<|aA 3) (aE (cQ (aA 3) (aA 7)<|j7 (aT<|aC (cA a8) (aA 6)<|aA 1) (aG (f (k+6) "then")<|aB (aG (f (k+6) "mirror_in")<|aB (aA 6) aD)<|aB (aC aI (aA 3)<|aA 5) aD)<|aC aI (aA 3)<|aA 5)<|cY<|cK dJ (aA 4)<|aB (aA 7) aD) bV
noncomputable abbrev RL(w h:Int)(ms:List ((Int×Int)×Str))(a:Nat)(b:Int×Int)(n:Nat)(c o6 o7:Option D):aF:=[a0<|SH w h ms,a0<|.loc a,a0<|PP b,a0<|.loc n,a0<|.loc<|n+1,c,o6,o7]
def ZI k(y:d[m]?=a0 (.dT<|iF ms))(I:LI ms i d s μ')(v:a∈f7 i s.2)(E:s.1.length<=500)(x:s.2.length<=500)(H:∀g,LI ms i d (eU i a s e) g->(∀b c,d.length+2<=b->μ'[b]?=a0 c->g[b]?=a0 c)->Q (.nx,RL w h ms m i d.length (a0<|PP a) (a0<|PP e)<|a0<|PP<|bG a e,g)):
  W (zX k (RL w h ms m i d.length (a0<|PP a) (a0<|PP e)<|a0<|PP<|bG a e) μ') Q:=by
 have o:=aH I.pre y;unfold zX;simp only[Û,ê,Ô,aV,bF];show(tB I.dic<|cC _).mpr ?_;rw[KZ,zW];unfold eU at H;by_cases j:bG a e∈f7 i s.2
 .rw[if_pos j]at H;simp only[j,decide_true,Mm,if_true,ĸ,if_false,Ø];show H _ I λb c _ z=>z
 .rw[if_neg j]at H;simp only[j,decide_false,Md,if_true,Ê,ï,ő,ê,Ô,aV,bF];show(tB o<|cC e).mpr ?_;have r:bB (c7<|fE (cJ ms) [(i,cT)] s.2) (aN a)=a0 (LD<|fN (fE (cJ ms) [(i,cT)] s.2) a):=ZE (by rw[zW];show v);have hd:=K2 (cJ ms) i s.2 a;have u:(bB (iF ms)<|aN e).isSome=cJ ms e:=C8 ms e;simp only[ĸ,if_false,u];have fin:∀A:Ly,A=st (cJ ms) e (fN (fE (cJ ms) [(i,cT)] s.2) a)->W (sP (.loc d.length) (PP<|bG a e) (LD A) μ') λg=>W (cY (cK dJ (aA 4)<|aB (aA 7) aD) (RL w h ms m i d.length (a0<|PP a) (a0<|PP e)<|a0<|PP<|bG a e) g) Q:=by
   rintro A rfl;show(fU I.dic (cC _)<|by rw[K3,Ā];lia).mpr ?_;rw[ZF<|by rw[zW];show j];have n:(μ'.set d.length<|.dT<|c7<|fE (cJ ms) [(i,cT)] s.2++[(bG a e,st (cJ ms) e<|fN (fE (cJ ms) [(i,cT)] s.2) a)])[d.length+1]?=a0 (.lst<|s.1.map PP):=by rw[vW<|by lia];show I.due
   simp only[Ć];show iO ?_;simp only[aV,bF];show⟨gX n,?_⟩;simp only[Â,b7,aV,bF];show(nP n<|by rw[Å,Ā];lia).mpr ?_;show H _ ⟨cS (cS I.pre (Õ _) _) ⋯ _,?_,?_,?_⟩ λb c B z=>?_
   .rw[vW<|by lia,KQ];show cH I.dic
   .rw[cH n,Ę];rfl
   .intro q l;change q∈i::(s.2++[(bG a e,e,a)]).map (·.1);rw[Ę];rcases Ą.mp l with l|l
    .rcases ċ.mp (I.sub q l)with z|z
     .show ċ.mpr<|.inl z
     .show ċ.mpr<|.inr<|Ą.mpr<|.inl z
    .show ċ.mpr<|.inr<|Ą.mpr<|.inr l
   .rw[vW<|by lia,vW<|by lia];show z
  cases p:cJ ms e with
  |true=>simp only[if_true,Ë,Â,b7,aV,bF,Ô];show(X2 (k+3) e.1 e.2 _ _).mpr ?_;show(Cz I.dic (cC _) r).mpr<|(X3 (k+4) _ _ (zA _) hd _ _).mpr ?_;show fin _ ?_;unfold st;rw[p,if_pos rfl]|false=>simp only[ĸ,if_false,Ô,aV,bF];show(Cz I.dic (cC _) r).mpr<|fin _ ?_;unfold st;rw[p,if_neg<|by simp]
def K5(b:(iC w h a i).1=[]):∀j,iC w h a (i+j)=iC w h a i
 |0=>rfl|j+1=>by change v9 w h a (iC w h a<|i+j)=_;rw[K5 b j];unfold v9;rw[b];rfl
def K6 w h q:(fZ w h q).length<=4:=Đ (Ų _ _)<|Ų _ _
def ZJ b a e s:(eU b a s e).1.length<=s.1.length+1/\(eU b a s e).2.length<=s.2.length+1:=by
 unfold eU;split
 .lia
 .simp
def ZK(h:q∈f7 b s.2):q∈f7 b (eU b a s e).2:=by
 unfold eU;split
 .show h
 .change q∈b::(s.2++[(bG a e,e,a)]).map (·.1);rw[Ę];rcases ċ.mp h with z|z
  .show ċ.mpr<|.inl z
  .show ċ.mpr<|.inr<|Ą.mpr<|.inl z
def K7{es:jq}{i:Nat}(h:(es.map<|NB q)[i]?=a0 d):∃e,es[i]?=a0 e/\d=NB q e:=by rw[ú]at h;obtain⟨e,a,b⟩:=Ō.mp h;show⟨e,a,b.symm⟩
def ZL{a c:Type}{g:c->a->c}{b:c}{l:List a}{x:a}(h:l[i]?=a0 x):(l.take<|i+1).foldl g b=g ((l.take i).foldl g b) x:=by rw[N8,h,N6];rfl
def Df d c:∀(es:jq)s,(es.foldl (eU d c) s).1.length<=s.1.length+es.length/\(es.foldl (eU d c) s).2.length<=s.2.length+es.length
 |[],s=>⟨Õ _,Õ _⟩|e::es,s=>by have a:=ZJ d c e s;have b:=Df d c es<|eU d c s e;change(es.foldl (eU d c)<|eU d c s e).1.length<=s.1.length+(es.length+1)/\(es.foldl (eU d c)<|eU d c s e).2.length<=s.2.length+(es.length+1);lia
def K9:∀{es:jq}{s},q∈f7 b s.2->q∈f7 b (es.foldl (eU b a) s).2
 |[],_,h=>h|_::es,_,h=>K9 (es:=es)<|ZK h
def ZM k{es:jq}(B:c[o]?=a0 (.dT<|iF ms))(I:LI ms i c s m)(v:m[b]?=a0 (.lst<|es.map<|NB a))(y:c.length+2<=b)(A:a∈f7 i s.2)(K:s.1.length+es.length<=400)(L:s.2.length+es.length<=400)(H:∀g o6 o7,LI ms i c (es.foldl (eU i a) s) g->Q (.nx,RL w h ms o i c.length (a0<|PP a) o6 o7,g)):
  W (dZ (c9<|.loc b) (c8 [6,7]) (zX k) ((es.map<|NB a).length+1) 0 (RL w h ms o i c.length (a0<|PP a) o6 o7) m) Q:=by
 show gW (λj r g=>LI ms i c ((es.take j).foldl (eU i a) s) g/\g[b]?=a0 (.lst<|es.map<|NB a)/\∃o6 o7,r=RL w h ms o i c.length (a0<|PP a) o6 o7) ⟨I,v,_,_,rfl⟩ (λ_ _ _ J=>J.2.1) ?_ ?_
 .rintro j d r q hd ⟨p,x,o6,o7,rfl⟩;obtain⟨e,z,rfl⟩:=K7 hd;have l:=Df i a (es.take j) s;have G:=ϵ j es;show⟨_,rfl,ZI k B p (K9 A) ⋯ ⋯ λE u n=>⟨(ZL z).symm▸u,n _ _ y x,_,_,rfl⟩⟩
 .rintro r q ⟨p,_,o6,o7,rfl⟩;show H _ _ _<|by rwa [Å,ś]at p
abbrev La(k:Nat):MS:=aE (aP 5<|cK kT (aA 4) aD)<|bO (bZ<|aG (f (k+6) "neighbours_in")<|aB (aC aI (aA 0)<|mC<|.int 0)<|aB (aC aI (aA 0)<|mC<|.int 1)<|aB (aA 5) aD) (c8 [6,7])<|zX k
def ZN k{ds:jq}(r:c[j]?=a0 (.dT<|iF ms))(I:LI ms i c (ds++[a],t) g)(v:ds.length<=300)(x:t.length<=300)(H:∀e m o6 o7,LI ms i c ((fZ w h a).foldl (eU i a) (ds,t)) e->Q (.nx,RL w h ms j i c.length m o6 o7,e)):W (La k (RL w h ms j i c.length m o6 o7) g) Q:=by
 have d:g[c.length+1]?=a0 (.lst<|ds.map PP++[PP a]):=I.due.trans (by rw[Ę];rfl);have p:=K6 w h a;show bL<|iO ⟨_,rfl,gX d,_,rfl,(De d).mpr<|Í.mpr<|Ó.mpr<|bX rfl<|KW (k+3) w h a _ _ λb y n o u=>(dA o).mpr ?_⟩;have l:c.length+1<(g.set (c.length+1)<|.lst<|ds.map PP).length:=(Ú.mp<|cH d).1;show ZM k (s:=(ds,t)) r ⟨(cS I.pre (ud _) _).trans n,aH n<|(vW<|Ř<|Ψ _).trans I.dic,aH n<|cH d,λq s=>I.sub q<|Ą.mpr<|.inl s⟩ o (Đ l u) (I.sub a<|Ą.mpr<|.inr<|ĉ.mpr rfl) (Đ (Mb v p)<|by decide) (Đ (Mb x p)<|by decide) λe=>H e _
def ZO[Decidable c]{a:Prop}(h:c)(x:a):if c then a else b:=if_pos h▸x
def ZP(hw:1<=w/\w<=3)(a:1<=h/\h<=3):atI ((tI w h).map PP) 0=a0 (PP<|first w h):=by
 have b:∀w∈[(1:Int),2,3],∀h∈[(1:Int),2,3],(tI w h)[0]?=a0 (first w h):=by decide +kernel
 have e:=b w (kM hw) h<|kM a;have l:0<((tI w h).map PP).length:=by rw[Å];show(Ú.mp e).1
 unfold atI;rw[CF (yc 0)<|Int.ofNat_lt.mpr l];show(ú ..).trans<|congrArg (Option.map PP) e
inductive PF (w h:Int)(ms:List ((Int×Int)×Str))(a1:Nat)(μ3:Hm):Nat->aF->Hm->Prop
 |mk {m i:Nat}{μ':Hm}{o5 o6 o7:Option D}(e:m+i=36)(I:LI ms (first w h) μ3 (iC w h (first w h) i) μ')(n1:(iC w h (first w h) i).1.length<=5*i+1)(n2:(iC w h (first w h) i).2.length<=5*i):PF w h ms a1 μ3 m (RL w h ms a1 (first w h) μ3.length o5 o6 o7) μ'
def Lb{ds:jq}(e:iC w h b i=(ds++[a],t)):iC w h b (i+1)=(fZ w h a).foldl (eU b a) (ds,t):=by change v9 w h b (iC w h b i)=_;rw[e];unfold v9;simp
def ZQ k(hw:1<=w/\w<=3)(n:1<=h/\h<=3)ms(K:(fY w h).find? (pI ms)=a7)(v:Hm)(Q:jz)(H:∀a g,v<+:g->g[a]?=a0 (.dT<|dO<|c7<|pK (cJ ms) w h)->Q (.loc a,g)):W (f (k+7) "laid" [SH w h ms] v) Q:=by
 show ð (Xk _ _ _)<|vJ<|bX rfl<|ZD k hw n ms K _ _ λj U=>bL<|bX rfl<|ð (CB _ _ _)<|dP<|bX rfl<|Α.mpr<|bL<|cG<|bX rfl<|KY (k+4) w h hw n _ _ λb d y G=>⟨_,rfl,(vB G<|ZP hw n).mpr<|bL<|(K1 rfl<|cC _).mpr<|bL ?_⟩;show ô.mpr ⟨_,rfl,by change(1:Nat)<=Ñ;decide,?_⟩;have L:d[j.length]?=a0 (.dT<|iF ms):=aH y<|aU _ _;have X:v<+:d:=U.trans<|(aM _ _).trans y;show hG<|Dd (b:=La k) (PF w h ms j.length d) 36 (by decide) ?_ ?_
 .have e:(d++[C.dT [(aN<|first w h,vG)]]).length=d.length+1:=å;change PF w h ms j.length d 36 (([a0<|SH w h ms,a0<|.loc j.length,a0<|PP<|first w h,a0<|.loc d.length,a0<|.loc (d++[C.dT [(aN<|first w h,vG)]]).length,a7,a7,a7]:aF)) _;rw[e];show .mk (i:=0) rfl ⟨(aM _ _).trans<|aM _ _,aH (aM _ _)<|aU _ _,e▸aU (d++[C.dT [(aN<|first w h,vG)]]) (.lst [PP<|first w h]),λq N=>N⟩ (Õ _)<|Õ _
 .rintro m ρ Y ⟨p,I,r,u⟩;rename_i i O R T;show Ė.mpr ⟨_,rfl,(K0 I.due).mpr ?_⟩;generalize hs:iC w h (first w h) i=s at I r u;obtain⟨s,t⟩:=s;rcases zx s with rfl|⟨ds,c,rfl⟩
  .have x:=(K5 (congrArg MJ hs) m).symm;rw[hs,Q4,p]at x;have E:t=iS w h:=congrArg Prod.snd x;subst E;have o:=K3 (cJ ms) (first w h)<|iS w h;have Z:=(zU w (kM hw) h<|kM n).2.2.2.2.2;show⟨rfl,dP<|(ZH I.dic<|by rw[o];lia).mpr<|H _ _ (X.trans<|I.pre.trans<|aM _ _)<|aU _ _⟩
  .have B:(!((ds.concat c).map PP).isEmpty)=true:=by rw[uw,Ę];cases ds<;>rfl
   rw[uw]at I r hs;have M:i<36:=by show Nat.lt_of_le_of_ne (p▸OS _ _) λz=>?_;subst z;have A:=(zU w (kM hw) h<|kM n).1;rw[hs]at A;cases ds<;>cases A
   have l:(iC w h (first w h)<|i+1).1.length<=ds.length+(fZ w h c).length/\(iC w h (first w h)<|i+1).2.length<=t.length+(fZ w h c).length:=Lb hs▸Df (first w h) c (fZ w h c) (ds,t);have:=K6 w h c;have r:ds.length<=5*i:=Nat.le_of_succ_le_succ (by rwa [å]at r);have u:t.length<=5*i:=u;show ZO B<|ZN k L I ⋯ ⋯ λg O R T J=>⟨m-1,by lia,.mk (i:=i+1) ⋯ (Lb hs▸J) ⋯<|by lia⟩
abbrev dU(w h:Int):jq:=(kI 1 (4*w-1).toNat (4*h-1).toNat).filter λp=>cE p.1 p.2
abbrev tJ:jq:=[(1,1),(1,2),(1,3),(2,1),(2,2),(2,3),(3,1),(3,2),(3,3),(4,1),(5,1),(6,1),(4,2),(5,2),(6,2),(1,4),(1,5),(1,6),(2,4),(2,5),(2,6)]
def tK:∀p∈tJ,(1<=p.1/\p.1<=6)/\(1<=p.2/\p.2<=6)/\(fX p.1 p.2).length<=48/\1<=(fX p.1 p.2).length/\qU ((fX p.1 p.2).map aN)=a9/\(dU p.1 p.2).length<=64/\qU ((dU p.1 p.2).map aN)=a9 /\
  ∀e∈dU p.1 p.2,cE e.1 e.2=a9/\sA e∈fX p.1 p.2/\sB e∈fX p.1 p.2/\(0<e.1/\e.1<4*p.1)/\0<e.2/\e.2<4*p.2:=by decide +kernel
def ZR a A B:dG 8 a (LD A) (LD B)=a0 (decide<|A=B):=by
 have:dG 8 a (LD A) (LD B)=a0 (A.a==B.a&&(A.b==B.b&&(A.c==B.c&&(A.d==B.d&&(A.e==B.e&&(A.g==B.g&&a9)))))):=rfl;rw[this];congr 1;rw[ϟ,decide_eq_true_iff];simp only[í,beq_iff_eq,and_true];constructor
 .rintro⟨b,c,d,e,g,h⟩;show Ly.ext' b c d e g h
 .rintro rfl;show⟨rfl,rfl,rfl,rfl,rfl,rfl⟩
def je{Q:jz}:W (bD a9 (LD A) (LD B) a) Q↔Q (.bl<|!decide (A=B),a):=by
 have:bD a9 (LD A) (LD B) a=a0 (.bl<|!decide (A=B),a):=by unfold bD;rw[ZR];rfl
 rw[this];show À
abbrev nW(w h:Int)(F:Int×Int->Ly):jq:=(dU w h).filter λe=>!decide (F (sA e)=F (sB e))
inductive CdI (a:Nat)(w h:Int)(F:Int×Int->Ly)(μ:Hm)(i:Nat):aF->Hm->Prop
 |mk {x4 x5 x6:Option D}{μ':Hm}(p:μ<+:μ')(g2:μ'[μ.length]?=a0 (.lst<|(((dU w h).take i).filter λe=>!decide (F (sA e)=F (sB e))).map PP))(g3:μ'[(μ++[C.lst []]).length]?=a0 (.lst<|(dU w h).map PP)):CdI a w h F μ i [a0<|.loc a,a0<|.int w,a0<|.int h,a0<|.loc μ.length,x4,x5,x6] μ'
abbrev bC(G:Gr):jq:=G.flatMap (·.2)
def ŏ.one{f:Int×Int->Int×Int}(P:ŏ qs f G)(a:g∈G)(b:q∈g.2):q∈qs/\f q=g.1:=by have h:=P.pm g.1;rw[lI P.kd a]at h;have:=Ŏ.mp<|h.mem_iff.mp b;show⟨this.1,of_decide_eq_true this.2⟩
def Lc p:dQ p=a9↔(p.1%2=1/\p.2%4=2)\/(p.1%4=2/\p.2%2=1):=by
 unfold dQ;split
 .rw[beq_iff_eq];lia
 .rw[í,beq_iff_eq,beq_iff_eq];lia
def pL(z:Int):z%2=z%4%2:=(Qu z<|by decide).symm
def Ld(a:x%4=r%4)(b:y%4=s%4):dQ (x,y)=dQ (r,s):=by unfold dQ;dsimp only;rw[pL x,pL y,a,b,<- pL,<- pL]
def ZS x y:dQ (-x,y)=dQ (x,y):=by
 unfold dQ;dsimp only;have a:-x%2=x%2:=by lia
 rcases Qh x with h|h
 .rw[show -x%4=x%4 by lia,a]
 .rw[a,h,if_pos rfl,if_pos rfl]
def ZT x y:dQ (y,x)=dQ (x,y):=by rw[ϟ,Lc,Lc];show⟨λh=>h.symm.imp MC MC,λh=>h.symm.imp MC MC⟩
def ZU(a:x%4=r)(b:y%4=s)i j:dQ (x+i,y+j)=dQ (r+i,s+j):=Ld (by rw[<- a,Qs])<|by rw[<- b,Qs]
def Dg(a:x%4=r)(b:y%4=s):(jE (x,y)).filter dQ=(([(-1,0),(0,-1),(0,1),(1,0)]:jq).filter λd=>dQ (r+d.1,s+d.2)).map λd=>(x+d.1,y+d.2):=by
 have:jE (x,y)=([(-1,0),(0,-1),(0,1),(1,0)]:jq).map λd=>(x+d.1,y+d.2):=by simp only[jE,ù,Ϣ,ye];rfl
 rw[this,Qk];congr 1;show OO λd _=>ZU a b d.1 d.2
def ZV(h:cE e.1 e.2=a9):(jE e).filter dQ=[sA e,sB e]\/(jE e).filter dQ=[sB e,sA e]:=by
 have:=qZ h;obtain⟨x,y⟩:=e;unfold sA sB;dsimp only at this ⊢;rcases this with⟨d,c⟩|⟨d,c,g⟩|⟨d,c,g⟩
 .have a:x%4=1\/x%4=3:=by lia
  have b:y%4=1\/y%4=3:=by lia
  rw[if_pos d,if_pos d];rcases a with a|a<;>rcases b with b|b<;>rw[Dg a b,a,b]
  .show .inl<|by change[(x+0,y+1),(x+1,y+0)]=_;simp;lia
  .show .inl<|by change[(x+0,y+-1),(x+1,y+0)]=_;simp;lia
  .show .inr<|by change[(x+-1,y+0),(x+0,y+1)]=_;simp;lia
  .show .inr<|by change[(x+-1,y+0),(x+0,y+-1)]=_;simp;lia
 .simp only[if_neg<|show ¬ x%2=1 by lia,if_pos c];rw[Dg g c];show .inl<|by change[(x+0,y+-1),(x+0,y+1)]=_;rw[ye];rfl
 .simp only[if_neg<|show ¬ x%2=1 by lia,if_neg<|show ¬ y%4=0 by lia];rw[Dg g c];show .inl<|by change[(x+-1,y+0),(x+1,y+0)]=_;rw[ye];rfl
def ZW(a:x%4=r%4)(b:y%4=s%4):cE x y=cE r s:=by unfold cE;rw[pL x,pL y,a,b,<- pL,<- pL]
def ZX x y:cE (-x) y=cE x y:=by
 unfold cE;have a:-x%2=x%2:=by lia
 rcases Qh x with h|h
 .rw[show -x%4=x%4 by lia,a]
 .rw[a,h];rfl
def ZY x y:cE y x=cE x y:=by
 unfold cE;rw[BEq.comm (a:=y%2),BEq.comm (a:=y%4)];cases h:x%2==y%2
 .rfl
 .rw[eq_of_beq h]
def Le{T:Int->Int->Bool}(i:∀{x y r s},x%4=r%4->y%4=s%4->T x y=T r s)(pn:∀x y,T (-x) y=T x y)(ps:∀x y,T y x=T x y)(hA:Ď A)(a:A.e%4=0/\A.g%4=0)e:T (aO A e).1 (aO A e).2=T e.1 e.2:=by
 have c:=pn e.1 e.2;have b:=ps e.1 e.2;have d:T e.1 (-e.2)=T e.1 e.2:=by rw[<- ps,pn,b]
 have h:T (-e.1) (-e.2)=T e.1 e.2:=by rw[pn,d]
 have g:∀{x y r s u v:Int},u%4=0/\v%4=0->T r s=T e.1 e.2->x=r+u->y=s+v->T x y=T e.1 e.2:=λa q j l=>(i (by clear q;lia)<|by clear q;lia).trans q;unfold aO;obtain⟨u,v,k|k|k|k|k|k|k|k⟩:=CH hA<;>subst k<;>dsimp only at a ⊢
 .show g a rfl ⋯<|by lia
 .show g a d ⋯<|by lia
 .show g a c ⋯<|by lia
 .show g a h ⋯<|by lia
 .show g a b ⋯<|by lia
 .show g a ((ps _ _).trans c) ⋯<|by lia
 .show g a ((pn _ _).trans b) ⋯<|by lia
 .show g a ((ps _ _).trans h) ⋯<|by lia
def Lf(hA:Ď A)(a:A.e%4=0/\A.g%4=0)(h:cE e.1 e.2=a9):cE (aO A e).1 (aO A e).2=true:=(Le ZW ZX ZY hA a e).trans h
def tL(h:cE e.1 e.2=a9):sA e≠sB e:=by
 have:=qZ h;unfold sA sB;intro w;rcases this with⟨a,b⟩|⟨a,b,c⟩|⟨a,b,c⟩
 .rw[if_pos a,if_pos a]at w;injection w with w1 w2;lia
 .simp only[if_neg<|show ¬ e.1%2=1 by lia,if_pos b]at w;injection w with w1 w2;lia
 .simp only[if_neg<|show ¬ e.1%2=1 by lia,if_neg<|show ¬ e.2%4=0 by lia]at w;injection w with w1 w2;lia
structure CrF(qs:jq)(F:Int×Int->Ly)(e:Int×Int):Prop where
 r:cE e.1 e.2=a9
 a:sA e∈qs
 b:sB e∈qs
 m:F (sA e)=cB (fM e) (F<|sB e)
def ZZ{ds:List D}{Q:jz}(hA:a[A]?=a0 (.lst ds))(hB:a[B]?=a0 (.lst [])):W (bD a9 (.loc A) (.loc B) a) Q↔Q (.bl<|!ds.isEmpty,a):=by
 have b:∀{x:Nat}{xs:List D},a[x]?=a0 (.lst xs)->eW a (.loc x)=a0 (.lst xs):=λh=>by simp only[eW,h]
 have e:dG 8 a (.loc A) (.loc B)=a0 ds.isEmpty:=by change(eW a<|.loc A).bind (λu=>(eW a<|.loc B).bind λv=>rO (dG 7 a) u v)=_;rw[b hA,b hB];change jM (dG 7 a) ds []=_;cases ds<;>rfl
 unfold bD;rw[e];show À
abbrev zY(s:Str):Prop:=s="o"\/s="v"\/s="h"
abbrev jF(r:Int×Int):Int:=if r.1%2=1 then(if r.1%4=r.2%4 then 2 else 3)else if r.2%4=0 then 0 else 1
def Z0{qs:jq}(a:(qs.map aN).Pairwise λx y=>HT.lexLt x y=a9):qs.Nodup:=by rw[Χ]at a;show a.imp λ{x y} h e=>by rw[e,nB]at h;show Ī h
structure Wf(w h:Int)(F:Int×Int->Ly):Prop where
 di:∀q,Ď (F q)
 lt:∀q,(F q).e%4=0/\(F q).g%4=0
 ed:∀e∈dU w h,F (sA e)=F (sB e)\/F (sA e)=cB (fM e) (F<|sB e)
structure a3m(qs:jq)(μ:Hm)(a b:Nat)(F:Int×Int->Ly)(row:jq)(Z:Zr):Prop where
 hw:μ[a]?=a0 (.dT<|aS (λq=>LD<|F q) row)
 hr:row.Perm qs
 hi:HI μ b Z
 hh:μ[b]?=a0 (.dT<|aW Z)
 pl:ŏ qs (λq=>aO (F q) q)<|GZ Z
def Z1(d:cE r.1 r.2=a9):cD (jF r) (cL (jF r) r)=fM r:=by
 show CI λp=>?_;rw[YV,mJ];obtain⟨x,y⟩:=r;obtain⟨u,v⟩:=p;unfold bG jF cL;rcases qZ d with⟨a,b⟩|⟨a,b,c⟩|⟨a,b,c⟩<;>dsimp only at a b ⊢
 .simp only[if_pos a];by_cases h:x%4=y%4
  .simp only[if_pos h];show þ ?_ ?_<;>simp<;>lia
  .simp only[if_neg h];show þ ?_ ?_<;>simp<;>lia
 .simp only[if_neg<|show ¬ x%2=1 by lia,if_pos b];show þ ?_ ?_<;>simp
 .simp only[if_neg<|show ¬ x%2=1 by lia,if_neg<|show ¬ y%4=0 by lia];show þ ?_ ?_<;>simp
def tP{o:Option a}{x:a}(h:W o λr=>r=x):o=a0 x:=by obtain⟨r,e,rfl⟩:=h;show e
def Z2(a:s ρ μ=a0 (b,μ))(d:t ρ μ=a0 (c,μ)):j6 s t ρ μ=a0 (b&&c,μ):=tP<|ň.mpr ⟨_,a,by cases b with|true=>show iB rfl ⟨_,d,rfl⟩|false=>show iQ rfl rfl⟩
def Z3 u(a:n%4=0)(h:A.e%4=0/\A.g%4=0):(cB A<|cD u n).e%4=0/\(cB A<|cD u n).g%4=0:=by
 unfold cB cD;split
 .dsimp only;lia
 split
 .dsimp only;lia
 split
 .dsimp only;lia
 .dsimp only;lia
def Dh(hw:1<=w/\w<=3)(c:1<=h/\h<=3):(w,h)∈tJ:=by
 have a:=bT hw;have b:=bT c;revert w h;intro w h _ _ a b;have:∀w∈[(1:Int),2,3],∀h∈[(1:Int),2,3],(w,h)∈tJ:=by decide
 show this w a h b
abbrev wA(e:Int×Int):jq:=(jE e).filter dQ
def Lg(h:cE e.1 e.2=a9):∃s t,wA e=[s,t]/\s≠t/\((s=sA e/\t=sB e)\/(s=sB e/\t=sA e)):=by
 rcases ZV h with a|a
 .show⟨_,_,a,tL h,.inl ⟨rfl,rfl⟩⟩
 .show⟨_,_,a,ć<|tL h,.inr ⟨rfl,rfl⟩⟩
def Z4(h:cE e.1 e.2=a9):bG e e=e:=by
 obtain⟨x,y⟩:=e;unfold bG;rcases qZ h with⟨a,b⟩|⟨a,b,c⟩|⟨a,b,c⟩<;>dsimp only at a b ⊢
 .by_cases h:x%4=y%4
  .simp only[if_pos a,if_pos h];show þ ?_ ?_<;>dsimp only<;>lia
  .simp only[if_pos a,if_neg h];show þ ?_ ?_<;>dsimp only<;>lia
 .simp only[if_neg<|show ¬ x%2=1 by lia,if_pos b];show þ ?_ ?_<;>dsimp only<;>lia
 .simp only[if_neg<|show ¬ x%2=1 by lia,if_neg<|show ¬ y%4=0 by lia];show þ ?_ ?_<;>dsimp only<;>lia
inductive Sh:jq->jq->Prop where
 |c0 (a b):Sh [a,b] []
 |c1 (a b):Sh [] [a,b]
 |s (a b):Sh [a] [b]
abbrev Ξ:jq:=[(-1,0),(0,-1),(0,1),(1,0)]
def Z5 p:jE p=Ξ.map λs=>(p.1+s.1,p.2+s.2):=by unfold jE Ξ;simp only[ù,Ϣ,ye];rfl
def Z6(hA:Ď A)(c:A.e%4=0/\A.g%4=0)(h:q∈wA e):aO A q∈wA (aO A e):=by
 obtain⟨a,b⟩:=Ŏ.mp h;show Ŏ.mpr ⟨?_,?_⟩
 .have key:∀s∈Ξ,(A.a*s.1+A.b*s.2,A.c*s.1+A.d*s.2)∈Ξ:=by obtain⟨u,v,h|h|h|h|h|h|h|h⟩:=CH hA<;>subst h<;>dsimp only<;>decide
  rw[Z5]at a ⊢;obtain⟨s,d,rfl⟩:=Þ.mp a;show Þ.mpr ⟨_,key s d,?_⟩;unfold aO;simp only[Pf,OT];lia
 .rw[show dQ (aO A q)=dQ q from Le (T:=λx y=>dQ (x,y)) Ld ZS ZT hA c q];show b
def Z7(hA:Ď A)(h:p≠q):aO A p≠aO A q:=λe=>h<|by
 have:=congrArg (aO<|CG A) e;rwa [zE hA,zE hA]at this
section
variable(c:Int×Int->Int×Int->Int×Int->Bool)
end
def Z8(h:W (m ρ b) λp=>∃a kvs,p.1=.loc a/\p.2[a]?=a0 (.dT kvs)/\Q (c9<|.tup<|jT kvs,kvs.length+1,p.2.set a<|.dF kvs)):W (uT m ρ b) Q:=by unfold uT;rw[Ã];show bI h λp ⟨a,kvs,e,g,q⟩=>?_;rw[e];dsimp only;rw[g];show À.mpr q
abbrev jG(p:Int×Int):Int×Int:=(p.1-p.1%4,p.2-p.2%4)
abbrev rs(p:Int×Int):Int×Int:=(p.1%4,p.2%4)
def Z9 p:sA p=((jG p).1+(sA<|rs p).1,(jG p).2+(sA<|rs p).2):=by
 unfold sA jG rs;dsimp only;rw[qY,kh];split
 .show þ (by dsimp only;lia)<|by dsimp only;lia
 .split
  .show þ (by dsimp only;lia)<|by dsimp only;lia
  .show þ (by dsimp only;lia)<|by dsimp only;lia
def a0a p:sB p=((jG p).1+(sB<|rs p).1,(jG p).2+(sB<|rs p).2):=by
 unfold sB jG rs;dsimp only;rw[qY,kh,kh];split
 .show þ (by dsimp only;lia)<|by dsimp only;lia
 .split
  .show þ (by dsimp only;lia)<|by dsimp only;lia
  .show þ (by dsimp only;lia)<|by dsimp only;lia
def a0b p:jF p=jF (rs p):=by unfold jF rs;dsimp only;rw[qY,kh,kh]
def a0c x y:cE x y=cE (x%4) (y%4):=by unfold cE;rw[qY,qY,kh,kh]
def Di k p q:cL k (p.1+q.1,p.2+q.2)=cL k p+cL k q:=by
 unfold cL;split
 .rfl
 split
 .rfl
 split
 .change p.1+q.1-(p.2+q.2)=p.1-p.2+(q.1-q.2);lia
 .change p.1+q.1+(p.2+q.2)=p.1+p.2+(q.1+q.2);lia
def Lh(x:Int):x-x%4=4*(x/4):=by lia
def a0d k p:cL k (jG p)%4=0:=by
 have:cL k (jG p)=4*cL k (p.1/4,p.2/4):=by
  unfold cL jG;rw[Lh,Lh];split
  .rfl
  split
  .rfl
  split
  .show(Int.mul_sub ..).symm
  .show(Pf ..).symm
 rw[this,Int.mul_emod_right]
def Li(n v a:Int):n<v+a↔n-v<a:=by lia
def a0e(i:m%4=0)(h:¬ (m<a↔m<b))(c:-4<=a)(d:a<=8)(e:-4<=b)(g:b<=8):m=-4\/m=0\/m=4:=by lia
def a0f(v:0<=u/\u<4)(q:n%4=0)(g:cE p.1 p.2=a9)(hd:eI u n a (sA p)≠eI u n a (sB p)):u=jF p/\n=cL (jF p) p:=by
 have h:¬ (n<cL u (sA p)↔n<cL u (sB p)):=λe=>hd (by unfold eI;rw[decide_eq_decide.mpr e]);clear hd;have K:∀i∈[(0:Int),1,2,3],∀j∈[(0:Int),1,2,3],∀u∈[(0:Int),1,2,3],cE i j=a9->(-4<=cL u (sA (i,j))/\cL u (sA (i,j))<=8/\-4<=cL u (sB (i,j))/\cL u (sB (i,j))<=8)/\∀m∈[(-4:Int),0,4],¬ (m<cL u (sA (i,j))↔m<cL u (sB (i,j)))->u=jF (i,j)/\m=cL (jF (i,j)) (i,j):=by decide +kernel
 have r:u∈[(0:Int),1,2,3]:=by
  have:u=0\/u=1\/u=2\/u=3:=by lia
  simpa using this
 rw[a0c]at g;obtain⟨b,c⟩:=Kg (P:=λi j=>cE i j=a9->(-4<=cL u (sA (i,j))/\cL u (sA (i,j))<=8/\-4<=cL u (sB (i,j))/\cL u (sB (i,j))<=8)/\∀m∈[(-4:Int),0,4],¬ (m<cL u (sA (i,j))↔m<cL u (sB (i,j)))->u=jF (i,j)/\m=cL (jF (i,j)) (i,j)) (λi l j o=>K i l j o u r) p.1 p.2 g;rw[Z9,a0a,Di,Di]at h;rw[Li,Li]at h;have e:p=((jG p).1+(rs p).1,(jG p).2+(rs p).2):=þ (OQ ..).symm (OQ ..).symm;have s:cL u p=cL u (jG p)+cL u (rs p):=(congrArg (cL u) e).trans<|Di ..;have k:(n-cL u (jG p))%4=0:=by rw[Int.sub_emod,q,a0d];rfl
 obtain⟨c1,d⟩:=c _ (by simpa using a0e k h b.1 b.2.1 b.2.2.1 b.2.2.2) h;rw[a0b];have c1:u=jF (rs p):=c1;have d:n-cL u (jG p)=cL (jF<|rs p) (rs p):=d;rw[<- c1]at d ⊢;show⟨rfl,by rw[s,<- d,Int.add_comm,OQ]⟩
def Lj(h:0<=u/\u<4)(g:n%4=0)(b:cE p.1 p.2=a9)(hd:eI u n a (sA p)≠eI u n a (sB p)):aO (cD u n) p=p/\aO (cD u n) (sA p)=sB p/\aO (cD u n) (sB p)=sA p:=by
 obtain⟨c,d⟩:=a0f h g b hd;have e:cD u n=fM p:=by rw[c,d];show Z1 b
 rw[e,mJ,mJ,mJ];show⟨Z4 b,C5 b⟩
def a0g(b:cE p.1 p.2=a9)(h:q∈wA p):q=sA p\/q=sB p:=by
 obtain⟨s,t,e,_,a⟩:=Lg b;rw[e]at h;have:q=s\/q=t:=by simpa using h
 rcases a with⟨rfl,rfl⟩|⟨rfl,rfl⟩
 .show this
 .show this.symm
def a0h(b:cE p.1 p.2=a9)(h:q=sA p\/q=sB p):q∈wA p:=by obtain⟨s,t,e,_,a⟩:=Lg b;rw[e];rcases a with⟨rfl,rfl⟩|⟨rfl,rfl⟩<;>rcases h with rfl|rfl<;>simp
def Lk(hA:Ď A)(b:A.e%4=0/\A.g%4=0)(a:cE e.1 e.2=a9)(c:q=sA e\/q=sB e):aO A q=sA (aO A e)\/aO A q=sB (aO A e):=a0g (Lf hA b a)<|Z6 hA b<|a0h a c
abbrev JL(F:Int×Int->Ly):Prop:=(∀q,Ď (F q))/\(∀q,(F q).e%4=0/\(F q).g%4=0)/\∀e,cE e.1 e.2=a9->F (sA e)=F (sB e)\/F (sA e)=cB (fM e) (F<|sB e)
def a0i:JL λ_=>cT:=⟨λ_=>zB,λ_=>⟨rfl,rfl⟩,λ_ _=>.inl rfl⟩
def a0j(h:x≠y):(x=a9/\y=a8)\/(x=a8/\y=a9):=by cases x<;>cases y<;>simp at h ⊢
def a0k F u n a(m:0<=u/\u<4)(k:n%4=0)(h:JL F):JL (eA u n a F):=by
 obtain⟨c,j,p⟩:=h;show⟨J6 c,λq=>?_,λe b=>?_⟩
 .unfold eA;split
  .show Z3 u k<|j q
  .show j q
 .unfold eA;rcases p e b with i|i
  .have s:=Lk (c<|sB e) (j<|sB e) b<|.inl rfl;have lt:=Lk (c<|sB e) (j<|sB e) b<|.inr rfl;have o:=Lf (c<|sB e) (j<|sB e) b;have ne:=Z7 (c<|sB e)<|tL b;rw[i];by_cases d:eI u n a (aO (F<|sB e)<|sA e)=eI u n a (aO (F<|sB e)<|sB e)
   .rw[d];show .inl rfl
   .have l:aO (cD u n) (aO (F<|sB e)<|sA e)=aO (F<|sB e) (sB e)/\aO (cD u n) (aO (F<|sB e)<|sB e)=aO (F<|sB e) (sA e):=by
     rcases s with g|g<;>rcases lt with e2|e2
     .show absurd (g.trans e2.symm) ne
     .rw[g,e2]at d ⊢;show(Lj m k o d).2
     .rw[g,e2]at d ⊢;show(Lj m k o<|ć d).2.symm
     .show absurd (g.trans e2.symm) ne
    obtain⟨v,w⟩:=C5 b;have X:cB (F<|sB e) (cD u n)=cB (fM e) (F<|sB e):=by
     show YY (vT (c _)<|vU u n) (vT (zA e)<|c _) ?_ (tL b) ?_ ?_
     .rw[Jo,Jo,YW,XZ,Int.mul_comm]
     .rw[k9,k9,mJ,v,l.1]
     .rw[k9,k9,mJ,w,l.2]
    show .inr ?_;rcases a0j d with⟨x,y⟩|⟨x,y⟩<;>rw[x,y]
    .show X
    .change F (sB e)=cB (fM e) (cB (F<|sB e)<|cD u n);rw[<- vQ,<- X,vQ,YZ,X0]
  .have r:=EdF.pos b i;show .inr ?_;rw[r];split
   .rw[<- vQ,<- i]
   .show i
def JL.wf(b:(w,h)∈tJ)(J:JL F):Wf w h F:=⟨J.1,J.2.1,λe a=>J.2.2 e ((tK _ b).2.2.2.2.2.2.2 e a).1⟩
def Ll k i a(Q:jz):W (f (k+1) "is_whole" [.int i] a) Q↔Q (.bl a9,a):=by rw[IY,Ù];simp only[Î,ë,Iw,Ë,Â,b7,aV,cV,II,Ct,if_true,Md]
def Lm k(h:1<=i/\i<=6)a(Q:jz)(H:Q (.bl a9,a)):W (f (k+2) "is_size" [.int i] a) Q:=by rw[WZ,Ù];simp only[Î,ë,Ë,Â,b7,aV,cV,Ll,if_true,Cv,WA,decide_eq_true h.1,decide_eq_true h.2];show H
def a0l k(hw:1<=w/\w<=6)(b:1<=h/\h<=6)a(Q:jz)(H:Q (.non,a)):W (f (k+3) "check_size" [.int w,.int h] a) Q:=by rw[W0,Ù];simp only[Û,Ň,ň,Ė,Ë,Â,b7,aV,bF];show Lm k hw _ _ ?_;simp only[Ĝ,if_true];show Lm k b _ _ ?_;simp only[Ĝ,Mm,ĸ,if_false,Ø];show H
def a0m k(h:zY s)a(Q:jz)(H:Q (.bl a9,a)):W (f (k+1) "is_mark" [.str s] a) Q:=by
 rw[W2,Ù];simp only[Î,ë,Ë,Â,b7,aV,cV,WG,if_true,Ô];have e:cA a8 (.str s) CA a=a0 (.bl a9,a):=by rcases h with rfl|rfl|rfl<;>rfl
 rw[e,À];show H
def a0n k(j:cE e.1 e.2=a9)(h1:0<e.1/\e.1<4*w)(d:0<e.2/\e.2<4*h)a(Q:jz)(H:Q (.bl a9,a)):W (f (k+3) "is_inner_edge" [.int w,.int h,PP e] a) Q:=by
 rw[W6,Ù];simp only[Î,ë,Ë,Â,b7,aV,bF];rw[WO,Ù];simp only[Î,ë,Ë,Â,b7,aV,bF,cV,Ô,IH,if_true];rw[show fL [PP e] a=a0 (.int 2,a)from rfl,À];simp only[Ĥ,beq_self_eq_true,if_true,PP,P,Ă,ā,Ll];rw[Ja,Ù];simp only[Î,ë,Cv,aV,bF,cV,Ô,Ă,ā,oY,Co,decide_eq_true h1.1,decide_eq_true h1.2,decide_eq_true d.1,decide_eq_true d.2,if_true];rw[IZ,Ù];simp only[Ê,Î,Û,Ø,ë,ê,aV,bF,cV,Ô,Ă,ā,Ĳ,ĝ,Ĥ,y8];have:=qZ j;cases c:e.1%2==1 with
 |true=>
  simp only[if_true];have b:(e.2%2==1)=true:=by simp only[beq_iff_eq]at c ⊢;lia
  rw[b];show H
 |false=>
  simp only[ĸ,if_false];have g:¬ e.1%2=1:=by simpa using c
  have b:(e.2%2==0)=true:=by simp only[beq_iff_eq];lia
  have i:(e.1%4==e.2%4)=false:=by simp only[beq_eq_false_iff_ne];lia
  simp only[b,i,if_true,Md];show H
def a0o(h:cE e.1 e.2=a9):rA e.1 e.2=[sA e,sB e]\/rA e.1 e.2=[sB e,sA e]:=by
 unfold rA sA sB;rcases qZ h with⟨b,a⟩|⟨b,a,c⟩|⟨b,a,c⟩
 .rw[if_neg<|show ¬ e.2%4=0 by lia,if_neg<|show ¬ e.1%4=0 by lia,if_pos b,if_pos b];show .inr rfl
 .rw[if_pos a,if_neg<|show ¬ e.1%2=1 by lia,if_neg<|show ¬ e.1%2=1 by lia,if_pos a,if_pos a];show .inl rfl
 .rw[if_neg<|show ¬ e.2%4=0 by lia,if_pos<|show e.1%4=0 by lia,if_neg<|show ¬ e.1%2=1 by lia,if_neg<|show ¬ e.1%2=1 by lia,if_neg<|show ¬ e.2%4=0 by lia,if_neg<|show ¬ e.2%4=0 by lia];show .inl rfl
abbrev wB(w h:Int)(F:Int×Int->Ly)(m:Int×Int->Bool):Prop:=∀e∈dU w h,m e=!decide (F (sA e)=F (sB e))
def Ln(wf:Wf w h F)(d:wB w h F m)(b:e∈dU w h)(c:cE e.1 e.2=a9):KN F m e:=by
 have one:F (sA e)=st m e (F<|sB e):=by
  unfold st;rw[d e b];by_cases z:F (sA e)=F (sB e)
  .rw[decide_eq_true z];show z
  .rw[decide_eq_false z];show(wf.ed e b).resolve_left z
 have two:F (sB e)=st m e (F<|sA e):=by rw[one,Zq]
 have ne:=tL c;intro q a;unfold jV;rcases a0o c with h|h<;>rw[h]at a ⊢<;>dsimp only
 .rcases ċ.mp a with rfl|a
  .rw[if_pos rfl];show two
  .rw[ĉ.mp a,if_neg<|ć ne];show one
 .rcases ċ.mp a with rfl|a
  .rw[if_pos rfl];show one
  .rw[ĉ.mp a,if_neg ne];show two
def Lo:∀w∈[(1:Int),2,3],∀h∈[(1:Int),2,3],(∀t∈iS w h,t.2.1∈dU w h)/\∀c∈(fY w h).filter iR,KP c=a9/\∀e∈rF c,e∈dU w h:=by decide +kernel
def Dj(h:q∈kvs.map (·.1)):∃x∈kvs,x.1=q/\fN kvs q=x.2:=by
 unfold fN;cases z:kvs.find? λp=>p.1==q with
 |some x=>show⟨x,Ox z,by simpa using Ql z,rfl⟩|none=>obtain⟨p,a,b⟩:=Þ.mp h;have:=ni.mp z p a;simp[b]at this
def a0p m e A B:cB (st m e A) B=st m e (cB A B):=by
 unfold st;split
 .rw[vQ]
 .rfl
def Lp{F:Int×Int->Ly}A:∀t kvs,zT (kvs.map (·.1)) t=a9->(∀x∈t,F x.1=st m x.2.1 (F x.2.2))->(∀p∈kvs,cB p.2 A=F p.1)->∀p∈fE m kvs t,cB p.2 A=F p.1
 |[],_,_,_,h=>h|(c,e,p)::t,kvs,hw,ht,h=>by
  rw[zT,í,í]at hw;obtain⟨⟨_,g⟩,i⟩:=hw;obtain⟨x,j,b,d⟩:=Dj (kvs:=kvs) (q:=p) (by simpa using g);show Lp A t _ (by simpa using i) (λy a=>ht y<|ı _ a) λy a=>?_;rcases Ą.mp a with a|a
  .show h y a
  .rw[ĉ.mp a];change cB (st m e<|fN kvs p) A=F c;rw[a0p,d,h x j,b];show(ht (c,e,p)<|Ĭ ..).symm
def a0q(hw:1<=w/\w<=3)(a:1<=h/\h<=3)(wf:Wf w h F)(k:wB w h F m)(n:q∈aX w h):cB (fN (pK m w h) q) (F<|first w h)=F q:=by
 obtain⟨_,r,s,u,_⟩:=zU w (kM hw) h<|kM a;obtain⟨c,_⟩:=Lo w (kM hw) h<|kM a;have j:=(tK _<|Dh hw a).2.2.2.2.2.2.2;obtain⟨x,o,g,i⟩:=Dj (kvs:=pK m w h) (q:=q)<|by
  have:(pK m w h).map (·.1)=f7 (first w h) (iS w h):=zV m _ _;rw[this];show u q n
 rw[i,<- g];show Lp (F:=F) (m:=m) (F<|first w h) (iS w h) [(first w h,cT)] r (λt b=>?_) (λp l=>?_) x o
 .obtain⟨d,e⟩:=s t b;have:=Ln wf k (c t b) (j _<|c t b).1 t.2.2 d;rw[e]at this;show this
 .rw[ĉ.mp l];show Jp _
def Lq(h:Ď A)(e:aO A p=aO A q):p=q:=by rw[<- zE h p,e,zE h q]
def a0r(hw:1<=w/\w<=3)(k:1<=h/\h<=3)(wf:Wf w h F)(q:wB w h F m)(hc:c∈(fY w h).filter iR):kN m c.1 c.2=true:=by obtain⟨_,r⟩:=Lo w (kM hw) h<|kM k;obtain⟨b,l⟩:=r c hc;have o:=(tK _<|Dh hw k).2.2.2.2.2.2.2;have g:=KG (Ŏ.mp hc).2;rw[KP,í,decide_eq_true_eq]at b;have n:=KO (L:=F) (m:=m) (rF c) (v7 c) (λe j=>Ln wf q (l e j) (o e<|l e j).1) b.1;rw[b.2]at n;have a:∀p,(rF c).foldr (kP m) p=p:=λp=>Lq (wf.di<|v7 c) (by rw[<- KH,<- n]);unfold kN;show ul.mpr λd _=>beq_iff_eq.mpr ?_;have i:=KI m (rF c) (c.1+d.1,c.2+d.2);rw[a,KL (es:=rF c)<|Zw g.1 g.2]at i;show i
def Lr:cJ ms e=decide (e∈ms.map (·.1)):=by unfold cJ;rw[ϟ,Mw,decide_eq_true_iff];show⟨λ⟨x,a,b⟩=>by rw[<- beq_iff_eq.mp b];show a,λh=>⟨e,h,beq_self_eq_true _⟩⟩
def a0s k(hsz:(w,h)∈tJ)(mk:Int×Int->Str)(E:c.length<64)(A:c.Nodup)(v:∀p∈c,p∈dU w h)(ok:∀p,zY (mk p)){g:Hm}(r:g[a]?=a0 (.lst<|c.map λe=>MD (e,mk e)))(Q:jz)(H:∀b,g<+:b->Q (SH w h<|(cM c).map λe=>(e,mk e),b)):W (f (k+4) "sheet_of" [.int w,.int h,.loc a] g) Q:=by
 have F:=tK _ hsz;show ð (W8 (k+3) _ _ _ g)<|vJ<|bX rfl<|a0l k F.1 F.2.1 _ _<|bL<|Ü.mpr<|hG<|Í.mpr<|Ó.mpr ⟨_,rfl,(dA<|aH (aM _ _) r).mpr ?_⟩;show gW (λi j b=>∃x y,j=[a0<|.int w,a0<|.int h,a0<|.loc a,a0<|.loc g.length,x,y]/\g<+:b/\b[g.length]?=a0 (.dT<|aS (λe=>.str<|mk e)<|c.take i))
  ⟨a7,a7,rfl,aM _ _,by rw[ym];show aU _ _⟩ (by rintro _ _ _ ⟨_,_,_,p,_⟩;show aH p r) ?_ ?_
 .rintro i d j b hd ⟨x,y,rfl,q,l⟩;rw[ú]at hd;obtain⟨p,n,rfl⟩:=Ō.mp hd;have o:p∈c:=Ğ n;obtain⟨B,_,_,s,u⟩:=F.2.2.2.2.2.2.2 p<|v p o;have m:p∉c.take i:=qV A n;have z:(aS (λe=>.str<|mk e)<|c.take i).length<Ñ:=by rw[Å,Ń,Ā];lia
  show⟨_,rfl,bL<|bW rfl rfl<|Ă.mpr<|vL<|vM<|tD<|bX rfl<|a0n k B s u _ _ ⟨rfl,rfl,tE<|vL<|vM<|tD<|eM<|bJ<|bW rfl rfl<|ā.mpr ⟨_,rfl,a0m (k+2) (ok p) _ _ ⟨rfl,rfl,tE<|vL<|iA<|bW rfl rfl<|(tB l<|cC p).mpr ?_⟩⟩⟩⟩;rw[zM m];show⟨_,rfl,rfl,tE<|ï.mpr<|bW rfl rfl<|ā.mpr ⟨_,rfl,_,rfl,(fU l (cC p) z).mpr ⟨_,_,rfl,cS q (Õ _) _,?_⟩⟩⟩;rw[cH l,qW (v:=λe=>.str<|mk e) m,eT n]
 .rintro j b ⟨x,y,rfl,q,l⟩;rw[Å,ś]at l;have e:yH (.loc g.length) b=a0 (.tup<|((cM c).map λe=>(e,mk e)).map MD,b):=by simp only[yH,l];rw[if_pos<|by first|show trivial|(rw[Å];lia),vV];unfold aS;rw[ã,ã];rfl
  show⟨rfl,dP<|à.mpr<|bJ ⟨_,rfl,bJ ⟨_,rfl,bJ<|Ã.mpr ⟨_,rfl,_,e,_,rfl,by change(3:Nat)<=Ñ;decide,H _ q⟩⟩⟩⟩
def Lu(mk:Int×Int->Str):wB w h F (cJ<|(cM<|nW w h F).map λe=>(e,mk e)):=λe a=>by rw[Lr,ã,show(MJ∘λe=>(e,mk e))=id from rfl,WF,ϟ,decide_eq_true_iff,(kL _).mem_iff];show⟨λh=>(Ŏ.mp h).2,λh=>Ŏ.mpr ⟨a,h⟩⟩
def a0t(hw:1<=w/\w<=3)(a:1<=h/\h<=3)(wf:Wf w h F)(mk:Int×Int->Str):(fY w h).find? (pI<|(cM<|nW w h F).map λe=>(e,mk e))=none:=by
 show ni.mpr λc hc=>?_;unfold pI;cases z:iR c with
 |false=>show Ī|true=>rw[a0r hw a wf (Lu mk)<|Ŏ.mpr ⟨hc,z⟩];show Ī
section
variable{adj:Int×Int->Int×Int->Prop}{qs:jq}{s p q:Int×Int}
inductive Rh (adj:Int×Int->Int×Int->Prop)(s:Int×Int):Int×Int->Prop
 |refl:Rh adj s s
 |step {p q:Int×Int}(a:Rh adj s p)(h:adj p q):Rh adj s q
structure Gh(adj:Int×Int->Int×Int->Prop)(qs:jq):Prop where
 nd:qs.Nodup
 sy:∀p q,adj p q->adj q p
 cl:∀p q,p∈qs->adj p q->q∈qs
def Rh.trans(a:Rh adj s p)(b:Rh adj p q):Rh adj s q:=by
 induction b with
 |refl=>show a|step _ h c=>show c.step h
def Rh.symm(G:Gh adj qs)(a:Rh adj s p):Rh adj p s:=by
 induction a with
 |refl=>show .refl|step _ h b=>show(Rh.refl.step<|G.sy _ _ h).trans b
def Rh.mem(G:Gh adj qs)(b:s∈qs)(a:Rh adj s p):p∈qs:=by
 induction a with
 |refl=>show b|step _ h c=>show G.cl _ _ c h
def Rh.sub{F:jq}(b:s∈F)(hc:∀x∈F,∀y,adj x y->y∈F)(a:Rh adj s p):p∈F:=by
 induction a with
 |refl=>show b|step _ h c=>show hc _ c _ h
open Classical in
abbrev Lv(adj:Int×Int->Int×Int->Prop)(p q:Int×Int):Bool:=decide<|Rh adj p q
open Classical in
def Ĺ:Lv adj p q=a9↔Rh adj p q:=decide_eq_true_iff
abbrev pM(adj:Int×Int->Int×Int->Prop)(qs:jq)(q:Int×Int):Nat:=qs.findIdx λp=>Lv adj p q
abbrev nX(adj:Int×Int->Int×Int->Prop)(qs:jq)(q:Int×Int):Bool:=pM adj qs q==qs.idxOf q
abbrev pN(adj:Int×Int->Int×Int->Prop)(qs:jq)(i:Nat):Nat:=((qs.take i).filter<|nX adj qs).length
abbrev nF(adj:Int×Int->Int×Int->Prop)(qs:jq)(q:Int×Int):Int:=(pN adj qs (pM adj qs q):Nat)
variable{i:Nat}
def tQ(b:qs.Nodup)(h:qs[i]?=a0 q):qs.idxOf q=i:=by obtain⟨a,e⟩:=Ú.mp h;rw[<- e];show b.idxOf_getElem i a
def a0u(a:q∈qs):pM adj qs q<qs.length:=List.findIdx_lt_length_of_exists ⟨q,a,Ĺ.mpr .refl⟩
def a0v(a:q∈qs):∃p,qs[pM adj qs q]?=a0 p/\Rh adj p q:=by have h:=a0u (adj:=adj) a;show⟨_,ó h,Ĺ.mp<|R0 (w:=h)⟩
def Lx(b:qs[i]?=a0 p)(a:Rh adj p q):pM adj qs q<=i:=by obtain⟨c,e⟩:=Ú.mp b;show a6g λh=>?_;have:=Ry h;rw[e,Ĺ.mpr a]at this;simp at this
def a0w(G:Gh adj qs)(a:Rh adj p q):pM adj qs p=pM adj qs q:=by unfold pM;congr 1;funext z;rw[ϟ,Ĺ,Ĺ];show⟨λh=>h.trans a,λh=>h.trans<|a.symm G⟩
def wC(G:Gh adj qs)(h:qs[i]?=a0 q):nX adj qs q=a9↔∀p∈qs.take i,¬ Rh adj p q:=by
 unfold nX;rw[beq_iff_eq,tQ G.nd h];constructor
 .intro e p m a;obtain⟨j,b⟩:=ϴ m;have c:j<i:=by have:=(Ú.mp b).1;rw[Ń]at this;lia
  rw[j4 c]at b;have:=Lx b a;lia
 .intro l;show yo (Lx h .refl)<|a6g λk=>?_;obtain⟨p,d,g⟩:=a0v (adj:=adj)<|Ğ h;show l p (Ğ<|(j4 k).trans d) g
def Lz(G:Gh adj qs)(h:qs[i]?=a0 p)(b:nX adj qs p=a9)(a:Rh adj p q):nF adj qs q=(pN adj qs i:Nat):=by unfold nF;rw[<- a0w G a];unfold nX at b;rw[beq_iff_eq.mp b,tQ G.nd h]
def zZ(h:qs[i]?=a0 q):pN adj qs (i+1)=pN adj qs i+if nX adj qs q=a9 then 1 else 0:=by
 unfold pN;rw[yl,h,Ϗ,å];change _+([q].filter _).length=_;by_cases c:nX adj qs q=a9
 .rw[ϲ c,if_pos c];rfl
 .rw[Ϥ c,if_neg c];rfl
def LA i:pN adj qs i<=qs.length:=Đ (Ų _ _)<|ϵ _ _
structure Gt(adj:Int×Int->Int×Int->Prop)(s:Int×Int)(F U X:jq):Prop where
 nd:F.Nodup
 st:s∈F
 rc:∀x∈F,Rh adj s x
 du:∀x∈U,x∈F
 dn:∀x∈F,x∉U->x∉X->∀y,adj x y->y∈F
variable{F U X:jq}{y z:Int×Int}
def Gt.start:Gt adj s [s] [s] []:=⟨by simp,by simp,λx a=>by rw[ĉ.mp a];show .refl,λx a=>a,λx a b=>absurd a b⟩
def wD{A B:jq}(b:A.Nodup)(h:∀x∈A,x∈B):A.length<=B.length:=by
 induction A generalizing B with
 |nil=>show Ģ _|cons a A g=>rw[Ś]at b;have c:=h a<|Ĭ ..;have:=g (B:=B.erase a) b.2 λx d=>(R6 λe:x=a=>b.1<|e▸d).mpr<|h x<|ı _ d;rw[RX c]at this;have:=P4 c;rw[Ļ];lia
def Gt.len(G:Gt adj s F U X)(g:Gh adj qs)(a:s∈qs):F.length<=qs.length:=wD G.nd λx b=>(G.rc x b).mem g a
def Gt.push(G:Gt adj s F U X)(k:y∉F)(l:Rh adj s y):Gt adj s (F++[y]) (U++[y]) X:=by
 show⟨?_,Ū _ G.st,λx c=>?_,λx c=>?_,λx c d g t a=>?_⟩
 .rw[Ϯ];show⟨G.nd,by simp,λa h b j e=>k<|by rw[<- ĉ.mp j,<- e];show h⟩
 .rcases Ą.mp c with c|c
  .show G.rc x c
  .rw[ĉ.mp c];show l
 .rcases Ą.mp c with c|c
  .show Ū _<|G.du x c
  .show Ω _ c
 .rcases Ą.mp c with c|c
  .show Ū _<|G.dn x c (λz=>d<|Ū _ z) g t a
  .show absurd (Ω _ c) d
def Gt.pop(G:Gt adj s F (U++[z]) []):Gt adj s F U [z]/\z∈F:=
 ⟨⟨G.nd,G.st,G.rc,λx a=>G.du x<|Ū _ a,λx a b c=>G.dn x a (λw=>(Ą.mp w).elim b λw=>c w) λw=>nomatch w⟩,G.du z<|by simp⟩
def Gt.done(G:Gt adj s F U [z])(hz:∀t,adj z t->t∈F):Gt adj s F U []:=
 ⟨G.nd,G.st,G.rc,G.du,λx c b _ t a=>by
  by_cases e:x=z
  .rw[e]at a;show hz t a
  .show G.dn x c b (λw=>e<|ĉ.mp w) t a⟩
def Gt.fin(G:Gt adj s F [] [])x:x∈F↔Rh adj s x:=⟨G.rc x,λa=>a.sub G.st λy c t b=>G.dn y c (λw=>nomatch w) (λw=>nomatch w) t b⟩
end
abbrev dB(w h:Int)(ps:jq)(p q:Int×Int):Prop:=p∈aX w h/\∃e,e∈fZ w h p/\e∉ps/\q=bG p e
def LB:∀w∈[(1:Int),2,3],∀h∈[(1:Int),2,3],∀q∈aX w h,∀e∈fZ w h q,bG q e∈aX w h/\e∈fZ w h (bG q e)/\bG (bG q e) e=q/\e∈dU w h/\((q=sA e/\bG q e=sB e)\/(q=sB e/\bG q e=sA e)):=by decide +kernel
def LC:∀w∈[(1:Int),2,3],∀h∈[(1:Int),2,3],∀e∈dU w h,sA e∈aX w h/\sB e∈aX w h/\e∈fZ w h (sA e)/\bG (sA e) e=sB e/\e∈fZ w h (sB e)/\bG (sB e) e=sA e:=by decide +kernel
def iG:∀w∈[(1:Int),2,3],∀h∈[(1:Int),2,3],(aX w h).Nodup/\(aX w h).length<=36/\2<=(aX w h).length/\tI w h=aX w h/\qU ((aX w h).map aN)=true:=by decide +kernel
def nY(hw:1<=w/\w<=3)(g:1<=h/\h<=3)ps:Gh (dB w h ps) (aX w h):=by
 have a:=LB w (bT hw) h<|bT g;show⟨(iG w (bT hw) h<|bT g).1,λp q ⟨d,e,b,l,c⟩=>?_,λp q d ⟨_,e,b,_,c⟩=>?_⟩
 .obtain⟨i,j,k,_⟩:=a p d e b;rw[c];show⟨i,e,j,l,k.symm⟩
 .rw[c];show(a p d e b).1
abbrev Mz(F U:jq):Nat:=2*(36-F.length)+U.length
structure Hd(μ0 μ:Hm)(a b:Nat)(F U:jq):Prop where
 pre:μ0<+:μ
 la:μ0.length<=a
 lb:μ0.length<=b
 ne:a≠b
 dic:μ[a]?=a0 (.dT<|aS (λ_=>.bl a9) F)
 due:μ[b]?=a0 (.lst<|U.map PP)
def dY{b:Hm}(h:n≠a)c:(b.set a c)[n]?=b[n]?:=đ<|ć h
def z7(d:F.Nodup)(c:b[a]?=a0 (.dT<|aS v F))y{Q:jz}:W (cA a9 (PP y) (.loc a) b) Q↔Q (.bl<|!decide (y∈F),b):=by
 rw[tB c<|cC y];by_cases h:y∈F
 .rw[nS d h,decide_eq_true h];rfl
 .rw[zM h,decide_eq_false h];rfl
def a0x(hc:a[c]?=a0 (.dT<|iF ms))e:cA a9 (PP e) (.loc c) a=a0 (.bl<|!decide (e∈ms.map (·.1)),a):=by show tP<|(tB hc<|cC e).mpr ?_;rw[show(bB (iF ms)<|aN e).isSome=cJ ms e from C8 ms e,Lr];rfl
def z8{Q:jz}(h:b[a]?=a0 (.dT<|aS v ps)):W (fT [.loc a] b) Q↔Q (.loc b.length,b++[.lst<|(cM ps).map PP]):=by
 have e:fT [.loc a] b=a0 (.loc b.length,b++[.lst<|(cM ps).map PP]):=by
  simp only[fT,h];rw[if_pos λp c=>by
   obtain⟨q,_,rfl⟩:=Þ.mp c;simp[aN],vV]
  unfold aS;rw[ã];rfl
 rw[e];show À
section
variable{w h:Int}{ms:List ((Int×Int)×Str)}{c a:Nat}{s here e:Int×Int}{μ0 μ:Hm}{F U:jq}
abbrev LF(k:Nat):MS:=(bK (j6 (aT<|aC (cA a9) (aA 6)<|aA 1)<|aT<|aC (cA a9) (aA 7)<|aA 3) (aE (cQ (aA 3) (aA 7)<|mC<|.bl a9)<|cY<|cK dJ (aA 4)<|aB (aA 7) aD) bV)
noncomputable abbrev RF(w h:Int)(ms:List ((Int×Int)×Str))(c:Nat)(s:Int×Int)(a b:Nat)(d o6 o7:Option D):aF:=[a0<|SH w h ms,a0<|.loc c,a0<|PP s,a0<|.loc a,a0<|.loc b,d,o6,o7]
inductive PL (w h:Int)(ms:List ((Int×Int)×Str))(s:Int×Int)(c a b:Nat)(μ:Hm):Nat->aF->Hm->Prop
 |mk {F U:jq}{μ':Hm}{o5 o6 o7:Option D}(hm:Mz F U<=71)(G:Gt (dB w h<|ms.map (·.1)) s F U [])(I:Hd μ μ' a b F U):PL w h ms s c a b μ (Mz F U) (RF w h ms c s a b o5 o6 o7) μ'
inductive M2 (w h:Int)(ms:List ((Int×Int)×Str))(s here:Int×Int)(c a b n:Nat)(m:Nat)(μ:Hm):Nat->aF->Hm->Prop
 |mk {j:Nat}{F U:jq}{μ':Hm}{o6 o7:Option D}(hm:Mz F U<=m)(G:Gt (dB w h<|ms.map (·.1)) s F U [here])(I:Hd μ μ' a b F U)(gn:μ'[n]?=a0 (.lst<|(fZ w h here).map<|NB here))(hn:∀e∈(fZ w h here).take j,e∉ms.map (·.1)->bG here e∈F)(hh:here∈F):M2 w h ms s here c a b n m μ j (RF w h ms c s a b (a0<|PP here) o6 o7) μ'
def a0y k(hw:1<=w/\w<=3)(N:1<=h/\h<=3)(hc:μ0[c]?=a0 (.dT<|iF ms))(G:s∈aX w h)(ln:a<n/\b<n)(hm:m<=71)(M:(fZ w h here)[j]?=a0 e)(J:M2 w h ms s here c a b n m μ0 j (RF w h ms c s a b (a0<|PP here) o6 o7) μ):
  W (LF k (RF w h ms c s a b (a0<|PP here) (a0<|PP e)<|a0<|PP<|bG here e) μ) λp=>p.1=.nx/\M2 w h ms s here c a b n m μ0 (j+1) p.2.1 p.2.2:=by
 have B:=nY hw N<|ms.map (·.1);obtain⟨y,i,d,E,Z,H⟩:=J;rename_i F U;have tk:=eT M;have fin:∀{q A:jq}{o:Hm},Mz q A<=m->Gt (dB w h<|ms.map (·.1)) s q A [here]->Hd μ0 o a b q A->o[n]?=a0 (.lst<|(fZ w h here).map<|NB here)->(∀x∈F,x∈q)->(e∉ms.map (·.1)->bG here e∈q)->M2 w h ms s here c a b n m μ0 (j+1) (RF w h ms c s a b (a0<|PP here) (a0<|PP e)<|a0<|PP<|bG here e) o:=
  λO Q R T L X=>.mk O Q R T (λY r g=>by
   rw[tk]at r;rcases Ą.mp r with z|z
   .show L _<|Z Y z g
   .rw[ĉ.mp z]at g ⊢;show X g)<|L _ H
 have t1:aT (aC (cA a9) (aA 6)<|aA 1) (RF w h ms c s a b (a0<|PP here) (a0<|PP e)<|a0<|PP<|bG here e) μ=a0 (!decide (e∈ms.map (·.1)),μ):=tP<|iA<|bW rfl rfl ⟨_,a0x (aH d.pre hc) e,_,rfl,rfl⟩;have t2:aT (aC (cA a9) (aA 7)<|aA 3) (RF w h ms c s a b (a0<|PP here) (a0<|PP e)<|a0<|PP<|bG here e) μ=a0 (!decide (bG here e∈F),μ):=tP<|iA<|bW rfl rfl<|(z7 i.nd d.dic _).mpr ⟨_,rfl,rfl⟩;show Û.mpr ⟨_,Z2 t1 t2,?_⟩;by_cases g:e∈ms.map (·.1)
 .rw[decide_eq_true g];show iQ rfl<|Ø.mpr ⟨rfl,fin y i d E (λx u=>u) λz=>absurd g z⟩
 .by_cases v:bG here e∈F
  .rw[decide_eq_false g,decide_eq_true v];show iQ rfl<|Ø.mpr ⟨rfl,fin y i d E (λx u=>u) λ_=>v⟩
  .rw[decide_eq_false g,decide_eq_false v];have rh:Rh (dB w h<|ms.map (·.1)) s (bG here e):=(i.rc here H).step ⟨(i.rc here H).mem B G,e,Ğ M,g,rfl⟩;have lq:=(iG w (bT hw) h<|bT N).2.1;have lF:=i.len B G;have K:=i.push v rh;have I:=K.len B G;rw[å,ϸ]at I;have mu:U.length<=71:=by unfold Mz at y;lia
   show iB rfl (Ê.mpr<|ï.mpr ⟨_,rfl,_,rfl,_,rfl,(fU d.dic (cC _)<|by rw[Å,Ā];lia).mpr ?_⟩);rw[qW (v:=λ_=>.bl a9) v];have l:(μ.set a<|.dT<|aS (λ_=>D.bl a9)<|F++[bG here e])[b]?=a0 (.lst<|U.map PP):=by rw[dY<|ć d.ne];show d.due
   show Ć.mpr<|iO ⟨_,rfl,gX l,_,rfl,(nP l<|by rw[Å,Ā];lia).mpr ⟨rfl,fin ?_ K ⟨cS (cS d.pre d.la _) d.lb _,d.la,d.lb,d.ne,?_,?_⟩ ?_ (λx u=>Ū _ u) λ_=>by simp⟩⟩
   .unfold Mz at y ⊢;rw[å,å,ϸ];lia
   .rw[dY d.ne,cH d.dic]
   .rw[cH l,Ę];rfl
   .rw[dY<|by lia,dY<|by lia];show E
def a0z k(hw:1<=w/\w<=3)(E:1<=h/\h<=3)(hc:μ[c]?=a0 (.dT<|iF ms))(X:s∈aX w h)(Q:jz)(H:∀a(L:jq)μ',μ<+:μ'->μ.length<=a->μ'[a]?=a0 (.lst<|L.map PP)->L.Nodup->L.length<=36->(∀x,x∈L↔Rh (dB w h<|ms.map (·.1)) s x)->Q (.loc a,μ')):W (f (k+4) "face_with" [SH w h ms,.loc c,PP s] μ) Q:=by
 have gh:=nY hw E<|ms.map (·.1);have lq:=(iG w (bT hw) h<|bT E).2.1;show ð (W9 (k+3) _ _ _ μ)<|bL<|(K1 (x:=PP s) rfl<|cC s).mpr<|bL<|ô.mpr ⟨_,rfl,Jb,Ê.mpr ?_⟩;have A:Hd μ (μ++[C.dT [(aN s,D.bl a9)]]++[C.lst [PP s]]) μ.length (μ++[C.dT [(aN s,D.bl a9)]]).length [s] [s]:=⟨(aM _ _).trans<|aM _ _,Õ _,(aM _ _).length_le,by rw[å];show õ<|Ψ _,aH (aM _ _)<|aU _ _,aU _ _⟩;generalize(μ++[C.dT [(aN s,D.bl a9)]]).length=b at A;generalize μ++[C.dT [(aN s,D.bl a9)]]++[C.lst [PP s]]=μ1 at A;show Dd (PL w h ms s c μ.length b μ) 71 (by decide) (show PL w h ms s c μ.length b μ (Mz [s] [s]) _ _ from .mk (Õ _) .start A) ?_;rintro m ρ l ⟨hm,G,I⟩;rename_i F U o5 o6 o7;show Ė.mpr ⟨_,rfl,(K0 I.due).mpr ?_⟩;rcases zx U with rfl|⟨o,here,rfl⟩
 .show iQ rfl<|dP<|bX rfl<|(z8 I.dic).mpr ?_;have N:=kL F;show H _ _ _ (I.pre.trans<|aM _ _) (Ww I.pre) (aU _ _) (N.nodup_iff.mpr G.nd) (by rw[N.length_eq];show Đ (G.len gh X) lq) λx=>by rw[N.mem_iff];show G.fin x
 .rw[uw]at G I hm ⊢;have r:=I.due;rw[Ę]at r;show iB (by simp)<|bL<|iO ⟨_,rfl,gX I.due,_,rfl,(De r).mpr ?_⟩;obtain⟨G1,hz⟩:=G.pop;have i:Hd μ (l.set b<|.lst<|o.map PP) μ.length b F o:=⟨cS I.pre I.lb _,I.la,I.lb,I.ne,by rw[dY I.ne];show I.dic,cH r⟩;have m1:Mz F o+1=Mz F (o++[here]):=by unfold Mz;rw[å];rfl
  have Y:b<(l.set b<|.lst<|o.map PP).length:=(Ú.mp i.due).1;have Z:μ.length<(l.set b<|.lst<|o.map PP).length:=(Ú.mp i.dic).1;generalize l.set b (.lst<|o.map PP)=μ3 at i Y Z;show Í.mpr<|Ó.mpr<|bX rfl<|KW k w h here _ _ λn μ4 M R ln=>(dA R).mpr ?_;show gW (b:=LF k) (M2 w h ms s here c μ.length b n (Mz F o) μ) (.mk (Õ _) G1 ⟨i.pre.trans M,i.la,i.lb,i.ne,aH M i.dic,aH M i.due⟩ R (λe B=>by simp at B) hz) (by rintro _ _ _ ⟨_,_,_,g,_,_⟩;show g) ?_ ?_
  .rintro j d ρ O hd J;obtain⟨e,B,rfl⟩:=K7 hd;obtain⟨K,y,z,T,v,u⟩:=J;show⟨RF w h ms c s μ.length b (a0<|PP here) (a0<|PP e)<|a0<|PP<|bG here e,rfl,bI (a0y (o6:=a7) (o7:=a7) k hw E hc X ⟨ĩ Z ln,ĩ Y ln⟩ ⋯ B<|.mk K y z T v u) λp q=>?_⟩;rw[q.1];show q.2
  .rintro ρ O ⟨K,y,z,T,v,u⟩;rw[Å,ś]at v;show⟨_,vh K<|by lia,.mk ⋯ (y.done λt ⟨_,e,h1,h2,h3⟩=>by rw[h3];show v e h1 h2) z⟩
end
def LG v(a:K.Nodup)p:cI (aS v K) (aN p) (v p)=aS v (if p∈K then K else K++[p]):=by
 by_cases h:p∈K
 .rw[if_pos h];unfold cI;rw[nS a h,RB,if_pos rfl];unfold aS;rw[ã];show a2x λq _=>?_;change(if aN q=aN p then(aN q,v p)else(aN q,v q))=_;split
  .rename_i e;rw[mM e]
  .rfl
 .rw[if_neg h];show qW (v:=v) h
def LH{K:jq}(b:K.Nodup)p:(if p∈K then K else K++[p]).Nodup:=by
 split
 .show b
 .rename_i h;show Ϯ.mpr ⟨b,by simp,λx c y a z=>?_⟩;rw[ĉ]at a;show h<|by rw[<- a,<- z];show c
def LJ{K:jq}:q∈(if p∈K then K else K++[p])↔q∈K\/q=p:=by
 split
 .rename_i h;show⟨.inl,λz=>z.elim id λe=>e▸h⟩
 .rw[Ą,ĉ]
def LK{K:jq}p:(if p∈K then K else K++[p]).length<=K.length+1:=by
 split
 .lia
 .rw[å,ϸ];show Õ _
def Dk{μ0 g:Hm}{L:jq}(A:ρ=ρ.set iX o0)(ne:iX≠iD)(M:iX<ρ.length)(hD:ρ[iD]?=a0 (a0<|.loc d))(B:∀x∈L,∀μ',y (ρ.set iX<|a0<|PP x) μ'=a0 (v x,μ'))(lo:μ0.length<=d)(z:d≠b)(u:μ0<+:g)(hd:g[d]?=a0 (.dT<|aS v K))(E:g[b]?=a0 (.lst<|L.map PP))(N:K.Nodup)(U:K.length+L.length<=1000000)Q(H:∀o a μ',μ0<+:μ'->μ'[d]?=a0 (.dT<|aS v a)->a.Nodup->(∀p,p∈a↔p∈K\/p∈L)->(∀n,n≠d->μ'[n]?=g[n]?)->Q (.nx,ρ.set iX o,μ')):
  W (dZ (c9<|.loc b) (bS iX) (cQ (aA iD) (aA iX) y) ((L.map PP).length+1) 0 ρ g) Q:=by
 rw[A];show gW (λj c μ'=>∃a o,μ0<+:μ'/\μ'[d]?=a0 (.dT<|aS v a)/\a.Nodup/\(∀p,p∈a↔p∈K\/p∈L.take j)/\a.length<=K.length+j/\(∀n,n≠d->μ'[n]?=g[n]?)/\c=ρ.set iX o)
  ⟨K,o0,u,hd,N,by simp,Õ _,λ_ _=>rfl,rfl⟩ (by rintro j c μ' ⟨_,_,_,_,_,_,_,k,_⟩;rw[k b<|ć z];show E) ?_ ?_
 .rintro j e c μ' G ⟨a,o,s,h,l,i,I,r,rfl⟩;obtain⟨p,m,rfl⟩:=kJ G;have T:j<L.length:=(Ú.mp m).1;show⟨_,rfl,?_⟩;rw[OI];have O:aA iD (ρ.set iX<|a0<|PP p) μ'=a0 (.loc d,μ'):=by unfold aA;rw[đ ne,hD]
  have R:aA iX (ρ.set iX<|a0<|PP p) μ'=a0 (PP p,μ'):=by unfold aA;rw[τ M]
  show ï.mpr ⟨_,B p (Ğ m) μ',_,O,_,R,(fU h (cC p)<|by rw[Å,Ā];lia).mpr ?_⟩;rw[LG v l];show⟨_,_,cS s lo _,cH h,LH l p,λq=>?_,Đ (LK p)<|by lia,λn w=>by rw[dY w];show r n w,rfl⟩;rw[LJ,i,eT m,Ą,ĉ,or_assoc]
 .rintro c μ' ⟨a,o,s,h,l,i,I,r,rfl⟩;rw[Å,ś]at i;show H o a μ' s h l i r
structure Fc71(w h:Int)(ps:jq)(j:Nat)(L:jq):Prop where
 ln:L.length<=36
 nf:∀q∈L,q∈aX w h/\nF (dB w h ps) (aX w h) q=(j:Int)
section
variable{w h:Int}{ms:List ((Int×Int)×Str)}{μ:Hm}
inductive NT (w h:Int)(ms:List ((Int×Int)×Str))(c t d b:Nat)(μ0:Hm):Nat->aF->Hm->Prop
 |mk {i:Nat}{K:jq}{bs:List Nat}{Ls:List (jq)}{μ:Hm}{o4 o5 o6:Option D}(pre:μ0<+:μ)(gt:μ[t]?=a0 (.lst<|bs.map D.loc))(gd:μ[d]?=a0 (.dT<|aS (λ_=>.bl a9) K))(gb:μ[b]?=a0 (.lst<|(aX w h).map PP))(nd:K.Nodup)(mem:∀p,p∈K↔∃x∈(aX w h).take i,Rh (dB w h<|ms.map (·.1)) x p)
   (el:Ls.length=pN (dB w h<|ms.map (·.1)) (aX w h) i)(pd:Ŧ (λb' L=>d<b'/\μ[b']?=a0 (.lst<|L.map PP)) bs Ls)(fc:∀(j:Nat) L,Ls[j]?=a0 L->Fc71 w h (ms.map (·.1)) j L)(al:∀q∈K,∃L∈Ls,q∈L):NT w h ms c t d b μ0 i [a0<|SH w h ms,a0<|.loc c,a0<|.loc t,a0<|.loc d,o4,o5,o6] μ
abbrev LL(k:Nat):MS:=(bK (aT<|aC (cA a9) (aA 4)<|aA 3) (aE (aP 5<|aG (f k "face_with")<|aB (aA 0)<|aB (aA 1)<|aB (aA 4) aD)<|aE (cY<|cK dJ (aA 2)<|aB (aA 5) aD)<|bO (bZ<|aA 5) (bS 6)<|cQ (aA 3) (aA 6)<|mC<|.bl a9) bV)
def a0A k(hw:1<=w/\w<=3)(Z:1<=h/\h<=3)(hc:μ0[c]?=a0 (.dT<|iF ms))(lt:μ0.length<=t/\t<d/\b≠t/\b≠d)(u:(aX w h)[i]?=a0 q)(J:NT w h ms c t d b μ0 i [a0<|SH w h ms,a0<|.loc c,a0<|.loc t,a0<|.loc d,o4,o5,o6] μ):
  W (LL (k+4) [a0<|SH w h ms,a0<|.loc c,a0<|.loc t,a0<|.loc d,a0<|PP q,o5,o6] μ) λp=>p.1=.nx/\NT w h ms c t d b μ0 (i+1) p.2.1 p.2.2:=by
 obtain⟨v,gt,M,gb,O,mem,I,pd,fc,al⟩:=J;rename_i K bs R;have B:=nY hw Z<|ms.map (·.1);have lq:=(iG w (bT hw) h<|bT Z).2.1;have E:=Ğ u;have ts:=eT u;have lK:K.length<=36:=Đ (wD O λp s=>by
  obtain⟨x,m,a⟩:=(mem p).mp s;show a.mem B<|uv m) lq
 show Û.mpr<|iA<|bW rfl rfl<|(z7 O M q).mpr ⟨_,rfl,?_⟩;by_cases N:q∈K
 .rw[decide_eq_true N];obtain⟨x,m,a⟩:=(mem q).mp N;have nl:¬ nX (dB w h<|ms.map (·.1)) (aX w h) q=true:=λe=>(wC B u).mp e x m a;show iQ rfl (Ø.mpr ⟨rfl,.mk v gt M gb O (λp=>?_) (by rw[zZ u,if_neg nl];show I) pd fc al⟩);rw[mem,ts];constructor
  .rintro⟨y,g,z⟩;show⟨y,Ū _ g,z⟩
  .rintro⟨y,g,z⟩;rcases Ą.mp g with g|g
   .show⟨y,g,z⟩
   .rw[ĉ.mp g]at z;show⟨x,m,a.trans z⟩
 .rw[decide_eq_false N];have hl:nX (dB w h<|ms.map (·.1)) (aX w h) q=true:=(wC B u).mpr λx m a=>N<|(mem q).mpr ⟨x,m,a⟩;show iB rfl<|bL<|bX rfl<|a0z k hw Z (aH v hc) E _ λa L H G l5 g5 nL lL mL=>?_;have r:=aH G gt;have T:=aH G M;have la:d<a:=ĩ (Ú.mp M).1 l5;have bl:bs.length<=36:=by rw[Mc pd,I];show Đ (LA _) lq
  show vJ (iO ⟨_,rfl,gX r,_,rfl,(nP r<|by rw[Å,Ā];lia).mpr ?_⟩);have g6:(H.set t<|.lst<|bs.map D.loc++[.loc a])[a]?=a0 (.lst<|L.map PP):=by rw[dY<|by lia];show g5
  show Í.mpr<|Ó.mpr ⟨_,rfl,(dA g6).mpr ?_⟩;show Dk (ρ:=[a0<|SH w h ms,a0<|.loc c,a0<|.loc t,a0<|.loc d,a0<|PP q,a0<|.loc a,o6]) (iD:=3) (iX:=6) (v:=λ_=>.bl a9) (μ0:=μ0) (o0:=o6) rfl (by decide) (show(6:Nat)<7 by decide) rfl (λx _ μ'=>rfl) ⋯ (show d≠a by lia) (cS (v.trans G) lt.1 _) (by rw[dY<|by lia];show T) g6 O ⋯ _ λo K' μ6 p6 s6 n6 m6 k6=>⟨rfl,?_⟩;have stay:∀n,n≠d->n≠t->μ6[n]?=H[n]?:=λn U X=>by rw[k6 n U,dY X]
  show .mk (bs:=bs++[a]) (Ls:=R++[L]) p6 ?_ s6 (by rw[stay b lt.2.2.2 lt.2.2.1];show aH G gb) n6 (λp=>?_) (by rw[å,zZ u,if_pos hl,I];rfl) ?_ (λj Q A=>?_) λp s=>?_
  .rw[k6 _<|by lia,cH r,Ę];rfl
  .rw[m6,mem,mL,ts];constructor
   .rintro(⟨y,g,z⟩|z)
    .show⟨y,Ū _ g,z⟩
    .show⟨q,by simp,z⟩
   .rintro⟨y,g,z⟩;rcases Ą.mp g with g|g
    .show .inl ⟨y,g,z⟩
    .rw[ĉ.mp g]at z;show .inr z
  .show OJ (Ŧ.mapP pd λb' l z=>⟨z.1,by rw[stay b' (Ř z.1)<|Ř<|lw lt.2.1 z.1];show aH G z.2⟩) ⟨la,?_⟩;rw[stay a ⋯<|by lia];show g5
  .rcases Nat.lt_or_ge j R.length with hlt|Y
   .rw[Š hlt]at A;show fc j Q A
   .rw[ż Y]at A;have ej:j=R.length:=by have:=(Ú.mp A).1;rw[ϸ]at this;lia
    rw[ej,aa]at A;cases A;show⟨lL,λx m=>⟨((mL x).mp m).mem B E,?_⟩⟩;rw[Lz B u hl<|(mL x).mp m,ej,I]
  .rcases(m6 p).mp s with s|s
   .obtain⟨Q,U,X⟩:=al p s;show⟨Q,Ū _ U,X⟩
   .show⟨L,by simp,s⟩
def a0B k(hw:1<=w/\w<=3)(v:1<=h/\h<=3)(Q:jz)(H:∀t bs Ls μ',μ<+:μ'->μ'[t]?=a0 (.lst<|bs.map D.loc)->Ŧ (λN L=>μ'[N]?=a0 (.lst<|L.map PP)) bs Ls->Ls.length<=36->(∀j L,Ls[j]?=a0 L->Fc71 w h (ms.map (·.1)) j L)->(∀q∈aX w h,∃L∈Ls,q∈L)->Q (.loc t,μ')):W (f (k+6) "faces" [SH w h ms] μ) Q:=by
 obtain⟨_,X,l2,T,_⟩:=iG w (bT hw) h<|bT v;show ð (Xa (k+5) _ μ)<|bL<|bX rfl<|ð (CB (k+4) _ μ)<|dP<|vK<|bW rfl rfl<|ϕ.mpr<|Α.mpr ?_;have G:(μ++[C.dT<|iF ms])[μ.length]?=a0 (.dT<|iF ms):=aU _ _;have M:μ<+:μ++[C.dT<|iF ms]:=aM _ _;have c0:μ.length<(μ++[C.dT<|iF ms]).length:=by rw[å];show Ψ _
 change W (aE (aP 2<|cX aD) _ [a0<|SH w h ms,a0<|.loc μ.length,a7,a7,a7,a7,a7]<|μ++[C.dT<|iF ms]) _;generalize μ++[C.dT<|iF ms]=μ1 at G M c0;have K:(μ1++[C.lst []]++[C.dT []])[μ1.length]?=a0 (.lst []):=aH (aM _ _)<|aU _ _;have I:=aU (μ1++[C.lst []])<|C.dT [];have Y:μ1<+:μ1++[C.lst []]++[C.dT []]:=(aM _ _).trans<|aM _ _;have el:(μ1++[C.lst []]).length=μ1.length+1:=å;show bL<|ô.mpr ⟨_,rfl,Ģ _,bL<|Ü.mpr<|hG<|Í.mpr<|Ó.mpr<|eM<|bJ<|bW rfl rfl<|ϗ.mpr<|bJ<|bW rfl rfl<|ϖ.mpr ⟨_,rfl,KY (k+3) w h hw v _ _ λb Z l a=>(dA a).mpr ?_⟩⟩;rw[T]at a ⊢;have R:b≠μ1.length:=λe=>by rw[e,aH l K]at a;injection a with a;injection a with a;have:=congrArg ĭ a;rw[Å,ug]at this;lia
 have O:b≠(μ1++[C.lst []]).length:=λe=>by rw[e,aH l I]at a;cases a
 show gW (b:=LL (k+5)) (NT w h ms μ.length μ1.length (μ1++[C.lst []]).length b μ1) (.mk (bs:=[]) (Ls:=[]) (K:=[]) (Y.trans l) (aH l K) (aH l I) a ϱ (λp=>by simp) rfl .nil (λj L U=>by simp at U) λq d=>nomatch d) (by rintro _ _ _ ⟨_,_,_,g,_,_,_,_,_,_⟩;show g) ?_ ?_
 .rintro i dd y x hd J;obtain⟨q,d,rfl⟩:=kJ hd;obtain⟨o,r,A,B,E,m,n,s,u,c⟩:=J;show⟨_,rfl,bI (a0A (o4:=a7) (k+1) hw v G ⟨Õ _,by lia,R,O⟩ d<|.mk o r A B E m n s u c) λp q=>?_⟩;rw[q.1];show q.2
 .rintro y x ⟨o,r,A,B,E,m,n,s,u,c⟩;rw[Å,ś]at m;rw[Å]at n;show⟨rfl,dP ⟨_,rfl,H _ _ _ _ (M.trans o) r (Ŧ.mapP s λ_ _ z=>z.2) (by rw[n];show Đ (LA _) X) u λq d=>c q<|(m q).mpr ⟨q,d,.refl⟩⟩⟩
end
def LM{R:c->d->Prop}:∀{as}{bs}{i:Nat}{a},Ŧ R as bs->as[i]?=a0 a->∃b,bs[i]?=a0 b/\R a b
 |_,_,_,_,.nil,h=>by simp at h
 |_,_,0,_,.cons r _,h=>by have:_=_:=ė h;subst this;show⟨_,rfl,r⟩
 |_,_,i+1,_,.cons _ t,h=>by obtain⟨b,e,g⟩:=LM (i:=i) t (by simpa using h);show⟨b,by simpa using e,g⟩
def a0C{a:List Nat}{i:Nat}(h:(a.map D.loc)[i]?=a0 d):∃l,a[i]?=a0 l/\d=.loc l:=by rw[ú]at h;obtain⟨l,b,c⟩:=Ō.mp h;show⟨l,b,c.symm⟩
abbrev nV(w h:Int)(ps:jq)(q:Int×Int):D:=.int<|nF (dB w h ps) (aX w h) q
section
variable{w h:Int}{ms:List ((Int×Int)×Str)}{μ:Hm}
abbrev a0D:MS:=(bO (bZ<|aA 3) (bS 4)<|cQ (aA 1) (aA 4)<|aA 2)
inductive Sv (w h:Int)(ms:List ((Int×Int)×Str))(d:Nat)(Ls:List (jq))(μ0 μ2:Hm):Nat->aF->Hm->Prop
 |mk {i:Nat}{K:jq}{μ:Hm}{x2 x3 x4:Option D}(pre:μ0<+:μ)(gd:μ[d]?=a0 (.dT<|aS (nV w h<|ms.map (·.1)) K))(nd:K.Nodup)(mem:∀p,p∈K↔∃L∈Ls.take i,p∈L)(kp:∀n,n≠d->μ[n]?=μ2[n]?):Sv w h ms d Ls μ0 μ2 i [a0<|SH w h ms,a0<|.loc d,x2,x3,x4] μ
def a0E k(hw:1<=w/\w<=3)(T:1<=h/\h<=3)(Q:jz)(H:∀d K g,μ<+:g->g[d]?=a0 (.dT<|aS (nV w h<|ms.map (·.1)) K)->K.Nodup->(∀p,p∈K↔p∈aX w h)->Q (.loc d,g)):W (f (k+7) "numbers_of" [SH w h ms] μ) Q:=by
 obtain⟨_,lq,_,_,_⟩:=iG w (bT hw) h<|bT T;show ð (Xm (k+6) _ μ)<|bL<|Ü.mpr<|hG<|Í.mpr<|IM<|bJ<|bX rfl<|a0B k hw T _ λt bs Z I X r Y ll u al=>⟨_,rfl,t,bs.map D.loc,rfl,r,?_⟩;have v:=aH X<|aU μ<|C.dT [];have p0:=(aM μ<|C.dT []).trans X;have td:t≠μ.length:=λe=>by rw[e,v]at r;cases r
 show IP (b:=a0D) (Sv w h ms μ.length Z μ I) (.mk (K:=[]) p0 v ϱ (λp=>by simp) λ_ _=>rfl) (by rintro _ _ _ ⟨_,_,_,_,k⟩;rw[k t td];show r) ?_ ?_
 .rintro i dd M q hd ⟨m,z,s,mem,E⟩;rename_i K x2 x3 G;obtain⟨b,hb,rfl⟩:=a0C hd;obtain⟨L,R,y⟩:=LM Y hb;obtain⟨lL,nf⟩:=u i L R;have N:b≠μ.length:=λe=>by rw[e,v]at y;cases y
  have O:q[b]?=a0 (.lst<|L.map PP):=by rw[E b N];show y
  have lK:K.length<=36:=Đ (wD s λp B=>by
   obtain⟨l,a,c⟩:=(mem p).mp B;obtain⟨j,A⟩:=ϴ<|uv a;show((u j l A).nf p c).1) lq
  show⟨[a0<|SH w h ms,a0<|.loc μ.length,a0<|.int i,a0<|.loc b,G],rfl,Í.mpr<|Ó.mpr ⟨_,rfl,(dA O).mpr ?_⟩⟩;show Dk (ρ:=[a0<|SH w h ms,a0<|.loc μ.length,a0<|.int i,a0<|.loc b,G]) (iD:=1) (iX:=4) (v:=nV w h (ms.map (·.1))) (μ0:=μ) (o0:=G) rfl (by decide) (show(4:Nat)<5 by decide) rfl (λx hx g=>?_) (Õ _) (ć N) m z O s ⋯ _ λo K' μ4 p4 g4 n4 m4 k4=>?_
  .unfold nV;rw[(nf x hx).2];rfl
  .show .mk p4 g4 n4 (λp=>?_) λn U=>(k4 n U).trans<|E n U;rw[m4,mem,eT R];constructor
   .rintro(⟨l,a,c⟩|a)
    .show⟨l,Ū _ a,c⟩
    .show⟨L,by simp,a⟩
   .rintro⟨l,a,c⟩;rcases Ą.mp a with a|a
    .show .inl ⟨l,a,c⟩
    .rw[ĉ.mp a]at c;show .inr c
 .rintro M q ⟨m,z,s,mem,E⟩;rw[Å,Mc Y,ś]at mem;show⟨rfl,dP ⟨_,rfl,H _ _ _ m z s λp=>?_⟩⟩;rw[mem];constructor
  .rintro⟨l,a,c⟩;obtain⟨j,A⟩:=ϴ a;show((u j l A).nf p c).1
  .show λB=>al p B
end
abbrev mO(xs:List Int):jq:=(ġ xs.length).flatMap λj=>(xs.drop<|j+1).map λy=>(xs.getD j 0,y)
abbrev rG(xs:List Int)(i:Nat):jq:=(ġ i).flatMap λj=>(xs.drop<|j+1).map λy=>(xs.getD j 0,y)
def Dl xs i:rG xs (i+1)=rG xs i++(xs.drop<|i+1).map λy=>(xs.getD i 0,y):=by unfold rG;rw[za,Mq];simp
def Dm xs:∀i,(rG xs i).length<=xs.length*i
 |0=>Ģ _|i+1=>by rw[Dl,å,Å,ŧ,Nat.mul_succ];have:=Dm xs i;lia
def a0F(xs:List Int)(i:Nat):j8 (xs.map D.int) (a0<|(i:Int)+1) a7=(xs.drop<|i+1).map D.int:=by
 unfold j8;rw[show(i:Int)+1=((i+1:Nat):Int) by lia,HT.sIx_nat,HT.sIx_none,Å,<- Py,<- Mo];congr 1;rcases Nat.le_total (i+1) xs.length with h|h
 .rw[aq h,Ϲ<|by rw[ŧ];show Õ _]
 .rw[Nat.min_eq_right h,Q9,zy h,List.take_nil]
def LN{i:Nat}{xs:List Int}(h:aA d ρ a=a0 (.loc c,a))(e:aA b ρ a=a0 (.int i,a))(g:a[c]?=a0 (.lst<|xs.map D.int)):jL (aA d) (eV<|aC bA (aA b)<|mC<|.int 1) fG ρ a=a0 (.loc a.length,a++[.lst<|(xs.drop<|i+1).map D.int]):=
 tP<|Cu ⟨_,h,c,rfl,ϻ.mpr<|bW e rfl<|ä.mpr<|ε.mpr ⟨_,g,by rw[a0F]⟩⟩
abbrev a0G:MS:=(cY<|cK oG (aA 1)<|aB (eC (bZ<|jL (aA 0) (eV<|aC bA (aA 2)<|mC<|.int 1) fG) eX<|bP<|aB (aA 3)<|aB (aA 4) aD) aD)
def LO{xs:List Int}(h:(xs.map D.int)[i]?=a0 d):d=.int (xs.getD i 0)/\i<xs.length:=by rw[ú]at h;obtain⟨x,a,b⟩:=Ō.mp h;rw[š,a];show⟨b.symm,(Ú.mp a).1⟩
def a0H k{b:Hm}(g:b[c]?=a0 (.lst<|xs.map D.int))(q:xs.length<=100)(Q:jz)(H:∀a μ',b<+:μ'->b.length<=a->μ'[a]?=a0 (.lst<|(mO xs).map PP)->Q (.loc a,μ')):W (f (k+1) "pairs_among" [.loc c] b) Q:=by
 show ð (Xo k _ b)<|bL<|ô.mpr ⟨_,rfl,Ģ _,hG<|Í.mpr<|IM<|bJ ⟨_,rfl,_,rfl,c,xs.map D.int,rfl,aH (aM _ _) g,?_⟩⟩;show IP (b:=a0G) (λi e μ'=>∃x y,e=[a0<|.loc c,a0<|.loc b.length,x,y]/\b<+:μ'/\μ'[b.length]?=a0 (.lst<|(rG xs i).map PP)) ⟨a7,a7,rfl,aM _ _,aU _ _⟩ (by rintro _ _ _ ⟨_,_,_,p,_⟩;show aH p g) ?_ ?_
 .rintro i v e j hd ⟨x,y,rfl,l,h⟩;obtain⟨rfl,w⟩:=LO hd;show⟨[a0<|.loc c,a0<|.loc b.length,a0<|.int i,a0<|.int<|xs.getD i 0],rfl,Ć.mpr<|iO ⟨_,rfl,gX h,bJ<|jA (xs:=(xs.drop<|i+1).map D.int) (p:=λ_=>a9) (v:=λd=>.tup [.int<|xs.getD i 0,d])<|Ó.mpr ⟨_,LN rfl rfl<|aH l g,(dA<|aU _ _).mpr ⟨k8<|aU _ _,rfl,?_,λd μ' hd r=>ď.mpr ⟨rfl,İ _⟩,λd μ' hd _ r=>à.mpr ⟨_,rfl,fV,rfl,İ _⟩,λu s n=>⟨_,rfl,?_⟩⟩⟩⟩⟩
  .rw[Å,ŧ,Ā];lia
  .have m:=(aM j<|C.lst<|(xs.drop<|i+1).map D.int).trans s;have o:(((xs.drop<|i+1).map D.int).filter λ_=>a9).map (λd=>D.tup [.int<|xs.getD i 0,d])=((xs.drop<|i+1).map λy=>(xs.getD i 0,y)).map PP:=by rw[yz.mpr λ_ _=>rfl,ã,ã];rfl
   rw[o]at n;have z:=Dm xs i;have A:xs.length*i<=100*100:=ur q ⋯;show(IE (aH m h) n<|by rw[Å,Å,Å,ŧ,Ā];lia).mpr ⟨_,_,rfl,cS (l.trans m) (Õ _) _,?_⟩;rw[cH<|aH m h,Dl,Ę]
 .rintro e j ⟨x,y,rfl,l,h⟩;rw[Å]at h;show⟨rfl,dP ⟨_,rfl,H _ _ l (Õ _) h⟩⟩
noncomputable abbrev Yr:=List<|(Int×Int)×List Int×Nat
abbrev iH(Y:Yr):jx:=Y.map λy=>(aN y.1,D.loc y.2.2)
def a0I(h:p∉Y.map (·.1)):bB (iH Y) (aN p)=none:=by
 cases e:bB (iH Y) (aN p)with
 |none=>rfl|some d=>have:=rB (iH Y)<|aN p;rw[e]at this;obtain⟨x,a,b⟩:=Mw.mp this.symm;obtain⟨y,c,rfl⟩:=Þ.mp a;show absurd (Þ.mpr ⟨y,c,mM<|of_decide_eq_true b⟩) h
def a0J(h:b[a]?=a0 (.lst<|c.map D.int))(d:c.length<64):nE [.loc a] b=a0 (.loc b.length,b++[.lst<|(i0 c).map D.int]):=by simp only[nE,fP,h,ğ,Cw];rw[if_pos d]
noncomputable abbrev nZ(w h:Int)(ms:List ((Int×Int)×Str))(q:Int×Int):Int:=nF (dB w h<|ms.map (·.1)) (aX w h) q
abbrev jH(w h:Int)(ms:List ((Int×Int)×Str))(L:jq):List Int:=i0<|L.map<|nZ w h ms
def LP{a:Hm}(u:m ρ a=a0 (.loc l,a))(gl:a[l]?=a0 (.lst<|L.map PP))(s:∀d μ',aA j (ρ++[a0 d]) μ'=a0 (.loc b,μ'))(p:∀d μ',aA i (ρ++[a0 d]) μ'=a0 (d,μ'))(o:a[b]?=a0 (.dT<|aS (nV w h<|ms.map (·.1)) K))(y:K.Nodup)(r:∀q∈L,q∈K)(x:L.length<64)(Q:jz)(H:∀c μ',a<+:μ'->a.length<=c->μ'[c]?=a0 (.lst<|(jH w h ms L).map D.int)->Q (.loc c,μ')):W (aG nE (aB (eC (bZ m) eX<|aC aI (aA j)<|aA i) aD) ρ a) Q:=by
 show vK<|jA (xs:=L.map PP) (p:=λ_=>a9) (v:=λd=>nV w h (ms.map (·.1))<|dC d)<|Ó.mpr ⟨_,u,(dA gl).mpr ⟨k8 gl,rfl,by rw[Å,Ā];lia,λd μ' hd g=>ď.mpr ⟨rfl,İ _⟩,λd μ' hd _ g=>?_,λz k e=>?_⟩⟩
 .obtain⟨q,v,rfl⟩:=Þ.mp hd;show bW (s _ _) (p _ _)<|(lJ (.inl<|aH g o) (cC q)<|nS y<|r q v).mpr ⟨rfl,İ _⟩
 .have n:((L.map PP).filter λ_=>a9).map (λd=>nV w h (ms.map (·.1))<|dC d)=(L.map<|nZ w h ms).map D.int:=by rw[yz.mpr λ_ _=>rfl,ã,ã];rfl
  rw[n]at e;show⟨_,a0J e<|by rw[Å];show x,H _ _ (k.trans<|aM _ _) k.length_le<|aU _ _⟩
section
variable{w h:Int}{ms:List ((Int×Int)×Str)}{μ:Hm}{F:Int×Int->Ly}{row:jq}{t:Nat}
abbrev a0K:MS:=(cQ (aA 3) (aA 4)<|aG nE<|aB (eC (bZ<|aA 5) eX<|aC aI (aA 2)<|aA 6) aD)
inductive Sx (w h:Int)(ms:List ((Int×Int)×Str))(t dn d:Nat)(Z:Zr)(μ1:Hm):Nat->aF->Hm->Prop
 |mk {i:Nat}{Y:Yr}{μ:Hm}{x4 x5:Option D}(pre:μ1<+:μ)(gd:μ[d]?=a0 (.dT<|iH Y))(gZ:∀z∈Z,μ[z.2.2]?=a0 (.lst<|z.2.1.map PP))(gY:∀y∈Y,μ[y.2.2]?=a0 (.lst<|y.2.1.map D.int))(eY:Y.map (λy=>(y.1,y.2.1))=((GZ Z).take i).map λg=>(g.1,jH w h ms g.2)):Sx w h ms t dn d Z μ1 i [a0<|SH w h ms,a0<|.loc t,a0<|.loc dn,a0<|.loc d,x4,x5] μ
def a0L k(hw:1<=w/\w<=3)(hh:1<=h/\h<=3)(hF:∀q,Ď (F q))(hr:row.Perm (aX w h))(gt:μ[t]?=a0 (.dT<|aS (λq=>LD<|F q) row))(Q:jz)(H:∀a Y μ',μ<+:μ'->μ.length<=a->μ'[a]?=a0 (.dT<|iH Y)->(∀y∈Y,μ'[y.2.2]?=a0 (.lst<|y.2.1.map D.int))->Y.map (·.2.1)=(jB (λq=>aO (F q) q)<|aX w h).map (λg=>jH w h ms g.2)->Q (.loc a,μ')):W (f (k+8) "faces_at" [SH w h ms,.loc t] μ) Q:=by
 obtain⟨nq,lq,l2,_,up⟩:=iG w (bT hw) h<|bT hh;have N:ŏ (aX w h) (λq=>aO (F q) q) (jB (λq=>aO (F q) q)<|aX w h):=J3;have sm:=CV (λq=>aO (F q) q)<|aX w h;have ek:aS (λq=>LD<|F q) row=c7 (row.map λq=>(q,F q)):=by unfold aS c7;rw[ã];rfl
 show ð (Xn (k+7) _ _ μ) (bL<|bX rfl<|a0E k hw hh _ λU K b M gn nK mK=>bL<|Ü.mpr<|hG<|Í.mpr<|Z8<|bX rfl<|Yp (k+5) t F hF row (aX w h) hr ((zJ up).imp λ{x y} E=>Yx E) ⟨by lia,by lia⟩ nq _ (by rw[<- ek];show aH (M.trans<|aM _ _) gt) _ λm Z O I v=>⟨m,_,rfl,I.dic,?_⟩);have lo:b.length<(b++[C.dT []]).length:=by rw[å];show Ψ _
 have mm:m≠b.length:=Ř<|ĩ lo I.lo;have p2:b<+:O.set m (.dF<|aW Z):=cS ((aM _ _).trans I.pre) (Ζ<|ĩ lo I.lo) _;rw[show(aW Z).length=(jT<|aW Z).length from(Å ..).symm];show IA (x:=.tup (jT<|aW Z)) (xs:=jT (aW Z)) (b:=a0K) (λ_=>rfl) (Sx w h ms t U b.length Z b) (.mk (Y:=[]) p2 (by rw[đ mm];show aH I.pre<|aU _ _) (λz s=>by rw[đ<|ć<|I.ne s];show(I.at_ z s).2) (λy l=>nomatch l) rfl) ?_ ?_
 .rintro i dd T R hd ⟨j,r,B,A,o⟩;rename_i Y x4 x5;obtain⟨z,d,rfl⟩:∃y,Z[i]?=a0 y/\dd=.tup [PP y.1,.loc y.2.2]:=by unfold jT aW at hd;rw[ã,ú]at hd;obtain⟨y,E,h2⟩:=Ō.mp hd;show⟨y,E,h2.symm⟩
  have s:=Ğ d;have X:(z.1,z.2.1)∈jB (λq=>aO (F q) q) (aX w h):=by rw[<- v];show Þ.mpr ⟨z,s,rfl⟩
  have lz:=sm.2 _ X;have hi:i<Z.length:=(Ú.mp d).1;have lZ:Z.length<=36:=by have:=congrArg ĭ v;rw[fW]at this;have:=sm.1;lia
  have lY:Y.length<=36:=by have:=congrArg ĭ o;rw[Å,Å,Ń]at this;lia
  have nw:z.1∉Y.map (·.1):=λhm=>by
   have e1:Y.map (·.1)=((GZ Z).take i).map (·.1):=by have:=congrArg (xu MJ) o;rw[ã,ã]at this;show this
   rw[e1,Mo,lH]at hm;show qV I.kd (by rw[ú,d];rfl) hm
  show⟨[a0<|SH w h ms,a0<|.loc t,a0<|.loc U,a0<|.loc b.length,a0<|PP z.1,a0<|.loc z.2.2],rfl,ï.mpr<|LP (L:=z.2.1) rfl (B z s) (λ_ _=>rfl) (λ_ _=>rfl) (aH j gn) nK (λq hq=>(mK q).mpr (N.one X hq).1) (vh (Đ lz lq)<|by decide) _ λc u p lc g4=>⟨_,rfl,_,rfl,(fU (aH p r) (cC _)<|by unfold iH;rw[Å,Ā];lia).mpr ?_⟩⟩;rw[J5<|a0I nw];have off:∀{n:Nat}{xs:List D},u[n]?=a0 (.lst xs)->(u.set b.length<|.dT<|iH Y++[(aN z.1,D.loc c)])[n]?=a0 (.lst xs):=λ{n xs} G=>by rw[đ λe=>by rw[<- e,aH p r]at G;cases G];show G
  show .mk (Y:=Y++[(z.1,jH w h ms z.2.1,c)]) (cS (j.trans p) (Õ _) _) ?_ (λz' L=>off<|aH p<|B z' L) (λy l=>?_) ?_
  .rw[cH<|aH p r];unfold iH;rw[Ę];rfl
  .rcases Ą.mp l with l|l
   .show off<|aH p<|A y l
   .rw[ĉ.mp l];show off g4
  .rw[Ę,o,C3 d,Ę];rfl
 .rintro T R ⟨j,r,B,A,o⟩;rw[jT,Å,nR,Ϲ<|by rw[fW];show Õ _,v]at o;show⟨rfl,dP ⟨_,rfl,H _ _ _ (M.trans j) M.length_le r A ?_⟩⟩;have:=congrArg (xu Prod.snd) o;rw[ã,ã]at this;show this
abbrev a0M(k:Nat):MS:=(bO (bZ<|aG (f k "pairs_among")<|aB (aA 3) aD) (bS 4)<|cQ (aA 2) (aA 4)<|mC<|.bl a9)
def a0N(h:W (m ρ μ) λp=>∃a kvs,p.1=.loc a/\p.2[a]?=a0 (.dT kvs)/\Q (c9<|.tup<|i8 kvs,kvs.length+1,p.2.set a<|.dF kvs)):W (uU m ρ μ) Q:=by unfold uU;rw[Ã];show bI h λp ⟨a,kvs,e,g,q⟩=>?_;rw[e];dsimp only;rw[g];show À.mpr q
inductive j5 (w h:Int)(ms:List ((Int×Int)×Str))(t d:Nat)(Y:Yr)(μ1:Hm):Nat->aF->Hm->Prop
 |mk {i:Nat}{K:jq}{μ:Hm}{x3 x4:Option D}(pre:μ1<+:μ)(gd:μ[d]?=a0 (.dT<|aS (λ_=>.bl a9) K))(nd:K.Nodup)(mem:∀p,p∈K↔∃y∈Y.take i,p∈mO y.2.1)(lK:K.length<=10000*i)(gY:∀y∈Y,μ[y.2.2]?=a0 (.lst<|y.2.1.map D.int)):j5 w h ms t d Y μ1 i [a0<|SH w h ms,a0<|.loc t,a0<|.loc d,x3,x4] μ
def a0O k(hw:1<=w/\w<=3)(Z:1<=h/\h<=3)(hF:∀q,Ď (F q))(hr:row.Perm (aX w h))(gt:μ[t]?=a0 (.dT<|aS (λq=>LD<|F q) row))(Q:jz)(H:∀a K m,μ<+:m->μ.length<=a->m[a]?=a0 (.lst<|(cM K).map PP)->K.Nodup->K.length<=400000->(∀p,p∈K↔∃g∈jB (λq=>aO (F q) q) (aX w h),p∈mO (jH w h ms g.2))->Q (.loc a,m)):W (f (k+9) "pairs" [SH w h ms,.loc t] μ) Q:=by
 obtain⟨nq,lq,l2,_,up⟩:=iG w (bT hw) h<|bT Z;have sm:=CV (λq=>aO (F q) q)<|aX w h;show ð (Xp (k+8) _ _ μ)<|bL<|Ü.mpr<|hG<|Í.mpr<|a0N<|bX rfl<|a0L k hw Z hF hr (aH (aM _ _) gt) _ λa Y N p2 A X U z=>⟨a,_,rfl,X,?_⟩;have g0:=aH p2<|aU μ<|C.dT [];have p0:=(aM μ<|C.dT []).trans p2;have am:a≠μ.length:=λe=>by rw[e,å]at A;show ϣ _ A
 have ly:∀y∈Y,y.2.1.length<=36:=λy j=>by have:y.2.1∈Y.map (·.2.1):=Þ.mpr ⟨y,j,rfl⟩;rw[z]at this;obtain⟨g,u,e⟩:=Þ.mp this;rw[<- e];unfold jH i0;rw[Ru,Å];show Đ (sm.2 g u) lq
 have lY:Y.length<=36:=by have:=congrArg ĭ z;rw[Å,Å]at this;have:=sm.1;lia
 have E:∀y∈Y,(N.set a<|.dF<|iH Y)[y.2.2]?=a0 (.lst<|y.2.1.map D.int):=λy j=>by rw[đ λe=>by have:=U y j;rw[<- e,X]at this;cases this];show U y j
 rw[show(iH Y).length=(i8<|iH Y).length from(Å ..).symm];show IA (x:=.tup (i8<|iH Y)) (xs:=i8 (iH Y)) (b:=a0M (k+8)) (λ_=>rfl) (j5 w h ms t μ.length Y μ) (.mk (K:=[]) (cS p0 (by rw[å]at A;show Nat.le_of_succ_le A) _) (by rw[đ am];show g0) ϱ (λp=>by simp) (Ģ _) E) ?_ ?_
 .rintro i dd R O hd ⟨l,s,L,mem,lK,n⟩;rename_i K x3 M;obtain⟨y,r,rfl⟩:∃y,Y[i]?=a0 y/\dd=.loc y.2.2:=by unfold i8 iH at hd;rw[ã,ú]at hd;obtain⟨y,c,d⟩:=Ō.mp hd;show⟨y,c,d.symm⟩
  have j:=Ğ r;have hi:i<Y.length:=(Ú.mp r).1;have l1:=ly y j;have lp:(mO y.2.1).length<=1296:=Đ (Dm y.2.1 _)<|ur l1 l1;show⟨[a0<|SH w h ms,a0<|.loc t,a0<|.loc μ.length,a0<|.loc y.2.2,M],rfl,Í.mpr<|Ó.mpr<|bX rfl<|a0H (k+7) (n y j) ⋯ _ λb μ4 B lb T=>(dA T).mpr ?_⟩;have db:μ.length≠b:=õ<|ĩ (Ú.mp s).1 lb;show Dk (ρ:=[a0<|SH w h ms,a0<|.loc t,a0<|.loc μ.length,a0<|.loc y.2.2,M]) (iD:=2) (iX:=4) (v:=λ_=>.bl a9) (μ0:=μ) (o0:=M) rfl (by decide) (show(4:Nat)<5 by decide) rfl (λx hx m=>rfl) (Õ _) db (l.trans B) (aH B s) T L ⋯ _ λo K' μ5 p5 g5 n5 m5 k5=>?_;have lK':K'.length<=K.length+(mO y.2.1).length:=by have:=wD (B:=K++mO y.2.1) n5 λx hx=>Ą.mpr<|(m5 x).mp hx;rw[å]at this;show this
  show .mk p5 g5 n5 (λp=>?_) ⋯ λv I=>?_
  .rw[m5,mem,eT r];constructor
   .rintro(⟨v,c,d⟩|c)
    .show⟨v,Ū _ c,d⟩
    .show⟨y,by simp,c⟩
   .rintro⟨v,c,d⟩;rcases Ą.mp c with c|c
    .show .inl ⟨v,c,d⟩
    .rw[ĉ.mp c]at d;show .inr d
  .have G:=aH B<|n v I;rw[k5 _ λe=>by rw[e,aH B s]at G;cases G];show G
 .rintro R O ⟨l,s,L,mem,lK,n⟩;have lv:(i8<|iH Y).length=Y.length:=by unfold i8 iH;rw[Å,Å]
  rw[lv]at lK mem;rw[ś]at mem;show⟨rfl,dP<|bX rfl<|(z8 s).mpr<|H _ _ _ (l.trans<|aM _ _) (l.length_le) (aU _ _) L ⋯ λp=>?_⟩;rw[mem];constructor
  .rintro⟨y,c,d⟩;have:y.2.1∈Y.map (·.2.1):=Þ.mpr ⟨y,c,rfl⟩;rw[z]at this;obtain⟨g,u,e⟩:=Þ.mp this;show⟨g,u,by rw[e];show d⟩
  .rintro⟨g,u,d⟩;have:jH w h ms g.2∈Y.map (·.2.1):=by rw[z];show Þ.mpr ⟨g,u,rfl⟩
   obtain⟨y,j,e⟩:=Þ.mp this;show⟨y,j,by rw[e];show d⟩
end
def LQ k w h(hw:1<=w/\w<=6)(b:1<=h/\h<=6)a(Q:jz)(H:Q (.loc a.length,a++[.lst<|(dU w h).map PP])):W (f (k+1) "_law_rims" [.int w,.int h] a) Q:=by
 rw[Xu,Ù];simp only[Ê,Ē,ô,b7];show⟨Ģ _,?_⟩;simp only[ũ,Ž,Í,sZ,Â,b7,cV,Ô,aV,bF,oY];show⟨by lia,?_⟩;show JB _ cE _ _ _ _ 1 (4*h-1).toNat (λo1 o2 a Q=>?_) (λx y a Q=>?_) (4*w-1).toNat (JX hw b) _ (aU _ _) _ λo1 o2=>?_
 .simp only[sZ,Â,b7,cV,Ô,aV,bF,oY];show and_iff_right<|by lia
 .simp only[Ő,ň,ê,Ô,aV,bF,cV,Ĳ,ĝ,Ĥ,y8];unfold cE;cases x%2==y%2<;>cases x%2==1<;>cases x%4==y%4<;>simp
 .simp only[Î,aV,bF];rw[CO];show H
def LR k e(c:Hm)(Q:jz)(H:∀b μ',c<+:μ'->μ'[b]?=a0 (.lst [PP<|sA e,PP<|sB e])->Q (.loc b,μ')):W (f (k+1) "_law_beside" [PP e] c) Q:=by
 rw[Xv];unfold sA sB at H;show qQ rfl<|Jc rfl (λh=>⟨_,rfl,?_⟩) λh=>Jc rfl (λa=>⟨_,rfl,?_⟩) λa=>⟨_,rfl,?_⟩
 .have h:e.1%2=1:=by simpa using h
  simp only[if_pos h]at H;show H _ _ (aM _ _)<|aU _ _
 .have h:¬ e.1%2=1:=by simpa using h
  have a:e.2%4=0:=by simpa using a
  simp only[if_neg h,if_pos a]at H;show H _ _ (aM _ _)<|aU _ _
 .have h:¬ e.1%2=1:=by simpa using h
  have a:¬ e.2%4=0:=by simpa using a
  simp only[if_neg h,if_neg a]at H;show H _ _ (aM _ _)<|aU _ _
def a0P k{l:Hm}(G:(w,h)∈tJ)(y:row.Nodup)(x:∀q∈fX w h,q∈row)(E:l[a]?=a0 (.dT<|aS (λq=>LD<|F q) row))(Q:jz)(H:∀b c,l<+:c->c[b]?=a0 (.lst<|(nW w h F).map PP)->Q (.loc b,c)):W (f (k+2) "_law_creased" [.loc a,.int w,.int h] l) Q:=by
 have m:=tK _ G;have z:=m.2.2.2.2.2.1;have A:=m.2.2.2.2.2.2.2;show ð (XF (k+1) _ _ _ l)<|bL<|ô.mpr ⟨_,rfl,Ģ _,hG<|Í.mpr<|Ó.mpr<|bX rfl<|LQ k w h m.1 m.2.1 _ _<|(dA<|aU _ _).mpr ?_⟩;show gW (CdI a w h F l) (.mk ((aM _ _).trans<|aM _ _) (aH (aM _ _)<|aU _ _)<|aU _ _) (by rintro _ _ _ ⟨_,_,h⟩;show h) ?_ ?_
 .rintro i d u s hd ⟨j,n,p⟩;obtain⟨e,r,rfl⟩:=kJ hd;obtain⟨_,I,K,_⟩:=A e<|Ğ r;show⟨_,rfl,Ê.mpr<|ĳ.mpr<|bX rfl<|LR k e _ _ λb L g B=>(Iy B).mpr ?_⟩;have v:=aH (j.trans g) E;have o:=aH g n;have lt:(((dU w h).take i).filter λe=>!decide (F (sA e)=F (sB e))).length<=64:=Đ (Ų _ _)<|Đ (ϵ _ _) z;show Û.mpr<|iA<|cG<|bW rfl rfl<|(lJ (.inl v) (cC _)<|nS y<|x _ I).mpr<|bW rfl rfl<|(lJ (.inl v) (cC _)<|nS y<|x _ K).mpr<|je.mpr ⟨_,rfl,?_⟩;cases hc:decide (F (sA e)=F (sB e))with
  |true=>show iQ rfl<|Ø.mpr<|.mk (j.trans g) ?_<|aH g p;rw[eT r,Ϗ,Ϥ<|by rw[hc];show Ī,Mg,ů];show o|false=>show iB rfl (Ć.mpr<|iO ⟨_,rfl,gX o,_,rfl,(nP o<|by rw[Å,Ā];lia).mpr<|.mk (cS (j.trans g) (Õ _) _) ?_<|(đ<|by rw[å];show õ<|Ψ _).trans<|aH g p⟩);rw[cH o,eT r,Ϗ,ϲ<|by rw[hc];rfl,Mg,Ę];rfl
 .rintro u s ⟨j,n,p⟩;rw[Å,ś]at n;show⟨rfl,dP ⟨_,rfl,H _ _ j n⟩⟩
abbrev iT(ps rs:jq)(q:Int×Int):jq:=rs.flatMap λr=>if r∈ps then[]else if sA r=q then[sB r]else if sB r=q then[sA r]else[]
def a0Q ps rs r q:iT ps (rs++[r]) q=iT ps rs q++if r∈ps then[]else if sA r=q then[sB r]else if sB r=q then[sA r]else[]:=by unfold iT;rw[Mq,List.flatMap_cons,QF,ů]
def LS ps q:∀rs,(iT ps rs q).length<=rs.length
 |[]=>Õ _|r::rs=>by
  change((if r∈ps then[]else if sA r=q then[sB r]else if sB r=q then[sA r]else[])++iT ps rs q).length<=_;have:=LS ps q rs;rw[å,Ļ];split
  .change 0+_<=_;lia
  .split
   .change 1+_<=_;lia
   .split
    .change 1+_<=_;lia
    .change 0+_<=_;lia
def LU(hw:1<=w/\w<=3)(d:1<=h/\h<=3)(b:p∈aX w h):q∈iT ps (dU w h) p↔dB w h ps p q:=by
 have m:=LB w (bT hw) h<|bT d;have x:=LC w (bT hw) h<|bT d;constructor
 .intro l;obtain⟨r,c,a⟩:=QM.mp l;obtain⟨_,_,n,s,u,v⟩:=x r c;split at a
  .cases a
  .rename_i g;split at a
   .rename_i e;rw[ĉ.mp a,<- e];show⟨e▸b,r,n,g,s.symm⟩
   .split at a
    .rename_i e;rw[ĉ.mp a,<- e];show⟨e▸b,r,u,g,v.symm⟩
    .cases a
 .rintro⟨_,e,i,j,k⟩;obtain⟨_,_,_,c,o⟩:=m p b e i;show QM.mpr ⟨e,c,?_⟩;rw[if_neg j,k];rcases o with⟨o1,o2⟩|⟨o1,o2⟩
  .rw[if_pos o1.symm,o2];show Ĭ ..
  .by_cases z:sA e=p
   .rw[if_pos z,o2,z,<- o1];show Ĭ ..
   .rw[if_neg z,if_pos o1.symm,o2];show Ĭ ..
structure Nb(μ:Hm)(a b:Nat)(qs:jq)(L:Int×Int->jq):Prop where
 dic:μ[a]?=a0 (.dT<|aS (λq=>.loc<|b+qs.idxOf q) qs)
 at_:∀q∈qs,μ[b+qs.idxOf q]?=a0 (.lst<|(L q).map PP)
def Nb.more{μ':Hm}(N:Nb c a b qs L)(h:c<+:μ'):Nb μ' a b qs L:=⟨aH h N.dic,λq d=>aH h<|N.at_ q d⟩
def tR{qs:jq}(h:q∈qs):qs.idxOf q<qs.length:=P0 h
def a0R{qs:jq}(c:p∈qs)(d:q∈qs)(e:qs.idxOf p=qs.idxOf q):p=q:=by have a:=Oh<|tR c;have b:=Oh<|tR d;rw[<- a,<- b];congr 1
def Nb.off(N:Nb e a b qs L)(h1:a≠n)(g:b+qs.length<=n)c:Nb (e.set n c) a b qs L:=⟨by rw[dY h1];show N.dic,λq d=>by rw[dY<|by have:=tR d;lia];show N.at_ q d⟩
def Nb.app(N:Nb j a b qs L)(i:q∈qs)(e:∀p∈qs,p≠q->c p=L p):Nb (j.set (b+qs.idxOf q)<|.lst<|(c q).map PP) a b qs c:=by
 have d:=N.at_ q i;show⟨?_,λp g=>?_⟩
 .rw[đ λz=>by rw[z,N.dic]at d;cases d];show N.dic
 .by_cases h:p=q
  .subst h;show cH d
  .rw[đ λz=>h<|a0R g i<|by lia,e p g h];show N.at_ p g
def a0S(G:qs.Nodup)(N:qs.length<=100){μ0 c:Hm}(u:μ0<+:c)(L:μ0.length<=a)(r:c[a]?=a0 (.dT []))(gl:c[l]?=a0 (.lst<|qs.map PP))Q(H:∀x b,μ0<+:b->c.length+qs.length<=b.length->Nb b a c.length qs (λ_=>[])->Q (.nx,v::w::y::a0 (.loc a)::x::xs,b)):
  W (dZ (c9<|.loc l) (bS 4) (cQ (aA 3) (aA 4)<|cX aD) ((qs.map PP).length+1) 0 (v::w::y::a0 (.loc a)::a7::xs) c) Q:=by
 have K:a<c.length:=(Ú.mp r).1;have s:l≠a:=λe=>by rw[e,r]at gl;cases gl
 show gW (λi g b=>∃x,g=v::w::y::a0 (.loc a)::x::xs/\μ0<+:b/\b.length=c.length+i/\b[a]?=a0 (.dT<|aS (λq=>.loc<|c.length+qs.idxOf q)<|qs.take i)/\(∀j,j<i->b[c.length+j]?=a0 (.lst []))/\b[l]?=a0 (.lst<|qs.map PP))
  ⟨a7,rfl,u,rfl,r,λj E=>absurd E<|Mf _,gl⟩ (by rintro _ _ _ ⟨_,_,_,_,_,_,h⟩;show h) ?_ ?_
 .rintro i d g b hd ⟨x,rfl,p,n,m,o,B⟩;obtain⟨q,k,rfl⟩:=kJ hd;have M:i<qs.length:=(Ú.mp k).1;have A:=tQ G k;show⟨_,rfl,ï.mpr<|ô.mpr ⟨_,rfl,Ģ _,_,rfl,_,rfl,(fU (aH (aM _ _) m) (cC q)<|by rw[Å,Ń,Ā];lia).mpr ?_⟩⟩;have I:cI (aS (λq=>.loc<|c.length+qs.idxOf q)<|qs.take i) (aN q) (.loc b.length)=aS (λq=>.loc<|c.length+qs.idxOf q) (qs.take<|i+1):=by rw[eT k,n,<- A];show qW (v:=λq=>.loc<|c.length+qs.idxOf q)<|by rw[A];show qV G k
  show⟨_,rfl,cS (p.trans<|aM _ _) L _,by rw[Θ,å,n];rfl,?_,λj E=>?_,by rw[đ<|ć s];show aH (aM _ _) B⟩
  .rw[cH<|aH (aM _ _) m];show congrArg (λz=>a0<|C.dT z) I
  .rw[đ<|by lia];by_cases e:j=i
   .rw[e,<- n];show aU _ _
   .show aH (aM _ _)<|o j<|by lia
 .rintro g b ⟨x,rfl,p,n,m,o,B⟩;rw[Å]at n o;rw[Å,ś]at m;show H x b p ⋯ ⟨m,λq k=>o _<|tR k⟩
def LV(u:qs.Nodup)(N:Nb c a b qs L)(l:q∈qs)(w:(L q).length<1000)(r:ρ[i]?=a0 (a0<|PP q))(s:ρ[j]?=a0 (a0<|PP x))(o:ρ[3]?=a0 (a0<|.loc a)){Q:jz}(H:∀g,g q=L q++[x]->(∀p,p≠q->g p=L p)->Nb (c.set (b+qs.idxOf q)<|.lst<|(g q).map PP) a b qs g->Q (.non,c.set (b+qs.idxOf q)<|.lst<|(g q).map PP)):
  W (cK dJ (aC aI (aA 3)<|aA i) (aB (aA j) aD) ρ c) Q:=by
 have m:=N.at_ q l;have v:∀{n:Nat}{d:D}{c:Hm},ρ[n]?=a0 (a0 d)->aA n ρ c=a0 (d,c):=λ{n d c} h=>by unfold aA;rw[h]
 show iO (bW (v o) (v r)<|(lJ (.inl N.dic) (cC q)<|nS u l).mpr ⟨gX m,Â.mpr ⟨_,v s,_,rfl,(nP m<|by rw[Å,Ā];lia).mpr ?_⟩⟩);have e:(λp=>if p=q then L q++[x]else L p) q=L q++[x]:=if_pos rfl;have:=H (λp=>if p=q then L q++[x]else L p) e (λp k=>if_neg k)<|N.app l λp _ k=>if_neg k;rw[if_pos rfl,Ę]at this;show this
abbrev a0T(k:Nat):MS:=(aE (gM (aG (f k "_law_beside")<|aB (aA 5) aD)<|c8 [6,7])<|bK (aT<|aC (cA a9) (aA 5)<|aA 2) (aE (cY<|cK dJ (aC aI (aA 3)<|aA 6)<|aB (aA 7) aD)<|cY<|cK dJ (aC aI (aA 3)<|aA 7)<|aB (aA 6) aD) bV)
def a0U{ps:jq}(b:a[c]?=a0 (.lst<|ps.map PP))r:cA a9 (PP r) (.loc c) a=a0 (.bl<|!decide (r∈ps),a):=by
 have e:(ps.any λp=>p==r)=decide (r∈ps):=by rw[ϟ,Mw,decide_eq_true_iff];show⟨λ⟨x,d,g⟩=>by rw[<- beq_iff_eq.mp g];show d,λh=>⟨r,h,beq_self_eq_true _⟩⟩
 simp only[cA,b,oF,bM,ğ,Kq,į,if_true,e]
def a0V k{rs:jq}(K:qs.Nodup)(hl:rs.length<=100)(hr:∀r∈rs,cE r.1 r.2=a9/\sA r∈qs/\sB r∈qs){μ0 u:Hm}(gc:μ0[c]?=a0 (.lst<|ps.map PP))(A:μ0<+:u)(lb:μ0.length<=b)(ll:b+qs.length<=l)(N:Nb u a b qs λ_=>[])(gl:u[l]?=a0 (.lst<|rs.map PP))Q(H:∀x y z j,μ0<+:j->Nb j a b qs (iT ps rs)->Q (.nx,E::G::a0 (.loc c)::a0 (.loc a)::I::x::y::z::xs,j)):
  W (dZ (c9<|.loc l) (bS 5) (a0T<|k+1) ((rs.map PP).length+1) 0 (E::G::a0 (.loc c)::a0 (.loc a)::I::a7::a7::a7::xs) u) Q:=by
 show gW (λi n j=>∃x y z,n=E::G::a0 (.loc c)::a0 (.loc a)::I::x::y::z::xs/\μ0<+:j/\Nb j a b qs (iT ps<|rs.take i)/\j[l]?=a0 (.lst<|rs.map PP)) ⟨a7,a7,a7,rfl,A,N,gl⟩ (by rintro _ _ _ ⟨_,_,_,_,_,_,h⟩;show h) ?_ ?_
 .rintro i d n j hd ⟨x,y,z,rfl,p,N,g⟩;obtain⟨r,o,rfl⟩:=kJ hd;obtain⟨h1,L,M⟩:=hr r<|Ğ o;have ne:=tL h1;have len:∀q,(iT ps (rs.take i) q).length<900:=λq=>by have:=LS ps q<|rs.take i;have:=ϵ i rs;lia
  show⟨_,rfl,Ê.mpr<|ĳ.mpr<|bX rfl<|LR k r _ _ λb' μ1 m Z=>(Iy Z).mpr<|Û.mpr<|iA<|bW rfl rfl ⟨_,a0U (aH (p.trans m) gc) r,_,rfl,?_⟩⟩;have B:=λq=>a0Q ps (rs.take i) r q;rw[<- eT o]at B;by_cases s:r∈ps
  .rw[decide_eq_true s];show iQ rfl<|Ø.mpr ⟨_,_,_,rfl,p.trans m,?_,aH m g⟩;rw[show iT ps (rs.take<|i+1)=iT ps (rs.take i)from funext λq=>by rw[B,if_pos s,ů]];show N.more m
  .rw[decide_eq_false s];show iB rfl (vJ<|LV K (N.more m) L (lw (len _)<|by decide) rfl rfl rfl λO U v R=>Ć.mpr ?_);have l1:(O<|sB r).length<1000:=by rw[v _<|ć ne];show lw (len _)<|by decide
   have ia:=tR L;have ib:=tR M;show LV K R M l1 rfl rfl rfl λL2 X Y T=>⟨_,_,_,rfl,cS (cS (p.trans m) ⋯ _) ⋯ _,?_,by rw[đ<|by lia,đ<|by lia];show aH m g⟩;have e:L2=iT ps (rs.take<|i+1):=funext λq=>by
    rw[B,if_neg s];by_cases h:q=sB r
    .rw[h,X,v _<|ć ne,if_neg ne,if_pos rfl]
    .rw[Y _ h];by_cases w:q=sA r
     .rw[w,U,if_pos rfl]
     .rw[v _ w,if_neg<|ć w,if_neg<|ć h,ů]
   rw[<- e];show T
 .rintro n j ⟨x,y,z,rfl,p,N,g⟩;rw[Å,ś]at N;show H x y z j p N
structure Hq(w h:Int)(ps:jq)(a b dh l:Nat)(μ0 μ:Hm)(K:jq):Prop where
 pre:μ0<+:μ
 nb:Nb μ a b (aX w h)<|iT ps<|dU w h
 dic:μ[dh]?=a0 (.dT<|aS (nV w h ps) K)
 gl:μ[l]?=a0 (.lst<|(aX w h).map PP)
structure Hx(w h:Int)(a b dh l:Nat)(μ0:Hm):Prop where
 a:a≠dh
 b:b+(aX w h).length<=dh
 l:l≠dh
 o:μ0.length<=dh
section
variable{w h:Int}{ps K:jq}{a b dh l u:Nat}{μ0 μ μ':Hm}{q p:Int×Int}
def Hq.more(I:Hq w h ps a b dh l μ0 μ K)(p:μ<+:μ'):Hq w h ps a b dh l μ0 μ' K:=⟨I.pre.trans p,I.nb.more p,aH p I.dic,aH p I.gl⟩
def Hq.put(I:Hq w h ps a b dh l μ0 μ K)(x:Hx w h a b dh l μ0)(c:p∉K):Hq w h ps a b dh l μ0 (μ.set dh<|.dT<|cI (aS (nV w h ps) K) (aN p)<|nV w h ps p) (K++[p]):=
 ⟨cS I.pre x.o _,I.nb.off x.a x.b _,by rw[cH I.dic,qW (v:=nV w h ps) c],by rw[dY x.l];show I.gl⟩
def Hq.set(I:Hq w h ps a b dh l μ0 μ K)(x:Hx w h a b dh l μ0)(h1:dh<u)(c:a≠u)(d:l≠u)xs:Hq w h ps a b dh l μ0 (μ.set u<|.lst xs) K:=
 ⟨cS I.pre (by have:=x.o;lia) _,I.nb.off c (by have:=x.b;lia) _,by rw[dY<|by lia];show I.dic,by rw[dY d];show I.gl⟩
abbrev Dp:MS:=(bK (aT<|aC (cA a9) (aA 12)<|aA 8) (aE (cQ (aA 8) (aA 12)<|aA 9)<|cY<|cK dJ (aA 10)<|aB (aA 12) aD) bV)
noncomputable abbrev RH(w h:Int)(c a dh u:Nat)(n:Int)(e g i j d x12:Option D):aF:=[a0<|.int w,a0<|.int h,a0<|.loc c,a0<|.loc a,e,g,i,j,a0<|.loc dh,a0<|.int n,a0<|.loc u,d,x12]
structure Hu(w h:Int)(ps:jq)(a b dh l u:Nat)(μ0 μ:Hm)(K:jq)(q:Int×Int)(F U X:jq):Prop where
 I:Hq w h ps a b dh l μ0 μ<|K++F
 due:μ[u]?=a0 (.lst<|U.map PP)
 G:Gt (dB w h ps) q F U X
inductive NR (w h:Int)(ps:jq)(c a b dh l u:Nat)(n:Int)(μ0:Hm)(K:jq)(q here:Int×Int)(m:Nat):Nat->aF->Hm->Prop
 |mk {j:Nat}{F U:jq}{μ:Hm}{x4 x5 x6 x7 x12:Option D}(hm:Mz F U<=m)(S:Hu w h ps a b dh l u μ0 μ K q F U [here])(hn:∀t∈(iT ps (dU w h) here).take j,t∈F)(hh:here∈F):NR w h ps c a b dh l u n μ0 K q here m j (RH w h c a dh u n x4 x5 x6 x7 (a0<|PP here) x12) μ
inductive PH (w h:Int)(ps:jq)(c a b dh l u:Nat)(n:Int)(μ0:Hm)(K:jq)(q:Int×Int):Nat->aF->Hm->Prop
 |mk {F U:jq}{μ:Hm}{x4 x5 x6 x7 wy x12:Option D}(hm:Mz F U<=71)(S:Hu w h ps a b dh l u μ0 μ K q F U []):PH w h ps c a b dh l u n μ0 K q (Mz F U) (RH w h c a dh u n x4 x5 x6 x7 wy x12) μ
structure Hl(w h:Int)(ps K:jq)(q:Int×Int)(n:Int):Prop where
 hq:q∈aX w h
 nd:K.Nodup
 lK:K.length<=36
 ap:∀x∈K,¬ Rh (dB w h ps) q x
 nv:∀x,Rh (dB w h ps) q x->nV w h ps x=.int n
def Hl.nin(L:Hl w h ps K q n)(G:Gt (dB w h ps) q F U X)(r:Rh (dB w h ps) q p):p∈K++F↔p∈F:=⟨λh=>(Ą.mp h).resolve_left λz=>L.ap p z r,λh=>Ω _ h⟩
def Hl.ndF(L:Hl w h ps K q n)(G:Gt (dB w h ps) q F U X):(K++F).Nodup:=Ϯ.mpr ⟨L.nd,G.nd,λx c y d e=>L.ap x c<|e▸G.rc y d⟩
def a0W(hw:1<=w/\w<=3)(s:1<=h/\h<=3)(x:Hx w h a b dh l μ0)(L:Hl w h ps K q n)(h1:dh<u)(Z:a≠u)(h3:l≠u)(hm:m<=71)(N:(iT ps (dU w h) d)[j]?=a0 t)(J:NR w h ps c a b dh l u n μ0 K q d m j (RH w h c a dh u n R T X Y (a0<|PP d) x12) μ):
  W (Dp (RH w h c a dh u n R T X Y (a0<|PP d)<|a0<|PP t) μ) λp=>p.1=.nx/\NR w h ps c a b dh l u n μ0 K q d m (j+1) p.2.1 p.2.2:=by
 have r:=nY hw s ps;have lq:=(iG w (bT hw) h<|bT s).2.1;obtain⟨A,⟨I,g,G⟩,M,v⟩:=J;rename_i F U;have O:=G.rc d v;have rt:Rh (dB w h ps) q t:=O.step<|(LU hw s<|O.mem r L.hq).mp<|Ğ N;have Q:=eT N;show Û.mpr<|iA<|bW rfl rfl<|(z7 (L.ndF G) I.dic t).mpr ⟨_,rfl,?_⟩;by_cases o:t∈F
 .rw[decide_eq_true<|(L.nin G rt).mpr o];show iQ rfl<|Ø.mpr ⟨rfl,.mk A ⟨I,g,G⟩ (λB i=>?_) v⟩;rw[Q]at i;rcases Ą.mp i with z|z
  .show M B z
  .rw[ĉ.mp z];show o
 .have k:t∉K++F:=λz=>o<|(L.nin G rt).mp z;rw[decide_eq_false k];have E:=G.push o rt;have lF:=G.len r L.hq;have y:=E.len r L.hq;have lK:=L.lK;rw[å,ϸ]at y;have mu:U.length<=71:=by unfold Mz at A;lia
  show iB rfl (Ê.mpr<|ï.mpr ⟨_,rfl,_,rfl,_,rfl,(fU I.dic (cC t)<|by rw[Å,å,Ā];lia).mpr ?_⟩);rw[<- L.nv t rt];have H:=I.put x k;rw[ě]at H;have e:(μ.set dh<|.dT<|cI (aS (nV w h ps)<|K++F) (aN t)<|nV w h ps t)[u]?=a0 (.lst<|U.map PP):=by rw[dY<|by lia];show g
  show Ć.mpr (iO ⟨_,rfl,gX e,_,rfl,(nP e<|by rw[Å,Ā];lia).mpr ⟨rfl,?_⟩⟩);rw[L.nv t rt];show .mk (F:=F++[t]) (U:=U++[t]) ?_ ⟨(L.nv t rt▸H).set x h1 Z h3 _,?_,E⟩ (λB i=>?_)<|Ū _ v
  .unfold Mz at A ⊢;rw[å,å,ϸ];lia
  .rw[L.nv t rt]at e;rw[cH e,Ę];rfl
  .rw[Q]at i;rcases Ą.mp i with z|z
   .show Ū _<|M B z
   .rw[ĉ.mp z];simp
abbrev LW:MT:=(aT<|aC (bD a9) (aA 10)<|cX aD)
abbrev LX:MS:=(aE (aP 11<|cK kT (aA 10) aD)<|bO (bZ<|aC aI (aA 3)<|aA 11) (bS 12) Dp)
def a0X(hw:1<=w/\w<=3)(B:1<=h/\h<=3)(x:Hx w h a b dh l μ0)(L:Hl w h ps K q n)(h1:dh<u)(N:a≠u)(O:l≠u)(ld:b+(aX w h).length<=u)(S:Hu w h ps a b dh l u μ0 μ K q [q] [q] [])R(H:∀F X Y Z y7 y z μ',Hq w h ps a b dh l μ0 μ' (K++F)->(K++F).Nodup->(∀x,x∈F↔Rh (dB w h ps) q x)->R (.nx,RH w h c a dh u n X Y Z y7 y z,μ')):
  W (mY nN LW LX (RH w h c a dh u n x4 x5 x6 x7 E x12) μ) R:=by
 have gh:=nY hw B ps;have nq:=(iG w (bT hw) h<|bT B).1;show Dd (PH w h ps c a b dh l u n μ0 K q) 71 (by decide) (show PH w h ps c a b dh l u n μ0 K q (Mz [q] [q]) _ _ from .mk (Õ _) S) ?_;rintro m ρ i ⟨hm,I,g,G⟩;rename_i F U X Y Z y7 y z;show iA<|cG ⟨_,rfl,ô.mpr ⟨_,rfl,Ģ _,(ZZ (aH (aM _ _) g)<|aU _ _).mpr ⟨_,rfl,?_⟩⟩⟩;have I:=I.more<|aM i<|C.lst [];have g:=aH (aM i<|C.lst []) g;generalize i++[C.lst []]=i at I g;rcases zx U with rfl|⟨r,e,rfl⟩
 .show iQ rfl<|H F _ _ _ _ _ _ _ I (L.ndF G) λx=>G.fin x
 .rw[uw]at G g hm ⊢;rw[Ę]at g;show iB (by simp)<|bL<|iO ⟨_,rfl,gX g,_,rfl,(De g).mpr ?_⟩;obtain⟨G1,T⟩:=G.pop;have A:=I.set x h1 N O<|r.map PP;have o:(i.set u<|.lst<|r.map PP)[u]?=a0 (.lst<|r.map PP):=cH g;have m1:Mz F r+1=Mz F (r++[e]):=by unfold Mz;rw[å];rfl
  generalize i.set u (.lst<|r.map PP)=μ3 at A o;have k:=(G.rc e T).mem gh L.hq;have gn:=A.nb.at_ e k;show Í.mpr<|Ó.mpr<|bW rfl rfl<|(lJ (.inl A.nb.dic) (cC e)<|nS nq k).mpr<|(dA gn).mpr ?_;show gW (b:=Dp) (NR w h ps c a b dh l u n μ0 K q e<|Mz F r) (.mk (Õ _) ⟨A,o,G1⟩ (λt v=>by simp at v) T) (by rintro _ _ _ ⟨_,⟨I,_,_⟩,_,_⟩;show I.nb.at_ e k) ?_ ?_
  .rintro j d ρ M hd J;obtain⟨t,v,rfl⟩:=kJ hd;obtain⟨a1,a2,a3,a4⟩:=J;show⟨_,rfl,bI (a0W (x12:=a7) hw B x L h1 N O ⋯ v<|.mk a1 a2 a3 a4) λp q=>?_⟩;rw[q.1];show q.2
  .rintro ρ M ⟨m2,⟨I2,s,G2⟩,Q,hz2⟩;rw[Å,ś]at Q;show⟨_,vh m2<|by lia,.mk ⋯ ⟨I2,s,G2.done λt v=>Q t<|(LU hw B k).mpr v⟩⟩
end
section
variable{w h:Int}{ps K:jq}{a b dh l:Nat}{μ0 μ:Hm}{q:Int×Int}
def Dq:∀w∈[(1:Int),2,3],∀h∈[(1:Int),2,3],fX w h=aX w h/\(dU w h).length<=63:=by decide +kernel
def a0Y{l:jq}(u:qU (l.map aN)=a9):cM l=l:=by
 show(RN (f:=aN) λx y e=>mM e).mp<|zq (le:=λx y=>HT.lexLt y x=a8) (λa b _ _ c d=>(zG b a c d).symm) (C1 l) ((zJ u).imp λ{x y} h=>?_)<|(kL l).map _;cases e:HT.lexLt y x with
 |false=>rfl|true=>show absurd (nC _ _ _ h e)<|by rw[nB];decide
structure Ş(w h:Int)(ps:jq)(i:Nat)(K:jq)(n:Int):Prop where
 nd:K.Nodup
 mem:∀x,x∈K↔∃p∈(aX w h).take i,Rh (dB w h ps) p x
 n:n=(pN (dB w h ps) (aX w h) i:Nat)
def Ş.old{n:Int}(hw:1<=w/\w<=3)(j:1<=h/\h<=3)(J:Ş w h ps i K n)(d:(aX w h)[i]?=a0 q)(z:q∈K):Ş w h ps (i+1) K n:=by
 obtain⟨p,g,r⟩:=(J.mem q).mp z;show⟨J.nd,λx=>?_,?_⟩
 .rw[J.mem x,eT d];show⟨λ⟨y,c,s⟩=>⟨y,Ū _ c,s⟩,λ⟨y,c,s⟩=>?_⟩;rcases Ą.mp c with c|c
  .show⟨y,c,s⟩
  .rw[ĉ.mp c]at s;show⟨p,g,r.trans s⟩
 .rw[zZ d,if_neg λe=>(wC (nY hw j ps) d).mp e p g r];show J.n
def Ş.ld{n:Int}(hw:1<=w/\w<=3)(j:1<=h/\h<=3)(J:Ş w h ps i K n)(e:(aX w h)[i]?=a0 q)(z:q∉K):Hl w h ps K q n:=by
 have d:=nY hw j ps;have ld:=(wC d e).mpr λp c r=>z<|(J.mem q).mpr ⟨p,c,r⟩;show⟨Ğ e,J.nd,Đ (wD J.nd λx g=>?_) (iG w (bT hw) h<|bT j).2.1,λx g r=>z ?_,λx r=>?_⟩
 .obtain⟨p,c,r⟩:=(J.mem x).mp g;show r.mem d<|uv c
 .obtain⟨p,c,s⟩:=(J.mem x).mp g;show(J.mem q).mpr ⟨p,c,s.trans<|r.symm d⟩
 .unfold nV;rw[Lz d e ld r,J.n]
def Ş.new{n:Int}(hw:1<=w/\w<=3)(e:1<=h/\h<=3)(J:Ş w h ps i K n)(d:(aX w h)[i]?=a0 q)(z:q∉K)(j:(K++F).Nodup)(g:∀x,x∈F↔Rh (dB w h ps) q x):Ş w h ps (i+1) (K++F) (n+1):=by
 show⟨j,λx=>?_,?_⟩
 .rw[eT d,Ą,J.mem,g];show⟨λs=>?_,λ⟨p,c,s⟩=>?_⟩
  .rcases s with⟨p,c,s⟩|s
   .show⟨p,Ū _ c,s⟩
   .show⟨q,Ω _<|ĉ.mpr rfl,s⟩
  .rcases Ą.mp c with c|c
   .show .inl ⟨p,c,s⟩
   .rw[ĉ.mp c]at s;show .inr s
 .rw[zZ d,if_pos<|(wC (nY hw e ps) d).mpr λp c r=>z<|(J.mem q).mpr ⟨p,c,r⟩,J.n];show(Int.natCast_succ _).symm
noncomputable abbrev RM(w h:Int)(c a dh:Nat)(n:Int)(g i j k d e x12:Option D):aF:=[a0<|.int w,a0<|.int h,a0<|.loc c,a0<|.loc a,g,i,j,k,a0<|.loc dh,a0<|.int n,d,e,x12]
inductive PJ (w h:Int)(ps:jq)(c a b dh l:Nat)(μ0:Hm):Nat->aF->Hm->Prop
 |mk {i:Nat}{K:jq}{n:Int}{μ:Hm}{x4 x5 x6 x7 NU wy x12:Option D}(I:Hq w h ps a b dh l μ0 μ K)(J:Ş w h ps i K n):PJ w h ps c a b dh l μ0 i (RM w h c a dh n x4 x5 x6 x7 NU wy x12) μ
abbrev LY:MS:=(bK (aT<|aC (cA a9) (aA 4)<|aA 8) (aE (cQ (aA 8) (aA 4)<|aA 9)<|aE (aP 10<|cX<|aB (aA 4) aD)<|aE (mY nN LW LX)<|aP 9<|aC bA (aA 9)<|mC<|.int 1) bV)
def a0Z(hw:1<=w/\w<=3)(e:1<=h/\h<=3)(x:Hx w h a b dh l μ0)(g:(aX w h)[i]?=a0 q)(I:Hq w h ps a b dh l μ0 μ K)(J:Ş w h ps i K n):
  W (LY (RM w h c a dh n (a0<|PP q) s u v k m x12) μ) λp=>p.1=.nx/\PJ w h ps c a b dh l μ0 (i+1) p.2.1 p.2.2:=by
 show Û.mpr<|iA<|bW rfl rfl<|(z7 J.nd I.dic q).mpr ⟨_,rfl,?_⟩;by_cases z:q∈K
 .rw[decide_eq_true z];show iQ rfl<|Ø.mpr ⟨rfl,.mk I<|J.old hw e g z⟩
 .rw[decide_eq_false z];have L:=J.ld hw e g z;have E:=L.lK;show iB rfl (Ê.mpr<|ï.mpr ⟨_,rfl,_,rfl,_,rfl,(fU I.dic (cC q)<|by rw[Å,Ā];lia).mpr ?_⟩);rw[<- L.nv q .refl];have d:=I.put x z;generalize μ.set dh (.dT<|cI (aS (nV w h ps) K) (aN q)<|nV w h ps q)=μ2 at d ⊢;have ld:dh<μ2.length:=(Ú.mp d.dic).1;have G:a<μ2.length:=(Ú.mp d.nb.dic).1;have H:l<μ2.length:=(Ú.mp d.gl).1;have M:=x.b;show bL (ô.mpr ⟨_,rfl,by change(1:Nat)<=Ñ;decide,hG ?_⟩);show a0X hw e x L ld ⋯ ⋯ ⋯ ⟨d.more<|aM _ _,aU _ _,Gt.start⟩ _ λF N O Q R y A B o j r=>?_;show⟨rfl,Ē.mpr<|bW rfl rfl<|ä.mpr ⟨rfl,.mk o<|J.new hw e g z j r⟩⟩
def a1a k(hw:1<=w/\w<=3)(g:1<=h/\h<=3)(z:μ[c]?=a0 (.lst<|ps.map PP))(Q:jz)(H:∀d K μ',μ<+:μ'->μ.length<=d->μ'[d]?=a0 (.dT<|aS (nV w h ps) K)->K.Nodup->(∀p,p∈K↔p∈aX w h)->Q (.loc d,μ')):W (f (k+3) "_law_homes" [.int w,.int h,.loc c] μ) Q:=by
 obtain⟨y,lr⟩:=Dq w (bT hw) h<|bT g;obtain⟨s,X,T,_,N⟩:=iG w (bT hw) h<|bT g;show ð (XG (k+2) _ _ _ μ)<|bL<|Ü.mpr<|hG<|Í.mpr<|Ó.mpr<|bX rfl<|JY (k+1) w h hw g _ _<|(dA<|aU _ _).mpr ?_;rw[y];show a0S s nofun (aM _ _ |>.trans (aM _ _)) (Õ _) (aH (aM _ _)<|aU _ _) (aU _ _) _ λY O L o v=>?_;rw[å,å,ϸ]at o;show⟨rfl,hG<|Í.mpr<|Ó.mpr<|bX rfl<|LQ (k+1) w h nofun nofun _ _<|(dA<|aU _ _).mpr ?_⟩;show a0V (μ0:=μ) (k+1) s nofun (λr n=>?_) z (L.trans<|aM _ _) (by rw[å,å];omega) (by rw[å,å];simp only[ϸ];omega) (v.more<|aM _ _) (aU _ _) _ λZ x6 x7 e M m=>?_
 .obtain⟨A,B,_⟩:=LC w (bT hw) h (bT g) r n;unfold dU at n;show⟨(Ŏ.mp n).2,A,B⟩
 show⟨rfl,bL<|Ü.mpr<|bL ⟨_,rfl,hG<|Í.mpr<|Ó.mpr<|bX rfl<|(z8<|aH (aM _ _) m.dic).mpr<|(dA<|aU _ _).mpr ?_⟩⟩;rw[a0Y N];have G:(μ++[C.dT []]++[C.lst<|(aX w h).map PP]).length+(aX w h).length<=e.length:=by obtain⟨q,j⟩:∃q,(aX w h)[(aX w h).length-1]?=a0 q:=⟨_,ó<|by lia⟩;have:=(Ú.mp<|m.at_ q<|Ğ j).1;rw[tQ s j]at this;lia
 have U:μ.length<e.length:=(Ú.mp m.dic).1;have x:Hx w h μ.length (μ++[C.dT []]++[C.lst<|(aX w h).map PP]).length e.length (e++[C.dT []]).length μ:=⟨by lia,G,by rw[å];simp,by lia⟩;show gW (b:=LY) (PJ w h ps c μ.length (μ++[C.dT []]++[C.lst<|(aX w h).map PP]).length e.length (e++[C.dT []]).length μ) (.mk (K:=[]) (n:=0) ⟨M.trans<|(aM _ _).trans<|aM _ _,m.more<|(aM _ _).trans<|aM _ _,aH (aM _ _)<|aU _ _,aU _ _⟩ ⟨ϱ,λx=>by simp,rfl⟩) (by rintro _ _ _ ⟨I,_⟩;show I.gl) ?_ ?_
 .rintro i d R u hd ⟨I,J⟩;obtain⟨q,j,rfl⟩:=kJ hd;show⟨_,rfl,bI (a0Z hw g x j I J) λp q=>?_⟩;rw[q.1];show q.2
 .rintro R u ⟨I,J⟩;show⟨rfl,dP ⟨_,rfl,H _ _ _ I.pre x.o I.dic J.nd λp=>?_⟩⟩;rw[J.mem,Å,ś];show⟨λ⟨q,j,r⟩=>r.mem (nY hw g ps) j,λE=>⟨p,E,.refl⟩⟩
end
section
variable{w h:Int}{ms:List ((Int×Int)×Str)}{μF μ:Hm}{a c d e b:Nat}{T K:jq}{Z:Zr}
noncomputable abbrev RS(a c d:Nat)(g i j k:Option D):aF:=[a0<|.loc a,a0<|.loc c,a0<|.loc d,g,i,j,k]
structure Ι(d:Nat)(μF μ:Hm)(T:jq)(n:Nat):Prop where
 pre:μF<+:μ
 gd:μ[d]?=a0 (.dT<|aS (λ_=>.bl a9) T)
 nd:T.Nodup
 ln:T.length<=n
abbrev Ds:MS:=(cQ (aA 2) (bP<|aB (aC aI (aA 4)<|aA 5)<|aB (aA 6) aD)<|mC<|.bl a9)
inductive Sn (a c d e b:Nat)(xs ys:List Int)(i n:Nat)(x3:Option D)(T:jq)(μF:Hm):Nat->aF->Hm->Prop
 |mk {j:Nat}{T':jq}{μ:Hm}{x6:Option D}(S:Ι d μF μ T' (n+j))(mem:∀p,p∈T'↔p∈T\/p∈(ys.take j).map λy=>(xs.getD i 0,y))(ge:μ[e]?=a0 (.lst<|xs.map D.int))(gb:μ[b]?=a0 (.lst<|ys.map D.int)):Sn a c d e b xs ys i n x3 T μF j (RS a c d x3 (a0<|.loc e) (a0<|.int i) x6) μ
def a1b{xs:List Int}(g:i<xs.length):atI (xs.map D.int) (i:Int)=a0 (.int<|xs.getD i 0):=by show a6z ?_;rw[ú,š,ó g];rfl
def a1c{xs:List Int}(I:i<xs.length)(Y:xs.length<=100)(X:n<=900000)(lo:μF.length<=d)(R:d<e)(S:Ι d μF μ T n)(z:μ[e]?=a0 (.lst<|xs.map D.int))Q(H:∀x m L,Ι d μF m x (n+xs.length)->m[e]?=a0 (.lst<|xs.map D.int)->(∀p,p∈x↔p∈T\/p∈(xs.drop<|i+1).map λy=>(xs.getD i 0,y))->Q (.nx,RS a c d s (a0<|.loc e) (a0<|.int i) L,m)):
  W (bO (bZ<|jL (aA 4) (eV<|aC bA (aA 5)<|mC<|.int 1) fG) (bS 6) Ds (RS a c d s (a0<|.loc e) (a0<|.int i) E) μ) Q:=by
 have U:d<μ.length:=(Ú.mp S.gd).1;show Í.mpr<|Ó.mpr ⟨_,LN rfl rfl z,(dA<|aU _ _).mpr ?_⟩;show gW (b:=Ds) (Sn a c d e μ.length xs (xs.drop<|i+1) i n s T μF) (.mk ⟨S.pre.trans<|aM _ _,aH (aM _ _) S.gd,S.nd,S.ln⟩ (λp=>by simp) (aH (aM _ _) z)<|aU _ _) (by rintro _ _ _ ⟨_,_,_,g⟩;show g) ?_ ?_
 .rintro j O M u hd ⟨k,q,l,o⟩;obtain⟨rfl,A⟩:=LO hd;rename_i N E;have r:=A;rw[ŧ]at r;have l2:=k.ln;show⟨_,rfl,ï.mpr ⟨_,rfl,_,rfl,à.mpr<|bJ<|bW rfl rfl<|(vB l<|a1b I).mpr ⟨_,rfl,fV,(fU k.gd (cC (xs.getD i 0,(xs.drop<|i+1).getD j 0))<|by rw[Å,Ā];lia).mpr ?_⟩⟩⟩;have B:(xs.drop<|i+1)[j]?=a0 ((xs.drop<|i+1).getD j 0):=by rw[š,ó A];rfl
  generalize(xs.drop<|i+1).getD j 0=v at B;have G:=LG (λ_=>.bl a9) k.nd (xs.getD i 0,v);rw[G];show .mk ⟨cS k.pre lo _,cH k.gd,LH k.nd _,Đ (LK _)<|by lia⟩ (λp=>?_) (by rw[dY<|by lia];show l) (by rw[dY<|by lia];show o);rw[LJ,q,eT B,Ę,Ą,or_assoc];simp
 .rintro M u ⟨k,q,l,o⟩;rw[Å,ś]at q;show H _ _ _ ⟨k.pre,k.gd,k.nd,?_⟩ l q;have:=k.ln;rw[Å,ŧ]at this;lia
inductive Sq (a c d e:Nat)(xs:List Int)(n:Nat)(x3:Option D)(T:jq)(μF:Hm):Nat->aF->Hm->Prop
 |mk {i:Nat}{T':jq}{μ:Hm}{x5 x6:Option D}(S:Ι d μF μ T' (n+i*xs.length))(mem:∀p,p∈T'↔p∈T\/p∈rG xs i)(ge:μ[e]?=a0 (.lst<|xs.map D.int)):Sq a c d e xs n x3 T μF i (RS a c d x3 (a0<|.loc e) x5 x6) μ
abbrev LZ:MS:=(bO (bZ<|jL (aA 4) (eV<|aC bA (aA 5)<|mC<|.int 1) fG) (bS 6) Ds)
def a1d(o:xs.length<=36)(N:n<=400000)(lo:μF.length<=d)(y:d<e)(S:Ι d μF μ T n)(u:μ[e]?=a0 (.lst<|xs.map D.int))Q(H:∀l k I v,Ι d μF k l (n+1296)->(∀p,p∈l↔p∈T\/p∈mO xs)->Q (.nx,RS a c d r (a0<|.loc e) I v,k)):
  W (bO (oE<|aB (aG fL<|aB (aA 4) aD) aD) (bS 5) LZ (RS a c d r (a0<|.loc e) E G) μ) Q:=by
 show Í.mpr ((Iz (j:=0)).mpr<|bJ<|bX rfl<|(vF u).mpr ⟨_,rfl,by rw[Å];lia,?_⟩);rw[Å,vX];show vC (b:=LZ) (Sq a c d e xs n r T μF) (.mk (by rw[Nat.zero_mul];show S) (λp=>by simp[rG]) u) ?_ ?_
 .rintro i M s z ⟨g,q,j⟩;have A:i*xs.length<=36*36:=ur ⋯ o;show⟨_,rfl,?_⟩;rw[Q3];show a1c z ⋯ ⋯ lo y g j _ λl L v x m B=>?_;show .mk (by rw[yf,<- kj];show x) (λp=>?_) m;rw[B,q,Dl,Ą,or_assoc]
 .rintro M s ⟨g,q,j⟩;have A:xs.length*xs.length<=36*36:=ur o o;show H _ _ _ _ ⟨g.pre,g.gd,g.nd,Đ g.ln<|by lia⟩ q
inductive So (w h:Int)(ms:List ((Int×Int)×Str))(a c d:Nat)(Z:Zr)(μF:Hm):Nat->aF->Hm->Prop
 |mk {i:Nat}{T:jq}{μ:Hm}{x3 x4 x5 x6:Option D}(S:Ι d μF μ T (i*1296))(mem:∀p,p∈T↔∃z∈Z.take i,p∈mO (jH w h ms z.2.1)):So w h ms a c d Z μF i (RS a c d x3 x4 x5 x6) μ
def a1e k(I:HI μ a Z)(o:μ[a]?=a0 (.dT<|aW Z))(X:μ[c]?=a0 (.dT<|aS (nV w h<|ms.map (·.1)) K))(M:c≠a)(nK:K.Nodup)(A:∀z∈Z,z.2.1.length<=36/\∀q∈z.2.1,q∈K)(lZ:Z.length<=36)(Q:jz)(H:∀b T i,μ<+:i->μ.length<=b->i[b]?=a0 (.lst<|(cM T).map PP)->T.Nodup->(∀p,p∈T↔∃z∈Z,p∈mO (jH w h ms z.2.1))->Q (.loc b,i)):W (f (k+1) "_law_shared" [.loc a,.loc c] μ) Q:=by
 have L:a<μ.length:=(Ú.mp o).1;show ð (XH k _ _ μ)<|bL<|Ü.mpr<|hG<|zK rfl (aH (aM _ _) o) (So w h ms a c μ.length Z<|μ.set a<|.dF<|aW Z) ?_ ?_ ?_
 .show .mk (T:=[]) ⟨?_,?_,ϱ,Ģ _⟩ λp=>by simp
  .rw[Oa _ _ L];show aM _ _
  .rw[dY<|by lia];show aU _ _
 .rintro n k d ρ l v ⟨S,m⟩;rename_i T x3 x4 x5 x6;obtain⟨z,x,N,e2⟩:∃z,Z[n]?=a0 z/\aN z.1=k/\D.loc z.2.2=d:=by unfold aW at v;rw[ú]at v;obtain⟨z,g,j⟩:=Ō.mp v;injection j with j h3;show⟨z,g,j,h3⟩
  subst N;have r:=Ğ x;have hn:n<Z.length:=(Ú.mp x).1;have E:HI (μ.set a<|.dF<|aW Z) a Z:=I.frz o;have s:=E.more S.pre;have u:l[c]?=_:=aH S.pre (show(μ.set a<|.dF<|aW Z)[c]?=_ by rw[dY M];show X);have Y:=(A z r).1;show bL (LP (ms:=ms) (L:=z.2.1) (tP<|bW rfl rfl<|(lJ s.dic (cC z.1)<|qS s.kd r).mpr rfl) (s.at_ z r) (λd i=>rfl) (λd i=>rfl) u nK (A z r).2 ⋯ _ λe μ3 B le U=>?_);have dl:μ.length<l.length:=(Ú.mp S.gd).1;show a1d (by unfold jH i0;rw[Ru,Å];show Y) (n:=n*1296) ⋯ (by rw[Θ];show Õ _) ⋯ ⟨S.pre.trans B,aH B S.gd,S.nd,S.ln⟩ U _ λT' μ4 y5 y6 G m4=>?_;show⟨rfl,.mk (by rw[yf];show G) λp=>?_⟩;rw[m4,m,eT x];constructor
  .rintro(⟨y,g,j⟩|g)
   .show⟨y,Ū _ g,j⟩
   .show⟨z,by simp,g⟩
  .rintro⟨y,g,j⟩;rcases Ą.mp g with g|g
   .show .inl ⟨y,g,j⟩
   .rw[ĉ.mp g]at j;show .inr j
 .rintro ρ l ⟨S,m⟩;have O:(aW Z).length=Z.length:=Å ..;rw[O,ś]at m;show⟨aH S.pre<|cH o,rfl,?_⟩;have R:(l.set a<|.dT<|aW Z)[μ.length]?=_:=(dY ⋯ _).trans S.gd;show dP<|bX rfl<|(z8 R).mpr<|H _ _ _ ((zL o S.pre).trans<|aM _ _) (by have:=S.pre.length_le;rw[Θ]at this ⊢;show this) (aU _ _) S.nd m
end
def Dt k{S:jq}(h:g[a]?=a0 (.lst<|S.map PP))(j:g[b]?=a0 (.lst<|S.map PP))(Q:jz)(H:Q (.bl a9,g)):W (f (k+1) "_law_told" [.loc a,.loc b] g) Q:=by
 show ð (XI k _ _ g)<|vL<|Jg<|vM<|tD<|bX rfl<|(WH h).mpr ⟨rfl,rfl,?_⟩;show iA<|bW rfl rfl<|(WD h j).mpr ⟨_,rfl,?_⟩;rw[beq_self_eq_true];show⟨rfl,tE<|hG<|Í.mpr<|Ó.mpr ⟨_,rfl,(dA h).mpr ?_⟩⟩;show gW (λi e c=>∃x,e=[a0<|.loc a,a0<|.loc b,x]/\c=g) ⟨a7,rfl,rfl⟩ (by rintro _ _ _ ⟨_,_,rfl⟩;show h) ?_ ?_
 .rintro i d e c hd ⟨x,rfl,rfl⟩;obtain⟨p,l,rfl⟩:=kJ hd;show⟨_,rfl,?_⟩;simp only[ũ,Ž,Û,Ő,Ň,Ė,Ë,Â,b7,aV,bF,cV,Ô,IH,Ct,Ă,ā,Ĝ,Mm,ĸ,if_false,Ø];show⟨_,rfl,trivial⟩
 .rintro e c ⟨x,rfl,rfl⟩;show⟨rfl,dP ⟨_,rfl,H⟩⟩
def L0{f:Int×Int->Int×Int}(P:ŏ qs f G)(c:ŏ qs d j)(e:∀x∈qs,∀y∈qs,f x=f y↔d x=d y)(l:g∈G):∃g'∈j,g'.2.Perm g.2:=by obtain⟨q,n⟩:=Rb _<|P.ne g l;have i:=P.pm g.1;rw[lI P.kd l]at i;obtain⟨a,h⟩:=Ŏ.mp<|i.mem_iff.mp n;obtain⟨g',k,m⟩:=Þ.mp<|c.key.mpr ⟨q,a,rfl⟩;show⟨g',k,?_⟩;have b:=c.pm g'.1;rw[lI c.kd k]at b;show b.trans<|Oe (.of_eq ?_) i.symm;show OO λx o=>?_;rw[m,<- of_decide_eq_true h,decide_eq_decide];show(e x o q a).symm
def L4{d:jq}(p:L.Perm d):jH w h ms L=jH w h ms d:=by
 unfold jH;show Gq ?_ ?_
 .show(Ov _ _).trans<|p.map _
 .have:=P5 (le:=λa b:Int=>decide<|a<=b) (λa b c e g=>by simp at *;lia) (λa b=>by simp;lia)<|L.map<|nZ w h ms;show this.imp λh=>by simpa using h
abbrev wF(w h:Int)(ms:List ((Int×Int)×Str))(G:Gr)(p:Int×Int):Prop:=∃g∈G,p∈mO (jH w h ms g.2)
def a1f{f:Int×Int->Int×Int}(P:ŏ qs f G)(l:ŏ qs a k)(e:∀x∈qs,∀y∈qs,f x=f y↔a x=a y)p:wF w h ms G p↔wF w h ms k p:=by
 constructor
 .rintro⟨g,c,d⟩;obtain⟨b,i,j⟩:=L0 P l e c;show⟨b,i,by rw[L4 j];show d⟩
 .rintro⟨g,c,d⟩;obtain⟨b,i,j⟩:=L0 l P (λx m y n=>(e x m y n).symm) c;show⟨b,i,by rw[L4 j];show d⟩
def a1g(a:T.Nodup)(b:K.Nodup)(e:∀p,p∈T↔p∈K):cM T=cM K:=jg.mpr<|(SK a b).mpr e
def a1h:∀w∈[(1:Int),2,3],∀h∈[(1:Int),2,3],(f7 (first w h)<|iS w h).Nodup/\∀q∈f7 (first w h) (iS w h),q∈aX w h:=by decide +kernel
def a1i(g:(kvs.map (·.1)).Nodup):c7 kvs=aS (λq=>LD<|fN kvs q) (kvs.map (·.1)):=by
 unfold c7 aS;rw[ã];show a2x λp e=>?_;obtain⟨x,l,h,k⟩:=Dj (kvs:=kvs) (q:=p.1)<|Þ.mpr ⟨p,e,rfl⟩;have:x=p:=by
  obtain⟨i,a⟩:=ϴ l;obtain⟨j,d⟩:=ϴ e;have b:(kvs.map (·.1))[i]?=a0 p.1:=by rw[ú,a,<- h];rfl
  have c:(kvs.map (·.1))[j]?=a0 p.1:=by rw[ú,d];rfl
  have:i=j:=(tQ g b).symm.trans<|tQ g c;rw[this,d]at a;injection a with a;show a.symm
 change _=(aN p.1,LD<|fN kvs p.1);rw[k,this]
def a1j(hw:1<=w/\w<=3)(a:1<=h/\h<=3)m:∃row,row.Perm (aX w h)/\dO (c7<|pK m w h)=aS (λq=>LD<|fN (pK m w h) q) row:=by obtain⟨c,d⟩:=a1h w (bT hw) h<|bT a;have e:=(zU w (bT hw) h<|bT a).2.2.2.1;have b:(pK m w h).map (·.1)=f7 (first w h) (iS w h):=zV m _ _;show⟨cM<|f7 (first w h)<|iS w h,(kL _).trans<|(SK c (iG w (bT hw) h<|bT a).1).mpr λq=>⟨d q,e q⟩,?_⟩;rw[a1i<|by rw[b];show c,b,vV]
def a1k{Q:jz}(h:b[a]?=a0 (.dT<|aS v ps))(c:2<=ps.length):W (nJ [.loc a,.bl a9] b) Q↔Q (.loc b.length,b++[.lst<|(cM ps).reverse.map PP]):=by
 have e:nJ [.loc a,.bl a9] b=a0 (.loc b.length,b++[.lst<|(cM ps).reverse.map PP]):=by
  simp only[nJ,h];rw[if_pos ⟨by unfold aS;rw[Å];show c,λp d=>by
   obtain⟨q,_,rfl⟩:=Þ.mp d;simp[aN]⟩,vV]
  unfold aS;rw[ã,QK];rfl
 rw[e];show À
def Du(h:0<=i/\i<3):∃s,zY s/\∀a,aI (.str "hvo") (.int i) a=a0 (.str s,a):=by
 have:i=0\/i=1\/i=2:=by lia
 rcases this with rfl|rfl|rfl
 .show⟨"h",.inr<|.inr rfl,λa=>rfl⟩
 .show⟨"v",.inr<|.inl rfl,λa=>rfl⟩
 .show⟨"o",.inl rfl,λa=>rfl⟩
def Dv(x:Int):0<=x%3/\x%3<3:=⟨uf _<|by decide,vg _<|by decide⟩
abbrev lO(n:Int)(e:Int×Int):Str:=mF<|Du<|Dv<|e.1+5*e.2+n/54
def a1l n e:zY (lO n e):=(vo<|Du<|Dv<|e.1+5*e.2+n/54).1
def a1m n e a:aI (.str "hvo") (.int<|(e.1+5*e.2+n/54)%3) a=a0 (.str<|lO n e,a):=(vo<|Du<|Dv<|e.1+5*e.2+n/54).2 a
def a1n{a:jq}(p:ps.Perm a):nV w h ps=nV w h a:=by
 have:dB w h ps=dB w h a:=by funext x y;unfold dB;simp only[p.mem_iff]
 unfold nV;rw[this]
abbrev bw(w h:Int)(F F':Int×Int->Ly):Prop:=∀x∈aX w h,∀y∈aX w h,aO (F x) x=aO (F y) y↔aO (F' x) x=aO (F' y) y
def bw.post(a:Ď M)(e:∀x∈aX w h,F' x=cB (F x) M):bw w h F F':=λx b y c=>by rw[e x b,e y c,k9,k9];show⟨λz=>by rw[z],λz=>Lq a z⟩
def bw.symm(e:bw w h F F'):bw w h F' F:=λx a y b=>(e x a y b).symm
def Dw{μ:Hm}k(hw:1<=w/\w<=3)(i:1<=h/\h<=3)(g:∀q,Ď (F' q))(j:row.Perm (aX w h))(d:μ[t]?=a0 (.dT<|aS (λq=>LD<|F' q) row))(P:ŏ (aX w h) (λq=>aO (F q) q) G)(r:T.Nodup)(n:∀p,p∈T↔wF w h ms G p)(e:bw w h F F')(Q:jz)(H:∀a b,μ<+:b->μ.length<=a->b[a]?=a0 (.lst<|(cM T).map PP)->Q (.loc a,b)):W (f (k+9) "pairs" [SH w h ms,.loc t] μ) Q:=
 a0O k hw i g j d Q λa K b p l c o _ m=>H a b p l<|by
  rw[c,a1g o r λx=>?_];rw[m,n];show(a1f P J3 e x).symm
abbrev a1o(k:Nat):MS:=(cQ (aA 11) (aA 12)<|aG (f k "_law_then")<|aB (aC aI (aA 4)<|aA 12)<|aB (aA 10) aD)
def a1p{μ:Hm}{F:Int×Int->Ly}k{μ0:Hm}(U:∀q,Ď (F q))(Y:Ď M)(nr:row.Nodup)(X:∀q∈L,q∈row)(Z:L.Nodup)(lL:L.length<=100)(R:μ0[a]?=a0 (.dT<|aS (λq=>LD<|F q) row))(lo:μ0.length<=d)(o:μ0<+:μ)(N:μ[d]?=a0 (.dT []))(m:μ[b]?=a0 (.lst<|L.map PP))Q(H:∀y c,μ0<+:c->c[d]?=a0 (.dT<|aS (λq=>LD<|cB (F q) M) L)->Q (.nx,[r,u,v,x,a0<|.loc a,A,B,E,G,I,a0<|LD M,a0<|.loc d,y],c)):
  W (dZ (c9<|.loc b) (bS 12) (a1o<|k+1) ((L.map PP).length+1) 0 [r,u,v,x,a0<|.loc a,A,B,E,G,I,a0<|LD M,a0<|.loc d,a7] μ) Q:=by
 have O:b≠d:=λe=>by rw[e,N]at m;cases m
 show gW (λi j c=>∃y,j=[r,u,v,x,a0<|.loc a,A,B,E,G,I,a0<|LD M,a0<|.loc d,y]/\μ0<+:c/\c[d]?=a0 (.dT<|aS (λq=>LD<|cB (F q) M)<|L.take i)/\c[b]?=a0 (.lst<|L.map PP)) ⟨a7,rfl,o,N,m⟩ (by rintro _ _ _ ⟨_,_,_,_,g⟩;show g) ?_ ?_
 .rintro i dd j c hd ⟨y,rfl,p,l,K⟩;obtain⟨q,n,rfl⟩:=kJ hd;show⟨_,rfl,ï.mpr<|eM<|bJ<|bW rfl rfl<|(lJ (.inl<|aH p R) (cC q)<|nS nr<|X q<|Ğ n).mpr<|bJ ⟨_,rfl,_,rfl,(JV k _ _ (U q) Y _ _).mpr ⟨_,rfl,_,rfl,(fU l (cC q)<|by rw[Å,Ń,Ā];lia).mpr ?_⟩⟩⟩;show⟨_,rfl,cS p lo _,?_,by rw[dY O];show K⟩;rw[cH l,eT n];show congrArg (λz=>a0<|C.dT z)<|qW (v:=λq=>LD<|cB (F q) M)<|qV Z n
 .rintro j c ⟨y,rfl,p,l,K⟩;rw[Å,ś]at l;show H y c p l
abbrev L5(k:Nat):MS:=(aE (aP 9<|aG (f k "pairs")<|aB (aA 7)<|aB (aA 4) aD)<|aE (bK (iY<|dS<|aG (f k "_law_told")<|aB (aA 9)<|aB (aA 8) aD) (aR<|mC<|.bl a8) bV)<|aE (cY<|cK qB (aA 9) aD)<|aE (aP 10<|aG (f k "_law_mirror")<|aB (aC bN (aA 1)<|mC<|.int 4)<|aB (aC bQ (mC<|.int 4)<|aC dH (aC bN (aC iJ (aA 1)<|mC<|.int 1000)<|mC<|.int 41)<|mC<|.int 20) aD)<|aE (aP 11 fA)<|aE (bO (bZ<|aG nJ<|aB (aA 4)<|aB (mC<|.bl a9) aD) (bS 12)<|cQ (aA 11) (aA 12)<|aG (f k "_law_then")<|aB (aC aI (aA 4)<|aA 12)<|aB (aA 10) aD)<|aR<|eJ (aG (f k "_law_told")<|aB (aG (f k "pairs")<|aB (aA 7)<|aB (aA 11) aD)<|aB (aA 8) aD)<|aG (f k "_law_told")<|aB (aG (f k "pairs")<|aB (aA 7)<|aB (aG (f k "laid")<|aB (aA 7) aD) aD)<|aB (aA 8) aD)
def a1q k(hw:1<=w/\w<=3)(c:1<=h/\h<=3)(r:∀q,Ď (F q))(I:ŏ (aX w h) (λq=>aO (F q) q) (GZ Z))(wf:Wf w h F)(fr:(fY w h).find? (pI ms)=a7)(mk:wB w h F (cJ ms))(E:T.Nodup)(B:∀p,p∈T↔wF w h ms (GZ Z) p)(z:K[a]?=a0 (.dT<|aS (λq=>LD<|F q)<|aX w h))(O:K[s]?=a0 (.lst<|(cM T).map PP))R(H:∀ρ μ',R (.rt<|.bl a9,ρ,μ')):W (L5 (k+9) [x0,a0<|.int n,x2,x3,a0<|.loc a,x5,x6,a0<|SH w h ms,a0<|.loc s,a7,a7,a7,a7] K) R:=by
 obtain⟨Q,lq,l2,_,up⟩:=iG w (bT hw) h<|bT c;show bL<|bX rfl<|Dw k hw c r (zb _) z I E B (λ_ _ _ _=>Iff.rfl) _ λo d U lo u=>?_;have g:=aH U O;have A:=aH U z;show vL<|vM<|tD<|bX rfl<|Dt (k+8) u g _ ⟨rfl,rfl,tE<|vJ<|iO ⟨_,rfl,gX u,_,rfl,(WE u).mpr ?_⟩⟩;have ol:o≠s:=λe=>by have:=(Ú.mp O).1;lia
 have ow:a≠o:=λe=>by have:=(Ú.mp z).1;lia
 have i:(d.set o<|.lst [])[s]?=_:=(dY (ć ol) _).trans g;have b:(d.set o<|.lst [])[a]?=_:=(dY ow _).trans A;generalize d.set o (.lst [])=μ9 at i b;show bL (eM<|bJ<|bW rfl rfl<|(i9<|by decide).mpr<|bJ<|cG ⟨_,rfl,cG<|cG<|bW rfl rfl<|(qO (by decide)<|by decide).mpr ⟨_,rfl,(i9<|by decide).mpr ⟨_,rfl,ϔ.mpr<|(k7<|.inl<|by decide).mpr ⟨_,rfl,?_⟩⟩⟩⟩);show JS (k+8) _ _ ⟨uf _<|by decide,vg _<|by decide⟩ _ _ λL G=>?_;have l:=vU (n%4)<|4*(n/1000%41-20);generalize cD (n%4) (4*(n/1000%41-20))=M at l;show bL<|Ü.mpr<|hG<|Í.mpr<|Ó.mpr<|bX rfl<|(a1k (aH (G.trans<|aM _ _) b) l2).mpr<|(dA<|aU _ _).mpr ?_;have m:(cM<|aX w h).reverse.Perm (aX w h):=(my _).trans<|kL _;show a1p (μ0:=L) (F:=F) (k+8) r l Q (λq hq=>m.mem_iff.mp hq) (m.nodup_iff.mpr Q) (by rw[m.length_eq];lia) (aH G b) (Õ _) ((aM _ _).trans<|aM _ _) (aH (aM _ _)<|aU _ _) (aU _ _) _ λy μB pB gB=>⟨rfl,?_⟩;have j:=aH (G.trans pB) i;show dP<|ë.mpr<|eM<|bJ<|bX rfl<|Dw (F':=λq=>cB (F q) M) k hw c (λq=>vT (r q) l) m gB I E B (bw.post l λx _=>rfl) _ λo2 μC X _ gC=>bJ ⟨_,rfl,_,rfl,Dt (k+8) gC (aH X j) _ ?_⟩;show iB rfl ?_;have v:=aH X j;obtain⟨row,hr,Y⟩:=a1j hw c<|cJ ms;show eM<|bJ<|eM<|bJ ⟨_,rfl,bJ<|bX rfl<|ZQ (k+2) hw c ms fr _ _ λo3 μD pD N=>⟨_,rfl,?_⟩⟩;rw[Y]at N;show Dw (F':=λq=>fN (pK (cJ ms) w h) q) k hw c (λq=>K2 _ _ _ q) hr N I E B (bw.symm<|bw.post (wf.di<|first w h) λx hx=>(a0q hw c wf mk hx).symm) _ λo4 μE pE _ gE=>bJ ⟨_,rfl,_,rfl,Dt (k+8) gE (aH (pD.trans pE) v) _<|H _ _⟩
abbrev a1r(k:Nat):MS:=(aE (aP 6<|aG (f k "_law_creased")<|aB (aA 4)<|aB (aA 2)<|aB (aA 3) aD)<|aE (aP 7<|aG (f k "sheet_of")<|aB (aA 2)<|aB (aA 3)<|aB (eC (bZ<|aA 6) eX<|bP<|aB (aA 13)<|aB (aC aI (mC<|.str "hvo")<|aC bN (aC bA (aC bA (aC aI (aA 13)<|mC<|.int 0)<|aC bQ (mC<|.int 5)<|aC aI (aA 13)<|mC<|.int 1)<|aC iJ (aA 1)<|mC<|.int 54)<|mC<|.int 3) aD) aD)<|aE (aP 8<|aG (f k "_law_shared")<|aB (aA 5)<|aB (aG (f k "_law_homes")<|aB (aA 2)<|aB (aA 3)<|aB (aA 6) aD) aD)<|L5 k)
def a1s k(hw:1<=w/\w<=3)(i:1<=h/\h<=3)(G:NS (aX w h) j a b F Z)(J:JL F)R(H:∀ρ μ',R (.rt<|.bl a9,ρ,μ')):W (a1r (k+9) [x0,a0<|.int n,a0<|.int w,a0<|.int h,a0<|.loc a,a0<|.loc b,a7,a7,a7,a7,a7,a7,a7] j) R:=by
 obtain⟨eK,lr⟩:=Dq w (bT hw) h<|bT i;obtain⟨nq,O,l2,_,up⟩:=iG w (bT hw) h<|bT i;have l:=Dh hw i;have wf:=J.wf l;obtain⟨_,_,_,_,_,f1,f2,_⟩:=tK _ l;obtain⟨M,gi,r,di,m⟩:=G;show bL<|bX rfl<|a0P (k+7) l nq (λq y=>eK▸y) M _ λc μ3 p3 o=>?_;have lc:(nW w h F).length<64:=vh (Ų _ _) ⋯;have nc:(nW w h F).Nodup:=(Z0<|zJ f2).sublist Oq;show bL<|eM<|bJ ⟨_,rfl,bJ ⟨_,rfl,bJ ?_⟩⟩;show jA (xs:=(nW w h F).map PP) (p:=λ_=>a9) (v:=λd=>MD (dC d,lO n<|dC d))<|Ó.mpr ⟨_,rfl,(dA o).mpr ⟨k8 o,rfl,by rw[Å,Ā];lia,λd μ' hd x=>ď.mpr ⟨rfl,İ _⟩,λd μ' hd _ x=>?_,λμ4 U I=>⟨_,rfl,?_⟩⟩⟩
 .obtain⟨e,he,rfl⟩:=Þ.mp hd;show à.mpr<|bJ ⟨_,rfl,bJ ?_⟩;show cG ⟨_,rfl,cG<|cG<|cG<|bW rfl rfl<|Ă.mpr<|cG ⟨_,rfl,bW rfl rfl<|ā.mpr<|(k7<|.inl<|by decide).mpr<|ä.mpr<|bW rfl rfl<|(qO (by decide)<|by decide).mpr<|ä.mpr ⟨_,rfl,(i9<|by decide).mpr ⟨_,a1m n e _,_,rfl,fV,rfl,İ _⟩⟩⟩⟩
 rw[yz.mpr λ_ _=>rfl,ã,show((λd=>MD (dC d,lO n<|dC d))∘PP)=λe=>MD (e,lO n e)from rfl]at I;show a0s (k+5) l (lO n) lc nc (λp x=>(Ŏ.mp x).1) (a1l n) I _ λμ5 X=>?_;have Y:(xu (·.1)<|(cM<|nW w h F).map λe=>(e,lO n e)).Perm (nW w h F):=by rw[ã,show(MJ∘λe=>(e,lO n e))=id from rfl,WF];show kL _
 have E:=a0t hw i wf<|lO n;have mk:=Lu (w:=w) (h:=h) (F:=F)<|lO n;generalize(cM<|nW w h F).map (λe=>(e,lO n e))=ms at Y E mk;have q5:=p3.trans<|U.trans X;show bL<|eM<|bJ ⟨_,rfl,bJ<|bX rfl<|a1a (k+6) hw i (aH (U.trans X) o) _ λd K μ6 p6 ld L nK mK=>⟨_,rfl,?_⟩⟩;rw[a1n Y.symm]at L;have B:=q5.trans p6;have Q:=m.lenZ;have cl:=(Ú.mp r).1;show a1e (k+8) (gi.more B) (aH B r) L (λe=>?_) nK (λz N=>⟨Đ (Q.2 z N).2 O,λq y=>(mK q).mpr ?_⟩) (Đ Q.1 O) _ λs T μ7 p7 _ gs nT mT=>?_
 .have:=(Ú.mp<|aH q5 r).1;lia
 .have A:(z.1,z.2.1)∈GZ Z:=Þ.mpr ⟨z,N,rfl⟩;have:=m.pm z.1;rw[show cU (GZ Z) z.1=z.2.1 from lI m.kd A]at this;show(Ŏ.mp<|this.mem_iff.mp y).1
 have mP:∀p,p∈T↔wF w h ms (GZ Z) p:=λp=>by
  rw[mT];show⟨λ⟨z,u,v⟩=>⟨_,Þ.mpr ⟨z,u,rfl⟩,v⟩,λ⟨g,u,v⟩=>by
   obtain⟨z,h3,rfl⟩:=Þ.mp u;show⟨z,h3,v⟩⟩
 have q7:=B.trans p7;show a1q k hw i di m wf E mk nT mP (aH q7 M) gs R H
def a1t k(ns:List Int)e:W (f (k+10) "law" [.rol<|ns.map D.int] e) λr=>r.1=.bl true:=by
 show ð (XJ (k+9) _ e) (bL<|bX rfl<|JU (k+7) ns 0 (by decide) _ _ λn q x y z=>?_);show bL (cG ⟨_,rfl,bW rfl rfl<|(i9<|by decide).mpr<|ä.mpr ?_⟩);show bL (cG ⟨_,rfl,cG<|bW rfl rfl<|(qO (by decide)<|by decide).mpr ⟨_,rfl,(i9<|by decide).mpr<|ä.mpr ?_⟩⟩);obtain⟨w,i⟩:∃w,w=1+n%3:=⟨_,rfl⟩;obtain⟨h,g⟩:∃h,h=1+n/3%3:=⟨_,rfl⟩;have hw:1<=w/\w<=3:=by lia
 have d:1<=h/\h<=3:=by lia
 rw[<- i,<- g];obtain⟨c,lr⟩:=Dq w (bT hw) h<|bT d;obtain⟨p,m,v,_,B⟩:=iG w (bT hw) h<|bT d;show Ê.mpr (ĳ.mpr<|eM<|bJ ⟨_,rfl,bJ ⟨_,rfl,bJ ⟨_,rfl,bJ ⟨_,rfl,bJ<|cG<|bW rfl rfl<|(qO (by decide)<|by decide).mpr ⟨_,rfl,(i9<|by decide).mpr ⟨_,rfl,?_⟩⟩⟩⟩⟩⟩);show YU (λF _=>JL F) (k+6) ns w h a0i (λF G u n a o l j _ J=>a0k F u n a l j J) hw d 2 _ (by decide) ⋯ (by rw[c];show p) (by rw[c];show m) (by rw[c];lia) _ _ λa b F Z s A G J=>?_;show⟨_,rfl,a1s k hw d (c▸G) J _ λ_ _=>rfl⟩
def a1u:∀ns:List Int,ns.length<=63->∃μ',kZ S ds 10 "law" [.rol<|ns.map D.int] []=a0 (.bl a9,μ'):=λns _=>by obtain⟨⟨d,μ'⟩,a,b⟩:=a1t 0 ns [];dsimp only at b;subst b;show⟨μ',?_⟩;unfold f at a;show a
def dz Q:yY (Kx Q) ds:=by unfold yY;kernel_rfl
def cz Q:Iu (Kx Q) S.con=true:=by kernel_rfl
def nz Q:S.no.map (yr (Kx Q) Ũ)=S.no.map λ_=>a0 none:=by kernel_rfl
def a1v{P:ł}{w:Į}{Q:ξ}
  {h:Č}{mg:Str → Option Value}(X:(Kx Q).In h)(G:h.Ns Ũ mg):Ţ P w (Kx Q) mg S ds ∧ ∃f a,ϓ (Kx Q) "law" "law" (aJ 75) f a ∧ mg "law"=a0 (.ref f) ∧ ∀(s:Ï)(u:Value),jm s a ⟨[u],[]⟩ [("_law_script",u)]:=by
 show⟨⟨Wn<|by decide +kernel,Wo λp b=>(Ip X G (dz Q) p b).1,Wq<|Wv X G<|cz Q,λx c e=>?_,Wr<|Wu X G<|nz Q⟩,Wt X G (dz Q) (by kernel_rfl)<|by kernel_rfl⟩
 .cases e
end Lw
open PySem PySem.W PyProof.Rows
set_option maxRecDepth 100000 in
set_option maxHeartbeats 0 in
theorem PySem.Challenge.cw_creasecourt_k71_pairs_that_share_holds : PySem.Challenge.rw_creasecourt_k71_pairs_that_share.Holds := by
 w_on
 refine holds_law Lw.OD fun a=>?_
 refine holds_open (q:=Lw.Vw) (loose:=[]) (Xt:=fun s=>xlAt Lw.Vw [] s&&recOk (Po<|Qf<|Œ ń) s) (XP:=XL Lw.Vw []) (Yf:=Hook.obs (xj Lw.Kx Lw.As Lw.tZ)) (Ya:=Hook.val (xj Lw.Kx Lw.As Lw.tZ)) (YP:=Hook.says (xj Lw.Kx Lw.As Lw.tZ)) (N:=6720) Lw.run (Hook.of _) (Hook.keeps _) (fun s e=>xl_of s (zr.mp e).1) XL.keeps (by rfl) (by rfl) (by rfl) (fun s e=>recFacts_of (zr.mp e).2) (by rfl) (by first|assumption|decide +kernel) (by decide +kernel) ⟨rfl,rfl,rfl,rfl,rfl,by decide +kernel⟩ ?hw ?hc
 case hw=>w_witness2
 k_fill
 refine L3.walkM (l:=ń) (S:=Lw.S) (ds:=Lw.ds) (k:=10) (st:=Lw.aJ 75) (x:="_law_script") rfl rfl ⟨rfl,by decide,by decide⟩ (fun w h Y=>PySem.W.kIn_of Y) (by kernel_rfl) (by kernel_rfl) ?F fun c h _=>Lw.a1u c h
 case F=>
  intro w d h b G
  refine' @Lw.a1v Dr w _  _ _ b G
