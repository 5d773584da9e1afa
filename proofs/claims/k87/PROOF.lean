import PyProof.Rows.All
import Wide.All
import OpenK.AllK
import PySem.Challenge.RW_creasecourt_k87_whole_carried_marks_are
set_option compiler.extract_closed false
namespace _s
open Lean Syntax
def n(k:String)(a:Array Syntax):=node .none (.str `Lean.Parser.Term k) a
def l(a:Array Syntax):=node .none `null a
def N(k:String)(a:Array Syntax):=node .none (.str `Lean.Parser.Tactic k) a
def M(k:String)(a:Array Syntax):=node .none (.str `Lean.Parser.Command k) a
def o:=l #[]
def c:=N "optConfig" #[o]
def q(x):=N "tacticSeq" #[N "tacticSeq1Indented" #[l #[x]]]
def b(x):=n "byTactic" #[.atom .none "by",q x]
def r(x):=N "rcasesPatMed" #[l #[x]]
def O(y:Syntax):=if y.isAtom then y else N "rcasesPatLo" #[r y,o]
def R(k:String):=node .none (.str `Lean.Parser.Tactic.rcasesPat k)
def a:=atom .none ""
def g(k x):=(x:Syntax).setKind (.str `Lean.Parser.Tactic k)
def h(s:String):List String->String|x::y::r=>if x==s then y else h s r|_=>s
def t(s):=h s ("f length k heap o map p int q size u trans v mpr x ref y objs z loc B lookup D lst E toArray G get? H filter I getD J Nodup L tup M env O type Q inl R symm U bind V extBut X inr Y prog Z mp zd reverse ze take zh toList zi toNat zk Attribute zl push zn builtin zo contains zv cons zw mono qf names qh isSome qk isEmpty qo none qq Compare qv units xc isList xh toks xi fields xk Name xl set xo fresh xp params xt handled xv scope xw lexLt xy Subscript xz Call ja typeIs jp BoolOp jv str ka base kb resolve_left ke length_le kf non kg local ki refl kk nil kl tuple kn kindOf ko IsTuple kr free kt bool ku endLine kv function kw drop ky mono0 kz cell va Tuple vb plain_extend_loop vc eraseIdx ve Constant vi update vj slot_tuple_iterator_next vk locals vl elim vn calm vr hok vu list vv filterMap vw ListComp vx kept".splitOn " ")
def T(s):=h s ("ab List ac if_neg ad if_pos ae Int af Option ag decide ah this ai false am Nat ap scope ar Addr av Bool aw μ' ax Value ay kvs ba decide_eq_false bb some bg beq_iff_eq bi of_decide_eq_true bm cons bo Expr bp none br congrArg bt true bv data b5 its ca pos cb absurd cc decide_eq_true ce heap cf Str ci PySem ck args cm if_false cp beq_self_eq_true cq String cv beq_eq_false_iff_ne cw cls cx decide_eq_true_iff cy if_true de kernel df RcNeAt dk items dr fin dv prog dL toks ea iter ee outer ef False eg DictEntry eh Array ej pure eo upd eu eval ez Builtin eA env e4 decide_eq_true_eq fb cpos ff Stmt fg name fh EqAt fi s₀ fk nil fo RcAt fq H₀ ft slots fv keep fw trivial fx decide_eq_decide fy base fz acc f6 tup f7 toString f8 apos ge more gg or_false gi body gt μ0 gu π' gv int gx kindOf gy str gS names gV congrFun g7 non hG lst hH Obj hR knd hZ ifs ia call ic μ1 ii elt ij zero im succ io key ip holding iq glob ix dict i0 lexLt i5 cells i6 μ2 j1 envOfC j2 tryCatch j3 flat kB old kC split kD at_ kS DecidableEq k0 ops k4 done ld Unit lh self li kat_cons lj its' lm item lp loc lv atI lx free ly a6P md start mf first mh decide_eq_false_iff_not mn SeqAt mw thrown mx min m4 funext ng True np pre nr true_and nv qualname nw next ny loose nS g_TURNED n0 cont n5 PUnit n7 row oa σ' oe rol og of_decide_eq_false oi not_or oj dvs ol decide_not om μ4 on value oq kat_yes ow globals ox forIn oy dif_pos oD bne_self_eq_false o0 UnaryOp pa ItemsOf".splitOn " ")
def u:Name->Name|.str .anonymous s=>.str .anonymous (T s)|.str p s=>.str (u p) (t s)|x=>x
def v:Syntax->Syntax|ident i r (.str p s) z=>ident i r (.str p (t s)) z|x=>x
def e(x:Syntax)(p:Name):=(x.getKind==p:Bool)
def I(x:Syntax):=e x[2][0][0] `Lean.Parser.Term.anonymousCtor
def i(x):=N "intro" #[a,l #[x]]
def z:Syntax:=mkIdent `zQ
def Y(p e:Syntax):=N "obtain" #[a,l #[r p],o,l #[a,l #[e]]]
def y(x:Syntax):List Syntax:=if x.getId==`rfl then [i z,Y (R "one" #[x]) z] else [i x]
def Q(x:List Syntax):=N "tacticSeq" #[N "tacticSeq1Indented" #[l (x.flatMap λy=>[y,a]).toArray]]
def D(s:Syntax):Syntax:=
 let d:=s[2][0]
 let p:=d[0][1].getSepArgs.toList
 let j c (k m:Nat):=N "refine" #[a,n "app" #[mkIdent (.str `_s (c++toString (k+m))),l #[d[4],n "syntheticHole" #[a,n "hole" #[a]]]]]::(if d[4].isIdent then [N "tacticTry_" #[a,Q [N "clear" #[a,l #[d[4]]]]]] else [])++(p.take k).flatMap y++match p.drop k with
  |[x]=>y x
  |t=>[i z,s.setArg 2 (s[2].setArg 0 ((d.setArg 0 (d[0].setArg 1 (l (t.flatMap λy=>[y,a]).dropLast.toArray))).setArg 4 z))]
 let k:=((List.range (p.length-1)).map (·+1)).reverse
 N "first" #[a,l ((k.map (j "e" · 0)++k.map (j "a" · 1)++[[Y (R "tuple" #[a,l (d[0][1].getArgs.map λy=>O (if y.isAtom then y else if y.isIdent then R "one" #[y] else R "ignore" #[a])),a]) d[4]]]).map λx=>node .none `group #[a,Q x]).toArray]
variable{α β γ δ:Sort _}{G A B C D E F:Prop}
theorem e1{P:α->Prop}(h:∃x,P x)(k:∀x,P x->G):G:=h.elim k
theorem e2{P:α->β->Prop}(h:∃x y,P x y)(k:∀x y,P x y->G):G:=e1 h λx p=>e1 p (k x)
theorem e3{P:α->β->γ->Prop}(h:∃x y z,P x y z)(k:∀x y z,P x y z->G):G:=e1 h λx p=>e2 p (k x)
theorem e4{P:α->β->γ->δ->Prop}(h:∃x y z u,P x y z u)(k:∀x y z u,P x y z u->G):G:=e1 h λx p=>e3 p (k x)
theorem a2(h:A∧B)(k:A->B->G):G:=k h.1 h.2
theorem a3(h:A∧B∧C)(k:A->B->C->G):G:=a2 h λx y=>a2 y (k x)
theorem a4(h:A∧B∧C∧D)(k:A->B->C->D->G):G:=a2 h λx y=>a3 y (k x)
theorem a5(h:A∧B∧C∧D∧E)(k:A->B->C->D->E->G):G:=a2 h λx y=>a4 y (k x)
theorem a6(h:A∧B∧C∧D∧E∧F)(k:A->B->C->D->E->F->G):G:=a2 h λx y=>a5 y (k x)
def W(x:Syntax):Syntax:=
 let x:=x.setInfo .none
 match x with
 |ident i r s z=>ident i r (u s) z
 |node _ (.str p k) w=>(match k with
 |"proj"=>x.setArg 2 (v x[2])
 |"dotIdent"=>x.setArg 1 (v x[1])
 |"anonymousCtor"=>let y:=x[1].getArgs
  if y.size<2 then x else n "tuple" #[n "hygienicLParen" #[a,node .none hygieneInfoKind #[ident .none "".toRawSubstring .anonymous []]],l #[y[0]!,a,l (y.drop 2)],a]
 |"tuple"=>if p != `Lean.Parser.Term then if x[1].getArgs.size==1&&x[1][0][0][0].getArgs.size>1 then R "paren" #[a,x[1][0],a] else x else if x[1].isNone then b (N "lia" #[a,c]) else n "anonymousCtor" #[a,l (#[x[1][0],a]++x[1][2].getArgs),a]
 |"syntheticHole"=>if x[1].getId==`r then mkIdent `rfl else x
 |"dsimp"=>if x[3].isNone then (if x[4].isNone then x else g "simp" x).setArg 3 (l #[a]) else x
 |"tacticLet__"=>if I x then x else g "tacticHave__" x
 |"paren"=>let y:=x[1][0][0].getArgs
  if p != `Lean.Parser.Tactic.rcasesPat||y.size<2||!x[1][1].isNone then x else R "tuple" #[a,l (y.map O),a]
 |"arrow"=>if (x.find? (e · `Lean.«term∀__,_»)).isSome then x else n "depArrow" #[n "explicitBinder" #[a,l #[mkIdent `zQ0],l #[a,x[0]],o,a],a,x[2]]
 |"tacticLk"=>N "split" #[a,o,o]
 |"apply"=>N "simpa" #[a,o,o,N "simpaArgsRest" #[c,o,o,o,l #[a,x[1]]]]
 |"show"=>if p != `Lean.Parser.Tactic then x else g "refine" x
 |"ext"=>
  let v:=x[1].getArgs.map λy=>y[0][0]
  let u:=N "unfold" #[a,l v,o]
  if v.size>1 then u else N "first" #[a,l #[node .none `group #[a,q u],node .none `group #[a,q (N "cases" #[a,l #[N "elimTarget" #[o,x[1][0][0][0]]],o,o])]]]
 |"term∅"=>b (N "simp" #[a,c,o,o,o,o])
 |"omission"=>b (N "decide" #[a,c])
 |"str"=>if x[0].getAtomVal=="\"\"" then b (node .none `tacticKernel_rfl #[a]) else x
 |_=>x)
 |_=>x
def V(s:Syntax):Syntax:=
 let d:=s[1]
 let e:=d[2]
 if s[0].getArgs.all (·.isNone)&&d.getKind==`Lean.Parser.Command.definition then match d[1][0] with
 |ident i r (.str p w) z=>if w.endsWith "!" then (s.setArg 0 (s[0].setArg 4 (l #[M "noncomputable" #[a]]))).setArg 1 (d.setArg 1 (d[1].setArg 0 (ident i r (.str p (w.dropEnd 1).toString) z))) else s.setArg 1 (M "theorem" #[a,d[1],M "declSig" #[e[0],e[1][0]],d[3]])
 |_=>s
 else s
def X(s:Syntax):MacroM Syntax:=match s.getHeadInfo with
 |.original ..=>let s:=rewriteBottomUp W s
  return if e s `Lean.Parser.Command.mutual then s.setArg 1 (l (s[1].getArgs.map V)) else V s
 |_=>Macro.throwUnsupported
end _s
local macro_rules(kind:=Lean.Parser.Command.mutual)|s=>_s.X s
local macro_rules(kind:=Lean.Parser.Command.declaration)|s=>_s.X s
local macro_rules(kind:=Lean.Parser.Tactic.tacticLet__)|s=>if _s.I s then pure (_s.D s) else Lean.Macro.throwUnsupported
local macro_rules|`(command|open _root_ in $c)=>`(command|set_option tactic.hygienic true in $c)
open Option renaming some->a7,none->b0
open Bool renaming false->b3,true->b4
open And renaming symm->uf
open Array renaming mk->Ď,getElem?_toList->UV,length_toList->fu,getElem?_eq_some_iff->Qo,getElem?_eq_getElem->Ql,getElem?_eq_none->Qs,isEmpty_iff->TB,toList->SG,getD->RI,map->RS
open Bool renaming and_eq_true->â,false_ne_true->þ,false_eq_true->Ī,eq_iff_iff->Ψ,not_true->ϭ,not_false->dh,or_eq_true->qw,and_eq_true_iff->NH,not_eq_true'->OS,false_or->N1,or_false->OG,true_and->Pr,false_and->Rh,and_false->Rg,and_true->SJ,or_comm->Rw,not_not->Rv
open Classical renaming choose->wy,choose_spec->OU,byContradiction->b2x
open False renaming elim->Γ
open ForInStep renaming yield->gh
open Int renaming toNat_natCast->kj,mul_eq_zero->je,emod_emod->ph,emod_lt_of_pos->OJ,add_zero->zz,emod_nonneg->OD,sub_add_cancel->Qe,emod_emod_of_dvd->TK,mul_emod_right->SK,emod_add_emod->Sk,emod_two_eq->Ri,mul_nonneg->RW,mul_le_mul->RV,zero_add->RL,add_comm->RK,mul_add->RT
open List renaming length_map->Ä,getElem?_eq_some_iff->ã,getElem?_eq_getElem->Ċ,length_append->ô,mem_map->Ü,getElem?_set_ne->ć,map_map->æ,getElem?_map->ĉ,map_cons->í,map_append->Ć,mem_singleton->ġ,prefix_refl->Ę,size_toArray->Ģ,mem_cons_of_mem->ķ,mem_cons->ē,length_cons->ĩ,mem_filter->Ĥ,mem_of_getElem?->œ,append_nil->Ĭ,range->Ĉ,getElem?_append_left->ż,getElem?_set_self->Ŭ,mem_cons_self->ŗ,getElem?_eq_none_iff->Κ,mem_append->Ĺ,length_set->ĸ,all_cons->İ,length->ģ,length_filter_le->ſ,set_cons_zero->Ũ,set_cons_succ->ŭ,mem_range->ŏ,length_take->ţ,getD_eq_getElem?_getD->ϴ,zipWith_cons_cons->ϑ,nodup_cons->ŧ,map_congr_left->Φ,append_assoc->Θ,take_length->ź,cons_append->Ź,contains_iff_mem->ϡ,getD->į,filter_cons_of_neg->J5,nil_append->Ζ,find?_cons->Ε,getElem?_append_right->gk,filter_append->ϣ,filter_cons_of_pos->bu,all_eq_true->ϐ,mem_append_right->bj,length_reverse->R4,not_mem_nil->Ϣ,filterMap_cons->bh,filter_sublist->fj,lookup->Τ,getElem?_eq_none->ju,replicate->Ϯ,find?_eq_none->fc,reverse_reverse->jt,nodup_append->fB,length_eq_zero_iff->xg,reverse_append->qy,mem_flatMap->ji,take_append_drop->wk,length_singleton->wj,length_replicate->wg,pairwise_iff_getElem->NG,filter_nil->jg,filter_map->jf,length_range->ql,flatMap_append->vy,getElem?_replicate->NF,any_eq_true->qj,take_of_length_le->NK,reverse->dw,map_nil->du,filter_eq_nil_iff->NJ,mem_iff_getElem?->NI,take_succ->qm,lookup_cons->vf,length_drop->vd,getElem_mem->uz,drop_eq_getElem_cons->OY,filter_eq_self->N5,length_nil->uy,reverse_cons->N3,any_map->pF,set_append_right->Oe,any_cons->vm,set_append_left->Od,forall_mem_cons->Oc,foldl_cons->N7,map_eq_nil_iff->Oa,zipWith->um,take_zero->zy,prefix_append->OL,range'->uw,idxOf_append->OT,range'_succ->OR,pairwise_singleton->Qu,map_reverse->OQ,range_succ_eq_map->Qr,range_succ->OO,getElem?_reverse->Qq,eq_replicate_iff->Qp,mem_of_mem_take->QN,pairwise_pair->Qj,pairwise_cons->Qh,mem_filterMap->Qg,set_set->OE,pairwise_map->Qb,foldl_append->Qa,flatMap_cons->QZ,filter_congr->QY,ext_getElem?->QX,any_eq_false->QV,eraseIdx_eq_take_drop_succ->U2,getElem_inj->Px,filter_cons->Pw,ext_getElem->Pu,of_mem_zip->Q8,length_zip->Q7,forIn_cons->Q6,idxOf_lt_length_of_mem->Tn,perm_ext_iff_of_nodup->Te,map->zc,drop_zero->Pe,mem_of_find?_eq_some->TX,exists_mem_of_ne_nil->TV,map_take->Pt,idxOf_lt_length_iff->Tu,getElem?_take_of_lt->Tt,getElem?_cons_succ->Ts,all_eq_not_any_not->Tr,map_id'->Pm,filterMap_reverse->Tp,append_eq_nil_iff->To,all_map->Pl,singleton_append->T7,getElem?_zipWith->T6,mem_append_left->Sx,length_take_le'->Sw,getElem?_of_mem->TU,reverse_eq_iff->TN,length_pos_iff->TM,getElem_of_mem->TL,zip_cons_cons->TF,filterMap_nil->TC,map_inj_left->SN,find?_append->SM,reverse_nil->So,mem_reverse->Sn,flatMap_nil->Sm,range_zero->Sb,take_left->Rm,nodup_nil->Rl,forIn_nil->Rk,map_id->RM
open List.Nodup renaming length_le_of_subset->NM
open List.Pairwise renaming map->vq,nil->Td,imp_of_mem->b7e,imp->b7f
open List.cons renaming injEq->N9
open Nat renaming le_refl->Ô,ne_of_lt->ý,lt_of_lt_of_le->Ŏ,le_trans->ĥ,ne_of_gt->š,zero_le->Ŝ,lt_succ_self->ς,lt_irrefl->Ϝ,mod_lt->Ϗ,le_of_lt->dq,le_succ->dj,lt_succ_of_lt->NB,le_of_eq->qi,mod_eq_of_lt->N8,not_lt->oh,mod_mod->uv,sub_self->Bw,lt_trichotomy->Q0,lt_trans->O7,lt_of_succ_lt->Py,le_add_right->Q9,not_lt_zero->Pg,min_eq_left->Pf,mul_le_mul->Pb,succ_pos->PN,succ_mul->PM,sub_zero->PL,min_self->PH,le_of_not_lt->Se,mod_add_mod->Rn,lt_or_ge->RN,log2_lt->RU
open Ne renaming symm->ì
open Option renaming bind_some->ě,bind_eq_some_iff->ń,map_eq_some_iff->Ľ,map_some->ĝ,getD_none->NA,isSome_map->OK,getD_some->Qd,isSome_iff_exists->Tf
open Option.some renaming inj->Ĕ
open Or renaming inr->tu,inl->yt
open PUnit renaming unit->ur
open Prod renaming ext->ė,ext_iff->Rz
open Prod.mk renaming inj->ϱ,injEq->Ph
open PyProof.Rows renaming callWith_type1->gj,seqObj->Ě,IntsAre->Ŷ,entry_list_sort->ux,slot_list_sort->vp,args_list_sort->vo,callWith_builtin1->UJ,AllBare->iy,subscriptTail->O4,listUpdate_at->O3,sortedHeap->zj,lt_int->U6,gt_int->U5,envOfC->U4,seqEpoch_at->Ny,Subscript_->NY,IsTup->WP,subscriptTail_builtinR->SR,plain_sorted->PC,entry_sorted->P9,args_sorted1->P8,kind_sorted->PD,Call_->my,boot_range->Oy,list_sort_plain->RH,get?_update_seq->RF,wpAny_notIn_heap->b7s,pow_int_small->b7t,pow_int->b7u,oneLt_int->b7v,mul_int->b7w,mirror_perm->b7x,floordiv_int->b7y,entry_proto_collect'->b7z,entry_list_iadd'->b7A,call_len_slot->b7B,callWith_kw->b7C,bubble_perm->b7D,bubble->b7E,assign_Tuple_tuple->b7F,assign_Tuple->b7G,tail_any->Ox,sortedHeap_old->RQ
open PyProof.Rows.Boot renaming sorted->Qx,tuple->Qw,list->Qv,dict->R6,min->UI,sum->b5m,str->b5n,reversed->b5o,max->b5p,len->b5q,isinstance->b5r,int->b5s,bool->b5t,all->b5u,zip->Ry
open PySem renaming wpAny_bind->Á,wpAny_pure->É,Shared->Ø,sizeLine->Ò,wpAny->Ç,sizeLine_eq->õ,model->Ê,Program->Ŧ,starEach->ð,Around->ų,World->ņ,wpAny_holding->Ņ,wpAny_setField_rec->Ι,Heap->ê,wpAny_newObj_type->Η,wpAny_call_entry->Ÿ,wpAny_dictEntries->Υ,sysModules->Ļ,mainGlobals->Ş,compareOp->Ķ,wpAny_mono->Ŗ,wpAny_field->ť,mem_of_lookup->R8,cLine->ă,Pos->Ń,Params->ϯ,wpAny_truthy_bool->J3,wpAny_callSpecial?_slot->kh,wpAny_seqItems->ϝ,wpAny_pyIter_tuple->b7,wpAny_Call_Name_kw->az,bootBuiltins->ξ,codeAny_builtin->J2,plainId_quiet->ϲ,wpAny_notOrdered_dict->rE,FuncData->km,wpAny_isInstance->gf,treeTable->Δ,backTo->ĵ,sliceBounds->Ϡ,wpAny_updateSeq->gA,wpAny_dictEpoch->g8,rawInt->Ł,assignEach->ώ,pyNext->Ō,wpAny_rule->Ϛ,Scope->θ,wpAny_letGo->J1,NameKind->J0,intKind->ŷ,firstArgMember->jn,binaryOp->ι,keywordEach->au,wpAny_specialOf->qu,wpAny_passesOwn->qt,wpAny_ite_split->qp,tupleKind->Ϭ,behindInMarks->jm,attributeBase->jj,wpAny_pyIter_list->ww,foldedSetIterable->wu,codeAny->Ρ,wpAny_tryCatch->qd,wpAny_setField->q9,CmpOp->pq,compEnvC->Gg,call_meetsIn->qg,Keyword->ϻ,swapsWith->dI,wpAny_newList->vg,wpAny_attempt->uo,storedH->Ϫ,OsState->UR,wpAny_of_eq->pD,storedH_new->pC,backToKw->ak,IsRangeIter->ou,Paired->ύ,wpAny_typeOf->ul,seqItems?->jd,wpAny_newTuple->N0,isSubtype_stop->CR,richCompare->uq,IsZip->Ο,wpAny_pyIter_zip->OC,wpAny_Call_method0_late->QU,updateSeq->nj,setField->iz,wpAny_isOneOf_itemiter->QM,codeAny_mono->zq,evalArgs_none->QL,Env->ό,wpAny_execs_nil->OB,size_of_entries->OA,letOwnedTupleGo->O9,wpAny_isOneOf_valiter->QH,builtinLookup_eq_fast->QF,wpAny_pyIter_revIter->Qf,pyIter->aj,atKey->ϗ,Result->UN,IsEnum->aa,valueAt->jb,wpAny_standAt->O6,wpAny_handled->O5,dictSetHashed->O2,IsItemIterOut->O1,typeLookup->zm,entryOfKey->zg,call_meets->zf,assign->cj,wpAny_pyIter_slot->Q5,slot_list_getitem->Q4,newTuple->ug,callerA->ni,wpAny_forIn_list->Pd,seqIndex?->zb,newExc->iw,getMethod->za,PassesOwn->yw,wpAny_throw->O0,subscripted->Nz,field->Y0,typeNameOfWhole->Pp,typeLookup_type->Po,Within->Pn,standAt->ue,getItem->ud,BindsTo->uc,wpAny_load->Nr,wpAny_fieldsOf->PX,sliceRange->NZ,dictSetDefault->PV,callType_codes->PU,bindArgs->yu,Operator->b4k,wpAny_letOwnedTupleGo_zip->T3,wpAny_onRaise->Pa,wpAny_getItem_list_slice->TR,swappedStores->PZ,Tok->cg,Sem->ϩ,wpAny_pyNext_tuple_item->TJ,slicePick->Nu,bindL->iu,bindC->ir,wpAny_updateDictKeysTo->T9,wpAny_pyNext_tuple_end->T8,wpAny_pyNext_range_end->SW,wpAny_pyNext_list_item->SV,wpAny_pyIter_rangeiter->SU,wpAny_Call_method_late->SS,isTrue->su,MeetsIn->yq,wpAny_pyNext_list_end->Sv,wpAny_isOneOf_keyiter->Su,wpAny_updateDictKeys->Sj,wpAny_pyIter_keyiter->Si,storedH_old->PF,raiseNew->NX,lookup_relabel_local->Sh,IntMulOk->NW,HeapKind->NV,GenState->b5U,wpAny_dictFind_heap->Sa,not_mem_keys_of_get->SY,isSubtype_dict_dict->SX,wpAny_tupleItemsOf->Rf,wpAny_pyIter_range->Rb,wpAny_Name->P2,getattributeRaised->Ra,closureFor->P1,checkCount->P0,call_reversed_list->RZ,call_function_tree->RY,builtinsNs->Oz,wpAny_pyIter_enum->SF,wpAny_assign_Name->SE,relabel->NU,call_sum_walkAnyS->SA,atKey_none_of_get->S9,wpAny_execs_cons->Ru,noFill_tuple_add->Rt,lastMarks->P6,kt_code_dict_new->Rq,cellsFrom->P4,call->Ro,IsEnumOut->Ot,importedModules->RG,wpAny_Compare1->RR,typeOf->NS,recursionLimit->RP,methodCallForm->RO,callWith->Oq,argsOk->NR,SetTable->b8c
open PySem.Around renaming under_plainId->Rr,under->Pq
open PySem.AutoSeq1 renaming wpAny_loadPart'->OZ
open PySem.Builtin renaming sorted->Qk
open PySem.Builtin.Builtins renaming bindParams->Of
open PySem.Builtin.Dict renaming showsAll->jy,updateFrom->xj,selfAndRest->Qz,mergeDict->Qn,noArgs->Qt,entriesForEmpty->UH,readDirectly->UM,addKeywords->UL,pairItems->Tz,quietEq->UB,merge->Tc,pendingCount->b7M,keyAndDefault->b7N,dictSlotNone->b7O
open PySem.Builtin.Dict_items renaming ownsTuple->NL,ownedTupleIsFree->UQ,ownedTupleFields->UP,pairFromOwner->UT,newIterator->US,dictOf->UK
open PySem.Builtin.Int renaming intBits->Ž,intTooBig->OV
open PySem.Builtin.List renaming listExtendWith->xf,listSameRef->Og,listTooLong->R0,listLengthHint->UO,listItems->U0,listUpdate->b7L
open PySem.Builtin.Range renaming rangeSize->ϳ,small->b7m
open PySem.Builtin.SmallTypes renaming nextOf->bf,ownedTupleHandOut->Oi,ownedTupleIsFree->Oh
open PySem.Builtin.Str renaming occurrences->lg
open PySem.Builtin.Tuple renaming tupleHashOf->b7k,tupleCompareSizes->b7l
open PySem.Calls renaming callWith_builtin->ND,spliced_cons->ON,call_function_entry->Qm,spliced_nil->OI,Name_function_global->Tj,evalArgs_plain->T5
open PySem.Challenge renaming rw_creasecourt_k87_whole_carried_marks_are->ĺ,pw_creasecourt_k87_whole_carried_marks_are->NN
open PySem.Code renaming isFrame->Pj,frames->RJ
open PySem.Data renaming fields->ğ,dict->ϙ,cell->uh,seq->Nw,cls->Nv
open PySem.F renaming slot_dict_items->OX,plainAttrs_dict->OW,slot_dict_setdefault->U3,slot_dict_getitem->UE,args_dict_items_1->UD,slot_dict_values->UA,slot_dict_update->U9,entry_dict_items->U8,args_tuple_add_2->U7,type_dict_items->Th,entry_tuple_add->Tg,slot_tuple_add->TZ,plain_min_loop->TY,slot_dict_get->Tv
open PySem.Heap renaming get?_push_of_some->ä,get?_push_size->ÿ,lt_size->Ý,get?_update_self->τ,get?_update_other->J4,SameBut->ū,size_push->Χ,ExtBut->ϰ,IsTuple->Pk
open PySem.Heap.DictOfH renaming new->b7K
open PySem.Heap.IsList renaming extBut->b8d
open PySem.Heap.IsListIter renaming extBut->b6y,«at»->b6z
open PySem.Heap.IsSliceOf renaming new->UC
open PySem.Heap.IsTuple renaming push->zr,extBut->b7J
open PySem.Heap.IsTupleIter renaming extBut->b6h,«at»->b6i
open PySem.Heap.SameBut renaming update->ž,refl->Ob
open PySem.IsRange renaming new->Rj
open PySem.NameKind renaming free->bc,cell->dg
open PySem.Obj renaming mapSeq->a6P,data_mapDictKeys->qz,data_mapFields->wz,isFreed_of_dict->N4,isFreed_of_fields->QP,mapFields->OF,cls_mapFields->Q1,data_mapDict->Sf
open PySem.Obj.ExactDict renaming mapDictKeys->b7b
open PySem.Paired renaming length->Sg,snoc->RX
open PySem.PassesOwn renaming never->Sy
open PySem.SeqAt renaming ne_of_list_tuple->qx,EqAt->ut
open PySem.SeqAt.EqAt renaming int_int->Tx
open PySem.Shared renaming heap->O8
open PySem.Str renaming ofString->ŝ
open PySem.Value renaming ref->Ñ,type->é,int->ĕ,none->ļ,builtin->Ż,bool->Ţ,str->jc,isStrOf->Pc,isInt->PQ,float->S6,bytes->S4
open PySem.W renaming Frag->Ï,behindTheImports->ĭ,boot_drawn->ō,keepIn->ϟ,findIn->Ϟ,fnOf->ο,emptyDict->fC,kia_one->gF,instObj->jh,nsIn->aq,topFrame->ϫ,plainGet->N2,boot_heap->ao,codeIn->N6,hasDictIn->OM,mg_of->zx,lookIn->OP,plainGet_of->QR,callWith_K->QK,plainOver->QD,methodObj->QC,isFn->OH,piecesOf->nu,takerIn->Q3,makesIn->Q2,segRun->cu,boot_toks->yx,cellsFrom_some->Ta,methodCall_KW->Tw,callWith_K0->Tq,kitx_list->T1,kitx_dict->Sz,handedIn->TQ,kas_tail3->Nt,OpenLaw->TH,kas_rev->yr,kas_descPart->PB,kitOne->SQ,WalkO->Ss,KatTups->NT,piece_app->P7,kas_place->P5,kat_kind->Ow,kas_sort->Ov,kas_desc->Ou,kHook->yp
open PySem.W.KasT renaming ret->Nx
open PySem.W.Looks renaming here->b7a
open PySem.W.OpenLaw renaming row->ł
open PySem.W.OpenRow renaming toRowW->SO
open PySem.W.RowW renaming records->S3
open PySem.W.WData renaming int->vh,weightAll->Qy,layable->U1,weight->UG,layableAll->b6Z
open PySem.W.WShape renaming has->S7
open PySem.Walks renaming tuple->PR,list->PY,range->S8
open PySem.Within renaming cons->b7r
open Std.Legacy.Range renaming size->b5Z,forIn_eq_forIn_range'->b6a
open Sum renaming inr->Ϙ,inl->nA
open True renaming intro->ϛ
set_option bootstrap.genMatcherCode false
set_option genSizeOf false
set_option genSizeOfSpec false
set_option Elab.async false
set_option tactic.hygienic false
set_option linter.all false
set_option maxRecDepth 100000
set_option linter.all false
@[reducible]def gw:=ab ci.Value
@[reducible]def jw:=ab<|ci.Addr×ci.Obj
@[reducible]def jq:=ab<|ae×ae
namespace _2
open PySem PySem.Spec PyProof.Rows
noncomputable abbrev b9:=Sum ae cf
def n9!:b9->ax->av
 |.Q k,v=>PQ k v|.X x,v=>Pc x v
def EV!(w:ņ):b9->ae
 |.Q k=>hashInt k|.X x=>hashStr w x
def oA:∀{k}{v},n9 k v=b4->(∃i t,k=nA i/\v=ĕ i t)\/(∃x t,k=Ϙ x/\v=jc x t)
 |.Q i,v,h=>by let(t,e):=ax.isInt_shape (k:=i) (v:=v) h;show .Q (i,t,?r,e)
 |.X x,v,h=>by let(t,e):=ax.isStrOf_shape (x:=x) (v:=v) h;show .X (x,t,?r,e)
def b4b i t:n9 (.Q i) (.p i t)=bt:=by simp[n9,PQ]
def b4R x t:n9 (.X x) (.jv x t)=bt:=by simp[n9,Pc]
def b4Q a b:ag ((nA a:b9)=nA b)=(a==b):=by
 by_cases e:a=b
 .subst e;simp
 .let h:¬ (nA a:b9)=nA b:=λq=>e<|Sum.Q.inj q;rw[ba h];show(cv.v e).R
def b4D a b:ag ((Ϙ a:b9)=Ϙ b)=ag (a=b):=by
 by_cases e:a=b
 .subst e;simp
 .let h:¬ (Ϙ a:b9)=Ϙ b:=λq=>e<|Sum.X.inj q;rw[ba h,ba e]
def b4C a b:ag ((nA a:b9)=Ϙ b)=ai:=ba λq=>nomatch q
def b4B a b:ag ((Ϙ a:b9)=nA b)=ai:=ba λq=>nomatch q
def jP! dv w:ci.KeyKind dv w b9 where
 is:=n9
 hash:=EV w
 inj:=λv a b g d=>by
  rcases oA g with(i|t|rfl|rfl)|(x|t|rfl|rfl)
  .rcases oA d with(j|u|rfl|e)|(y|u|rfl|e)
   .injection e with e1 _;rw[e1]
   .show nomatch e
  .rcases oA d with(j|u|rfl|e)|(y|u|rfl|e)
   .show nomatch e
   .injection e with e1 _;rw[e1]
 byValue:=λk v h=>by rcases oA h with(i|t|rfl|rfl)|(x|t|rfl|rfl)<;>rfl
 pyHash:=λc h=>by
  rcases oA c with(i|t|rfl|rfl)|(x|t|rfl|rfl)
  .show wpAny_pyHash_int h
  .show wpAny_pyHash_str h
 eqBool:=λn c h=>by
  rcases oA n with(i|t|rfl|rfl)|(x|t|rfl|rfl)
  .rcases oA c with(j|u|rfl|rfl)|(y|u|rfl|rfl)
   .rw[b4Q]at h;show wpAny_eqBool_int h
   .rw[b4C]at h;show mn.EqAt.int_str i t y u _ _ _ _ h
  .rcases oA c with(j|u|rfl|rfl)|(y|u|rfl|rfl)
   .rw[b4B]at h;show mn.EqAt.str_int x t j u _ _ _ _ h
   .rw[b4D]at h;show wpAny_eqBool_str h
 «strs»:=λk x t v h=>by
  rcases oA h with(i|u|rfl|e)|(y|u|rfl|e)
  .show nomatch e
  .injection e with e1 _;subst e1;ext v<;>rfl
def b3C dv w i t:(jP dv w).is (.Q i) (.p i t)=bt:=b4b i t
def b3B dv w x t:(jP dv w).is (.X x) (.jv x t)=bt:=b4R x t
inductive V where
 |g7|bl (b:av)|gv (i:ae)|gy (x:cf)|byt (b:eh UInt8)|flt (b:UInt64)|ref (a:ar)|ty (n:cq)
 deriving kS
@[reducible]def gz:=ab V
def Í!:V->ax->Prop
 |.kf,u=>u=ļ|.bl b,u=>u=Ţ b|.p i,u=>∃t,u=ĕ i t|.jv x,u=>∃t,u=jc x t|.byt b,u=>∃t,u=S4 b t|.flt b,u=>∃t,u=S6 b t|.x a,u=>u=Ñ a|.ty n,u=>u=é n
noncomputable abbrev Æ:gz->gw->Prop:=ύ Í
def Æ.length(r:Æ xs us):xs.f=us.f:=Sg r
def Æ.get:∀{xs}{us}{i:am}{x},Æ xs us->xs[i]?=a7 x->∃u,us[i]?=a7 u/\Í x u
 |_,_,_,_,.kk,e=>by simp at e
 |_,_,0,_,.zv r _,e=>by simp at e;subst e;show(_,?r,r)
 |_,_,i+1,x,.zv _ t,e=>by let(u,h1,a):=Æ.get (i:=i) (x:=x) t (by apply e);show(u,by apply h1,a)
def Æ.append:∀{xs a}{us ws},Æ xs us->Æ a ws->Æ (xs++a) (us++ws)
 |_,_,_,_,.kk,s=>s|_,_,_,_,.zv r t,s=>.zv r<|Æ.append t s
def Æ.take:∀{xs}{us}n,Æ xs us->Æ (xs.ze n) (us.ze n)
 |_,_,0,_=>.kk|_,_,_+1,.kk=>.kk|_,_,n+1,.zv r t=>.zv r<|Æ.ze n t
def Æ.drop:∀{xs}{us}n,Æ xs us->Æ (xs.kw n) (us.kw n)
 |_,_,0,r=>r|_,_,_+1,.kk=>.kk|_,_,n+1,.zv _ t=>Æ.kw n t
def Æ.none_of:∀{xs}{us}{i:am},Æ xs us->xs[i]?=b0->us[i]?=bp:=λ{xs us i} r e=>by let h1:=r.f;let a:xs.f<=i:=Κ.Z e;show Κ.v ()
def Į!:af V->af ax->Prop
 |bb v,a7 u=>Í v u|bp,b0=>ng|_,_=>ef
def KV!{κ:Type}:ab (κ×V)->ab (κ×ax)->Prop:=ύ λ(p:κ×V)(q:κ×ax)=>p.1=q.1/\Í p.2 q.2
def kV!:b9->V
 |.Q i=>.p i|.X x=>.jv x
inductive HO where
 |hG (xs:gz)
 |f6 (xs:gz)
 |dK (ay:ab (b9×V))|dT (ay:ab (ab b9×V))
 |set (S:ae->av)(n:am)
 |ins (C dx:ar)(fs:ab (cf×V))
 |own (x:ar)
 |xd (fs:ab (cf×V))
 |met (f x:ar)
 |rng (lo hi:ae)
 |frz (o:hH)(u:HO)
 |tbl (ps:eh ax)
 |ext (φ:ê->Prop)
noncomputable abbrev Hp:=ar->af HO
def upd!(H:Hp)(a:ar)(o:HO):Hp:=λb=>if b=a then a7 o else H b
def dH:eo H a o a=a7 o:=by ext eo;rw[ad ?r]
def bV(h:b≠a):eo H a o b=H b:=by ext eo;rw[ac h]
def k8{H:Hp}(h:H a=a7 o)(h':H b=b0):a≠b:=by intro e;subst e;rw[h]at h';ext h'
section
variable(P:Ŧ)(w:ņ)
def Λ!(h:ê)(a:ar)(xs:eh ax):Prop:=∃o,h.G a=a7 o/\o.cls=.O "tuple"/\∃n,o.data=.seq xs n/\o.dict=b0
def Λ.tup{h:ê}{a:ar}{xs:eh ax}(x:Λ h a xs):WP h a xs:=let(o,e,c,n,d,_):=x;(o,e,c,n,d)
def Λ.new(h:ê)dk:Λ (h.zl {cw:=.O "tuple",bv:=.seq dk}) h.y.q dk:=(_,ÿ _ ?r,?r,_,?r,?r)
def á!(H:Hp)(h:ê)(a:ar):HO->Prop
 |.D b=>b.f<=Ò/\∃(b5:gw)(n:am),Æ b b5/\h.G a=a7 {cw:=.O "list",bv:=.seq b5.E n}|.L b=>b.f<=Ò/\∃b5:gw,Æ b b5/\Λ h a b5.E|.dK ay=>ay.f<=Ò/\(a==Ļ)=b3/\∃g,KV ay g/\h.DictOf (jP P w) a g|.dT ay=>ay.f<=Ò/\(a==Ļ)=b3/\∃b:ab (ab b9×ar×ax),
   ύ (λ(p:ab b9×V)(q:ab b9×ar×ax)=>p.1=q.1/\H q.2.1=a7 (.L<|p.1.o kV)/\Í p.2 q.2.2) ay b /\
   ∃o d i,h.G a=a7 o/\o.ExactDict/\o.data=.dict d i/\d.zh=b.o (zg<|Ϭ<|jP P w)/\(b.o (·.1)).J
 |.xl S n=>h.SetOf (ŷ P w) a S n|.ins C dx fs=>H dx=a7 (.own a)/\fs.f<=1000/\dx≠a/\h.G a=a7 (jh C dx) /\
   ∃c,h.Ns1 dx c/\(∀f,Į (fs.B f) (c f))/\Pn c (fs.o (·.1))
 |.own _=>∃o,h.G a=a7 o|.xd fs=>∃c,h.Ns1 a c/\∀f,Į (fs.B f) (c f)|.rng lo hi=>∃t u v,h.G a=a7 {cw:=.O "range",bv:=.xi #[.p lo t,.p hi u,.p 1 v]}|.frz o u=>h.G a=a7 o/\á H h a u|.tbl ps=>h.G a=a7 {cw:=.qo,bv:=.xi ps}|.met f x=>h.G a=a7 (QC (.x f)<|.x x)|.ext φ=>φ h/\(∃o,h.G a=a7 o)/\∀h1 e:ê,φ h1->(∀o,h1.G a=a7 o->e.G a=a7 o)->φ e
def Ř!(H:Hp)(h:ê):Prop:=∀a o,H a=a7 o->á P w H h a o
end
def á.lt{P:Ŧ}{w:ņ}{H:Hp}{h:ê}{a:ar}{o:HO}(x:á P w H h a o):a<h.y.q:=by
 cases o with
 |hG c=>let(_,_,_,_,e):=x;show Ý e|f6 c=>let(_,_,_,p):=x;show p.L.lt|dK b=>let(_,_,_,_,o,_,_,e,_):=x;show Ý e|dT b=>let(_,_,_,_,o,_,_,e,_):=x;show Ý e|set S n=>let(o,_,_,_,e,_):=x;show Ý e|ins C d fs=>let(_,_,_,e,_):=x;show Ý e|own y=>let(_,e):=x;show Ý e|xd fs=>obtain(_|(_|_|_|e|_)|_):=x;show Ý e|rng g hi=>let(_,_,_,e):=x;show Ý e|frz ob u=>let(e,_):=x;show Ý e|tbl i=>show Ý (show h.G a=a7 _ from x)|met f y=>show Ý (show h.G a=a7 _ from x)|ext j=>obtain(_|(_|e)|_):=x;show Ý e
def ύ.mapP{F G:e->g->Prop}:∀{c}{d},ύ F c d->(∀a b,F a b->G a b)->ύ G c d
 |_,_,.kk,_=>.kk|_,_,.zv r t,f=>.zv (f _ _ r)<|ύ.mapP t f
def á.stay(x:á P w H h a o)(k:∀b u,(b=a\/H b=a7 (.own a))->h.G b=a7 u->h'.G b=a7 u)(I:∀b,H b=a7 (.own a)->H' b=a7 (.own a))(J:∀b j,H b=a7 (.L j)->H' b=a7 (.L j)):á P w H' h' a o:=by
 induction o with
 |hG j=>let(z,b5,n,r,e):=x;show(z,b5,n,r,k _ _ (.Q ?r) e)|f6 j=>let(z,b5,r,ob,e,c):=x;show(z,b5,r,ob,k _ _ (.Q ?r) e,c)|dK s=>let(z,y,L,r,ob,i,g,e,c):=x;show(z,y,L,r,ob,i,g,k _ _ (.Q ?r) e,c)|dT s=>let(z,y,j,r,ob,i,g,e,c):=x;show(z,y,j,ύ.mapP r λp q z=>(z.1,J _ _ z.2.1,z.2.2),ob,i,g,k _ _ (.Q ?r) e,c)|set S n=>let(ob,i,g,t,e,c):=x;show(ob,i,g,t,k _ _ (.Q ?r) e,c)|ins C M fs=>obtain(d|z|ne|e|A|(B|i|g|G|c)|r):=x;show(I _ d,z,ne,k _ _ (.Q ?r) e,A,(B,i,g,k _ _ (.X d) G,c),r)|own y=>let(ob,e):=x;show(ob,k _ _ (.Q ?r) e)|xd fs=>obtain(A|(B|i|g|e|c)|r):=x;show(A,(B,i,g,k _ _ (.Q ?r) e,c),r)|rng N hi=>let(t,u,v,e):=x;show(t,u,v,k _ _ (.Q ?r) e)|frz ob u K=>let(e,q):=x;show(k _ _ (.Q ?r) e,K q)|tbl E=>have e:h.G a=a7 {cw:=.qo,bv:=.xi E}:=x;change h'.G a=a7 {cw:=.qo,bv:=.xi E};show k a _ (.Q ?r) e|met f y=>have e:h.G a=a7 (QC (.x f)<|.x y):=x;change h'.G a=a7 (QC (.x f)<|.x y);show k a _ (.Q ?r) e|ext O=>obtain(p|(o|e)|st):=x;show(st _ _ p λo q=>k _ _ (.Q ?r) q,(o,k _ _ (.Q ?r) e),st)
def Ř.lt{P:Ŧ}{w:ņ}{H:Hp}{h:ê}{a:ar}{o:HO}(x:Ř P w H h)(e:H a=a7 o):a<h.y.q:=(x a o e).lt
def Ř.fresh{a:ar}(x:Ř P w H h)(e:h.y.q<=a):H a=bp:=by
 cases q:H a with
 |bp=>rfl|bb u=>show cb (Ŏ (x.lt q) e)<|Ϝ _
def Ř.kept(x:Ř P w H h)(k:∀b u,h.G b=a7 u->h'.G b=a7 u):Ř P w H h':=λa o e=>(x a o e).stay (λb u y q=>k b u q) (λ_ q=>q) λ_ y q=>q
def Ř.laid{a:ar}(x:Ř P w H h)(k:∀b u,h.G b=a7 u->h'.G b=a7 u)(i:h.y.q<=a)(new:á P w (eo H a o) h' a o):Ř P w (eo H a o) h':=λb u e=>by
 let g:=x.xo i;by_cases d:b=a
 .subst d;rw[dH]at e;ext e;show new
 .rw[bV d]at e;show(x b u e).stay (λc v y q=>k c v q) (λc q=>by rw[bV<|k8 q g];show q) λc j q=>by rw[bV<|k8 q g];show q
def Rd!(H:Hp)(a:ar)(u:HO):Prop:=H a=a7 u\/∃o,H a=a7 (.frz o u)
def Rd.of(h:H a=a7 u):Rd H a u:=.Q h
def Rd.ok(r:Rd H a u)(x:Ř P w H h):á P w H h a u:=by
 rcases r with r|(o|r)
 .show x a u r
 .let(_,q):=x a _ r;show q
def uS!:af HO->Prop
 |bb (.D _)=>ng|bb (.dK _)=>ng|bb (.dT _)=>ng|bb (.xl _ _)=>ng|bb (.ins _ _ _)=>ng|bb (.ext _)=>ng|_=>ef
def Ř.write(ok:Ř P w H h)(j:uS (H x))(p:e=x\/H e=a7 (.own x))(k:∀b u,b≠e->h.G b=a7 u->h'.G b=a7 u)(o:∃u,h'.G e=a7 u)(new:á P w (eo H x o') h' x o'):Ř P w (eo H x o') h':=λb u q=>by
 let d:∀c y,H c=a7 (.own y)->c≠x:=λc y r z=>by subst z;rw[r]at j;show j
 let g:∀c n,H c=a7 (.L n)->c≠x:=λc n r z=>by subst z;rw[r]at j;show j
 by_cases i:b=x
 .subst i;rw[dH]at q;ext q;show new
 .rw[bV i]at q;by_cases a:b=e
  .let s:H b=a7 (.own x):=by
    rcases p with z|z
    .show cb (a.u z) i
    .rw[a];show z
   rw[q]at s;ext s;let(v,A):=o;show(v,by rw[a];show A)
  .show(ok b u q).stay (λc v hc r=>k c v ?_ r) (λc r=>by rw[bV<|d c b r];show r) λc n r=>by rw[bV<|g c n r];show r
   rcases hc with rfl|hc
   .show a
   .rintro rfl;rcases p with z|z
    .show d c b hc z
    .rw[hc]at z;ext z;show i ?r
structure Un(fs ex:ab ar)(H H':Hp)(h h':ê):Prop where
 fv:∀b o,h.G b=a7 o->H b=b0->b∉fs->b∉ex->h'.G b=a7 o
 slot:∀b o,h.G b=a7 o->H b=b0->b∈fs->b∉ex->∃sl,h'.G b=a7 {o with ft:=sl}
 lx:∀b o,h.G b=a7 o->H b=b0->b∉ex->H' b=b0
 there:∀b o,h.G b=a7 o->b∉ex->∃o',h'.G b=a7 o'
 tups:∀b xs,H b=a7 (.L xs)->H' b=a7 (.L xs)
 frzs:∀b o u,H b=a7 (.frz o u)->H' b=a7 (.frz o u)
 tbls:∀b ps,H b=a7 (.tbl ps)->∃ge,H' b=a7 (.tbl<|ps++ge)
def Un.any(u:Un fs ex H H1 h h1)(q:h.G b=a7 ob)(n:H b=b0)(d:b∉ex):∃g,h1.G b=a7 {ob with ft:=g}:=by
 by_cases c:b∈fs
 .show u.slot b ob q n c d
 .show(ob.slots,u.keep b ob q n c d)
def Un.kept(k:∀b u,h.G b=a7 u->h'.G b=a7 u):Un fs ex H H h h':=
 (λb ob q x x x=>k b ob q,λb ob q x x x=>(ob.slots,k b ob q),λ_ x x n x=>n,λb ob q x=>(ob,k b ob q),λ_ x q=>q,λ_ x x q=>q,λ_ c q=>(#[],by rw[q];simp))
def Un.refl:Un fs ex H H h h:=Un.vx λ_ x q=>q
def Un.laid{h:ê}{a:ar}(k:∀b u,h.G b=a7 u->h'.G b=a7 u)(d:h.y.q<=a)(c:H a=b0):Un fs ex H (eo H a o) h h' where
 fv:=λb u q x x x=>k b u q
 slot:=λb u q x x x=>(u.slots,k b u q)
 lx:=λb u q n x=>by rw[bV<|ý<|Ŏ (Ý q) d];show n
 there:=λb u q x=>(u,k b u q)
 tups:=λb g q=>by rw[bV<|k8 q c];show q
 frzs:=λb u g q=>by rw[bV<|k8 q c];show q
 tbls:=λb i q=>(#[],by rw[bV<|k8 q c,q];simp)
def Un.write(d:uS (H x))(s:e=x\/H e=a7 (.own x))(k:∀b u,b≠e->h.G b=a7 u->h'.G b=a7 u)(g:∃u,h'.G e=a7 u):Un fs ex H (eo H x o) h h':=by
 let p:∀b,H b=b0->b≠x:=λb n z=>by subst z;rw[n]at d;show d
 let j:∀b,H b=b0->b≠e:=λb n z=>by
  subst z;rcases s with r|r
  .show p b n r
  .rw[n]at r;ext r
 let i:∀b u,H b=a7 u->¬ uS (a7 u)->b≠x:=λb u q v z=>by subst z;rw[q]at d;show v d
 show(λb u q n a a=>k b u (j b n) q,λb u q n a a=>(u.slots,k b u (j b n) q),λb u q n a=>by rw[bV<|p b n];show n,λb u q a=>?_,
  λb w q=>by rw[bV<|i b _ q λz=>z];show q,λb u w q=>by rw[bV<|i b _ q λz=>z];show q,λb y q=>(#[],by rw[bV<|i b _ q λz=>z,q];simp))
 by_cases c:b=e
 .subst c;show g
 .show(u,k b u c q)
def xR!(h:ê)(H:Hp):ab ar:=(Ĉ h.y.q).H λa=>(H a).qh
def oB!(h:ê)(H:Hp):ê:=ci.W.hideAll h<|xR h H
def a9E h H:(oB h H).objs.size=h.y.q:=ci.W.hideAll_size _ _
def a9B(e:h.G b=a7 o)(n:H b=b0):(oB h H).G b=a7 o:=
 ci.W.hideAll_get _ e λa=>by let q:(H b).qh=bt:=(Ĥ.Z a).2;rw[n]at q;simp at q
def a8z(e:(oB h H).G b=a7 o):h.G b=a7 o/\H b=bp:=by
 let a:h.G b=a7 o:=ci.W.of_hideAll (xR h H) e;show(a,?_);cases q:H b with
 |bp=>rfl|bb x=>have c:b∈xR h H:=Ĥ.v (ŏ.v<|Ý a,by simp[q]);let z:(oB h H).G b=bp:=ci.W.hideAll_none (xR h H) c;rw[z]at e;ext e
structure Mod(K:Ï)(mg:cf->af ax)(fy:ê):Prop where
 kin:K.In fy
 iq:fy.Ns Ş mg
 blt:∃mb,fy.Ns Oz mb/\∀x:cf,x ≠ "__name__"->mb x=ξ x
 nolimit:fy.NoLimit
structure Cx where
 dv:Ŧ
 w:ņ
 K:Ï
 mg:cf->af ax
 fy:ê
 A:ų
 N:ab cf
 fi:Ø
 fq:Hp
 eA:ό
 ee:ab ό
 stack:ab ό
 ex:ab ar
 fn:cf->av
 calm:av
 pn:jw
 xe:ax->Ø->Prop
def k9!(l:ab ό):ab ar:=l.vv (·.frame)
noncomputable abbrev Cx.fs(X:Cx):ab ar:=k9 X.outer
def sO!(sc:θ)(x:cf):Prop:=sc.qf.B x=a7 .kg\/sc.qf.B x=a7 .kz\/sc.qf.B x=a7 .kr
def Loc!(sc:θ)(x:cf):Prop:=sc.qf.B x=a7 .kg\/sc.qf.B x=a7 .kz
def a8v!(eA:ό)(h:ê)(m:cf->af ax)(x:cf)(u:ax):Prop:=
 (eA.kn x=a7 .kg/\m x=a7 u)\/((eA.kn x=a7 .kz\/eA.kn x=a7 .kr)/\∃c,eA.cells.B x=a7 c/\h.IsCell c (a7 u))
structure Cx.Ok(X:Cx):Prop where
 mod:Mod X.K X.mg X.ka
 kind:X.M.xv.kind=.kv
 iq:X.M.globals=Ş
 blt:X.M.builtins=Oz
 above:X.s₀.k.y.q<=X.M.vk
 inj:∀x y c,X.M.cells.B x=a7 c->X.M.cells.B y=a7 c->x=y
 has:∀x,(X.M.kn x=a7 .kz\/X.M.kn x=a7 .kr)->∃c,X.M.cells.B x=a7 c
 cab:∀x c,X.fn x=b4->X.M.cells.B x=a7 c->X.s₀.k.y.q<=c
 hd:X.vn=b4->X.A.xt=b0
 frames:X.A.frames=a7 X.stack
 stk:X.stack=X.outer\/(X.stack=X.M::X.outer/\X.M.frame=a7 X.M.vk)
 exf:∀b∈X.ex,b≠X.M.vk/\∀x c,X.M.cells.B x=a7 c->c≠b
 bs:∀b o,X.ka.G b=a7 o->X.s₀.k.G b=a7 o/\X.H₀ b=b0
 bsz:X.ka.y.q<=X.s₀.k.y.q
 noex:∀b o,X.ka.G b=a7 o->b∉X.ex
 exfs:∀b∈X.ex,b∉X.fs
 funs:X.s₀.k.FunFrames X.ka X.outer
 frf:∀b∈X.fs,X.H₀ b=b0
structure Â(X:Cx)(Do:jw)(σ:ab (af V))(H:Hp)(s:Ø):Prop where
 ok:X.Ok
 os:s.os=X.s₀.os
 bare:iy s.gens
 fy:Un X.fs X.ex X.H₀ H X.s₀.k s.k
 lp:∃m,s.k.Ns X.M.vk m/\∀(i:am)(x:cf)(v:V),X.N[i]?=a7 x->σ[i]?=a7 (a7 v)->sO X.M.xv x->∃u,Í v u/\a8v X.M s.k m x u
 cell:∀x c,X.M.cells.B x=a7 c->∃v,s.k.IsCell c v
 lx:H X.M.vk=b0
 freeC:∀x c,X.M.cells.B x=a7 c->H c=b0
 pin:∀p∈X.pn++Do,s.k.G p.1=a7 p.2/\H p.1=b0/\p.1≠X.M.vk/\p.1∉X.fs/\∀v,p.2.data≠.kz v
 hok:Ř X.Y X.w H s.k
 len:σ.f=X.N.f
def Cx.Ok.nofr{X:Cx}(ok:X.Ok)(e:X.ka.G b=a7 o):b∉X.fs:=λa=>by have:=(ok.funs.mem a).1;rw[e]at ah;ext ah
def Â.bs(I:Â X Do σ H s):∀b o,X.ka.G b=a7 o->s.k.G b=a7 o/\H b=bp:=λb o e=>(I.ka.keep b o (I.ok.bs b o e).1 (I.ok.bs b o e).2 (I.ok.nofr e)<|I.ok.noex b o e,I.ka.kr b o (I.ok.bs b o e).1 (I.ok.bs b o e).2<|I.ok.noex b o e)
def Â.bk(I:Â X Do σ H s):∀b o,X.ka.G b=a7 o->s.k.G b=a7 o:=λb o e=>(I.bs b o e).1
def Â.mod(I:Â X Do σ H s):Mod X.K X.mg X.ka:=I.ok.mod
def Â.kIn(I:Â X Do σ H s):X.K.In s.k:=I.ok.mod.kin.keeps I.bk
def Â.lt{X:Cx}{Do:jw}{σ:ab (af V)}{H:Hp}{s:Ø}(I:Â X Do σ H s):X.M.vk<s.k.y.q:=let(_,a,_):=I.z;a.lt
def Â.sz(I:Â X Do σ H s):X.s₀.k.y.q<=s.k.y.q:=ĥ I.ok.above<|dq I.lt
def Â.nofs(I:Â X Do σ H s){a:ar}(h:s.k.y.q<=a):a∉X.fs:=λb=>by let(_,o,c,_):=I.ok.funs.mem b;show cb (Ŏ (Ý c)<|ĥ I.sz h)<|Ϝ _
def Â.cne(I:Â X Do σ H s):∀x c,X.M.cells.B x=a7 c->c≠X.M.vk:=λx c e z=>by let(v,o,d,hd):=I.kz x c e;obtain(m|(i|h|g|b|a|_)|_):=I.z;rw[z,b]at d;ext d;rw[a]at hd;ext hd
def Â.funs(I:Â X Do σ H s):s.k.FunFrames X.ka X.outer:=by
 let all:∀(l:ab ό),(∀b∈k9 l,b∈X.fs)->X.s₀.k.FunFrames X.ka l->s.k.FunFrames X.ka l:=by
  intro l;induction l with
  |fk=>intro _ _;trivial|bm h r q=>intro g j;obtain(i|(L|o|d|k|n|hd)|p):=j;let a:L∈X.fs:=g L (by ext k9;rw[bh,d];show ŗ);let(u,e):=I.ka.slot L o n (I.ok.frf L a) a λz=>I.ok.exfs L z a;show(i,(L,_,d,k,e,hd),q (λb c=>g b<|by ext k9;rw[bh,d];show ķ _ c) p)
 show all X.outer (λ_ c=>c) I.ok.funs
def Â.stack(I:Â X Do σ H s):s.k.FunFrames X.ka X.stack:=by
 rcases I.ok.stk with e|(e|a)
 .rw[e];show I.funs
 .rw[e];let(m,b,_):=I.z;show .zv (by rw[I.ok.kind];decide) a b ?_ I.funs;show Heap.get?_none_of_le<|ĥ I.ok.bsz I.ok.above
def Â.stkSub(I:Â X Do σ H s):∀b∈k9 X.stack,b∈X.M.vk::X.fs:=λb a=>by
 rcases I.ok.stk with e|(e|c)
 .rw[e]at a;show ķ _ a
 .rw[e]at a;unfold k9 at a;rw[bh,c]at a;show a
def Â.stkFree(I:Â X Do σ H s):∀b∈k9 X.stack,H b=bp:=λb a=>by
 rcases ē.Z (I.stkSub b a)with e|a
 .rw[e];show I.kr
 .let(_,o,c,_):=I.ok.funs.mem a;show I.ka.kr b o c (I.ok.frf b a) λz=>I.ok.exfs b z a
def Â.step{ch:ab ar}(I:Â X Do σ H s)(h:∀b∈ch,(b∈X.ex\/X.s₀.k.y.q<=b)/\b≠X.M.vk/\(∀x c,X.M.cells.B x=a7 c->c≠b)/\∀p∈X.pn++Do,p.1≠b)(fv:∀b o,b≠X.M.vk->b∉X.fs->b∉ch->s.k.G b=a7 o->H b=b0->h'.G b=a7 o)(A:∀b o,b≠X.M.vk->b∈X.fs->b∉ch->s.k.G b=a7 o->H b=b0->∃U,h'.G b=a7 {o with ft:=U})(lx:∀b o,b∉ch->s.k.G b=a7 o->H b=b0->H' b=b0)(G:∀b o,b∉ch->s.k.G b=a7 o->∃N,h'.G b=a7 N)(Q:∀b B,H b=a7 (.L B)->H' b=a7 (.L B))(L:∀b o u,H b=a7 (.frz o u)->H' b=a7 (.frz o u))(O:∀b R,H b=a7 (.tbl R)->∃ge,H' b=a7 (.tbl<|R++ge))(ns:∀m,s.k.Ns X.M.vk m->h'.Ns X.M.vk m)(T:Ř X.Y X.w H' h')(hg:iy g'):
  Â X Do σ H' {s with ce:=h',gens:=g',drawn:=d',dL:=t'}:=by
 let M:∀b o,X.s₀.k.G b=a7 o->b≠X.M.vk:=λb o e=>ý<|Ŏ (Ý e) I.ok.above;let y:∀b o,X.s₀.k.G b=a7 o->b∉X.ex->b∉ch:=λb o e a E=>by
  rcases(h b E).1 with z|z
  .show a z
  .show cb (Ŏ (Ý e) z)<|Ϝ _
 let g:∀x c,X.M.cells.B x=a7 c->∀v,s.k.IsCell c v->h'.IsCell c v:=λx c e v (o,J,hd)=>by
  let j:c∉ch:=λz=>(h c z).2.2.1 x c e ?r;by_cases hc:c∈X.fs
  .let(U,q):=A c o (I.cne x c e) hc j J<|I.freeC x c e;show(_,q,hd)
  .show(o,fv c o (I.cne x c e) hc j J<|I.freeC x c e,hd)
 show(I.ok,I.os,hg,(λb o e n E a=>?_,λb o e n E a=>?_,λb o e n a=>?_,λb o e a=>?_,λb B e=>Q b B<|I.ka.tups b B e,λb o B e=>L b o B<|I.ka.frzs b o B e,λb R e=>?_),?_,λx c e=>?_,?_,λx c e=>?_,λp Z=>?_,T,I.len)
 .show fv b o (M b o e) E (y b o e a) (I.ka.keep b o e n E a)<|I.ka.kr b o e n a
 .let(U,w):=I.ka.slot b o e n E a;let(Y,K):=A b _ (M b o e) E (y b o e a) w<|I.ka.kr b o e n a;show(Y,K)
 .let(N,w):=I.ka.there b o e a;show lx b N (y b o e a) w<|I.ka.kr b o e n a
 .let(N,w):=I.ka.there b o e a;show G b N (y b o e a) w
 .let(m1,w):=I.ka.tbls b R e;let(m2,K):=O b _ w;show(m1++m2,by rw[K,eh.append_assoc])
 .let(m,hn,hl):=I.z;show(m,ns m hn,λi x v w K e3=>?_);let(u,r,l):=hl i x v w K e3;show(u,r,?_);rcases l with l|(k|c|e|z)
  .show .Q l
  .show .X (k,c,e,g x c e _ z)
 .let(v,z):=I.kz x c e;show(v,g x c e v z)
 .obtain(m|(o|_|_|J|_)|_):=I.z;show lx _ o (λz=>(h _ z).2.1 ?r) J I.kr
 .let(v,o,J,hd):=I.kz x c e;show lx c o (λz=>(h c z).2.2.1 x c e ?r) J<|I.freeC x c e
 .let(e,n,ne,nf,d):=I.pin p Z;let j:p.1∉ch:=λz=>(h p.1 z).2.2.2 p Z ?r;show(fv p.1 p.2 ne nf j e n,lx p.1 p.2 j e n,ne,nf,d)
def Â.un(I:Â X Do σ H s)(u:Un X.fs [] H H' s.k h')(h:Ř X.Y X.w H' h'):Â X Do σ H' {s with ce:=h',dL:=t'}:=by
 obtain(m|(o|v|q|i|r)|_):=id I.z;let(y,j):=u.any i I.kr ∅;show I.step (g':=s.gens) (d':=s.drawn) (ch:=[]) (λ_ z=>nomatch z) (λb o f g f e n=>u.keep b o e n g ∅) (λb o f g f e n=>u.slot b o e n g ∅) (λb o f e n=>u.kr b o e n ∅) (λb o f e=>u.there b o e ∅) u.tups u.frzs u.tbls (λw k=>by
  let(x,d,c,a,p):=k;rw[i]at a;ext a;show(_,d,c,j,p)) h I.bare
def Â.call(I:Â X Do σ H s)(u:Un (k9 X.stack) ch H H' s.k h')(j:Ř X.Y X.w H' h')(v:iy g')(a:∀b∈ch,(b∈X.ex\/X.s₀.k.y.q<=b)/\b≠X.M.vk/\(∀x c,X.M.cells.B x=a7 c->c≠b)/\∀p∈X.pn++Do,p.1≠b):
  Â X Do σ H' {s with ce:=h',gens:=g',drawn:=d',dL:=t'}:=by
 obtain(m|(o|B|A|k|r)|_):=id I.z;let(J,i):=u.any k I.kr λz=>(a _ z).2.1 ?r;show I.step (ch:=ch) a (λb o i q hc e n=>u.keep b o e n (λz=>(ē.Z<|I.stkSub b z).vl i q) hc) (λb o f f hc e n=>u.any e n hc) (λb o hc e n=>u.kr b o e n hc) (λb o hc e=>u.there b o e hc) u.tups u.frzs u.tbls (λE w=>by
  let(G,h,g,d,y):=w;rw[k]at d;ext d;show(_,h,g,i,y)) j v
def Â.turned(I:Â X Do σ H s)(k:∀b o,b≠a->s.k.G b=a7 o->h'.G b=a7 o)(B:H a=b0)(g:a≠X.M.vk)(h1:a∈X.ex\/X.s₀.k.y.q<=a)(j:∀x c,X.M.cells.B x=a7 c->c≠a)(w:∀p∈X.pn++Do,p.1≠a):Â X Do σ H {s with ce:=h',dL:=t'}:=by
 let d:∀b u,H b=a7 u->b≠a:=λb u e z=>by rw[z,B]at e;ext e
 show I.step (g':=s.gens) (d':=s.drawn) (ch:=[a]) (λb y=>?_) (λb o f f hc e f=>k b o (λz=>hc<|by simp[z]) e) (λb o f f hc e f=>(o.slots,k b o (λz=>hc<|by simp[z]) e)) (λ_ f f f n=>n)
  (λb o hc e=>(o,k b o (λz=>hc<|by simp[z]) e)) (λ_ f e=>e) (λ_ f f e=>e) (λb G e=>(#[],by rw[e];simp)) (λm A=>?_) (λb u e=>?_) I.bare
 .let e:b=a:=by apply y
  subst e;show(h1,g,j,w)
 .let(o,i,h,E,r):=A;show(o,i,h,k _ o (ì g) E,r)
 .show(I.vr b u e).stay (λc v hc q=>k c v ?_ q) (λ_ q=>q) λ_ f q=>q;rcases hc with z|z
  .rw[z];show d b u e
  .show d c _ z
def Â.tok(I:Â X Do σ H s)t:Â X Do σ H {s with dL:=t}:=I.un (h':=s.k) (t':=t) Un.ki I.vr
def Â.kept(I:Â X Do σ H s)(k:∀b u,s.k.G b=a7 u->h'.G b=a7 u):Â X Do σ H {s with ce:=h',dL:=t'}:=I.un (Un.vx k)<|I.vr.vx k
def Â.laid{a:ar}(I:Â X Do σ H s)(k:∀b u,s.k.G b=a7 u->h'.G b=a7 u)(c:s.k.y.q<=a)(new:á X.Y X.w (eo H a o) h' a o):
  Â X Do σ (eo H a o) {s with ce:=h',dL:=t'}:=I.un (Un.laid k c<|I.vr.xo c)<|I.vr.laid k c new
def Â.write(I:Â X Do σ H s)(d:uS (H x))(c:e=x\/H e=a7 (.own x))(k:∀b u,b≠e->s.k.G b=a7 u->h'.G b=a7 u)(a:∃u,h'.G e=a7 u)(new:á X.Y X.w (eo H x o) h' x o):Â X Do σ (eo H x o) {s with ce:=h',dL:=t'}:=I.un (Un.write d c k a)<|I.vr.write d c k a new
def Â.pins_of(I:Â X Do σ H s)(h:∀p∈a,s.k.G p.1=a7 p.2/\H p.1=b0/\p.1≠X.M.vk/\p.1∉X.fs/\∀v,p.2.data≠.kz v):Â X a σ H s:=
 (I.ok,I.os,I.bare,I.ka,I.z,I.kz,I.kr,I.freeC,λp b=>(Ĺ.Z b).vl (λz=>I.pin p<|Sx _ z)<|h p,I.vr,I.len)
def EW{N:ab cf}(e:N.J){i:am}(a:N[i]?=a7 x)(b:N[j]?=a7 x):i=j:=by let(h1,c):=ã.Z a;let(g,d):=ã.Z b;show(Px e).Z<|c.u d.R
def EX(I:Â X Do σ H s)(hN:X.N.J)(hi:X.N[i]?=a7 x)(G:Loc X.M.xv x)(r:Í v u)(h:∀s',Â X Do (σ.xl i<|a7 v) H s'->(∃a,ū a s.k s'.k/\(a=X.M.vk\/X.M.cells.B x=a7 a))->Q ld.unit s')(hf:X.fn x=b4\/X.M.xv.qf.B x=a7 .kg:=by first|show .Q ?r|show .X ?r|assumption):Ç M A (storeName X.M x u) Q E s:=by
 let(m,hn,hl):=id I.z;let Z:(X.M.xv.kind==.class||(X.M.xv.kind==.module&&X.M.vk != X.M.globals))=ai:=by rw[I.ok.kind];rfl
 let L:i<σ.f:=by rw[I.len];show(ã.Z hi).1
 let cne:=I.cne;let B:∀{a:ar}{h':ê},(∃o,s.k.G a=a7 o/\H a=b0)->ū a s.k h'->Ř X.Y X.w H h':=λ{a h'} ha g b ob e=>by
  let(_,_,J):=ha;show(I.vr b ob e).stay (λc w' hc q=>(g.2 c ?_).u q) (λ_ q=>q) λ_ f q=>q;rintro rfl;rcases hc with rfl|hc
  .rw[J]at e;ext e
  .rw[J]at hc;ext hc
 rcases G with N|N
 .show wpAny_storeName_local N hn (λh' hn' g=>?_) Z;let(oL,_,_,hoL,_):=id hn;show h _ (I.ok,I.os,I.bare,(λb o e n O G=>?_,λb o e n O G=>?_,I.ka.kr,λb o e G=>?_,I.ka.tups,I.ka.frzs,I.ka.tbls),(_,hn',λj y v' w K e3=>?_),λy c e=>?_,I.kr,I.freeC,λp hp=>?_,B (oL,hoL,I.kr) g,by apply I.len) (_,g,.Q ?r)
  .show(g.2 b<|ý<|Ŏ (Ý e) I.ok.above).u<|I.ka.keep b o e n O G
  .let(sl,w):=I.ka.slot b o e n O G;show(sl,(g.2 b<|ý<|Ŏ (Ý e) I.ok.above).u w)
  .let(o',w):=I.ka.there b o e G;show(o',(g.2 b<|ý<|Ŏ (Ý e) I.ok.above).u w)
  .by_cases T:j=i
   .subst T;rw[hi]at w;ext w;rw[Ŭ L]at K;ext K;show(u,r,.Q (N,∅))
   .rw[ć<|ì T]at K;let(u',r',q):=hl j y v' w K e3;show(u',r',?_);rcases q with(k|e)|(k|c|e|z)
    .show .Q (k,?_);have:y≠x:=λe=>T<|EW hN w<|e▸hi;simp[ah,e]
    .show .X (k,c,e,z.sameBut g<|cne y c e)
  .let(w',z):=I.kz y c e;show(w',z.sameBut g<|cne y c e)
  .let(e,n,ne,nf,d):=I.pin p hp;show((g.2 p.1 ne).u e,n,ne,nf,d)
 .let R:X.fn x=bt:=by
   rcases hf with z|z
   .show z
   .rw[z]at N;ext N
  let(c,hc):=I.ok.has x<|.Q N;let(w',z):=I.kz x c hc;show wpAny_storeName_cell I.ok.kind N hc z λh' U g=>?_;let(oc,hoc,hocd):=id z;show h {s with ce:=h'} (I.ok,I.os,I.bare,(λb o e n O G=>?_,λb o e n O G=>?_,I.ka.kr,λb o e G=>?_,I.ka.tups,I.ka.frzs,I.ka.tbls),(m,hn.sameBut g<|ì<|cne x c hc,λj y v' w K e3=>?_),λy c' e=>?_,I.kr,I.freeC,λp hp=>?_,B (oc,hoc,I.freeC x c hc) g,by apply I.len) (c,g,.X hc)
  .show(g.2 b<|ý<|Ŏ (Ý e)<|I.ok.cab x c R hc).u<|I.ka.keep b o e n O G
  .let(sl,w):=I.ka.slot b o e n O G;show(sl,(g.2 b<|ý<|Ŏ (Ý e)<|I.ok.cab x c R hc).u w)
  .let(o',w):=I.ka.there b o e G;show(o',(g.2 b<|ý<|Ŏ (Ý e)<|I.ok.cab x c R hc).u w)
  .by_cases T:j=i
   .subst T;rw[hi]at w;ext w;rw[Ŭ L]at K;ext K;show(u,r,.X (.Q N,c,hc,U))
   .rw[ć<|ì T]at K;let(u',r',q):=hl j y v' w K e3;show(u',r',?_);rcases q with q|(k|c'|e|z')
    .show .Q q
    .show .X (k,c',e,z'.sameBut g ?_);rintro rfl;show T<|EW hN w<|I.ok.inj _ _ _ e hc▸hi
  .by_cases Y:c'=c
   .subst Y;show(_,U)
   .let(w2,z2):=I.kz y c' e;show(w2,z2.sameBut g Y)
  .let(e,n,ne,nf,d):=I.pin p hp;show((g.2 p.1 ?_).u e,n,ne,nf,d);intro q;rw[q,hoc]at e;let q':oc=p.2:=Ĕ e;show d w'<|by rw[<- q'];show hocd
def EY(I:Â X Do σ H s)(c:X.N.J)(hi:X.N[i]?=a7 x)(e:Loc X.M.xv x)(r:Í v u)(h:∀a,Â X Do (σ.xl i<|a7 v) H a->Q ld.unit a)(d:X.fn x=b4\/X.M.xv.qf.B x=a7 .kg:=by first|show .Q ?r|show .X ?r|assumption):Ç M A (storeName X.M x u) Q E s:=
 EX I c hi e r (λa b y=>h a b) d
noncomputable abbrev XK:=ax->af ar->Hp->Prop
noncomputable abbrev St:=ab<|af V
noncomputable abbrev VK:=V->Hp->Prop
noncomputable abbrev TE:=St->Hp->VK->Prop
noncomputable abbrev TT:=St->Hp->(av->Hp->Prop)->Prop
noncomputable abbrev TA:=St->Hp->(ab V->Hp->Prop)->Prop
structure ϧ where
 nx:St->Hp->Prop
 rt:VK
 bk:St->Hp->Prop:=λ_ x=>ef
 ct:St->Hp->Prop:=λ_ x=>ef
noncomputable abbrev TS:=ϧ->St->Hp->Prop
inductive EP (X:Cx)(Do:jw)(σ:St)(Q:VK)(u:ax)(s':Ø):Prop
 |mk (v:V)(H':Hp)(I:Â X Do σ H' s')(r:Í v u)(q:Q v H'):EP X Do σ Q u s'
inductive TP (X:Cx)(Do:jw)(σ:St)(Q:av->Hp->Prop)(b:av)(s':Ø):Prop
 |mk (H':Hp)(I:Â X Do σ H' s')(q:Q b H'):TP X Do σ Q b s'
inductive AP (X:Cx)(Do:jw)(σ:St)(Q:gz->Hp->Prop)(us:gw)(s':Ø):Prop
 |mk (vs:gz)(H':Hp)(I:Â X Do σ H' s')(r:Æ vs us)(q:Q vs H'):AP X Do σ Q us s'
inductive xm (X:Cx)(Do:jw)(Q:St->Hp->Prop)(s':Ø):Prop
 |mk (oa:St)(H':Hp)(I:Â X Do oa H' s')(q:Q oa H'):xm X Do Q s'
inductive Ua (X:Cx)(Do:jw)(Q:VK)(u:ax)(s':Ø):Prop
 |mk (v:V)(oa:St)(H':Hp)(I:Â X Do oa H' s')(r:Í v u)(q:Q v H'):Ua X Do Q u s'
def SP!(X:Cx)(Do:jw)(D:ϧ)(f:Flow)(a:Ø):Prop:=
 match f with
 |.next=>xm X Do D.nx a|.brk=>xm X Do D.bk a|.cont=>xm X Do D.ct a|.ret u=>Ua X Do D.rt u a
def PE!(X:Cx)(e:bo)(t:TE):Prop:=
 ∀(Do:jw)(s:Ø)(σ:St)(H:Hp)(Q:VK),Â X Do σ H s->t σ H Q->Ç (Ê X.Y X.w) X.A (eu e X.M) (EP X Do σ Q) X.xe s
def PT!(X:Cx)(e:bo)(t:TT):Prop:=
 ∀(Do:jw)(s:Ø)(σ:St)(H:Hp)(Q:av->Hp->Prop),Â X Do σ H s->t σ H Q->Ç (Ê X.Y X.w) X.A (su e X.M<|eu e X.M) (TP X Do σ Q) X.xe s
def PW!(X:Cx)(e:bo)(t:TT):Prop:=
 ∀(a:ϩ ax)(Do:jw)(s:Ø)(σ:St)(H:Hp)(Q:av->Hp->Prop),Â X Do σ H s->t σ H Q->Ç (Ê X.Y X.w) X.A (su e X.M a) (TP X Do σ Q) X.xe s
def PW.pt(h:PW X e t):PT X e t:=h _
def PA!(X:Cx)(es:ab bo)(t:TA):Prop:=
 ∀(ca:Ń)(Do:jw)(s:Ø)(σ:St)(H:Hp)(Q:gz->Hp->Prop),Â X Do σ H s->t σ H Q->Ç (Ê X.Y X.w) X.A (spliced<|ĵ ca<|ð es X.M) (AP X Do σ Q) X.xe s
def PS!(X:Cx)(st:ff)(t:TS):Prop:=
 ∀(Do:jw)(s:Ø)(σ:St)(H:Hp)(D:ϧ),Â X Do σ H s->t D σ H->Ç (Ê X.Y X.w) X.A (exec st X.M) (SP X Do D) X.xe s
def ş!(X:Cx)(st:ab ff)(t:TS):Prop:=
 ∀(Do:jw)(s:Ø)(σ:St)(H:Hp)(D:ϧ),Â X Do σ H s->t D σ H->Ç (Ê X.Y X.w) X.A (execs st X.M) (SP X Do D) X.xe s
def aR{t:ϩ c}{Q b:c->Ø->Prop}(h:Ç M A t Q E s)(d:∀a s,Q a s->b a s):Ç M A t b E s:=Ŗ h d λ_ y x=>x
def EZ!(i:am):TE:=λσ H Q=>∃v,σ[i]?=a7 (a7 v)/\Q v H
def tC!(v:V):TE:=λ_ H Q=>Q v H
def a8k(j:X.N[i]?=a7 x)(p:sO X.M.xv x)(hd:(x==("__debug__":cf))=ai:=by decide)(g:(x==("__classdict__":cf))=ai:=by decide):PE X (.xk x ca) (EZ i):=by
 intro d s q H Q I h;let(v,e,h):=h;let(m,o,k):=I.z;let(u,r,l):=k i x v j e p;let dr:EP X d q Q u s:=(v,H,I,r,h);rcases l with(b|n)|(b|c|hc|a)
 .show P2 (wpAny_loadName_local I.ok.kind b o n dr) hd
 .rcases b with b|b
  .show P2 (wpAny_loadName_cell I.ok.kind b hc a dr) hd
  .show P2 (wpAny_loadName_free I.ok.kind b hc a dr g) hd
def a8W{i j ca}:PE X (.ve (.p i) j ca) (tC<|.p i):=λ_ x x H x I h=>wpAny_Constant_int (.p i,H,I.tok _,(_,?r),h)
def a8M{b j ca}:PE X (.ve (.kt b) j ca) (tC<|.bl b):=λ_ x x H x I h=>Constant_bool (.bl b,H,I,?r,h)
def a8E{j ca}:PE X (.ve .qo j ca) (tC .kf):=λ_ x x H x I h=>Constant_none (.kf,H,I,?r,h)
def a8B{x j ca}:PE X (.ve (.jv x) j ca) (tC<|.jv x):=λ_ y y H y I h=>Calls.Constant_str (.jv x,H,I.tok _,(_,?r),h)
def Gl!(X:Cx)(x:cf):Prop:=X.M.kn x=a7 .globalImplicit
def sP{σ:St}(I:Â X Do σ H s)(a:Gl X x)(b:X.mg x=a7 u)(h:Q u s)(hd:(x==("__debug__":cf))=ai:=by decide):Ç (Ê X.Y X.w) X.A (eu (.xk x ca) X.M) Q E s:=
 Tj I.ok.kind a (Calls.loadGlobal_global (by rw[I.ok.glob];show I.mod.glob.keeps I.bk) b h) hd
def i9{σ:St}(I:Â X Do σ H s)(b:Gl X x)(c:X.mg x=b0)(e:ξ x=a7 u)(h:Q u s)(d:x ≠ "__name__":=by decide)(hd:(x==("__debug__":cf))=ai:=by decide):Ç (Ê X.Y X.w) X.A (eu (.xk x ca) X.M) Q E s:=by
 let(g,h1,a):=I.mod.blt;show Tj I.ok.kind b (Calls.loadGlobal_builtin (by rw[I.ok.glob];show I.mod.glob.keeps I.bk) c (by rw[I.ok.blt];show h1.keeps I.bk) ((a x d).u e) h) hd
def a7B(a:Gl X x)(b:X.mg x=a7 u)(r:Í v u)(hd:(x==("__debug__":cf))=ai:=by decide):PE X (.xk x ca) (tC v):=
 λ_ y y H y I h=>sP I a b (v,H,I,r,h) hd
def a7A(a:Gl X x)(b:X.mg x=b0)(d:ξ x=a7 u)(r:Í v u)(c:x ≠ "__name__":=by decide)(hd:(x==("__debug__":cf))=ai:=by decide):PE X (.xk x ca) (tC v):=
 λ_ y y H y I h=>i9 I a b d (v,H,I,r,h) c hd
def a6j!(t u:TT):TT:=λσ H Q=>t σ H λc d=>if c=b4 then u σ d Q else Q b3 d
def rMm!(t u:TT):TT:=λσ H Q=>t σ H λc d=>if c=b4 then Q b4 d else u σ d Q
def e12!(t:TT):TT:=λσ H Q=>t σ H λc d=>Q (!c) d
def e10(g:PT X a tA):PW X (.jp .And [a] ca) tA:=by
 intro k d s i H Q I h;show isTrue_and<|aR (g d s i H Q I h) λc j e=>?_;cases c with
 |bt=>show isTrue_and_nil e|ai=>show e
def b8b(g:PT X a tA):PW X (.jp .Or [a] ca) tA:=by
 intro k d s i H Q I h;show isTrue_or<|aR (g d s i H Q I h) λc j e=>?_;cases c with
 |ai=>show isTrue_or_nil e|bt=>show e
def b7R{cN:ab bo}(k:PT X a tA)(n:PW X (.jp .And (b::cN) ca) tB'):PW X (.jp .And (a::b::cN) ca) (a6j tA tB'):=by
 intro p d s j H Q I h;show isTrue_and<|aR (k d s j H _ I h) λc o (e,g,i)=>?_;cases c with
 |bt=>show n p d o j e Q g i|ai=>show(e,g,i)
def b6N{cN:ab bo}(k:PT X a tA)(n:PW X (.jp .Or (b::cN) ca) tB'):PW X (.jp .Or (a::b::cN) ca) (rMm tA tB'):=by
 intro p d s j H Q I h;show isTrue_or<|aR (k d s j H _ I h) λc o (e,g,i)=>?_;cases c with
 |bt=>show(e,g,i)|ai=>show n p d o j e Q g i
def b6E(i:PT X a tA):PT X (.UnaryOp .Not a ca) (e12 tA):=by intro d s j H Q I h;show isTrue_not<|aR (i d s j H (λc g=>Q (!c) g) I h) λ_ _ (e,J,q)=>(e,J,q)
def b5T!(ta tb:TE):TE:=λσ H Q=>ta σ H λx d=>∃c,x=.bl c/\if c=b4 then tb σ d Q else Q (.bl b3) d
def b5S!(ta tb:TE):TE:=λσ H Q=>ta σ H λx d=>∃c,x=.bl c/\if c=b4 then Q (.bl b4) d else tb σ d Q
def b5L!(ta:TE):TE:=λσ H Q=>ta σ H λx d=>∃c,x=.bl c/\Q (.bl<|!c) d
def b4j{op}(h:PE X a t):PE X (.jp op [a] ca) t:=λDo s σ H Q I hw=>BoolOp_one<|h Do s σ H Q I hw
def b4d{cN:ab bo}(k:PE X a ta)(n:PE X (.jp .And (b::cN) ca) tb):PE X (.jp .And (a::b::cN) ca) (b5T ta tb):=by
 intro d s j H Q I h;show BoolOp_and<|aR (k d s j H _ I h) λv p (x,g,i,o,e)=>?_;let(c,?r,e):=e;ext o;show J3 ?_;cases c with
 |bt=>show n d p j g Q i e|ai=>show(.bl b3,g,i,?r,e)
def b0H{cN:ab bo}(k:PE X a ta)(n:PE X (.jp .Or (b::cN) ca) tb):PE X (.jp .Or (a::b::cN) ca) (b5S ta tb):=by
 intro d s j H Q I h;show BoolOp_or<|aR (k d s j H _ I h) λv p (x,g,i,o,e)=>?_;let(c,?r,e):=e;ext o;show J3 ?_;cases c with
 |ai=>show n d p j g Q i e|bt=>show(.bl b4,g,i,?r,e)
def b0G(j:PE X a ta):PE X (.UnaryOp .Not a ca) (b5L ta):=by intro d s n H Q I h;show UnaryOp_<|aR (j d s n H _ I h) λv o (x,g,i,k,e)=>?_;let(c,?r,e):=e;ext k;show not_of<|J3 (.bl<|!c,g,i,?r,e)
def a9y!(t:TT)(ta tb:TE):TE:=λσ H Q=>t σ H λc d=>if c=b4 then ta σ d Q else tb σ d Q
def a9v(hc:PT X c tA)(o:PE X a ta)(p:PE X b tb):PE X (.IfExp c a b ca) (a9y tA ta tb):=by
 intro e s g H Q I h;show wpAny_IfExp<|aR (hc e s g H _ I h) λd n (i,j,k)=>?_;cases d with
 |bt=>show o e n g i Q j k|ai=>show p e n g i Q j k
def Ā!(K:Ï)(H:Hp)(a:ar)(xs:gz):Prop:=
 Rd H a (.D xs) \/
  ∃(o:hH)(b5:eh ax)(n:am),K.B a=a7 o/\o.cls=.O "list"/\o.dict=b0/\o.data=.seq b5 n/\b5.q<=Ò/\Æ xs b5.zh
def à!(K:Ï)(H:Hp)(a:ar)(xs:gz):Prop:=
 Rd H a (.L xs) \/
  ∃(o:hH)(b5:eh ax)(n:am),K.B a=a7 o/\o.cls=.O "tuple"/\o.dict=b0/\o.data=.seq b5 n/\b5.q<=Ò/\Æ xs b5.zh
def a9j!:ax->af V
 |.qo=>a7 .kf|.kt b=>a7 (.bl b)|.p i _=>a7 (.p i)|.jv x _=>a7 (.jv x)|.bytes b _=>a7 (.byt b)|.float b _=>a7 (.flt b)|.x a=>a7 (.x a)|.O n=>a7 (.ty n)|_=>b0
def Í.abs(r:Í x u):a9j u=a7 x:=by
 cases x with
 |g7=>ext r;rfl|bl _=>ext r;rfl|gv _=>let(t,?r):=r;rfl|gy _=>let(t,?r):=r;rfl|byt _=>let(t,?r):=r;rfl|flt _=>let(t,?r):=r;rfl|ref _=>ext r;rfl|ty _=>ext r;rfl
def Í.inj(r:Í x u)(q:Í y u):x=y:=Ĕ<|r.abs.R.u q.abs
def Æ.inj:∀{xs a}{us},Æ xs us->Æ a us->xs=a
 |_,_,_,.kk,.kk=>?r|_,_,_,.zv r t,.zv r' t'=>by rw[r.inj r',Æ.inj t t']
def Ā.of{K:Ï}(h:H a=a7 (.D xs)):Ā K H a xs:=.Q<|.Q h
def à.of{K:Ï}(h:H a=a7 (.L xs)):à K H a xs:=.Q<|.Q h
def Â.list{σ:St}(I:Â X Do σ H s)(h:Ā X.K H a xs):∃b5,Æ xs b5/\PlainL s.k a b5.E/\xs.f<=Ò:=by
 rcases h with h|(o|b5|n|b|hc|hd|c|d|r)
 .let(z,b5,n,r,e):=h.ok I.vr;show(b5,r,(_,n,e,?r,?r,?r),z)
 .show(b5.zh,r,(o,n,I.kIn a o b,hc,hd,by apply c),?_);let e:=r.f;dsimp[fu]at e;lia
def Â.tuple{σ:St}(I:Â X Do σ H s)(h:à X.K H a xs):∃b5,Æ xs b5/\WP s.k a b5.E/\xs.f<=Ò:=by
 rcases h with h|(o|b5|n|b|hc|hd|c|d|r)
 .let(z,b5,r,p):=h.ok I.vr;show(b5,r,p.L,z)
 .show(b5.zh,r,(o,I.kIn a o b,hc,n,by apply c),?_);let e:=r.f;dsimp[fu]at e;lia
def Â.tupN{σ:St}(I:Â X Do σ H s)(h:à X.K H a xs):∃b5,Æ xs b5/\Λ s.k a b5.E:=by
 rcases h with h|(o|b5|n|b|hc|hd|c|d|r)
 .let(z,b5,r,p):=h.ok I.vr;show(b5,r,p)
 .show(b5.zh,r,o,I.kIn a o b,hc,n,by apply c,hd)
def Â.list_inj{σ:St}(I:Â X Do σ H s)(h:Ā X.K H a xs)(h':Ā X.K H a ys):xs=ys:=by
 obtain(b5|r|(o|n|e|_|_|d)|_):=I.vu h;obtain(b|i|(k|j|g|_|_|c)|_):=I.vu h';rw[e]at g;ext g;rw[d]at c;injection c with d1 _;have:b5=b:=by apply br SG d1
 subst ah;show r.inj i
def Â.tuple_inj{σ:St}(I:Â X Do σ H s)(h:à X.K H a xs)(h':à X.K H a ys):xs=ys:=by
 obtain(b5|r|(o|e|_|n|d)|_):=I.kl h;obtain(b|i|(k|g|_|j|c)|_):=I.kl h';rw[e]at g;ext g;rw[d]at c;injection c with d1 _;have:b5=b:=by apply br SG d1
 subst ah;show r.inj i
noncomputable abbrev Cx.wish(X:Cx)(E:ax->Ø->Prop):Cx:={X with xe:=E}
noncomputable abbrev Cx.nox(X:Cx):Cx:=X.wish λ_ x=>ef
def Cx.Ok.wish{X:Cx}(ok:X.Ok)E:(X.wish E).Ok:=
 (ok.mod,ok.kind,ok.glob,ok.blt,ok.above,ok.inj,ok.has,ok.cab,ok.hd,ok.frames,ok.stk,ok.exf,ok.bs,ok.bsz,ok.noex,ok.exfs,ok.funs,ok.frf)
def Cx.Ok.unwish{X:Cx}(ok:(X.wish E).Ok):X.Ok:=
 (ok.mod,ok.kind,ok.glob,ok.blt,ok.above,ok.inj,ok.has,ok.cab,ok.hd,ok.frames,ok.stk,ok.exf,ok.bs,ok.bsz,ok.noex,ok.exfs,ok.funs,ok.frf)
def Â.wish{σ:St}(I:Â X Do σ H s)E:Â (X.wish E) Do σ H s:=(I.ok.wish E,I.os,I.bare,I.ka,I.z,I.kz,I.kr,I.freeC,I.pin,I.vr,I.len)
def Â.unwish{σ:St}(I:Â (X.wish E) Do σ H s):Â X Do σ H s:=(I.ok.unwish,I.os,I.bare,I.ka,I.z,I.kz,I.kr,I.freeC,I.pin,I.vr,I.len)
def SP.unwish(h:SP (X.wish E) Do D f c):SP X Do D f c:=by
 cases f with
 |nw=>let(a,b,I,q):=h;show(a,b,I.unwish,q)|brk=>let(a,b,I,q):=h;show(a,b,I.unwish,q)|n0=>let(a,b,I,q):=h;show(a,b,I.unwish,q)|ret u=>let(v,a,b,I,r,q):=h;show(v,a,b,I.unwish,r,q)
def ş.nox{st:ab ff}(h:ş X.nox st t):ş X st t:=λDo s σ H D I hw=>Ŗ (h Do s σ H D (I.wish _) hw) (λ_ x q=>q.unwish) λ_ x z=>Γ z
def E4!:TS:=λD σ H=>D.nx σ H
def a9g!(t u:TS):TS:=λD σ H=>t {D with nx:=u D} σ H
def a9W:ş X [] E4:=λ_ x σ H x I h=>OB (σ,H,I,h)
def a9S{st:ff}{cN:ab ff}(h1:PS X st t)(g:ş X cN u):ş X (st::cN) (a9g t u):=by
 intro a s j H D I h;show Ru<|aR (h1 a s j H {D with nx:=u D} I h) λf i q=>?_;cases f with
 |nw=>let(b,c,d,q):=q;show g a i b c D d q|ret v=>show q|brk=>show q|n0=>show q
def a9L{st:ff}(h1:PS X st t):ş X [st] t:=by
 intro a s b H D I h;show Ru<|aR (h1 a s b H D I h) λf c q=>?_;cases f with
 |nw=>show OB q|ret v=>show q|brk=>show q|n0=>show q
def a9G:PS X (.Pass ca) E4:=λ_ x σ H x I h=>wpAny_Pass (σ,H,I,h)
def Â.quiet{σ:St}(I:Â X Do σ H s):interactive X.M=ai:=by simp[interactive,I.ok.kind]
def a9Y!(te:TE):TS:=λD σ H=>te σ H λ_ a=>D.nx σ a
def a9R(g:PE X e te)(i:dI e b0 ca.line X.M=ej ai:=by rfl):PS X (.Expr e ca) (a9Y te):=by intro a s b H D I h;show wpAny_Expr_any (aR (g a s b H _ I h) λv n (x,c,d,k,j)=>(b,c,d,j)) I.quiet i
def a9Q!(te:TE):TS:=λD σ H=>te σ H D.rt
def a9P(g:PE X e te):PS X (.Return (a7 e) ca) (a9Q te):=by intro a s b H D I h;show wpAny_Return_some<|aR (g a s b H _ I h) λv k (x,c,d,j,i)=>(x,b,c,d,j,i)
def a9F!:TS:=λD x H=>D.rt .kf H
def a8r:PS X (.Return b0 ca) a9F:=λ_ x σ H x I h=>wpAny_Return_none (.kf,σ,H,I,?r,h)
def a8O!(c:TT)(t u:TS):TS:=λD σ H=>c σ H λb a=>if b=b4 then t D σ a else u D σ a
def a7E(hc:PT X c p)(q:ş X a t)(v:ş X b u):PS X (.If c a b ca) (a8O p t u):=by
 intro g s i H D I h;show wpAny_If<|aR (hc g s i H _ I h) λd o (j,k,n)=>?_;cases d with
 |bt=>show q g o i j D k n|ai=>show v g o i j D k n
noncomputable abbrev TG:=V->St->Hp->(St->Hp->Prop)->Prop
noncomputable abbrev sQ:=ab V->St->Hp->(St->Hp->Prop)->Prop
def PG!(X:Cx)(a:bo)(t:TG):Prop:=
 ∀(Do:jw)(s:Ø)(σ:St)(H:Hp)(v:V)(u:ax)(Q:St->Hp->Prop),Â X Do σ H s->Í v u->t v σ H Q->
  Ç (Ê X.Y X.w) X.A (cj a X.M u) (λ_ b=>xm X Do Q b) X.xe s
def uT!(X:Cx)(ts:ab bo)(t:sQ):Prop:=
 ∀(Do:jw)(s:Ø)(σ:St)(H:Hp)(vs:gz)(us:gw)(Q:St->Hp->Prop),Â X Do σ H s->Æ vs us->t vs σ H Q->
  Ç (Ê X.Y X.w) X.A (assignInOrder ((ώ ts X.M).o (·.2)) us) (λ_ a=>xm X Do Q a) X.xe s
def Ba!(i:am):TG:=λv σ H Q=>Q (σ.xl i<|a7 v) H
def E6(c:X.N.J)(hi:X.N[i]?=a7 x)(e:Loc X.M.xv x)(d:X.fn x=b4\/X.M.xv.qf.B x=a7 .kg:=by first|show .Q ?r|show .X ?r|assumption):PG X (.xk x ca) (Ba i):=by intro b s j H v u Q I r h;show SE<|EY I c hi e r (λg a=>(_,H,a,h)) d
def E7!:sQ:=λvs σ H Q=>vs=[]/\Q σ H
def Fb!(t:TG)(u:sQ):sQ:=λvs σ H Q=>∃v r,vs=v::r/\t v σ H λa b=>u r a b Q
def a7D:uT X [] E7:=by intro a s b H d c Q I r h;let(e,h):=h;subst e;ext r;show assignInOrder_nil (b,H,I,h)
def LwI(h1:PG X e t)(i:uT X es u)(j:(ώ (e::es) X.M).o (·.2)=cj e X.M::(ώ es X.M).o (·.2):=by rfl):uT X (e::es) (Fb t u):=by
 intro a s p H x q Q I r h;let(v,w,g,h):=h;subst g;cases r with
 |bm r n=>rw[j];show assignInOrder_cons<|aR (h1 a s p H _ _ _ I r h) λ_ o (b,c,d,k)=>?_;show i a o b c _ _ Q d n k
def Fc!(b:TE)(g:TG):TS:=λD σ H=>b σ H λx a=>g x σ a D.nx
def i10(j:PE X e b)(k:PG X tg g)(n:swapsWithSole [tg] e ca.line X.M=ej ai:=by rfl)(hw:PZ [tg] e X.M=ej bp:=by rfl)(h1:(ώ [tg] X.M).o (·.2)=[cj tg X.M]:=by rfl):PS X (.Assign [tg] e ca) (Fc b g):=by
 intro a s c H D I h;show wpAny_Assign_stores (aR (j a s c H _ I h) λv u (x,d,i,p,o)=>?_) n hw;rw[h1];show aR (k a u c d x v _ i p o) λ_ w q=>q
def h15(k:X.N.J)(hi:X.N[i]?=a7 x)(q:Loc X.M.xv x)(n:PE X e c)(p:dI e (a7<|.xk x a) ca.line X.M=ej ai:=by rfl)(o:X.fn x=b4\/X.M.xv.qf.B x=a7 .kg:=by first|show .Q ?r|show .X ?r|assumption):
  PS X (.Assign [.xk x a] e ca) (Fc c<|Ba i):=by
 intro b s z H D I h;show wpAny_Assign_Name (aR (n b s z H _ I h) λv A (y,d,g,w,u)=>?_) p;show EY g k hi q w (λB j=>(_,d,j,u)) o
def e11!(c:TT)(h:TS):TS:=λD σ H=>∃W:am->St->Hp->Prop,(∃m,W m σ H)/\∀m σ H,W m σ H->
 c σ H λb e=>if b=b4 then ∃N:St->Hp->Prop,(∀a d,N a d->∃g,g<m/\W g a d)/\h {D with nx:=N,ct:=N,bk:=D.nx} σ e else D.nx σ e
def b8a(E:yw (Ê X.Y X.w) X.A X.M X.xe)(hc:PT X c J)(L:ş X gi G):PS X (.While c gi [] ca) (e11 J G):=by
 intro e s Y H D I h;obtain(W|(M|T)|turn):=h;show wpAny_While<|codeAny_whileLoop (λn O=>∃i x,Â X e i x O/\W n i x) ?_ M (Y,H,I,T);rintro n Q (d|y|K|U);show qt E<|aR (hc e Q d y _ K<|turn n d y U) λb R (z,A,j)=>?_;cases b with
 |bt=>
  let(N,B,j):=j;rw[ad ?r];show qt E<|aR (L e R d z _ A j) λf Z k=>?_;cases f with
  |nw=>let(a,g,o,u):=k;let(q,p,w):=B a g u;show(q,p,a,g,o,w)|n0=>let(a,g,o,u):=k;let(q,p,w):=B a g u;show(q,p,a,g,o,w)|brk=>show k|ret v=>show k
 |ai=>rw[ac þ];show OB (d,z,A,j)
structure It where
 go:am->Hp->Prop
 yld:am->Hp->V->Hp->Prop
 stop:am->Hp->Prop
def jQ!(X:Cx)(Do:jw)(H:Hp)(b:ar):Prop:=
 H b=b0/\b≠X.M.vk/\b∉X.fs/\(b∈X.ex\/X.s₀.k.y.q<=b)/\(∀x c,X.M.cells.B x=a7 c->c≠b)/\∀p∈X.pn++Do,p.1≠b
def Â.fpOk{σ:St}{b:ar}(I:Â X Do σ H s)(a:s.k.y.q<=b)(g:d b=b0):jQ X Do d b:=by
 show(g,š<|Ŏ I.lt a,I.nofs a,.X<|ĥ I.sz a,λx c e z=>?_,λp h z=>?_)
 .let(v,q):=I.kz x c e;show cb (Ŏ q.lt<|by rw[z];show a)<|Ϝ _
 .show cb (Ŏ (Ý (I.pin p h).1)<|by rw[z];show a)<|Ϝ _
noncomputable abbrev Qc(X:Cx):Prop:=X.vn=b4
inductive UW (X:Cx)(Do:jw)(σ:St)(J:It)(fp:ab ar)(tn:am->ê->Prop)(i:am)(H:Hp)(u:ax)(s2:Ø):Prop
 |mk (x:V)(H':Hp)(I:Â X Do σ H' s2)(r:Í x u)(y:J.yld i H x H')(t:tn (i+1) s2.k)(f:∀b∈fp,H' b=b0):UW X Do σ J fp tn i H u s2
structure ı(q:Cx->Prop)(P:Ŧ)(w:ņ)(K:Ï)(tg:bo)(J:It)(fp:ab ar)(it:ar)(tn:am->ê->Prop):Prop where
 mem:it∈fp
 obj:∀i h,tn i h->∀b∈fp,∃o,h.G b=a7 o/\∀v,o.data≠.kz v
 fv:∀i h h',tn i h->(∀b∈fp,∀o,h.G b=a7 o->h'.G b=a7 o)->tn i h'
 lm:∀(X:Cx),X.Y=P->X.w=w->X.K=K->q X->∀(i:am)(Do:jw)(s:Ø)(σ:St)(H:Hp)(E:ax->Ø->Prop),Â X Do σ H s->(∀b∈fp,jQ X Do H b)->tn i s.k->J.go i H->
  Ç (Ê P w) X.A (Ō<|.x it) (λr s1=>∃u,r=a7 u /\
   Ç (Ê P w) X.A (O9 tg (.x it) u) (λ_ s2=>UW X Do σ J fp tn i H u s2) E s1) E s
 k4:∀(X:Cx),X.Y=P->X.w=w->X.K=K->q X->∀(i:am)(Do:jw)(s:Ø)(σ:St)(H:Hp)(E:ax->Ø->Prop),Â X Do σ H s->(∀b∈fp,jQ X Do H b)->tn i s.k->J.stop i H->
  Ç (Ê P w) X.A (Ō<|.x it) (λr s1=>r=b0/\Â X Do σ H s1) E s
 lh:∀(A:ų)(i:am)(s:Ø)(Q:ax->Ø->Prop)(E:ax->Ø->Prop),tn i s.k->Q (.x it) s->Ç (Ê P w) A (aj<|.x it) Q E s
noncomputable abbrev TI:=St->Hp->(It->Hp->Prop)->Prop
inductive WF (q:Cx->Prop)(X:Cx)(Do:jw)(σ:St)(tg:bo)(R:It->Hp->Prop)(itv:ax)(s2:Ø):Prop
 |mk (it:ar)(fp:ab ar)(tn:am->ê->Prop)(J:It)(H':Hp)(e:itv=.x it)(I:Â X Do σ H' s2)(T:ı q X.Y X.w X.K tg J fp it tn)(t0:tn 0 s2.k)(f:∀b∈fp,jQ X Do H' b)(r:R J H'):WF q X Do σ tg R itv s2
noncomputable abbrev Bb:=WF Qc
def uU!(q:Cx->Prop)(X:Cx)(tg ea:bo)(b:TI):Prop:=
 ∀(Do:jw)(s:Ø)(σ:St)(H:Hp)(R:It->Hp->Prop),Â X Do σ H s->b σ H R->
  Ç (Ê X.Y X.w) X.A (eu ea X.M) (λv a=>Ç (Ê X.Y X.w) X.A (aj v) (WF q X Do σ tg R) X.xe a) X.xe s
noncomputable abbrev PI:=uU Qc
def qT(d:s.k.G b=a7 o)(hc:o.cls=.O n)(hd:o.data=.xi vs)(c:["enumerate","zip","dict_itemiterator","dict_reverseitemiterator","odict_iterator","itertools.zip_longest","itertools.pairwise"].zo n=b3)(a:Q ld.unit s):Ç M A (O9 tg (.x b) u) Q E s:=by
 ext O9
 ext tg<;>first
  | show É a
  | (ext u<;>first
    | show É a
    | (show Á<|Nr d ?_
       rw [hc,hd]
       change Ç M A (if (["enumerate","zip","dict_itemiterator","dict_reverseitemiterator","odict_iterator","itertools.zip_longest","itertools.pairwise"].zo n&&vs[0]? == a7 (Ł _))=b4 then _ else _) Q E s
       rw [ac<|by intro h;rw [c,Rh] at h;ext h]
       show É a))
def Bc! (K:Ï)(a:ar):It:=
 (fun i H=>∃ b x,Ā K H a b/\b[i]? = a7 x,fun i H x c=>c=H/\∀ b,Ā K H a b->b[i]? = a7 x,fun i H=>∃ b,Ā K H a b/\b.f<=i)
def Bd!(K:Ï)(a:ar):It:=
 (λi H=>∃b x,à K H a b/\b[i]?=a7 x,λi H x c=>c=H/\∀b,à K H a b->b[i]?=a7 x,λi H=>∃b,à K H a b/\b.f<=i)
def pL!(lo:ae)(n:am):It:=(λi y=>i<n,λi H x a=>a=H/\x=.p (lo+i),λi y=>n<=i)
def b7g{K:Ï}a j:ı Qc P w K tg (Bc K a) [j] j (λi h=>h.IsListIter j a i) where
 mem:=∅
 obj:=λi h st b g=>by
  let e:b=j:=by apply g
  subst e;let(o,e,c,d):=st;show(o,e,λv z=>by rw[d]at z;ext z)
 fv:=λi h y st k=>st.at λo e=>k j ∅ o e;lm:=by intro X Q hw O hc i n s Y H E I A st R;subst Q hw O;let(xs,x,B,T):=R;let(b5,U,p,hz):=I.vu B;let(u,hu,ru):=U.get T;let(G,J,f2,L,M,N):=A j ∅;show SV st p.xc (x:=u) (by apply hu) λy q sb=>?_;let Z:Â X n Y H {s with ce:=y}:=I.turned (t':=s.xh) (λb o g e=>(sb.2 b g).u e) G J L M N;let(o,e,c,d):=id q;show(u,?r,qT (s:={s with ce:=y}) e c d ⋯ (x,H,Z,ru,(?r,λys hy=>by rw[I.list_inj hy B];show T),q,λb g=>(A b g).1))
 k4:=by intro X Q hw O hc i n s Y H E I A st R;subst Q hw O;let(xs,B,T):=R;let(b5,U,p,hz):=I.vu B;let(G,J,f2,L,M,N):=A j ∅;let hl:=U.f;show Sv (I.ok.hd hc) st p.xc (by simp;lia) λy eb=>(?r,I.turned (t':=s.xh) (λb o g e=>eb b o g e) G J L M N)
 lh:=λ_ f f f f st h=>wpAny_pyIter_listiter st h
def b7Y{K:Ï}a j:ı Qc P w K tg (Bd K a) [j] j (λi h=>h.IsTupleIter j a i) where
 mem:=∅
 obj:=λi h st b g=>by
  let e:b=j:=by apply g
  subst e;let(o,e,c,d):=st;show(o,e,λv z=>by rw[d]at z;ext z)
 fv:=λi h y st k=>st.at λo e=>k j ∅ o e;lm:=by intro X Q hw O hc i n s Y H E I A st R;subst Q hw O;let(xs,x,B,T):=R;let(b5,U,p,hz):=I.kl B;let(u,hu,ru):=U.get T;let(G,J,f2,L,M,N):=A j ∅;show TJ st (show s.k.ko a b5.E from p) (x:=u) (by apply hu) λy q sb=>?_;let Z:Â X n Y H {s with ce:=y}:=I.turned (t':=s.xh) (λb o g e=>(sb.2 b g).u e) G J L M N;let(o,e,c,d):=id q;show(u,?r,qT (s:={s with ce:=y}) e c d ⋯ (x,H,Z,ru,(?r,λys hy=>by rw[I.tuple_inj hy B];show T),q,λb g=>(A b g).1))
 k4:=by intro X Q hw O hc i n s Y H E I A st R;subst Q hw O;let(xs,B,T):=R;let(b5,U,p,hz):=I.kl B;let(G,J,f2,L,M,N):=A j ∅;let hl:=U.f;show T8 (I.ok.hd hc) st (show s.k.ko a b5.E from p) (by simp;lia) λy eb=>(?r,I.turned (t':=s.xh) (λb o g e=>eb b o g e) G J L M N)
 lh:=λ_ f f f f st h=>wpAny_pyIter_tupleiter st h
def Fd{K:Ï}a lo n:ı Qc P w K tg (pL lo n) [a] a (λi h=>ou h a (lo+(i:am)*1) ((n:ae)-(i:am)) 1) where
 mem:=∅
 obj:=λi h st b c=>by
  let e:b=a:=by apply c
  subst e;show(_,st,λv z=>by
   let U:ğ _=uh v:=z;ext U)
 fv:=λi h j st k=>k a ∅ _ st;lm:=by intro X G hw B hc i d s M H E I p st J;subst G hw B;let(q,u,Q,x,y,A):=p a ∅;let W:=S8 (dv:=X.Y) (w:=X.w) (I.ok.hd hc) a lo 1 n;show W.item i s _ _ J st λv j L R g T=>?_;let(t,?r):=R;let N:Â X d M H {s with ce:=j,dL:=L}:=I.turned (λb o c e=>T b o (by apply c) e) q u x y A;show(_,?r,qT (s:={s with ce:=j,dL:=L}) (n:="range_iterator") g ?r ?r ⋯ (.p<|lo+i,H,N,(t,?_),(?r,?r),g,λb c=>(p b c).1));rw[ae.mul_one]
 k4:=by intro X G hw B hc i d s M H E I p st J;subst G hw B;let(q,u,Q,x,y,A):=p a ∅;show SW (I.ok.hd hc) st (by have:n<=i:=J;lia) λj O=>(?r,I.turned (t':=s.xh) (λb o c e=>O b o c e) q u x y A)
 lh:=λ_ f f f f st h=>SU st h
section
variable{X:Cx}{tg:Expr}
def Fe(tr:∀c lo n,ı q X.Y X.w X.K tg (pL lo n) [c] c λi h=>ou h c (lo+(i:am)*1) ((n:ae)-(i:am)) 1){σ:St}{lo:ae}(I:Â X Do σ H s)(h1:-(2^62)<=lo)(j:lo<2^62)(k:-(2^62)<=hi)(p:hi<2^62)(w:R (pL lo (hi-lo).zi) H):Ç (Ê X.Y X.w) X.A (aj<|.x s.k.y.q) (WF q X Do σ tg R) E {s with ce:=s.k.zl {cw:=.O "range",bv:=.xi #[.p lo t,.p hi u,.p 1 v]},dL:=tk}:=by
 show Rb (Rj ..) (small_one h1 j k p) ?_;let a:Â X Do σ H {s with ce:=s.k.zl {cw:=.O "range",bv:=.xi #[.p lo t,.p hi u,.p 1 v]},dL:=tk}:=I.vx λb o e=>ä _ e;show((s.k.zl {cw:=.O "range",bv:=.xi #[.p lo t,.p hi u,.p 1 v]}).objs.size,[(s.k.zl {cw:=.O "range",bv:=.xi #[.p lo t,.p hi u,.p 1 v]}).objs.size],_,_,H,?r,
  a.vx (t':=tk) λb o e=>ä _ e,tr _ lo (hi-lo).zi,?_,λb x=>?_,w)
 .let d:lo+((0:am):ae)*1=lo:=∅
  let g:(((hi-lo).zi:am):ae)-((0:am):ae)=ϳ lo hi 1:=by rw[rangeSize_one];lk<;>lia
  change ou _ _ (lo+((0:am):ae)*1) ((((hi-lo).zi:am):ae)-((0:am):ae)) 1;rw[d,g];show ÿ _ ?r
 .let e:b=(s.k.zl {cw:=.O "range",bv:=.xi #[.p lo t,.p hi u,.p 1 v]}).objs.size:=by apply x
  subst e;show a.fpOk (Ô _)<|a.vr.xo<|Ô _
def b7X!(b:TA):TI:=λσ H R=>b σ H λvs a=>∃j:ae,vs=[.p j]/\-(2^62)<=j/\j<2^62/\R (pL 0 j.zi) a
def b7W!(b:TA):TI:=λσ H R=>b σ H λvs a=>∃i j:ae,vs=[.p i,.p j]/\(-(2^62)<=i/\i<2^62/\-(2^62)<=j/\j<2^62)/\R (pL i (j-i).zi) a
def b7S(tr:∀c lo n,ı q X.Y X.w X.K tg (pL lo n) [c] c λi h=>ou h c (lo+(i:am)*1) ((n:ae)-(i:am)) 1)(u:Gl X "range")(v:X.mg "range"=b0)(o:PA X [a] g)(w:ð [a] X.M=[⟨b3,eu a X.M⟩]:=by rfl):uU q X tg (.xz (.xk "range" p) [a] [] ca) (b7X g):=by
 intro b s B H R I h;show my<|i9 I u v Oy<|gj (aR (o ca b s B H _ I h) λJ G (K,E,k,z,d)=>?_) w ?r;let(j,e,d,x,y):=d;subst e;cases z with
 |bm r A=>ext A;let(t,?r):=r;show call_range_1<|Fe tr k () () d x<|by apply y
def b6u(v:Gl X "range")(w:X.mg "range"=b0)(u:PA X [a,b] n)(x:ð [a,b] X.M=[⟨b3,eu a X.M⟩,⟨b3,eu b X.M⟩]:=by rfl)(c:ð [b] X.M=[⟨b3,eu b X.M⟩]:=by rfl):
  PI X tg (.xz (.xk "range" p) [a,b] [] ca) (b7W n):=by
 intro d s G H R I h;show my (i9 I v w Oy<|gj (aR (u ca d s G H _ I h) λM K (N,J,o,E,g)=>?_) (by rw[x,c])<|by rw[c];rfl);obtain(i|j|e|(g|y|z|A)|q):=g;subst e;cases E with
 |bm r k=>
  cases k with
  |bm B k=>ext k;let(t,?r):=r;let(L,?r):=B;show call_range_2<|Fe Fd o g y z A q
def b6t!(k:TI)(g:TG)(j:TS):TS:=λD σ H=>k σ H λJ e=>∃W:am->am->St->Hp->Prop,(∃m,W 0 m σ e)/\∀i m σ H,W i m σ H->
 (J.stop i H/\D.nx σ H)\/(J.go i H/\∃N:St->Hp->Prop,(∀b a,N b a->∃d,d<m/\W (i+1) d b a)/\∀x a,J.yld i H x a->g x σ a λc h=>j {D with nx:=N,ct:=N,bk:=D.nx} c h)
def uV!(a:ab ar)(h:ê):jw:=a.vv λb=>(h.G b).o λo=>⟨b,o⟩
def xS(c:b∈a)(e:h.G b=a7 o):⟨b,o⟩∈uV a h:=Qg.v (b,c,by rw[e];rfl)
def b1t(g:p∈uV a h):p.1∈a/\h.G p.1=a7 p.2:=by
 let(b,d,e):=Qg.Z g;cases q:h.G b with
 |bp=>rw[q]at e;ext e|bb o=>rw[q]at e;let c:⟨b,o⟩=p:=Ĕ e;subst c;show(d,q)
def Â.pinned{σ:St}(I:Â X Do σ H s)(k:∀b∈a,jQ X Do H b)(n:∀b∈a,∃o,s.k.G b=a7 o/\∀v,o.data≠.kz v):Â X (Do++uV a s.k) σ H s:=
 I.pins_of λp q=>(Ĺ.Z q).vl (λz=>I.pin p<|bj _ z) λz=>by let(g,e):=b1t z;let(h,i,j,_):=k p.1 g;let(o,c,d):=n p.1 g;rw[e]at c;ext c;show(e,h,i,j,d)
def Â.unpinned{σ:St}(I:Â X (Do++pl) σ H s):Â X Do σ H s:=I.pins_of λp a=>I.pin p<|bj _<|Sx _ a
inductive RB (X:Cx)(Do:jw)(tn:am->ê->Prop)(fp:ab ar)(W:am->am->St->Hp->Prop)(n:am)(s':Ø):Prop
 |mk (i:am)(oa:St)(H':Hp)(I:Â X Do oa H' s')(t:tn i s'.k)(f:∀b∈fp,H' b=b0)(w:W i n oa H'):RB X Do tn fp W n s'
def b1s(G:yw (Ê X.Y X.w) X.A X.M X.xe)(hc:X.vn=b4)(hi:PI X tg ea wi)(hg:PG X tg g)(q:ş X gi tb)(hs:∀x,wu ea X.M x=ej x:=by intro _;rfl):PS X (.For tg ea gi [] ca) (b6t wi g tb):=by
 intro c s σ H D I h;show wpAny_For (aR (hi c s σ H _ I h) λv s1 h1=>aR h1 λitv s2 h2=>?_) hs;obtain(it|B|tn|J|H2|e|I2|T|Y|f2|W|(m0|w0)|turn):=h2;subst e
  -- what stays b4 of the iterator's objects through the loop
 let w:∀{H':Hp},(∀b∈B,H' b=b0)->∀b∈B,jQ X c H' b:=λhn b q=>(hn b q,(f2 b q).2);show codeAny_forLoop_any (RB X c tn B W) ?_ m0 (0,σ,H2,I2,Y,λb q=>(f2 b q).1,w0);rintro n s3 (i|y|O|I3|L|E|w3);rcases turn i n y O w3 with(M|qn)|(go|N|hN|step)
 .show qt G<|aR (T.done X ?r ?r ?r hc i c s3 y O X.xe I3 (w E) L M) λr s4 (U,I4)=>?_;subst U;show OB (y,O,I4,qn)
 .show qt G<|aR (T.item X ?r ?r ?r hc i c s3 y O X.xe I3 (w E) L go) λr s4 (u,U,h4)=>?_;subst U;show qt G<|aR h4 λ_ s5 (x,H5,I5,r5,y5,A,R)=>?_;let Q:=I5.pinned (w R)<|T.obj _ _ A;show qt G<|aR (hg _ s5 y H5 x u _ Q r5<|step x H5 y5) λ_ s6 (Z,H6,I6,q6)=>?_;show qt G<|aR (q _ s6 Z H6 _ I6 q6) λf s7 z=>?_;let p:∀{a:St}{j:Hp},Â X (c++uV B s5.k) a j s7->N a j->∃m,m<n/\RB X c tn B W m s7:=λ{a j} k K=>by let(m',hm,w7):=hN a j K;show(m',hm,i+1,a,j,k.unpinned,T.keep _ _ _ A λb q o e=>(k.pin ⟨b,o⟩<|bj _<|bj _<|xS q e).1,λb q=>?_,w7);let(o,e,d):=T.obj _ _ A b q;show(k.pin ⟨b,o⟩<|bj _<|bj _<|xS q e).2.1
  cases f with
  |nw=>let(a,j,k,K):=z;show p k K|n0=>let(a,j,k,K):=z;show p k K|brk=>let(a,j,k,z):=z;show(a,j,k.unpinned,z)|ret v=>let(x7,a,j,k,r7,z):=z;show(x7,a,j,k.unpinned,r7,z)
end
noncomputable abbrev R2:=V->V->Hp->VK->Prop
def Ē!(X:Cx)(f:ax->ax->ϩ ax)(r:R2):Prop:=
 ∀(Do:jw)(s:Ø)(σ:St)(H:Hp)(x y:V)(v u:ax)(Q:VK),Â X Do σ H s->Í x v->Í y u->r x y H Q->
  Ç (Ê X.Y X.w) X.A (f v u) (EP X Do σ Q) X.xe s
def Be!(X:Cx)(f:ax->ϩ ax)(r:V->Hp->VK->Prop):Prop:=
 ∀(Do:jw)(s:Ø)(σ:St)(H:Hp)(x:V)(v:ax)(Q:VK),Â X Do σ H s->Í x v->r x H Q->
  Ç (Ê X.Y X.w) X.A (f v) (EP X Do σ Q) X.xe s
def ß!(X:Cx)(f:ax)(r:gz->Hp->VK->Prop):Prop:=
 ∀(Do:jw)(s:Ø)(σ:St)(H:Hp)(xs:gz)(us:gw)(Q:VK),Â X Do σ H s->Æ xs us->r xs H Q->
  Ç (Ê X.Y X.w) X.A (ia f us) (EP X Do σ Q) X.xe s
def b1c!(X:Cx)(r:V->Hp->(av->Hp->Prop)->Prop):Prop:=
 ∀(Do:jw)(s:Ø)(σ:St)(H:Hp)(x:V)(v:ax)(Q:av->Hp->Prop),Â X Do σ H s->Í x v->r x H Q->
  Ç (Ê X.Y X.w) X.A (truthy v) (TP X Do σ Q) X.xe s
def uW!(r:R2)(c d:TE):TE:=λσ H Q=>c σ H λx a=>d σ a λy b=>r x y b Q
def b1a!(r:V->Hp->VK->Prop)(b:TE):TE:=λσ H Q=>b σ H λx a=>r x a Q
def rI!(C:ae->ae->Prop)(g:ae->ae->V):R2:=λx y H Q=>∃i j,x=.p i/\y=.p j/\C i j/\Q (g i j) H
def kI!(g:ae->ae->V):R2:=λx y H Q=>∃i j,x=.p i/\y=.p j/\Q (g i j) H
def rU!(g:ae->V):V->Hp->VK->Prop:=λx H Q=>∃i,x=.p i/\Q (g i) H
def Bf(o:PE X a ta)(p:PE X b tb){σ:St}{R:V->V->Hp->Prop}(I:Â X Do σ H s)(h:ta σ H λx j=>tb σ j λy d=>R x y d){f:ax->ax->ϩ ax}(q:∀v u i x y d,Â X Do σ d i->Í x v->Í y u->R x y d->Ç (Ê X.Y X.w) X.A (f v u) Q X.xe i):
  Ç (Ê X.Y X.w) X.A (eu a X.M) (λv e=>Ç (Ê X.Y X.w) X.A (eu b X.M) (λu g=>Ç (Ê X.Y X.w) X.A (f v u) Q X.xe g) X.xe e) X.xe s:=by
 show aR (o Do s σ H _ I h) λv E (x,j,k,A,w)=>?_;show aR (p Do E σ j _ k w) λu i (y,d,n,B,z)=>?_;show q v u i x y d n A B z
def b1S(k:Ē X (ι op) r)(i:PE X a ta)(j:PE X b tb):PE X (.BinOp a op b ca) (uW r ta tb):=by intro d s w H Q I h;show wpAny_BinOp<|Bf i j I h λv u p x y e g n o q=>k d p w e x y v u Q g n o q
def b1E(k:Be X (unaryOp op) r)(j:PE X a ta):PE X (.UnaryOp op a ca) (b1a r ta):=by intro d s e H Q I h;show UnaryOp_<|aR (j d s e H _ I h) λv p (x,g,i,o,n)=>k d p e g x v Q i o n
def xT{g:ae->ae->ae}(d:∀i j t u s Q E,C i j->Q (.p (g i j) s.xh) {s with dL:=s.xh+1}->Ç (Ê X.Y X.w) X.A (f (.p i t)<|.p j u) Q E s):
  Ē X f (rI C λi j=>.p<|g i j):=by
 intro e s p H x y v u Q I k n h;let(i,j,?r,?r,hc,q):=h;let(t,?r):=k;let(o,?r):=n;show d i j t o s _ _ hc (.p<|g i j,H,I.tok _,(_,?r),q)
def Ff{g:ae->ae->ae}(d:∀i j t u s Q E,Q (.p (g i j) s.xh) {s with dL:=s.xh+1}->Ç (Ê X.Y X.w) X.A (f (.p i t)<|.p j u) Q E s):
  Ē X f (kI λi j=>.p<|g i j):=by
 intro e s p H x y v u Q I k n h;let(i,j,?r,?r,q):=h;let(t,?r):=k;let(o,?r):=n;show d i j t o s _ _ (.p<|g i j,H,I.tok _,(_,?r),q)
def xU{g:ae->ae->av}(d:∀i j t u s Q E,Q (.kt<|g i j) s->Ç (Ê X.Y X.w) X.A (f (.p i t)<|.p j u) Q E s):
  Ē X f (kI λi j=>.bl<|g i j):=by
 intro e s p H x y v u Q I k n h;let(i,j,?r,?r,q):=h;let(t,?r):=k;let(o,?r):=n;show d i j t o s _ _ (.bl<|g i j,H,I,?r,q)
def b1D!(i j:ae):Prop:=0<=j/\j<=1000000/\i.natAbs<2^64
def rn!(i j:ae):Prop:=(-(2^64)<i/\i<2^64)\/(-(2^64)<j/\j<2^64)
def rn.ok(h:rn i j):NW i j:=by
 rcases h with(h1|d)|(h1|d)
 .show .of_left<|intBits_le_64 h1 d
 .show .of_right<|intBits_le_64 h1 d
def mU:Ē X (ι .Add) (kI λi j=>.p<|i+j):=Ff λ_ x x x x x x q=>add_int q
def b1A:Ē X (ι .Sub) (kI λi j=>.p<|i-j):=Ff λ_ x x x x x x q=>sub_int q
def b0y:Ē X (ι .Mod) (rI (λ_ j=>0<j) λi j=>.p<|i%j):=xT λi j x x x x x hc q=>by let h1:(0:ae)<j:=hc;show mod_int' ()<|by rw[ae.fmod_eq_emod_of_nonneg i ()];show q
def sR{g:ae->ae}(d:∀i t s Q E,Q (.p (g i) s.xh) {s with dL:=s.xh+1}->Ç (Ê X.Y X.w) X.A (f<|.p i t) Q E s):
  Be X f (rU λi=>.p<|g i):=by
 intro e s k H x v Q I j h;let(i,?r,q):=h;let(t,?r):=j;show d i t s _ _ (.p<|g i,H,I.tok _,(_,?r),q)
def b0t:Be X (unaryOp .USub) (rU λi=>.p<|-i):=sR λ_ x x x x q=>neg_int q
def qU{σ:St}(I:Â X Do σ H s)(q:Q (.bl k) H)(e:k=k'):EP X Do σ Q (.kt k') s:=by subst e;show(.bl k,H,I,?r,q)
def Bg:Ē X (Ķ .Lt) (kI λi j=>.bl<|ag<|i<j):=xU λ_ x x x x x x q=>lt_int q
def Bh:Ē X (Ķ .LtE) (kI λi j=>.bl<|ag<|i<=j):=xU λ_ x x x x x x q=>le_int q
def Bi:Ē X (Ķ .Gt) (kI λi j=>.bl<|ag<|j<i):=xU λ_ x x x x x x q=>gt_int q
def Bj:Ē X (Ķ .GtE) (kI λi j=>.bl<|ag<|j<=i):=xU λ_ x x x x x x q=>ge_int q
def Fg:Ē X (Ķ .In) (λx y H Q=>∃i j,x=.jv i/\y=.jv j/\Q (.bl<|!(lg j i 0 j.f 1).qk) H):=by intro d s n H x y v u Q I e g h;let(i,j,?r,?r,q):=h;let(t,?r):=e;let(k,?r):=g;show in_str<|qU I q ?r
def Fh:Ē X (Ķ .Is) (λx y H Q=>y=.kf/\Q (.bl<|ag<|x=.kf) H):=by
 intro e s i H x y v u Q I d g h;let(?r,q):=h;ext g;show is_none_gen<|qU I q ?_;ext x<;>first
  |(ext d;rfl)|(let(t,?r):=d;rfl)
def Fi:Ē X (Ķ .IsNot) (λx y H Q=>y=.kf/\Q (.bl<|!ag (x=.kf)) H):=by
 intro e s i H x y v u Q I d g h;let(?r,q):=h;ext g;show isnot_none_gen<|qU I q ?_;ext x<;>first
  |(ext d;rfl)|(let(t,?r):=d;rfl)
def Ē.or(h:Ē X f r)(h':Ē X f e):Ē X f (λx y H Q=>r x y H Q\/e x y H Q):=by
 intro d s j H x y v u Q I g i q;rcases q with q|q
 .show h d s j H x y v u Q I g i q
 .show h' d s j H x y v u Q I g i q
def gH b(h:op≠.In:=by decide)(g:op≠.NotIn:=by decide):jm op b=ai:=by
 let d:(op==CmpOp.In)=ai:=by ext op<;>first|rfl|show cb ?r h
 let e:(op==CmpOp.NotIn)=ai:=by ext op<;>first|rfl|show cb ?r g
 ext b<;>simp[jm,d,e]
def b0r(n:Ē X (Ķ op) r)(i:PE X a ta)(j:PE X b tb)(k:jm op b=b3):PE X (.qq a [op] [b] ca) (uW r ta tb):=by intro d s z H Q I h;show RR (Bf i j I h λv u w x y e g o p q=>n d w z e x y v u Q g o p q) k
def Fj!(t:TE):TT:=λσ H Q=>t σ H λx d=>∃k,x=.bl k/\Q k d
def b0n(E:Ē X (Ķ op) r)(w:PE X a ta)(A:PE X b tb)(B:jm op b=b3):PT X (.qq a [op] [b] ca) (Fj<|uW r ta tb):=by
 intro d s g H Q I h;show wpAny_isTrue_Compare1 (aR (w d s g H _ I h) λv O (x,i,o,L,G)=>aR (A d O g i _ o G) λu R (y,j,p,M,J)=>
  aR (E d R g j x y v u _ p L M J) λc T (z,n,q,N,k,e,K)=>?_) B
 subst e;ext N;show J3 (n,q,K)
def Bk!(r i:R2)(ta tb tc:TE):TE:=λσ H Q=>ta σ H λx e=>tb σ e λy g=>r x y g λz d=>∃k,z=.bl k /\
 (if k=b4 then tc σ d λj h=>i y j h Q else Q (.bl b3) d)
def b0l(R:Ē X (Ķ op) r)(n:Ē X (Ķ i) w)(M:PE X a ta)(N:PE X b tb)(hc:PE X c tc)(O:P6 [op,i] [b,c]=ai:=by with_unfolding_all rfl):PE X (.qq a [op,i] [b,c] ca) (Bk r w ta tb tc):=by
 intro g s j H Q I h;show Compare_chain (aR (M g s j H _ I h) λv s1 (x,B,J,Z,T)=>chain_link<|aR (N g s1 j B _ J T) λu s2 (y,E,K,A,U)=>
  aR (R g s2 j E x y v u _ K Z A U) λd s3 (z,o,p,r3,k,e,q)=>?_) O
 subst e;ext r3;show J3 ?_;cases k with
 |ai=>show ite_ff (.bl b3,o,p,?r,q)|bt=>show ite_tt<|chain_last<|aR (hc g s3 j o _ p q) λw' s4 (z',G,L,r4,Y)=>n g s4 j G y z' u w' Q L A r4 Y
def b0j(Z:Ē X (Ķ op) r)(n:Ē X (Ķ i) w)(T:PE X a ta)(U:PE X b tb)(hc:PE X c tc)(Y:P6 [op,i] [b,c]=ai:=by with_unfolding_all rfl):PT X (.qq a [op,i] [b,c] ca) (Fj<|Bk r w ta tb tc):=by
 intro g s j H Q I h;show isTrue_chain (aR (T g s j H _ I h) λv s1 (x,B,K,r1,q1)=>test_link<|aR (U g s1 j B _ K q1) λu s2 (y,E,L,A,q2)=>
  aR (Z g s2 j E x y v u _ L r1 A q2) λd s3 (z,o,p,r3,k,e,q)=>?_) Y
 subst e;ext r3;show J3 ?_;cases k with
 |ai=>let(k',O,q'):=q;ext O;show ite_ff (o,p,q')|bt=>show ite_tt<|test_last<|aR (hc g s3 j o _ p q) λw' s4 (z',G,M,r4,q4)=>aR (n g s4 j G y z' u w' _ M A r4 q4) λd' s5 (z2,J,N,r5,k2,R,q5)=>?_;subst R;ext r5;show J3 (J,N,q5)
def Bl!(K:Ï)(x:V)(H:Hp)(k:av):Prop:=
 match x with
 |.kf=>k=b3|.bl b=>k=b|.p i=>k=(i != 0)|.jv y=>y.f<=Ò/\k=((y.f:ae) != 0)|.byt y=>y.q<=Ò/\k=((y.q:ae) != 0)|.x p=>(∃e,Ā K H p e/\k=!e.qk)\/(∃e,à K H p e/\k=!e.qk)\/∃d,H p=a7 (.dK d)/\k=!d.qk|_=>ef
def b0W{ay:ab (κ×V)}{vs:ab (κ×ax)}(r:KV ay vs):(!vs.qk)=!ay.qk:=by ext r<;>rfl
def Fm(r:Æ xs b5):(!b5.E.qk)=!xs.qk:=by ext r<;>simp
def qV:(Ò:am)<2^63:=by rw[õ];decide
def b0U:b1c X (λx H Q=>∃k,Bl X.K x H k/\Q k H):=by
 intro A s K H x v Q I o h;let(k,e,q):=h;let G:=qV;let J:Ò=16777216:=õ;cases x with
 |g7=>ext o;let d:k=ai:=e;subst d;show truthy_none (H,I,q)|bl b=>ext o;let d:k=b:=e;subst d;show J3 (H,I,q)|gv i=>let(t,?r):=o;let d:k=(i != 0):=e;subst d;show ci.P.truthy_int (H,I,q)|gy y=>let(t,?r):=o;obtain(E|d):y.f<=Ò/\k=((y.f:ae) != 0):=e;subst d;show ci.P.truthy_str () (H,I.tok _,q)|byt y=>let(t,?r):=o;obtain(E|d):y.q<=Ò/\k=((y.q:ae) != 0):=e;subst d;show ci.W.truthy_bytes () (H,I.tok _,q)|ref p=>
  ext o;let d:(∃n,Ā X.K H p n/\k=!n.qk)\/(∃n,à X.K H p n/\k=!n.qk)\/∃g,H p=a7 (.dK g)/\k=!g.qk:=e;rcases d with(n|u|d)|(n|u|d)|(g|u|d)
  .subst d;let(b5,r,pl,z):=I.vu u;let j:=r.f;show wpAny_truthy_list pl.xc (by dsimp[Ģ];lia) (H,I.tok _,by rw[Fm r];show q)
  .subst d;let(b5,r,pl,z):=I.kl u;let j:=r.f;show truthy_tuple pl (by dsimp[Ģ];lia) (H,I.tok _,by rw[Fm r];show q)
  .subst d;obtain(z|B|w|r|m):g.f<=Ò/\(p==Ļ)=b3/\∃w,KV g w/\s.k.DictOf (jP X.Y X.w) p w:=I.vr p _ u;let j:g.f=w.f:=Sg r;show wpAny_truthy_dict B m () (H,I.tok _,by rw[b0W r];show q)
 |_=>show(show ef from e).vl
def b0L(o:PE X a ta)(p:∀d,su a X.M d=(do let v <- d;ue a.pos;ip [v] (truthy v))):
  PT X a (λg H Q=>ta g H λx i=>∃k,Bl X.K x i k/\Q k i):=by
 intro e s g H Q I h;show isTrue_plain (aR (o e s g H _ I h) λv w (x,j,n,u,q)=>b0U e w g j x v Q n u q)<|p _
def η:Ē X (ι .Add) (λx y H Q=>∃i j,x=.jv i/\y=.jv j/\i.f+j.f<=Ò/\Q (.jv<|i++j) H):=by intro d s p H x y v u Q I g k h;let(i,j,?r,?r,e,q):=h;let(t,?r):=g;let(n,?r):=k;show add_str (λn o=>(.jv<|i++j,H,I.tok _,(_,?r),q)) e
def hJ(r:Æ [x] us):∃u,us=[u]/\Í x u:=by
 cases r with
 |bm d e=>ext e;show(_,?r,d)
def uX(r:Æ [x,y] us):∃u d,us=[u,d]/\Í x u/\Í y d:=by
 cases r with
 |bm e g=>
  cases g with
  |bm h i=>ext i;show(_,_,?r,e,h)
def b0J(hc:X.vn=b4):ß X (.zn "max") (λxs H Q=>∃i j,xs=[.p i,.p j]/\Q (.p<|if j>i then j else i) H):=by
 intro e s w H xs p Q I r h;let(i,j,?r,q):=h;obtain(u|v|rfl|(t|rfl)|(n|rfl)):=uX r;show max_two_ints (I.ok.hd hc) λg o k=>(_,H,I.vx k,?_,q);by_cases d:j>i
 .rw[ad d,ad d];show(_,?r)
 .rw[ac d,ac d];show(_,?r)
def b0C(hc:X.vn=b4):ß X (.zn "min") (λxs H Q=>∃i j,xs=[.p i,.p j]/\Q (.p<|if j<i then j else i) H):=by
 intro e s w H xs p Q I r h;let(i,j,?r,q):=h;obtain(u|v|rfl|(t|rfl)|(n|rfl)):=uX r;show min_two_ints (I.ok.hd hc) λg o k=>(_,H,I.vx k,?_,q);by_cases d:j<i
 .rw[ad d,ad d];show(_,?r)
 .rw[ac d,ac d];show(_,?r)
structure υ(h:ê)(x dx C:ar)(mA:cf->af ax):Prop where
 obj:h.G x=a7 (jh C dx)
 ns:h.Ns1 dx mA
 ne:dx≠x
open _root_ in
def b0B{h:ê}(n:h.Ns1 c g):∃i,h.G c=a7 i/\∀fg,OP fg i=a7 (g fg):=by
 let(o,d,v,s,hd,k,_,p):=n;show(o,s,λfg=>?_);let e:=p fg;unfold nsFind findBy at e;rw[<- eh.find?_toList]at e;ext OP;rw[hd];dsimp;lk
 .rename_i y q;rw[q]at e;show br a7 e
 .rename_i q;rw[q]at e;let a:d.zh.any (·.refKey)=ai:=by rw[QV];intro y u;let(z,t,b):=k y<|eh.mem_toList_iff.Z u;simp[eg.refKey,b]
  let j:¬ d.zh.any (·.refKey)=bt:=by rw[a];show þ
  rw[ac j];show br a7 e
def υ.look(I:υ h x b C c):∃a,ci.W.InstAt h x (jh C b) C (a7 a)/\∀fg,OP fg a=a7 (c fg):=
 let(a,e,d):=b0B I.ns
 (a,(I.obj,?r,?r,e),d)
def a9r{K:Ï}(X:K.In s.k)(I:υ s.k x dx C mA)(d:N2 K C fg=b4)(e:OM K C=b4)(c:Ϟ K (.x C) fg=a7 b0)(i:mA fg=a7 v)(b:TQ v=b4)(h:Q v {s with dL:=s.xh+1}):
  Ç (Ê dv w) A (getAttr (.x x) fg a) Q E s:=by
 let(j,J,g):=I.look;show ci.W.get_value X J (QR d).1 (ci.W.findObj_own e c ?r<|by rw[g,i]) b h
def a9p{K:Ï}(X:K.In s.k)(I:υ s.k x dx C mA)(a:N2 K C fg=b4)(b:Ϟ K (.x C) fg=a7 (a7<|.x f))(d:OH K (.x f)=b4)(e:mA fg=b0)(h:Q ⟨.x f,[.x x]⟩ s):
  Ç (Ê dv w) A (za (.x x) fg pl) Q E s:=by
 let(g,J,c):=I.look;show ci.W.method_fn X J (QR a).1 (QR a).2 b (bg.Z d) (by change(OP fg g).o (·.qh)=a7 b3;rw[c,e];rfl) h
def a9m{K:Ï}(X:K.In s.k)(I:υ s.k x dx C mA)(q:Ϟ K (.x C) "__setattr__"=a7 (a7<|.zn "object.__setattr__"))(p:QD K C=b4)(u:Q3 K C fg=a7 b0)(o:OM K C=b4)(hw:Pn mA ns)(hsz:ns.f<=Ò)(h:∀d,υ d x dx C (λy=>if y=fg then a7 v else mA y)->ū dx s.k d->Q ld.unit {s with ce:=d,dL:=s.xh+2}):
  Ç (Ê dv w) A (setAttr (.x x) fg v) Q E s:=by
 let(L,J,G):=I.look;show ci.W.set_plain X J q<|ci.W.osa_open (s:={s with dL:=s.xh+1}) (r:=b0) X J p u λb=>?_;let(B,hc,g):=ci.W.any_some o;let z:s.k.G x=a7 (.x C,a7 dx,.plain,#[]):=I.obj;show Á<|É<|Á<|Á<|wpAny_loadPart z<|Á<|b7a (s:={s with dL:=s.xh+1}) (ci.W.looks_clsIn X hc) ?_;rw[g];show É (a:=a7 dx)<|Á<|É<|Á ?_;show wpAny_nsSet1 (s:={s with dL:=s.xh+1}) I.ns λd a c=>?_;let(H,n,k,j,i,e):=a.count<|b7r fg v hw;show Á (wpAny_lookBehind j (by rw[i];show pastItsLine_dict<|ĥ e<|by rw[ĩ];lia) ?_);show É<|h _ ((c.2 _<|ì I.ne).u I.obj,a,I.ne) c
def a9l{s:Ø}{K:Ï}{vs:gw}(X:K.In s.k)(e:Q2 K C=b4)(hi:Ϟ K (.x C) "__init__"=a7 (a7<|.x f))(c:ci.W.typeIn K (.x f)=a7 (.O "function"))(h:Ρ (Ê dv w) (A.under<|.zn "type.__call__" (.x C::vs,b)) (.call (.x f) (.x (s.k.y.q+1)::vs,b)) (ci.W.InitBack (s.k.y.q+1) R)
   {s with ce:=(s.k.zl fC).zl<|jh C s.k.y.q}):
  Ρ (Ê dv w) A (.call (.x C) (vs,b)) R s:=by
 let(i,g,d,t,j):=s;show ci.W.make_core (ci.W.makes_of X e) (ci.W.looks_findIn X hi) (λa=>ci.W.bind_fn X a c) (.Q ?r) h
def gQ!(f:cf)(v:V):ab (cf×V)->ab (cf×V)
 |[]=>[⟨f,v⟩]|⟨g,x⟩::r=>if g=f then⟨g,v⟩::r else⟨g,x⟩::gQ f v r
def Fn f g v:∀fs,(gQ f v fs).B g=if g=f then a7 v else fs.B g
 |[]=>by
  change Τ g [⟨f,v⟩]=_;by_cases h:g=f
  .let a:(g==f)=bt:=bg.v h;dsimp[Τ,a,ad h]
  .let a:(g==f)=ai:=cv.v h;dsimp[Τ,a,ac h]
 |⟨k,x⟩::r=>by
  let c:=Fn f g v r;rw[show gQ f v (⟨k,x⟩::r)=(if k=f then⟨k,v⟩::r else⟨k,x⟩::gQ f v r)from ?r];by_cases b:k=f
  .rw[ad b];by_cases h:g=k
   .let a:(g==k)=bt:=bg.v h;dsimp[Τ,a,ad<|h.u b]
   .let a:(g==k)=ai:=cv.v h;dsimp[Τ,a,ac λe:g=f=>h<|e.u b.R]
  .rw[ac b];by_cases h:g=k
   .let a:(g==k)=bt:=bg.v h;dsimp[Τ,a,ac λe:g=f=>b<|h.R.u e]
   .let a:(g==k)=ai:=cv.v h;dsimp[Τ,a];show c
def Bm f v:∀fs,f∈(gQ f v fs).o (·.1)/\∀g,g∈fs.o (·.1)->g∈(gQ f v fs).o (·.1)
 |[]=>(by simp[gQ],λg h=>by simp at h)|⟨k,x⟩::r=>by
  let(b,c):=Bm f v r;rw[show gQ f v (⟨k,x⟩::r)=(if k=f then⟨k,v⟩::r else⟨k,x⟩::gQ f v r)from ?r];by_cases a:k=f
  .rw[ad a];subst a;show(∅,λg h=>by apply h)
  .rw[ac a];show(?_,λg h=>?_)
   .rw[í];show ķ _ b
   .rw[í]at h ⊢;rcases ē.Z h with e|e
    .show ē.v<|.Q e
    .show ķ _<|c g e
def Fo f v:∀fs,(gQ f v fs).f<=fs.f+1
 |[]=>by simp[gQ]
 |⟨k,x⟩::r=>by
  let b:=Fo f v r;rw[show gQ f v (⟨k,x⟩::r)=(if k=f then⟨k,v⟩::r else⟨k,x⟩::gQ f v r)from ?r];by_cases a:k=f
  .rw[ad a,ĩ,ĩ];lia
  .rw[ac a,ĩ,ĩ];lia
def Į.some_of(r:Į (a7 v) o):∃u,o=a7 u/\Í v u:=by
 cases o with
 |bp=>show(show ef from r).vl|bb u=>show(u,?r,r)
def Į.none_of(r:Į b0 o):o=bp:=by
 cases o with
 |bp=>rfl|bb u=>show(show ef from r).vl
def a9f(r:Í v u):TQ u=bt:=by
 cases v with
 |g7=>cases(show u=ļ from r);rfl|bl b=>cases(show u=Ţ b from r);rfl|gv i=>let(t,e):=(show ∃t,u=ĕ i t from r);ext e;rfl|gy x=>let(t,e):=(show ∃t,u=jc x t from r);ext e;rfl|byt b=>let(t,e):=(show ∃t,u=S4 b t from r);ext e;rfl|flt b=>let(t,e):=(show ∃t,u=S6 b t from r);ext e;rfl|ref a=>cases(show u=Ñ a from r);rfl|ty n=>cases(show u=é n from r);rfl
def Bn(c:Ř P w H h)(e:H a=a7 (.ins C dx fs)):∃b,υ h a dx C b/\(∀f,Į (fs.B f) (b f))/\Pn b (fs.o (·.1))/\fs.f<=1000/\H dx=a7 (.own a):=by let(d,z,ne,ob,b,n,r,q):=(show á P w H h a (.ins C dx fs)from c a _ e);show(b,(ob,n,ne),r,q,z,d)
structure Ť(K:Ï)(C:ar):Prop where
 pg:N2 K C cf.empty=b4
 hd:OM K C=b4
 po:QD K C=b4
 sa:Ϟ K (.x C) "__setattr__"=a7 (a7<|.zn "object.__setattr__")
def Ť.get{K:Ï}(c:Ť K C)f:N2 K C f=bt:=c.pg
def Č!(K:Ï)(C:ar)(f:cf):Prop:=Ϟ K (.x C) f=a7 b0
def Č.taker{K:Ï}(n:Č K C f):Q3 K C f=a7 bp:=by ext Q3;rw[show Ϟ K (.x C) f=a7 b0 from n];rfl
structure ũ(K:Ï)(C:ar)(m:cf)(f:ar):Prop where
 kD:Ϟ K (.x C) m=a7 (a7<|.x f)
 fn:OH K (.x f)=b4
 kp:ϟ K (.x f)=b4
def a9e{σ:St}(I:Â X Do σ H s)(e:H a=a7 (.ins C dx fs))(c:Ť X.K C)(n:Č X.K C f)(l:fs.B f=a7 v)(h:∀u g,Â X Do σ H g->Í v u->Q u g):Ç (Ê X.Y X.w) A (getAttr (.x a) f b) Q E s:=by
 let(j,O,r,_,_,_):=Bn I.vr e;let(u,i,d):=Į.some_of (v:=v) (o:=j f) (by rw[<- l];show r f);show a9r I.kIn O (c.get f) c.hd n i (a9f d)<|h u _ (I.tok _) d
def Fp{σ:St}(I:Â X Do σ H s)(e:H a=a7 (.ins C dx fs))(c:Ť X.K C)(k:ũ X.K C m g)(l:fs.B m=b0)(h:Q ⟨.x g,[.x a]⟩ s):Ç (Ê X.Y X.w) A (za (.x a) m pl) Q E s:=by
 let(d,O,r,_,_,_):=Bn I.vr e;let b:d m=bp:=Į.none_of (by rw[<- l];show r m);show a9p I.kIn O (c.get m) k.at_ k.fn b h
def b3A{σ:St}(I:Â X Do σ H s)(e:H a=a7 (.ins C dx fs))(c:Ť X.K C)(n:Č X.K C f)(M:fs.f<1000)(K:Í y u)(h:∀k,Â X Do σ (eo H a<|.ins C dx<|gQ f y fs) k->Q ld.unit k):Ç (Ê X.Y X.w) A (setAttr (.x a) f u) Q E s:=by
 let(j,O,r,p,_,i):=Bn I.vr e;let J:(fs.o (·.1)).f<=Ò:=by rw[Ä,õ];lia
 show a9m I.kIn O c.sa c.po n.taker c.hd p J λx d L=>h _ ?_;let hd:∃o,x.G dx=a7 o:=let(o,_,_,w,_):=d.ns;(o,w);show I.write (x:=a) (e:=dx) (by rw[e];show ϛ) (.X i) (λb q B z=>(L.2 b B).u z) hd ?_;show(by rw[bV O.ne];show i,?_,O.ne,d.obj,_,d.ns,λg=>?_,λg G=>?_)
 .have:=Fo f y fs;lia
 .change Į ((gQ f y fs).B g) (if g=f then a7 u else j g);rw[Fn];by_cases q:g=f
  .rw[ad q,ad q];show K
  .rw[ac q,ac q];show r g
 .by_cases q:g=f
  .rw[q];show(Bm f y fs).1
  .show(Bm f y fs).2 g<|p g λz=>G ?_;change(if g=f then a7 u else j g)=b0;rw[ac q];show z
def Â.made{σ:St}(I:Â X Do σ H s):Â X Do σ (eo (eo H s.k.y.q<|.own<|s.k.y.q+1) (s.k.y.q+1)<|.ins C s.k.y.q [])
  {s with ce:=(s.k.zl fC).zl<|jh C s.k.y.q}:=by
 let c:(s.k.zl fC).G s.k.y.q=a7 fC:=ÿ s.k ?r;let g:((s.k.zl fC).zl<|jh C s.k.y.q).G (s.k.y.q+1)=a7 (jh C s.k.y.q):=by have:=ÿ (s.k.zl fC) (o:=jh C s.k.y.q) ?r;rwa [Χ]at ah
 let h:(s.k.zl fC).Ns s.k.y.q (λ_=>b0):=(fC,#[],_,c,?r,(λe i=>cb i ∅),λ_=>rfl);let d:=I.laid (a:=s.k.y.q) (o:=.own (s.k.y.q+1)) (h':=s.k.zl fC) (t':=s.xh) (λb u q=>ä _ q) (Ô _) (_,c);show d.laid (a:=s.k.y.q+1) (o:=.ins C s.k.y.q []) (t':=s.xh) (λb u q=>ä _ q) (qi<|Χ _ _) ?_;let ne:s.k.y.q≠s.k.y.q+1:=ý<|ς _;show(by rw[bV ne,dH],Ŝ _,ne,g,λ_=>b0,(Heap.Ns1.of_empty h).at λo q=>ä _ q,λ_=>ϛ,λy j=>cb ?r j)
def b2w(c:jj e f eA (eu e eA)=eu e eA)(h:Ç (Ê dv w) A (eu e eA) (λo b=>Ç (Ê dv w) A (getAttr o f b4) Q E b) E s):Ç (Ê dv w) A (eu (.zk e f ca) eA) Q E s:=
 Attribute_any_ h<|by rw[arm_eval_Attribute,c]
def b2r!(K:Ï)(d:TE)(f:cf):TE:=λσ H Q=>d σ H λx b=>∃a C c fs v,x=.x a/\b a=a7 (.ins C c fs)/\Ť K C/\Č K C f/\fs.B f=a7 v/\Q v b
def b2q!(K:Ï)(e g:TE)(f:cf):TS:=λD σ H=>g σ H λy d=>e σ d λx b=>∃a C c fs,x=.x a/\b a=a7 (.ins C c fs)/\Ť K C/\Č K C f/\fs.f<1000 /\
 D.nx σ (eo b a<|.ins C c<|gQ f y fs)
def b2p(w:PE X e ta)(p:jj e f X.M (eu e X.M)=eu e X.M):PE X (.zk e f ca) (b2r X.K ta f):=by intro b s A H Q I h;show b2w p<|aR (w b s A H _ I h) λu E (x,d,g,z,a,C,B,fs,v,k,j,c,n,l,q)=>?_;subst k;obtain rfl:u=Ñ a:=z;show a9e g j c n l λJ G i y=>(v,d,i,y,q)
def b2o(w:PE X o ta)(A:PE X on tv)(z:dI on (a7<|.zk o f pos') ca.line X.M=ej b3):PS X (.Assign [.zk o f pos'] on ca) (b2q X.K ta tv f):=by intro b s d H D I h;show plainObj_wpAny_Assign_Attribute (aR (A b s d H _ I h) λu K (y,g,i,J,q)=>aR (w b K d g _ i q) λB N (x,L,j,G,a,C,M,fs,v,p,c,n,l,E)=>?_) z;subst v;obtain rfl:B=Ñ a:=G;show b3A j p c n l J λO k=>(d,_,k,E)
structure Þ(k:am)(A:ų):Prop where
 hd:A.xt=b0
 dp:A.depth+3*k+5<RP
 un:A.qv+16*k+200<ă
def Þ.deeper(r:Þ (k+1) A)eA:Þ k (A.deeper eA):=
 (r.hd,by have:=r.dp;change A.depth+1+3*k+5<_;lia,by have:=r.un;change A.qv+3+16*k+200<_;lia)
def b2n{A:ų}{us:gw}:(A.under<|.zn "type.__call__" (.x C::us,a)).depth=A.depth+1:=by first|rfl|simp[Pq,Code.weight,Code.isCreation,Code.isGuard,Code.isCaller,RJ,Pj,guardIds]
def b2j{A:ų}{us:gw}:(A.under<|.zn "type.__call__" (.x C::us,a)).qv=A.qv+1:=by first|rfl|simp[Pq,Code.cUnits,RJ,Pj]
def Þ.make(r:Þ (k+1) A)C(us:gw)a:Þ k (A.under<|.zn "type.__call__" (.x C::us,a)):=
 (r.hd,by have:=r.dp;rw[b2n];lia,by have:=r.un;rw[b2j];lia)
def Þ.depth(r:Þ k A):A.depth<RP:=by have:=r.dp;lia
def Þ.units(r:Þ k A):A.qv+64<ă:=by have:=r.un;lia
def xV!:TA:=λ_ H Q=>Q [] H
def Fq!(c:TE)(tr:TA):TA:=λσ H Q=>c σ H λx a=>tr σ a λxs b=>Q (x::xs) b
def Fs:PA X [] xV:=λ_ x x x H Q I h=>OI ([],H,I,.kk,h)
def Ft(j:PE X e te)(k:PA X es t)(n:ð (e::es) X.M=⟨b3,eu e X.M⟩::ð es X.M:=by rfl):PA X (e::es) (Fq te t):=by intro ca a s b H Q I h;rw[n];change Ç _ _ (spliced<|⟨b3,eu e X.M⟩::ĵ ca (ð es X.M)) _ _ s;show ON<|aR (j a s b H _ I h) λu w (x,c,g,q,o)=>?_;show aR (k ca a w b c _ g o) λA z (y,d,i,v,p)=>(x::y,d,i,.zv q v,p)
def b2c!(t:TA):TE:=λσ H Q=>t σ H λxs a=>xs.f<=Ò/\∀p,a p=b0->Q (.x p) (eo a p<|.L xs)
def b1u!(t:TA):TE:=λσ H Q=>t σ H λxs a=>xs.f<=Ò/\∀p,a p=b0->Q (.x p) (eo a p<|.D xs)
def b4E{x1}(h:PA X es t):PE X (.va es x1 ca) (b2c t):=by intro c s o H Q I j;show wpAny_Tuple_spliced (aR (h ca c s o H _ I j) λk a (n,d,g,r,z,q)=>(by rw[<- r.f];show z,?_));let i:d a.k.y.q=bp:=g.vr.xo<|Ô _;show(.x a.k.y.q,eo d a.k.y.q<|.L n,g.laid (t':=a.xh) (λb u e=>ä _ e) (Ô _) ?_,?r,q _ i);show(z,k,r,(_,ÿ _ ?r,?r,_,?r,?r))
def b3x(h:PA X es t):PE X (.List es ca) (b1u t):=by intro c s o H Q I j;show wpAny_List_spliced (aR (h ca c s o H _ I j) λk a (n,d,g,r,z,q)=>(by rw[<- r.f];show z,?_));let i:d a.k.y.q=bp:=g.vr.xo<|Ô _;show(.x a.k.y.q,eo d a.k.y.q<|.D n,g.laid (t':=a.xh) (λb u e=>ä _ e) (Ô _) ?_,?r,q _ i);show(z,k,0,r,ÿ _ ?r)
noncomputable abbrev Sp:=ab V->Hp->VK->XK->Prop
noncomputable abbrev mY:=ab ό->Hp->Ø->XK->ax->Ø->Prop
structure ψ(P:Ŧ)(w:ņ)(K:Ï)(mg:cf->af ax)(fy:ê)(A:ų)(ee:ab ό)(s:Ø)(H:Hp):Prop where
 frames:A.frames=a7 ee
 mod:Mod K mg fy
 bs:∀b o,fy.G b=a7 o->s.k.G b=a7 o/\H b=b0
 bsz:fy.y.q<=s.k.y.q
 funs:s.k.FunFrames fy ee
 frf:∀b∈k9 ee,H b=b0
 hok:Ř P w H s.k
 bare:iy s.gens
inductive CE (ee:ab ό)(P:Ŧ)(w:ņ)(H:Hp)(s:Ø)(Q:VK)(u:ax)(s':Ø):Prop
 |mk (v:V)(H':Hp)(o:s'.os=s.os)(b:iy s'.gens)(n:Un (k9 ee) [] H H' s.k s'.k)(k:Ř P w H' s'.k)(r:Í v u)(q:Q v H'):CE ee P w H s Q u s'
def b0I!(CX:mY)(ee:ab ό)(P:Ŧ)(w:ņ)(H:Hp)(s:Ø)(Q:VK)(E:XK)(r:UN)(a:Ø):Prop:=
 match r with
 |.ok (.ret u)=>CE ee P w H s Q u a|.ok _=>ef|.error e=>CX ee H s E e a
structure đ(P:Ŧ)(w:ņ)(K:Ï)(mg:cf->af ax)(fy:ê)(CX:mY)(k:am)(f:ar)(fd:km)(ps:ab cf)(sp:Sp):Prop where
 len:∀vs H Q E,sp vs H Q E->vs.f=ps.f
 run:∀(A:ų)(ee:ab ό)(s:Ø)(H:Hp)(ck:Args)(us:gw)(vs:gz)(Q:VK)(E:XK),Þ k A->ψ P w K mg fy A ee s H->uc s fd ck (ps.zip us)->Æ vs us->sp vs H Q E->
  Ρ (Ê P w) A (.call (.x f) ck) (b0I CX ee P w H s Q E) s
def ψ.make{K:Ï}(e:ψ P w K a fy A ee s H)C(us:gw)b:
  ψ P w K a fy (A.under<|.zn "type.__call__" (.x C::us,b)) ee s H:=(by first|show e.frames|(simpa[Pq,Code.envs,Pj,pushEnvs]using e.frames),e.mod,e.bs,e.bsz,e.funs,e.frf,e.vr,e.bare)
def Â.env0{σ:St}(I:Â X Do σ H s):ψ X.Y X.w X.K X.mg X.ka X.A X.stack s H:=
 (I.ok.frames,I.ok.mod,I.bs,ĥ I.ok.bsz I.sz,I.stack,I.stkFree,I.vr,I.bare)
def Â.after{σ:St}(I:Â X Do σ H s)(h:CE X.stack X.Y X.w H s Q u s'):EP X Do σ Q u s':=by let(v,i,k,a,un,c,r,q):=h;let(j,g,d,t,e):=s';obtain rfl:e=s.os:=k;show(v,i,I.call (h':=j) (g':=g) (d':=d) (t':=t) (ch:=[]) un c a λb z=>cb z ∅,r,q)
def Bo!(sp:Sp)(a:gz)(E:XK)(t:TA):TE:=λσ H Q=>t σ H λvs b=>sp (vs++a) b Q E
def Bp!(C:ar)(m:cf)(sp:Sp)(b:gz)(E:XK)(g:TE)(t:TA):TE:=λσ H Q=>g σ H λx c=>∃a e fs,x=.x a/\c a=a7 (.ins C e fs)/\fs.B m=b0 /\
 t σ c λh d=>sp (x::(h++b)) d Q E
def Fu!(C:ar)(sp:Sp)(c:gz)(E:XK)(t:TA):TE:=λσ H Q=>t σ H λvs b=>∀x a,b x=b0->b a=b0->a≠x->
 sp (.x x::(vs++c)) (eo (eo b a<|.own x) x<|.ins C a []) (λv d=>v=.kf/\Q (.x x) d) E
def ó!(K:Ï)(a:km)(ps:ab cf)(ds:gw):Prop:=
 ∀(s:Ø)(us:gw),K.In s.k->(us++ds).f=ps.f->uc s a (us,[]) (ps.zip<|us++ds)
def ó.all{K:Ï}(h:∀us:gw,us.f=ps.f->yu a (us,[])=ej (ps.zip us)):ó K a ps []:=λs us x b=>by rw[Ĭ]at b ⊢;show .of_eq<|h us b
def pM!(CX:mY)(X:Cx)(E:XK):Prop:=∀(Do:jw)(σ:St)(H:Hp)(s:Ø)(e:ax)(a:Ø),Â X Do σ H s->CX X.stack H s E e a->X.xe e a
section
variable{X:Cx}{CX:mY}{k:Nat}{f C:Addr}{fd:km}{ps:List Str}{sp:Sp}{dvs:gz}{ds:gw}{E:XK}{x m:Str}{p pos apos:Ń}{e o:Expr}{es:List Expr}{ta:TE}{t:TA}
def xW{σ:St}(F:đ X.Y X.w X.K X.mg X.ka CX k f fd ps sp)(i:Þ k X.A)(d:ó X.K fd ps ds)(hd:Æ oj ds)(j:pM CX X E)(I:Â X Do σ H s)(r:Æ vs us)(h:sp (vs++oj) H Q E):Ç (Ê X.Y X.w) X.A (ia (.x f) us) (EP X Do σ Q) X.xe s:=by
 let b:Æ (vs++oj) (us++ds):=r.append hd;let g:(us++ds).f=ps.f:=by rw[<- b.f];show F.len _ _ _ _ h
 show wpAny_call<|zq (F.run X.A X.stack s H (us,[]) (us++ds) (vs++oj) Q E i I.env0 (d s us I.kIn g) b h) λr n a=>?_;cases r with
 |error e=>show j Do σ H s e n I a|ok c=>
  cases c with
  |ret u=>show I.after a|nw=>show Γ a|brk=>show Γ a|n0=>show Γ a
def b3s(F:đ X.Y X.w X.K X.mg X.ka CX k f fd ps sp)(w:Þ k X.A)(n:Gl X x)(v:X.mg x=a7 (.x f))(u:ϟ X.K (.x f)=b4)(i:ó X.K fd ps ds)(hd:Æ oj ds)(y:pM CX X E)
  (g:PA X (e::es) t)(b:(x==("__debug__":cf))=ai:=by decide) (j:ð (e::es) X.M=⟨b3,eu e X.M⟩::ð es X.M:=by rfl)(c:(ĵ ca<|ð es X.M).any (·.1)=ai:=by rfl) :
  PE X (.xz (.xk x p) (e::es) [] ca) (Bo sp oj E t):=by
 intro a s z H Q I h;show az<|sP I n v ?_ b;show QK (h₀:=X.ka) I.ok.mod.kin u (aR (g ca a s z H _ I h) λG B (J,A,d,r,q)=>(d.kIn,?_)) j c;show xW F w i hd y d r q
def b3n(F:đ X.Y X.w X.K X.mg X.ka CX k f fd ps sp)(j:Þ k X.A)(d:Gl X x)(i:X.mg x=a7 (.x f))(g:ϟ X.K (.x f)=b4)(c:ó X.K fd ps ds)(hd:Æ oj ds)(n:pM CX X E)
  (a:(x==("__debug__":cf))=ai:=by decide):PE X (.xz (.xk x p) [] [] ca) (Bo sp oj E xV):=by
 intro b s q H Q I h;show az<|sP I d i ?_ a;show Tq I.kIn g<|xW (us:=[]) F j c hd n I .kk h
def b3k(J:PE X o ta)(c:Ť X.K C)(n:ũ X.K C m f)(F:đ X.Y X.w X.K X.mg X.ka CX k f fd ps sp)(K:Þ k X.A)(G:ó X.K fd ps ds)(hd:Æ oj ds)(M:pM CX X E)(B:PA X (e::es) t)(g:ð (e::es) X.M=⟨b3,eu e X.M⟩::ð es X.M:=by rfl)(d:(ĵ ca<|ð es X.M).any (·.1)=ai:=by rfl)(L:eu (.xz (.zk o m f8) (e::es) [] ca) X.M=(do
   let v <- eu o X.M
   ue f8.atName
   let ⟨f,mf⟩ <- ip [v] (za v m pl)
   Oq ca f mf (ĵ ca<|ð (e::es) X.M) (ak ca<|au [] X.M)):=by rfl):
  PE X (.xz (.zk o m f8) (e::es) [] ca) (Bp C m sp oj E ta t):=by
 intro b s w H Q I h
 show Tw (pl:=pl) (aR (J b s w H _ I h) fun u R (x,y,i,O,a,Z,fs,A,z,l,q)=>?_) L
 subst A
 obtain rfl:u=Ñ a:=O
 show Fp i z c n l ?_
 show QK (mf:=[.x a]) (h₀:=X.ka) I.ok.mod.kin n.kp (aR (B ca b R w y _ i q) fun T s2 (U,Y,j,r,N)=>(j.kIn,?_)) g d
 show xW (us:=.x a::T) (vs:=.x a::U) F K G hd M j (.zv ?r r) N
def b3c(w:PE X o ta)(c:Ť X.K C)(g:ũ X.K C m f)(F:đ X.Y X.w X.K X.mg X.ka CX k f fd ps sp)(y:Þ k X.A)(v:ó X.K fd ps ds)(hd:Æ oj ds)(A:pM CX X E)(z:eu (.xz (.zk o m f8) [] [] ca) X.M=(do
   let i <- eu o X.M
   ue f8.atName
   let ⟨f,mf⟩ <- ip [i] (za i m pl)
   Oq ca f mf (ĵ ca<|ð [] X.M) (ak ca<|au [] X.M)):=by rfl):
  PE X (.xz (.zk o m f8) [] [] ca) (Bp C m sp oj E ta xV):=by
 intro d s G H Q I h
 show Tw (pl:=pl) (aR (w d s G H _ I h) fun u L (x,J,b,B,a,K,fs,n,j,l,q)=>?_) z
 subst n
 obtain rfl:u=Ñ a:=B
 show Fp b j c g l ?_
 show Tq (mf:=[.x a]) b.kIn g.kp<|xW (us:=[.x a]) (vs:=[.x a]) F y v hd A b (.zv ?r .kk) q
structure Mk(K:Ï)(C f:ar):Prop where
 makes:Q2 K C=b4
 init:Ϟ K (.x C) "__init__"=a7 (a7<|.x f)
 fn:OH K (.x f)=b4
 kp:ϟ K (.x C)=b4
def b3b{σ:St}(M:Mk X.K C f)(F:đ X.Y X.w X.K X.mg X.ka CX k f fd ps sp)(A:Þ (k+1) X.A)(y:ó X.K fd ps ds)(hd:Æ oj ds)(B:pM CX X E)(I:Â X Do σ H s)(r:Æ vs us)(h:∀x c,H x=b0->H c=b0->c≠x->sp (.x x::(vs++oj)) (eo (eo H c<|.own x) x<|.ins C c []) (λv j=>v=.kf/\Q (.x x) j) E):
  Ç (Ê X.Y X.w) X.A (ia (.x C) us) (EP X Do σ Q) X.xe s:=by
 let d:=h (s.k.y.q+1) s.k.y.q (I.vr.xo<|dj _) (I.vr.xo<|Ô _)<|ý<|ς _;let b:=Â.made (C:=C) I;let g:Æ (V.x (s.k.y.q+1)::(vs++oj)) (Ñ (s.k.y.q+1)::(us++ds)):=.zv ?r<|r.append hd;let z:(Ñ (s.k.y.q+1)::us++ds).f=ps.f:=by let e:=g.f;rw[F.len _ _ _ _ d]at e;show e.R
 show wpAny_call<|a9l (f:=f) I.kIn M.makes M.init (bg.Z M.fn)<|zq (F.run _ X.stack _ _ (Ñ (s.k.y.q+1)::us,[]) (Ñ (s.k.y.q+1)::(us++ds)) _ _ E (A.make C us [])
  (b.env0.make C us []) (y _ (Ñ (s.k.y.q+1)::us) b.kIn z) g d) λr K a=>?_
 cases r with
 |error e=>show B Do σ _ _ e K b a|ok w=>
  cases w with
  |ret u=>let(v,i,n,J,q,G):=b.after a;subst q;show(J,(V.x<|s.k.y.q+1,i,n,?r,G))|nw=>show Γ a|brk=>show Γ a|n0=>show Γ a
def b3a(M:Mk X.K C f)(F:đ X.Y X.w X.K X.mg X.ka CX k f fd ps sp)(v:Þ (k+1) X.A)(n:Gl X x)(u:X.mg x=a7 (.x C))(i:ó X.K fd ps ds)(hd:Æ oj ds)(w:pM CX X E)
  (g:PA X (e::es) t)(b:(x==("__debug__":cf))=ai:=by decide) (j:ð (e::es) X.M=⟨b3,eu e X.M⟩::ð es X.M:=by rfl)(c:(ĵ ca<|ð es X.M).any (·.1)=ai:=by rfl) :
  PE X (.xz (.xk x p) (e::es) [] ca) (Fu C sp oj E t):=by
 intro a s y H Q I h;show az<|sP I n u ?_ b;show QK (h₀:=X.ka) I.ok.mod.kin M.kp (aR (g ca a s y H _ I h) λB A (G,z,d,r,q)=>(d.kIn,?_)) j c;show b3b M F v i hd w d r q
end
def PK!(X:Cx)(a:ab ϻ)(t:TA):Prop:=
 ∀(ca:Ń)(Do:jw)(s:Ø)(σ:St)(H:Hp)(Q:gz->Hp->Prop),Â X Do σ H s->t σ H Q->Ç (Ê X.Y X.w) X.A (evalAll<|(ak ca<|au a X.M).o (·.2)) (AP X Do σ Q) X.xe s
def b3Z:PK X [] xV:=λ_ x x x H Q I h=>wpAny_evalAll_nil ([],H,I,.kk,h)
def b3Y(j:PE X e te)(n:PK X kws t):PK X ((nm,e,kpos)::kws) (Fq te t):=by intro ca a s b H Q I h;change Ç _ _ (evalAll<|(do let v <- eu e X.M;ue ca;ej v)::(ak ca<|au kws X.M).o (·.2)) _ _ s;show wpAny_evalAll_cons<|Á<|aR (j a s b H _ I h) λu A (x,c,g,y,q)=>Á<|O6<|É ?_;show aR (n ca a A b c _ g q) λJ G (B,d,i,z,w)=>(x::B,d,i,.zv y z,w)
structure ī(N P:ab cf)(sc:θ):Prop where
 kind:sc.kind=.kv
 co:sc.isCoroutine=b3
 gen:sc.isGenerator=b3
 nd:N.J
 np:N.ze P.f=P
 par:∀x∈P,sc.qf.B x=a7 .kg\/sc.qf.B x=a7 .kz
 nofree:∀y∈sc.qf,y.2≠.kr
def Fv{gx:cf->af J0}:∀{a}{m},(∀v,⟨x,v⟩∉a)->iu gx a m x=m x
 |[],_,_=>?r|⟨n,v⟩::r,m,h=>by
  ext iu;rw[Fv λw hw=>h w<|ķ _ hw];lk
  .have:x≠n:=by rintro rfl;show h v ŗ
   simp[ah]
  .rfl
def Fw{gx:cf->af J0}:∀{a}{m},(∀v,⟨x,v⟩∉a)->ir gx a m x=m x
 |[],_,_=>?r|⟨n,v⟩::r,m,h=>by
  ext ir;rw[Fw λw hw=>h w<|ķ _ hw];lk
  .rfl
  .have:x≠n:=by rintro rfl;show h v ŗ
   simp[ah]
def Fx{gx:cf->af J0}:∀{P:ab cf}{vs:gw}{i:am}{m},P.J->P[i]?=a7 x->vs[i]?=a7 v->gx x=a7 .kg->
  iu gx (P.zip vs) m x=a7 v
 |[],_,_,_,_,h,_,_=>by simp at h
 |_::_,[],_,_,_,_,h,_=>by simp at h
 |p::P,w::vs,0,m,nd,h1,h2,hk=>by simp at h1 h2;subst h1;subst h2;change iu gx (⟨p,w⟩::P.zip vs) m p=_;ext iu;rw[Fv λv a=>(ŧ.Z nd).1 (Q8 a).1,ad hk];simp
 |p::P,w::vs,i+1,m,nd,h1,h2,hk=>by change iu gx (⟨p,w⟩::P.zip vs) m x=_;ext iu;show Fx (i:=i) (ŧ.Z nd).2 (by apply h1) (by apply h2) hk
def Fy{gx:cf->af J0}:∀{P:ab cf}{vs:gw}{i:am}{m},P.J->P[i]?=a7 x->vs[i]?=a7 v->gx x≠a7 .kg->
  ir gx (P.zip vs) m x=a7 v
 |[],_,_,_,_,h,_,_=>by simp at h
 |_::_,[],_,_,_,_,h,_=>by simp at h
 |p::P,w::vs,0,m,nd,h1,h2,hk=>by simp at h1 h2;subst h1;subst h2;change ir gx (⟨p,w⟩::P.zip vs) m p=_;ext ir;rw[Fw λv a=>(ŧ.Z nd).1 (Q8 a).1,ac hk];simp
 |p::P,w::vs,i+1,m,nd,h1,h2,hk=>by change ir gx (⟨p,w⟩::P.zip vs) m x=_;ext ir;show Fy (i:=i) (ŧ.Z nd).2 (by apply h1) (by apply h2) hk
def start!(N:ab cf)(vs:gz):St:=vs.o a7++Ϯ (N.f-vs.f) b0
def oC!(CX:mY)(P:Ŧ)(w:ņ)(K:Ï)(g:cf->af ax)(fy:ê)(N:ab cf)(a:cf)(ap:θ)(f:ar)(c:ax)(A:ų)(ee:ab ό)(s:Ø)(H:Hp)(E:XK):Cx where
 dv:=P
 w:=w
 K:=K
 mg:=g
 fy:=fy
 A:=A.deeper<|j1 a ap s.k.y.q f c
 N:=N
 fi:=s
 fq:=H
 eA:=j1 a ap s.k.y.q f c
 ee:=ee
 stack:=j1 a ap s.k.y.q f c::ee
 ex:=[]
 calm:=b4
 fn:=λ_=>b4
 pn:=[]
 xe:=λe h=>Ç (Ê P w) (A.deeper<|j1 a ap s.k.y.q f c) (leaving (j1 a ap s.k.y.q f c) e) (λ_ b=>CX ee H s E e b) (λd b=>CX ee H s E d b) h
def Fz{sc:θ}(h:sc.qf.B x=a7 .kz):∃c,(P4 n sc.qf []).B x=a7 c:=by let q:=Ta sc.qf n []<|.Q h;show Tf.Z q
def b3X{K:Ï}(S:ī N ps ap)(hd:A.xt=b0)(j:ψ P w K J fy A ee s H)(X:vs.f=ps.f)(r:Æ vs us)(x:InCallC s s.k.y.q (iu (j1 d ap s.k.y.q f I).kn (ps.zip us) λ_=>b0) (P4 (s.k.y.q+1) ap.qf []) (ir (j1 d ap s.k.y.q f I).kn (ps.zip us) λ_=>b0) O):
  Â (oC CX P w K J fy N d ap f I A ee s H E) [] (md N vs) H O:=by
 let R:ps.f<=N.f:=by have:=br ģ S.pre;rw[ţ]at ah;lia
 let(h1,Y,?r,L):=x.done;let o:∀b:ar,b∉(oC CX P w K J fy N d ap f I A ee s H E).ex:=λb z=>cb (show b∈([]:ab ar)from z) ∅;show((j.mod,S.kind,?r,?r,Ô _,λy z c h1 g=>?_,λy n=>?_,λy c l h=>?_,λ_=>hd,Around.frames_deeper j.frames,.X (?r,?r),λb z=>cb z<|o b,j.bs,j.bsz,λb l l=>o b,λb z=>cb z<|o b,j.funs,j.frf),
  ?r,j.bare,Un.vx L,(_,x.toInCall.ns,λi y v h1 g U=>?_),λy c h=>(_,x.kz y c h),j.vr.xo<|Ô _,λy c h=>?_,λp B=>cb (show p∈([]:jw)from B) ∅,j.vr.vx L,?_)
 .show name_of_addr x.apart (R8 h1)<|R8 g
 .let n:ap.qf.B y=a7 .kz\/ap.qf.B y=a7 .kr:=n;rcases n with n|n
  .show Fz n
  .show cb ?r<|S.nofree _<|R8 n
 .show dq<|x.above y c<|R8 h
 .let hi:i<vs.f:=by
   unfold md at g;by_cases hi:i<vs.f
   .show hi
   .rw[gk<|by apply hi]at g;rw[NF]at g;split at g<;>ext g
  let Q:vs[i]?=a7 v:=by
   unfold md at g;rw[ż<|by apply hi,ĉ]at g;cases e:vs[i]? with
   |bp=>rw[e]at g;ext g|bb a=>rw[e]at g;ext g;rfl
  let(u,M,T):=r.get Q;let B:ps[i]?=a7 y:=by rw[<- S.pre,Tt ()];show h1
  let G:ps.J:=by rw[<- S.pre];show S.nd.sublist<|ab.take_sublist _ _
  show(u,T,?_);rcases S.par y (œ B)with k|k
  .show .Q (k,Fx G B M k)
  .let(c,e):=Fz (n:=s.k.y.q+1) k;show .X (.Q k,c,e,?_);let q:=x.kz y c e;rw[Fy G B M<|by change ap.qf.B y≠_;rw[k];decide]at q;show q
 .show j.vr.xo<|dq<|x.above y c<|R8 h
 .ext md;change _=N.f;rw[ô,Ä,wg];lia
def b3U{K:Ï}{kV:ax}(lk:K.B f=a7 (oc,od,.func<|ο fg a d gi ap Z kV z pm an c ct,T))(M:N6 K c a=b4)(S:ī N ps ap)(len:∀vs H Q E,sp vs H Q E->vs.f=ps.f)(i:∀A ee s H(vs:gz)Q E,Þ k (A.deeper<|j1 a ap s.k.y.q f c)->sp vs H Q E->
   ∃t,ş (oC CX P w K L fy N a ap f c A ee s H E) gi t/\t {nx:=λ_ h=>Q .kf h,rt:=Q} (md N vs) H):
  đ P w K L fy CX (k+1) f (ο fg a d gi ap Z kV z pm an c ct) ps sp:=by
 show(len,λA ee s H ck us vs Q E O B hb r G=>?_);let hl:=len _ _ _ _ G;let Y:K.In s.k:=B.mod.kin.keeps λb o e=>(B.bs b o e).1;let R:s.k.NoLimit:=B.mod.nolimit.keeps λb o e=>(B.bs b o e).1;let j:∀y∈ps.zip us,ap.qf.B y.1=a7 .kg\/(ap.qf.B y.1=a7 .kz/\((P4 (s.k.y.q+1) ap.qf []).B y.1).qh=b4):=λ(n,v) hy=>by
  rcases S.par n (Q8 hy).1 with q|q
  .show .Q q
  .show .X (q,Ta _ _ _<|.Q q)
 show codeAny_call_function O.depth (Y _ _ lk) ?r S.co S.gen ?r (ci.W.codeRec_of Y M)<|hb _ _ _ _ ?_;show wpAny_newFunctionEnv_cells S.kind j λeA he s1 x=>?_;subst he;show(R.keeps x.toInCall.keep,codeAny_func ?_);let(t,ht,hq):=i A ee s H vs Q E (O.deeper _) G;let I:Â (oC CX P w K L fy N a ap f c A ee s H E) [] (md N vs) H s1:=b3X S O.hd B hl r x;show Ŗ (ht [] s1 (md N vs) H _ I hq) (λfl X p=>?_) λe X p=>p;let dr:∀{g:St}{h:Hp}{v:V}{u:ax},Â (oC CX P w K L fy N a ap f c A ee s H E) [] g h X->Í v u->Q v h->CE ee P w H s Q u X:=
  λ{g h v u} J U q=>(v,h,J.os,J.bare,J.ka,J.vr,U,q)
 cases fl with
 |ret u=>let(v,g,h,J,U,q):=p;show dr J U q|nw=>let(g,h,J,q):=p;show dr (v:=V.kf) (u:=ļ) J ?r q|brk=>let(_,_,_,q):=p;show Γ q|n0=>let(_,_,_,q):=p;show Γ q
def xX!(r:gz->Hp->VK->Prop)(t:TA):TE:=λσ H Q=>t σ H λvs a=>r vs a Q
def b3O{id:cq}(hc:ß X (.zn id) r)(n:Gl X x)(o:X.mg x=b0)(u:ξ x=a7 (.zn id))(j:PA X (e::es) t)(q:x ≠ "__name__":=by decide)(b:(x==("__debug__":cf))=ai:=by decide)(k:ð (e::es) X.M=⟨b3,eu e X.M⟩::ð es X.M:=by rfl)(c:(ĵ ca<|ð es X.M).any (·.1)=ai:=by rfl):PE X (.xz (.xk x p) (e::es) [] ca) (xX r t):=by
 intro a s d H Q I h;show az<|i9 I n o u ?_ q b;show UJ (aR (j ca a s d H _ I h) λz y (A,g,i,w,v)=>hc a y d g A z Q i w v) k c
def b3N(hc:ß X (.O T) r)(n:Gl X x)(o:X.mg x=b0)(u:ξ x=a7 (.O T))(j:PA X (e::es) t)(q:x ≠ "__name__":=by decide)(b:(x==("__debug__":cf))=ai:=by decide)(k:ð (e::es) X.M=⟨b3,eu e X.M⟩::ð es X.M:=by rfl)(c:(ĵ ca<|ð es X.M).any (·.1)=ai:=by rfl):PE X (.xz (.xk x p) (e::es) [] ca) (xX r t):=by
 intro a s d H Q I h;show az<|i9 I n o u ?_ q b;show gj (aR (j ca a s d H _ I h) λz y (A,g,i,w,v)=>hc a y d g A z Q i w v) k c
section
variable{κ:Type} [DecidableEq κ]
def lE!(ay:ab (κ×V))(k:κ):af V:=(ay.find? λa=>ag<|a.1=k).o (·.2)
def b3M{k:κ}(e:p.1=k):lE (p::r) k=a7 p.2:=by simp[lE,Ε,e]
def b3L{k:κ}(e:¬ p.1=k):lE (p::r) k=lE r k:=by simp[lE,Ε,e]
def Į.isSome_eq(r:Į o u):o.qh=u.qh:=by
 cases o with
 |bp=>cases u with
  |bp=>rfl|bb _=>show(show ef from r).vl
 |bb _=>cases u with
  |bp=>show(show ef from r).vl|bb _=>rfl
def KV.val(r:KV ay vs)(k:κ):Į (lE ay k) (jb vs k):=by
 unfold KV at r;induction r with
 |fk=>show ϛ|@bm p q i c h t g=>
  let(h1,d):=h;by_cases e:p.1=k
  .let a:q.1=k:=h1.R.u e;let b:jb (q::c) k=a7 q.2:=by simp[jb,Ε,a]
   rw[b3M e,b];show d
  .let a:¬ q.1=k:=λz=>e<|h1.u z;let b:jb (q::c) k=jb c k:=by simp[jb,Ε,a]
   rw[b3L e,b];show g
end
def FA(r:Í (kV k) u):(jP P w).is k u=bt:=by
 cases k with
 |inl i=>let(t,e):=(show ∃t,u=ĕ i t from r);subst e;show b3C P w i t|inr x=>let(t,e):=(show ∃t,u=jc x t from r);subst e;show b3B P w x t
def Â.big{σ:St}(I:Â X Do σ H s):Ļ<s.k.y.q:=by let h:Ş<s.k.y.q:=(I.mod.glob.keeps I.bk).lt;show O7 ⋯ h
def xY{σ:St}(I:Â X Do σ H s)(g:uS (H a))(e:ū a s.k h')(d:∃q,h'.G a=a7 q)(new:á X.Y X.w (eo H a ob) h' a ob):
  Â X Do σ (eo H a ob) {s with ce:=h',dL:=t'}:=
 I.write (x:=a) (e:=a) g (.Q ?r) (λb q c z=>(e.2 b c).u z) d new
def FC!(i:bo):Prop:=∀b a,Nz i b3 b a=operate [b,a] (ud b a)
def FD{id:cq}(p:zm (.O T) "__getitem__"=ej (a7<|.zn id))(q:FC a)(h:Ç (Ê dv w) A (eu b eA) (λo e=>Ç (Ê dv w) A (eu a eA) (λi c=>c.TypeIs o T/\Ç (Ê dv w) A (ud o i) Q E c) E e) E s):
  Ç (Ê dv w) A (eu (.xy b a ca) eA) Q E s:=by
 show NY<|Ŗ h (λo e j=>Ŗ j (λi c d=>?_) λ_ y x=>x) λ_ y x=>x;let(n,d):=d;ext O4;show Á ?_;rw[getitemInPython_of_ne n.not_modules];show Á<|qu n p ?_;let dr:Ç (Ê dv w) A (Nz a b3 o i) (λr g=>Ç (Ê dv w) A (letTemporaryGo b o r >>= λ_=>ej r) Q E g) E c:=by rw[q o i];show wpAny_operating<|Ŗ d (λr g k=>Á<|wpAny_letTemporaryGo<|É k) λ_ y x=>x
 first
  |show É (Á dr)|show Á (É<|Á dr)|show Á dr
end _2
namespace HT
open PySem PyProof.Rows
def lexLt!:ab ae->ab ae->av
 |[],[]=>b3|[],_::_=>b4|_::_,[]=>b3|x::xs,y::ys=>if x=y then i0 xs ys else ag (x<y)
def lexLt_cons x y xs a:i0 (x::xs) (y::a)=if x=y then i0 xs a else ag (x<y):=?r
def b3K:i0 [] []=ai:=?r
def b3H y a:i0 [] (y::a)=bt:=?r
def b2v x xs:i0 (x::xs) []=ai:=?r
def b2u A s a t c u:∃e,ut A s (.p a t) (.p c u) e/\(e=b4↔a=c):=
 ((a==c),Tx a t c u,∅)
def b2t A s a t c u dv w E Q(h:Q (.kt<|ag<|a<c) s):
  Ç (Ê dv w) A (uq .Lt (.p a t)<|.p c u) Q E s:=
 (U6 h:Ç (Ê dv w) A (Ķ .Lt (.p a t)<|.p c u) Q E s)
section
open PySem.SeqAt
open PySem.AutoSeq1 (wpAny_loadPart')
open PySem.MeetsSeq PySem.MeetsSeq2 PySem.MeetsSeq3
def b2k l b dk i n n2 Y N sl T ns ms(hi:Ŷ dk.zh ns)(U:Ŷ i.zh ms):
  Meets (ez.«tuple.__lt__» ([.x l,.x b],[]))
   (λ_ R s=>s.k.G l=a7 {cw:=.O "tuple",ix:=Y,bv:=.seq dk n,ft:=sl}/\s.k.G b=a7 {cw:=.O "tuple",ix:=N,bv:=.seq i n2,ft:=T} /\
    R (.ok<|.ret<|.kt<|i0 ns ms) s):=
 .of_wp λE w A R s h=>by
  let(K,g,d,M,L):=s;let(hl,Z,h):=h;let f2:=AutoSeq1.sub_tuple_tuple;let z1:dk.q=ns.f:=by rw[<- hi.f];simp
  let z2:i.q=ms.f:=by rw[<- U.f];simp
  wp_walk using wpAny_loadPart' hl,wpAny_loadPart' Z,Pd _ (λcN b Q=>b.1=b0/\Q=(K,g,d,M,L)/\∃(vs ws:gw)(o k:ab ae),cN=vs.zip ws /\
   Ŷ vs o/\Ŷ ws k/\o.f+i.q=k.f+dk.q/\R (.ok<|.ret<|.kt<|i0 o k) (K,g,d,M,L)) _
  case turn=>
   rintro(y|x) cN b Q (G|rfl|vs|ws|o|k|v|H|p|j|z);cases H with
   |fk=>rw[ab.zip_nil_left]at v;ext v|bm a t I=>
    cases p with
    |fk=>rw[ab.zip_nil_right]at v;ext v|bm c u J=>
     rw[TF]at v;injection v with hyx hrest;injection hyx with hy hx;subst hy hx;rw[lexLt_cons]at z;dsimp[ĩ]at j;let(e,he,B):=b2u A.in1 (K,g,d,M,L) a t c u;show Á<|he E w _ _ ?_;cases e with
     |bt=>rw[ad<|B.Z ?r]at z;wp_walk;show(?r,?r,_,_,_,_,hrest,I,J,(),z)|ai=>rw[ac λq=>cb (B.v q) þ]at z;let O:=b2t A.in1 (K,g,d,M,L) a t c u E w;wp_walk using O;show(_,?r,by apply z)
  case dr=>
   rintro(b1|b2) Q (G|rfl|vs|ws|o|k|v|H|p|j|z);simp only at G;subst G;let X:i0 o k=ag (dk.q<i.q):=by
    cases H with
    |fk=>
     cases p with
     |fk=>dsimp[uy]at j;rw[b3K];show(ba ()).R|bm c u hw=>dsimp[uy,ĩ]at j;rw[b3H];show(cc ()).R
    |bm a t X=>
     cases p with
     |fk=>dsimp[uy,ĩ]at j;rw[b2v];show(ba ()).R|bm c u hw=>rw[TF]at v;ext v
   rw[X]at z;wp_walk;show(_,?r,by simpa[b7l]using z)
  case h=>show(?r,?r,dk.zh,i.zh,ns,ms,?r,hi,U,(),h)
end
def lt_tupInts(y:WP s.k l dk)(u:WP s.k b a)(hi:Ŷ dk.zh ns)(v:Ŷ a.zh ms)(z:A.qv<ă)(h:Q (.kt<|i0 ns ms) s):Ç (Ê dv w) A (Ķ .Lt (.x l)<|.x b) Q E s:=by
 obtain((cw|q|o|G)|p|hc|n|hd):=id y;obtain((k|i|g|j)|e|c|B|d):=id u;simp only at hc hd c d;subst hc hd c d;show richCompare_meets_room (op:=.Lt) (_,p,?r) (_,e,?r) ci.F.slot_tuple_lt ci.F.entry_tuple_lt (ci.F.args_tuple_lt_2 _ _) (b2k l b dk a n B q i G j ns ms hi v)
  (p,e,show Ţ (i0 ns ms)≠ax.notImplemented/\Q (.kt<|i0 ns ms) s from((λx=>nomatch x),h)) z
def cat_tup{vs ws:gw}(z:WP s.k t vs.E)(y:WP s.k b ws.E)(q:vs≠[])(h1:ws=[]->Q (.x t) s)(x:ws≠[]->Q (.x s.k.y.q) {s with ce:=s.k.zl {cw:=.O "tuple",bv:=.seq (vs++ws).E}})(hsz:vs.f+ws.f<=Ò):Ç (Ê dv w) A (ι .Add (.x t)<|.x b) Q E s:=by
 obtain((cw|p|o|v)|i|hc|n|hd):=id z;obtain((k|c|j|h)|a|d|u|g):=id y;simp only at hc hd d g;subst hc hd d g;let e:vs.E++ws.E=(vs++ws).E:=∅
 by_cases hw:ws=[]
 .show concat_meets (_,i,?r) (_,a,?r) Rt seq_tuple_add TZ Tg (U7 _ _)
   (tuple_addW1 t b vs.E ws.E n u p c v h (by apply q)<|by simp[hw]) (i,a,h1 hw)
 .show concat_meets (_,i,?r) (_,a,?r) Rt seq_tuple_add TZ Tg (U7 _ _)
   (tuple_addW2 t b vs.E ws.E n u p c v h (by apply q) (by apply hw)<|by rw[Ģ,Ģ];show hsz) (i,a,?_)
  rw[e];show x hw
def sIx!(n d:am):af ae->am
 |bp=>d|bb v=>if v<0 then(v+(n:ae)).zi else mx v.zi n
def sIx_none n d:sIx n d b0=d:=?r
def sIx_nat(n d k:am):sIx n d (a7 (k:ae))=mx k n:=by change(if(k:ae)<0 then((k:ae)+(n:ae)).zi else mx (k:ae).zi n)=mx k n;rw[ac (),kj]
end HT
namespace _2
open PySem PySem.Spec PyProof.Rows
noncomputable abbrev TO:=St->Hp->(af ae->Hp->Prop)->Prop
def PO!(X:Cx)(e:af bo)(t:TO):Prop:=
 ∀(Do:jw)(s:Ø)(σ:St)(H:Hp)(Q:af ae->Hp->Prop),Â X Do σ H s->t σ H Q->
  Ç (Ê X.Y X.w) X.A (evalPart e X.M) (λu b=>∃o a,Â X Do σ a b/\IsPart u o/\Q o a) X.xe s
def b5h!:TO:=λ_ H Q=>Q b0 H
def b5f!(t:TE):TO:=λσ H Q=>t σ H λx a=>∃i,x=.p i/\Q (a7 i) a
def xZ:∀{us},Æ (ns.o V.p) us->Ŷ us ns:=by
 induction ns with
 |fk=>intro us r;rw[du]at r;ext r;show .kk|bm n ns a=>
  intro us r;rw[í]at r;cases r with
  |bm b c=>let(t,e):=b;subst e;show .zv n t<|a c
def b5N:PO X b0 b5h:=by intro a s b H Q I h;rw[evalPart_none];show É (b0,H,I,.qo,h)
def b5K(h:PE X e te):PO X (a7 e) (b5f te):=by intro a s j H Q I hw;rw[evalPart_some];show aR (h a s j H _ I hw) λu k (x,b,c,g,d)=>?_;let(i,?r,q):=d;let(t,?r):=g;show(a7 i,b,c,.p i t,q)
def Bq!(X:Cx)(r:V->af ae->af ae->Hp->VK->Prop):Prop:=
 ∀(Do:jw)(s:Ø)(σ:St)(H:Hp)(x:V)(v b c:ax)(lo hi:af ae)(a:ar)(Q:VK),Â X Do σ H s->Í x v->s.k.IsSliceOf a b c .qo->IsPart b lo->IsPart c hi->r x lo hi H Q->
  ∃T id,zm (.O T) "__getitem__"=ej (a7<|.zn id)/\s.TypeIs v T/\Ç (Ê X.Y X.w) X.A (ud v<|.x a) (EP X Do σ Q) X.xe s
def b4o!(r:V->af ae->af ae->Hp->VK->Prop)(te:TE)(tl th:TO):TE:=λσ H Q=>te σ H λx a=>tl σ a λl b=>th σ b λu c=>r x l u c Q
def b4n{lo:af bo}(G:Bq X r)(A:PE X e te)(E:PO X lo tl)(K:PO X hi th):PE X (.xy e (.Slice lo hi b0 p2) ca) (b4o r te tl th):=by intro a s d H Q I h;show NY<|aR (A a s d H _ I h) λv U (x,k,o,R,M)=>?_;show wpAny_Slice<|aR (E a U d k _ o M) λg Y (l,n,p,pl,N)=>aR (K a Y d n _ p N) λi c (u,j,w,L,O)=>?_;rw[evalPart_none];show É ?_;let y:Â X a d j {c with ce:=c.k.zl {cw:=.O "slice",bv:=.xi #[g,i,.qo]}}:=w.vx (t':=c.xh) λb ob q=>ä _ q;let(T,id,z,J,B):=G a {c with ce:=c.k.zl {cw:=.O "slice",bv:=.xi #[g,i,.qo]}} d j x v g i l u c.k.y.q Q y R (UC ..) pl L O;change Ç (Ê X.Y X.w) X.A (O4 e (.Slice lo hi b0 p2) v<|.x c.k.y.q) (EP X a d Q) X.xe {c with ce:=c.k.zl {cw:=.O "slice",bv:=.xi #[g,i,.qo]}};show Ox (k0:=[.x c.k.y.q,v]) J z B<|by with_unfolding_all rfl
def pN!(xs:gz)(lo hi:af ae):gz:=(xs.kw<|HT.sIx xs.f 0 lo).ze<|HT.sIx xs.f xs.f hi-HT.sIx xs.f 0 lo
def b4m xs lo hi:(pN xs lo hi).f<=xs.f:=by ext pN;rw[ţ,vd];lia
def FE!(K:Ï):R2:=λx y H Q=>∃a b xs c,x=.x a/\y=.x b/\à K H a xs/\à K H b c/\xs≠[]/\xs.f+c.f<=Ò /\
 (c=[]->Q (.x a) H)/\(c≠[]->∀p,H p=b0->Q (.x p) (eo H p<|.L<|xs++c))
def Æ.nil_iff(r:Æ xs us):us=[]↔xs=[]:=by
 cases r with
 |fk=>simp|bm _ _=>simp
def b4l:Ē X (ι .Add) (FE X.K):=by intro j s L H x y v u Q I E G h;let(a,b,J,K,?r,?r,k,n,o,g,A,B):=h;ext E;ext G;let(b5,d,p,_):=I.kl k;let(i,c,p2,_):=I.kl n;show HT.cat_tup p p2 (λz=>o<|d.nil_iff.Z z) (λz=>(.x a,H,I,?r,A<|c.nil_iff.Z z)) (λz=>?_) (by rw[<- d.f,<- c.f];show g);show(.x s.k.y.q,_,I.laid (t':=s.xh) (o:=.L (J++K)) (λb ob q=>ä _ q) (Ô _) ?_,?r,B (λw=>z<|c.nil_iff.v w) _<|I.vr.xo<|Ô _);show(by rw[ô];show g,_,d.append c,Λ.new _ _)
def oE!(n:am)(i:ae):af am:=if 0<=i then(if i<n then a7 i.zi else b0)else if -(n:ae)<=i then a7 (i+n).zi else b0
def atI!{a:Type}(xs:ab a)(i:ae):af a:=(oE xs.f i).U λj=>xs[j]?
def b4i(h:oE n i=a7 j):zb i n=a7 j/\j<n/\-(n:ae)<=i/\i<n:=by
 unfold oE at h;by_cases h0:0<=i
 .rw[ad h0]at h;by_cases h1:i<n
  .rw[ad h1]at h;let e:i.zi=j:=Ĕ h;show(by rw[seqIndex_of h0 h1,e],(),(),h1)
  .rw[ac h1]at h;ext h
 .rw[ac h0]at h;by_cases h1:-(n:ae)<=i
  .rw[ad h1]at h;let e:(i+n).zi=j:=Ĕ h;show(by rw[seqIndex_neg () h1,e],(),h1,())
  .rw[ac h1]at h;ext h
def Br{xs:ab a}{v:a}(h:lv xs i=a7 v):∃j,zb i xs.f=a7 j/\xs[j]?=a7 v/\j<xs.f/\-(xs.f:ae)<=i/\i<xs.f:=by
 unfold lv at h;cases e:oE xs.f i with
 |bp=>rw[e]at h;ext h|bb j=>rw[e]at h;let(h1,b,c,d):=b4i e;show(j,h1,h,b,c,d)
def Bs!(b:bo):Prop:=∀o i,Nz b b3 o i=operate [o,i] (ud o i)
def il!(X:Cx)(r:R2):Prop:=
 ∀(b a:bo)(Do:jw)(s:Ø)(σ:St)(H:Hp)(x y:V)(v u:ax)(Q:VK),Â X Do σ H s->Í x v->Í y u->r x y H Q->
  Nz a b3 v u=operate [v,u] (ud v u)->Ç (Ê X.Y X.w) X.A (O4 b a v u) (EP X Do σ Q) X.xe s
def b4h!(X:Cx)(id:cq)(r:V->gz->Hp->VK->Prop):Prop:=
 ∀(Do:jw)(s:Ø)(σ:St)(H:Hp)(x:V)(xs:gz)(v:ax)(us:gw)(Q:VK),Â X Do σ H s->Í x v->Æ xs us->r x xs H Q->
  Ç (Ê X.Y X.w) X.A (ia (.zn id)<|v::us) (EP X Do σ Q) X.xe s
def il.or(h:il X r)(h':il X i):il X (λx y H Q=>r x y H Q\/i x y H Q):=by
 intro d c e s n H x y v u Q I j k q g;rcases q with q|q
 .show h d c e s n H x y v u Q I j k q g
 .show h' d c e s n H x y v u Q I j k q g
def b4f(j:il X r)(g:PE X a ta)(i:PE X b tb)(k:Bs b):PE X (.xy a b ca) (uW r ta tb):=by intro c s w H Q I h;show NY<|Bf g i I h λv u p x y d e n o q=>j a b c p w d x y v u Q e n o q<|k _ _
def FF!(K:Ï):R2:=λx y H Q=>∃p xs i v,x=.x p/\y=.p i/\Ā K H p xs/\lv xs i=a7 v/\Q v H
def FG!(K:Ï):R2:=λx y H Q=>∃p xs i v,x=.x p/\y=.p i/\à K H p xs/\lv xs i=a7 v/\Q v H
def FH!:R2:=λx y H Q=>∃z i c,x=.jv z/\y=.p i/\z.f<=Ò/\lv z.cps.zh i=a7 c/\Q (.jv ⟨#[c]⟩) H
def bz:il X (FF X.K):=by
 intro k g c s A H x y v u Q I M N h o;let(p,Y,i,z,?r,?r,L,J,q):=h;ext M;let(t,?r):=N;let(b5,r,pl,U):=I.vu L;let(j,h1,B,R,E,G):=Br J;let(w,n,e):=r.get B;let K:=r.f;let T:=qV;let dr:EP X c A Q w s:=(z,H,I,e,q);by_cases h0:0<=i
 .let d:i.zi=j:=by rw[seqIndex_of h0 G]at h1;show Ĕ h1
  show item_listR pl.xc h0 () (by rw[d];apply n) dr o
 .let d:(i+(b5.E.q:ae)).zi=j:=by rw[seqIndex_neg () E]at h1;rw[Ģ,<- K];show Ĕ h1
  show SR (x:=w) pl.xc.ja Q4.B
   (wpAny_getItem_list_neg (Q:=λr O=>r=w/\EP X c A Q r O) pl.xc () (by rw[Ģ]<;>lia) () (by rw[d];apply n) (?r,dr)) o
def mq:il X (FG X.K):=by
 intro g e c s k H x y v u Q I J K h G;let(p,U,i,z,?r,?r,E,A,q):=h;ext J;let(t,?r):=K;let(b5,r,pl,T):=I.kl E;let(j,h1,o,M,N,O):=Br A;let(w,n,d):=r.get o;let B:=r.f;let R:=qV;let dr:EP X c k Q w s:=(z,H,I,d,q);show SR (x:=w) pl.ja slot_tuple_getitem.B
  (getItem_tuple (j:=j) (Q:=λr L=>r=w/\EP X c k Q r L) pl () () (by rw[Ģ,<- B];show h1) (by apply n) (?r,dr)) G
def b4e:il X FH:=by
 intro e d g s O H x y v u Q I G J h E
 obtain (z|i|c|rfl|rfl|M|A|q):=h
 obtain (t|rfl):=G
 obtain (N|rfl):=J
 obtain (j|h1|o|K|p|w):=Br A
 let B:z.cps.zh.f=z.f:=by simp [cf.f]
 rw [B] at h1 p w
 let L:=qV
 show Ox (typeIs_str s z t) slot_str_getitem.B (getItem_str (c:=c) (by
  let k:ag (i < -(2 ^ 63:ae))=ai:=ba ()
  let n:ag (i >= 2 ^ 63)=ai:=ba ()
  rw [k,n,OG]) (by rw [h1];apply o) (.jv ⟨#[c]⟩,H,I.tok _,(_,?r),q)) E
def FI! (K:Ï):R2:=fun x y H Q=>FF K x y H Q\/FG K x y H Q\/FH x y H Q
def b4c:il X (FI X.K):=bz.or<|mq.or b4e
def b4H lo hi n:(Ϡ lo hi b0 n).1=((HT.sIx n 0 lo:am):ae)/\(Ϡ lo hi b0 n).2.1=((HT.sIx n n hi:am):ae)/\(Ϡ lo hi b0 n).2.2=1:=by
 show(?_,?_,?r)
 .cases lo with
  |bp=>simp[Ϡ,HT.sIx]|bb i=>
   dsimp[Ϡ,HT.sIx,NA,show(1:ae)>0 by decide,cy];by_cases h:i<0
   .dsimp[h,cy]<;>lia
   .dsimp[h,cm]<;>lia
 .cases hi with
  |bp=>simp[Ϡ,HT.sIx]|bb i=>
   dsimp[Ϡ,HT.sIx,NA,show(1:ae)>0 by decide,cy];by_cases h:i<0
   .dsimp[h,cy]<;>lia
   .dsimp[h,cm]<;>lia
def b4G(b5:gw)lo hi:Nu b5.E lo hi b0=((b5.kw<|HT.sIx b5.f 0 lo).ze<|HT.sIx b5.f b5.f hi-HT.sIx b5.f 0 lo).E:=by let(h1,c,d):=b4H lo hi b5.E.q;ext Nu;rw[h1,c,d];dsimp[sliceRange_one,pick_run,Ģ]<;>rfl
def Bt!(K:Ï):V->af ae->af ae->Hp->VK->Prop:=λx lo hi H Q=>∃a xs,x=.x a/\Ā K H a xs/\∀p,H p=b0->Q (.x p) (eo H p<|.D<|pN xs lo hi)
def b6q:Bq X (Bt X.K):=by intro i s z H x v w y e hi u Q I p j pl o h;let(a,c,?r,k,q):=h;ext p;let(b5,r,g,n):=I.vu k;let d:=r.f;show("list",_,Q4.B,g.xc.ja,?_);show TR g.xc j pl o .qo ∅ ?_ (by rw[Ģ]<;>lia);rw[b4G,<- d];show(.x s.k.y.q,_,I.laid (t':=s.xh) (o:=.D (pN c e hi)) (λb ob q=>ä _ q) (Ô _) ?_,?r,q _<|I.vr.xo<|Ô _);show(ĥ (b4m c e hi) n,_,0,(r.kw<|HT.sIx c.f 0 e).ze<|HT.sIx c.f c.f hi-HT.sIx c.f 0 e,ÿ _ ?r)
def FJ:Ē X (Ķ .NotIn) (λx y H Q=>∃i j,x=.jv i/\y=.jv j/\Q (.bl<|!(!(lg j i 0 j.f 1).qk)) H):=by intro c s k H x y v u Q I d e h;let(i,j,?r,?r,q):=h;let(t,?r):=d;let(g,?r):=e;show notIn_str (.bl _,H,I,?r,q)
def Ų:ß X (.zn "len") (λxs H Q=>∃p d,xs=[.x p]/\(Ā X.K H p d\/à X.K H p d)/\Q (.p d.f) H):=by
 intro i s v H xs o Q I r h;let(p,d,?r,e,q):=h;let(u,?r,k):=hJ r;ext k;let n:=qV;rcases e with e|e
 .let(b5,g,pl,j):=I.vu e;let c:=g.f;show Calls.call_len_list pl.xc (by dsimp[Ģ]<;>lia) (.p d.f,H,I.tok _,(s.xh+1,by rw[Ģ,c]),q)
 .let(b5,g,pl,j):=I.kl e;let c:=g.f;show len_tuple pl (by dsimp[Ģ]<;>lia) (.p d.f,H,I.tok _,(s.xh+1,by rw[Ģ,c]),q)
def b6p:ß X (.zn "len") (λxs H Q=>∃z,xs=[.jv z]/\z.f<=Ò/\Q (.p z.f) H):=by intro c s i H xs g Q I r h;let(z,?r,e,q):=h;let(u,?r,t,?r):=hJ r;let d:=qV;show len_str () (.p z.f,H,I.tok _,(_,?r),q)
def ß.or(h:ß X f r)(h':ß X f d):ß X f (λxs H Q=>r xs H Q\/d xs H Q):=by
 intro c s g H xs e Q I rs q;rcases q with q|q
 .show h c s g H xs e Q I rs q
 .show h' c s g H xs e Q I rs q
def ű:ß X (.O "list") (λxs H Q=>∃p d,xs=[.x p]/\(Ā X.K H p d\/à X.K H p d)/\∀l,H l=b0->Q (.x l) (eo H l<|.D d)):=by
 intro v s z H xs A Q I r h;let(p,d,?r,i,q):=h;let(u,?r,y):=hJ r;ext y;let dr:∀(b5:gw),Æ d b5->d.f<=Ò->∀(h':ê)(c':am),(∀b x,s.k.G b=a7 x->h'.G b=a7 x)->
   h'.G s.k.y.q=a7 {cw:=.O "list",ix:=b0,bv:=.seq b5.E c',ft:=#[]}->EP X v z Q (.x s.k.y.q) {s with ce:=h'}:=λb5 c j h' c' k e=>
  (.x s.k.y.q,_,I.laid (t':=s.xh) k (Ô _)<|show á X.Y X.w _ h' _ (.D d)from(j,b5,c',c,e),?r,q _<|I.vr.xo<|Ô _)
 rcases i with i|i
 .let(b5,c,pl,j):=I.vu i;let g:=c.f;let(o,w,hc,n,hd):=pl.xc;show call_list_seq p (.Q ?r) w hc hd (λh' c' k e=>dr b5 c j h' c' k e)<|by dsimp[Ģ]<;>lia
 .let(b5,c,pl,j):=I.kl i;let g:=c.f;let(o,w,hc,n,hd):=pl;show call_list_seq p (.X ?r) w hc hd (λh' c' k e=>dr b5 c j h' c' k e)<|by dsimp[Ģ]<;>lia
def FK:ß X (.O "tuple") (λxs H Q=>∃p c,xs=[.x p]/\((Ā X.K H p c/\∀l,H l=b0->Q (.x l) (eo H l<|.L c))\/(à X.K H p c/\Q (.x p) H))):=by
 intro d s w H xs A Q I r h;let(p,c,?r,h):=h;let(u,?r,z):=hJ r;ext z;rcases h with(i|q)|(i|q)
 .let(b5,j,pl,v):=I.vu i;let n:=j.f;show call_tuple_list pl.xc (λg y=>?_) (by dsimp[Ģ]<;>lia);let k:Â X d w H {s with ce:=g}:=I.vx (t':=s.xh) y;let x:Â X d w (eo H g.y.q<|.L c) {s with ce:=g.zl {cw:=.O "tuple",bv:=.seq b5.E}}:=
   k.laid (t':=s.xh) (λb o e=>ä _ e) (Ô _)<|show á X.Y X.w _ _ _ (.L c)from(v,b5,j,Λ.new _ _)
  show(.x g.y.q,_,x,?r,q _<|k.vr.xo<|Ô _)
 .let(b5,j,pl,v):=I.kl i;show call_tuple_same pl (.x p,H,I,?r,q)
def Bu!(K:Ï)(T:cq)(x:V)(H:Hp):Prop:=match x with
 |.jv _=>T="str"|.p _=>T="int"|.x p=>(T="list"/\∃d,Ā K H p d)\/(T="tuple"/\∃o,K.B p=a7 o/\o.cls=.O "tuple"/\o.dict=b0) \/
   (T="dict"/\((∃c,H p=a7 (.dK c))\/∃c,H p=a7 (.dT c)))\/(T="set"/\∃S n,H p=a7 (.xl S n))
 |_=>ef
def b6n{σ:St}(I:Â X Do σ H s)(r:Í x v)(ty:Bu X.K T x H):
  s.TypeIs v T/\∀a,v=.x a->∃ob,s.k.G a=a7 ob/\ob.dict=bp:=by
 cases x with
 |gy z=>let(t,?r):=r;cases(show T="str" from ty);show(typeIs_str s z t,λ_ e=>nomatch e)|gv i=>let(t,?r):=r;cases(show T="int" from ty);show(typeIs_int s i t,λ_ e=>nomatch e)|ref p=>
  ext r;rcases ty with(rfl|q|k)|(rfl|o|d|hc|hd)|(rfl|d)|(rfl|S|n|d)
  .let(b5,_,pl,_):=I.vu k;show(pl.xc.ja,λa e=>?_);ext e;let(o,n,e,c,hd,_):=pl;show(o,e,hd)
  .show((o,I.kIn p o d,hc),λa e=>?_);ext e;show(o,I.kIn _ o d,hd)
  .let z:∃o,s.k.G p=a7 o/\o.ExactDict:=by
    rcases d with(j|d)|(j|d)
    .let(_,_,_,_,o,_,_,e,g,_):=I.vr p _ d;show(o,e,g)
    .let(_,_,_,_,o,_,_,e,g,_):=I.vr p _ d;show(o,e,g)
   let(o,e,g):=z;show((o,e,g.1),λa h=>?_);ext h;show(o,e,g.2.1)
  .let(o,_,_,_,e,g,_):=I.vr p _ d;show((o,e,g.1),λa h=>?_);ext h;show(o,e,g.2.1)
 |_=>show Γ ty
def FL!(K:Ï)(T:cq)(r:V->gz->Hp->VK->Prop)(to:TE)(t:TA):TE:=λσ H Q=>to σ H λx c=>Bu K T x c/\t σ c λxs d=>r x xs d Q
def b6X{id:cq}(L:PlainAttrs T)(k:Slot T fg id)(n:NS (.zn id)=ej (.O "method_descriptor"))(G:b4h X id r)(J:PE X o to)(E:PA X (e::es) t)(g:jj o fg X.M (eu o X.M)=eu o X.M:=by rfl)(j:((ĵ fb (ð (e::es) X.M)).all (λx=>!x.1)&&(ak fb (au [] X.M)).all (λx=>x.1.qh)
   && ag ((e::es).f+([]:ab ϻ).f+(if([]:ab ϻ).qk then 0 else 1)<30))=bt:=by rfl)(i:(f8.ku==fb.line)=bt:=by rfl)(K:ð (e::es) X.M=⟨b3,eu e X.M⟩::ð es X.M:=by rfl)(c:(ĵ fb (ð es X.M)).any (·.1)=ai:=by rfl):
  PE X (.xz (.zk o fg f8) (e::es) [] fb) (FL X.K T r to t):=by
 intro d s p H Q I h;show SS g j i ?r (aR (J d s p H _ I h) λv R (x,y,q,w,ty,M)=>?_);let(h1,B):=b6n q w ty;show(T,id,L,k,n,h1,B,?_);let u:=E fb d R p y _ q M;rw[K]at u ⊢;show ND (by change(b3||(ĵ fb (ð es X.M)).any (·.1))=b3;rw[c]<;>rfl) (T5 ?_);show aR u λY U (Z,z,A,O,N)=>G d U p z x Z v Y Q A w O N
def mZ!(X:Cx)(id:cq)(r:V->gz->Hp->VK->Prop):Prop:=
 ∀(Do:jw)(s:Ø)(σ:St)(H:Hp)(x:V)(xs:gz)(v:ax)(us:gw)(Q:VK),Â X Do σ H s->Í x v->Æ xs us->r x xs H Q->
  Ç (Ê X.Y X.w) X.A (ia (.zn id)<|v::us) (EP X Do σ Q) X.xe s
def Æ.one(h:Æ [x] us):∃u,us=[u]/\Í x u:=by
 cases h with
 |bm r t=>ext t;show(_,?r,r)
def Æ.two(h:Æ [x,y] us):∃u v,us=[u,v]/\Í x u/\Í y v:=by
 cases h with
 |bm r t=>let(v,?r,q):=Æ.one t;show(_,v,?r,r,q)
def Æ.eraseIdx:∀{xs}{us}i,Æ xs us->Æ (xs.vc i) (us.vc i)
 |_,_,_,.kk=>.kk|_,_,0,.zv _ t=>t|_,_,i+1,.zv r t=>.zv r<|Æ.vc i t
def FN{a:Type}:∀(l:ab a)i,(l.vc i).f<=l.f
 |[],_=>Ô _|_::_,0=>dj _|_::r,i+1=>am.succ_le_succ<|FN r i
def Â.lset{σ:St}{b5:gw}(I:Â X Do σ H s)(a:H l=a7 (.D xs))(e:s.k.G l=a7 {cw:=.O "list",bv:=.seq b5.E n})(d:f b5.E=lj.E)(h:Æ ys lj)(hz:ys.f<=Ò):
  Â X Do σ (eo H l<|.D ys) {s with ce:=s.k.vi l<|ly f,dL:=t'}:=by
 let q:=ci.IsL.vi e f;rw[d]at q;show I.write (x:=l) (e:=l) (by rw[a];show fw) (.Q ?r) (λi u c g=>(J4 s.k (ly f)<|ì c).u g) (_,q) ?_;show(hz,lj,_,h,q)
def Â.lnew{σ:St}(I:Â X Do σ H s)(a:Æ ys b5)(hz:ys.f<=Ò):
  Â X Do σ (eo H s.k.y.q<|.D ys) {s with ce:=s.k.zl {cw:=.O "list",bv:=.seq b5.E},dL:=t'}:=
 I.laid (λ_ x q=>ä _ q) (Ô _) (hz,b5,0,a,ÿ _ ?r)
def Â.fresh{σ:St}(I:Â X Do σ H s):H s.k.y.q=bp:=I.vr.xo<|Ô _
def Â.lstM{σ:St}(I:Â X Do σ H s)(a:H l=a7 (.D xs)):xs.f<=Ò/\∃(b5:gw)(n:am),Æ xs b5/\xs.f=b5.f/\s.k.G l=a7 {cw:=.O "list",bv:=.seq b5.E n}:=by let(z,b5,n,r,e):=I.vr l _ a;show(z,b5,n,r,r.f,e)
def b6W(h:n<=Ò):R0 n=ai:=by ext R0;show ba ()
def FP!:V->gz->Hp->VK->Prop:=λx vs H Q=>∃l xs y,x=.x l/\vs=[y]/\H l=a7 (.D xs)/\xs.f<Ò/\Q .kf (eo H l<|.D<|xs++[y])
def FQ:mZ X "list.append" FP:=by intro b s w H x o v k Q I g d h;let(l,p,y,?r,?r,a,j,q):=h;ext g;let(u,?r,c):=d.one;let(z,b5,n,r,i,e):=I.lstM a;show zf F.slot_list_append (_,e,?r) F.entry_list_append (F.args_list_append_2 _ _) (ci.list_append l b5.E n u<|by rw[Ģ];lia) (e,?_);show(.kf,_,I.lset (lj:=b5++[u]) a e ∅ (r.append<|.zv c .kk) ?_,?r,q);rw[ô,wj];lia
def FR!:V->gz->Hp->VK->Prop:=λx vs H Q=>∃l b xs a,x=.x l/\vs=[.x b]/\H l=a7 (.D xs)/\H b=a7 (.D a)/\xs.f+a.f<=Ò/\Q .kf (eo H l<|.D<|xs++a)
def b6U:mZ X "list.extend" FR:=by
 intro i s O H x K v J Q I B A h;let(l,b,L,N,?r,?r,g,k,G,q):=h;ext B;let(u,?r,y):=A.one;ext y;let(z,b5,n,r,E,e):=I.lstM g;let(M,a,p,w,o,j):=I.lstM k;let d:b5.E.q+a.E.q<=Ò:=by rw[Ģ,Ģ];lia
 let c:¬ (!b5.E.qk&&R0 (b5.E.q+a.E.q))=bt:=by rw[b6W d,Rg];show þ
 show zf F.slot_list_extend (_,e,?r) F.entry_list_extend (F.args_list_extend_2 _ _)
  (AutoSeq1.list_extend_list_list_0 l b5.E n b a.E p c (by rw[Ģ];lia) ()) (e,j,?_)
 show(.kf,_,I.lset (lj:=b5++a) g e ∅ (r.append w) ?_,?r,q);rw[ô];lia
def FT!:V->gz->Hp->VK->Prop:=λx vs H Q=>∃l xs i k y,x=.x l/\vs=[.p i]/\H l=a7 (.D xs)/\-(2^63)<=i/\i<2^63/\zb i xs.f=a7 k/\xs[k]?=a7 y/\Q y (eo H l<|.D<|xs.vc k)
def b6S:mZ X "list.pop" FT:=by
 intro c s K H x J v G Q I B A h;let(l,E,i,k,y,?r,?r,b,h1,d,g,o,q):=h;ext B;let(u,?r,p):=A.one;let(t,?r):=p;let(z,b5,n,r,j,e):=I.lstM b;let(w,hw,a):=r.get o;show zf F.slot_list_pop (_,e,?r) F.entry_list_pop (F.args_list_pop_2 _ _)
  (MeetsSeq.list_pop_at l b5.E n i t k w (fitsIndex_both h1 d) (by rw[Ģ,<- j];show g) (by rw[<- UV];show hw)<|by rw[Ģ];lia) (e,?_)
 show(y,_,I.lset (lj:=b5.vc k) b e ?_ (r.vc k) ?_,a,q)
 .change b5.E.eraseIdxIfInBounds k=(b5.vc k).E;rw[ab.eraseIdxIfInBounds_toArray]
 .have:=FN E k;lia
def FU!:R2:=λx y H Q=>∃l b xs a,x=.x l/\y=.x b/\H l=a7 (.D xs)/\H b=a7 (.D a)/\xs.f+a.f<=Ò/\∀p,H p=b0->Q (.x p) (eo H p<|.D<|xs++a)
def b5k:Ē X (ι .Add) FU:=by
 intro c s L H x y v u Q I p w h;let(l,b,G,K,?r,?r,j,i,B,q):=h;ext p;ext w;let(z,b5,n,r,A,e):=I.lstM j;let(J,a,E,o,k,d):=I.lstM i;show ci.P.add_list e d ?_ (by rw[Ģ,Ģ];lia);let g:b5.E++a.E=(b5++a).E:=∅
 rw[g];show(.x _,_,I.lnew (t':=s.xh) (r.append o)<|by rw[ô];lia,?r,q _ I.xo)
end _2
namespace Att
open PySem PySem.W PySem.Calls PyProof.Rows
def b5j:∀ns(vs:gw),WellAll P h vs (ns.o vh)->Ŷ vs ns:=by
 intro ns;induction ns with
 |fk=>intro vs w;rw[du]at w;ext w;show .kk|bm n ns c=>
  intro vs w;rw[í]at w;cases w with
  |bm a b=>ext a;show .zv _ _<|c _ b
def script_of{l:OpenLaw}(w:l.most=a7 n){e:gw}(c:l.row.toRowW.claim.pre ck=b4)(p:WellAll P h e ck):
  ∃a s b,e=[Ñ a]/\ck=[WData.vu<|b.o vh]/\h.G a=a7 {cw:=.O "list",bv:=.seq s.E}/\Ŷ s b/\b.f<=n:=by
 let o:WShape.hasAll [] ck [.vu .p]=bt:=(pre_splitW c).1;let hc:l.pre.holds [] {ck:=ck}=bt:=(pre_splitW c).2;let(d,r,?r,h1,u):=hasAllW_cons o;obtain rfl:=hasAllW_nil u;let(B,?r,v):=hasW_list h1;let(b,?r):=items_int v;let i:b.f<=n:=by
  unfold OpenLaw.pre at hc;let j:(WTm.not<|.lt (.lit<|.p (n:ae))<|.len<|.arg 0).holds [] {ck:=[.vu<|b.o .p]}=bt:=by let j:=(holds_andW hc).1;rw[w]at j;show j
  let k:=condW_of j<|w_not<|w_lt w_lit<|w_len_list<|w_arg ?r;rw[Ä]at k;show Se λq=>?_;let y:(n:ae)<((b.f:am):ae):=()
  first
   |(rw[cc y]at k;show cb k ⋯)|(simp at k;lia)
 cases p with
 |bm z A=>
  ext A;cases z with
  |list x g=>show(_,_,b,?r,?r,x,b5j b _ g,i)
def post_true(l:OpenLaw)ck:l.row.toRowW.claim.post ck (.kt b4) ck=bt:=
 postW_of (r:=l.row.toRowW) (X:=(b4==b4))
  (show S7 [] (.kt b4) .kt=b4 by first|rfl|decide|simp[S7,WShape.arms,WShape.armsAll])
  (show(WTm.eq .res<|.lit<|.kt b4).value [] {ck:=ck,res:=a7<|.kt b4,after:=ck}=a7 (.kt<|b4==b4)from w_eq_bool (w_res ?r) w_lit) ?r
end Att
namespace _2
open PySem PySem.Spec PyProof.Rows
def FV:∀{vs:gw}{ns},Ŷ vs ns->Æ (ns.o V.p) vs
 |_,_,.kk=>.kk|_,_,.zv n t h=>.zv (t,?r)<|FV h
def FW!(H:Hp):Prop:=∀b,H b=b0\/∃o xs,H b=a7 (.frz o<|.D xs)
def law_call{K:Ï}{vs:gw}(KX:K.In c.k)(I:c.k.Ns Ş N)(g:c.k.Ns Oz mb)(X:∀x:cf,x ≠ "__name__"->mb x=ξ x)(G:c.k.NoLimit)(hg:c.gens=#[])(Q:c.k.G a=a7 {cw:=.O "list",bv:=.seq vs.E})(hi:Ŷ vs ns)(hl:ns.f<=Ò)(hr:Þ k ni)(F:∀i,K.In i->i.Ns Ş N->đ P w K N i CX k T fd [x] sp)(A:∀s u,uc s fd ([u],[]) [⟨x,u⟩])(Z:∀H,FW H->Ā K H a (ns.o V.p)->sp [.x a] H (λv f=>v=.bl b4) λ_ f f=>ef)(U:∀H e j,CX [] H c (λ_ f f=>ef) e j->ef):
  Ρ (Ê P w) ni (.call (.x T) ([.x a],[])) (λr j=>r=.ok (.ret<|.kt b4)/\OldK c.k j.k/\j.os=c.os/\iy j.gens) c:=by
 let rv:=FV hi;let M:=hi.f
  -- from an abstract heap in which nothing but the script may be tracked
 let y:∀H:Hp,FW H->Ā K H a (ns.o V.p)->Ř P w H c.k->(∀b,H b≠b0->b=a)->(H a≠b0->K.B a=b0)->
   Ρ (Ê P w) ni (.call (.x T) ([.x a],[])) (λr j=>r=.ok (.ret<|.kt b4)/\OldK c.k j.k/\j.os=c.os/\iy j.gens) c:=by
  intro H hO hS J hA hK;let mB:∀{b:ar}{o:hH},c.k.G b=a7 o->H b=b0->(oB c.k H).G b=a7 o:=λe n=>a9B e n;let noA:∀{b:ar}{o:hH}{es:eh eg}{ep:am},c.k.G b=a7 o->o.data=.dict es ep->H b=bp:=λ{b o es ep} e d=>by
   cases q:H b with
   |bp=>rfl|bb u=>have R:b=a:=hA b (by rw[q];simp);subst R;rw[Q]at e;ext e;let d':Nw vs.E _=ϙ es ep:=d;ext d'
  let p:∀{b:ar}{m:cf->af ax},c.k.Ns b m->(oB c.k H).Ns b m:=λ{b m} (o,es,ep,e,d,r)=>(o,es,ep,mB e<|noA e d,d,r);let E:K.In (oB c.k H):=λb o e=>mB (KX b o e)<|by
   cases q:H b with
   |bp=>rfl|bb u=>
    let R:b=a:=hA b (by rw[q];simp);subst R;rw[hK<|by rw[q];simp]at e;ext e
  let hM:Mod K N (oB c.k H):=(E,p I,(mb,p g,X),let(mc,h1,h2):=G;(mc,p h1,h2));let e0:ψ P w K N (oB c.k H) ni [] c H:=(?r,hM,λb o e=>a8z e,qi<|a9E _ _,fw,λb g=>cb (show b∈([]:ab ar)from g) ∅,J,.of_eq hg);show zq ((F _ E<|p I).run ni [] c H ([.x a],[]) [.x a] [.x a] _ _ hr e0 (A c<|.x a) (.zv ?r .kk)<|Z H hO hS) λr j h=>?_;cases r with
  |error e=>show(U H e j h).vl|ok fl=>
   cases fl with
   |nw=>show Γ h|brk=>show Γ h|n0=>show Γ h|ret u=>
    let(v,H',os,B,un,L,r',q):=h;let q':v=.bl bt:=q;subst q';obtain rfl:u=Ţ bt:=r';show(?r,OldK.of_keep λb o e=>?_,os,B);cases q:H b with
    |bp=>show un.keep b o e q (by intro z;show cb (show b∈([]:ab ar)from z) ∅) ∅|bb u=>
     rcases hO b with z|(ob|xs|z)
     .rw[q]at z;ext z
     .have z2:=un.frzs b ob _ z;let(e1,_):=J b _ z;let(e2,_):=L b _ z2;rw[e]at e1;ext e1;show e2
 cases Y:K.B a with
 |bb o=>-- the script is one of the module's own objects
  let e:=KX a o Y;rw[Q]at e;ext e;show y (λ_=>b0) (λ_=>.Q ?r) (.X (_,vs.E,_,Y,?r,?r,?r,by rw[Ģ,M];show hl,by apply rv)) (λb u z=>by let O:(b0:af HO)=a7 u:=z;ext O) (λb z=>cb ?r z) λz=>cb ?r z
 |bp=>
  show y (λb=>if b=a then a7 (.frz {cw:=.O "list",bv:=.seq vs.E}<|.D<|ns.o V.p)else b0) (λb=>?_) (.Q<|.X ({cw:=.O "list",bv:=.seq vs.E},ad ?r)) (λb u z=>?_) (λb z=>?_) λ_=>Y
  .by_cases g:b=a
   .show .X (_,_,ad g)
   .show .Q<|ac g
  .by_cases g:b=a
   .let O:=(ad g).symm.trans z;ext O;subst g;show(Q,by rw[Ä];show hl,vs,_,rv,Q)
   .let O:=(ac g).symm.trans z;ext O
  .by_cases g:b=a
   .show g
   .show cb (ac g) z
def jR!(s:ff):Arguments:=match s with
 |.FunctionDef _ a _ _ _ _ _ _ _ _=>a|_=>{posonlyargs:=[],ck:=[],vararg:=b0,kwonlyargs:=[],kw_defaults:=[],kwarg:=b0,defaults:=[]}
def hW!(s:ff):ab ff:=match s with
 |.FunctionDef _ _ b _ _ _ _ _ _ _=>b|_=>[]
def dO!(s:ff):θ:=match s with
 |.FunctionDef _ _ _ _ _ _ sc _ _ _=>sc|_=>{kind:=.kv,gS:=[],isGenerator:=b3,isCoroutine:=b3}
noncomputable abbrev gR:mY:=λ_ x x x x x=>ef
noncomputable abbrev E0:XK:=λ_ x x=>ef
def uY:pM gR X E0:=λ_ x x x x x x h=>h.vl
structure Ϧ(K:Ï)(x qual:cf)(st:ff)(f:ar)(fd:km):Prop where
 ex:∃(oc:ax)(od:af ar)(dV kV doc pm:ax)(an:af ar)(cdv ct:ax)(osl:eh (af ax)),
  fd=ο x qual (jR st) (hW st) (dO st) dV kV doc pm an cdv ct/\K.B f=a7 (oc,od,.func fd,osl)/\N6 K cdv qual=b4
 kp:ϟ K (.x f)=b4
def Ϧ.ok{K:Ï}{st:ff}(F:Ϧ K x a st f g)(S:ī N ps (dO st))(len:∀vs H Q E,sp vs H Q E->vs.f=ps.f)(c:∀b A ee s H(vs:gz)Q E,Þ k (A.deeper<|j1 a (dO st) s.k.y.q f b)->sp vs H Q E->
   ∃t,ş (oC gR P w K mg fy N a (dO st) f b A ee s H E).nox (hW st) t/\t {nx:=λ_ i=>Q .kf i,rt:=Q} (md N vs) H):đ P w K mg fy gR (k+1) f g ps sp:=by
 let(v,y,u,kV,j,z,p,b,ct,o,?r,lk,d):=F.ex;show b3U lk d S len λA ee s H vs Q E n e=>?_;let(t,h,q):=c b A ee s H vs Q E n e;show(t,h.nox,q)
def FX{K:Ï}{st:ff}{kV:ax}(l:K.B f=a7 (i,j,.func<|ο x a (jR st) (hW st) (dO st) g kV d h an b ct,e))(c:N6 K b a=b4)(k:ϟ K (.x f)=b4):Ϧ K x a st f (ο x a (jR st) (hW st) (dO st) g kV d h an b ct):=((i,j,g,kV,d,h,an,b,ct,e,?r,l,c),k)
def b1U(a:Þ k A):A.qv+1<ă:=am.lt_of_le_of_lt (am.add_le_add_left (by decide:1<=64) _) a.qv
def pO{A:Prop}(h:B):if b3=b4 then A else B:=by rw[ac þ];show h
def pP{A:Prop}(h:A):if b4=b4 then A else B:=by rw[ad ?r];show h
section
variable{κ:Type} [DecidableEq κ]
end
end _2
namespace _3
open PySem PySem.W
def left_cut{Yf:Ø → Q}{Ya:ņ → Q}{hA hB hC hD:ϯ → ê}(i:∀w,(fencedOpening Δ p w N).o (λs=>⟨s.k,s.gens,s.drawn,s.xh⟩)=a7 ⟨ao w.xp,Ď [],ō,yx⟩)(size:∀w:ņ,⟨(ao w.xp).isNs Ş,(ao w.xp).objs.size,(ao w.xp).nsMap Ş "__annotations__"⟩=⟨b4,b,g⟩)(np:∀w a,topGo Δ p w b g x (ao w.xp,Ď [],ō,yx,a) (topStub p)=a7 ⟨(hA w.xp,Ď [],ō,kA,a),(denote Δ<|.body (ĭ p) eA,.body (ĭ p) eA,H,[ϫ j])⟩)(z:∀w a,cu Δ p w b g 1 n (hA w.xp,Ď [],ō,kA,a) (blockOf (ĭ p) eA (.body (ĭ p) eA) H [ϫ j])=a7 ⟨.next,(hA w.xp,Ď [],ō,kA,a),.body (ĭ p) eA,y⟩)(s1:∀w a,cu Δ p w b g 1 o (hA w.xp,Ď [],ō,kA,a) (nu ((ĭ p).ze i1) eA (.body (ĭ p) eA) y [ϫ j])=a7 ⟨.next,(hB w.xp,Ď [],ō,B,a),.body (ĭ p) eA,I⟩)(s2:∀w a,cu Δ p w b g 1 u (hB w.xp,Ď [],ō,B,a) (nu (((ĭ p).kw i1).ze i2) eA (.body (ĭ p) eA) I [ϫ j])=a7 ⟨.next,(hC w.xp,Ď [],ō,E,a),.body (ĭ p) eA,J⟩)(s3:∀w a,cu Δ p w b g 1 v (hC w.xp,Ď [],ō,E,a) (nu ((((ĭ p).kw i1).kw i2).ze i3) eA (.body (ĭ p) eA) J [ϫ j])=a7 ⟨.next,(hD w.xp,Ď [],ō,G,a),.body (ĭ p) eA,K⟩)(dr:∀w a,((topRun Δ p w b g n4 (hD w.xp,Ď [],ō,G,a)<|restOf ((((ĭ p).kw i1).kw i2).kw i3) eA (.body (ĭ p) eA) K [ϫ j]).U λc=>match staticsOk (RG p.main.body) (ao w.xp) c.k&&namesBound p c.k&&gensDone c&&laidKept (ao w.xp) c.k with
   |bt=>a7 c
   |ai=>b0).o (λs=>⟨openSeen q ny (RG p.main.body) Xt A s,Yf s⟩)=a7 ⟨openGood q ny,Ya w⟩)(Z:am.ble (x+(n+(o+(u+(v+n4))))) N=b4):LeftO p q ny Xt Yf Ya N A:=λw=>by
 obtain((h|T|d|k|a)|e|R):=Ľ.Z<|i w;obtain(rfl|rfl|rfl|rfl):h=ao w.xp ∧ T=Ď [] ∧ d=ō ∧ k=yx:=by apply R
 obtain(z1|z2|z3):_ ∧ _ ∧ _:=by simpa only[Ph]using size w
 let(s,X,Y):=Ľ.Z<|dr w a;let(c,h1,U):=ń.Z X;let O:=P7 (s3 w a) h1;rw[wk]at O;let M:=P7 (s2 w a) O;rw[wk]at M;let L:=P7 (s1 w a) M;rw[wk]at L;let r0:=go_top (np w a)<|piece_block (z w a) L;let r:=topRun_mono (N-(x+(n+(o+(u+(v+n4)))))) _ _ _ _ r0;rw[show x+(n+(o+(u+(v+n4))))+(N-(x+(n+(o+(u+(v+n4))))))=N by have:=am.le_of_ble_eq_true Z;lia]at r;let t:topFrom Δ p w N (ao w.xp,Ď [],ō,yx,a)=a7 s:=by ext topFrom;dsimp;rw[z1,z2,z3,r];show U
 ext openEnds;rw[e];change(topFrom Δ p w N _).o _=_;rw[t];show br a7 Y
end _3
namespace _w
open PySem _2
def aT!(i:am):ff:=NN.main.body.I i<|.Pass (0,0,0,0)
def jA!(i j:am):ff:=match aT i with|.ClassDef _ _ _ b _ _ _ _ _ _ _=>b.I j (.Pass (0,0,0,0))|_=>.Pass (0,0,0,0)
def Vw!:Ŧ:={NN with main:={NN.main with gi:=aT 0::aT 2::aT 3::aT 4::aT 5::aT 7::aT 8::aT 9::aT 10::aT 11::aT 12::aT 13::aT 14::aT 15::aT 16::aT 17::aT 18::aT 19::aT 20::aT 22::aT 23::aT 24::aT 25::aT 26::aT 27::aT 28::aT 30::aT 32::aT 33::aT 34::aT 35::aT 37::aT 38::aT 39::aT 40::aT 41::aT 43::aT 44::aT 45::aT 46::aT 47::aT 48::aT 49::aT 50::aT 51::aT 52::aT 53::aT 54::aT 55::aT 56::aT 58::aT 59::aT 60::aT 61::aT 62::aT 63::aT 65::aT 66::aT 67::aT 68::aT 69::aT 71::aT 72::aT 73::aT 74::aT 75::aT 76::aT 77::aT 79::aT 80::aT 81::aT 82::aT 83::aT 84::aT 85::aT 86::aT 87::aT 88::aT 89::[]}}
noncomputable abbrev vS(x:cq)(n:am):ax:=jc (ŝ x) n
noncomputable abbrev vI(i:ae):ax:=ĕ i 0
noncomputable abbrev vR(a:ar):ax:=Ñ a
noncomputable abbrev vN:ax:=ļ
noncomputable abbrev cO(fs:eh ax):hH:={cw:=é "code",bv:=ğ fs}
noncomputable abbrev kO(x y:cq)(a b c:am)(l n i j k:ae)(r:ar)(q:ae)(vs:eh ax)(t d:ae)(e:am):hH:={cw:=é "code",bv:=ğ<|#[vS x a,vS x b,vS y c,vI l,vI n,vI i,vI j,vI k,vR r,Ţ b4,vI q]++vs++#[vI t,vI d,vS y e]}
noncomputable abbrev tO(fs:eh ax):hH:={cw:=é "tuple",bv:=Nw fs}
noncomputable abbrev fO(x:cf)(n:am)(m:ax)(c:ar):hH:=(é "function",b0,.func<|ο x x (jR<|aT n) (hW<|aT n) (dO<|aT n) ļ ļ ļ m b0 (Ñ c) ļ,#[])
noncomputable abbrev eO(P:ϯ)(x:cq)(n:am)(v:ax):eg:={hash:=PyData.keyHash P<|ŝ x,io:=jc (ŝ x) n,val:=v}
noncomputable abbrev eR(P:ϯ)(x:cq)(n:am)(a:ar):eg:=eO P x n<|vR a
noncomputable abbrev kA(p:ar×hH)(R:Ï):Ï:=p::R
def FY!:ab cq → am → ab ax
 |[],_=>[]|x::xs,n=>vS x n::FY xs (n+1)
noncomputable abbrev tN(xs:ab cq)(n:am):hH:=tO<|Ď<|FY xs n
open PySem.W in
def lA!(P:ϯ):ab hH:=((boot_o_0 P)::(boot_o_1 P)::(boot_o_2 P)::(boot_o_3 P)::(boot_o_4 P)::(boot_o_5 P)::(boot_o_6 P)::(boot_o_7 P)::(boot_o_8 P)::(boot_o_9 P)::(boot_o_10 P)::(tO #[])::({cw:=vN,bv:=ğ #[]})::(cO #[vS "<module>" 182,vS "<module>" 183,vS "/claim/cut.py" 184,vI 1,vI 0,vI 0,vI 0,vI 0,vR 11,Ţ b3,vI 181,vR 12,vN,vN,vN,vN,vI 185,vI 1,vS "/claim/cut.py" 186])::({cw:=é "frame",ft:=#[a7 (vR 13),a7 (vR 3),a7 (vR 3),b0,a7 (vS "__main__" 164),b0,a7 (vR 0)]})::[])
open PySem.W in
def cF!(h:ab cq)(b:am)(c:cq)(d:am)(e:am)(i:am)(a:am)(g:am)(j:cq)(k:am)(R:ab hH):ab hH:=(tO #[])::({cw:=vN,bv:=ğ #[]})::(tN h b)::(tO #[])::((vN,b0,.func<|{ο c c (jR<|aT d) (hW<|aT d) (dO<|aT d) vN vN vN vN (b0) vN vN with ow:=0},#[]))::(kO c "/claim/cut.py" (b-3) (b-2) (b-1) e i 0 0 3 a 181 #[vR (a+1),vN,vR (a+2),vR (a+3),vR (a+4)] g e<|g+1)::(fO c d (vS j k)<|a+5)::R
open PySem.W in
def FZ!(P:ϯ)(a:am)(c:cq)(d:am)(b:am)(R:ab hH):ab hH:=(tO #[vR 31])::({cw:=é "builtin_function_or_method",bv:=ğ #[Ż "type.__prepare__",é "type"]})::({cw:=é "dict",bv:=ϙ #[eO P "__module__" a (vS "creasecourt.errors" 194),eO P "__qualname__" (a+2) (vS c<|a+1),eO P "__firstlineno__" (a+4) (ĕ d<|a+3),eR P "__static_attributes__" (a+5) b] 4})::(tO #[])::({cw:=vN,bv:=ğ #[]})::(cO #[vS c (a-5),vS c (a-4),vS "/claim/cut.py" (a-3),vI d,vI 0,vI 0,vI 0,vI 0,vR (b-4),Ţ b3,vI 181,vR (b-3),vN,vN,vN,vN,vI (a-2),vI d,vS "/claim/cut.py" (a-1)])::({cw:=é "frame",ft:=#[a7 (vR<|b-2),a7 (vR 3),a7 (vR<|b-5),b0,a7 (vS "creasecourt.errors" 194),b0,a7 (vR 0)]})::(tO #[])::({cw:=é "dict",bv:=ϙ #[eO P "__module__" a (vS "creasecourt.errors" 194),eO P "__firstlineno__" (a+4) (ĕ d<|a+3),eR P "__static_attributes__" (a+5) b,eO P "__doc__" (a+6) vN] 2})::({cw:=é "type",bv:=Nv {fg:=ŝ c,bases:=[vR 31],mro:=[vR<|b+2,vR 31,é "ValueError",é "Exception",é "BaseException",é "object"],ns:=(b+1),nv:=ŝ c},ft:=#[a7 (vR<|b-7),b0,a7 (vS c<|a-7),a7 (vS c<|a+1),a7 (Ż "ValueError.__new__"),a7 (Ţ b4)]})::({cw:=é "super",bv:=ğ #[vR (b+2),vR (b+2),vR (b+2)]})::({cw:=é "builtin_function_or_method",bv:=ğ #[Ż "object.__init_subclass__",vR (b+2)]})::R
open PySem.W in
def iS!(b:cq)(c:am)(a:am)(e:am)(g:am)(d:am)(h:cq)(i:am)(R:ab hH):ab hH:=(tO #[])::({cw:=vN,bv:=ğ #[]})::((vN,b0,.func<|{ο b b (jR<|aT c) (hW<|aT c) (dO<|aT c) vN vN vN vN (b0) vN vN with ow:=0},#[]))::(kO b "/claim/cut.py" a (a+1) (a+2) e g 0 0 3 d 181 #[vR (d+1),vN,vN,vN,vR (d+2)] (a+3) e<|a+4)::(fO b c (vS h i)<|d+3)::R
open PySem.W in
def pQ!(c:cq)(d:cq)(a:am)(b:am)(R:ab hH):ab hH:=((vN,b0,.func<|{ο c d (jR<|jA a b) (hW<|jA a b) (dO<|jA a b) vN vN vN vN (b0) vN vN with ow:=0},#[]))::R
open PySem.W in
def qW!(e:cq)(b:am)(g:cq)(c:am)(h:am)(a:am)(d:am)(R:ab hH):ab hH:=(cO #[vS e b,vS g (b+1),vS "/claim/cut.py" (b+2),vI c,vI h,vI 0,vI 0,vI 3,vR a,Ţ b4,vI 181,vR (a+1),vN,vR (a+2),vR (a+3),vR (a+4),vI d,vI c,vS "/claim/cut.py" (d+1)])::R
open PySem.W in
def qX!(c:cq)(d:cq)(a:am)(b:am)(e:cq)(g:am)(h:am)(R:ab hH):ab hH:=((é "function",b0,.func<|ο c d (jR<|jA a b) (hW<|jA a b) (dO<|jA a b) vN vN vN (vS e g) (b0) (vR h) vN,#[]))::R
open PySem.W in
def yA!(b:am)(a:am)(c:am)(R:ab hH):ab hH:=(tO #[ĕ b a,ĕ c (a+1)])::R
open PySem.W in
def lN!(P:ϯ):ab eg:=[eO P "__doc__" 166 vN,eO P "__package__" 167 vN,eO P "__loader__" 168<|Ż "__main__.__loader__#opaque",eO P "__spec__" 169 vN,eR P "__annotations__" 170 6,eR P "__builtins__" 171 4,eO P "__file__" 173<|vS "/claim/cut.py" 172,eO P "__cached__" 174 vN,eR P "_wall" 193 21,eR P "CreaseError" 213 31,eR P "NoSize" 229 44,eR P "NoFold" 245 56,eR P "Barred" 270 75,eR P "EIGHT_EDGES" 295 86,eR P "FOUR_EDGES" 308 91,eR P "is_whole" 315 98,eR P "is_corner" 322 105,eR P "is_edge" 329 112,eR P "is_quarter" 336 119,eR P "line_of" 343 126,eR P "beside" 352 133,eR P "sides_of" 358 138,eR P "moved_by" 364 143,eR P "edges_round" 371 150,eR P "number_by" 379 157,eR P "hand_of" 389 164,eR P "mirrored" 401 171,eR P "is_size" 410 178,eR P "check_size" 418 185,eR P "places_within" 424 190,eR P "quarters_in" 430 195,eR P "edges_in" 436 200,eR P "corners_in" 442 205,eR P "marks_in" 449 212,eR P "is_good" 457 217,eR P "creases_at" 465 222,eR P "gaps_at" 471 227,eR P "barred" 479 234,eR P "check_corners" 487 241,eR P "tie_of" 499 248,eR P "is_least" 507 255,eR P "ties_of_gap" 518 262,eR P "ties_at" 530 269,eR P "ties" 539 276,eR P "TURNED" 548 277,eR P "walked_back" 555 284,eR P "steps_from" 564 291,eR P "is_marked" 571 298,eR P "marked_creases" 577 303,eR P "last_steps" 590 310,eR P "way_by" 600 317,eR P "is_alike" 606 322,eR P "back_by" 612 327,eR P "round_by_step" 620 334,eR P "round_within" 634 341,eR P "round_of" 646 348,eR P "carried_mark" 657 355,eR P "carried" 663 360,eR P "STILL" 672 361,eR P "laying_by" 681 368,eR P "mirror_in" 688 375,eR P "led" 698 382,eR P "then" 706 389,eR P "is_turned" 713 396,eR P "heights_in" 726 403,eR P "is_above" 735 410,eR P "turned_first" 744 417,eR P "mark_by_heights" 754 424,eR P "marks_by" 760 429,eR P "copied_piles" 772 436,eR P "folded_layings" 786 443,eR P "folded_piles" 802 450,eR P "check_fold" 808 455,eR P "creased_edges" 820 462,eR P "unfolded" 831 469,eR P "Folding" 909 527,eR P "_law_cell" 920 538,eR P "_law_quarters" 931 545,eR P "_law_led" 945 552,eR P "_law_over" 961 559,eR P "_law_value" 969 566,eR P "_law_begun" 980 573,eR P "_law_folded" 986 578,eR P "_law_plan" 1001 585,eR P "_law_go" 1020 592,eR P "_law_opened" 1034 599,eR P "law" 1050 606]
def lM!:gw:=ab.flatMap (λp:am×am=>[vI p.1,vI 0,vR p.2]) [⟨1,20⟩,⟨5,27⟩,⟨7,40⟩,⟨9,52⟩,⟨11,64⟩,⟨19,97⟩,⟨21,104⟩,⟨23,111⟩,⟨27,118⟩,⟨31,125⟩,⟨35,132⟩,⟨39,137⟩,⟨41,142⟩,⟨43,149⟩,⟨45,156⟩,⟨53,163⟩,⟨59,170⟩,⟨72,177⟩,⟨74,184⟩,⟨77,189⟩,⟨82,194⟩,⟨84,199⟩,⟨86,204⟩,⟨88,211⟩,⟨91,216⟩,⟨98,221⟩,⟨101,226⟩,⟨108,233⟩,⟨113,240⟩,⟨118,247⟩,⟨120,254⟩,⟨122,261⟩,⟨128,268⟩,⟨138,275⟩,⟨146,283⟩,⟨148,290⟩,⟨154,297⟩,⟨156,302⟩,⟨158,309⟩,⟨170,316⟩,⟨177,321⟩,⟨179,326⟩,⟨181,333⟩,⟨183,340⟩,⟨194,347⟩,⟨205,354⟩,⟨211,359⟩,⟨217,367⟩,⟨219,374⟩,⟨221,381⟩,⟨225,388⟩,⟨227,395⟩,⟨230,402⟩,⟨236,409⟩,⟨238,416⟩,⟨243,423⟩,⟨246,428⟩,⟨250,435⟩,⟨255,442⟩,⟨262,449⟩,⟨274,454⟩,⟨278,461⟩,⟨285,468⟩,⟨292,475⟩,⟨324,537⟩,⟨331,544⟩,⟨338,551⟩,⟨341,558⟩,⟨351,565⟩,⟨353,572⟩,⟨360,577⟩,⟨380,584⟩,⟨392,591⟩,⟨404,598⟩,⟨418,605⟩]
open PySem.W in
def lB!(P:ϯ):ab hH:=(((lA P).xl 3<|{cw:=é "dict",bv:=ϙ (Ď<|eO P "__name__" 165 (vS "creasecourt.places" 271)::(lN P).ze 14) 15}).xl 12<|{cw:=vN,bv:=ğ<|Ď<|lM.ze 15})++(cF ["k"] 190 "_wall" 0 1 1 15 191 "__main__" 164<|(tO #[é "ValueError"])::(({cw:=é "builtin_function_or_method",bv:=ğ #[Ż "type.__prepare__",é "type"]})::(({cw:=é "dict",bv:=ϙ #[eO P "__module__" 203 (vS "creasecourt.errors" 194),eO P "__qualname__" 205 (vS "CreaseError" 204),eO P "__firstlineno__" 207 (ĕ 5 206),eR P "__static_attributes__" 208 29] 4})::((tO #[])::(({cw:=vN,bv:=ğ #[]})::((cO #[vS "CreaseError" 198,vS "CreaseError" 199,vS "/claim/cut.py" 200,vI 5,vI 0,vI 0,vI 0,vI 0,vR 25,Ţ b3,vI 181,vR 26,vN,vN,vN,vN,vI 201,vI 5,vS "/claim/cut.py" 202])::(({cw:=é "frame",ft:=#[a7 (vR 27),a7 (vR 3),a7 (vR 24),b0,a7 (vS "creasecourt.errors" 194),b0,a7 (vR 0)]})::((tO #[])::(({cw:=é "dict",bv:=ϙ #[eO P "__module__" 203 (vS "creasecourt.errors" 194),eO P "__firstlineno__" 207 (ĕ 5 206),eR P "__static_attributes__" 208 29,eR P "__weakref__" 210 32,eO P "__doc__" 211 vN] 3})::(({cw:=é "type",bv:=Nv {fg:=ŝ "CreaseError",bases:=[é "ValueError"],mro:=[vR 31,é "ValueError",é "Exception",é "BaseException",é "object"],ns:=30,nv:=ŝ "CreaseError",subclasses:=[vR 44,vR 56,vR 75]},ft:=#[a7 (vR 22),b0,a7 (vS "CreaseError" 196),a7 (vS "CreaseError" 204),a7 (Ż "ValueError.__new__"),a7 (Ţ b4)]})::(({cw:=é "getset_descriptor",bv:=ğ #[vS "__weakref__" 209,vR 31,Ż "ExceptionGroup.__weakref__",vN]})::(({cw:=é "super",bv:=ğ #[vR 31,vR 31,vR 31]})::(({cw:=é "builtin_function_or_method",bv:=ğ #[Ż "object.__init_subclass__",vR 31]})::(FZ P 221 "NoSize" 7 42<|FZ P 237 "NoFold" 9 54<|(tO #[vR 31])::(({cw:=é "builtin_function_or_method",bv:=ğ #[Ż "type.__prepare__",é "type"]})::(({cw:=é "dict",bv:=ϙ #[eO P "__module__" 253 (vS "creasecourt.errors" 194),eO P "__qualname__" 255 (vS "Barred" 254),eO P "__firstlineno__" 257 (ĕ 11 256),eR P "__init__" 265 72,eR P "__static_attributes__" 267 73] 5})::((tO #[])::(({cw:=vN,bv:=ğ #[vI 13,vI 4,vR 71]})::((cO #[vS "Barred" 248,vS "Barred" 249,vS "/claim/cut.py" 250,vI 11,vI 0,vI 0,vI 0,vI 0,vR 62,Ţ b3,vI 181,vR 63,vN,vN,vN,vN,vI 251,vI 11,vS "/claim/cut.py" 252])::(({cw:=é "frame",ft:=#[a7 (vR 64),a7 (vR 3),a7 (vR 61),b0,a7 (vS "creasecourt.errors" 194),b0,a7 (vR 0)]})::((tO #[])::(({cw:=vN,bv:=ğ #[]})::((tN ["self","corner"] 261)::((tO #[])::(pQ "__init__" "Barred.__init__" 5 0<|qW "__init__" 258 "Barred.__init__" 13 2 66 263<|qX "__init__" "Barred.__init__" 5 0 "creasecourt.errors" 194 71<|(tN ["corner"] 266)::(({cw:=é "dict",bv:=ϙ #[eO P "__module__" 253 (vS "creasecourt.errors" 194),eO P "__firstlineno__" 257 (ĕ 11 256),eR P "__init__" 265 72,eR P "__static_attributes__" 267 73,eO P "__doc__" 268 vN] 2})::(({cw:=é "type",bv:=Nv {fg:=ŝ "Barred",bases:=[vR 31],mro:=[vR 75,vR 31,é "ValueError",é "Exception",é "BaseException",é "object"],ns:=74,nv:=ŝ "Barred" },ft:=#[a7 (vR 59),b0,a7 (vS "Barred" 246),a7 (vS "Barred" 254),a7 (Ż "ValueError.__new__"),a7 (Ţ b4)]})::(({cw:=é "super",bv:=ğ #[vR 75,vR 75,vR 75]})::(({cw:=é "builtin_function_or_method",bv:=ğ #[Ż "object.__init_subclass__",vR 75]})::(yA 2 273 0<|yA 1 275 1<|yA 0 277 2<|(tO #[ĕ (-1) 280,ĕ 1 281])::((tO #[ĕ (-2) 283,ĕ 0 284])::((tO #[ĕ (-1) 286,ĕ (-1) 288])::((tO #[ĕ 0 289,ĕ (-2) 291])::((tO #[ĕ 1 292,ĕ (-1) 294])::((tO #[vR 78,vR 79,vR 80,vR 81,vR 82,vR 83,vR 84,vR 85])::[])))))))))))))))))))))))))))))))))))
open PySem.W in
def lC!(P:ϯ):ab hH:=(((lB P).xl 3<|{cw:=é "dict",bv:=ϙ (Ď<|eO P "__name__" 165 (vS "creasecourt.layings" 664)::(lN P).ze 62) 63}).xl 12<|{cw:=vN,bv:=ğ<|Ď<|lM.ze 150})++(yA 1 296 1<|(tO #[ĕ (-1) 299,ĕ 1 300])::((tO #[ĕ (-1) 302,ĕ (-1) 304])::((tO #[ĕ 1 305,ĕ (-1) 307])::((tO #[vR 87,vR 88,vR 89,vR 90])::(cF ["value"] 312 "is_whole" 9 19 1 92 313 "creasecourt.places" 271<|cF ["place"] 319 "is_corner" 10 21 1 99 320 "creasecourt.places" 271<|cF ["place"] 326 "is_edge" 11 23 1 106 327 "creasecourt.places" 271<|cF ["place"] 333 "is_quarter" 12 27 1 113 334 "creasecourt.places" 271<|cF ["edge"] 340 "line_of" 13 31 1 120 341 "creasecourt.places" 271<|cF ["place","x","y"] 347 "beside" 14 35 1 127 350 "creasecourt.places" 271<|iS "sides_of" 15 353 39 1 134 "creasecourt.places" 271<|iS "moved_by" 16 359 41 2 139 "creasecourt.places" 271<|cF ["corner"] 368 "edges_round" 17 43 1 144 369 "creasecourt.places" 271<|cF ["line","place"] 375 "number_by" 18 45 2 151 377 "creasecourt.places" 271<|cF ["place","edge","line","ahead"] 383 "hand_of" 19 53 2 158 387 "creasecourt.places" 271<|cF ["place","edge","x","y","line","number"] 393 "mirrored" 20 59 2 165 399 "creasecourt.places" 271<|cF ["value"] 407 "is_size" 22 72 1 172 408 "creasecourt.sheets" 402<|cF ["wide","high"] 414 "check_size" 23 74 2 179 416 "creasecourt.sheets" 402<|iS "places_within" 24 419 77 2 186 "creasecourt.sheets" 402<|iS "quarters_in" 25 425 82 2 191 "creasecourt.sheets" 402<|iS "edges_in" 26 431 84 2 196 "creasecourt.sheets" 402<|iS "corners_in" 27 437 86 2 201 "creasecourt.sheets" 402<|cF ["sheet"] 446 "marks_in" 28 88 1 206 447 "creasecourt.sheets" 402<|iS "is_good" 30 452 91 1 213 "creasecourt.wedges" 450<|iS "creases_at" 32 460 98 2 218 "creasecourt.corners" 458<|iS "gaps_at" 33 466 101 2 223 "creasecourt.corners" 458<|cF ["sheet","corner"] 475 "barred" 34 108 1 228 477 "creasecourt.corners" 458<|cF ["sheet","corner"] 483 "check_corners" 35 113 1 235 485 "creasecourt.corners" 458<|cF ["one","other","alike","corner"] 493 "tie_of" 37 118 4 242 497 "creasecourt.ties" 488<|cF ["gaps","k"] 503 "is_least" 38 120 2 249 505 "creasecourt.ties" 488<|cF ["creases","k","corner","count","told"] 511 "ties_of_gap" 39 122 3 256 516 "creasecourt.ties" 488<|cF ["sheet","corner","creases","gaps","told","k"] 522 "ties_at" 40 128 2 263 528 "creasecourt.ties" 488<|cF ["sheet","told","corner"] 534 "ties" 41 138 1 270 537 "creasecourt.ties" 488<|({cw:=é "dict",bv:=ϙ #[eO P "h" 542 (vS "v" 543),eO P "v" 544 (vS "h" 545)] 2})::(cF ["step"] 552 "walked_back" 44 146 1 278 553 "creasecourt.carried" 540<|cF ["sheet","steps","tie"] 559 "steps_from" 45 148 1 285 562 "creasecourt.carried" 540<|cF ["mark"] 568 "is_marked" 46 154 1 292 569 "creasecourt.carried" 540<|iS "marked_creases" 47 572 156 1 299 "creasecourt.carried" 540<|cF ["steps","starts","reached","start","due","here","step"] 581 "last_steps" 48 158 2 304 588 "creasecourt.carried" 540<|cF ["reached","edge","way","step"] 594 "way_by" 49 170 2 311 598 "creasecourt.carried" 540<|iS "is_alike" 50 601 177 1 318 "creasecourt.carried" 540<|iS "back_by" 51 607 179 1 323 "creasecourt.carried" 540<|cF ["reached","step"] 616 "round_by_step" 52 181 2 328 618 "creasecourt.carried" 540<|cF ["steps","marks","start","reached","edge","way","step","found"] 624 "round_within" 53 183 3 335 632 "creasecourt.carried" 540<|cF ["sheet","steps","marks","seen","start","found"] 638 "round_of" 54 194 1 342 644 "creasecourt.carried" 540<|cF ["marks","reached","edge","way","first"] 650 "carried_mark" 55 205 3 349 655 "creasecourt.carried" 540<|iS "carried" 56 658 211 1 356 "creasecourt.carried" 540<|(tO #[ĕ 1 666,ĕ 0 667,ĕ 0 668,ĕ 1 669,ĕ 0 670,ĕ 0 671])::(cF ["start","right","down"] 676 "laying_by" 59 217 3 362 679 "creasecourt.layings" 664<|cF ["edge"] 685 "mirror_in" 60 219 1 369 686 "creasecourt.layings" 664<|cF ["laying","place","x","y"] 692 "led" 61 221 2 376 696 "creasecourt.layings" 664 [])))))))
open PySem.W in
def lD!(P:ϯ):ab hH:=(((lC P).xl 3<|{cw:=é "dict",bv:=ϙ (Ď<|eO P "__name__" 165 (vS "law_creasecourt_k87_whole_carried_marks_are" 910)::(lN P).ze 87) 88}).xl 12<|{cw:=vN,bv:=ğ<|Ď<|lM.ze 225})++(cF ["one","other"] 702 "then" 62 225 2 383 704 "creasecourt.layings" 664<|cF ["laying"] 710 "is_turned" 63 227 1 390 711 "creasecourt.layings" 664<|cF ["piles","heights","pile","height","quarter"] 719 "heights_in" 65 230 1 397 724 "creasecourt.piles" 714<|cF ["heights","one","other"] 730 "is_above" 66 236 3 404 733 "creasecourt.piles" 714<|cF ["layings","edge","sides"] 739 "turned_first" 67 238 2 411 742 "creasecourt.piles" 714<|cF ["heights","layings","edge","sides"] 748 "mark_by_heights" 68 243 3 418 752 "creasecourt.piles" 714<|iS "marks_by" 69 755 246 3 425 "creasecourt.piles" 714<|cF ["piles","told","place","pile"] 766 "copied_piles" 71 250 1 430 770 "creasecourt.folding" 761<|cF ["layings","edge","side","mirror","told","quarter","laying","goes"] 776 "folded_layings" 72 255 3 437 784 "creasecourt.folding" 761<|cF ["piles","edge","side","over","told","place","pile","goal","coming","there"] 790 "folded_piles" 73 262 4 444 800 "creasecourt.folding" 761<|iS "check_fold" 74 803 274 2 451 "creasecourt.folding" 761<|cF ["wide","high","layings","told","edge","sides"] 812 "creased_edges" 75 278 3 456 818 "creasecourt.folding" 761<|cF ["wide","high","layings","piles","quarter"] 824 "unfolded" 76 285 2 463 829 "creasecourt.folding" 761<|(tO #[])::(({cw:=é "builtin_function_or_method",bv:=ğ #[Ż "type.__prepare__",é "type"]})::(({cw:=é "dict",bv:=ϙ #[eO P "__module__" 839 (vS "creasecourt.folding" 761),eO P "__qualname__" 841 (vS "Folding" 840),eO P "__firstlineno__" 843 (ĕ 292 842),eR P "__init__" 852 483,eR P "fold" 864 491,eR P "back" 871 498,eR P "many" 878 505,eR P "layings" 885 512,eR P "piles" 892 519,eR P "sheet" 898 524,eR P "__static_attributes__" 902 525] 11})::((tO #[])::(({cw:=vN,bv:=ğ #[vI 294,vI 4,vR 482,vI 300,vI 4,vR 490,vI 306,vI 4,vR 497,vI 309,vI 4,vR 504,vI 312,vI 4,vR 511,vI 315,vI 4,vR 518,vI 318,vI 4,vR 523]})::((cO #[vS "Folding" 834,vS "Folding" 835,vS "/claim/cut.py" 836,vI 292,vI 0,vI 0,vI 0,vI 0,vR 473,Ţ b3,vI 181,vR 474,vN,vN,vN,vN,vI 837,vI 292,vS "/claim/cut.py" 838])::(({cw:=é "frame",ft:=#[a7 (vR 475),a7 (vR 3),a7 (vR 472),b0,a7 (vS "creasecourt.folding" 761),b0,a7 (vR 0)]})::((tO #[])::(({cw:=vN,bv:=ğ #[]})::((tN ["self","wide","high"] 847)::((tO #[])::(pQ "__init__" "Folding.__init__" 77 0<|qW "__init__" 844 "Folding.__init__" 294 3 477 850<|qX "__init__" "Folding.__init__" 77 0 "creasecourt.folding" 761 482<|(tO #[Ţ b4,Ţ b4])::((tO #[])::(({cw:=vN,bv:=ğ #[]})::((tN ["self","edge","ahead","over","now","side"] 856)::((tO #[])::(pQ "fold" "Folding.fold" 77 1<|qW "fold" 853 "Folding.fold" 300 4 485 862<|((é "function",b0,.func<|ο "fold" "Folding.fold" (jR<|jA 77 1) (hW<|jA 77 1) (dO<|jA 77 1) (vR 484) vN vN (vS "creasecourt.folding" 761) (b0) (vR 490) vN,#[]))::((tO #[])::(({cw:=vN,bv:=ğ #[]})::((tN ["self"] 868)::((tO #[])::(pQ "back" "Folding.back" 77 2<|qW "back" 865 "Folding.back" 306 1 492 869<|qX "back" "Folding.back" 77 2 "creasecourt.folding" 761 497<|(tO #[])::(({cw:=vN,bv:=ğ #[]})::((tN ["self"] 875)::((tO #[])::(pQ "many" "Folding.many" 77 3<|qW "many" 872 "Folding.many" 309 1 499 876<|qX "many" "Folding.many" 77 3 "creasecourt.folding" 761 504<|(tO #[])::(({cw:=vN,bv:=ğ #[]})::((tN ["self"] 882)::((tO #[])::(pQ "layings" "Folding.layings" 77 4<|qW "layings" 879 "Folding.layings" 312 1 506 883<|qX "layings" "Folding.layings" 77 4 "creasecourt.folding" 761 511<|(tO #[])::(({cw:=vN,bv:=ğ #[]})::((tN ["self"] 889)::((tO #[])::(pQ "piles" "Folding.piles" 77 5<|qW "piles" 886 "Folding.piles" 315 1 513 890<|qX "piles" "Folding.piles" 77 5 "creasecourt.folding" 761 518<|(tO #[])::(({cw:=vN,bv:=ğ #[]})::(pQ "sheet" "Folding.sheet" 77 6<|(cO #[vS "sheet" 893,vS "Folding.sheet" 894,vS "/claim/cut.py" 895,vI 318,vI 1,vI 0,vI 0,vI 3,vR 520,Ţ b4,vI 181,vR 521,vN,vN,vN,vR 522,vI 896,vI 318,vS "/claim/cut.py" 897])::(qX "sheet" "Folding.sheet" 77 6 "creasecourt.folding" 761 523<|(tN ["high","states","wide"] 899)::(({cw:=é "dict",bv:=ϙ #[eO P "__module__" 839 (vS "creasecourt.folding" 761),eO P "__firstlineno__" 843 (ĕ 292 842),eR P "__init__" 852 483,eR P "fold" 864 491,eR P "back" 871 498,eR P "many" 878 505,eR P "layings" 885 512,eR P "piles" 892 519,eR P "sheet" 898 524,eR P "__static_attributes__" 902 525,eR P "__dict__" 904 528,eR P "__weakref__" 906 529,eO P "__doc__" 907 vN] 4})::(({cw:=é "type",bv:=Nv {fg:=ŝ "Folding",bases:=[é "object"],mro:=[vR 527,é "object"],ns:=526,nv:=ŝ "Folding" },ft:=#[b0,b0,a7 (vS "Folding" 832),a7 (vS "Folding" 840),a7 (Ż "object.__new__"),a7 (Ţ b4)]})::(({cw:=é "getset_descriptor",bv:=ğ #[vS "__dict__" 903,vR 527,Ż "function.__dict__",Ż "function.__dict__#set"]})::(({cw:=é "getset_descriptor",bv:=ğ #[vS "__weakref__" 905,vR 527,Ż "ExceptionGroup.__weakref__",vN]})::(({cw:=é "super",bv:=ğ #[vR 527,vR 527,vR 527]})::(({cw:=é "builtin_function_or_method",bv:=ğ #[Ż "object.__init_subclass__",vR 527]})::(cF ["_law_script","_law_k","_law_number"] 915 "_law_cell" 79 324 2 532 918 "law_creasecourt_k87_whole_carried_marks_are" 910<|cF ["_law_wide","_law_high","_law_found","_law_x","_law_y"] 924 "_law_quarters" 80 331 2 539 929 "law_creasecourt_k87_whole_carried_marks_are" 910<|cF ["_law_laying","_law_place","_law_a","_law_b","_law_c","_law_d","_law_e","_law_f"] 935 "_law_led" 81 338 2 546 943 "law_creasecourt_k87_whole_carried_marks_are" 910<|cF ["_law_laying","_law_line","_law_a","_law_b","_law_c","_law_d","_law_e","_law_f","_law_kind","_law_n"] 949 "_law_over" 82 341 2 553 959 "law_creasecourt_k87_whole_carried_marks_are" 910<|cF ["_law_place","_law_kind"] 965 "_law_value" 83 351 2 560 967 "law_creasecourt_k87_whole_carried_marks_are" 910<|cF ["_law_wide","_law_high","_law_layings","_law_piles","_law_quarter"] 973 "_law_begun" 84 353 2 567 978 "law_creasecourt_k87_whole_carried_marks_are" 910<|iS "_law_folded" 85 981 360 4 574 "law_creasecourt_k87_whole_carried_marks_are" 910<|cF ["_law_state","_law_number","_law_far","_law_kind","_law_places","_law_near","_law_n","_law_j","_law_edge"] 990 "_law_plan" 86 380 3 579 999 "law_creasecourt_k87_whole_carried_marks_are" 910<|cF ["_law_script","_law_most","_law_steps","_law_wide","_law_high","_law_one","_law_state","_law_k","_law_edge","_law_line","_law_ahead","_law_over_here","_law_after"] 1005 "_law_go" 87 392 3 586 1018 "law_creasecourt_k87_whole_carried_marks_are" 910<|cF ["_law_sheet","_law_script","_law_some","_law_keep","_law_number","_law_k","_law_pair","_law_kept"] 1024 "_law_opened" 88 404 2 593 1032 "law_creasecourt_k87_whole_carried_marks_are" 910<|cF ["_law_script","_law_wide","_law_high","_law_one","_law_sheet","_law_opened_here","_law_found","_law_pair","_law_own","_law_left"] 1038 "law" 89 418 1 600 1048 "law_creasecourt_k87_whole_carried_marks_are" 910 []))))))))))))))))))))))))))))))))))))))))))))
def As!:ab ar:=[3,2,29,30,31,32,42,43,44,54,55,56,71,72,73,74,75,78,79,80,81,82,83,84,85,86,87,88,89,90,91,97,98,104,105,111,112,118,119,125,126,132,133,137,138,142,143,149,150,156,157,163,164,170,171,177,178,184,185,189,190,194,195,199,200,204,205,211,212,216,217,221,222,226,227,233,234,240,241,247,248,254,255,261,262,268,269,275,276,277,283,284,290,291,297,298,302,303,309,310,316,317,321,322,326,327,333,334,340,341,347,348,354,355,359,360,361,367,368,374,375,381,382,388,389,395,396,402,403,409,410,416,417,423,424,428,429,442,443,449,450,454,455,461,462,468,469,482,483,484,490,491,497,498,504,505,511,512,518,519,523,524,525,526,527,528,529,537,538,544,545,551,552,558,559,565,566,572,573,577,578,584,585,591,592,598,599,605,606]
def Kx!:ϯ → Ï:=λP=>As.o λa=>⟨a,((lD P)[a]?).I<|tO #[]⟩
def uZ:∀P,As=(Kx P).o (·.1):=λ_=>""
def vE!:ό:={ap:=NN.main.xv,locals:=mainNs,ow:=mainNs,i5:=[],code:=Ñ 13,frame:=a7 14}
open PySem.W PyProof.Rows in
set_option maxHeartbeats 0 in
def b1T(w:ņ)(a:UR):topGo Δ (ł ĺ).Y w 11 (a7<|Ñ 6) 12 (ao w.xp,Ď [],ō,yx,a) (topStub (ł ĺ).Y)=a7 ⟨((Ď<|lA w.xp,{}),Ď [],ō,187,a),(denote Δ<|.body (ĭ (ł ĺ).Y) vE,(.body (ĭ (ł ĺ).Y) vE),(0,0,0,0),[ϫ (0,0,0,0)])⟩:=""
open PySem.W PyProof.Rows in
set_option maxHeartbeats 0 in
def b1R(w:ņ)(a:UR):cu Δ (ł ĺ).Y w 11 (a7<|Ñ 6) 1 1 ((Ď<|lA w.xp,{}),Ď [],ō,187,a) (blockOf (ĭ (ł ĺ).Y) vE (.body (ĭ (ł ĺ).Y) vE) (0,0,0,0) [ϫ (0,0,0,0)])=a7 ⟨.next,((Ď<|lA w.xp,{}),Ď [],ō,187,a),(.body (ĭ (ł ĺ).Y) vE),(0,0,0,0)⟩:=""
open PySem.W PyProof.Rows in
set_option maxHeartbeats 0 in
def b1O w a:cu Δ (ł ĺ).Y w 11 (a7<|Ñ 6) 1 977 ((Ď<|lA w.xp,{}),Ď [],ō,187,a) (nu ((ĭ (ł ĺ).Y).ze 8) vE (.body (ĭ (ł ĺ).Y) vE) (0,0,0,0) [ϫ (0,0,0,0)])=a7 ⟨.next,((Ď<|lB w.xp,{}),Ď [],ō,296,a),(.body (ĭ (ł ĺ).Y) vE),(17,0,17,11)⟩:=""
open PySem.W PyProof.Rows in
set_option maxHeartbeats 0 in
def b1I b(w:ņ)a:cu Δ (ł ĺ).Y (w.withFollow "special-get-raises" b) 11 (a7<|Ñ 6) 1 1485 ((Ď<|lB (w.withFollow "special-get-raises" b).xp,{}),Ď [],ō,296,a) (nu (((ĭ (ł ĺ).Y).kw 8).ze 54) vE (.body (ĭ (ł ĺ).Y) vE) (17,0,17,11) [ϫ (0,0,0,0)])=a7 ⟨.next,((Ď<|lC (w.withFollow "special-get-raises" b).xp,{}),Ď [],ō,699,a),(.body (ĭ (ł ĺ).Y) vE),(221,0,224,97)⟩:=by ext b<;>kernel_rfl
open PySem.W PyProof.Rows in
set_option maxHeartbeats 0 in
def b1H w a:cu Δ (ł ĺ).Y w 11 (a7<|Ñ 6) 1 1485 ((Ď<|lB w.xp,{}),Ď [],ō,296,a) (nu (((ĭ (ł ĺ).Y).kw 8).ze 54) vE (.body (ĭ (ł ĺ).Y) vE) (17,0,17,11) [ϫ (0,0,0,0)])=a7 ⟨.next,((Ď<|lC w.xp,{}),Ď [],ō,699,a),(.body (ĭ (ł ĺ).Y) vE),(221,0,224,97)⟩:=by let h:=b1I (w.xp.followText "special-get-raises") w a;rw[World.withFollow_self]at h;show h
open PySem.W PyProof.Rows in
set_option maxHeartbeats 0 in
def b1G w a:cu Δ (ł ĺ).Y w 11 (a7<|Ñ 6) 1 1232 ((Ď<|lC w.xp,{}),Ď [],ō,699,a) (nu ((((ĭ (ł ĺ).Y).kw 8).kw 54).ze 28) vE (.body (ĭ (ł ĺ).Y) vE) (221,0,224,97) [ϫ (0,0,0,0)])=a7 ⟨.next,((Ď<|lD w.xp,{}),Ď [],ō,1051,a),(.body (ĭ (ł ĺ).Y) vE),(418,0,432,15)⟩:=""
open PySem.W PyProof.Rows in
set_option maxHeartbeats 0 in
def run:LeftO (ł ĺ).Y Vw ["TURNED"] (λs=>xlAt Vw [] s&&recOk (S3<|SO<|ł ĺ) s) (Hook.obs<|yp Kx As uZ) (Hook.val<|yp Kx As uZ) 7508:=
 _3.left_cut (hA:=λP=>(Ď<|lA P,{})) (hB:=λP=>(Ď<|lB P,{})) (hC:=λP=>(Ď<|lC P,{})) (hD:=λP=>(Ď<|lD P,{})) (n4:=201) (i1:=8) (i2:=54) (i3:=28) (eA:=vE) (boot_open "" "" λ_=>"") (λw=>"") b1T b1R b1O b1H b1G (λw a=>"") ""
open PySem.W PyProof.Rows in
set_option maxHeartbeats 0 in
def Qi:ĺ.wellSaid=bt:=by decide +de
end _w
set_option maxHeartbeats 4000000
namespace _3
open PySem
open PySem.SetTable (Probe Met Slot bits runEnd leap turns insertAt sizeAbove)
namespace Tb
def b1F!(m:am)(p:Probe):Probe:=
 if p.more>0 then{p with j:=p.j+1,ge:=p.more-1}else
 {p with j:=(leap m p.i p.perturb).1,ge:=runEnd m (leap m p.i p.perturb).1-(leap m p.i p.perturb).1,i:=(leap m p.i p.perturb).1,perturb:=(leap m p.i p.perturb).2}
def b1B!(m:am)(b:am):Probe:={j:=b%(m+1),ge:=runEnd m (b%(m+1))-b%(m+1),i:=b%(m+1),perturb:=b,dummy:=b0}
def Bv!(m b:am):am->Probe
 |0=>b1B m b|k+1=>b1F m<|Bv m b k
def nx!(m i:am):am:=(i*5+1)%(m+1)
def F0!(m:am):am->am->am
 |0,i=>i|n+1,i=>F0 m n<|nx m i
def qY!(m:am):am->am->am->am
 |0,_,fz=>fz|f+1,i,fz=>qY m f (nx m i)<|fz ||| (1 <<< i)
def b0x!(m:am):av:=qY m (m+1) 0 0==2^(m+1)-1&&F0 m (m+1) 0==0
def b0u!(m:am)(S:ab am)(b j:am):Prop:=∃k,(Bv m b k).j=j/\∀k',k'<k->(Bv m b k').j∈S
noncomputable abbrev b0V:=am×ae×ax
structure Ok(t:b8c)(R:ab b0V):Prop where
 place:t.place.zh=R.o (·.1)
 dum:t.dummies=#[]
 rise:(R.o (·.1)).Pairwise (·<·)
 le:∀r∈R,r.1<=t.mask
 cov:b0x t.mask=b4
 odd:t.mask%2=1
 room:R.f<=t.mask
 road:∀r∈R,b0u t.mask (R.o (·.1)) (bits r.2.1) r.1
def Ok.size(o:Ok t R):t.place.q=R.f:=by have:=br ģ o.place;apply ah
end Tb
end _3
namespace _3
open PySem
open PySem.SetTable (Probe Met Slot bits runEnd leap turns insertAt sizeAbove)
namespace Tb
section
variable{prog:Ŧ}{w:ņ}{K:Type} [DecidableEq K] {knd:KeyKind prog w K}{A:ų}{E:Value->Ø->Prop}{s:Ø}
def fits_of{es:eh (ae×ax)}(o:Ok t R)(b:es.zh=R.o (·.2)):t.fits es.q=bt:=by
 let h1:es.q=R.f:=by apply br ģ b
 let a:=o.room;ext SetTable.fits SetTable.fill;rw[o.q,h1,o.dum];simp;show a
end
noncomputable abbrev El:=ab ae×ar
def hashT!(k:ab ae):ae:=reduceHash<|b7k<|k.o hashInt
def b0o!(p:El):ae×ax:=⟨hashT p.1,Ñ p.2⟩
def b0k!(m:am):Prop:=m=7\/m=31\/m=127\/m=511
def b0Z!(a:av)(L:ab El)(o:hH):Prop:=∃es ep t R,o.ExactSet/\o.data=.xl es ep t/\es.zh=R.o (·.2)/\Ok t R/\es.zh.Perm (L.o b0o)/\(L.o (·.1)).J/\b0k t.mask/\L.f*5<t.mask*3/\t.plain=b4/\t.led=a
def SObj!(L:ab El)(o:hH):Prop:=∃a,b0Z a L o
end Tb
end _3
namespace _3
open PySem
namespace Tb
end Tb
end _3
namespace _3
open PySem _2
def cC{c d:Type}{o:af c}{f:c->af d}{b:d}{G:Prop}(h:o.U f=a7 b)(k:∀a,o=a7 a->f a=a7 b->G):G:=let(a,x,y):=ń.Z h;k a x y
def bJ{d g e:Type}{o:af (d×g)}{f:d×g->af e}{b:e}{G:Prop}(h:o.U f=a7 b)(k:∀a c,o=a7 ⟨a,c⟩->f ⟨a,c⟩=a7 b->G):G:=let(⟨a,c⟩,x,y):=ń.Z h;k a c x y
def cI{c d:Type}{o:af c}{f:c->d}{b:d}{G:Prop}(h:o.o f=a7 b)(k:∀a,o=a7 a->f a=b->G):G:=let(a,x,y):=Ľ.Z h;k a x y
def u5{d g e:Type}{o:af (d×g)}{f:d×g->e}{b:e}{G:Prop}(h:o.o f=a7 b)(k:∀a c,o=a7 ⟨a,c⟩->f ⟨a,c⟩=b->G):G:=let(⟨a,c⟩,x,y):=Ľ.Z h;k a c x y
inductive D where
 |g7|bl (b:av)|gv (i:ae)|gy (x:cf)|f6 (xs:ab D)|oe (xs:ab D)|lp (a:am)|ty (n:cq)
 deriving Inhabited
inductive C where
 |hG (xs:ab D)
 |dK (ay:ab (b9×D))
 |st (ks:ab (ab ae))
 |dT (ay:ab (ab ae×D))
 |dF (ay:ab (ab ae×D))
 |ins (x:cf)(fs:ab (cf×D))
 deriving Inhabited
noncomputable abbrev Hm:=ab C
noncomputable abbrev aE:=ab<|af D
noncomputable abbrev ME:=aE->Hm->af (D×Hm)
noncomputable abbrev MT:=aE->Hm->af (av×Hm)
noncomputable abbrev MA:=aE->Hm->af (ab D×Hm)
@[reducible]def jk:=af<|D×Hm
@[reducible]def jx:=ab<|ab ae×D
@[reducible]def jz:=D×Hm->Prop
inductive Fl where
 |nx|rt (d:D)|bk|ct
noncomputable abbrev MS:=aE->Hm->af (Fl×aE×Hm)
noncomputable abbrev MF:=ab D->Hm->jk
def bw!(K:Ï)(H:Hp)(p:ar)(xs:gz):Prop:=
 (∃o,H p=a7 (.frz o<|.D xs)) \/
  ∃(o:hH)(b5:eh ax)(n:am),K.B p=a7 o/\o.cls=.O "list"/\o.dict=b0/\o.data=.seq b5 n/\b5.q<=Ò/\Æ xs b5.zh
def bw.sq(h:bw K H p xs):Ā K H p xs:=by
 rcases h with(o|h)|h
 .show .Q<|.X (o,h)
 .show .X h
mutual
inductive Ù (K:Ï)(π:am->ar)(n:am)(H:Hp):V->D->Prop where
 |g7:Ù K π n H .kf .kf
 |bl (b:av):Ù K π n H (.bl b)<|.bl b
 |gv (i:ae):Ù K π n H (.p i)<|.p i
 |gy (x:cf):Ù K π n H (.jv x)<|.jv x
 |f6 {p:ar}{vs:gz}{ds:ab D}(h:à K H p vs)(t:È K π n H vs ds):Ù K π n H (.x p)<|.L ds
 |oe {p:ar}{vs:gz}{ds:ab D}(h:bw K H p vs)(t:È K π n H vs ds):Ù K π n H (.x p)<|.rol ds
 |lp {a:am}(h:a<n):Ù K π n H (.x<|π a)<|.z a
 |ty (x:cq):Ù K π n H (.ty x)<|.ty x
inductive È (K:Ï)(π:am->ar)(n:am)(H:Hp):gz->ab D->Prop where
 |fk:È K π n H [] []
 |bm {v:V}{d:D}{vs:gz}{ds:ab D}(h:Ù K π n H v d)(t:È K π n H vs ds):È K π n H (v::vs)<|d::ds
end
structure ö(π:am->ar)(n:am)(H:Hp)(gu:am->ar)(n':am)(H':Hp):Prop where
 le:n<=n'
 pi:∀a,a<n->gu a=π a
 f6:∀p vs,H p=a7 (.L vs)->H' p=a7 (.L vs)
 frz:∀p o u,H p=a7 (.frz o u)->H' p=a7 (.frz o u)
structure Ŋ(π:am->ar)(n:am)(H:Hp)(gu:am->ar)(n':am)(H':Hp):Prop where
 le:n<=n'
 pi:∀a,a<n->gu a=π a
 f6:∀p vs,H p=a7 (.L vs)->H' p=a7 (.L vs)
 frz:∀p o u,(∀φ,u≠HO.ext φ)->H p=a7 (.frz o u)->H' p=a7 (.frz o u)
section
variable{K:Ï}{π π' π2:Nat->Addr}{n n' n2:Nat}{H H' H2:Hp}
def ö.weak(e:ö π n H gu n' H'):Ŋ π n H gu n' H':=(e.le,e.pi,e.L,λp o u x h=>e.frz p o u h)
def ö.refl:ö π n H π n H:=(Ô _,λ_ x=>rfl,λ_ x h=>h,λ_ x x h=>h)
def ö.trans(a:ö π n H gu n' H')(b:ö gu n' H' π2 n2 H2):ö π n H π2 n2 H2:=
 (ĥ a.le b.le,λi h=>(b.pi i<|Ŏ h a.le).u<|a.pi i h,λp c h=>b.L p c<|a.L p c h,λp o u h=>b.frz p o u<|a.frz p o u h)
def Ŋ.sqT(e:Ŋ π n H gu n' H')(h:à K H p vs):à K H' p vs:=by
 rcases h with h|h
 .rcases h with h|(o|h)
  .show .Q<|.Q<|e.L _ _ h
  .show .Q<|.X (o,e.frz _ _ _ (λ_ z=>nomatch z) h)
 .show .X h
def ö.sqT(e:ö π n H gu n' H')(h:à K H p vs):à K H' p vs:=e.weak.sqT h
def Ŋ.roL(e:Ŋ π n H gu n' H')(h:bw K H p vs):bw K H' p vs:=by
 rcases h with(o|h)|h
 .show .Q (o,e.frz _ _ _ (λ_ z=>nomatch z) h)
 .show .X h
def ö.roL(e:ö π n H gu n' H')(h:bw K H p vs):bw K H' p vs:=e.weak.roL h
mutual
theorem Ù.mono0{v:V}{d:D}(e:Ŋ π n H gu n' H'):Ù K π n H v d->Ù K gu n' H' v d
 |.kf=>.kf|.bl b=>.bl b|.p i=>.p i|.jv x=>.jv x|.ty x=>.ty x|.L h t=>.L (e.sqT h) (È.ky e t)|.rol h t=>.rol (e.roL h) (È.ky e t)|.z h=>by rw[<- e.pi _ h];show .z<|Ŏ h e.le
theorem È.mono0{vs:gz}{ds:ab D}(e:Ŋ π n H gu n' H'):È K π n H vs ds->È K gu n' H' vs ds
 |.kk=>.kk|.zv h t=>.zv (Ù.ky e h)<|È.ky e t
end
def Ù.mono(e:ö π n H gu n' H')(h:Ù K π n H v d):Ù K gu n' H' v d:=h.ky e.weak
def È.mono(e:ö π n H gu n' H')(h:È K π n H vs ds):È K gu n' H' vs ds:=h.ky e.weak
def È.length(h:È K π n H vs ds):vs.f=ds.f:=by
 induction ds generalizing vs with
 |fk=>ext h;rfl|bm d ds a=>
  cases h with
  |bm h t=>rw[ĩ,ĩ,a t]
def È.get(h:È K π n H vs ds){i:am}(e:ds[i]?=a7 d):∃v,vs[i]?=a7 v/\Ù K π n H v d:=by
 induction ds generalizing vs i with
 |fk=>simp at e|bm c ds b=>
  cases h with
  |bm h t=>
   cases i with
   |ij=>simp at e;subst e;show(_,?r,h)|im i=>let(v,h1,a):=b t (by apply e);show(v,by apply h1,a)
def È.append(h:È K π n H vs ds)(a:È K π n H ws es):È K π n H (vs++ws) (ds++es):=by
 induction ds generalizing vs with
 |fk=>ext h;show a|bm d ds b=>
  cases h with
  |bm h t=>show .zv h<|b t
def È.drop(h:È K π n H vs ds)k:È K π n H (vs.kw k) (ds.kw k):=by
 induction ds generalizing vs k with
 |fk=>ext h;apply È.kk|bm d ds a=>
  cases h with
  |bm h t=>
   cases k with
   |ij=>show .zv h t|im k=>show a t k
def È.take(h:È K π n H vs ds)k:È K π n H (vs.ze k) (ds.ze k):=by
 induction ds generalizing vs k with
 |fk=>ext h;apply È.kk|bm d ds a=>
  cases h with
  |bm h t=>
   cases k with
   |ij=>show .kk|im k=>show .zv h<|a t k
def È.atI(h:È K π n H vs ds)(e:_2.atI ds i=a7 d):∃v,_2.atI vs i=a7 v/\Ù K π n H v d:=by
 unfold _2.atI at e ⊢;rw[h.f];cases q:oE ds.f i with
 |bp=>rw[q]at e;ext e|bb j=>rw[q]at e;show h.get e
end
def yB!(p:ar)(L:ab Tb.El):HO:=.ext λh=>∃o,h.G p=a7 o/\Tb.SObj L o
def u6!(p:ab ae×ar×V)(w:ax):eg:=(Tb.hashT p.1,.x p.2.1,w)
def aN!(a:ar)(ps:ab (ab ae×ar×V)):HO:=.ext λh=>∃ws:gw,Æ (ps.o (·.2.2)) ws/\(a==Ļ)=b3/\ps.f<=Ò /\
 ∃o b c,h.G a=a7 o/\o.ExactDict/\o.data=.dict b c/\b.zh=um u6 ps ws/\(ps.o (·.1)).J
def Š!(K:Ï)(π:am->ar)(n:am)(H:Hp)(o:HO)(x:cf)(fs:ab (cf×D)):Prop:=
 ∃(C a:ar)(vs:ab (cf×V)),o=.ins C a vs/\aq K Ş x=a7 (a7<|.x C)/\vs.o (·.1)=fs.o (·.1)/\È K π n H (vs.o (·.2)) (fs.o (·.2))
def Š.mono0(e:Ŋ π n H a c b)(h:Š K π n H o x fs):Š K a c b o x fs:=
 let(C,d,k,h1,g,i,j):=h;(C,d,k,h1,g,i,j.ky e)
structure Rp(K:Ï)(π:am->ar)(H:Hp)(μ:Hm):Prop where
 inj:∀a b,a<μ.f->b<μ.f->π a=π b->a=b
 has:∀a,a<μ.f->(H<|π a).qh=b4
 hG:∀a xs,μ[a]?=a7 (.D xs)->∃vs,H (π a)=a7 (.D vs)/\È K π μ.f H vs xs
 dK:∀a ay,μ[a]?=a7 (.dK ay)->∃vs,H (π a)=a7 (.dK vs)/\vs.o (·.1)=ay.o (·.1)/\È K π μ.f H (vs.o (·.2)) (ay.o (·.2))
 st:∀a ks,μ[a]?=a7 (.st ks)->∃L:ab Tb.El,H (π a)=a7 (yB (π a) L)/\L.o (·.1)=ks/\È K π μ.f H (L.o λp=>V.x p.2) (ks.o λk=>D.L<|k.o D.p)
 dT:∀a ay,μ[a]?=a7 (.dT ay)->∃ps:ab (ab ae×ar×V),H (π a)=a7 (aN (π a) ps)/\ps.o (·.1)=ay.o (·.1)/\È K π μ.f H (ps.o λp=>V.x p.2.1) (ay.o λk=>D.L<|k.1.o D.p)/\È K π μ.f H (ps.o (·.2.2)) (ay.o (·.2))
 dF:∀a ay,μ[a]?=a7 (.dF ay)->∃(ob:hH)(ps:ab (ab ae×ar×V)),H (π a)=a7 (.frz ob<|aN (π a) ps)/\ps.o (·.1)=ay.o (·.1)/\È K π μ.f H (ps.o λp=>V.x p.2.1) (ay.o λk=>D.L<|k.1.o D.p)/\È K π μ.f H (ps.o (·.2.2)) (ay.o (·.2))
 ins:∀a x fs,μ[a]?=a7 (.ins x fs)->∃o,H (π a)=a7 o/\Š K π μ.f H o x fs
structure En(K:Ï)(π:am->ar)(n:am)(H:Hp)(σ:St)(ρ:aE):Prop where
 len:σ.f=ρ.f
 get:∀(i:am)(d:D),ρ[i]?=a7 (a7 d)->∃v,σ[i]?=a7 (a7 v)/\Ù K π n H v d
def En.mono(E:En K π n H σ ρ)(e:ö π n H gu n' H'):En K gu n' H' σ ρ:=
 (E.len,λi d h=>let(v,h1,a):=E.get i d h;(v,h1,a.zw e))
def En.set(E:En K π n H σ ρ)(h:Ù K π n H v d)i:En K π n H (σ.xl i<|a7 v) (ρ.xl i<|a7 d):=by
 show(by rw[ĸ,ĸ];show E.len,λj c e=>?_);rw[ab.getElem?_set]at e ⊢;by_cases a:i=j
 .subst a;rw[ad ?r]at e ⊢;rw[E.len];by_cases b:i<ρ.f
  .rw[ad b]at e ⊢;ext e;show(v,?r,h)
  .rw[ac b]at e;ext e
 .rw[ac a]at e ⊢;show E.get j c e
def Rp.ne(R:Rp K π H μ)(h:H p=b0)(b:a<μ.f):π a≠p:=λe=>by have:=R.has a b;rw[e,h]at ah;ext ah
def Rp.fresh(R:Rp K π H μ)(h:H p=b0):ö π μ.f H π μ.f (eo H p o)/\Rp K π (eo H p o) μ:=by
 let fv:∀b u,H b=a7 u->eo H p o b=a7 u:=λb u e=>by rw[bV<|k8 e h];show e
 let e:ö π μ.f H π μ.f (eo H p o):=(Ô _,λ_ y=>rfl,λq i e=>fv q _ e,λq o u e=>fv q _ e);show(e,R.inj,λa c=>?_,λa v c=>?_,λa g c=>?_,λa s c=>?_
  ,λa g c=>?_
  ,λa g c=>?_
  ,λa x fs c=>?_
  )
 .rw[bV<|R.ne h c];show R.has a c
 .let(i,h1,d):=R.D a v c;show(i,fv _ _ h1,d.zw e)
 .let(i,h1,d,j):=R.dK a g c;show(i,fv _ _ h1,d,j.zw e)
 .let(i,h1,d,j):=R.st a s c;show(i,fv _ _ h1,d,j.zw e)
 .let(i,h1,d,j,k):=R.dT a g c;show(i,fv _ _ h1,d,j.zw e,k.zw e)
 .let(ob,i,h1,d,j,k):=R.dF a g c;show(ob,i,fv _ _ h1,d,j.zw e,k.zw e)
 .let(o,h1,d):=R.ins a x fs c;show(o,fv _ _ h1,d.ky e.weak)
def u7!(K:Ï)(π:am->ar)(n:am)(H:Hp)(p:ar):C->HO->Prop
 |.D xs,.D vs=>È K π n H vs xs|.dK ay,.dK vs=>vs.o (·.1)=ay.o (·.1)/\È K π n H (vs.o (·.2)) (ay.o (·.2))|.st ks,o=>∃L:ab Tb.El,o=yB p L/\L.o (·.1)=ks/\È K π n H (L.o λp=>V.x p.2) (ks.o λk=>D.L<|k.o D.p)|.dT ay,o=>∃ps:ab (ab ae×ar×V),o=aN p ps/\ps.o (·.1)=ay.o (·.1)/\È K π n H (ps.o λp=>V.x p.2.1) (ay.o λk=>D.L<|k.1.o D.p)/\È K π n H (ps.o (·.2.2)) (ay.o (·.2))|.dF ay,o=>∃(ob:hH)(ps:ab (ab ae×ar×V)),o=.frz ob (aN p ps)/\ps.o (·.1)=ay.o (·.1)/\È K π n H (ps.o λp=>V.x p.2.1) (ay.o λk=>D.L<|k.1.o D.p)/\È K π n H (ps.o (·.2.2)) (ay.o (·.2))|.ins x fs,o=>Š K π n H o x fs|_,_=>ef
def jS!(π:am->ar)(n:am)(p:ar):am->ar:=λa=>if a=n then p else π a
def Rp.alloc(R:Rp K π H μ)(h:H p=b0)(hc:u7 K π μ.f H p c o):
  ö π μ.f H (jS π μ.f p) (μ++[c]).f (eo H p o)/\Rp K (jS π μ.f p) (eo H p o) (μ++[c])/\jS π μ.f p μ.f=p:=by
 let E:(μ++[c]).f=μ.f+1:=∅
 let fv:∀b u,H b=a7 u->eo H p o b=a7 u:=λb u e=>by rw[bV<|k8 e h];show e
 let z:jS π μ.f p μ.f=p:=ad ?r;let v:∀a,a<μ.f->jS π μ.f p a=π a:=λa d=>ac<|ý d;let e:ö π μ.f H (jS π μ.f p) (μ++[c]).f (eo H p o):=(by rw[E];show dj _,v,λq k e=>fv q _ e,λq o u e=>fv q _ e);let kC:∀a,a<(μ++[c]).f->a<μ.f\/a=μ.f:=λa d=>by rw[E]at d;lia
 let get:∀a,a<μ.f->(μ++[c])[a]?=μ[a]?:=λa d=>ż d;let i:(μ++[c])[μ.f]?=a7 c:=∅
 show(e,(λa b d B q=>?_,λa d=>?_,λa J d=>?_,λa y d=>?_,λa G d=>?_
  ,λa y d=>?_
  ,λa y d=>?_
  ,λa x fs d=>?_
  ),z)
 .rcases kC a d with d|rfl<;>rcases kC b B with B|rfl
  .rw[v a d,v b B]at q;show R.inj a b d B q
  .rw[v a d,z]at q;show cb q<|R.ne h d
  .rw[z,v b B]at q;show cb q.R<|R.ne h B
  .rfl
 .rcases kC a d with d|rfl
  .rw[v a d,bV<|R.ne h d];show R.has a d
  .rw[z,dH];rfl
 .let g:a<(μ++[c]).f:=(ã.Z d).1;rcases kC a g with h1|rfl
  .rw[get a h1]at d;let(k,w,j):=R.D a J d;rw[v a h1];show(k,fv _ _ w,j.zw e)
  .rw[i]at d;ext d;cases o with
   |hG k=>rw[z];show(k,dH,È.zw e hc)|_=>show Γ hc
 .let g:a<(μ++[c]).f:=(ã.Z d).1;rcases kC a g with h1|rfl
  .rw[get a h1]at d;let(k,w,j,s):=R.dK a y d;rw[v a h1];show(k,fv _ _ w,j,s.zw e)
  .rw[i]at d;ext d;cases o with
   |dK k=>rw[z];show(k,dH,hc.1,È.zw e hc.2)|_=>show Γ hc
 .let g:a<(μ++[c]).f:=(ã.Z d).1;rcases kC a g with h1|rfl
  .rw[get a h1]at d;let(k,w,j,s):=R.st a G d;rw[v a h1];show(k,fv _ _ w,j,s.zw e)
  .rw[i]at d;ext d;let(L,?r,j,s):=hc;rw[z];show(L,dH,j,s.zw e)
 .let g:a<(μ++[c]).f:=(ã.Z d).1;rcases kC a g with h1|rfl
  .rw[get a h1]at d;let(k,w,j,s,A):=R.dT a y d;rw[v a h1];show(k,fv _ _ w,j,s.zw e,A.zw e)
  .rw[i]at d;ext d;let(L,?r,j,s,A):=hc;rw[z];show(L,dH,j,s.zw e,A.zw e)
 .let g:a<(μ++[c]).f:=(ã.Z d).1;rcases kC a g with h1|rfl
  .rw[get a h1]at d;let(ob,k,w,j,s,A):=R.dF a y d;rw[v a h1];show(ob,k,fv _ _ w,j,s.zw e,A.zw e)
  .rw[i]at d;ext d;let(ob,L,?r,j,s,A):=hc;rw[z];show(ob,L,dH,j,s.zw e,A.zw e)
 .let g:a<(μ++[c]).f:=(ã.Z d).1;rcases kC a g with h1|rfl
  .rw[get a h1]at d;let(I,w,j):=R.ins a x fs d;rw[v a h1];show(I,fv _ _ w,j.ky e.weak)
  .rw[i]at d;ext d;rw[z];show(o,dH,Š.ky e.weak hc)
def Rp.putU(R:Rp K π H μ)(M:a<μ.f)(E:H (π a)=a7 u)(G:(∀vs,u≠.L vs)/\∀ob v,(∀Q,v≠HO.ext Q)->u≠.frz ob v)(hc:u7 K π μ.f H (π a) c o):
  Ŋ π μ.f H π (μ.xl a c).f (eo H (π a) o)/\Rp K π (eo H (π a) o) (μ.xl a c):=by
 let s:(μ.xl a c).f=μ.f:=ĸ ..;let e:Ŋ π μ.f H π (μ.xl a c).f (eo H (π a) o):=by
  show(qi s.R,λ_ f=>rfl,λq vs z=>?_,λq I T nx z=>?_)
  .rw[bV]
   .show z
   .intro e;subst e;rw[E]at z;show G.1 _<|Ĕ z
  .rw[bV]
   .show z
   .intro e;subst e;rw[E]at z;show G.2 _ _ nx<|Ĕ z
 let i:∀b,b<μ.f->b≠a->eo H (π a) o (π b)=H (π b):=λb d B=>bV λq=>B<|R.inj b a d M q;show(e,(λb J d A=>R.inj b J (s▸d)<|s▸A,λb d=>?_,λb O d=>?_,λb w d=>?_,λb N d=>?_
  ,λb w d=>?_
  ,λb w d=>?_
  ,λb x fs d=>?_
  ))
 .by_cases h:b=a
  .subst h;rw[dH];rfl
  .rw[i b (s▸d) h];show R.has b<|s▸d
 .let g:b<μ.f:=s▸(ã.Z d).1;by_cases h:b=a
  .subst h;rw[Ŭ g]at d;ext d;cases o with
   |hG vs=>show(vs,dH,È.ky e hc)|_=>show Γ hc
  .rw[ć<|ì h]at d;let(vs,p,j):=R.D b O d;show(vs,by rw[i b g h];show p,j.ky e)
 .let g:b<μ.f:=s▸(ã.Z d).1;by_cases h:b=a
  .subst h;rw[Ŭ g]at d;ext d;cases o with
   |dK vs=>show(vs,dH,hc.1,È.ky e hc.2)|_=>show Γ hc
  .rw[ć<|ì h]at d;let(vs,p,j,k):=R.dK b w d;show(vs,by rw[i b g h];show p,j,k.ky e)
 .let g:b<μ.f:=s▸(ã.Z d).1;by_cases h:b=a
  .subst h;rw[Ŭ g]at d;ext d;let(L,?r,j,k):=hc;show(L,dH,j,k.ky e)
  .rw[ć<|ì h]at d;let(vs,p,j,k):=R.st b N d;show(vs,by rw[i b g h];show p,j,k.ky e)
 .let g:b<μ.f:=s▸(ã.Z d).1;by_cases h:b=a
  .subst h;rw[Ŭ g]at d;ext d;let(L,?r,j,k,y):=hc;show(L,dH,j,k.ky e,y.ky e)
  .rw[ć<|ì h]at d;let(vs,p,j,k,y):=R.dT b w d;show(vs,by rw[i b g h];show p,j,k.ky e,y.ky e)
 .let g:b<μ.f:=s▸(ã.Z d).1;by_cases h:b=a
  .subst h;rw[Ŭ g]at d;ext d;let(ob,L,?r,j,k,y):=hc;show(ob,L,dH,j,k.ky e,y.ky e)
  .rw[ć<|ì h]at d;let(ob,vs,p,j,k,y):=R.dF b w d;show(ob,vs,by rw[i b g h];show p,j,k.ky e,y.ky e)
 .let g:b<μ.f:=s▸(ã.Z d).1;by_cases h:b=a
  .subst h;rw[Ŭ g]at d;ext d;show(o,dH,Š.ky e hc)
  .rw[ć<|ì h]at d;let(I,p,j):=R.ins b x fs d;show(I,by rw[i b g h];show p,j.ky e)
def Rp.put0(R:Rp K π H μ)(e:a<μ.f)(g:H (π a)=a7 u)(d:(∃vs,u=.D vs)\/(∃vs,u=.dK vs)\/(∃b,u=.ext b)\/∃ob b,u=.frz ob (.ext b))(hc:u7 K π μ.f H (π a) c o):
  Ŋ π μ.f H π (μ.xl a c).f (eo H (π a) o)/\Rp K π (eo H (π a) o) (μ.xl a c):=
 R.putU e g (λvs z=>(by rcases d with(w|rfl)|(w|rfl)|(w|rfl)|(ob|w|rfl)<;>ext z),λob v nx z=>by
  rcases d with(w|rfl)|(w|rfl)|(w|rfl)|(ob|w|rfl)<;>ext z;show nx _ ?r) hc
def Rp.putE(R:Rp K π H μ)(g:a<μ.f)(d:H (π a)=a7 u)(b:(∀vs,u≠.L vs)/\∀ob v,u≠.frz ob v)(hc:u7 K π μ.f H (π a) c o):
  ö π μ.f H π (μ.xl a c).f (eo H (π a) o)/\Rp K π (eo H (π a) o) (μ.xl a c):=by
 let e:ö π μ.f H π (μ.xl a c).f (eo H (π a) o):=by
  show(qi (ĸ ..).R,λ_ x=>rfl,λq vs z=>?_,λq h i z=>?_)
  .rw[bV]
   .show z
   .intro e;subst e;rw[d]at z;show b.1 _<|Ĕ z
  .rw[bV]
   .show z
   .intro e;subst e;rw[d]at z;show b.2 _ _<|Ĕ z
 show(e,(R.putU g d (b.1,λob v x=>b.2 ob v) hc).2)
def Rp.put(R:Rp K π H μ)(d:a<μ.f)(e:H (π a)=a7 u)(b:(∃vs,u=.D vs)\/(∃vs,u=.dK vs)\/∃g,u=.ext g)(hc:u7 K π μ.f H (π a) c o):
  ö π μ.f H π (μ.xl a c).f (eo H (π a) o)/\Rp K π (eo H (π a) o) (μ.xl a c):=
 R.putE d e (λvs z=>(by rcases b with(w|rfl)|(w|rfl)|(w|rfl)<;>ext z),λob v z=>by rcases b with(w|rfl)|(w|rfl)|(w|rfl)<;>ext z) hc
def KC!(K:Ï)(Q:VK)(π:am->ar)(n:am)(H:Hp)(d:D)(aw:Hm):Prop:=
 ∀a v b,ö π n H a aw.f b->Rp K a b aw->Ù K a aw.f b v d->Q v b
def KC.after(k:KC K Q π n H d aw)(e:ö π n H a g c):KC K Q a g c d aw:=
 λb v h j R i=>k b v h (e.u j) R i
inductive tM (K:Ï)(m:ME)(σ:St)(H:Hp)(Q:VK):Prop
 |mk (π:am->ar)(ρ:aE)(μ:Hm)(d:D)(aw:Hm)(R:Rp K π H μ)(E:En K π μ.f H σ ρ)(hm:m ρ μ=a7 ⟨d,aw⟩)(k:KC K Q π μ.f H d aw):tM K m σ H Q
inductive Œ (K:Ï)(m:MT)(σ:St)(H:Hp)(Q:av->Hp->Prop):Prop
 |mk (π:am->ar)(ρ:aE)(μ:Hm)(b:av)(aw:Hm)(R:Rp K π H μ)(E:En K π μ.f H σ ρ)(hm:m ρ μ=a7 ⟨b,aw⟩)(k:∀gu H',ö π μ.f H gu aw.f H'->Rp K gu H' aw->Q b H'):Œ K m σ H Q
inductive ŵ (K:Ï)(m:MA)(σ:St)(H:Hp)(Q:gz->Hp->Prop):Prop
 |mk (π:am->ar)(ρ:aE)(μ:Hm)(ds:ab D)(aw:Hm)(R:Rp K π H μ)(E:En K π μ.f H σ ρ)(hm:m ρ μ=a7 ⟨ds,aw⟩)(k:∀gu vs H',ö π μ.f H gu aw.f H'->Rp K gu H' aw->È K gu aw.f H' vs ds->Q vs H'):ŵ K m σ H Q
def qZ!(K:Ï)(E:ϧ)(π:am->ar)(n:am)(H:Hp)(g:Fl)(e:aE)(aw:Hm):Prop:=
 match g with
 |.nx=>∀a b c,ö π n H a aw.f c->Rp K a c aw->En K a aw.f c b e->E.nx b c|.bk=>∀a b c,ö π n H a aw.f c->Rp K a c aw->En K a aw.f c b e->E.bk b c|.ct=>∀a b c,ö π n H a aw.f c->Rp K a c aw->En K a aw.f c b e->E.ct b c|.rt d=>KC K E.rt π n H d aw
inductive Ŕ (K:Ï)(m:MS)(E:ϧ)(σ:St)(H:Hp):Prop
 |mk (π:am->ar)(ρ:aE)(μ:Hm)(fl:Fl)(ρ':aE)(aw:Hm)(R:Rp K π H μ)(EN:En K π μ.f H σ ρ)(hm:m ρ μ=a7 ⟨fl,ρ',aw⟩)(k:qZ K E π μ.f H fl ρ' aw):Ŕ K m E σ H
inductive ye (K:Ï)(f:MF)(vs:gz)(H:Hp)(Q:VK):Prop
 |mk (π:am->ar)(ds:ab D)(μ:Hm)(d:D)(aw:Hm)(R:Rp K π H μ)(i:È K π μ.f H vs ds)(hm:f ds μ=a7 ⟨d,aw⟩)(k:KC K Q π μ.f H d aw):ye K f vs H Q
def gT!(K:Ï)(k:am)(f:MF):Sp:=λvs H Q x=>vs.f=k/\ye K f vs H Q
def eL(h:PE X e t)(hw:∀σ H Q,tM X.K m σ H Q->t σ H Q):PE X e (tM X.K m):=λDo s σ H Q I q=>h Do s σ H Q I<|hw σ H Q q
def yC(h:PT X e t)(hw:∀σ H Q,Œ X.K m σ H Q->t σ H Q):PT X e (Œ X.K m):=λDo s σ H Q I q=>h Do s σ H Q I<|hw σ H Q q
def F1(h:PW X e t)(hw:∀σ H Q,Œ X.K m σ H Q->t σ H Q):PW X e (Œ X.K m):=λd Do s σ H Q I q=>h d Do s σ H Q I<|hw σ H Q q
def F2(h:PA X es t)(hw:∀σ H Q,ŵ X.K m σ H Q->t σ H Q):PA X es (ŵ X.K m):=λp Do s σ H Q I q=>h p Do s σ H Q I<|hw σ H Q q
def lV(h:PS X st t)(hw:∀E σ H,Ŕ X.K m E σ H->t E σ H):PS X st (Ŕ X.K m):=λDo s σ H E I q=>h Do s σ H E I<|hw E σ H q
def F5(h:ş X st t)(hw:∀E σ H,Ŕ X.K m E σ H->t E σ H):ş X st (Ŕ X.K m):=λDo s σ H E I q=>h Do s σ H E I<|hw E σ H q
def aC!(i:am):ME:=λg μ=>match g[i]? with|bb (a7 d)=>a7 ⟨d,μ⟩|_=>b0
def mC!(d:D):ME:=λ_ μ=>a7 ⟨d,μ⟩
open _root_ in
def b0Y(h:aC i g μ=a7 ⟨d,aw⟩):g[i]?=a7 (a7 d)/\aw=μ:=by
 unfold aC at h;split at h
 .rename_i j e;ext h;show(e,?r)
 .ext h
def b0S i(h:PE X (.xk x ca) (EZ i)):PE X (.xk x ca) (tM X.K<|aC i):=eL h<|by
 rintro u H Q (p|s|q|d|o|R|E|n|k);let(h1,?r):=b0Y n;let(v,g,j):=E.get i d h1;show(v,g,k p v H .ki R j)
def sS(h:PE X e (tC v))(hd:∀π n H,Ù X.K π n H v d):PE X e (tM X.K<|mC d):=eL h<|by
 rintro q H Q (π|p|o|j|i|R|E|g|k);ext g;show k π v H .ki R<|hd _ _ _
def b0Q:PE X (.ve (.p i) j ca) (tM X.K<|mC<|.p i):=sS a8W λ_ x x=>.p i
def b0N:PE X (.ve (.kt i) j ca) (tM X.K<|mC<|.bl i):=sS a8M λ_ x x=>.bl i
def b0K:PE X (.ve (.jv i) j ca) (tM X.K<|mC<|.jv i):=sS a8B λ_ x x=>.jv i
def a9z:PE X (.ve .qo j ca) (tM X.K<|mC .kf):=sS a8E λ_ x x=>.kf
def aA!(f:D->D->Hm->jk)(a b:ME):ME:=λd μ=>(a d μ).U λp=>(b d p.2).U λq=>f p.1 q.1 q.2
def eU!(K:Ï)(f:D->D->Hm->jk)(r:R2):Prop:=
 ∀i H g x y d h j k Q,Rp K i H g->Ù K i g.f H j x->Ù K i g.f H k y->f x y g=a7 ⟨d,h⟩->KC K Q i g.f H d h->r j k H Q
def u9(z:eU K f r):∀σ H Q,tM K (aA f ma mb) σ H Q->uW r (tM K ma) (tM K mb) σ H Q:=by rintro σ H Q (L|s|J|d|j|R|E|g|k);show bJ g ?_;clear g;intro x h h1 g;show bJ g ?_;clear g;intro y i w g;show(L,s,J,x,h,R,E,h1,λn G M p v A=>(n,s,h,y,i,v,E.zw p,w,λo I u q R2 B=>z o u i x y d j G I Q R2 (A.zw q) B g<|k.after<|p.u q))
def a9t(i:Ē X (ι op) r)(h:eU X.K f r)(d:PE X a (tM X.K ma))(g:PE X b (tM X.K mb)):PE X (.BinOp a op b ca) (tM X.K<|aA f ma mb):=
 eL (b1S i d g)<|u9 h
def iT(j:Ē X (Ķ op) r)(h:eU X.K f r)(d:PE X a (tM X.K ma))(g:PE X b (tM X.K mb))(i:jm op b=b3):PE X (.qq a [op] [b] ca) (tM X.K<|aA f ma mb):=
 eL (b0r j d g i)<|u9 h
def aP!(m:ME):MT:=λd μ=>(m d μ).U λp=>match p.1 with|.bl b=>a7 ⟨b,p.2⟩|_=>b0
def F6:∀σ H Q,Œ K (aP m) σ H Q->tM K m σ H λx g=>∃k,x=.bl k/\Q k g:=by
 rintro σ H Q (s|u|o|b|p|R|E|d|k);show bJ d ?_;clear d;intro x q h1 d;cases x with
 |bl c=>ext d;show(s,u,o,_,_,R,E,h1,λh v g j i n=>?_);ext n;show(_,?r,k h g j i)|_=>ext d
def iU(n:Ē X (Ķ op) r)(j:eU X.K f r)(g:PE X a (tM X.K ma))(i:PE X b (tM X.K mb))(k:jm op b=b3):PT X (.qq a [op] [b] ca) (Œ X.K<|aP<|aA f ma mb):=
 yC (b0n n g i k) λd H Q h=>u9 j d H _<|F6 d H Q h
section
variable{X:Cx}{e a b c:Expr}{m ma mb mc:ME}{pos:Ń}{mt mu:MT}{cN:List Expr}
def kJ!(a b:MT):MT:=λd μ=>(a d μ).U λp=>match p.1 with|bt=>b d p.2|ai=>a7 ⟨b3,p.2⟩
def iG!(a b:MT):MT:=λd μ=>(a d μ).U λp=>match p.1 with|bt=>a7 ⟨b4,p.2⟩|ai=>b d p.2
def kK!(a:MT):MT:=λd μ=>(a d μ).o λp=>⟨!p.1,p.2⟩
def a9q(d:PT X a (Œ X.K mt)):PW X (.jp .And [a] ca) (Œ X.K mt):=e10 d
def a9X(d:PT X a (Œ X.K mt)):PW X (.jp .Or [a] ca) (Œ X.K mt):=b8b d
def a9U(w:PT X a (Œ X.K mt))(y:PW X (.jp .And (b::cN) ca) (Œ X.K mu)):PW X (.jp .And (a::b::cN) ca) (Œ X.K<|kJ mt mu):=F1 (b7R w y)<|by
 rintro B H Q (A|q|z|d|n|R|E|g|k);show bJ g ?_;clear g;intro x h h1 g;show(A,q,z,x,h,R,E,h1,λi s j p=>?_);cases x with
 |bt=>show pP ?_;show(i,q,h,d,n,p,E.zw j,g,λo u v R2=>k o u (j.u v) R2)|ai=>
  show pO ?_;ext g;show k i s j p
def b1z(w:PT X a (Œ X.K mt))(y:PW X (.jp .Or (b::cN) ca) (Œ X.K mu)):PW X (.jp .Or (a::b::cN) ca) (Œ X.K<|iG mt mu):=F1 (b6N w y)<|by
 rintro B H Q (A|q|z|d|n|R|E|g|k);show bJ g ?_;clear g;intro x h h1 g;show(A,q,z,x,h,R,E,h1,λi s j p=>?_);cases x with
 |bt=>show pP ?_;ext g;show k i s j p|ai=>
  show pO ?_;show(i,q,h,d,n,p,E.zw j,g,λo u v R2=>k o u (j.u v) R2)
def b1y(p:PT X a (Œ X.K mt)):PT X (.UnaryOp .Not a ca) (Œ X.K<|kK mt):=yC (b6E p)<|by
 rintro w H Q (u|v|q|d|s|R|E|g|k);show u5 g ?_;clear g;intro x h h1 g;ext g;show(u,v,q,x,h,R,E,h1,λi j o n=>k i j o n)
def lF!(a b:ME):ME:=λd μ=>(a d μ).U λp=>match p.1 with|.bl b4=>b d p.2|.bl b3=>a7 ⟨.bl b3,p.2⟩|_=>b0
def Bx!(a b:ME):ME:=λd μ=>(a d μ).U λp=>match p.1 with|.bl b4=>a7 ⟨.bl b4,p.2⟩|.bl b3=>b d p.2|_=>b0
def sT!(a:ME):ME:=λd μ=>(a d μ).U λp=>match p.1 with|.bl b=>a7 ⟨.bl<|!b,p.2⟩|_=>b0
def b1x(h:PE X a (tM X.K m)):PE X (.jp op [a] ca) (tM X.K m):=b4j h
def b1w(s:PE X a (tM X.K ma))(u:PE X (.jp .And (b::cN) ca) (tM X.K mb)):PE X (.jp .And (a::b::cN) ca) (tM X.K<|lF ma mb):=eL (b4d s u)<|by
 rintro A H Q (y|p|w|d|n|R|E|g|k);show bJ g ?_;clear g;intro x h h1 g;cases x with
 |bl c=>
  show(y,p,w,.bl c,h,R,E,h1,λi z q j o v=>?_);ext v;show(c,?r,?_);cases c with
  |bt=>show pP ?_;show(i,p,h,d,n,o,E.zw j,g,k.after j)|ai=>show pO ?_;ext g;show k i _ q j o<|.bl b3
 |_=>ext g
def b1p(s:PE X a (tM X.K ma))(u:PE X (.jp .Or (b::cN) ca) (tM X.K mb)):PE X (.jp .Or (a::b::cN) ca) (tM X.K<|Bx ma mb):=eL (b0H s u)<|by
 rintro A H Q (y|p|w|d|n|R|E|g|k);show bJ g ?_;clear g;intro x h h1 g;cases x with
 |bl c=>
  show(y,p,w,.bl c,h,R,E,h1,λi z q j o v=>?_);ext v;show(c,?r,?_);cases c with
  |bt=>show pP ?_;ext g;show k i _ q j o (.bl b4)|ai=>show pO ?_;show(i,p,h,d,n,o,E.zw j,g,k.after j)
 |_=>ext g
def b1o(o:PE X a (tM X.K ma)):PE X (.UnaryOp .Not a ca) (tM X.K<|sT ma):=eL (b0G o)<|by
 rintro z H Q (v|w|q|d|s|R|E|g|k);show bJ g ?_;clear g;intro x u h1 g;cases x with
 |bl c=>ext g;show(v,w,q,_,_,R,E,h1,λh y i n j p=>?_);ext p;show(_,?r,k h _ i n j<|.bl _)
 |_=>ext g
def gU!(t:MT)(a b:ME):ME:=λd μ=>(t d μ).U λp=>match p.1 with|bt=>a d p.2|ai=>b d p.2
def b1m(hc:PT X c (Œ X.K mt))(q:PE X a (tM X.K ma))(s:PE X b (tM X.K mb)):PE X (.IfExp c a b ca) (tM X.K<|gU mt ma mb):=eL (a9v hc q s)<|by
 rintro y H Q (v|o|u|d|i|R|E|h|k);show bJ h ?_;clear h;intro x g h1 h;show(v,o,u,x,g,R,E,h1,λj w n p=>?_);cases x with
 |bt=>show pP ?_;show(j,o,g,d,i,p,E.zw n,h,k.after n)|ai=>
  show pO ?_;show(j,o,g,d,i,p,E.zw n,h,k.after n)
def aD!:MA:=λ_ μ=>a7 ⟨[],μ⟩
def aB!(a:ME)(r:MA):MA:=λd μ=>(a d μ).U λp=>(r d p.2).U λq=>a7 ⟨p.1::q.1,q.2⟩
variable{es:List Expr}{ms:MA}
def b1l:PA X [] (ŵ X.K aD):=F2 Fs<|by
 rintro o H Q (i|n|j|d|h|R|E|g|k);ext g;show k i [] H .ki R .kk
def b1h(w:PE X e (tM X.K m))(y:PA X es (ŵ X.K ms))(z:ð (e::es) X.M=⟨b3,eu e X.M⟩::ð es X.M:=by rfl):PA X (e::es) (ŵ X.K<|aB m ms):=F2 (Ft w y z)<|by
 rintro O H Q (K|q|I|d|J|R|E|g|k);show bJ g ?_;clear g;intro x h h1 g;show bJ g ?_;clear g;intro G i v g;ext g;show(K,q,I,x,h,R,E,h1,λj M L o u A=>(j,q,h,G,i,u,E.zw o,v,λn N s p R2 B=>k n _ s (o.u p) R2<|.zv (A.zw p) B))
def bY!(ms:MA):ME:=λd μ=>(ms d μ).U λp=>if p.1.f<=Ò then a7 ⟨.L p.1,p.2⟩else b0
def cU!(ms:MA):ME:=λd μ=>(ms d μ).U λp=>if p.1.f<=Ò then a7 ⟨.z p.2.f,p.2++[.D p.1]⟩else b0
open _root_ in
def b1g(h:PA X es (ŵ X.K ms)):PE X (.va es w ca) (tM X.K<|bY ms):=eL (b4E h)<|by
 rintro J H Q (A|B|x|d|y|R|E|g|k);show bJ g ?_;clear g;intro I z h1 g;split at g
 .rename_i s;ext g;show(A,B,x,_,_,R,E,h1,λi v G q o n=>(by rw[n.f];show s,λp u=>?_));let(j,R2):=o.xo (o:=.L v) u;show k i _ _ (q.u j) R2<|.L (.of dH)<|n.zw j
 .ext g
open _root_ in
def b1d(h:PA X es (ŵ X.K ms)):PE X (.List es ca) (tM X.K<|cU ms):=eL (b3x h)<|by
 rintro K H Q (I|J|B|d|G|R|E|i|k);show bJ i ?_;clear i;intro n g h1 i;split at i
 .rename_i y;ext i;show(I,J,B,n,g,R,E,h1,λj o s w v u=>(by rw[u.f];show y,λp z=>?_));let(x,R2,q):=v.alloc (c:=.D n) (o:=.D o) z u;let A:Ù X.K (jS j g.f p) (g++[C.D n]).f (eo s p<|.D o) (.x p) (.z g.f):=by have:=Ù.z (K:=X.K) (π:=jS j g.f p) (n:=(g++[C.D n]).f) (H:=eo s p (.D o)) (a:=g.f) ∅;rw[q]at ah;show ah
  show k _ _ _ (w.u x) R2 A
 .ext i
def bI!(f:MF)(ms:MA):ME:=λd μ=>(ms d μ).U λp=>f p.1 p.2
def b1Y(v:∀i μ ds aw,ms i μ=a7 ⟨ds,aw⟩->ds.f=n):∀σ H Q,tM K (bI f ms) σ H Q->Bo (gT K n f) [] E (ŵ K ms) σ H Q:=by rintro σ H Q (x|i|μ|d|aw|R|E|h|k);show bJ h ?_;clear h;intro j g h1 h;show(x,i,μ,j,g,R,E,h1,λo w q u s p=>?_);change gT K n f (w++[]) q Q _;rw[Ĭ];show(by rw[p.f];show v i μ j g h1,o,j,g,d,aw,s,p,h,k.after u)
def F7:∀d μ ds aw,aD d μ=a7 ⟨ds,aw⟩->ds.f=0:=by intro d μ ds aw h;ext h;rfl
def b1X(h:∀g μ ds aw,ms g μ=a7 ⟨ds,aw⟩->ds.f=n):∀g μ ds aw,aB m ms g μ=a7 ⟨ds,aw⟩->ds.f=n+1:=by intro g μ ds aw d;show bJ d ?_;clear d;intro x i h1 d;show bJ d ?_;clear d;intro k o j d;ext d;rw[ĩ,h g i k _ j]
def b1W(F:đ X.Y X.w X.K X.mg X.ka gR k f i ps (gT X.K n j))(z:Þ k X.A)(u:Gl X x)(w:X.mg x=a7 (.x f))(v:ϟ X.K (.x f)=b4)(q:ó X.K i ps [])(o:PA X (e::es) (ŵ X.K ms))(y:∀B A ds h,ms B A=a7 ⟨ds,h⟩->ds.f=n)(d:(x==("__debug__":cf))=ai:=by decide)(s:ð (e::es) X.M=⟨b3,eu e X.M⟩::ð es X.M:=by rfl)(g:(ĵ ca<|ð es X.M).any (·.1)=ai:=by rfl):
  PE X (.xz (.xk x p) (e::es) [] ca) (tM X.K<|bI j ms):=
 eL (b3s F z u w v q .kk (E:=E0) uY o d s g)<|b1Y y
def e8!(K:Ï)(f:MF)(r:gz->Hp->VK->Prop):Prop:=
 ∀i H h k d g j Q,Rp K i H h->È K i h.f H j k->f k h=a7 ⟨d,g⟩->KC K Q i h.f H d g->r j H Q
def By(s:e8 K f r):∀σ H Q,tM K (bI f ms) σ H Q->xX r (ŵ K ms) σ H Q:=by rintro σ H Q (x|y|w|d|i|R|E|h|k);show bJ h ?_;clear h;intro n g h1 h;show(x,y,w,n,g,R,E,h1,λj v o q p u=>s j o g n d i v Q p u h<|k.after q)
def b1V{id:cq}(hc:ß X (.zn id) r)(j:e8 X.K f r)(k:Gl X x)(n:X.mg x=b0)(q:ξ x=a7 (.zn id))(h:PA X (e::es) (ŵ X.K ms))(o:x ≠ "__name__":=by decide)(d:(x==("__debug__":cf))=ai:=by decide)(i:ð (e::es) X.M=⟨b3,eu e X.M⟩::ð es X.M:=by rfl)(g:(ĵ ca<|ð es X.M).any (·.1)=ai:=by rfl):PE X (.xz (.xk x p) (e::es) [] ca) (tM X.K<|bI f ms):=
 eL (b3O hc k n q h o d i g)<|By j
def b2h(hc:ß X (.O T) r)(j:e8 X.K f r)(k:Gl X x)(n:X.mg x=b0)(q:ξ x=a7 (.O T))(h:PA X (e::es) (ŵ X.K ms))(o:x ≠ "__name__":=by decide)(d:(x==("__debug__":cf))=ai:=by decide)(i:ð (e::es) X.M=⟨b3,eu e X.M⟩::ð es X.M:=by rfl)(g:(ĵ ca<|ð es X.M).any (·.1)=ai:=by rfl):PE X (.xz (.xk x p) (e::es) [] ca) (tM X.K<|bI f ms):=
 eL (b3N hc k n q h o d i g)<|By j
def bW!(μ:Hm):D->af (ab D)
 |.L xs=>a7 xs|.rol xs=>a7 xs|.z a=>match μ[a]? with|bb (.D xs)=>a7 xs|_=>b0
 |_=>b0
def kL!:D->D->Hm->jk
 |.jv z,.p i,μ=>if z.f<=Ò then(lv z.cps.zh i).o λc=>⟨.jv ⟨#[c]⟩,μ⟩else b0|x,.p i,μ=>(bW μ x).U λg=>(lv g i).o λd=>⟨d,μ⟩|_,_,_=>b0
open _root_ in
def b2g:eU K kL (FI K):=by
 intro p H O x y d I M N Q R s E g k;cases E with
 |gv i=>
  cases s with
  |gy z=>
   dsimp[kL]at g;split at g
   .rename_i A;show cI g ?_;clear g;intro c h1 j;ext j;show .X<|.X (z,i,c,?r,?r,A,h1,k p _ H .ki R<|.jv _)
   .ext g
  |f6 h t=>dsimp[kL,bW,ě]at g;show cI g ?_;clear g;intro q h1 j;ext j;let(v,n,o):=t.atI h1;show .X (.Q (_,_,i,v,?r,?r,h,n,k p _ H .ki R o))|oe h t=>dsimp[kL,bW,ě]at g;show cI g ?_;clear g;intro q h1 j;ext j;let(v,n,o):=t.atI h1;show .Q (_,_,i,v,?r,?r,h.sq,n,k p _ H .ki R o)|@lp a J=>
   dsimp[kL,bW]at g;split at g
   .rename_i G B;dsimp[ě]at g;show cI g ?_;clear g;intro q h1 j;ext j;let(L,u,w):=R.D a G B;let(v,n,o):=w.atI h1;show .Q (_,_,i,v,?r,?r,.of u,n,k p _ H .ki R o)
   .ext g
  |_=>simp[kL,bW]at g
 |_=>ext s<;>simp[kL]at g
def b2e(d:PE X a (tM X.K ma))(g:PE X b (tM X.K mb))(h:Bs b):PE X (.xy a b ca) (tM X.K<|aA kL ma mb):=eL (b4f b4c d g h)<|u9 b2g
def nB!(xs:ab D)(lo hi:af ae):ab D:=(xs.kw<|HT.sIx xs.f 0 lo).ze<|HT.sIx xs.f xs.f hi-HT.sIx xs.f 0 lo
noncomputable abbrev MO:=aE->Hm->af (af ae×Hm)
def iH!:MO:=λ_ μ=>a7 ⟨b0,μ⟩
def jT!(m:ME):MO:=λd μ=>(m d μ).U λp=>match p.1 with|.p i=>a7 ⟨a7 i,p.2⟩|_=>b0
inductive sr (K:Ï)(m:MO)(σ:St)(H:Hp)(Q:af ae->Hp->Prop):Prop
 |mk (π:am->ar)(ρ:aE)(μ:Hm)(o:af ae)(aw:Hm)(R:Rp K π H μ)(E:En K π μ.f H σ ρ)(hm:m ρ μ=a7 ⟨o,aw⟩)(k:∀gu H',ö π μ.f H gu aw.f H'->Rp K gu H' aw->Q o H'):sr K m σ H Q
def b2d:PO X b0 (sr X.K iH):=λDo s σ H Q I q=>b5N Do s σ H Q I<|by
 let(h,j,i,o,g,R,E,d,k):=q;ext d;show k h H .ki R
def b2P(h:PE X e (tM X.K m)):PO X (a7 e) (sr X.K<|jT m):=λDo s σ H Q I q=>b5K h Do s σ H Q I<|by
 let(z,A,v,o,w,R,E,d,k):=q;show bJ d ?_;clear d;intro x y h1 d;cases x with
 |gv i=>ext d;show(z,A,v,_,_,R,E,h1,λg B j p n u=>?_);ext u;show(_,?r,k g j p n)
 |_=>ext d
noncomputable abbrev F8(K:Ï):V->af ae->af ae->Hp->VK->Prop:=Bt K
def b2M:Bq X (F8 X.K):=b6q
def F9(h:Bt K x lo hi H Q):F8 K x lo hi H Q:=h
def q8!(a:ME)(lo hi:MO):ME:=λd μ=>(a d μ).U λp=>(lo d p.2).U λq=>(hi d q.2).U λr=>
 match p.1 with
 |.L _=>b0|x=>(bW r.2 x).U λg=>a7 ⟨.z r.2.f,r.2++[.D<|nB g q.1 r.1]⟩
def Ga(h:È K π n H vs ds)lo hi:È K π n H (pN vs lo hi) (nB ds lo hi):=by ext pN nB;rw[h.f];show(h.kw _).ze _
def lG{μ:Hm}{c:C}:Ù K (jS π μ.f p) (μ++[c]).f H (.x p) (.z μ.f):=by have:=Ù.z (K:=K) (π:=jS π μ.f p) (n:=(μ++[c]).f) (H:=H) (a:=μ.f) ∅;rw[show jS π μ.f p μ.f=p from ad ?r]at ah;show ah
open _root_ in
def b2L(Z:PE X a (tM X.K ma))(hl:PO X lo (sr X.K L))(hu:PO X hi (sr X.K K)):PE X (.xy a (.Slice lo hi b0 p2) ca) (tM X.K<|q8 ma L K):=eL (b4n b2M Z hl hu)<|by
 rintro σ H Q (π|J|μ|d|aw|R|E|g|k);show bJ g ?_;clear g;intro x j h1 g;show bJ g ?_;clear g;intro l n O g;show bJ g ?_;clear g;intro u B T g;show(π,J,μ,x,j,R,E,h1,λG v1 H1 o N i1=>(G,J,j,l,n,N,E.zw o,O,λI H2 s R2=>(I,J,n,u,B,R2,(E.zw o).zw s,T,λπ3 H3 y v=>?_)));let i3:=(i1.zw s).zw y;cases i3 with
 |oe h t=>dsimp[bW,ě]at g;ext g;show F9 (_,_,?r,h.sq,λp A=>?_);let(z,w,q):=v.alloc (c:=.D (nB _ l u)) (o:=.D (pN _ l u)) A<|Ga t l u;show k _ _ _ (((o.u s).u y).u z) w lG|@lp i hi'=>
  dsimp[bW]at g;split at g
  .rename_i M hx;dsimp[ě]at g;ext g;let(vs,U,Y):=v.D i M hx;show F9 (_,_,?r,.of U,λp A=>?_);let(z,w,q):=v.alloc (c:=.D (nB M l u)) (o:=.D (pN vs l u)) A<|Ga Y l u;show k _ _ _ (((o.u s).u y).u z) w lG
  .ext g
 |f6 h t=>simp at g
 |_=>simp[bW]at g
end
def bM!:MS:=λd μ=>a7 ⟨.nx,d,μ⟩
def aL!(a b:MS):MS:=λd μ=>(a d μ).U λp=>match p.1 with|.nx=>b p.2.1 p.2.2|_=>a7 p
def aM!(m:ME):MS:=λd μ=>(m d μ).o λp=>⟨.rt p.1,d,p.2⟩
def dP!(m:ME):MS:=λd μ=>(m d μ).o λp=>⟨.nx,d,p.2⟩
def bB!(t:MT)(a b:MS):MS:=λd μ=>(t d μ).U λp=>match p.1 with|bt=>a d p.2|ai=>b d p.2
def dA!(i:am)(m:ME):MS:=λd μ=>(m d μ).o λp=>⟨.nx,d.xl i<|a7 p.1,p.2⟩
def b2H:ş X [] (Ŕ X.K bM):=F5 a9W<|by
 rintro E n H (i|q|p|o|j|h|R|d|g|k);ext g;show k i n H .ki R d
def b6o{cN:ab ff}(h1:PS X st (Ŕ X.K ms))(G:ş X cN (Ŕ X.K mr)):ş X (st::cN) (Ŕ X.K<|aL ms mr):=F5 (a9S h1 G)<|by
 rintro E N H (J|K|I|y|w|u|R|A|i|k);obtain((x|q|p)|h1|i):=ń.Z i;show(J,K,I,x,q,p,R,A,h1,?_);cases x with
 |nx=>
  intro v L M s B z;show(v,q,p,y,w,u,B,z,i,?_);cases y with
  |nx=>show λg h n o R2 j=>k g h n (s.u o) R2 j|bk=>show λg h n o R2 j=>k g h n (s.u o) R2 j|ct=>show λg h n o R2 j=>k g h n (s.u o) R2 j|rt d=>show KC.after k s
 |rt d=>ext i;show k|bk=>ext i;show k
 |ct=>ext i;show k
def b6m(h1:PS X st (Ŕ X.K ms)):ş X [st] (Ŕ X.K ms):=a9L h1
def b6l:PS X (.Pass ca) (Ŕ X.K bM):=lV a9G<|by
 rintro E n H (i|q|p|o|j|h|R|d|g|k);ext g;show k i n H .ki R d
def b6k(i:PE X e (tM X.K m)):PS X (.Return (a7 e) ca) (Ŕ X.K<|aM m):=lV (a9P i)<|by
 rintro E u H (o|p|j|s|q|n|R|h|d|k);show u5 d ?_;clear d;intro x g h1 d;ext d;show(o,p,j,x,g,R,h,h1,k)
def b6j(p:PE X e (tM X.K m))(q:dI e b0 ca.line X.M=ej ai:=by rfl):PS X (.Expr e ca) (Ŕ X.K<|dP m):=lV (a9R p q)<|by
 rintro E z H (v|w|s|A|y|u|R|i|d|k);show u5 d ?_;clear d;intro x g h1 d;ext d;show(v,w,s,x,g,R,i,h1,λh G n j o B=>k h z n j o<|i.zw j)
def b6g{mt:MT}(hc:PT X c (Œ X.K mt))(I:ş X gi (Ŕ X.K ms))(J:ş X orelse (Ŕ X.K mu)):PS X (.If c gi orelse ca) (Ŕ X.K<|bB mt ms mu):=lV (a7E hc I J)<|by
 rintro E M H (L|z|K|w|o|j|R|y|v|k);show bJ v ?_;clear v;intro x i h1 v;show(L,z,K,x,i,R,y,h1,λn G p A=>?_);let B:qZ X.K E n i.f G w o j:=by
  cases w with
  |nx=>show λg h s u R2 q=>k g h s (p.u u) R2 q|bk=>show λg h s u R2 q=>k g h s (p.u u) R2 q|ct=>show λg h s u R2 q=>k g h s (p.u u) R2 q|rt d=>show KC.after k p
 cases x with
 |bt=>show pP ?_;show(n,z,i,w,o,j,A,y.zw p,v,B)|ai=>
  show pO ?_;show(n,z,i,w,o,j,A,y.zw p,v,B)
def Gb(s:X.N.J)(hi:X.N[i]?=a7 x)(y:Loc X.M.xv x)(u:PE X e (tM X.K m))(w:dI e (a7<|.xk x d) ca.line X.M=ej ai:=by rfl)(v:X.fn x=b4\/X.M.xv.qf.B x=a7 .kg:=by first|show .Q ?r|show .X ?r|assumption):PS X (.Assign [.xk x d] e ca) (Ŕ X.K<|dA i m):=lV (h15 s hi y u w v)<|by
 rintro E M H (G|I|A|K|J|B|R|n|g|k);show u5 g ?_;clear g;intro x h h1 g;ext g;show(G,I,A,x,h,R,n,h1,λj L p o q z=>k j _ p o q<|(n.zw o).xl z i)
def yD!(n:am)(ds:ab D):aE:=ds.o a7++Ϯ (n-ds.f) b0
def Bz!(n:am)(m:MS):MF:=λds μ=>(m (yD n ds) μ).U λp=>match p.1 with|.rt d=>a7 ⟨d,p.2.2⟩|.nx=>a7 ⟨.kf,p.2.2⟩|_=>b0
def b6f(h:È K π n H vs ds)(k:vs.f<=N.f):En K π n H (_2.start N vs) (yD N.f ds):=by
 let a:=h.f;show(by simp[_2.start,yD,a],λi d e=>?_);unfold yD at e;ext _2.start;by_cases hi:i<ds.f
 .rw[ż<|by apply hi,ĉ]at e;show cI e ?_;clear e;intro j h1 b;ext b;let(v,c,g):=h.get h1;show(v,by rw[ż<|by rw[Ä,a];show hi,ĉ,c];rfl,g)
 .rw[gk<|by apply oh.Z hi]at e;have:=NF (n:=N.f-ds.f) (a:=(b0:af D)) (i:=i-(ds.o a7).f);rw[ah]at e;split at e<;>simp at e
def b6e(F:Ϧ K x a st f p)(S:ī N ps (dO st))(g:ps.f<=N.f)(c:∀b A ee s H E,Þ k (A.deeper<|U4 a (dO st) s.k.y.q f b)->
   ş (oC gR P w K mg fy N a (dO st) f b A ee s H E).nox (hW st) (Ŕ K m)):đ P w K mg fy gR (k+1) f p ps (gT K ps.f<|Bz N.f m):=by
 show F.ok S (λI H Q E h=>h.1) λb A ee s H I Q E B h=>(_,c b A ee s H E B,?_);let(G,M,ds,J,d,L,R,i,e,u):=h;obtain((q|o|j)|h1|e):=ń.Z e;show(M,_,J,q,o,j,R,b6f i<|by rw[G];show g,h1,?_);cases q with
 |rt U=>ext e;show u|nx=>ext e;show λn O v z y T=>u n .kf v z y .kf|bk=>ext e|ct=>ext e
open SeqAt (EqAt RcAt RcNeAt)
inductive KD where
 |g7|bl (b:av)|gv (i:ae)|gy (x:cf)|f6 (n:am)|hG (n:am)
inductive χ (s:Ø):ax->KD->Prop where
 |g7:χ s .qo .kf
 |bl (b:av):χ s (.kt b)<|.bl b
 |gv (i:ae)(t:cg):χ s (.p i t)<|.p i
 |gy (x:cf)(t:cg):χ s (.jv x t)<|.jv x
 |f6 {l:ar}{b5:gw}(h:s.k.ko l b5.E):χ s (.x l)<|.L b5.f
 |hG {l:ar}{b5:gw}(h:s.k.IsList l b5.E):χ s (.x l)<|.D b5.f
def yE!(e:am->av):KD->KD->av
 |.kf,.kf=>b4|.bl a,.bl b=>a==b|.bl a,.p b=>(if a then 1 else 0)==b|.p a,.bl b=>a==(if b then 1 else 0)|.p a,.p b=>a==b|.jv a,.jv b=>a==b|.L n,.L k=>(Ĉ<|mx n k).all e&&n==k|.D n,.D k=>(Ĉ<|mx n k).all e&&n==k|_,_=>b3
def yF!(A:ų)(s:Ø)(u v:ax)(e:am->av):Prop:=
 (∀l b c a,u=.x l->v=.x b->s.k.ko l c->s.k.ko b a->∀j (h1:j<c.q)(d:j<a.q),fh A.in1 s c[j] a[j] (e j)) /\
 (∀l b c a,u=.x l->v=.x b->s.k.IsList l c->s.k.IsList b a->∀j (h1:j<c.q)(d:j<a.q),fh A.in1 s c[j] a[j] (e j))
def Ge e(h:n=k):((Ĉ<|mx n k).all e&&n==k)=(Ĉ n).all e:=by subst h;simp
def Gf e(h:n≠k):((Ĉ<|mx n k).all e&&n==k)=ai:=by simp[h]
open _root_ in
def BA(h:χ s u k)(h':χ s v k')(c:A.qv<ă)(o:yF A s u v e):fo A s u v (yE e k k'):=by
 cases h with
 |g7=>
  cases h' with
  |g7=>show fo.none_none|bl b=>show fo.none_bool b|gv i t=>show fo.none_int i t|gy x t=>show fo.none_str x t|f6 h=>show fo.none_tuple h c|hG h=>show fo.none_list h c
 |bl a=>
  cases h' with
  |g7=>show fo.bool_none a|bl b=>show fo.bool_bool a b|gv i t=>show fo.bool_int a i t|gy x t=>show fo.bool_str a x t|f6 h=>show fo.bool_tuple a h c|hG h=>show fo.bool_list a h c
 |gv a j=>
  cases h' with
  |g7=>show fo.int_none a j|bl b=>show fo.int_bool a j b|gv i t=>show fo.int_int a j i t|gy x t=>show fo.int_str a j x t|f6 h=>show fo.int_tuple a j h c|hG h=>show fo.int_list a j h c
 |gy a j=>
  cases h' with
  |g7=>show fo.str_none a j|bl b=>show fo.str_bool a j b|gv i t=>show fo.str_int a j i t|gy x t=>show fo.str_str a j x t|f6 h=>show fo.str_tuple a j h c|hG h=>show fo.str_list a j h c
 |f6 g=>
  cases h' with
  |g7=>show fo.tuple_none g c|bl b=>show fo.tuple_bool b g c|gv i t=>show fo.tuple_int i t g c|gy x t=>show fo.tuple_str x t g c|f6 h=>have:=fo.tuples (e:=e) g h c<|o.1 _ _ _ _ ?r ?r g h;show ah|hG h=>show fo.tuple_list g h c
 |hG g=>
  cases h' with
  |g7=>show fo.list_none g c|bl b=>show fo.list_bool b g c|gv i t=>show fo.list_int i t g c|gy x t=>show fo.list_str x t g c|f6 h=>show fo.list_tuple g h c|@hG b d h=>
   rename_i l b5;by_cases n:b5.f=d.f
   .have:=fo.lists (e:=e) g h (by apply n) c<|o.2 _ _ _ _ ?r ?r g h;change fo A s _ _ ((Ĉ<|mx b5.f d.f).all e&&b5.f==d.f);rw[Ge e n];apply ah
   .have:=fo.lists_lengths g h (by apply n) c;change fo A s _ _ ((Ĉ<|mx b5.f d.f).all e&&b5.f==d.f);rw[Gf e n];show ah
open _root_ in
def b6d(h:χ s u k)(h':χ s v k')(c:A.qv<ă)(o:yF A s u v e):df A s u v (!yE e k k'):=by
 cases h with
 |g7=>
  cases h' with
  |g7=>show df.none_none|bl b=>show df.none_bool b|gv i t=>show df.none_int i t|gy x t=>show df.none_str x t|f6 h=>show df.none_tuple h c|hG h=>show df.none_list h c
 |bl a=>
  cases h' with
  |g7=>show df.bool_none a|bl b=>show df.bool_bool a b|gv i t=>show df.bool_int a i t|gy x t=>show df.bool_str a x t|f6 h=>show df.bool_tuple a h c|hG h=>show df.bool_list a h c
 |gv a j=>
  cases h' with
  |g7=>show df.int_none a j|bl b=>show df.int_bool a j b|gv i t=>show df.int_int a j i t|gy x t=>show df.int_str a j x t|f6 h=>show df.int_tuple a j h c|hG h=>show df.int_list a j h c
 |gy a j=>
  cases h' with
  |g7=>show df.str_none a j|bl b=>show df.str_bool a j b|gv i t=>show df.str_int a j i t|gy x t=>show df.str_str a j x t|f6 h=>show df.str_tuple a j h c|hG h=>show df.str_list a j h c
 |f6 g=>
  cases h' with
  |g7=>show df.tuple_none g c|bl b=>show df.tuple_bool b g c|gv i t=>show df.tuple_int i t g c|gy x t=>show df.tuple_str x t g c|f6 h=>have:=df.tuples (e:=e) g h c<|o.1 _ _ _ _ ?r ?r g h;show ah|hG h=>show df.tuple_list g h c
 |hG g=>
  cases h' with
  |g7=>show df.list_none g c|bl b=>show df.list_bool b g c|gv i t=>show df.list_int i t g c|gy x t=>show df.list_str x t g c|f6 h=>show df.list_tuple g h c|@hG b d h=>
   rename_i l b5;by_cases n:b5.f=d.f
   .have:=df.lists (e:=e) g h (by apply n) c<|o.2 _ _ _ _ ?r ?r g h;change df A s _ _ (!((Ĉ<|mx b5.f d.f).all e&&b5.f==d.f));rw[Ge e n];apply ah
   .have:=df.lists_lengths g h (by apply n) c;change df A s _ _ (!((Ĉ<|mx b5.f d.f).all e&&b5.f==d.f));rw[Gf e n];show ah
def b6c(h:χ s u k)(h':χ s v k')(c:A.qv<ă)(o:yF A s u v e)(n:∀l b,u=.x l->v=.x b->l≠b):fh A s u v (yE e k k'):=by
 cases h with
 |g7=>
  cases h' with
  |g7=>show fh.same _|bl b=>show fh.none_bool b|gv i t=>show fh.none_int i t|gy x t=>show fh.none_str x t|f6 h=>show fh.none_tuple h c|hG h=>show fh.none_list h c
 |bl a=>
  cases h' with
  |g7=>show fh.bool_none a|bl b=>show fh.bool_bool a b|gv i t=>show fh.bool_int a i t|gy x t=>show fh.bool_str a x t|f6 h=>show fh.bool_tuple a h c|hG h=>show fh.bool_list a h c
 |gv a d=>
  cases h' with
  |g7=>show fh.int_none a d|bl b=>show fh.int_bool a d b|gv i t=>show fh.int_int a d i t|gy x t=>show fh.int_str a d x t|f6 h=>show fh.int_tuple a d h c|hG h=>show fh.int_list a d h c
 |gy a d=>
  cases h' with
  |g7=>show fh.str_none a d|bl b=>show fh.str_bool a d b|gv i t=>show fh.str_int a d i t|gy x t=>show fh.str_str a d x t|f6 h=>show fh.str_tuple a d h c|hG h=>show fh.str_list a d h c
 |@f6 l b5 g=>
  cases h' with
  |g7=>show fh.tuple_none g c|bl b=>show fh.tuple_bool b g c|gv i t=>show fh.tuple_int i t g c|gy x t=>show fh.tuple_str x t g c|@f6 b j h=>show fh.of_refs (n l b ?r ?r) (BA (k:=.L b5.f) (k':=.L j.f) (.L g) (.L h) c o)|hG h=>show fh.tuple_list g h c
 |@hG l b5 g=>
  cases h' with
  |g7=>show fh.list_none g c|bl b=>show fh.list_bool b g c|gv i t=>show fh.list_int i t g c|gy x t=>show fh.list_str x t g c|f6 h=>show fh.list_tuple g h c|@hG b j h=>show fh.of_refs (n l b ?r ?r)<|BA (k:=.D b5.f) (k':=.D j.f) (.D g) (.D h) c o
inductive xu where
 |g7|bl (b:av)|gv (i:ae)|gy (x:cf)|f6 (xs:ab D)|hG (xs:ab D)
def kM!(μ:Hm):D->af xu
 |.kf=>a7 .kf|.bl b=>a7 (.bl b)|.p i=>a7 (.p i)|.jv x=>a7 (.jv x)|.L xs=>a7 (.L xs)|.rol xs=>a7 (.D xs)|.z a=>match μ[a]? with|bb (.D xs)=>a7 (.D xs)|_=>b0
 |.ty _=>b0
def lW!(f:D->D->af av):ab D->ab D->af av
 |x::xs,y::ys=>(f x y).U λb=>(lW f xs ys).o λc=>b&&c|[],[]=>a7 b4|_,_=>a7 b3
def vA!(f:D->D->af av):xu->xu->af av
 |.kf,.kf=>a7 b4|.bl a,.bl b=>a7 (a==b)|.bl a,.p b=>a7 ((if a then 1 else 0)==b)|.p a,.bl b=>a7 (a==(if b then 1 else 0))|.p a,.p b=>a7 (a==b)|.jv a,.jv b=>a7 (a==b)|.L xs,.L ys=>lW f xs ys|.D xs,.D ys=>lW f xs ys|_,_=>a7 b3
noncomputable abbrev BB(f:D->D->af av):D->D->af av:=f
def Gh(h:BB f x y=a7 b):f x y=a7 b\/(b=b4/\∃a,x=.z a/\y=.z a):=.Q h
def eX!:am->Hm->D->D->af av
 |0,_,_,_=>b0|n+1,μ,x,y=>(kM μ x).U λa=>(kM μ y).U λb=>vA (BB<|eX n μ) a b
noncomputable abbrev pR(n:am)(μ:Hm):D->D->af av:=BB<|eX n μ
def BC!:xu->KD
 |.kf=>.kf|.bl b=>.bl b|.p i=>.p i|.jv x=>.jv x|.L xs=>.L xs.f|.D xs=>.D xs.f
def sU!:xu->ab D
 |.L xs=>xs|.D xs=>xs|_=>[]
section
variable{X:Cx}{Do:jw}{σ:St}{H:Hp}{s:Ø}{π:Nat->Addr}{μ:Hm}
inductive ň (X:Cx)(π:am->ar)(n:am)(H:Hp)(s:Ø)(u:ax):xu->Prop where
 |g7 (h:u=.qo):ň X π n H s u .kf
 |bl (b:av)(h:u=.kt b):ň X π n H s u<|.bl b
 |gv (i:ae)(t:cg)(h:u=.p i t):ň X π n H s u<|.p i
 |gy (x:cf)(t:cg)(h:u=.jv x t):ň X π n H s u<|.jv x
 |f6 {xs:ab D}(p:ar)(vs:gz)(b5:gw)(h:u=.x p)(q:à X.K H p vs)(i:È X.K π n H vs xs)(r:Æ vs b5)(t:s.k.ko p b5.E):ň X π n H s u<|.L xs
 |hG {xs:ab D}(p:ar)(vs:gz)(b5:gw)(h:u=.x p)(q:Ā X.K H p vs)(i:È X.K π n H vs xs)(r:Æ vs b5)(t:s.k.IsList p b5.E):ň X π n H s u<|.D xs
open _root_ in
def sV(I:Â X Do σ H s)(R:Rp X.K π H μ)(h:Ù X.K π μ.f H v d)(r:Í v u)(e:kM μ d=a7 k):ň X π μ.f H s u k:=by
 cases h with
 |g7=>ext e;show .kf r|bl b=>ext e;show .bl b r|gv i=>ext e;let(t,q):=r;show .p i t q|gy x=>ext e;let(t,q):=r;show .jv x t q|ty x=>ext e|f6 q t=>ext e;let(b5,c,p,_):=I.kl q;show .L _ _ b5 r q t c p|oe q t=>ext e;let(b5,c,p,_):=I.vu q.sq;show .D _ _ b5 r q.sq t c p.xc|@lp a w=>
  dsimp[kM]at e;split at e
  .rename_i o j;ext e;let(n,h1,g):=R.D a o j;let q:Ā X.K H (π a) n:=.of h1;let(b5,c,p,_):=I.vu q;show .D _ _ b5 r q g c p.xc
  .ext e
def ň.isK(h:ň X π n H s u k):χ s u (BC k):=by
 cases h with
 |g7 h=>subst h;show .kf|bl b h=>subst h;show .bl b|gv i t h=>subst h;show .p i t|gy x t h=>subst h;show .jv x t|f6 p a b5 h q i r t=>subst h;have:b5.f=_:=r.f.R.u i.f;change χ s (.x p) (.L _);rw[<- ah];show .L t|hG p a b5 h q i r t=>subst h;have:b5.f=_:=r.f.R.u i.f;change χ s (.x p) (.D _);rw[<- ah];show .D t
def lH!(f:D->D->af av)(xs a:ab D)(j:am):av:=match xs[j]?,a[j]? with
 |bb x,a7 y=>(f x y).I b3|_,_=>b3
def BE:∀{xs a}{b},lW f xs a=a7 b->b=((Ĉ<|mx xs.f a.f).all (lH f xs a)&&xs.f==a.f)/\∀j x y,xs[j]?=a7 x->a[j]?=a7 y->f x y=a7 (lH f xs a j)
 |[],[],b,h=>by ext h;show(?r,λj x y e=>by simp at e)
 |x::xs,[],b,h=>by ext h;show(∅,λj x y z e=>by simp at e)
 |[],y::a,b,h=>by ext h;show(∅,λj x y e=>by simp at e)
 |x::xs,y::a,b,h=>by
  dsimp[lW]at h;show cC h ?_;clear h;intro c h1 k;show cI k ?_;clear k;intro d o p;let(q,u):=BE o;let h0:lH f (x::xs) (y::a) 0=c:=by simp[lH,h1]
  let n:∀j,lH f (x::xs) (y::a) (j+1)=lH f xs a j:=λj=>by simp[lH]
  show(?_,λj v w g i=>?_)
  .subst p;rw[q];dsimp[ĩ,am.add_min_add_right];rw[Qr,İ,Pl,h0];have:(lH f (x::xs) (y::a)∘am.succ)=lH f xs a:=m4 λj=>n j;rw[ah];simp[av.and_assoc]
  .cases j with
   |ij=>simp at g i;subst g;subst i;rw[h0,h1]|im j=>rw[n j];show u j v w (by apply g)<|by apply i
def Gi(h:vA f k k'=a7 b):b=yE (lH f (sU k)<|sU k') (BC k) (BC k'):=by
 ext k<;>ext k'<;>first
  |(have a:=Ĕ h;subst a;rfl)|(let(h1,_):=BE h;rw[h1];rfl)
def b6b(I:Â X Do σ H s)(R:Rp X.K π H μ):∀n{v}{u}{x y}{b},Í v u->Ù X.K π μ.f H v x->Ù X.K π μ.f H v y->eX n μ x y=a7 b->b=bt:=by
 intro n;induction n with
 |ij=>intro v u x y b _ _ _ h;ext h|im n ih=>
  intro v u x y b r hx hy h;show cC h ?_;clear h;intro k h1 h;show cC h ?_;clear h;intro k' h2 h;let a1:=sV I R hx r h1;let B:=sV I R hy r h2;let g:∀{vs:gz}{xs T:ab D}{c:av},(∀v∈vs,∃u,Í v u)->È X.K π μ.f H vs xs->È X.K π μ.f H vs T->lW (pR n μ) xs T=a7 c->c=bt:=by
   intro vs;induction vs with
   |fk=>intro xs T c _ Y A h;ext Y;ext A;ext h;rfl|bm w vs Z=>
    intro xs T c hr Y A h;cases Y with
    |bm p1 t1=>
     cases A with
     |bm L G=>dsimp[lW]at h;show cC h ?_;clear h;intro c1 h1 h3;show cI h3 ?_;clear h3;intro c2 h4 h5;let(Q,N):=hr w<|ŗ ..;let a:c1=bt:=(Gh h1).vl (ih N p1 L) (·.1);let o:=Z (λv K=>hr v<|ķ _ K) t1 G h4;subst a;subst o;show h5.R
  cases a1 with
  |g7 a=>
   subst a;cases B with
   |g7 _=>show(Ĕ h).R|bl _ e=>ext e|gv _ _ e=>ext e|gy _ _ e=>ext e|f6 _ _ _ e=>ext e|hG _ _ _ e=>ext e
  |bl c a=>
   subst a;cases B with
   |g7 e=>ext e|bl _ e=>ext e;show(Ĕ h).symm.trans (cp _)|gv _ _ e=>ext e|gy _ _ e=>ext e|f6 _ _ _ e=>ext e|hG _ _ _ e=>ext e
  |gv c t a=>
   subst a;cases B with
   |g7 e=>ext e|bl _ e=>ext e|gv _ _ e=>ext e;show(Ĕ h).symm.trans (cp _)|gy _ _ e=>ext e|f6 _ _ _ e=>ext e|hG _ _ _ e=>ext e
  |gy c t a=>
   subst a;cases B with
   |g7 e=>ext e|bl _ e=>ext e|gv _ _ e=>ext e|gy _ _ e=>ext e;show(Ĕ h).symm.trans (cp _)|f6 _ _ _ e=>ext e|hG _ _ _ e=>ext e
  |f6 p vs b5 a q i O t=>
   let z:ň X π μ.f H s (.x p) _:=a▸ň.L p vs b5 a q i O t;rw[a]at B;cases B with
   |g7 e=>ext e|bl _ e=>ext e|gv _ _ e=>ext e|gy _ _ e=>ext e|f6 L J d o M A E G=>
    ext o;have:=I.tuple_inj q M;subst ah;show g (λv K=>by
     let(j,U,?r):=TL K;let(Q,_,N):=O.get<|Ċ U;show(Q,N)) i A h
   |hG L J d o M A E G=>ext o;show cb ?r<|qx G t
  |hG p vs b5 a q i O t=>
   rw[a]at B;cases B with
   |g7 e=>ext e|bl _ e=>ext e|gv _ _ e=>ext e|gy _ _ e=>ext e|f6 L J d o M A E G=>ext o;show cb ?r (qx t G)|hG L J d o M A E G=>
    ext o;have:=I.list_inj q M;subst ah;show g (λv K=>by
     let(j,U,?r):=TL K;let(Q,_,N):=O.get<|Ċ U;show(Q,N)) i A h
def lX(A:ų):A.in1.qv=A.qv+1:=?r
def Gj(I:Â X Do σ H s)(ih:∀{A}{v v'}{u u'}{x y}{b},A.qv+n<ă->Í v u->Í v' u'->Ù X.K π μ.f H v x->Ù X.K π μ.f H v' y->eX n μ x y=a7 b->fh A s u u' b)(hu:A.qv+(n+1)<ă)(a1:ň X π μ.f H s u k)(a2:ň X π μ.f H s u' k')(h:vA (pR n μ) k k'=a7 b):yF A s u u' (lH (pR n μ) (sU k)<|sU k'):=by
 let J:∀{vs R:gz}{b5 lj:gw}{xs Y:ab D}{c:av},Æ vs b5->Æ R lj->È X.K π μ.f H vs xs->È X.K π μ.f H R Y->lW (pR n μ) xs Y=a7 c->
   ∀j (h1:j<b5.f)(U:j<lj.f),fh A.in1 s b5[j] lj[j] (lH (pR n μ) xs Y j):=by
  intro vs R b5 lj xs Y c r r' i i' e j h1 U;let l1:=r.f;let l2:=r'.f;let l3:=i.f;let l4:=i'.f;let hx:xs[j]?=a7 (xs[j]'()):=Ċ _;let hy:Y[j]?=a7 (Y[j]'()):=Ċ _;let(v,v1,v2):=i.get hx;let(v',v1',v2'):=i'.get hy;let(w,w1,w2):=r.get v1;let(w',w1',w2'):=r'.get v1';rw[Ċ h1]at w1;rw[Ċ U]at w1';ext w1;ext w1';let io:∀{x y:D}{b:av},Ù X.K π μ.f H v x->Ù X.K π μ.f H v' y->pR n μ x y=a7 b->fh A.in1 s b5[j] lj[j] b:=λ{x y b} i1 K hq=>by
   rcases Gh hq with hq|(rfl|a|rfl|rfl)
   .show ih (by rw[lX];lia) w2 w2' i1 K hq
   .ext i1;ext K;let z1:b5[j]=Ñ (π a):=w2;let z2:lj[j]=Ñ (π a):=w2';rw[z1,z2];show fh.same _
  show io v2 v2'<|(BE e).2 j _ _ hx hy
 constructor
 .intro l b' G B e1 e2 t1 t2 j h1 U;subst e1;subst e2;cases a1 with
  |f6 p vs b5 e q i r t=>
   ext e;cases a2 with
   |f6 p2 T E d q2 K Z Q=>
    ext d;let z1:G=b5.E:=by let(o,L,g2,n1,N):=t1;let(o',g,M,O,z):=t;rw[L]at g;ext g;rw[N]at z;injection z
    let z2:B=E.E:=by let(o,L,g2,n1,N):=t2;let(o',g,M,O,z):=Q;rw[L]at g;ext g;rw[N]at z;injection z
    subst z1;subst z2;have:=J r Z i K h j (by apply h1) (by apply U);simpa[sU]using ah
   |hG p2 T E d q2 K Z Q=>ext d;show cb ?r (qx Q t2)|g7 d=>ext d|bl _ d=>ext d|gv _ _ d=>ext d|gy _ _ d=>ext d
  |hG p vs b5 e q i r t=>ext e;show cb ?r (qx t t1)|g7 e=>ext e|bl _ e=>ext e|gv _ _ e=>ext e|gy _ _ e=>ext e
 .intro l b' G B e1 e2 t1 t2 j h1 U;subst e1;subst e2;cases a1 with
  |hG p vs b5 e q i r t=>
   ext e;cases a2 with
   |hG p2 T E d q2 K Z Q=>
    ext d;let z1:G=b5.E:=by let(o,L,g2,n1,N):=t1;let(o',g,M,O,z):=t;rw[L]at g;ext g;rw[N]at z;injection z
    let z2:B=E.E:=by let(o,L,g2,n1,N):=t2;let(o',g,M,O,z):=Q;rw[L]at g;ext g;rw[N]at z;injection z
    subst z1;subst z2;have:=J r Z i K h j (by apply h1) (by apply U);simpa[sU]using ah
   |f6 p2 T E d q2 K Z Q=>ext d;show cb ?r (qx t2 Q)|g7 d=>ext d|bl _ d=>ext d|gv _ _ d=>ext d|gy _ _ d=>ext d
  |f6 p vs b5 e q i r t=>ext e;show cb ?r (qx t1 t)|g7 e=>ext e|bl _ e=>ext e|gv _ _ e=>ext e|gy _ _ e=>ext e
def BF(I:Â X Do σ H s)(R:Rp X.K π H μ):∀n{A}{v c}{u a}{x y}{b},A.qv+n<ă->Í v u->Í c a->Ù X.K π μ.f H v x->Ù X.K π μ.f H c y->eX n μ x y=a7 b->fh A s u a b:=by
 intro n;induction n with
 |ij=>intro A v c u a x y b _ _ _ _ _ h;ext h|im n G=>
  intro A v c u a x y b E r o i j h;let h0:=h;show cC h ?_;clear h;intro k h1 h;show cC h ?_;clear h;intro K w h;let d:=sV I R i r h1;let e:=sV I R j o w;by_cases g:u=a
  .subst g;have:v=c:=r.inj o;subst ah;have:=b6b I R (n+1) r i j h0;subst ah;show fh.same _
  .let B:=Gj I G E d e h;rw[Gi h];show b6c d.isK e.isK () B λl J p q z=>g<|by rw[p,q,z]
def Gk(I:Â X Do σ H s)(R:Rp X.K π H μ)n(j:A.qv+n<ă)(r:Í v u)(q:Í g d)(o:Ù X.K π μ.f H v x)(p:Ù X.K π μ.f H g y)(h:eX n μ x y=a7 b):
  fo A s u d b/\df A s u d (!b):=by
 cases n with
 |ij=>ext h|im n=>show cC h ?_;clear h;intro k h1 h;show cC h ?_;clear h;intro w i h;let a:=sV I R o r h1;let c:=sV I R p q i;let e:=Gj I (A:=A) (BF I R n) j a c h;rw[Gi h];show(BA a.isK c.isK () e,b6d a.isK c.isK () e)
end
def oF!(g:ae->ae->af ae):D->D->Hm->jk
 |.p i,.p j,μ=>(g i j).o λz=>⟨.p z,μ⟩|_,_,_=>b0
open _root_ in
def Gm(h:oF g x y μ=a7 ⟨d,aw⟩):∃i j z,x=.p i/\y=.p j/\g i j=a7 z/\d=.p z/\aw=μ:=by
 unfold oF at h;split at h
 .rename_i i j;show cI h ?_;clear h;intro z h1 a;ext a;show(i,j,z,?r,?r,h1,?r,?r)
 .ext h
def yG{g':ae->ae->ae}(b:∀i j z,g i j=a7 z->a i j/\z=g' i j):eU K (oF g) (rI a λi j=>.p<|g' i j):=by intro p H u x y d o q s Q R h n e k;let(i,j,z,?r,?r,h1,?r,?r):=Gm e;ext h;ext n;let(c,?r):=b i j z h1;show(i,j,?r,?r,c,k p _ H .ki R<|.p _)
def b6Y{g':ae->ae->ae}:eU K (oF λi j=>a7<|g' i j) (kI λi j=>.p<|g' i j):=by intro g H o x y d e h n Q R b c a k;let(i,j,z,?r,?r,h1,?r,?r):=Gm a;ext b;ext c;ext h1;show(i,j,?r,?r,k g _ H .ki R<|.p _)
def dQ!:=oF λi j=>a7<|i-j
def Gn!:=oF λi j=>if((-(2^64)<i/\i<2^64)\/(-(2^64)<j/\j<2^64))\/(i.natAbs<2^4000/\j.natAbs<2^4000)\/Ž i+Ž j<=134217728 then a7 (i*j)else b0
def cE!:D->D->Hm->jk
 |x,y,μ=>Gn x y μ
def eV!:=oF λi j=>if 0<j/\j<2^4000 then a7 (i/j)else b0
def bP!:=oF λi j=>if 0<j then a7 (i%j)else b0
def oG!:=oF λi j=>if(0<=j/\j<=1000000/\i.natAbs<2^64)\/(0<=j/\j<=100/\i.natAbs<2^4000)then a7 (i^j.zi)else b0
def Ν!(i j:ae):Prop:=rn i j\/(i.natAbs<2^4000/\j.natAbs<2^4000)\/Ž i+Ž j<=134217728
def Gp!(i j:ae):Prop:=0<j/\j<2^4000
def Gq!(i j:ae):Prop:=b1D i j\/(0<=j/\j<=100/\i.natAbs<2^4000)
open _root_ in
def BG(h:i.natAbs<2^4000):Ž i<=4000:=by
 ext Ž;lk
 .show Ŝ _
 .rename_i a;let h0:i.natAbs≠0:=by intro z;show a<|by apply z
  have:=(RU h0).v h;lia
def Ν.ok(h:Ν i j):NW i j:=by
 rcases h with h|(h1|b)|h
 .show h.ok
 rotate_left
 .let a:OV (Ž i+Ž j)=ai:=by
   ext OV;rw[ba];have:bitsLine=134217728:=⋯
   lia
  ext NW;rw[a];simp
 .let c:=BG h1;let d:=BG b;let a:OV (Ž i+Ž j)=ai:=by
   ext OV;rw[ba];have:(8000:ae)<=bitsLine:=⋯
   lia
  ext NW;rw[a];simp
def b6V:Ē X (ι .Mult) (rI Ν λi j=>.p<|i*j):=xT λ_ x x x x x x hc q=>b7w q hc.ok
def b6T:Ē X (ι .FloorDiv) (rI Gp λi j=>.p<|i/j):=xT λi j x x x x x hc q=>by
 let h1:(0:ae)<j:=hc.1;let b:j<2^4000:=hc.2;let h0:j.natAbs≠0:=()
 let a:j.natAbs<2^4000:=by
  have:((2^4000:am):ae)=2^4000:=⋯
  lia
 let c:=(RU h0).v a;show b7y () (by rw[ae.fdiv_eq_ediv_of_nonneg i ()];show q)<|.Q<|PyProof.noPylong_of_log2 ()
def b6R:Ē X (ι .Pow) (rI Gq λi j=>.p<|i^j.zi):=xT λi j x x x x x hc q=>by
 rcases hc with hc|(h1|a|c)
 .show b7t hc.1 hc.2.1 hc.2.2 q
 .let b:=BG c;show b7u h1 ?_ q;have:(Ž i:ae)*j<=4000*100:=RV () a h1 ();lia
def yH[Decidable c]{a:ae}(h:(if c then a7 a else b0)=a7 z):c/\z=a:=by
 split at h
 .ext h;show(by assumption,?r)
 .ext h
def b6Q:eU K dQ (kI λi j=>.p<|i-j):=b6Y
def b6P:eU K Gn (rI Ν λi j=>.p<|i*j):=yG λi j z h=>by have:=yH h;show ah
def b6O:eU K cE (rI Ν λi j=>.p<|i*j):=b6P
def b6M:eU K eV (rI Gp λi j=>.p<|i/j):=yG λi j z h=>by have:=yH h;show ah
def WbI:eU K bP (rI (λ_ j=>0<j) λi j=>.p<|i%j):=yG λ_ x x h=>yH h
def FoI:eU K oG (rI Gq λi j=>.p<|i^j.zi):=yG λi j z h=>by have:=yH h;show ah
def BH!:D->af D
 |.p i=>a7 (.p<|-i)|_=>b0
def bS!:D->D->Hm->jk
 |.p i,.p j,μ=>a7 ⟨.p<|i+j,μ⟩|.jv x,.jv y,μ=>if x.f+y.f<=Ò then a7 ⟨.jv<|x++y,μ⟩else b0|.z a,.z b,μ=>match μ[a]?,μ[b]? with
  |bb<|.D xs,a7 (.D ys)=>if xs.f+ys.f<=Ò then a7 ⟨.z μ.f,μ++[.D<|xs++ys]⟩else b0|_,_=>b0
 |.L xs,.L ys,μ=>if xs≠[]/\ys≠[]/\xs.f+ys.f<=Ò then a7 ⟨.L<|xs++ys,μ⟩else b0|_,_,_=>b0
def BI!(K:Ï):R2:=λx y H Q=>kI (λi j=>.p<|i+j) x y H Q\/(∃i j,x=.jv i/\y=.jv j/\i.f+j.f<=Ò/\Q (.jv<|i++j) H)\/FU x y H Q
def bx:Ē X (ι .Add) (BI X.K):=mU.or<|η.or b5k
def BJ!(K:Ï):R2:=λx y H Q=>BI K x y H Q\/FE K x y H Q
def h16:Ē X (ι .Add) (BJ X.K):=bx.or b4l
def BK(h:BI K x y H Q):BJ K x y H Q:=.Q h
open _root_ in
def h12:eU K bS (BJ K):=by
 intro u H M x y d I J L Q R j n a k;unfold bS at a;split at a
 .ext a;ext j;ext n;show BK<|.Q (_,_,?r,?r,k u _ H .ki R<|.p _)
 .split at a
  .rename_i o;ext a;ext j;ext n;show BK<|.X<|.Q (_,_,?r,?r,o,k u _ H .ki R<|.jv _)
  .ext a
 .split at a
  .rename_i A B G c;split at a
   .rename_i o;ext a;ext j;ext n;let(w,h1,g):=R.D _ A G;let(z,E,v):=R.D _ B c;show BK (.X<|.X (_,_,w,z,?r,?r,by first|show h1|show .Q<|.Q h1,E,by rw[g.f,v.f];show o,λp s=>?_));let(b,R2,q):=R.alloc (c:=.D (A++B)) (o:=.D (w++z)) s<|g.append v;show k _ _ _ b R2 lG
   .ext a
  .ext a
 .split at a
  .rename_i c;ext a;cases j with
   |f6 h1 h=>
    cases n with
    |f6 g i=>show .X (_,_,_,_,?r,?r,h1,g,λe=>c.1<|by rw[e]at h;ext h;rfl,by rw[h.f,i.f];show c.2.2,λe=>cb (by rw[e]at i;ext i;rfl) c.2.1,λ_ p s=>?_);let(b,R2):=R.xo (o:=.L _) s;show k u _ _ b R2<|.L (.of dH)<|(h.zw b).append<|i.zw b
  .ext a
 .ext a
def iV!(p:ae->ae->av):D->D->Hm->jk
 |.p i,.p j,μ=>a7 ⟨.bl<|p i j,μ⟩|_,_,_=>b0
def lI:eU K (iV p) (kI λi j=>.bl<|p i j):=by
 intro g H o x y d e h n Q R b c a k;unfold iV at a;split at a
 .ext a;ext b;ext c;show(_,_,?r,?r,k g _ H .ki R<|.bl _)
 .ext a
def nC!:=iV λi j=>ag<|i<j
def sW!:=iV λi j=>ag<|i<=j
def nD!:=iV λi j=>ag<|j<i
def vB!:=iV λi j=>ag<|j<=i
def BL!(K:Ï)(ne:av):R2:=λx y H Q=>∃π μ a c b,Rp K π H μ/\Ù K π μ.f H x a/\Ù K π μ.f H y c/\eX 8 μ a c=a7 b/\Q (.bl<|if ne then !b else b) H
def Gs(c:X.A.qv+8<ă):Ē X (Ķ .Eq) (BL X.K b3):=by intro a s w H x y v u Q I i j h;let(p,o,k,n,b,R,d,g,e,q):=h;show(Gk I R 8 c i j d g e).1 _ _ _ _ (.bl b,H,I,?r,q)
def Gu(c:X.A.qv+8<ă):Ē X (Ķ .NotEq) (BL X.K b4):=by intro a s w H x y v u Q I i j h;let(p,o,k,n,b,R,d,g,e,q):=h;show(Gk I R 8 c i j d g e).2 _ _ _ _ (.bl<|!b,H,I,?r,q)
def aV!(ne:av):D->D->Hm->jk:=λx y μ=>(eX 8 μ x y).o λb=>⟨.bl<|if ne then !b else b,μ⟩
def yI:eU K (aV ne) (BL K ne):=by intro c H i x y d j n o Q R g h a k;show cI a ?_;clear a;intro b h1 e;ext e;show(c,i,x,y,b,R,g,h,h1,k c _ H .ki R<|.bl _)
def BM!:D->D->Hm->jk
 |.jv i,.jv j,μ=>a7 ⟨.bl<|!(lg j i 0 j.f 1).qk,μ⟩|_,_,_=>b0
def Gv:eU K BM (λx y H Q=>∃i j,x=.jv i/\y=.jv j/\Q (.bl<|!(lg j i 0 j.f 1).qk) H):=by
 intro g H o x y d e h n Q R b c a k;unfold BM at a;split at a
 .ext a;ext b;ext c;show(_,_,?r,?r,k g _ H .ki R<|.bl _)
 .ext a
def yJ(r:Þ k A):A.qv+8<ă:=by have:=r.un;lia
def dMT(u:PE X a (tM X.K ma)):PE X (.UnaryOp .USub a ca) (tM X.K λh μ=>(ma h μ).U λp=>(BH p.1).o λd=>⟨d,p.2⟩):=eL (b1E b0t u)<|by
 rintro G H Q (A|h|μ|d|w|R|E|e|k);show bJ e ?_;clear e;intro x z h1 e;show cI e ?_;clear e;intro y j s;ext s;cases x with
 |gv i=>ext j;show(A,h,μ,_,_,R,E,h1,λg B n q o v=>?_);ext v;show(_,?r,k g _ n q o<|.p _)
 |_=>ext j
def b7q(d:Gl X x)(e:X.mg x=b0)(h:ξ x=a7 (.O n))(g:x ≠ "__name__":=by decide)(hd:(x==("__debug__":cf))=ai:=by decide):PE X (.xk x ca) (tM X.K<|mC<|.ty n):=
 sS (a7A (v:=.ty n) d e h ?r g hd) λ_ y y=>.ty n
def yK!(μ:Hm):D->af cq
 |.kf=>a7 "NoneType"|.bl _=>a7 "bool"|.p _=>a7 "int"|.jv _=>a7 "str"|.L _=>a7 "tuple"|.rol _=>a7 "list"|.z a=>match μ[a]? with
  |bb (.D _)=>a7 "list"|bb (.dK _)=>a7 "dict"|bb (.dT _)=>a7 "dict"|_=>b0
 |.ty _=>b0
def yL!(t c:cq):af av:=match c with
 | "int"=>a7 (t=="int" || t=="bool")| "bool"=>a7 (t=="bool")| "str"=>a7 (t=="str")| "list"=>a7 (t=="list")| "tuple"=>a7 (t=="tuple")| "dict"=>a7 (t=="dict")|_=>b0
def lY!:MF:=λds μ=>match ds with
 |[x,.ty c]=>(yK μ x).U λt=>(yL t c).o λb=>⟨.bl b,μ⟩|_=>b0
def oH K(d:t = "NoneType"\/t = "bool"\/t = "int"\/t = "str"\/t = "tuple"\/t = "list"\/t = "dict")(h:yL t c=a7 b):SQ K (.O t) (.O c)=a7 b:=by
 unfold yL at h
 split at h<;>first
  | cases h;done
  | (have a:=Ĕ h;subst a
     rcases d with rfl|rfl|rfl|rfl|rfl|rfl|rfl<;>first|rfl|decide +de|(ext SQ;simp;rfl))
end _3
namespace _3
open PySem _2
noncomputable abbrev MG:=D->aE->Hm->af aE
inductive Ξ (K:Ï)(g:MG)(v:V)(σ:St)(H:Hp)(Q:St->Hp->Prop):Prop
 |mk (π:am->ar)(ρ:aE)(μ:Hm)(d:D)(ρ':aE)(R:Rp K π H μ)(E:En K π μ.f H σ ρ)(i:Ù K π μ.f H v d)(hm:g d ρ μ=a7 ρ')(k:∀oa,En K π μ.f H oa ρ'->Q oa H):Ξ K g v σ H Q
def dE!(i:am):MG:=λd a x=>a7<|a.xl i<|a7 d
def Gw(b:X.N.J)(hi:X.N[i]?=a7 x)(g:Loc X.M.xv x)(c:X.fn x=b4\/X.M.xv.qf.B x=a7 .kg:=by first|show .Q ?r|show .X ?r|assumption):PG X (.xk x ca) (Ξ X.K<|dE i):=by intro a s n H v u Q I r h;let(p,q,o,d,j,R,E,hd,e,k):=h;ext e;show E6 b hi g c a s n H v u Q I r<|k _<|E.xl hd i
def b7p!(K:Ï)(c:TE):TI:=λσ H R=>c σ H λx b=>∃a,x=.x a/\(((∃xs,Ā K b a xs)/\R (Bc K a) b)\/((∃xs,à K b a xs)/\R (Bd K a) b))
def b7o(u:PE X l n):PI X tg l (b7p X.K n):=by
 intro g s E H R I h;show aR (u g s E H _ I h) λv c (x,k,d,z,y)=>?_;let(a,e,q):=y;subst e;ext z;rcases q with((B|j)|q)|((B|j)|q)
 .let(b5,A,p,w):=d.vu j;show ww p.xc ?_;show(c.k.y.q,[c.k.y.q],_,_,k,?r,d.vx (t':=c.xh) λb o e=>ä _ e,b7g a _,(_,ÿ _ ?r,?r,?r),λb i=>?_,q);let e:b=c.k.y.q:=by apply i
  subst e;show d.fpOk (Ô _)<|d.vr.xo<|Ô _
 .let(b5,A,p,w):=d.kl j;show b7 (show c.k.ko a b5.E from p) ?_;show(c.k.y.q,[c.k.y.q],_,_,k,?r,d.vx (t':=c.xh) λb o e=>ä _ e,b7Y a _,(_,ÿ _ ?r,?r,?r),λb i=>?_,q);let e:b=c.k.y.q:=by apply i
  subst e;show d.fpOk (Ô _)<|d.vr.xo<|Ô _
structure Wk(K:Ï)(J:It)(src:Hm->am->af (af D))(π:am->ar)(n:am)(H:Hp):Prop where
 stop:∀gu μ H' i,ö π n H gu μ.f H'->Rp K gu H' μ->src μ i=a7 b0->J.stop i H'
 go:∀gu μ H' i d,ö π n H gu μ.f H'->Rp K gu H' μ->src μ i=a7 (a7 d)->J.go i H'/\∀x H2,J.yld i H' x H2->ö gu μ.f H' gu μ.f H2/\Rp K gu H2 μ/\Ù K gu μ.f H2 x d
def oI!(x:D):Hm->am->af (af D):=λμ i=>(bW μ x).o λxs=>xs[i]?
open _root_ in
def b7n(R:Rp K π H μ)(h:Ù K π μ.f H v x)(E:bW μ x=a7 xs):
  ∃a,v=.x a/\(((∃b,Ā K H a b)/\Wk K (Bc K a) (oI x) π μ.f H)\/((∃b,à K H a b)/\Wk K (Bd K a) (oI x) π μ.f H)):=by
 cases h with
 |@f6 p b ds q t=>
  show(p,?r,.X ((b,q),(λj g s i e k z=>?_,λj g s i d e k z=>?_)))
  .dsimp[oI,bW,ĝ]at z;let c:ds[i]?=bp:=Ĕ z;show(b,e.sqT q,by rw[t.f];show Κ.Z c)
  .dsimp[oI,bW,ĝ]at z;let c:ds[i]?=a7 d:=Ĕ z;let(w,h1,n):=t.get c;show((b,w,e.sqT q,h1),λy J (u,A)=>?_);subst u;have:=A b<|e.sqT q;rw[h1]at ah;ext ah;show(.ki,k,n.zw e)
 |@oe p b ds q t=>
  show(p,?r,.Q ((b,q.sq),(λj g s i e k z=>?_,λj g s i d e k z=>?_)))
  .dsimp[oI,bW,ĝ]at z;let c:ds[i]?=bp:=Ĕ z;show(b,(e.roL q).sq,by rw[t.f];show Κ.Z c)
  .dsimp[oI,bW,ĝ]at z;let c:ds[i]?=a7 d:=Ĕ z;let(w,h1,n):=t.get c;show((b,w,(e.roL q).sq,h1),λy J (u,A)=>?_);subst u;have:=A b (e.roL q).sq;rw[h1]at ah;ext ah;show(.ki,k,n.zw e)
 |@lp a M=>
  let hc:∃b,H (π a)=a7 (.D b):=by
   dsimp[bW]at E;split at E
   .rename_i o B;let(b,h1,_):=R.D a o B;show(b,h1)
   .ext E
  let(I,G):=hc;show(π a,?r,.Q ((I,.of G),(λj g s i e k z=>?_,λj g s i d e k z=>?_)))
  .dsimp[oI,bW]at z;split at z
   .rename_i o B;let(b,h1,n):=k.D a o B;rw[e.pi a M]at h1;let c:o[i]?=bp:=Ĕ z;show(b,.of h1,by rw[n.f];show Κ.Z c)
   .ext z
  .dsimp[oI,bW]at z;split at z
   .rename_i o B;let(b,h1,n):=k.D a o B;rw[e.pi a M]at h1;let c:o[i]?=a7 d:=Ĕ z;let(w,L,N):=n.get c;show((b,w,.of h1,L),λy J (u,A)=>?_);subst u;have:=A b<|.of h1;rw[L]at ah;ext ah;show(.ki,k,N)
   .ext z
 |_=>ext E
def fQ!(a:Hm->am->af (af D))(g:MG)(b:MS):am->am->MS
 |0,_,_,_=>b0|n+1,i,ρ,μ=>(a μ i).U λo=>match o with
  |bp=>a7 ⟨.nx,ρ,μ⟩|bb d=>(g d ρ μ).U λc=>(b c μ).U λp=>match p.1 with
   |.nx=>fQ a g b n (i+1) p.2.1 p.2.2|.ct=>fQ a g b n (i+1) p.2.1 p.2.2|.bk=>a7 ⟨.nx,p.2.1,p.2.2⟩|.rt d=>a7 ⟨.rt d,p.2.1,p.2.2⟩
def b7j(W:Wk K J B π Q O)(hE:qZ K E π Q O A p aw)(e1:ö π Q O G ic.f H1)(R1:Rp K G H1 ic)(E1:En K G ic.f H1 σ1 T)(h:fQ B g b n 0 T ic=a7 ⟨A,p,aw⟩):
  ∃Wd:am->am->St->Hp->Prop,(∃m,Wd 0 m σ1 H1)/\∀i m X H,Wd i m X H->
   (J.stop i H/\E.nx X H)\/(J.go i H/\∃N,(∀w u,N w u->∃m',m'<m/\Wd (i+1) m' w u)/\∀x u,J.yld i H x u->Ξ K g x X u λσ2 H2=>Ŕ K b {E with nx:=N,ct:=N,bk:=E.nx} σ2 H2):=by
 let lift:∀{a:am->ar}{n2:am}{H2:Hp}(e:ö π Q O a n2 H2){A:Fl}{p:aE}{aw:Hm},qZ K E π Q O A p aw->qZ K E a n2 H2 A p aw:=λ{a n2 H2} e {A p aw} k=>by
  cases A with
  |nx=>show λv s H3 e3 R3 M=>k v s H3 (e.u e3) R3 M|bk=>show λv s H3 e3 R3 M=>k v s H3 (e.u e3) R3 M|ct=>show λv s H3 e3 R3 M=>k v s H3 (e.u e3) R3 M|rt d=>show KC.after k e
 show(λi m X H=>∃a j I,ö π Q O a j.f H/\Rp K a H j/\En K a j.f H X I/\fQ B g b m i I j=a7 ⟨A,p,aw⟩,(n,G,ic,T,e1,R1,E1,h),?_);rintro i m X H (a|j|I|z|R2|E2|h2);cases m with
 |ij=>ext h2|im m=>
  show cC h2 ?_;clear h2;intro o h3 h4;cases o with
  |bp=>ext h4;show .Q (W.stop a _ H i z R2 h3,hE a X H z R2 E2)|bb d=>
   let(g1,g2):=W.go a j H i d z R2 h3;show cC h4 ?_;clear h4;intro ρ3 h5 h6;obtain((f4|U|R)|h7|h8):=ń.Z h6;show .X (g1,λw u=>∃c L q,ö π Q O c q.f u/\Rp K c u q/\En K c q.f u w L/\fQ B g b m (i+1) L q=a7 ⟨A,p,aw⟩,
    λw u (c,L,q,a1,a2,a3,a4)=>(m,ς _,c,q,L,a1,a2,a3,a4),λx u y=>?_)
   let(ex,Rx,hx):=g2 x u y;let z:=z.u ex;show(a,I,j,d,ρ3,Rx,E2.zw ex,hx,h5,λs M=>(a,ρ3,j,f4,U,R,Rx,M,h7,?_));cases f4 with
   |nx=>show λc Y H5 e5 R5 Z=>(c,U,R,z.u e5,R5,Z,h8)|ct=>show λc Y H5 e5 R5 Z=>(c,U,R,z.u e5,R5,Z,h8)|bk=>ext h8;show λc Y H5 e5 R5 Z=>hE c Y H5 (z.u e5) R5 Z|rt d'=>ext h8;show KC.after hE z
def kN!(lo:ae)(n:am):Hm->am->af (af D):=λ_ i=>a7<|if i<n then a7 (.p<|lo+i)else b0
open _root_ in
def Gx:Wk K (pL lo k) (kN lo k) π n H:=by
 show(λb p c i e R z=>?_,λb p c i d e R z=>?_)
 .let a:=Ĕ z;split at a
  .ext a
  .show oh.Z<|by assumption
 .let a:=Ĕ z;split at a
  .ext a;rename_i h;show(h,λx q (j,o)=>by subst j;rw[o];show(.ki,R,.p _))
  .ext a
def sX!(y:cf):cf:="#"++y
def cD!(xs N:ab cf):ab cf:=N.o λy=>if xs.zo y then sX y else y
def rA xs N:(cD xs N).f=N.f:=by ext cD;simp
def b7i{i:am}(h:(cD xs N)[i]?=a7 y):∃a,N[i]?=a7 a/\((xs.zo a=b4/\y=sX a)\/(xs.zo a=b3/\y=a)):=by
 unfold cD at h;rw[ĉ]at h;show cI h ?_;clear h;intro a h1 b;show(a,h1,?_);cases hc:xs.zo a with
 |bt=>rw[hc]at b;show .Q (?r,by apply b.R)|ai=>rw[hc]at b;show .X (?r,by apply b.R)
def dZ!(X:Cx)(ap:θ)(cl:ab (cf×ar))(C:ar)(N:ab cf)(fi:Ø)(fq:Hp)(a:ab ar):Cx:=
 {X with N:=N,fi:=fi,fq:=fq,eA:=Gg ap cl C X.M,ee:=X.stack,stack:=X.stack,ex:=a,fn:=λ_=>b3,pn:=[],xe:=λ_ x=>ef}
def Gy{eA:ό}:∀(gS:ab (cf×J0))x,(gS.o λ⟨n,k⟩=>if(k==bc&&eA.xv.kind==.kv&&eA.kn n==a7 .kz)then⟨n,dg⟩else⟨n,k⟩).B x
  = (gS.B x).o λk=>if(k==bc&&eA.xv.kind==.kv&&eA.kn x==a7 .kz)then dg else k
 |[],_=>?r|⟨n,k⟩::r,x=>by
  let c:=Gy (eA:=eA) r x;rw[í];by_cases b:x=n
  .subst b;let io:∀(k':J0)(l:ab (cf×J0)),Τ x (⟨x,k'⟩::l)=a7 k':=λk' l=>by simp[vf]
   rw[io];change Τ x ((if(k==bc&&eA.xv.kind==.kv&&eA.kn x==a7 .kz)=b4 then⟨x,dg⟩else⟨x,k⟩)::_)=a7 (if(k==bc&&eA.xv.kind==.kv&&eA.kn x==a7 .kz)=b4 then dg else k);lk
   .rw[io]
   .rw[io]
  .let a:(x==n)=ai:=by apply b
   let io:∀(k':J0)(l:ab (cf×J0)),Τ x (⟨n,k'⟩::l)=Τ x l:=λk' l=>by dsimp[vf,a]
   rw[io];change Τ x ((if(k==bc&&eA.xv.kind==.kv&&eA.kn n==a7 .kz)=b4 then⟨n,dg⟩else⟨n,k⟩)::_)=_;lk
   .rw[io];show c
   .rw[io];show c
structure Ą(X:Cx)(ap:θ)(cl:ab (cf×ar))(xs:ab cf):Prop where
 clos:P1 ap X.M=ej cl
 nocell:∀y∈ap.qf,y.2≠.kz
 kind:ap.kind=.kv
 gS:∀y∈ap.qf,y.2=.kg->ap.qf.B y.1=a7 .kg
 here:∀x∈xs,ap.qf.B x=a7 .kg
 sub:∀y c,cl.B y=a7 c->X.M.cells.B y=a7 c
 lx:∀y,ap.qf.B y=a7 .kr->(X.M.kn y=a7 .kz\/X.M.kn y=a7 .kr)/\∃c,cl.B y=a7 c
 own:∀y,ap.qf.B y=a7 .kg->y∉cD xs X.N
 hidn:∀y∈X.N,xs.zo y=b4->ap.qf.B (sX y)=b0
def Ą.kindOf(O:Ą X ap cl xs)C y:(Gg ap cl C X.M).kn y=(ap.qf.B y).o λk=>if(k==bc&&X.M.xv.kind==.kv&&X.M.kn y==a7 .kz)then dg else k:=
 Gy ap.qf y
def Ą.outer(O:Ą X ap cl xs){C:ar}(h:(Gg ap cl C X.M).kn y=a7 .kz\/(Gg ap cl C X.M).kn y=a7 .kr):ap.qf.B y=a7 .kr:=by
 rw[O.kn]at h;cases q:ap.qf.B y with
 |bp=>rw[q]at h;rcases h with h|h<;>ext h
 |bb k=>
  rw[q]at h;cases k with
  |lx=>rfl|cell=>show cb ?r (O.nocell _<|R8 q)| «local»=>rcases h with h|h<;>simp at h
  |globalExplicit=>rcases h with h|h<;>simp at h
  |globalImplicit=>rcases h with h|h<;>simp at h
def Ą.inv{σ:St}(O:Ą X ap cl xs)(I:Â X Do σ H s)(B:∀b∈T,jQ X Do H b)(hob:∀b∈T,∃o,s.k.G b=a7 o)(hns:d.Ns s.k.y.q m)(L:∀b o,s.k.G b=a7 o->d.G b=a7 o):
  Â (dZ X ap cl s.k.y.q (cD xs X.N++xs) s H T) [] (σ++Ϯ xs.f b0) H {s with ce:=d,dL:=tk}:=by
 show((I.ok.mod,O.kind,I.ok.glob,I.ok.blt,Ô _,λy z c h1 A=>?_,λy hy=>?_,(λy c h=>by ext h),I.ok.hd,I.ok.frames,.Q ?r,λb G=>?_,λb o e=>I.bs b o e,ĥ I.ok.bsz I.sz,λb o e G=>?_,λb G Y=>?_,I.stack,I.stkFree),
  ?r,I.bare,Un.vx L,(m,hns,λi y v h1 A w=>?_),λy c h=>?_,I.vr.xo<|Ô _,λy c h=>I.freeC y c<|O.sub y c h,λp hp=>cb (show p∈([]:jw)from hp) ∅,I.vr.vx L,?_)
 .show I.ok.inj y z c (O.sub y c h1)<|O.sub z c A
 .show(O.kr y<|O.outer hy).2
 .let(f0,N,Q,x,R,f5):=B b G;let(o,K):=hob b G;show(ý<|Ý K,λy c h=>R y c<|O.sub y c h)
 .let(f0,N,Q,x,R,f5):=B b G;rcases x with x|x
  .show I.ok.noex b o e x
  .show cb (Ŏ (Ý (I.ok.bs b o e).1) x)<|Ϝ _
 .let(f0,N,Q,x,R,f5):=B b G;rcases ē.Z (I.stkSub b Y)with z|z
  .show N z
  .show Q z
 .let hi:i<σ.f:=by
   by_cases hi:i<σ.f
   .show hi
   .rw[gk<|oh.Z hi,NF]at A;split at A<;>ext A
  rw[ż hi]at A;let J:(cD xs X.N)[i]?=a7 y:=by let n:(cD xs X.N++xs)[i]?=a7 y:=h1;rw[ż<|by rw[rA,<- I.len];show hi]at n;show n
  let j:ap.qf.B y≠a7 .kg:=λz=>O.own y z<|œ J;let E:=O.kn s.k.y.q y;let U:X.N[i]?=a7 y:=by
   let(y0,q1,M):=b7i J;rcases M with(M|q3)|(M|q3)
   .exfalso;let hz:=O.hidn y0 (œ q1) M;rw[<- q3]at hz;rw[hz]at E;let a:(Gg ap cl s.k.y.q X.M).kn y=a7 .kg\/(Gg ap cl s.k.y.q X.M).kn y=a7 .kz\/(Gg ap cl s.k.y.q X.M).kn y=a7 .kr:=w;rw[E]at a;rcases a with a|a|a<;>ext a
   .rw[q3];show q1
  let a:(Gg ap cl s.k.y.q X.M).kn y=a7 .kz\/(Gg ap cl s.k.y.q X.M).kn y=a7 .kr:=by
   rcases w with w|w|w
   .exfalso;let a:(Gg ap cl s.k.y.q X.M).kn y=a7 .kg:=w;rw[E]at a;cases q:ap.qf.B y with
    |bp=>rw[q]at a;ext a|bb k=>
     rw[q]at a;cases k with
     | «local»=>show j q|cell=>simp at a|lx=>dsimp[ĝ]at a;split at a<;>ext a|globalExplicit=>simp at a|globalImplicit=>simp at a
   .show .Q w
   .show .X w
  let(g,c,hc):=O.kr y<|O.outer a;let(m0,hn0,Z):=I.z;let(u,r,l):=Z i y v U A (by rcases g with g|g;show .X<|.Q g;show .X<|.X g);show(u,r,.X (a,c,hc,?_));rcases l with(lk|_)|(_|c'|e'|z)
  .exfalso;rcases g with g|g
   .rw[g]at lk;ext lk
   .rw[g]at lk;ext lk
  .rw[O.sub y c hc]at e';ext e';let(o,K,hd):=z;show(o,L c o K,hd)
 .let(v,q):=I.kz y c<|O.sub y c h;show(v,by let(o,K,hd):=q;show(o,L c o K,hd))
 .change(σ++Ϯ xs.f b0).f=(cD xs X.N++xs).f;rw[ô,ô,I.len,wg,rA]
def Ą.back{σ L:St}(I:Â X Do σ H s)(A:∀b∈k,jQ X Do H b)(J:Â (dZ X ap cl s.k.y.q N s H k) pl L i j)(y:∀b o,b≠s.k.y.q->j.k.G b=a7 o->h'.G b=a7 o):Â X Do σ i {j with ce:=h'}:=by
 let u:Un (k9 X.stack) k H i s.k h':=by
  let h:Un (k9 X.stack) k H i s.k j.k:=J.ka;let ne:∀b o,s.k.G b=a7 o->b≠s.k.y.q:=λb o e=>ý<|Ý e;show(λb o e n p x=>y b o (ne b o e)<|h.keep b o e n p x,λb o e n p x=>?_,h.kr,λb o e x=>?_,h.tups,h.frzs,h.tbls)
  .let(U,q):=h.slot b o e n p x;show(U,y b _ (ne b o e) q)
  .let(T,q):=h.there b o e x;show(T,y b _ (ne b o e) q)
 let a:i s.k.y.q=bp:=J.kr;let B:Ř X.Y X.w i h':=λb v e=>by
  show(J.vr b v e).stay (λc w hc q=>y c w ?_ q) (λ_ q=>q) λ_ f q=>q;rcases hc with z|z
  .rw[z];intro K;rw[K,a]at e;ext e
  .intro K;rw[K,a]at z;ext z
 let E:j.os=s.os:=J.os;let(hh,g,d,t,G):=j;obtain rfl:G=s.os:=E;let r:=Â.call (X:=X) (Do:=Do) (σ:=σ) (H:=H) (s:=s) (h':=h') (g':=g) (d':=d) (t':=t) (ch:=k) I u B J.bare λb p=>let(Y,M,Z,O,Q,R):=A b p;(O,M,Q,R);show r
def b7h(I:am->Ø->Prop)(turn:∀n s,I n s->Ç (Ê dv w) A (Ō B) (λr d=>match r with
   |bp=>R (.ok .next) d
   |bb v=>Ç (Ê dv w) A (O9 a B v) (λ_ e=>Ç (Ê dv w) A (cj a eA v) (λ_ k=>
     Ç (Ê dv w) A (ox hZ b4 λc r=>if r=b4 then do let ok <- su c eA (eu c eA);ej (gh ok)else ej (gh r)) (λok g=>
      if ok=b4 then Ç (Ê dv w) A (eu ii eA) (λx o=>
       Ç (Ê dv w) A (ia (.zn "list.append") [fz,x]) (λ_ p=>∃m,m<n/\I m p) (λ_ f=>ef) o) (λ_ f=>ef) g
      else ∃m,m<n/\I m g) (λ_ f=>ef) k) (λ_ f=>ef) e) (λ_ f=>ef) d) (λ_ f=>ef) s)n(h:I n s):
  Ρ (Ê dv w) A (.compLoop (.vw ii [(a,ea,hZ,0)] ap ca) 0 B fz eA) R s:=by
 show codeAny_loop ?r I (λn s E=>?_) n h;change Ç _ A ((compTurn (.vw ii [(a,ea,hZ,0)] ap ca) 0 B fz eA).onRaise λx=>do noteFrame x eA;theTreesLotGoes x) _ _ s;show wpAny_noted ?_;rw[compTurn_list];show Á<|O6<|Á<|Ŗ (turn n s E) (λr d i=>?_) λ_ f b=>b.vl;cases r with
 |bp=>show É i|bb v=>
  show Á<|Ŗ i (λ_ e q=>?_) λ_ f b=>b.vl;show Á<|Ŗ q (λ_ k u=>Á<|Ŗ u (λok g j=>?_) λ_ f b=>b.vl) λ_ f b=>b.vl;cases ok with
  |ai=>show É (?r,j)|bt=>show Á<|Á<|Ŗ j (λx o y=>Á<|Ŗ y (λ_ p z=>É<|É (?r,z)) λ_ f b=>b.vl) λ_ f b=>b.vl
def sY!(μ:Hm)(a:am)(y:D):af Hm:=match μ[a]? with
 |bb (.D xs)=>if xs.f<Ò then a7 (μ.xl a<|.D<|xs++[y])else b0|_=>b0
noncomputable abbrev BD:=D->Hm->af aE
def sZ!:BD:=λd x=>a7 [a7 d]
def vC!(k:am):BD:=λd μ=>(bW μ d).U λxs=>if xs.f=k then a7 (xs.o a7)else b0
def kP!(a:Hm->am->af (af D))(h:BD)(c:MT)(e:ME)(b:aE)(g:am):am->am->Hm->af Hm
 |0,_,_=>b0|n+1,i,μ=>(a μ i).U λo=>match o with
  |bp=>a7 μ|bb d=>(h d μ).U λx=>(c (b++x) μ).U λp=>match p.1 with
   |bt=>(e (b++x) p.2).U λq=>(sY q.2 g q.1).U λj=>kP a h c e b g n (i+1) j|ai=>kP a h c e b g n (i+1) p.2
def iW!:MT:=λ_ μ=>a7 ⟨b4,μ⟩
def rB!(X:Cx)(hZ:ab bo)(m:MT):Prop:=
 ∀(Do:jw)(s:Ø)(σ:St)(H:Hp)(Q:av->Hp->Prop),Â X Do σ H s->Œ X.K m σ H Q->
  Ç (Ê X.Y X.w) X.A (ox hZ b4 λc r=>if r=b4 then do let ok <- su c X.M (eu c X.M);ej (gh ok)else ej (gh r)) (TP X Do σ Q) X.xe s
def b7d:rB X [] iW:=by intro a s j H Q I h;let(e,i,g,b,d,R,E,c,k):=h;ext c;show wpAny_tests_nil (H,I,k e H .ki R)
def b7c(h:PT X c (Œ X.K m)):rB X [c] m:=λDo s σ H Q I q=>wpAny_tests_one<|h Do s σ H Q I q
def Gz(h:t≠e):∀n i s(Q:gw->Ø->Prop),s.k.IsListIter e t i->s.k.IsList t dk->i+n<=dk.q->
  (∀k,k.IsListIter e t (i+n)->ū e s.k k->Q ((dk.zh.kw i).ze n) {s with ce:=k})->Ç (Ê dv w) A (draw (.x e) n) Q E s
 |0,i,s,Q,hit,_,_,hQ=>by change Ç _ _ (ej []) Q E s;show É<|by apply hQ s.k hit (Ob ..)
 |n+1,i,s,Q,hit,ht,hle,hQ=>by
  let g:i<dk.q:=()
  change Ç _ _ (Ō (.x e) >>= _) Q E s;show Á (SV hit ht (x:=dk[i]) (by simp[g]) λo b a=>?_);show Á (Ņ<|Gz h n (i+1) _ _ b (ht.V a.V h) () λj c d=>É ?_);let hd:dk.zh.kw i=dk[i]::dk.zh.kw (i+1):=by simp[OY,g]
  have:=hQ j (by rw[show i+(n+1)=i+1+n by lia];show c)<|a.u d;rw[hd,ab.take_succ_cons]at ah;show ah
def b7V{Q:gw->Ø->Prop}(v:A.xt=b0)(j:s.k.IsList t dk)(u:∀p,ϰ s.k.y.q s.k p->Q dk.zh {s with ce:=p}):Ç (Ê dv w) A (unpackItems (.x t) dk.q b0) Q E s:=by
 let i:t≠s.k.y.q:=by let(o,x,_):=j;show ý<|Ý x
 ext unpackItems;show Á ?_
 .ext notIterableAtAll;show Á<|qu j.ja slot_list_iter.B ?_;show É ?_;dsimp[Ī,cm];show Á<|Ņ<|ww j ?_;show Á (Ņ<|Gz i dk.q 0 _ _ (_,ÿ _ ?r,?r,?r) (j.zl _) () λk c a=>?_);let h:ab.ze dk.q (ab.kw 0 dk.zh)=dk.zh:=by rw[Pe];show NK ∅
  rw[h];rw[ac ∅];let g:k.IsList t dk:=(j.zl _).V a.V i;show Á (Ņ<|Sv v c g ∅ λn d=>?_);dsimp[af.isSome_none,Ī,cm];show É<|u n λb o q e=>d b o q<|a.V b o q<|ä _ e
def b7U{x1}(d:A.xt=b0)(g:s.k.IsList t dk)(e:(ώ a eA).f=dk.q)(b:(ώ a eA).findIdx? (·.1)=b0)(h:∀c,ϰ s.k.y.q s.k c->Ç (Ê dv w) A (assignInOrder ((ώ a eA).o (·.2)) dk.zh) Q E {s with ce:=c}):
  Ç (Ê dv w) A (cj (.va a x1 ca) eA<|.x t) Q E s:=by
 rw[b7G];show Á<|O6 ?_;ext unpack;rw[e,b];show Á<|Ņ<|b7V d g h
def pS!:aE->ab am->ab D->aE
 |ρ,i::is,x::xs=>pS (ρ.xl i<|a7 x) is xs|ρ,_,_=>ρ
def fY!(a:ab am):MG:=λd b μ=>(bW μ d).U λxs=>if xs.f=a.f then a7 (pS b a xs)else b0
def yM!:ab am->sQ
 |[]=>E7|i::r=>Fb (Ba i)<|yM r
def BN:∀a{vs}{xs}{σ}{c}{Q},È K π n H vs xs->En K π n H σ c->xs.f=a.f->(∀b,En K π n H b (pS c a xs)->Q b H)->yM a vs σ H Q
 |[],vs,xs,σ,c,Q,h,E,hl,k=>by
  cases h with
  |fk=>show(?r,k σ E)|bm h t=>ext hl
 |i::a,vs,xs,σ,c,Q,h,E,hl,k=>by
  cases h with
  |fk=>ext hl|bm h t=>show(_,_,?r,BN a t (E.xl h i) (by apply hl) k)
open _root_ in
def b7T(hc:X.vn=b4)(h:uT X es (yM j))(M:(ώ es X.M).f=j.f:=by rfl)(p:(ώ es X.M).findIdx? (·.1)=bp:=by rfl):
  PG X (.va es k ca) (Ξ X.K<|fY j):=by
 intro i s y H v u Q I r hw;let(T,ρ,O,d,ρ',R,E,hd,L,N):=hw;show cC L ?_;clear L;intro K h1 B;split at B
 .rename_i x;ext B;let n:(∃a g,v=.x a/\à X.K H a g/\È X.K T O.f H g K)\/(∃a g,v=.x a/\Ā X.K H a g/\È X.K T O.f H g K):=by
   cases hd with
   |f6 q t=>ext h1;show .Q (_,_,?r,q,t)|oe q t=>ext h1;show .X (_,_,?r,q.sq,t)|@lp a ha=>
    dsimp[bW]at h1;split at h1
    .rename_i ys Z;ext h1;let(g,U,Y):=R.D a K Z;show .X (_,g,?r,.of U,Y)
    .ext h1
   |_=>ext h1
  rcases n with(a|g|rfl|q|t)|(a|g|rfl|q|t)
  .ext r;let(b5,w,G,hz):=I.kl q;let c:b5.f=j.f:=by rw[<- w.f,t.f];show x
   show b7F (I.ok.hd hc) G (by simp[M,c]) p λA J=>?_;let z:Â X i y H {s with ce:=A}:=I.vx (t':=s.xh) λb o e=>J b o (ý<|Ý e) e;show h i _ y H g _ Q z (by apply w)<|BN j t E x N
  .ext r;let(b5,w,G,hz):=I.vu q;let c:b5.f=j.f:=by rw[<- w.f,t.f];show x
   show b7U (I.ok.hd hc) G.xc (by simp[M,c]) p λA J=>?_;let z:Â X i y H {s with ce:=A}:=I.vx (t':=s.xh) λb o e=>J b o (ý<|Ý e) e;show h i _ y H g _ Q z (by apply w)<|BN j t E x N
 .ext B
def l6!(m:ME)(g:MG):MS:=λb μ=>(m b μ).U λp=>(g p.1 b p.2).o λa=>⟨.nx,a,p.2⟩
def b7Q(s:PE X e (tM X.K m))(u:PG X tg (Ξ X.K g))(v:swapsWithSole [tg] e ca.line X.M=ej ai:=by rfl)(hw:PZ [tg] e X.M=ej bp:=by rfl)(h1:(ώ [tg] X.M).o (·.2)=[cj tg X.M]:=by rfl):PS X (.Assign [tg] e ca) (Ŕ X.K<|l6 m g):=lV (i10 s u v hw h1)<|by
 rintro E K H (A|n|y|I|B|z|R|h|a|k);show bJ a ?_;clear a;intro x c h1 a;show cI a ?_;clear a;intro G q a;ext a;show(A,n,y,x,c,R,h,h1,λb J p j i w=>(b,n,_,x,_,i,h.zw j,w,q,λd o=>k b d p j i o))
def vD!:MF:=λds μ=>match ds with
 |[.jv z]=>if z.f<=Ò then a7 ⟨.p z.f,μ⟩else b0|[x]=>(bW μ x).o λa=>⟨.p a.f,μ⟩|_=>b0
def BO!(K:Ï):gz->Hp->VK->Prop:=λxs H Q=>(∃p a,xs=[.x p]/\(Ā K H p a\/à K H p a)/\Q (.p a.f) H)\/(∃z,xs=[.jv z]/\z.f<=Ò/\Q (.p z.f) H)
def ϖ:ß X (.zn "len") (BO X.K):=Ų.or b6p
open _root_ in
def rF(R:Rp K π H μ)(h:Ù K π μ.f H v x)(e:bW μ x=a7 xs):∃p vs,v=.x p/\(Ā K H p vs\/à K H p vs)/\È K π μ.f H vs xs:=by
 cases h with
 |f6 q t=>ext e;show(_,_,?r,.X q,t)|oe q t=>ext e;show(_,_,?r,.Q q.sq,t)|@lp a g=>
  dsimp[bW]at e;split at e
  .rename_i i d;ext e;let(vs,b,c):=R.D a xs d;show(_,vs,?r,.Q<|.of b,c)
  .ext e
 |_=>ext e
open _root_ in
def GA:e8 K vD (BO K):=by
 intro b H s n d h j Q R i a k;unfold vD at a;split at a
 .split at a
  .rename_i e;ext a;cases i with
   |bm i t=>ext i;ext t;show .X (_,?r,e,k b _ H .ki R<|.p _)
  .ext a
 .let(o,h1,c):=Ľ.Z a;ext c;cases i with
  |bm i t=>ext t;let(p,g,?r,q,hd):=rF R i h1;show .Q (p,g,?r,q,?_);rw[hd.f];show k b _ H .ki R<|.p _
 .ext a
def vF!:MF:=λds μ=>match ds with
 |[x]=>(bW μ x).o λa=>⟨.z μ.f,μ++[.D a]⟩|_=>b0
def GB:e8 K vF (λxs H Q=>∃p a,xs=[.x p]/\(Ā K H p a\/à K H p a)/\∀l,H l=b0->Q (.x l) (eo H l<|.D a)):=by
 intro s H o xs d j n Q R i b k;unfold vF at b;split at b
 .let(a,h1,g):=Ľ.Z b;ext g;cases i with
  |bm i t=>ext t;let(p,c,?r,q,hd):=rF R i h1;show(p,c,?r,q,λl h=>?_);let(e,R2,_):=R.alloc (c:=.D a) (o:=.D c) h hd;show k _ _ _ e R2 lG
 .ext b
def GC!(K:Ï):gz->Hp->VK->Prop:=λvs H Q=>∃π μ x v t c b,vs=[v,.ty c]/\Rp K π H μ/\Ù K π μ.f H v x/\yK μ x=a7 t/\yL t c=a7 b/\Q (.bl b) H
def b7P:e8 K lY (GC K):=by
 intro c H q p d n o Q R i a k;unfold lY at a;split at a
 .let(t,h1,a):=ń.Z a;show cI a ?_;clear a;intro b e a;ext a;cases i with
  |bm i h=>
   cases h with
   |bm g j=>ext j;ext g;show(c,_,_,_,t,_,b,?r,R,i,h1,e,k c _ H .ki R<|.bl _)
 .ext a
open _root_ in
def b7I:ß X (.zn "isinstance") (GC X.K):=by
 intro G s Z H N us Q I r h;let(L,μ,x,v,t,c,b,?r,R,i,h1,j,q):=h;let(u,u2,?r,w,U):=uX r;ext U;let dr:∀J,EP X G Z Q (.kt b) {s with dL:=J}:=λJ=>(.bl b,H,I.tok J,?r,q);cases i with
 |g7=>ext h1;ext w;show gF ci.W.kitx_none I.kIn ϛ (oH X.K ∅ j) (λz=>nomatch z) dr|bl y=>ext h1;ext w;show gF ci.W.kitx_bool I.kIn ϛ (oH X.K ∅ j) (λz=>nomatch z) dr|gv y=>ext h1;let(t,?r):=w;show gF ci.W.kitx_int I.kIn ϛ (oH X.K ∅ j) (λz=>nomatch z) dr|gy y=>ext h1;let(t,?r):=w;show gF ci.W.kitx_str I.kIn ϛ (oH X.K ∅ j) (λz=>nomatch z) dr|f6 g t=>ext h1;ext w;let(b5,M,p,_):=I.kl g;let(o,d,e,_):=p;show gF ci.W.kitx_tuple I.kIn (o,d,e) (oH X.K ∅ j) (λz=>nomatch z) dr|oe g t=>ext h1;ext w;let(b5,M,p,_):=I.vu g.sq;let(o,d,e,_):=p.xc;show gF T1 I.kIn (o,d,e) (oH X.K ∅ j) (λz=>nomatch z) dr|@lp a ha=>
  ext w;dsimp[yK]at h1;split at h1
  .rename_i N B;ext h1;let(E,A,h4):=R.D a N B;let(b5,M,p,_):=I.vu<|Ā.of (K:=X.K) A;let(o,d,e,_):=p.xc;show gF T1 I.kIn (o,d,e) (oH X.K ∅ j) (λz=>nomatch z) dr
  .rename_i k B;ext h1;let(E,A,_):=R.dK a k B;let(_,_,Y,_,p):=(show á X.Y X.w H s.k (L a) (.dK E)from I.vr _ _ A);let(o,T,O,d,e,_):=p;show gF Sz I.kIn (o,d,e.1) (oH X.K ∅ j) (λz=>nomatch z) dr
  .rename_i k B;ext h1;let(E,A,_):=R.dT a k B;obtain((Y|_|_|_|o|T|O|d|e|_)|_):=(show á X.Y X.w H s.k (L a) (aN (L a) E)from I.vr _ _ A);show gF Sz I.kIn (o,d,e.1) (oH X.K ∅ j) (λz=>nomatch z) dr
  .ext h1
 |ty n=>ext h1
def yN!:D->af b9
 |.p i=>a7 (.Q i)|.jv x=>a7 (.X x)|_=>b0
def lJ!(ay:ab (b9×D))(k:b9):af D:=(ay.find? λa=>ag<|a.1=k).o (·.2)
inductive Ŵ (K:Ï)(π:am->ar)(n:am)(H:Hp):ab (b9×V)->ab (b9×D)->Prop where
 |fk:Ŵ K π n H [] []
 |bm {k:b9}{v:V}{d:D}{vs:ab (b9×V)}{ds:ab (b9×D)}(h:Ù K π n H v d)(t:Ŵ K π n H vs ds):Ŵ K π n H (⟨k,v⟩::vs)<|⟨k,d⟩::ds
def Ŵ.val(h:Ŵ K π n H vs ds)k:(lJ ds k=b0/\lE vs k=b0)\/∃v d,lJ ds k=a7 d/\lE vs k=a7 v/\Ù K π n H v d:=by
 induction h with
 |fk=>show .Q (?r,?r)|@bm a c b vs ds h t j=>
  by_cases e:a=k
  .show .X (c,b,by simp[lJ,Ε,e],by simp[lE,Ε,e],h)
  .let g:lJ (⟨a,b⟩::ds) k=lJ ds k:=by simp[lJ,Ε,e]
   let i:lE (⟨a,c⟩::vs) k=lE vs k:=by simp[lE,Ε,e]
   rw[g,i];show j
def GD(h:Ù K π n H y d)(e:yN d=a7 k):y=kV k:=by ext h<;>first|ext e;done|(ext e;rfl)
def iI(r:Þ k A):A.qv+1<ă:=by have:=r.un;lia
def fA!(a:ME):ME:=λb μ=>(a b μ).U λp=>(BH p.1).o λd=>⟨d,p.2⟩
def jU!(i5:ab (cf×ar)):ab (cf×J0)->ab (cf×ar)->ab (cf×ar)
 |[],fz=>fz|⟨n,k⟩::r,fz=>if k=.kr then(match i5.B n with|bb c=>jU i5 r (⟨n,c⟩::fz)|bp=>jU i5 r fz)else jU i5 r fz
def GF:∀gS fz,(∀y∈gS,y.2=.kr->∃c,eA.cells.B y.1=a7 c)->
  (ox gS fz λx b=>(do
   if x.2==.kr then(do let c <- cellOf eA x.1;ej (gh<|⟨x.1,c⟩::b))else ej (gh b):ϩ (ForInStep<|ab<|cf×ar)))=ej (jU eA.cells gS fz)
 |[],fz,_=>?r|⟨n,k⟩::r,fz,h=>by
  let d:=λfz=>GF r fz λy g=>h y<|ķ _ g;rw[Q6];by_cases a:k=.kr
  .subst a;let(c,hc):=h ⟨n,.kr⟩ (ŗ ..) ?r;dsimp at hc;let e:cellOf eA n=ej c:=by ext cellOf;rw[hc]
   dsimp[jU,hc,e,cp,cy,pure_bind];show d _
  .let e:(k==bc)=ai:=by apply a
   dsimp[jU,e,a,cm,Ī,pure_bind];show d _
def b7H(h:∀y∈ap.qf,y.2=.kr->∃c,eA.cells.B y.1=a7 c):P1 ap eA=ej (jU eA.cells ap.qf []):=by have:=GF (eA:=eA) ap.qf [] h;ext P1;dsimp[bind_pure]at *;show ah
open _root_ in
def yO:∀gS fz,(∀y c,fz.B y=a7 c->i5.B y=a7 c)->∀y c,(jU i5 gS fz).B y=a7 c->i5.B y=a7 c
 |[],fz,h=>h|⟨n,k⟩::r,fz,h=>by
  ext jU;lk
  .lk
   .rename_i b hc;show yO r _ λy c e=>?_;rw[vf]at e;by_cases a:y=n
    .subst a;dsimp[cp]at e;ext e;show hc
    .have:(y==n)=ai:=by apply a
     rw[ah]at e;show h y c e
   .show yO r fz h
  .show yO r fz h
def yP:∀gS fz y,(∃c,fz.B y=a7 c)->∃c,(jU i5 gS fz).B y=a7 c
 |[],fz,y,h=>h|⟨n,k⟩::r,fz,y,h=>by
  ext jU;lk
  .lk
   .show yP r _ y ?_;rw[vf];by_cases a:(y==n)=b4
    .rw[a];show(_,?r)
    .have:(y==n)=ai:=by apply a
     rw[ah];show h
   .show yP r fz y h
  .show yP r fz y h
def yQ:∀gS fz y,⟨y,bc⟩∈gS->(∃c,i5.B y=a7 c)->∃c,(jU i5 gS fz).B y=a7 c
 |[],fz,y,h,_=>by ext h
 |⟨n,k⟩::r,fz,y,h,hc=>by
  ext jU;rcases ē.Z h with h|h
  .ext h;let(c,hc):=hc;rw[ad ?r,hc];show yP r _ _ (c,by simp[vf])
  .lk
   .lk
    .show yQ r _ y h hc
    .show yQ r _ y h hc
   .show yQ r _ y h hc
structure ŋ(osc:θ)(N:ab cf)(ap:θ)(xs:ab cf):Prop where
 nocell:∀y∈ap.qf,y.2≠.kz
 kind:ap.kind=.kv
 gS:∀y∈ap.qf,y.2=.kg->ap.qf.B y.1=a7 .kg
 here:∀x∈xs,ap.qf.B x=a7 .kg
 lx:∀y∈ap.qf,y.2=.kr->osc.qf.B y.1=a7 .kz\/osc.qf.B y.1=a7 .kr
 own:∀y∈ap.qf,y.2=.kg->y.1∉cD xs N
 nd:N.J
 hnd:(cD xs N).J
 hidn:∀y∈N,xs.zo y=b4->ap.qf.B (sX y)=b0
def ŋ.ok(S:ŋ X.M.xv X.N ap xs)(ok:X.Ok):Ą X ap (jU X.M.cells ap.qf []) xs:=by
 let has:∀y∈ap.qf,y.2=.kr->∃c,X.M.cells.B y.1=a7 c:=λy d b=>ok.has y.1 (S.kr y d b);show(b7H has,S.nocell,S.kind,S.qf,S.here,yO ap.qf [] (λy c e=>by ext e),λy e=>?_,λy e=>?_,S.hidn)
 .let a:=R8 e;show(S.kr _ a ?r,yQ ap.qf [] y a (has _ a ?r))
 .show S.own _ (R8 e) ?r
def fR!(e:bo):av:=!(e.ctorIdx==22)
def fS(h:fR e=b4):ð (e::es) eA=⟨b3,eu e eA⟩::ð es eA:=by ext e<;>first|rfl|ext h
def l7:∀{es},es.all fR=b4->(ĵ ca<|ð es eA).any (·.1)=b3
 |[],_=>?r|e::es,h=>by rw[İ,â]at h;rw[fS h.1];have:=l7 (ca:=ca) (eA:=eA) h.2;simpa[ĵ]using ah
def yR(h:fR e=b4):ώ (e::es) eA=⟨b3,cj e eA⟩::ώ es eA:=by ext e<;>first|rfl|ext h
def GG:∀{es},es.all fR=b4->(ώ es eA).f=es.f
 |[],_=>?r|e::es,h=>by rw[İ,â]at h;rw[yR h.1,ĩ,ĩ,GG h.2]
def GH:∀{es},es.all fR=b4->(ώ es eA).findIdx? (·.1)=b0
 |[],_=>?r|e::es,h=>by rw[İ,â]at h;rw[yR h.1,ab.findIdx?_cons,GH h.2];rfl
structure QE(X:Cx)(e:bo)(m:ME):Prop where
 h:PE X e<|tM X.K m
structure QT(X:Cx)(e:bo)(m:MT):Prop where
 h:PT X e<|Œ X.K m
structure QW(X:Cx)(e:bo)(m:MT):Prop where
 h:PW X e<|Œ X.K m
structure QA(X:Cx)(es:ab bo)(m:MA)(n:am):Prop where
 h:PA X es<|ŵ X.K m
 l:∀ρ μ ds aw,m ρ μ=a7 ⟨ds,aw⟩->ds.f=n
 s:es.all fR=b4
structure QO(X:Cx)(e:af bo)(m:MO):Prop where
 h:PO X e<|sr X.K m
structure QS(X:Cx)(st:ff)(m:MS):Prop where
 h:PS X st<|Ŕ X.K m
structure QB(X:Cx)(st:ab ff)(m:MS):Prop where
 h:ş X st<|Ŕ X.K m
structure QG(X:Cx)(e:bo)(g:MG):Prop where
 h:PG X e<|Ξ X.K g
structure xq(X:Cx)(es:ab bo)(is:ab am):Prop where
 h:uT X es<|yM is
 n:es.f=is.f
 s:es.all fR=b4
structure QI(X:Cx)(hZ:ab bo)(m:MT):Prop where
 h:rB X hZ m
def b6x i(g:X.N[i]?=a7 x:=by rfl)(h:sO X.M.xv x:=by first|show yt ?r|show tu (yt ?r)|show tu<|tu ?r)(hd:(x==("__debug__":cf))=ai:=by decide)(d:(x==("__classdict__":cf))=ai:=by decide):QE X (.xk x ca) (aC i):=⟨b0S i<|a8k g h hd d⟩
def b6w:QE X (.ve (.p i) j ca) (mC<|.p i):=⟨b0Q⟩
def b6v:QE X (.ve (.kt i) j ca) (mC<|.bl i):=⟨b0N⟩
def b6s:QE X (.ve (.jv i) j ca) (mC<|.jv i):=⟨b0K⟩
def b6r:QE X (.ve .qo j ca) (mC .kf):=⟨a9z⟩
def tB(i:Ē X (ι op) r)(h:eU X.K f r)(d:QE X a ma)(g:QE X b mb):QE X (.BinOp a op b ca) (aA f ma mb):=⟨a9t i h d.h g.h⟩
def a9T(d:QE X a ma)(g:QE X b mb):QE X (.BinOp a .Add b ca) (aA bS ma mb):=tB h16 h12 d g
def a9A(d:QE X a ma)(g:QE X b mb):QE X (.BinOp a .Sub b ca) (aA dQ ma mb):=tB b1A b6Q d g
def b5W(d:QE X a ma)(g:QE X b mb):QE X (.BinOp a .Mult b ca) (aA cE ma mb):=tB b6V b6O d g
def b5R(d:QE X a ma)(g:QE X b mb):QE X (.BinOp a .FloorDiv b ca) (aA eV ma mb):=tB b6T b6M d g
def b5Q(d:QE X a ma)(g:QE X b mb):QE X (.BinOp a .Mod b ca) (aA bP ma mb):=tB b0y WbI d g
def b5P(d:QE X a ma)(g:QE X b mb):QE X (.BinOp a .Pow b ca) (aA oG ma mb):=tB b6R FoI d g
def b5O(d:QE X a ma):QE X (.UnaryOp .USub a ca) (fA ma):=⟨dMT d.h⟩
def b5M(d:QE X a ma):QE X (.UnaryOp .Not a ca) (sT ma):=⟨b1o d.h⟩
def b5J(h:Þ k X.A)(d:QE X a ma)(g:QE X b mb):QE X (.qq a [.Eq] [b] ca) (aA (aV b3) ma mb):=⟨iT (Gs<|yJ h) yI d.h g.h<|gH _⟩
def b5I(h:Þ k X.A)(d:QE X a ma)(g:QE X b mb):QE X (.qq a [.NotEq] [b] ca) (aA (aV b4) ma mb):=⟨iT (Gu<|yJ h) yI d.h g.h<|gH _⟩
def b5H(d:QE X a ma)(g:QE X b mb):QE X (.qq a [.Lt] [b] ca) (aA nC ma mb):=⟨iT Bg lI d.h g.h<|gH _⟩
def b5G(d:QE X a ma)(g:QE X b mb):QE X (.qq a [.LtE] [b] ca) (aA sW ma mb):=⟨iT Bh lI d.h g.h<|gH _⟩
def b5F(d:QE X a ma)(g:QE X b mb):QE X (.qq a [.Gt] [b] ca) (aA nD ma mb):=⟨iT Bi lI d.h g.h<|gH _⟩
def b5E(d:QE X a ma)(g:QE X b mb):QE X (.qq a [.GtE] [b] ca) (aA vB ma mb):=⟨iT Bj lI d.h g.h<|gH _⟩
def jV!(e:bo):av:=!(e.ctorIdx==7)
def lK(h:jV b=b4):jm op b=ai:=by ext b<;>first|rfl|ext h
def b5C(h:QE X a m):QE X (.jp op [a] ca) m:=⟨b1x h.h⟩
def b5B{cN:ab bo}(d:QE X a ma)(g:QE X (.jp .And (b::cN) ca) mb):QE X (.jp .And (a::b::cN) ca) (lF ma mb):=⟨b1w d.h g.h⟩
def b5A{cN:ab bo}(d:QE X a ma)(g:QE X (.jp .Or (b::cN) ca) mb):QE X (.jp .Or (a::b::cN) ca) (Bx ma mb):=⟨b1p d.h g.h⟩
def b4z{mt:MT}(hc:QT X c mt)(d:QE X a ma)(g:QE X b mb):QE X (.IfExp c a b ca) (gU mt ma mb):=⟨b1m hc.h d.h g.h⟩
def b4y:QA X [] aD 0:=(b1l,F7,?r)
def b4w(g:QE X e m)(d:QA X es ms n)(h:fR e=bt:=by rfl):QA X (e::es) (aB m ms) (n+1):=(b1h g.h d.h<|fS h,b1X d.l,by rw[İ,h,d.s];rfl)
def b4v(h:QA X es ms n):QE X (.va es d ca) (bY ms):=⟨b1g h.h⟩
def b6F(h:QA X es ms n):QE X (.List es ca) (cU ms):=⟨b1d h.h⟩
def rG!(e:bo):av:=!(e.ctorIdx==26)
def BP(h:rG b=b4):Bs b:=by intro o i;ext b<;>first|rfl|ext h
def b6D(d:QE X a ma)(g:QE X b mb)(h:rG b=bt:=by rfl):QE X (.xy a b ca) (aA kL ma mb):=⟨b2e d.h g.h<|BP h⟩
def b6C:QO X b0 iH:=⟨b2d⟩
def b6B(h:QE X e m):QO X (a7 e) (jT m):=⟨b2P h.h⟩
def b6A(h:QE X a ma)(i:QO X lo g)(j:QO X hi d):QE X (.xy a (.Slice lo hi b0 k) ca) (q8 ma g d):=⟨b2L h.h i.h j.h⟩
def b5z(F:đ X.Y X.w X.K X.mg X.ka gR k f i ps (gT X.K n j))(v:Þ k X.A)(u:X.mg x=a7 (.x f))(s:ϟ X.K (.x f)=b4)(o:ó X.K i ps [])(d:QA X (e::es) ms n)(q:Gl X x:=by rfl)(g:(x==("__debug__":cf))=ai:=by decide):QE X (.xz (.xk x p) (e::es) [] ca) (bI j ms):=by
 let h:=d.s;rw[İ,â]at h;show⟨b1W F v q u s o d.h d.l g (fS h.1)<|l7 h.2⟩
def GI{id:cq}(hc:ß X (.zn id) r)(i:e8 X.K f r)(k:X.mg x=b0)(q:ξ x=a7 (.zn id))(h:QA X (e::es) ms n)(j:Gl X x:=by rfl)(o:x ≠ "__name__":=by decide)(d:(x==("__debug__":cf))=ai:=by decide):QE X (.xz (.xk x p) (e::es) [] ca) (bI f ms):=by
 let g:=h.s;rw[İ,â]at g;show⟨b1V hc i j k q h.h o d (fS g.1)<|l7 g.2⟩
def GJ(hc:ß X (.O T) r)(i:e8 X.K f r)(k:X.mg x=b0)(q:ξ x=a7 (.O T))(h:QA X (e::es) ms n)(j:Gl X x:=by rfl)(o:x ≠ "__name__":=by decide)(d:(x==("__debug__":cf))=ai:=by decide):QE X (.xz (.xk x p) (e::es) [] ca) (bI f ms):=by
 let g:=h.s;rw[İ,â]at g;show⟨b2h hc i j k q h.h o d (fS g.1)<|l7 g.2⟩
def b5y(g:X.mg x=b0)(i:ξ x=a7 (.O n))(d:Gl X x:=by rfl)(h:x ≠ "__name__":=by decide)(hd:(x==("__debug__":cf))=ai:=by decide):QE X (.xk x ca) (mC<|.ty n):=⟨b7q d g i h hd⟩
def b5x(h:Þ k X.A)(d:QE X a ma)(g:QE X b mb):QT X (.qq a [.Eq] [b] ca) (aP<|aA (aV b3) ma mb):=⟨iU (Gs<|yJ h) yI d.h g.h<|gH _⟩
def b5v(h:Þ k X.A)(d:QE X a ma)(g:QE X b mb):QT X (.qq a [.NotEq] [b] ca) (aP<|aA (aV b4) ma mb):=⟨iU (Gu<|yJ h) yI d.h g.h<|gH _⟩
def b5l(d:QE X a ma)(g:QE X b mb):QT X (.qq a [.Lt] [b] ca) (aP<|aA nC ma mb):=⟨iU Bg lI d.h g.h<|gH _⟩
def b5e(d:QE X a ma)(g:QE X b mb):QT X (.qq a [.LtE] [b] ca) (aP<|aA sW ma mb):=⟨iU Bh lI d.h g.h<|gH _⟩
def b5d(d:QE X a ma)(g:QE X b mb):QT X (.qq a [.Gt] [b] ca) (aP<|aA nD ma mb):=⟨iU Bi lI d.h g.h<|gH _⟩
def b5c(d:QE X a ma)(g:QE X b mb):QT X (.qq a [.GtE] [b] ca) (aP<|aA vB ma mb):=⟨iU Bj lI d.h g.h<|gH _⟩
def BQ!:bo->av
 |.UnaryOp .Not ..=>b3|.jp ..=>b3|.IfExp ..=>b3|.qq ..=>b3|_=>b4
open _root_ in
def b5b(h:BQ e=b4):∀d,su e eA d=(do let v <- d;ue e.pos;ip [v] (truthy v)):=by
 intro d;ext e<;>first|rfl|ext h|skip
 rename_i g x p;ext g<;>first|rfl|ext h
def b5a{mt:MT}(d:QT X a mt):QT X (.UnaryOp .Not a ca) (kK mt):=⟨b1y d.h⟩
def b5Y{mt:MT}(d:QT X a mt):QW X (.jp .And [a] ca) mt:=⟨a9q d.h⟩
def b5X{mt:MT}(d:QT X a mt):QW X (.jp .Or [a] ca) mt:=⟨a9X d.h⟩
def b6L{mt:MT}{cN:ab bo}(d:QT X a mt)(g:QW X (.jp .And (b::cN) ca) mu):QW X (.jp .And (a::b::cN) ca) (kJ mt mu):=⟨a9U d.h g.h⟩
def b6K{mt:MT}{cN:ab bo}(d:QT X a mt)(g:QW X (.jp .Or (b::cN) ca) mu):QW X (.jp .Or (a::b::cN) ca) (iG mt mu):=⟨b1z d.h g.h⟩
def b6J{mt:MT}(h:QW X e mt):QT X e mt:=⟨h.h.pt⟩
def b6I:QI X [] iW:=⟨b7d⟩
def b6H{mt:MT}(h:QT X c mt):QI X [c] mt:=⟨b7c h.h⟩
def b6G:QB X [] bM:=⟨b2H⟩
def b3t{cN:ab ff}(h1:QS X st ms)(d:QB X cN mr):QB X (st::cN) (aL ms mr):=⟨b6o h1.h d.h⟩
def b3m(h1:QS X st ms):QB X [st] ms:=⟨b6m h1.h⟩
def b3l:QS X (.Pass ca) bM:=⟨b6l⟩
def b3i(d:QE X e m):QS X (.Return (a7 e) ca) (aM m):=⟨b6k d.h⟩
def l8!(e:bo):av:=!(e.ctorIdx==8||e.ctorIdx==9||e.ctorIdx==10)
def yS(h:l8 e=b4):dI e t n eA=ej ai:=by ext e<;>first|rfl|ext h
def b3h(d:QE X e m)(h:l8 e=bt:=by rfl):QS X (.Expr e ca) (dP m):=⟨b6j d.h<|yS h⟩
def b3g{mt:MT}(hc:QT X c mt)(d:QB X gi ms)(h:QB X orelse mu):QS X (.If c gi orelse ca) (bB mt ms mu):=⟨b6g hc.h d.h h.h⟩
def b3f i(j:X.N.J)(k:QE X e m)(h:l8 e=bt:=by rfl)(hi:X.N[i]?=a7 x:=by rfl)(p:Loc X.M.xv x:=by first|show yt ?r|show tu ?r)(o:X.fn x=b4\/X.M.xv.qf.B x=a7 .kg:=by first|show .Q ?r|show .X ?r):QS X (.Assign [.xk x d] e ca) (dA i m):=⟨Gb j hi p k.h (yS h) o⟩
def b3e i(d:X.N.J)(hi:X.N[i]?=a7 x:=by rfl)(j:Loc X.M.xv x:=by first|show yt ?r|show tu ?r)(h:X.fn x=b4\/X.M.xv.qf.B x=a7 .kg:=by first|show .Q ?r|show .X ?r):QG X (.xk x ca) (dE i):=⟨Gw d hi j h⟩
def GK:xq X [] []:=(a7D,?r,?r)
def GL i(h:X.N.J)(d:xq X es is)(hi:X.N[i]?=a7 x:=by rfl)(k:Loc X.M.xv x:=by first|show yt ?r|show tu ?r)(j:X.fn x=b4\/X.M.xv.qf.B x=a7 .kg:=by first|show .Q ?r|show .X ?r):xq X (.xk x ca::es) (i::is):=
 (LwI (E6 h hi k j) d.h<|by rw[yR (e:=.xk x ca) ?r];rfl,by rw[ĩ,ĩ,d.n],by rw[İ,d.s];rfl)
def BR(h:xq X es is)(hc:X.vn=bt:=by rfl):QG X (.va es k ca) (fY is):=⟨b7T hc h.h ((GG h.s).u h.n)<|GH h.s⟩
def BS!(e:bo):av:=!(e.ctorIdx==25)
def b3d(h:BS e=b4):PZ [.va es k pt] e eA=ej bp:=by ext e<;>first|rfl|ext h
def b3W(d:QE X e m)(i:QG X (.va es k pt) g)(h:BS e=bt:=by rfl):QS X (.Assign [.va es k pt] e ca) (l6 m g):=
 ⟨b7Q d.h i.h (by ext e<;>rfl) (b3d h)<|by rw[yR (e:=.va es k pt) ?r];rfl⟩
def b3V(F:Ϧ K x a st f g)(S:ī N ps (dO st))(e:ps.f<=N.f)(d:hW st=gi)(c:∀b A ee s H E,Þ k (A.deeper<|U4 a (dO st) s.k.y.q f b)->
   QB (oC gR P w K mg fy N a (dO st) f b A ee s H E).nox gi m):đ P w K mg fy gR (k+1) f g ps (gT K ps.f<|Bz N.f m):=
 b6e F S e λb A ee s H E h=>by rw[d];show(c b A ee s H E h).h
noncomputable abbrev gJ:=Hm->am->af (af D)
noncomputable abbrev MI:=aE->Hm->af (gJ×am×Hm)
inductive Ϩ (K:Ï)(m:MI)(σ:St)(H:Hp)(R:It->Hp->Prop):Prop
 |mk (π:am->ar)(ρ:aE)(μ:Hm)(src:gJ)(n:am)(aw:Hm)(r:Rp K π H μ)(E:En K π μ.f H σ ρ)(hm:m ρ μ=a7 ⟨src,n,aw⟩)(k:∀gu H' J,ö π μ.f H gu aw.f H'->Rp K gu H' aw->Wk K J src gu aw.f H'->R J H'):Ϩ K m σ H R
structure QJ(X:Cx)(e:bo)(m:MI):Prop where
 h:∀tg,PI X tg e (Ϩ X.K m)
def GN!:MI:=λ_ x=>b0
def GO:QJ X e GN:=⟨λtg Do s σ H R I hw=>by
 let(h,i,g,b,n,c,d,E,a,k):=hw;ext a⟩
def nE!(μ:Hm):D->af (ab D)
 |d=>bW μ d
def eM!(x:D):gJ:=λμ i=>(nE μ x).o λxs=>xs[i]?
def dR!(m:ME):MI:=λa μ=>(m a μ).U λp=>(nE p.2 p.1).o λxs=>⟨eM p.1,xs.f+1,p.2⟩
def b3T(h:QE X e m):QJ X e (dR m):=⟨λtg Do s σ H R I hw=>by
 let(L,M,J,B,n,K,w,E,b,k):=hw;show bJ b ?_;clear b;intro x i h1 b;show cI b ?_;clear b;intro G y b;ext b;let io:∀(p:bW i x=a7 G)(u:eM x=oI x),Ç (Ê X.Y X.w) X.A (eu e X.M) (λv A=>Ç (Ê X.Y X.w) X.A (aj v) (Bb X Do σ tg R) X.xe A) X.xe s:=λp u=>by
  show b7o h.h Do s σ H R I (L,M,J,x,_,w,E,h1,λc N j o d z=>?_);let(a,e,q):=b7n d z p;subst e;show(a,?r,?_);dsimp at k;rw[u]at k;rcases q with(g|W)|(g|W)
  .show .Q (g,k c j _ o d W)
  .show .X (g,k c j _ o d W)
 cases x with
 |_=>show io y ?r⟩
def pT!(ms:MA):MI:=λa μ=>(ms a μ).U λp=>match p.1 with
 |[.p j]=>if -(2^62)<=j/\j<2^62 then a7 ⟨kN 0 j.zi,j.zi+1,p.2⟩else b0|_=>b0
open _root_ in
def b3Q(tr:∀o lo n,ı q X.Y X.w X.K tg (pL lo n) [o] o λi h=>ou h o (lo+(i:am)*1) ((n:ae)-(i:am)) 1)(c:Gl X "range")(d:X.mg "range"=b0)(w:QA X [a] ms n):uU q X tg (.xz (.xk "range" p) [a] [] ca) (Ϩ X.K<|pT ms):=λDo s σ H R I hw=>by
 let z:=w.s;rw[İ,â]at z;let(O,Q,M,K,T,N,G,E,b,k):=hw;show bJ b ?_;clear b;intro x u h1 b;show b7S tr c d w.h (fS z.1) Do s σ H R I (O,Q,M,x,u,G,E,h1,λv U A J B g=>?_);dsimp at b;split at b
 .rename_i j;split at b
  .rename_i y;ext b;cases g with
   |bm g L=>ext g;ext L;show(j,?r,y.1,y.2,k v A _ J B Gx)
  .ext b
 .ext b
def b3P(b:Gl X "range")(c:X.mg "range"=b0)(d:QA X [a] ms n):QJ X (.xz (.xk "range" p) [a] [] ca) (pT ms):=⟨λtg=>b3Q Fd b c d⟩
def tD!(ms:MA):MI:=λa μ=>(ms a μ).U λp=>match p.1 with
 |[.p i,.p j]=>if -(2^62)<=i/\i<2^62/\-(2^62)<=j/\j<2^62 then a7 ⟨kN i (j-i).zi,(j-i).zi+1,p.2⟩else b0|_=>b0
open _root_ in
def b3J(g:Gl X "range")(h:X.mg "range"=b0)(v:QA X [a,b] ms n):QJ X (.xz (.xk "range" p) [a,b] [] ca) (tD ms):=⟨λtg Do s σ H R I hw=>by
 let d:=v.s;rw[İ,â,İ,â]at d;let(O,Q,M,J,T,N,z,E,c,k):=hw;show bJ c ?_;clear c;intro x q h1 c;show b6u g h v.h (by rw[fS d.1,fS d.2.1];rfl) (by rw[fS d.2.1];rfl) Do s σ H R I (O,Q,M,x,q,z,E,h1,λu U w A y o=>?_);dsimp at c;split at c
 .rename_i i j;split at c
  .rename_i B;ext c;cases o with
   |bm o K=>
    ext o;cases K with
    |bm G L=>ext G;ext L;show(i,j,?r,B,k u w _ A y Gx)
  .ext c
 .ext c⟩
def cV!(c:MI)(g:MG)(b:MS):MS:=λa μ=>(c a μ).U λp=>fQ p.1 g b p.2.1 0 a p.2.2
def jW!(d:BD)(g:MI)(c:MT)(e:ME):ME:=λb μ=>(g b μ).U λp=>(kP p.1 d c e b p.2.2.f p.2.1 0<|p.2.2++[.D []]).o λa=>⟨.z p.2.2.f,a⟩
noncomputable abbrev gK(a:MI)(c:MT)(e:ME):ME:=jW sZ a c e
def gB!(n:am)(a:BD):MG:=λd b μ=>(a d μ).o λx=>b.ze n++x
def b3I(j:X.N.f=n+1)(h:PG X (.xk x i) (Ξ X.K<|dE n)):PG X (.xk x i) (Ξ X.K<|gB n sZ):=by
 intro b s z H v u Q I r hw;let(w,a,q,d,y,R,E,hd,o,k):=hw;ext o;show h b s z H v u Q I r (w,a,q,d,_,R,E,hd,?r,λc g=>k c ?_);let p:a.f=n+1:=by rw[<- E.len,I.len,j]
 let e:a.xl n (a7 d)=a.ze n++[a7 d]:=by rw[ab.set_eq_take_append_cons_drop,ad (),ab.drop_of_length_le ()]
 rw[e]at g;show g
def GP:∀xs a b,b.f=xs.f->pS (a++b) (uw a.f xs.f) xs=a++xs.o a7
 |[],a,[],_=>by simp[pS]
 |x::xs,a,y::b,h=>by let c:=GP xs (a++[a7 x]) b (by apply h);rw[ĩ,OR];change pS ((a++y::b).xl a.f<|a7 x) (uw (a.f+1) xs.f) xs=_;rw[Oe _ _<|Ô _,Bw,Ũ];rw[ô,wj]at c;rw[Θ,T7]at c;rw[c];simp
open _root_ in
def b3G(x:X.N.f=n+k)(h:PG X tg (Ξ X.K<|fY<|uw n k)):PG X tg (Ξ X.K<|gB n<|vC k):=by
 intro b s K H v u Q I r hw;let(G,a,B,d,J,R,E,hd,j,A):=hw;show cI j ?_;clear j;intro y h1 q;show cC h1 ?_;clear h1;intro p w c;split at c
 .rename_i o;ext c;subst q;let z:a.f=n+k:=by rw[<- E.len,I.len,x]
  show h b s K H v u Q I r (G,a,B,d,pS a (uw n k) p,R,E,hd,(by dsimp[fY,w,ě,ab.length_range',ad o]),λg i=>A g ?_);let e:=GP p (a.ze n) (a.kw n) (by rw[vd];lia);rw[wk,ţ,Pf (),o]at e;rw[e]at i;show i
 .ext c
def b3E(E:En K π n H σ (a++o))(b:o.f=k):En K π n H σ (a++Ϯ k b0):=by
 show(by rw[E.len,ô,ô,wg,b],λi d q=>?_);by_cases hi:i<a.f
 .rw[ż hi]at q;show E.get i d<|by rw[ż hi];show q
 .rw[gk<|oh.Z hi,NF]at q;split at q<;>ext q
inductive Uh (Y:Cx)(K:Ï)(tn:am->ê->Prop)(fp:ab ar)(π:am->ar)(k:am)(H:Hp)(ρ:aE)(l:am)(F:am->am->Hm->af Hm)(aw:Hm)(n:am)(s:Ø):Prop
 |mk (i:am){oa:St}{H':Hp}{gu:am->ar}{μi:Hm}{o:aE}(I:Â Y [] oa H' s)(st:tn i s.k)(fr:∀b∈fp,H' b=b0)(e:ö π k H gu μi.f H')(R:Rp K gu H' μi)(E:En K gu μi.f H' oa (ρ++o))(hl:o.f=l)(g:F n i μi=a7 aw)
open _root_ in
def GQ(O:Ą X ap cl xs)(hq:∀Do σ H s j,Â X Do σ H s->q (dZ X ap cl s.k.y.q (cD xs X.N++xs) s H j))(hi:uU q X tg ea (Ϩ X.K mi))(hb':∀d μ z,bd d μ=a7 z->z.f=xs.f)(hg:∀C fi fq j,PG (dZ X ap cl C (cD xs X.N++xs) fi fq j) tg (Ξ X.K<|gB X.N.f bd))(hc:∀C fi fq j,rB (dZ X ap cl C (cD xs X.N++xs) fi fq j) hZ mc)(he:∀C fi fq j,PE (dZ X ap cl C (cD xs X.N++xs) fi fq j) ii (tM X.K me))(hs:∀x,wu ea X.M x=ej x){σ:St}(I:Â X Do σ H s)(R:Rp X.K π H μ)(E:En X.K π μ.f H σ N)(hm:jW bd mi mc me N μ=a7 ⟨d,aw⟩)(dr:∀p C gu B(s':Ø),ö π μ.f H gu aw.f B->Rp X.K gu B aw->Ù X.K gu aw.f B (.x p) d->(∃m,s'.k.Ns C m)->X.s₀.k.y.q<=C->C≠X.M.vk->B C=b0->
   (∀y c,X.M.cells.B y=a7 c->c≠C)->(∀q∈X.pn++Do,q.1≠C)->(∀h',(∀b o,b≠C->s'.k.G b=a7 o->h'.G b=a7 o)->Â X Do σ B {s' with ce:=h'})->
   compPost (Ê X.Y X.w) X.A X.xe use QQ (.x p) C (.ok .next) s'):
  Ç (Ê X.Y X.w) X.A (comprehension (.vw ii [(tg,ea,hZ,0)] ap ca) ap X.M ppos (newList []) b3 (eu ea X.M) use) QQ X.xe s:=by
 obtain((src|nt|a)|h1|hm):=ń.Z hm;show cI hm ?_;clear hm;intro i6 h3 hm;ext hm;let hit:Ç (Ê X.Y X.w) X.A (eu ea X.M) (λv s1=>Ç (Ê X.Y X.w) X.A (aj v) (WF q X Do σ tg λJ H1=>∃Q,ö π μ.f H Q a.f H1/\Rp X.K Q H1 a/\Wk X.K J src Q a.f H1) X.xe s1) X.xe s:=
  hi Do s σ H _ I (π,N,μ,src,nt,a,R,E,h1,λQ H1 J e1 R1 W=>(Q,e1,R1,W))
 show wpAny_comprehension_free ?r hs O.clos O.kind O.qf<|Ŗ hit (λv s1 hv=>Ŗ hv (λitv A h4=>?_) λ_ f z=>z) λ_ f z=>z;let(it,j,tn,J,H2,?r,I2,T,st2,f2,Q,e1,R1,W):=h4;show Η (wpAny_newFunctionEnv O.nocell (by intro y hy;simp at hy) (λU K L=>?_) O.kind);dsimp at K L ⊢;let hfr:H2 A.k.y.q=bp:=I2.vr.xo<|Ô _;let I3:Â X Do σ (eo H2 A.k.y.q<|.D []) {A with ce:=A.k.zl {cw:=.O "list",ix:=b0,bv:=.seq ([]:gw).E}}:=
  I2.laid (t':=A.xh) (λb u e=>ä _ e) (Ô _) (Ŝ _,[],0,.kk,ÿ _ ?r)
 let(e2,R2,q2):=R1.alloc (c:=.D []) (o:=.D []) hfr .kk;generalize hs3:({A with ce:=A.k.zl {cw:=.O "list",ix:=b0,bv:=.seq ([]:gw).E}}:Ø)=s3 at I3;let G:A.k.zl {cw:=.O "list",ix:=b0,bv:=.seq ([]:gw).E}=s3.k:=by rw[<- hs3]
 let NP:=e1.u e2;generalize hH3:eo H2 A.k.y.q (.D [])=H3 at I3 e2 R2 NP;generalize hπ3:jS Q a.f A.k.y.q=π3 at e2 R2 q2 NP;let hob:∀b∈j,∃o,s3.k.G b=a7 o:=λb w=>by let(o,ho,_):=T.obj 0 _ st2 b w;show(o,by rw[<- G];show ä _ ho)
 let f3:∀b∈j,jQ X Do H3 b:=λb w=>by let(o,ho,_):=T.obj 0 _ st2 b w;show(?_,(f2 b w).2);rw[<- hH3,bV<|ý<|Ý ho];show(f2 b w).1
 let st3:tn 0 s3.k:=T.keep 0 _ _ st2 λb w o e=>by rw[<- G];show ä _ e
 let hC:(A.k.zl {cw:=.O "list",ix:=b0,bv:=.seq ([]:gw).E}).objs.size=s3.k.y.q:=by rw[G]
 rw[G]at K L;let hk1:∀b o,s3.k.G b=a7 o->U.G b=a7 o:=λb o e=>L.V b o (ý<|Ý e)<|ä _ e;let E3:En X.K π3 (a++[C.D []]).f H3 (σ++Ϯ xs.f b0) (N++Ϯ xs.f b0):=by
  let E':=E.zw NP;show(by rw[ô,ô,E'.len,wg,wg],λi d' q=>?_);by_cases hi:i<N.f
  .rw[ż hi]at q;let(v,h5,h6):=E'.get i d' q;show(v,by rw[ż<|by rw[E'.len];show hi];show h5,h6)
  .rw[gk<|oh.Z hi,NF]at q;split at q<;>ext q
 let hlen:N.f=X.N.f:=by rw[<- E.len];show I.len
 let stat:∀{B:Hp}{pl:jw},(∀b∈j,B b=b0)->pl=[]->∀b∈j,jQ (dZ X ap cl s3.k.y.q (cD xs X.N++xs) s3 H3 j) pl B b:=λ{B pl} hn hpl b w=>by
  let(f0,f1,f2',f3',f4,f5):=f3 b w;let(o,ho):=hob b w;show(hn b w,ý<|Ý ho,λz=>?_,.Q w,λy c h=>f4 y c<|O.sub y c h,λp hp=>?_)
  .rcases ē.Z (I3.stkSub b z)with z|z
   .show f1 z
   .show f2' z
  .subst hpl;show cb (show p∈([]:jw)from hp) ∅
 let loop:∀s4:Ø,(∃tk,s4={s3 with ce:=U,dL:=tk})->
   Ρ (Ê X.Y X.w) X.A (.compLoop (.vw ii [(tg,ea,hZ,0)] ap ca) 0 (.x it) (.x A.k.y.q)<|Gg ap cl s3.k.y.q X.M)
    (compPost (Ê X.Y X.w) X.A X.xe use QQ (.x A.k.y.q) s3.k.y.q) s4:=by
  rintro s4 (tk|rfl);let I4:=O.inv (tk:=tk) I3 f3 hob K hk1;show b7h (Uh (dZ X ap cl s3.k.y.q (cD xs X.N++xs) s3 H3 j) X.K tn j π3 (a++[C.D []]).f H3 N xs.f (kP src bd mc me N a.f) aw) ?_ nt
  <|.mk 0 I4 (T.keep 0 _ _ st3 λb w o e=>hk1 b o e) (λb w=>(f3 b w).1) .ki R2 E3 wg h3
  rintro n s5 hI5;cases hI5 with
  |@mk i σ5 H5 M μ5 o5 I5 st5 fr5 e5 R5 E5 l5 g5=>
  cases n with
  |ij=>ext g5|im n=>
   show cC g5 ?_;clear g5;intro o h6 h7;cases o with
   |bp=>
    ext h7;let stop:=W.stop M _ H5 i (e2.u e5) R5 h6;show Ŗ (T.done (dZ X ap cl s3.k.y.q (cD xs X.N++xs) s3 H3 j) ?r ?r ?r (hq Do σ H3 s3 j I3) i [] s5 σ5 H5 (λ_ f=>ef) I5 (stat fr5 ?r) st5 stop) (λr s6 Z=>?_) λ_ f z=>z;let(hr,I6):=Z;subst hr;let(m6,hn6,_):=id I6.z;let hp:M a.f=A.k.y.q:=by rw[e5.pi a.f ∅,q2]
    show dr A.k.y.q s3.k.y.q M H5 s6 (NP.u e5) R5 ?_ (m6,hn6) I3.sz (ì<|ý I3.lt) I6.kr (λy c hc z=>?_) (λq hq z=>?_) λh' hh=>Ą.back I3 f3 I6 hh
    .rw[<- hp];show .z<|Ŏ ∅ e5.le
    .let(v,o,ho,_):=I3.kz y c hc;show ý (Ý ho) z
    .show ý (Ý (I3.pin q hq).1) z
   |bb d=>
    show cC h7 ?_;clear h7;intro z hz h7;show bJ h7 ?_;clear h7;intro b μ6 h8 h9;let(g1,g2):=W.go M μ5 H5 i d (e2.u e5) R5 h6;show Ŗ (T.item (dZ X ap cl s3.k.y.q (cD xs X.N++xs) s3 H3 j) ?r ?r ?r (hq Do σ H3 s3 j I3) i [] s5 σ5 H5 (λ_ f=>ef) I5 (stat fr5 ?r) st5 g1) (λr s6 Z=>?_) λ_ f z=>z;let(u,hr,h10):=Z;subst hr;show Ŗ h10 (λ_ s7 Z=>?_) λ_ f z=>z;let(v,H7,I7,r7,y7,st7,fr7):=Z;let(e7,R7,hd):=g2 v H7 y7;let I7':=I7.pinned (stat fr7 ?r)<|T.obj _ _ st7;let e5:=e5.u e7;show Ŗ (hg _ _ _ _ _ s7 σ5 H7 v u (λoa B=>En X.K M μ5.f H7 oa (N++z)/\B=H7) I7' r7
     (M,N++Ϯ xs.f b0,μ5,d,N++z,R7,b3E (E5.zw e7) l5,hd,(by
      change(bd d μ5).o (λx=>(N++Ϯ xs.f b0).ze X.N.f++x)=_;rw[hz,<- hlen,Rm];rfl),λoa E'=>(E',?r))) (λ_ s8 Z=>?_) λ_ f z=>z
    let(σ8,H8,I8,E8,z2):=Z;subst z2;let again:∀{s9:Ø}{H9:Hp}{g:am->ar}{μ9:Hm},Â (dZ X ap cl s3.k.y.q (cD xs X.N++xs) s3 H3 j) ([]++uV j s7.k) σ8 H9 s9->ö π3 (a++[C.D []]).f H3 g μ9.f H9->Rp X.K g H9 μ9->
      En X.K g μ9.f H9 σ8 (N++z)->kP src bd mc me N a.f n (i+1) μ9=a7 aw->
      ∃m,m<n+1/\Uh (dZ X ap cl s3.k.y.q (cD xs X.N++xs) s3 H3 j) X.K tn j π3 (a++[C.D []]).f H3 N xs.f (kP src bd mc me N a.f) aw m s9:=λ{s9 H9 g μ9} I9 e9 R9 E9 g9=>by
     show(n,ς _,.mk (i+1) I9.unpinned (T.keep _ _ _ st7 λb w o e=>(I9.pin ⟨b,o⟩<|bj _<|bj _<|xS w e).1) (λb w=>?_) e9 R9 E9 (hb' _ _ _ hz) g9);let(o,e,_):=T.obj _ _ st7 b w;show(I9.pin ⟨b,o⟩<|bj _<|bj _<|xS w e).2.1
    show Ŗ (hc _ _ _ _ _ s8 _ H8 (λb' B=>∃g,b'=b/\ö M μ5.f H8 g μ6.f B/\Rp X.K g B μ6) I8 (M,_,μ5,b,μ6,R7,E8,h8,λg H9 e9 R9=>(g,?r,e9,R9))) (λok s9 Z=>?_) λ_ f z=>z;let(H9,I9,g,w,e9,R9):=Z;subst w;cases ok with
    |ai=>rw[ac þ];show again I9 (e5.u e9) R9 (E8.zw e9) h9|bt=>
     rw[ad ?r];show bJ h9 ?_;clear h9;intro dy μ7 h11 RD;show cC RD ?_;clear RD;intro μ8 Y h14;show Ŗ (he _ _ _ _ _ s9 _ H9 (λy B=>∃k,ö g μ6.f H9 k μ7.f B/\Rp X.K k B μ7/\Ù X.K k μ7.f B y dy) I9 (g,_,μ6,dy,μ7,R9,E8.zw e9,h11,λk y H10 NQ R10 Ol=>(k,NQ,R10,Ol)))
      (λu' s10 Z=>?_) λ_ f z=>z
     let(y,H10,I10,ry,k,NQ,R10,Ol):=Z;unfold sY at Y;split at Y
     .rename_i zs hz;split at Y
      .rename_i hl;ext Y;let(vs,Om,RC):=R10.D _ zs hz;let eall:=(e5.u e9).u NQ;let hp:k a.f=A.k.y.q:=by rw[eall.pi a.f ∅,q2]
       let(Oo,R11):=R10.put (a:=a.f) (c:=.D (zs++[dy])) (o:=.D (vs++[y])) (ã.Z hz).1 Om (.Q (vs,?r))<|RC.append<|.zv Ol .kk;rw[hp]at Om Oo R11;show Ŗ (FQ (X:=dZ X ap cl s3.k.y.q (cD xs X.N++xs) s3 H3 j) _ s10 _ H10 (.x A.k.y.q) [y] (.x A.k.y.q) [u'] (λ_ B=>B=eo H10 A.k.y.q (.D<|vs++[y])) I10 ?r (.zv ry .kk)
        (A.k.y.q,vs,y,?r,?r,Om,by rw[RC.f];show hl,?r)) (λ_ s11 Z=>?_) λ_ f z=>z
       let(_,H11,I11,_,z):=Z;subst z;show again I11 (eall.u Oo) R11 ((E8.zw<|e9.u NQ).zw Oo) h14
      .ext Y
     .ext Y
 let l4:=loop {s3 with ce:=U,dL:=A.xh+([]:ab (cf×ax)).f} (_,?r);let hst4:tn 0 U:=T.keep 0 _ _ st3 λb w o e=>hk1 b o e;subst hs3;show codeAny_compStart_list l4<|T.self _ 0 _ _ _ hst4 l4
def b2z(O:Ą X ap cl xs)(M:∀Do σ H s a,Â X Do σ H s->q (dZ X ap cl s.k.y.q (cD xs X.N++xs) s H a))(hi:uU q X tg ea (Ϩ X.K mi))(c:∀d μ z,bd d μ=a7 z->z.f=xs.f)(G:∀C fi fq a,PG (dZ X ap cl C (cD xs X.N++xs) fi fq a) tg (Ξ X.K<|gB X.N.f bd))(hc:∀C fi fq a,rB (dZ X ap cl C (cD xs X.N++xs) fi fq a) hZ mc)(B:∀C fi fq a,PE (dZ X ap cl C (cD xs X.N++xs) fi fq a) ii (tM X.K me))(N:∀x,wu ea X.M x=ej x):PE X (.vw ii [(tg,ea,hZ,0)] ap ca) (tM X.K<|jW bd mi mc me):=by
 intro Do s σ H Q I hw;let(π,ρ,μ,d,Z,R,E,J,k):=hw;rw[eval_ListComp];show GQ (use:=b0) O M hi c G hc B N I R E J λp C i j s' w v U h T L g n u back=>?_;let(m,K):=h;show(m,K,λy Y=>(.x p,j,back y λb o A e=>(Y.2 b A).u e,?r,k i _ j w v U))
def b4X(O:Ą X ap cl xs)(a:X.vn=b4)(hi:PI X tg ea (Ϩ X.K mi))(c:∀d μ z,bd d μ=a7 z->z.f=xs.f)(g:∀C fi fq b,PG (dZ X ap cl C (cD xs X.N++xs) fi fq b) tg (Ξ X.K<|gB X.N.f bd))(hc:∀C fi fq b,rB (dZ X ap cl C (cD xs X.N++xs) fi fq b) hZ mc)(e:∀C fi fq b,PE (dZ X ap cl C (cD xs X.N++xs) fi fq b) ii (tM X.K me))(h:∀x,wu ea X.M x=ej x):PE X (.vw ii [(tg,ea,hZ,0)] ap ca) (tM X.K<|jW bd mi mc me):=b2z O (λ_ y y y y y=>a) hi c g hc e h
def b4W(O:Ą X ap cl xs)(hN:X.N.J)(h:X.vn=b4)(hi:PI X tg ea (Ϩ X.K mi))(K:∀d μ z,bd d μ=a7 z->z.f=xs.f)(hg:∀C fi fq q,PG (dZ X ap cl C (cD xs X.N++xs) fi fq q) tg (Ξ X.K<|gB X.N.f bd))(hc:∀C fi fq q,rB (dZ X ap cl C (cD xs X.N++xs) fi fq q) hZ mc)(he:∀C fi fq q,PE (dZ X ap cl C (cD xs X.N++xs) fi fq q) ii (tM X.K me))(hs:∀x,wu ea X.M x=ej x)(hy:X.N[i]?=a7 y)(Z:X.M.xv.qf.B y=a7 .kg)(M:dI (.vw ii [(tg,ea,hZ,0)] ap ca) (a7<|.xk y py) g.line X.M=ej b4):
  PS X (.Assign [.xk y py] (.vw ii [(tg,ea,hZ,0)] ap ca) g) (Ŕ X.K<|dA i<|jW bd mi mc me):=by
 intro n s σ H EN I hw;let(π,ρ,μ,fl,ρ',aw,R,E,A,k):=hw;show u5 A ?_;clear A;intro d ic h1 A;ext A;rw[exec_Assign_Name_used _ _ _ _ M];show Á<|O6 ?_;show Á<|Á ?_;show GQ (use:=a7 (cj (.xk y py) X.M)) (QQ:=λ_ w=>Ç (Ê X.Y X.w) X.A (ej ld.unit) (λ_ Q=>Ç (Ê X.Y X.w) X.A (ej Flow.next) (SP X n EN) X.xe Q) X.xe w) O (λ_ f f f f f=>h) hi K hg hc he hs I R E h1 λp C U B w Y R1 i1 L N u j c v back=>?_;let(m,hn):=L;let I1:Â X n σ B w:=back w.k λb o f e=>e;change Ç (Ê X.Y X.w) X.A (cj (.xk y py) X.M<|.x p) _ X.xe w;show SE ?_;show EX I1 hN hy (.Q Z) (show Í (.x p) (.x p)from ?r) (λs2 I2 (a,sb,J)=>?_)<|.X Z;let G:C≠a:=by
  rcases J with rfl|J
  .show u
  .show ì<|c _ _ J
 show(m,hn.sameBut sb G,λh' T=>É<|É ?_);show(σ.xl i<|a7<|.x p,B,I2.turned (t':=s2.xh) (λb o hb e=>(T.2 b hb).u e) j u (.X N) c v,?_);show k U _ B Y R1<|(E.zw Y).xl i1 i
def cJ!:ME:=λ_ x=>b0
def rH!:MT:=λ_ x=>b0
def dJ!:MS:=λ_ x=>b0
section
variable{X:Cx}{e a b c o:Expr}{m m1 m2 ma mb mc:ME}{pos:Ń}{mt mu:MT}{cN es:List Expr}{ms:MA}{n:Nat}
def cG:QE X e cJ:=⟨λDo s σ H Q I h=>by
 let(p,q,j,d,i,R,E,g,k):=h;ext g⟩
def yT:QT X e rH:=⟨λDo s σ H Q I h=>by
 let(p,q,j,d,i,R,E,g,k):=h;ext g⟩
def b4V:QW X e rH:=⟨λj Do s σ H Q I h=>by
 let(q,u,p,d,i,R,E,g,k):=h;ext g⟩
def fI:QS X st dJ:=⟨λDo s σ H D I h=>by
 let(q,u,p,j,i,g,R,E,d,k):=h;ext d⟩
def yU(p:∀d j μ,g d j μ=b0):QG X e g:=⟨λDo s σ H v u Q I r h=>by
 let(w,j,μ,d,q,R,E,hd,i,k):=h;rw[p]at i;ext i⟩
def rJ(h1:QE X e m1)(p:QE X e m2)(h:∀g μ r,m g μ=a7 r->m1 g μ=a7 r\/m2 g μ=a7 r):QE X e m:=⟨λDo s σ H Q I q=>by
 let(j,g,μ,d,i,R,E,u,k):=q;rcases h g μ _ u with z|z
 .show h1.h Do s σ H Q I (j,g,μ,d,i,R,E,z,k)
 .show p.h Do s σ H Q I (j,g,μ,d,i,R,E,z,k)⟩
def tE{m m1 m2:MT}(h1:QT X e m1)(p:QT X e m2)(h:∀g μ r,m g μ=a7 r->m1 g μ=a7 r\/m2 g μ=a7 r):QT X e m:=⟨λDo s σ H Q I q=>by
 let(j,g,μ,d,i,R,E,u,k):=q;rcases h g μ _ u with z|z
 .show h1.h Do s σ H Q I (j,g,μ,d,i,R,E,z,k)
 .show p.h Do s σ H Q I (j,g,μ,d,i,R,E,z,k)⟩
def kQ{f i j:D->D->Hm->jk}(h:∀x y μ r,f x y μ=a7 r->i x y μ=a7 r\/j x y μ=a7 r) :
  ∀g μ r,aA f ma mb g μ=a7 r->aA i ma mb g μ=a7 r\/aA j ma mb g μ=a7 r:=by
 intro g μ r d;show cC d ?_;clear d;intro p h1 d;show cC d ?_;clear d;intro q k d;rcases h _ _ _ _ d with z|z
 .show .Q<|ń.v (p,h1,ń.v (q,k,z))
 .show .X<|ń.v (p,h1,ń.v (q,k,z))
def tF(h:∀d μ r,m d μ=a7 r->m1 d μ=a7 r\/m2 d μ=a7 r):∀d μ r,aP m d μ=a7 r->aP m1 d μ=a7 r\/aP m2 d μ=a7 r:=by
 intro d μ r g;show cC g ?_;clear g;intro p h1 g;rcases h _ _ _ h1 with z|z
 .show .Q<|ń.v (p,z,g)
 .show .X<|ń.v (p,z,g)
def tG!:ab D->af (ab ae)
 |[]=>a7 []|.p i::r=>(tG r).o (i::·)|_=>b0
def d7!:D->af (ab ae)
 |.L ds=>tG ds|_=>b0
def bC!(ay:jx)(k:ab ae):af D:=(ay.find? λp=>ag<|p.1=k).o (·.2)
def cK!(ay:jx)(k:ab ae)(d:D):jx:=if(bC ay k).qh then ay.o (λp=>if p.1=k then⟨p.1,d⟩else p)else ay++[⟨k,d⟩]
def bE!:D->D->Hm->jk:=λx y μ=>match x with
 |.z a=>match μ[a]? with
  |bb (.dT ay)=>(d7 y).U λk=>(bC ay k).o λd=>⟨d,μ⟩|bb (.dF ay)=>(d7 y).U λk=>(bC ay k).o λd=>⟨d,μ⟩|_=>kL x y μ
 |_=>kL x y μ
def vG!(ay:ab (b9×D))(mb:ME):ME:=λg μ=>(mb g μ).U λp=>(yN p.1).U λk=>(lJ ay k).o λd=>⟨d,p.2⟩
structure ϒ(X:Cx)(x:cf)(ay:ab (b9×D)):Prop where
 ex:∃(p:ar)(vs:ab (b9×V))(ws:ab (b9×ax)),X.mg x=a7 (.x p)/\(p==Ļ)=b3/\(∀h:ê,X.K.In h->h.DictOf (jP X.Y X.w) p ws)/\KV vs ws/\∀π n H,Ŵ X.K π n H vs ay
def b4U(T:ϒ X x ay)(hg:Gl X x)(hd:(x==("__debug__":cf))=b3)(hb:QE X b mb)(h:rG b=b4):QE X (.xy (.xk x p) b ca) (vG ay mb):=⟨by
 let(q,vs,ws,hm,_,U,hv,hk):=T.ex;intro w s σ H Q I hw;let(π,ρ,μ,d,aw,R,E,g,k):=hw;show bJ g ?_;clear g;intro y j h1 g;show cC g ?_;clear g;intro L h2 g;show cI g ?_;clear g;intro d' z g;ext g;let N:∀{H':Hp}{Y:Ø},Â X w σ H' Y->Y.TypeIs (.x q) "dict":=λI'=>(U _ I'.kIn).ja;show FD UE.B (BP h)<|sP I hg hm ?_ hd;show aR (hb.h w s σ H _ I (π,ρ,μ,y,_,R,E,h1,λi Z u G B K=>((i,G,B,K):∃i,ö π μ.f H i j.f u/\Rp X.K i u j/\Ù X.K i j.f u Z y))) λiv s2 (Z,u,A,r1,i,G,B,K)=>?_;show(N A,?_);let ev:=GD K h2;subst ev;let dd:=U _ A.kIn;rcases(hk i j.f u).val L with(O|_)|(v|d2|O|z2|z3)
 .rw[O]at z;ext z
 .rw[O]at z;ext z;let(w',J,M):=Į.some_of (v:=v) (o:=jb ws L) (by rw[<- z2];show hv.val L);show wpAny_getItem_of (FA r1) dd.mapOf J (v,u,A.tok _,M,k i v u G B z3)⟩
def BU!(ay:ab (b9×D))(ma:ME):ME:=λd μ=>(ma d μ).U λp=>(yN p.1).o λk=>⟨.bl (lJ ay k).qh,p.2⟩
def b4P(T:ϒ X x ay)(hg:Gl X x)(hd:(x==("__debug__":cf))=b3)(ha:QE X a ma):QE X (.qq a [.In] [.xk x p] ca) (BU ay ma):=⟨by
 let(q,vs,ws,hm,hs,hD,hv,hk):=T.ex;intro A s σ H Q I hw;let(N,ρ,M,d,aw,R,E,h,k):=hw;show bJ h ?_;clear h;intro y i h1 h;show cI h ?_;clear h;intro u Z h;ext h;show RR (aR (ha.h A s σ H _ I (N,ρ,M,y,_,R,E,h1,λg J j B z G=>((g,B,z,G):∃g,ö N M.f H g i.f j/\Rp X.K g j i/\Ù X.K g i.f j J y))) λiv s2 (J,j,w,r1,g,B,z,G)=>sP w hg hm ?_ hd) ?r;let Y:=GD G Z;subst Y;let O:=hD _ w.kIn;show wpAny_in_of (FA r1) hs O.mapOf (.bl _,j,w.tok _,?r,?_);let U:(jb ws u).qh=(lJ ay u).qh:=by rw[<- (hv.val u).isSome_eq];rcases(hk g i.f j).val u with(K|L)|(v|d2|K|L|z3)<;>rw[K,L]<;>rfl
 rw[U];show k g _ j B z<|.bl _⟩
def GR{σ:St}(I:Â X Do σ H s)(h:X.K.B p=a7 ob):H p=bp:=(I.bs p ob<|I.mod.kin p ob h).2
def GS(R:Rp K π H μ)(j:d<μ.f):∃u,H (π d)=a7 u/\(∀vs,u≠.L vs)/\∀ob v,(∀i,v≠HO.ext i)->u≠.frz ob v:=by
 cases q:μ[d]? with
 |bp=>show cb (Κ.Z q) ()|bb cl=>
  cases cl with
  |hG g=>let(vs,h,_):=R.D d g q;show(_,h,(λ_ z=>nomatch z),λ_ y y z=>nomatch z)|dK g=>let(vs,h,_):=R.dK d g q;show(_,h,(λ_ z=>nomatch z),λ_ y y z=>nomatch z)|st g=>let(vs,h,_):=R.st d g q;show(_,h,(λ_ z=>nomatch z),λ_ y y z=>nomatch z)|dT g=>let(vs,h,_):=R.dT d g q;show(_,h,(λ_ z=>nomatch z),λ_ y y z=>nomatch z)|dF g=>let(ob,vs,h,_):=R.dF d g q;show(_,h,(λ_ z=>nomatch z),λ_ y n z=>n _<|by ext z;rfl)|ins x fs=>let(_,h,_,_,_,?r,_):=R.ins d x fs q;show(_,h,(λ_ z=>nomatch z),λ_ y y z=>nomatch z)
section
variable{Do:jw}{σ:St}{H:Hp}{s:Ø}{π:Nat->Addr}{μ:Hm}
def GU(I:Â X Do σ H s)(R:Rp X.K π H μ)(j:g<μ.f)(h:à X.K H (π g) vs):ef:=by
 let(u,d,h1,i):=GS R j;rcases h with⟨h|(ob|h)⟩|(ob|b5|n|k|_)
 .rw[d]at h;show h1 _<|Ĕ h
 .rw[d]at h;show i _ (.L vs) (λp z=>nomatch z)<|Ĕ h
 .rw[GR I k]at d;ext d
def GV(I:Â X Do σ H s)(R:Rp X.K π H μ)(j:g<μ.f)(h:bw X.K H (π g) vs):ef:=by
 let(u,d,h1,i):=GS R j;rcases h with(ob|h)|(ob|b5|n|k|_)
 .rw[d]at h;show i _ (.D vs) (λp z=>nomatch z)<|Ĕ h
 .rw[GR I k]at d;ext d
def GW(I:Â X Do σ H s)(h:à X.K H p vs)(h':bw X.K H p ws):ef:=by let(b5,_,t,_):=I.kl h;let(d,_,l,_):=I.vu h'.sq;show cb ?r<|qx l.xc t
mutual
theorem BV(I:Â X Do σ H s)(R:Rp X.K π H μ){v:V}{d d':D}:Ù X.K π μ.f H v d->Ù X.K π μ.f H v d'->d=d'
 |.kf,h'=>by ext h';rfl
 |.bl _,h'=>by ext h';rfl
 |.p _,h'=>by ext h';rfl
 |.jv _,h'=>by ext h';rfl
 |.ty _,h'=>by ext h';rfl
 |.L h t,h'=>by
  cases h' with
  |f6 g i=>have:=I.tuple_inj h g;subst ah;rw[BW I R t i]|oe g i=>show(GW I h g).vl|lp g=>show(GU I R g h).vl
 |.rol h t,h'=>by
  cases h' with
  |f6 g i=>show(GW I g h).vl|oe g i=>have:=I.list_inj h.sq g.sq;subst ah;rw[BW I R t i]|lp g=>show(GV I R g h).vl
 |.z (a:=a1) ha,h'=>by
  generalize hz:V.x (π a1)=z at h';cases h' with
  |f6 g i=>ext hz;show(GU I R ha g).vl|oe g i=>ext hz;show(GV I R ha g).vl|lp g=>have:=R.inj _ _ ha g<|V.x.inj hz;rw[ah]|_=>ext hz
theorem BW(I:Â X Do σ H s)(R:Rp X.K π H μ){vs:gz}{ds d:ab D}:È X.K π μ.f H vs ds->È X.K π μ.f H vs d->ds=d
 |.kk,h'=>by ext h';rfl
 |.zv h t,h'=>by
  cases h' with
  |bm g i=>rw[BV I R h g,BW I R t i]
end
end
def oJ!(μ:Hm)(x:D):ab D->af av
 |[]=>a7 b3|y::r=>(eX 8 μ y x).U λb=>(oJ μ x r).o λc=>b||c
def oK!(a:av):D->D->Hm->jk:=λx y μ=>(bW μ y).U λc=>(oJ μ x c).o λb=>⟨.bl<|if a then !b else b,μ⟩
def BX!(K:Ï)(a:av):R2:=λx y H Q=>∃π μ c d e b,Rp K π H μ/\Ù K π μ.f H x c/\Ù K π μ.f H y d/\bW μ d=a7 e/\oJ μ c e=a7 b/\Q (.bl<|if a then !b else b) H
def yV{c:av}:eU K (oK c) (BX K c):=by intro e H q x y d n o p Q R h i a k;show cC a ?_;clear a;intro j h1 a;show cI a ?_;clear a;intro b g a;ext a;show(e,_,x,y,j,b,R,h,i,h1,g,k e _ H .ki R<|.bl _)
def yW{σ:St}(I:Â X Do σ H s)(R:Rp X.K π H μ)(O:A.qv+8<ă)(rx:Í x v)(Y:Ù X.K π μ.f H x k):
  ∀{e}{vs}{us}{b},È X.K π μ.f H vs e->Æ vs us->oJ μ k e=a7 b->
   ∃g,(∀u∈us,ut A s u v (g u))/\us.any g=b:=by
 classical
 intro e vs us b hi j a
 let o:∀{e:ab D}{vs:gz}{us:gw}{b:av},È X.K π μ.f H vs e->Æ vs us->oJ μ k e=a7 b->(∀u∈us,∃c,ut A s u v c/\∃w n,Í w u/\Ù X.K π μ.f H w n/\eX 8 μ n k=a7 c):=by
  intro e
  induction e with
  |fk=>
   intro vs us b hi j a u d
   ext hi
   ext j
   ext d
  |bm y e G=>
   intro vs us b hi j a u d
   cases hi with
   |bm h t=>
    cases j with
    |bm r rt=>
     show cC a ?_
     clear a
     intro c h1 a
     show cI a ?_
     clear a
     intro L B a
     rcases ē.Z d with rfl|d
     .show(c,BF I R 8 O r rx h Y h1,_,_,r,h,h1)
     .show G t rt B u d
 let p:=o hi j a
 show(λu=>if h:u∈us then wy (p u h)else b3,λu d=>?_,?_)
 .dsimp[oy d]
  show(OU<|p u d).1
 .let io:∀u (h:u∈us) w n c,Í w u->Ù X.K π μ.f H w n->eX 8 μ n k=a7 c->wy (p u h)=c:=by
   intro u h w n c J U K
   let(_,w2,M,Z,T,N):=OU<|p u h
   have:w2=w:=Z.inj J
   subst ah
   have:=BV I R T U
   subst ah
   rw[N]at K
   show Ĕ K
  let q:∀{e:ab D}{vs:gz}{i:gw}{b:av},(∀u∈i,u∈us)->È X.K π μ.f H vs e->Æ vs i->oJ μ k e=a7 b->i.any (λu=>if h:u∈us then wy (p u h)else b3)=b:=by
   intro e
   induction e with
   |fk=>
    intro vs i b E hi j a
    ext hi
    ext j
    ext a
    rfl
   |bm y e G=>
    intro vs i b E hi j a
    cases hi with
    |bm h t=>
     cases j with
     |@bm _ u _ us2 r rt=>
      show cC a ?_
      clear a
      intro c h1 a
      show cI a ?_
      clear a
      intro L B a
      have iI:u∈us:=E u<|ŗ ..
      rw[vm,G (λz Q=>E z<|ķ _ Q) t rt B,oy iI,io u iI _ _ c r h h1]
      show a
  show q (λ_ h=>h) hi j a
def yX(r:Þ k A):A.qv+9<ă:=by have:=r.un;lia
def GX(G:X.A.qv+9<ă):Ē X (Ķ .In) (BX X.K b3):=by
 intro k s N H x y v u Q I j A h;let(M,L,B,E,K,b,R,i,z,n,e,q):=h;let(p,J,?r,a,hd):=rF R z n;ext A;rcases a with a|a
 .let(b5,r,pl,o):=I.vu a;let(g,c,d):=yW I R (A:=X.A.in1) (by rw[lX];lia) j i hd r e;show mn.in_listAt g pl.xc (λw hw=>c w<|by apply hw) (.bl _,H,I,?r,?_);rw[show b5.E.any g=b5.any g by simp,d];show q
 .let(b5,r,pl,o):=I.kl a;let(g,c,d):=yW I R (A:=X.A.in1) (by rw[lX];lia) j i hd r e;show mn.in_tupleAt g pl (λw hw=>c w<|by apply hw) (.bl _,H,I,?r,?_);rw[show b5.E.any g=b5.any g by simp,d];show q
def GY(G:X.A.qv+9<ă):Ē X (Ķ .NotIn) (BX X.K b4):=by
 intro k s N H x y v u Q I j A h;let(M,L,B,E,K,b,R,i,z,n,e,q):=h;let(p,J,?r,a,hd):=rF R z n;ext A;rcases a with a|a
 .let(b5,r,pl,o):=I.vu a;let(g,c,d):=yW I R (A:=X.A.in1) (by rw[lX];lia) j i hd r e;show mn.notIn_listAt g pl.xc (λw hw=>c w<|by apply hw) (.bl _,H,I,?r,?_);rw[show b5.E.any g=b5.any g by simp,d];show q
 .let(b5,r,pl,o):=I.kl a;let(g,c,d):=yW I R (A:=X.A.in1) (by rw[lX];lia) j i hd r e;show mn.notIn_tupleAt g pl (λw hw=>c w<|by apply hw) (.bl _,H,I,?r,?_);rw[show b5.E.any g=b5.any g by simp,d];show q
def dB!(b:av):D->D->Hm->jk
 |.jv i,.jv j,μ=>a7 ⟨.bl<|if b then !(!(lg j i 0 j.f 1).qk)else !(lg j i 0 j.f 1).qk,μ⟩|x,.z a,μ=>match μ[a]? with
  |bb (.dT ay)=>(d7 x).o λk=>⟨.bl<|if b then !(bC ay k).qh else(bC ay k).qh,μ⟩|bb (.dF ay)=>(d7 x).o λk=>⟨.bl<|if b then !(bC ay k).qh else(bC ay k).qh,μ⟩|_=>oK b x (.z a) μ
 |x,y,μ=>oK b x y μ
def BY!:D->D->Hm->jk
 |.jv i,.jv j,μ=>a7 ⟨.bl<|!(!(lg j i 0 j.f 1).qk),μ⟩|_,_,_=>b0
def G0:eU K BY (λx y H Q=>∃i j,x=.jv i/\y=.jv j/\Q (.bl<|!(!(lg j i 0 j.f 1).qk)) H):=by
 intro g H o x y d e h n Q R b c a k;unfold BY at a;split at a
 .ext a;ext b;ext c;show(_,_,?r,?r,k g _ H .ki R<|.bl _)
 .ext a
def nF!(a:av):D->D->Hm->jk
 |x,.kf,μ=>a7 ⟨.bl<|match x with|.kf=>!a|_=>a,μ⟩|_,_,_=>b0
def G1:eU K (nF b3) (λx y H Q=>y=.kf/\Q (.bl<|ag<|x=.kf) H):=by
 intro g H j x y d e h i Q R b c a k;unfold nF at a;split at a
 .ext a;ext c;show(?r,?_);ext b<;>show k g _ H .ki R<|.bl _
 .ext a
def G3:eU K (nF b4) (λx y H Q=>y=.kf/\Q (.bl<|!ag (x=.kf)) H):=by
 intro g H j x y d e h i Q R b c a k;unfold nF at a;split at a
 .ext a;ext c;show(?r,?_);ext b<;>show k g _ H .ki R<|.bl _
 .ext a
def b4O(c:QE X a ma)(d:QE X b mb):QE X (.qq a [.Is] [b] ca) (aA (nF b3) ma mb):=⟨iT Fh G1 c.h d.h<|gH _⟩
def b4N(c:QE X a ma)(d:QE X b mb):QE X (.qq a [.IsNot] [b] ca) (aA (nF b4) ma mb):=⟨iT Fi G3 c.h d.h<|gH _⟩
def b4M(c:QE X a ma)(d:QE X b mb):QT X (.qq a [.Is] [b] ca) (aP<|aA (nF b3) ma mb):=⟨iU Fh G1 c.h d.h<|gH _⟩
def b4L(c:QE X a ma)(d:QE X b mb):QT X (.qq a [.IsNot] [b] ca) (aP<|aA (nF b4) ma mb):=⟨iU Fi G3 c.h d.h<|gH _⟩
end
def rK!(μ:Hm):D->av
 |.rol _=>b4|.z a=>match μ[a]? with|bb (.D _)=>b4|_=>b3
 |_=>b3
def eH!(f:D->ab D->Hm->jk)(mo:ME)(ms:MA):ME:=λd μ=>(mo d μ).U λp=>match rK p.2 p.1 with
 |bt=>(ms d p.2).U λq=>f p.1 q.1 q.2|ai=>b0
def l9!(K:Ï)(f:D->ab D->Hm->jk)(r:V->gz->Hp->VK->Prop):Prop:=
 ∀i H g x k d h v j Q,Rp K i H g->Ù K i g.f H v x->È K i g.f H j k->f x k g=a7 ⟨d,h⟩->KC K Q i g.f H d h->r v j H Q
open _root_ in
def b4K(R:Rp K π H μ)(h:Ù K π μ.f H v x)(e:rK μ x=b4):Bu K "list" v H:=by
 cases h with
 |oe h t=>show .Q (?r,_,h.sq)|@lp a j=>
  dsimp[rK]at e;split at e
  .rename_i i d;let(g,h1,_):=R.D a i d;show .Q (?r,g,.of h1)
  .ext e
 |_=>ext e
open _root_ in
def b4F(G:l9 K f r):∀σ H Q,tM K (eH f mo ms) σ H Q->FL K "list" r (tM K mo) (ŵ K ms) σ H Q:=by
 rintro σ H Q (O|z|N|d|j|R|E|g|k);show bJ g ?_;clear g;intro x h h1 g;dsimp at g;split at g
 .rename_i I;show bJ g ?_;clear g;intro y i B g;show(O,z,N,x,h,R,E,h1,λp L T u s w=>(b4K s w I,p,z,h,y,i,s,E.zw u,B,λq M A v R2 J=>?_));show G q A i x y d j L M Q R2 (w.zw v) J g<|k.after<|u.u v
 .ext g
def gW!:bo->av
 |.xz (.xk _ _) [] [] _=>b3|_=>b4
def mB(h:gW o=b4):jj o g eA d=d:=by
 cases o with
 |Call f ck i p=>
  cases f with
  |Name id q=>
   cases ck with
   |fk=>
    cases i with
    |fk=>ext h|bm _ _=>rfl
   |bm _ _=>rfl
  |_=>rfl
 |_=>rfl
def G4(h:(e::es).all fR=b4)(g:(e::es).f<30):
  ((ĵ fb (ð (e::es) eA)).all (λx=>!x.1)&&(ak fb (au [] eA)).all (λx=>x.1.qh)
   && ag ((e::es).f+([]:ab ϻ).f+(if([]:ab ϻ).qk then 0 else 1)<30))=bt:=by
 let h1:(ĵ fb (ð (e::es) eA)).all (λx=>!x.1)=bt:=by have:=l7 (ca:=fb) (eA:=eA) h;rw[Tr];apply ah
 rw[h1];let d:(e::es).f+([]:ab ϻ).f+(if([]:ab ϻ).qk then 0 else 1)<30:=by change(e::es).f+0+0<30;lia
 rw[cc d];rfl
def yY{id:cq}(h:Slot "list" fg id)(i:NS (.zn id)=ej (.O "method_descriptor"))(q:mZ X id r)(k:l9 X.K f r)(u:QE X o mo)(j:QA X (e::es) ms n)(v:gW o=b4)(p:(f8.ku==fb.line)=b4)(s:(e::es).f<30):QE X (.xz (.zk o fg f8) (e::es) [] fb) (eH f mo ms):=by
 let g:=j.s;let d:=g;rw[İ,â]at d;show⟨eL (b6X ci.F.plainAttrs_list h i q u.h j.h (mB v) (G4 g s) p (fS d.1)<|l7 d.2)<|b4F k⟩
def fT!:D->ab D->Hm->jk
 |.z a,[y],μ=>(sY μ a y).o λd=>⟨.kf,d⟩|_,_,_=>b0
def pU!:D->ab D->Hm->jk
 |.z a,[.z b],μ=>match μ[a]?,μ[b]? with
  |bb<|.D xs,a7 (.D ys)=>if xs.f+ys.f<=Ò then a7 ⟨.kf,μ.xl a<|.D<|xs++ys⟩else b0|_,_=>b0
 |_,_,_=>b0
def b4A(h:È K π n H vs ds):È K π n H vs.zd ds.zd:=by
 induction ds generalizing vs with
 |fk=>ext h;show .kk|bm d ds g=>
  cases h with
  |bm h t=>rw[N3,N3];show(g t).append<|.zv h .kk
open _root_ in
def b3z:l9 K fT FP:=by
 intro J H N x M d G v L Q R B h g k;unfold fT at g;split at g
 .rename_i a y;show cI g ?_;clear g;intro I h1 g;ext g;unfold sY at h1;split at h1
  .rename_i s q;split at h1
   .rename_i z;ext h1;let(i,j,p):=R.D a s q;ext B;cases h with
    |bm E A=>ext A;let(w,u):=R.put (a:=a) (c:=.D (s++[y])) (o:=.D (i++[_])) (ã.Z q).1 j (.Q (i,?r))<|p.append<|.zv E .kk;show(_,i,_,?r,?r,j,by rw[p.f];show z,k J _ _ w u .kf)
   .ext h1
  .ext h1
 .ext g
open _root_ in
def b3y:l9 K pU FR:=by
 intro N H U x T d M v O Q R J h g k;unfold pU at g;split at g
 .rename_i a b;split at g
  .rename_i y w s G;split at g
   .rename_i E;ext g;let(i,j,p):=R.D a y s;let(u,B,q):=R.D b w G;ext J;cases h with
    |bm L I=>ext I;ext L;let(A,z):=R.put (a:=a) (c:=.D (y++w)) (o:=.D (i++u)) (ã.Z s).1 j (.Q (i,?r))<|p.append q;show(_,_,i,u,?r,?r,j,B,by rw[p.f,q.f];show E,k N _ _ A z .kf)
   .ext g
  .ext g
 .ext g
def pV!:D->ab D->Hm->jk
 |.z a,[.p i],μ=>match μ[a]? with
  |bb (.D xs)=>if 0<=i/\i<2^62 then(xs[i.zi]?).o λy=>⟨y,μ.xl a<|.D<|xs.vc i.zi⟩else b0|_=>b0
 |_,_,_=>b0
def b3v(h:È K π n H vs ds)k:È K π n H (vs.vc k) (ds.vc k):=by rw[U2,U2];show(h.ze k).append<|h.kw<|k+1
def b3u(h0:0<=i)(h:i.zi<n):zb i n=a7 i.zi:=by let e:(if i<0 then i+(n:ae)else i)=i:=ac ();ext zb;dsimp;rw[e,ad<|by rw[â,cx,cx];lia]
open _root_ in
def b4u:l9 K pV FT:=by
 intro M H T x O d L v N Q R I h g k;unfold pV at g;split at g
 .split at g
  .rename_i z u;split at g
   .rename_i E;show cI g ?_;clear g;intro y h1 g;ext g;let(i,p,q):=R.D _ z u;ext I;cases h with
    |bm G J=>ext G;ext J;let(w,s,B):=q.get h1;let(j,A):=R.put (c:=.D (z.vc _)) (o:=.D (i.vc _)) (ã.Z u).1 p (.Q (i,?r))<|b3v q _;let hw:=(ã.Z s).1;show(_,i,_,_,w,?r,?r,p,(),(),b3u E.1 hw,s,k M w _ j A<|B.zw j)
   .ext g
  .ext g
 .ext g
def nG!(μ:Hm):D->af av
 |.kf=>a7 b3|.bl b=>a7 b|.p i=>a7 (i != 0)|.jv z=>if z.f<=Ò then a7 ((z.f:ae) != 0)else b0|.L xs=>a7 (!xs.qk)|.rol xs=>a7 (!xs.qk)|.z a=>match μ[a]? with|bb (.D xs)=>a7 (!xs.qk)|bb (.dK ay)=>a7 (!ay.qk)|_=>b0
 |.ty _=>b0
def yZ{g i:Type}{xs:ab g}{d:ab i}(h:xs.f=d.f):xs.qk=d.qk:=by ext xs<;>ext d<;>first|rfl|ext h
open _root_ in
def b4t(R:Rp K π H μ)(h:Ù K π μ.f H v x)(e:nG μ x=a7 b):Bl K v H b:=by
 cases h with
 |g7=>ext e;rfl|bl c=>ext e;rfl|gv i=>ext e;rfl|gy z=>
  dsimp[nG]at e;split at e
  .rename_i p;ext e;show(p,?r)
  .ext e
 |f6 h t=>ext e;show .X (.Q (_,h,by rw[yZ t.f]))|oe h t=>ext e;show .Q (_,h.sq,by rw[yZ t.f])|@lp a s=>
  dsimp[nG]at e;split at e
  .rename_i q g;ext e;let(k,h1,d):=R.D a q g;show .Q (k,.of h1,by rw[yZ d.f])
  .rename_i j g;ext e;let(k,h1,d,_):=R.dK a j g;show .X<|.X (k,h1,?_);have:=br ģ d;rw[Ä,Ä]at ah;rw[yZ ah]
  .ext e
 |ty n=>ext e
def c7!(m:ME):MT:=λd μ=>(m d μ).U λp=>(nG p.2 p.1).o λb=>⟨b,p.2⟩
def b4s(h:QE X e m)(s:BQ e=b4):QT X e (c7 m):=⟨yC (b0L h.h<|b5b s)<|by
 rintro I H Q (z|A|v|b|w|R|E|d|k);show bJ d ?_;clear d;intro x y h1 d;show cI d ?_;clear d;intro B q d;ext d;show(z,A,v,x,_,R,E,h1,λg G j p i u=>(_,b4t i u q,k g j p i))⟩
def b4q(F:đ X.Y X.w X.K X.mg X.ka gR k f j ps (gT X.K 0 q))(w:Þ k X.A)(g:X.mg x=a7 (.x f))(v:ϟ X.K (.x f)=b4)(s:ó X.K j ps [])(u:Gl X x)(h:(x==("__debug__":cf))=b3):QE X (.xz (.xk x p) [] [] ca) (bI q aD):=
 ⟨eL (b3n F w u g v s .kk (E:=E0) uY h)<|by
  rintro I H Q (A|G|y|d|i|R|E|g|k);show bJ g ?_;clear g;intro B z h1 g;ext h1;show(?r,A,[],y,d,i,R,.kk,g,k)⟩
def rL!(c:MT)(b:MS):am->MS
 |0,_,_=>b0|n+1,ρ,μ=>(c ρ μ).U λp=>match p.1 with
  |ai=>a7 ⟨.nx,ρ,p.2⟩|bt=>(b ρ p.2).U λq=>match q.1 with
   |.nx=>rL c b n q.2.1 q.2.2|.ct=>rL c b n q.2.1 q.2.2|.bk=>a7 ⟨.nx,q.2.1,q.2.2⟩|.rt d=>a7 ⟨.rt d,q.2.1,q.2.2⟩
def tH!(n:am)(c:MT)(b:MS):MS:=rL c b n
def b4p{mt:MT}n(hc:QT X c mt)(hb:QB X gi mb)(hp:yw (Ê X.Y X.w) X.A X.M X.xe):QS X (.While c gi [] ca) (tH n mt mb):=⟨lV (b8a hp hc.h hb.h)<|by
 rintro E σ H (π|ρ|Z|U|I|B|R|EN|hm|k);let s:∀{h:am->ar}{n2:am}{H2:Hp}(e:ö π Z.f H h n2 H2),qZ X.K E h n2 H2 U I B:=λ{h n2 H2} e=>by
  cases U with
  |nx=>show λi v A j z L=>k i v A (e.u j) z L|bk=>show λi v A j z L=>k i v A (e.u j) z L|ct=>show λi v A j z L=>k i v A (e.u j) z L|rt d=>show KC.after k e
 show(λm x y=>∃h p u,ö π Z.f H h p.f y/\Rp X.K h y p/\En X.K h p.f y x u/\rL mt mb m u p=a7 ⟨U,I,B⟩,(n,π,Z,ρ,.ki,R,EN,hm),?_);rintro m σ1 H1 (h|p|u|O|R2|E2|h2);cases m with
 |ij=>ext h2|im m=>
  show bJ h2 ?_;clear h2;intro b T h3 h4;show(h,u,p,b,T,R2,E2,h3,λi A j z=>?_);cases b with
  |ai=>show pO ?_;ext h4;show s O i σ1 A j z (E2.zw j)|bt=>
   show pP ?_;obtain((f4|J|G)|h5|Y):=ń.Z h4;show(λx y=>∃g w q,ö π Z.f H g q.f y/\Rp X.K g y q/\En X.K g q.f y x w/\rL mt mb m w q=a7 ⟨U,I,B⟩,
    λx y (g,w,q,a1,a2,a3,a4)=>(m,ς _,g,q,w,a1,a2,a3,a4),i,u,T,f4,J,G,z,E2.zw j,h5,?_)
   cases f4 with
   |nx=>show λg K H5 Q N M=>(g,J,G,(O.u j).u Q,N,M,Y)|ct=>show λg K H5 Q N M=>(g,J,G,(O.u j).u Q,N,M,Y)|bk=>ext Y;show λg K H5 Q N M=>s (O.u j) g K H5 Q N M|rt d'=>
    ext Y;show s<|O.u j⟩
def b4Z:QS X (.Return b0 ca) (aM<|mC .kf):=⟨lV a8r<|by
 rintro E u H (h|s|q|p|i|g|R|j|d|k);ext d;show k h .kf H .ki R .kf⟩
def tI!:ab D->af (ab av)
 |[]=>a7 []|.bl b::r=>(tI r).o (b::·)|_=>b0
def zA!:MF:=λds μ=>match ds with
 |[x]=>(bW μ x).U λa=>(tI a).o λbs=>⟨.bl<|bs.all id,μ⟩|_=>b0
def G5:∀{xs}{vs}{bs},È K π n H vs xs->tI xs=a7 bs->vs=bs.o V.bl
 |[],_,bs,h,e=>by ext h;ext e;rfl
 |x::xs,vs,bs,h,e=>by
  cases h with
  |bm h t=>
   cases x with
   |bl b=>show cI e ?_;clear e;intro a h1 c;subst c;ext h;rw[G5 t h1];rfl|_=>ext e
def G6!(K:Ï)(g:ab av->av):gz->Hp->VK->Prop:=λxs H Q=>∃p bs,xs=[.x p]/\(Ā K H p (bs.o V.bl)\/à K H p (bs.o V.bl))/\Q (.bl<|g bs) H
def b4Y{f:MF}(c:f=λds μ=>match ds with|[x]=>(bW μ x).U λxs=>(tI xs).o λbs=>⟨.bl<|g bs,μ⟩|_=>b0):e8 K f (G6 K g):=by
 subst c;intro h H μ xs d e j Q R i a k;dsimp at a;split at a
 .let(o,h1,a):=ń.Z a;show cI a ?_;clear a;intro bs b a;ext a;cases i with
  |bm i t=>ext t;let(p,n,?r,q,hd):=rF R i h1;have:=G5 hd b;subst ah;show(p,bs,?r,q,k h _ H .ki R<|.bl _)
 .ext a
def G7{bs:ab av}(a:n=bs.f):(Ĉ n).all (λi=>bs.I i b3)=bs.all id:=by
 subst a;induction bs with
 |fk=>rfl|bm b bs c=>rw[ĩ,Qr,İ,Pl,İ,<- c];rfl
def G8{bs:ab av}(r:Æ (bs.o V.bl) b5):TruthOf dv w A (λi v=>b5.E[i]?=a7 v) (λi=>bs.I i b3):=by
 intro i v s Q E d b;let a:b5[i]?=a7 v:=by apply d
 let hi:i<bs.f:=by have:=(ã.Z a).1;have:=r.f;rw[Ä]at ah;lia
 let(u,h1,c):=r.get (i:=i) (x:=.bl bs[i]) (by rw[ĉ,Ċ hi];rfl);rw[a]at h1;ext h1;ext c;let e:bs.I i b3=bs[i]:=by simp[į,hi]
 dsimp at b;rw[e]at b;show J3 b
def SPr(hc:X.vn=b4):ß X (.zn "all") (G6 X.K (·.all id)):=by
 intro x s G H E B Q I r h;let(p,bs,?r,d,q):=h;let(u,?r,A):=hJ r;ext A;let w:X.A.in1.xt=bp:=I.ok.hd hc;rcases d with d|d
 .let(b5,g,pl,z):=I.vu d;show call_all_walk<|ww pl.xc ?_;let c:p≠s.k.y.q:=by let(o,k,_):=pl.xc;show ý<|Ý k
  show(s.k.y.q,_,_,_,_,_,λi=>bs.I i b3,?r,PY w _ p c b5.E,((_,ÿ _ ?r,?r,?r),pl.xc.zl _),G8 g,λy v n=>?_);let a:b5.E.q=bs.f:=by rw[Ģ,<- g.f,Ä]
  show(.bl _,H,I.vx (t':=v) λb o e=>n b o ?_<|ä _ e,?r,?_)
  .intro j;have:b=s.k.y.q:=by apply j
   show ý (Ý e) ah
  .rw[G7 a];show q
 .let(b5,g,pl,z):=I.kl d;show call_all_walk<|b7 (show s.k.ko p b5.E from pl) ?_;let c:p≠s.k.y.q:=by let(o,k,_):=pl;show ý<|Ý k
  show(s.k.y.q,_,_,_,_,_,λi=>bs.I i b3,?r,PR w _ p c b5.E,((_,ÿ _ ?r,?r,?r),zr pl _),G8 g,λy v n=>?_);let a:b5.E.q=bs.f:=by rw[Ģ,<- g.f,Ä]
  show(.bl _,H,I.vx (t':=v) λb o e=>n b o ?_<|ä _ e,?r,?_)
  .intro j;have:b=s.k.y.q:=by apply j
   show ý (Ý e) ah
  .rw[G7 a];show q
open PyProof.Rows (IntsAre)
open PySem.W (KasT kas_asc kas_desc kas_tail3 kas_descPart kas_count kas_place kas_bin kas_sort kas_rev kas_ask)
def vH!(ans:am->am->av):KasT b->b
 |.ret a=>a|.ask i j k=>vH ans<|k<|ans i j
def Ő!(n:am)(R:c->Prop):KasT c->Prop
 |.ret a=>R a|.ask i j k=>i<n/\j<n/\∀b,Ő n R (k b)
def Ő.bind{R:c->Prop}{R':e->Prop}{f:c->KasT e}(d:∀a,R a->Ő n R' (f a)):∀{t},Ő n R t->Ő n R' (t.U f)
 |.ret a,q=>d a q|.ask i j k,q=>(q.1,q.2.1,λb=>Ő.U d<|q.2.2 b)
def G9{R:c->Prop}(hc:∀i j (C:av->Ø->Prop),i<n->j<n->C (ans i j) s->b i j C s){Q:c->Ø->Prop}:
  ∀{t},Ő n R t->Q (vH ans t) s->t.kasWp b Q s
 |.ret a,_,q=>q|.ask i j k,h,q=>hc i j _ h.1 h.2.1<|G9 hc (h.2.2 _) q
def Ha{R:b->Prop}:∀{t},Ő n R t->R (vH ans t)
 |.ret a,q=>q|.ask i j k,h=>Ha (t:=k (ans i j))<|h.2.2 _
def Đ!(n:am)(p:eh am):Prop:=p.Perm (Ĉ n).E
def Đ.lt{n:am}{p:eh am}(h:Đ n p)(h0:0<n)(i:am):p.I i 0<n:=by
 by_cases hi:i<p.q
 .let e:p.I i 0=p[i]:=by simp[RI,hi]
  rw[e];let b:p[i]∈p:=eh.getElem_mem hi;let a:p[i]∈(Ĉ n).E:=h.mem_iff.Z b;apply a
 .let e:p.I i 0=0:=by simp[RI,hi]
  rw[e];show h0
def Đ.rev(h:Đ n p)i j:Đ n (yr p i j):=(b7x _ _ _ _).u h
def Đ.bub(h:Đ n p)i j:Đ n (b7E p i j):=(b7D _ _ _).u h
def BZ(h:Đ n p)(h0:0<n):∀f m,Ő n (λ_=>ng) (kas_asc p f m)
 |0,m=>fw
 |f+1,m=>(h.lt h0 _,h.lt h0 _,λb=>by
   cases b with
   |bt=>show fw
   |ai=>show BZ h h0 f<|m+1)
def zB(h0:0<n):∀f p m q,Đ n p->Ő n (λr=>Đ n r.1) (Ou f p m q)
 |0,p,m,q,h=>h
 |f+1,p,m,q,h=>(h.lt h0 _,h.lt h0 _,λb=>by
   cases b with
   |bt=>
    change Ő n _ (if q>0 then Ou f (yr p (m-(q+1)) m) (m+1) 0 else Ou f p (m+1) 0);lk
    .show zB h0 f _ _ _<|h.rev _ _
    .show zB h0 f _ _ _ h
   |ai=>
    show(h.lt h0 _,h.lt h0 _,λd=>?_);cases d with
    |bt=>show h
    |ai=>show zB h0 f _ _ _ h)
def Hb(h0:0<n)(h:Đ n p)a r:Ő n (λr=>Đ n r.2) (Nt a r p):=
 by
 let b:Đ n (yr p 0 a):=h.rev 0 a;ext Nt;show Ő.U (R:=λ_=>ng) (λm x=>?_)<|BZ b h0 _ _;show b
def Hc(h0:0<n)(h:Đ n p)a r:Ő n (λr=>Đ n r.2) (PB a r p):=
 Ő.U (λq b=>by
  change Ő n _ (if q.2.2>0 then Nt q.2.1 r (yr q.1 (q.2.1-(q.2.2+1)) q.2.1)else Nt q.2.1 r q.1);lk
  .show Hb h0 (b.rev _ _) _ _
  .show Hb h0 b _ _)<|zB h0 _ _ _ _ h
def LqI(h0:0<n)(h:Đ n p)r:Ő n (λr=>Đ n r.2) (kas_count r p):=
 Ő.U (λm x=>by
  change Ő n _ (if(m==r)=b4 then Nx ⟨m,p⟩else if m>1 then KasT.ask (p.I 0 0) (p.I (m-1) 0) (λc=>if c=b4 then Nx ⟨m,p⟩else PB m r (yr p 0 m))else PB m r p);lk
  .show h
  .lk
   .show(h.lt h0 _,h.lt h0 _,λb=>?_);cases b with
    |bt=>show h|ai=>show Hc h0 (h.rev _ _) _ _
   .show Hc h0 h _ _)<|BZ h h0 _ _
def B0(h:Đ n p)(h0:0<n)k:∀f l r,Ő n (λ_=>ng) (P5 p k f l r)
 |0,l,r=>fw|f+1,l,r=>by
  change Ő n _ (if l >= r then Nx l else KasT.ask (p.I k 0) (p.I ((l+r)/2) 0) λc=>if c=b4 then P5 p k f l ((l+r)/2)else P5 p k f ((l+r)/2+1) r);lk
  .show fw
  .show(h.lt h0 _,h.lt h0 _,λb=>?_);cases b with
   |bt=>show B0 h h0 k f _ _|ai=>show B0 h h0 k f _ _
def Hd(h0:0<n):∀f p k,Đ n p->Ő n (Đ n) (kas_bin f p k)
 |0,p,k,h=>h|f+1,p,k,h=>Ő.U (λl x=>Hd h0 f _ _<|h.bub _ _)<|B0 h h0 k _ _ _
def tJ(h0:0<n):Ő n (Đ n) (Ov n):=
 Ő.U (λr a=>by
  change Ő n _ (if r.1<n then kas_bin (n-max r.1 1) r.2 (max r.1 1)else Nx r.2);lk
  .show Hd h0 _ _ _ a
  .show a)<|LqI h0 (eh.Perm.ki _) n
def dN!(lt:am->am->av)(n:am):ab am:=(vH lt<|Ov n).zh
def B1 lt(h0:0<n):(dN lt n).Perm (Ĉ n):=by let h:Đ n (vH lt<|Ov n):=Ha<|tJ h0;have:=eh.perm_iff_toList_perm.Z h;simpa[dN]using ah
def He:∀{us vs:gw}{ns ms}i,Ŷ us ns->Ŷ vs ms->Q (HT.xw ns ms) s->
  ci.W.KatLex dv w A b4 (ag<|us.f<vs.f) Q (us.zip vs) i s
 |_,_,_,_,i,.kk,.kk,h=>by show h
 |_,_,_,_,i,.kk,.zv c u hv,h=>by change Q (ag<|0<_+1) s;rw[cc<|PN _];show h
 |_,_,_,_,i,.zv a t hu,.kk,h=>by change Q (ag<|_+1<0) s;rw[ba<|Pg _];show h
 |_,_,_,_,i,.zv (vs:=us) (ns:=ns) a t hu,.zv (vs:=vs) (ns:=ms) c u hv,h=>by
  rw[HT.lexLt_cons]at h;show ci.W.kat_cons<|Tx a t c u dv w _ _ ?_;by_cases e:a=c
  .subst e;rw[ad ?r]at h;rw[cp];show ci.W.kat_yes ?_;have:=He (dv:=dv) (w:=w) (A:=A) (s:=s) (Q:=Q) (i+1) hu hv h;let d:ag ((ĕ a t::us).f<(ĕ a u::vs).f)=ag (us.f<vs.f):=∅
   rw[d];show ah
  .rw[ac e]at h;let b:(a==c)=ai:=by apply e
   rw[b];show ci.W.kat_no ?_;cases hi:(b4&&i==0)with
   |bt=>show b7v h|ai=>show ci.W.kat_one _ _<|U6 h
section
open PyProof.Rows
def B2{us:gw}(h:us.f<2)(g:s.k.G c=a7 (Ě "list" us.E z))(q:R (.done<|.ret .qo) {s with ce:=zj s.k c us us.E}):
  Ç (Ê dv w) A (ez.«list.sort» ([.x c],[])) R E s:=by
 rw[RH];let lt:c<s.k.y.q:=Ý g;show Á<|listItems_at g ?r<|Á<|O3 g ?r ?_;obtain(y|d):∃y,(s.k.vi c<|ly λ_=>#[]).G c=a7 (Ě "list" #[] y):=(_,RF g _);show Á<|Ny d ?r<|Á<|N0<|Á<|vg<|Ņ ?_;let e:(((s.k.vi c<|ly λ_=>#[]).zl<|Ě "tuple" us.E 0).zl<|Ě "list" #[] 0).G c=a7 (Ě "list" #[] y):=
  ä _<|ä _ d
 change Ç (Ê dv w) A _ R E (((s.k.vi c<|ly λ_=>#[]).zl<|Ě "tuple" us.E 0).zl<|Ě "list" #[] 0,s.gens,s.drawn,s.xh,s.os);dsimp;let a:us.E.q<2:=by apply h
 rw[ad a,ad a];show Á<|É ?_;rw[StateT.run_pure];show Á<|É ?_;dsimp;let b:RS (λx=>x.2) (arrOf<|SortSt.mk' general' (us.E.zip us.E) #[] 7 b0)=us.E:=by change RS (λx=>x.2) (us.E.zip us.E)=us.E;show eh.ext ∅ λi h1 j=>∅
 show Á (Ny e ?r<|Á<|O3 e ?r ?_ (hsz2:=by rw[b,õ];lia));rw[b];dsimp[oD,Ī,cm];show É q
end
def B3 lt:dN lt 1=[0]:=?r
def zC lt:dN lt 0=[]:=?r
def mD lt n:(dN lt n).Perm (Ĉ n):=by
 cases n with
 |ij=>rw[zC];show .kk|im n=>show B1 lt<|PN n
def L0I(h:Æ (ns.o V.p) us):Ŷ us ns:=xZ h
end _3
namespace _3
open PySem _2
def ő!(K:Ï)(x:cf)(C:ar):Prop:=aq K Ş x=a7 (a7<|.x C)
def ő.eq{C:ar}(h:ő K x C)(h':ő K x a):C=a:=by unfold ő at h h';rw[h]at h';ext h';rfl
def B4:∀(us:ab (cf×V))(fs:ab (cf×D)),us.o (·.1)=fs.o (·.1)->È K π n H (us.o (·.2)) (fs.o (·.2))->(fs.B k=b0->us.B k=b0)/\∀d,fs.B k=a7 d->∃v,us.B k=a7 v/\Ù K π n H v d
 |[],[],_,_=>(λ_=>rfl,λd h=>nomatch h)|[],_::_,e,_=>nomatch e|_::_,[],e,_=>nomatch e|⟨y,v⟩::us,⟨z,d⟩::fs,e,i=>by
  rw[í,í,N9]at e;let(a,b):=e;dsimp at a;subst a;cases i with
  |bm g j=>
   let(h1,c):=B4 us fs b j;dsimp[Τ];cases p:k==y with
   |bt=>show(λh=>(nomatch h),λo h=>by ext h;show(v,?r,g))|ai=>show(h1,c)
def kR!(f:cf)(v:D):ab (cf×D)->ab (cf×D)
 |[]=>[⟨f,v⟩]|⟨g,x⟩::r=>if g=f then⟨g,v⟩::r else⟨g,x⟩::kR f v r
def Hf(a:Ù K π n H v d):∀us fs,us.o (·.1)=fs.o (·.1)->È K π n H (us.o (·.2)) (fs.o (·.2))->
  (gQ k v us).o (·.1)=(kR k d fs).o (·.1)/\È K π n H ((gQ k v us).o (·.2)) ((kR k d fs).o (·.2))
 |[],[],_,_=>(?r,.zv a .kk)|[],_::_,e,_=>nomatch e|_::_,[],e,_=>nomatch e|⟨y,w⟩::us,⟨z,d'⟩::fs,e,i=>by
  rw[í,í,N9]at e;let(b,c):=e;dsimp at b;subst b;cases i with
  |bm j g=>
   let(h1,h):=Hf a us fs c g;ext gQ kR;lk
   .show(by rw[í,í,c],.zv a g)
   .show(by rw[í,í,h1],.zv j h)
def hX!(x f:cf)(m:ME):ME:=λb μ=>(m b μ).U λp=>match p.1 with
 |.z a=>(match p.2[a]? with
  |bb (.ins y fs)=>if y=x then(fs.B f).o λd=>⟨d,p.2⟩else b0
  |_=>b0)
 |_=>b0
def pW!(x f:cf)(c mv:ME):MS:=λb μ=>(mv b μ).U λp=>(c b p.2).U λq=>match q.1 with
 |.z a=>(match q.2[a]? with
  |bb (.ins y fs)=>if y=x/\fs.f<100 then a7 ⟨.nx,b,q.2.xl a<|.ins y<|kR f p.1 fs⟩else b0
  |_=>b0)
 |_=>b0
def nH!(x m:cf)(c:MF)(d:ME)(ms:MA):ME:=λb μ=>(d b μ).U λp=>match p.1 with
 |.z a=>(match p.2[a]? with
  |bb (.ins y fs)=>if y=x/\fs.B m=b0 then(ms b p.2).U λq=>c (.z a::q.1) q.2 else b0
  |_=>b0)
 |_=>b0
def pX!(x:cf)(a:MF)(ms:MA):ME:=λb μ=>(ms b μ).U λq=>(a (.z q.2.f::q.1)<|q.2++[.ins x []]).U λr=>match r.1 with
 |.kf=>a7 ⟨.z q.2.f,r.2⟩|_=>b0
def Rp.insAt(R:Rp K π H μ){C:ar}(h:μ[a]?=a7 (.ins x fs))(hc:ő K x C):∃b vs,H (π a)=a7 (.ins C b vs)/\vs.o (·.1)=fs.o (·.1)/\È K π μ.f H (vs.o (·.2)) (fs.o (·.2)):=by let(o,h1,g,b,vs,?r,c,d,e):=R.ins a x fs h;obtain rfl:=ő.eq hc c;show(b,vs,h1,d,e)
open _root_ in
def GoI{C:ar}(I:QE X o mo)(J:gW o=b4)(hC:ő X.K x C)(c:Ť X.K C)(N:Č X.K C f):QE X (.zk o f ca) (hX x f mo):=
 ⟨eL (b2p I.h<|mB J)<|by
  rintro σ H Q (π|ρ|U|d|Y|R|E|h0|M);unfold hX at h0;show bJ h0 ?_;clear h0;intro d1 Z h1 h;dsimp at h;split at h
  .rename_i a;split at h
   .rename_i y fs K;split at h
    .rename_i b;subst b;show cI h ?_;clear h;intro d2 G h;ext h;show(π,ρ,U,_,_,R,E,h1,λi v q u j L=>?_);ext L;let(s,p,z,A,B):=j.insAt K hC;let(w,O,T):=(B4 p fs A B).2 _ G;show(_,C,s,p,w,?r,z,c,N,O,M i w q u j T)
    .ext h
   .ext h
  .ext h⟩
open _root_ in
def FpI{C:ar}(U:QE X o mo)(Y:QE X on mv)(T:l8 on=b4)(hC:ő X.K x C)(c:Ť X.K C)(na:Č X.K C f):QS X (.Assign [.zk o f pos'] on ca) (pW x f mo mv):=
 ⟨lV (b2o U.h Y.h<|yS T)<|by
  rintro D σ H (π|L|μ|fl|ρ'|aw|R|E|h0|kc);unfold pW at h0;show bJ h0 ?_;clear h0;intro d b h1 h;show bJ h ?_;clear h;intro d2 u Q h;dsimp at h;split at h
  .rename_i a;split at h
   .rename_i y fs K;split at h
    .rename_i s;let(?r,hl):=s;ext h;show(π,L,μ,_,b,R,E,h1,λw v H1 p M Z=>(w,L,b,_,u,M,E.zw p,Q,λA v2 H2 q R2 i2=>?_));ext i2;let(j,i,G,I,O):=R2.insAt K hC;let J:i.f=fs.f:=by apply br ģ I
     let(p1,p2):=Hf (k:=f) (Z.zw q) i fs I O;let(B,N):=R2.putE (c:=.ins y (kR f d fs)) (o:=.ins C j (gQ f v i)) (ã.Z K).1 G (λ_ z=>(nomatch z),λ_ e z=>(nomatch z)) (C,j,_,?r,hC,p1,p2);show(_,C,j,i,?r,G,c,na,(),kc A _ _ ((p.u q).u B) N<|((E.zw p).zw q).zw B)
    .ext h
   .ext h
  .ext h⟩
def Hg(j:gW o=b4)(h:(f8.ku == fb.line)=b4)(c:ck.all fR=b4)(i:ck.f<30):eu (.xz (.zk o m f8) ck [] fb) eA=(do
   let d <- eu o eA
   ue f8.atName
   let ⟨f,mf⟩ <- ip [d] (za d m<|do return (<- importBound o eA).I b4)
   Oq fb f mf (ĵ fb<|ð ck eA) (ak fb<|au [] eA)):=by
 let h1:(ĵ fb<|ð ck eA).all (fun x=>!x.1)=bt:=by
  have:=l7 (ca:=fb) (eA:=eA) c
  rw [Tr]
  apply ah
 let a:RO (ck.f+([]:ab ϻ).f) (ĵ fb<|ð ck eA) (ak fb<|au [] eA)=bt:=by
  ext RO
  rw [h1]
  simpa [ak,au] using i
 let b:methodCallPos b4 o eA f8 fb=ej fb:=by ext methodCallPos;simp [h]
 rw [arm_eval_Call,mB j]
 congr 1
 funext d
 congr 1
 funext _
 ext methodCall
 rw [a]
 ext calleeOf
 simp only [cy]
 congr 1
 funext p
 rw [b]
 rfl
open _root_ in
def Hh{C:ar}(hC:ő K x C)(U:∀i μ ds aw,ms i μ=a7 ⟨ds,aw⟩->ds.f=n):∀σ H Q,tM K (nH x m fm mo ms) σ H Q->Bp C m (gT K (n+1) fm) [] E (tM K mo) (ŵ K ms) σ H Q:=by
 rintro σ H Q (π|i|μ|d|aw|R|E|h0|kc);unfold nH at h0;show bJ h0 ?_;clear h0;intro d1 b h1 h;dsimp at h;split at h
 .rename_i a;split at h
  .rename_i y fs Y;split at h
   .rename_i p;let(?r,j):=p;show bJ h ?_;clear h;intro q c B h;show(π,i,μ,_,b,R,E,h1,λs v H1 z w Z=>?_);ext Z;rename_i T;let(L,I,M,N,O):=w.insAt Y hC;show(_,L,I,?r,M,(B4 I fs N O).1 j,s,i,b,q,c,w,E.zw z,B,λu ws J A R2 G=>?_);change gT K (n+1) fm (_::(ws++[])) J Q _;rw[Ĭ];show(by rw[ĩ,G.f,U i b q c B],u,.z a::q,c,d,aw,R2,.zv ((Ù.z T).zw A) G,h,kc.after<|z.u A)
   .ext h
  .ext h
 .ext h
def CrF{C:ar}(p:QE X o mo)(s:gW o=b4)(h:(f8.ku==fb.line)=b4)(hC:ő X.K x C)(c:Ť X.K C)(i:ũ X.K C m g)(F:đ X.Y X.w X.K X.mg X.ka gR k g fd ps (gT X.K (n+1) fm))(q:Þ k X.A)(d:ó X.K fd ps [])(b:QA X (e::es) ms n)(j:(e::es).f<30):
  QE X (.xz (.zk o m f8) (e::es) [] fb) (nH x m fm mo ms):=by
 let a:=b.s;rw[İ,â]at a;show⟨eL (b3k p.h c i F q d .kk (E:=E0) uY b.h (fS a.1) (l7 a.2)<|Hg s h b.s j)<|Hh hC b.l⟩
def CpI{C:ar}(J:QE X o mo)(L:gW o=b4)(G:(f8.ku==fb.line)=b4)(hC:ő X.K x C)(c:Ť X.K C)(I:ũ X.K C m g)(F:đ X.Y X.w X.K X.mg X.ka gR k g fd ps (gT X.K 1 fm))(K:Þ k X.A)(A:ó X.K fd ps []):
  QE X (.xz (.zk o m f8) [] [] fb) (nH x m fm mo aD):=
 ⟨eL (b3c J.h c I F K A .kk (E:=E0) uY<|Hg L G ?r ⋯) λσ H Q h=>by
  let(Z,ρ,T,d,i,R,E,h1,O):=Hh (n:=0) (E:=E0) hC F7 σ H Q h;show(Z,ρ,T,d,i,R,E,h1,λj v q w s M=>?_);let(a,u,fs,y,B,b,p,ρ2,U,xs,Y,R2,E2,z,N):=O j v q w s M;ext z;show(a,u,fs,y,B,b,N p [] q .ki R2 .kk)⟩
def BaI{C:ar}(hC:ő K x C)(U:∀i μ ds aw,ms i μ=a7 ⟨ds,aw⟩->ds.f=n):∀σ H Q,tM K (pX x fm ms) σ H Q->Fu C (gT K (n+1) fm) [] E (ŵ K ms) σ H Q:=by
 rintro σ H Q (π|i|μ|d|aw|R|E|h0|kc);unfold pX at h0;show bJ h0 ?_;clear h0;intro w a h1 h;show bJ h ?_;clear h;intro d2 i6 G h;dsimp at h G;split at h
 .ext h;show(π,i,μ,w,a,R,E,h1,λb ws J T M I p c Y hd q=>?_);let(z,R2):=M.xo (o:=.own p) hd;let(A,N,p3):=R2.alloc (p:=p) (c:=.ins x []) (o:=.ins C c []) (by rw[bV<|ì q];show Y) (C,c,[],?r,hC,?r,.kk);change gT K (n+1) fm (_::(ws++[])) _ _ _;rw[Ĭ];let j:a.f<(a++[_3.C.ins x []]).f:=by rw[ô];show ς _
  let s:Ù K (jS b a.f p) (a++[_3.C.ins x []]).f (eo (eo J c<|.own p) p<|.ins C c []) (V.x<|jS b a.f p a.f) (.z a.f):=Ù.z j;rw[p3]at s;show(by rw[ĩ,I.f,U i μ w a h1],_,.z a.f::w,_,.kf,_,N,.zv s<|(I.zw z).zw A,G,λy v L B O Z=>?_);ext Z;let u:=s.zw B;show(?r,kc y _ L (((T.u z).u A).u B) O u)
 .ext h
def Uj{C:ar}(M:Mk X.K C g)(hC:ő X.K x C)(F:đ X.Y X.w X.K X.mg X.ka gR k g fd ps (gT X.K (n+1) fm))(u:Þ (k+1) X.A)(q:Gl X x)(j:ó X.K fd ps [])(c:QA X (e::es) ms n)(d:(x==("__debug__":cf))=b3):
  QE X (.xz (.xk x p) (e::es) [] ca) (pX x fm ms):=by
 let a:=c.s;rw[İ,â]at a;show⟨λb s i H Q I h=>?_⟩;show b3a M F u q (zx I.mod.kin I.mod.glob hC) j .kk (E:=E0) uY c.h d (fS a.1) (l7 a.2) b s i H Q I<|BaI hC c.l i H Q h
def Uk(h:∀a μ,m a μ=b0):QE X e m:=⟨λDo s σ H Q I t=>by
 let(g,a,μ,d,b,R,E,h1,c):=t;rw[h]at h1;ext h1⟩
end _3
namespace _3
open PySem PySem.Spec
namespace Tb
noncomputable abbrev IsT(dv:Ŧ)(w:ņ)(h:ê)(k:ab ae)(b:ar):Prop:=IsTupleKey (ŷ dv w) h k b
end Tb
end _3
namespace _3
open PySem _2
open PyProof.Rows (IntsAre)
def B5:∀{ds}{k},tG ds=a7 k->ds=k.o D.p
 |[],k,h=>by ext h;rfl
 |d::ds,k,h=>by
  cases d with
  |gv i=>show cI h ?_;clear h;intro b h1 a;subst a;rw[B5 h1];rfl|_=>ext h
def vJ(h:d7 x=a7 k):x=.L (k.o D.p):=by
 cases x with
 |f6 ds=>rw[B5 h]|_=>ext h
def fZ!(μ:Hm):D->af (ab D)
 |.rol xs=>a7 xs|.z a=>match μ[a]? with
  |bb (.D xs)=>a7 xs|_=>b0
 |_=>b0
open _root_ in
def vK(R:Rp K π H μ)(h:Ù K π μ.f H v x)(e:fZ μ x=a7 xs):∃p vs,v=.x p/\Ā K H p vs/\È K π μ.f H vs xs:=by
 cases h with
 |oe q t=>ext e;show(_,_,?r,q.sq,t)|@lp a g=>
  dsimp[fZ]at e;split at e
  .rename_i i d;ext e;let(vs,b,c):=R.D a xs d;show(_,vs,?r,.of b,c)
  .ext e
 |_=>ext e
def ħ:∀{vs}{k:ab ae},È K π n H vs (k.o D.p)->vs=k.o V.p
 |_,[],h=>by ext h;rfl
 |_,i::k,h=>by
  cases h with
  |bm h t=>ext h;rw[ħ t];rfl
def B6:∀(k:ab ae),È K π n H (k.o V.p) (k.o D.p)
 |[]=>.kk|i::k=>.zv (.p i)<|B6 k
def Hi{X:Cx}:∀{k}{xs},Æ (k.o V.p) xs->ItemsAre (ŷ X.Y X.w) k xs
 |[],_,h=>by ext h;show .kk
 |i::k,_,h=>by
  cases h with
  |bm h t=>let(a,?r):=h;show .zv (intKind_is _ _ _ _)<|Hi t
def nI{σ:St}(I:Â X Do σ H s)(h:à X.K H b (k.o V.p)):Tb.IsT X.Y X.w s.k k b:=by obtain(g|a|(ob|e|c|n|d)|_):=I.kl h;show(ob,g.E,n,e,c,d,by apply Hi a)
def ϕ:ß X (.zn "len") (λxs H Q=>∃a L,xs=[V.x a]/\H a=a7 (yB a L)/\Q (.p L.f) H):=by
 intro Do s σ H xs B Q I r h;let(a,L,?r,e,q):=h;let(u,?r,z):=hJ r;ext z;obtain((o|v|y|d|A|t|R|c|hd|g|ok|w|p|k|i|x|j)|_|_):=I.vr a _ e;let b:d.q=L.f:=by have:=w.length_eq;apply ah
 let n:t.mask<=511:=by rcases k with h|h|h|h<;>lia
 show call_len_set v c hd (Tb.fits_of ok g) (by rw[b];lia) ?_;rw[b];show(.p L.f,H,I.tok _,(_,?r),q)
end _3
namespace _3
open PySem _2
def Hj:∀{vs}{xs}i,È K π n H vs xs->Ù K π n H (vs.I i .kf) (xs.I i .kf)
 |_,_,i,.kk=>by simp;show .kf
 |_,_,0,.zv h _=>h|_,_,i+1,.zv _ t=>by apply Hj i t
def Hk(h:È K π n H vs xs):∀(l:ab am),È K π n H (l.o λi=>vs.I i .kf) (l.o λi=>xs.I i .kf)
 |[]=>.kk|i::l=>.zv (Hj i h)<|Hk h l
open PyProof.Rows (IntsAre Fr News seqObj)
end _3
namespace _3
open PySem
open PySem.W (KasT kas_asc kas_desc kas_tail3 kas_descPart kas_count kas_place kas_bin kas_sort kas_rev)
open PyProof.Rows (mirror bubble getElem?_bubble getElem?_mirror_all mirror_size bubble_size)
section
variable{ans:Nat->Nat->Bool}{κ:Nat->Nat}(hk:∀i j,ans i j=decide (κ i<κ j))
end
section
variable{α:Type}{lt:α->α->Bool}(irr:∀a,lt a a=b3)(tr:∀a b c,lt a b=b4->lt b c=b4->lt a c=b4)(nt:∀a b c,lt a b=b4->lt a c=b4\/lt c b=b4)
include irr tr nt in
end
end _3
namespace _3
open PySem _2
def oM!(f g:D->D->Hm->jk)(a b c:ME):ME:=λd μ=>(a d μ).U λp=>(b d p.2).U λq=>(f p.1 q.1 q.2).U λr=>match r.1 with
 |.bl b4=>(c d r.2).U λt=>g q.1 t.1 t.2|.bl b3=>a7 ⟨.bl b3,r.2⟩|_=>b0
def Hl(hf:eU K f r)(hg:eU K g M):∀σ H Q,tM K (oM f g ma mb mc) σ H Q->Bk r M (tM K ma) (tM K mb) (tM K mc) σ H Q:=by
 rintro σ H Q (π|B|μ|d|u|R|E|e|k);show bJ e ?_;clear e;intro x h h1 e;show bJ e ?_;clear e;intro y i h2 e;show bJ e ?_;clear e;intro z j h3 e;show(π,B,μ,x,h,R,E,h1,λv v1 H1 p Y i1=>(v,B,h,y,i,Y,E.zw p,h2,λw N O q R2 L=>?_));show hf w O i x y z j v1 N _ R2 (i1.zw q) L h3 λo v3 T s G i3=>?_;cases z with
 |bl I=>
  ext i3;show(I,?r,?_);cases I with
  |bt=>show pP ?_;show bJ e ?_;clear e;intro t n h4 e;show(o,B,j,t,n,G,((E.zw p).zw q).zw s,h4,λA v4 U J Z i4=>hg A U n y t d u N v4 Q Z ((L.zw s).zw J) i4 e<|k.after<|((p.u q).u s).u J)|ai=>show pO ?_;ext e;show k o _ T ((p.u q).u s) G<|.bl b3
 |_=>ext e
def jB!:pq->af (ae->ae->av)
 |.Lt=>a7 λi j=>ag (i<j)|.LtE=>a7 λi j=>ag (i<=j)|.Gt=>a7 λi j=>ag (j<i)|.GtE=>a7 λi j=>ag (j<=i)|_=>b0
def tK(h:jB op=a7 p):Ē X (Ķ op) (kI λi j=>.bl<|p i j)/\(op=.Lt\/op=.LtE\/op=.Gt\/op=.GtE):=by ext op<;>first|(ext h;first|show(Bg,∅)|show(Bh,∅)|show(Bi,∅)|show(Bj,∅))|ext h
def Hn(h':d=.Lt\/d=.LtE\/d=.Gt\/d=.GtE):P6 [op,d] [b,c]=ai:=by change jm d c=b3;rcases h' with rfl|rfl|rfl|rfl<;>show gH _
def Ul(h:jB op=a7 p)(h':jB d=a7 q)(e:QE X a ma)(g:QE X b mb)(hc:QE X c mc):QE X (.qq a [op,d] [b,c] ca) (oM (iV p) (iV q) ma mb mc):=
 ⟨eL (b0l (tK h).1 (tK h').1 e.h g.h hc.h<|Hn (tK (X:=X) h').2)<|Hl lI lI⟩
def Um(h:jB op=a7 p)(h':jB d=a7 q)(g:QE X a ma)(i:QE X b mb)(hc:QE X c mc):QT X (.qq a [op,d] [b,c] ca) (aP<|oM (iV p) (iV q) ma mb mc):=
 ⟨yC (b0j (tK h).1 (tK h').1 g.h i.h hc.h<|Hn (tK (X:=X) h').2) λe H Q h=>Hl lI lI e H _<|F6 e H Q h⟩
def zD!(d:av):D->D->Hm->jk
 |.bl b,.bl c,μ=>a7 ⟨.bl<|if d then !(b==c)else b==c,μ⟩|.p _,.bl _,μ=>a7 ⟨.bl d,μ⟩|_,_,_=>b0
def iJ!(d:av):D->D->Hm->jk:=λx y μ=>match y with
 |.bl _=>zD d x y μ|_=>nF d x y μ
def B7!(d:av):R2:=λx y H Q=>∃c,y=.bl c/\((∃b,x=.bl b/\Q (.bl<|if d then !(b==c)else b==c) H)\/((∃i,x=.p i)/\Q (.bl d) H))
def zE:eU K (zD g) (B7 g):=by
 intro j H q x y d n o p Q R h i e k;unfold zD at e;split at e
 .ext e;ext h;ext i;show(_,?r,.Q (_,?r,k j _ H .ki R<|.bl _))
 .ext e;ext h;ext i;show(_,?r,.X ((_,?r),k j _ H .ki R<|.bl _))
 .ext e
def Ho:Ē X (Ķ .Is) (B7 b3):=by
 intro e s j H x y v u Q I d g h;let(c,?r,h):=h;ext g;rcases h with(b|rfl|q)|((i|rfl)|q)
 .ext d;show É<|qU I q<|by ext b<;>ext c<;>rfl
 .let(t,?r):=d;show É<|qU I q ?r
def Hq:Ē X (Ķ .IsNot) (B7 b4):=by
 intro e s j H x y v u Q I d g h;let(c,?r,h):=h;ext g;rcases h with(b|rfl|q)|((i|rfl)|q)
 .ext d;show É<|qU I q<|by ext b<;>ext c<;>rfl
 .let(t,?r):=d;show É<|qU I q ?r
def zF x y μ r(h:iJ d x y μ=a7 r):zD d x y μ=a7 r\/nF d x y μ=a7 r:=by
 unfold iJ at h;split at h
 .show .Q h
 .show .X h
def Uo(d:QE X a ma)(e:QE X b mb):QE X (.qq a [.Is] [b] ca) (aA (iJ b3) ma mb):=rJ ⟨iT Ho zE d.h e.h<|gH _⟩ (b4O d e)<|kQ zF
def Up(d:QE X a ma)(e:QE X b mb):QE X (.qq a [.IsNot] [b] ca) (aA (iJ b4) ma mb):=rJ ⟨iT Hq zE d.h e.h<|gH _⟩ (b4N d e)<|kQ zF
def Uq(d:QE X a ma)(e:QE X b mb):QT X (.qq a [.Is] [b] ca) (aP<|aA (iJ b3) ma mb):=tE ⟨iU Ho zE d.h e.h<|gH _⟩ (b4M d e)<|tF<|kQ zF
def Ur(d:QE X a ma)(e:QE X b mb):QT X (.qq a [.IsNot] [b] ca) (aP<|aA (iJ b4) ma mb):=tE ⟨iU Hq zE d.h e.h<|gH _⟩ (b4L d e)<|tF<|kQ zF
def oN!:MF:=λds μ=>match ds with
 |[x]=>(bW μ x).U λb=>(tG b).o λa=>⟨.p a.sum,μ⟩|_=>b0
def Hr!(K:Ï):gz->Hp->VK->Prop:=λxs H Q=>∃(p:ar)(a:ab ae),xs=[.x p]/\(Ā K H p (a.o V.p)\/à K H p (a.o V.p))/\Q (.p a.sum) H
def Us:e8 K oN (Hr K):=by
 intro g H s n d e h Q R i a k;unfold oN at a;split at a
 .let(o,h1,a):=ń.Z a;show cI a ?_;clear a;intro c b a;ext a;cases i with
  |bm i t=>ext t;let(p,j,?r,q,hd):=rF R i h1;rw[B5 b]at hd;have:=ħ hd;subst ah;show(p,c,?r,q,k g _ H .ki R<|.p _)
 .ext a
def Hs(a:ab ae):∀n,n<=a.f->preSum (λi=>a.I i 0) n=(a.ze n).sum
 |0,_=>?r|n+1,h=>by
  let b:=Hs a n ();let e:a.ze (n+1)=a.ze n++[a[n]]:=by rw[qm,Ċ ()];rfl
  change preSum (λi=>a.I i 0) n+a.I n 0=_;rw[b,e,ab.sum_append];simp[į,Ċ<|show n<a.f by lia]
def Ht{σ:St}(I:Â X Do σ H s)(m:Moved k (λa b=>b=a) d c)(n:∀b o,s.k.G b=a7 o->d.k.G b=a7 o)(hw:∀b∈k,s.k.y.q<=b)(g:d.gens=s.gens/\d.drawn=s.drawn/\d.os=s.os):Â X Do σ H c:=by let j:∀b o,s.k.G b=a7 o->c.k.G b=a7 o:=λb o e=>m.k b o (λz=>cb (Ŏ (Ý e)<|hw b z)<|Ϝ _)<|n b o e;let h1:c.gens=s.gens:=m.gens.u g.1;let h:c.drawn=s.drawn:=m.drawn.u g.2.1;let i:c.os=s.os:=m.os.u g.2.2;let(v,u,q,p,w):=c;dsimp at h1 h i j;subst h1 h i;show I.vx (t':=p) j
def Hu{a:ab ae}(r:Æ (a.o V.p) b5){i:am}(h:b5.E[i]?=a7 v):∃t,v=.p (a.I i 0) t:=by
 let b:b5[i]?=a7 v:=by apply h
 let hi:i<a.f:=by have:=(ã.Z b).1;have:=r.f;rw[Ä]at ah;lia
 let(u,h1,c):=r.get (i:=i) (x:=.p a[i]) (by rw[ĉ,Ċ hi];rfl);rw[b]at h1;ext h1;let(t,?r):=c;show(t,by simp[į,hi])
def Ut(hc:X.vn=b4):ß X (.zn "sum") (Hr X.K):=by
 intro A s L H K J Q I r h;let(p,c,?r,n,q):=h;let(u,?r,E):=hJ r;ext E;let z:X.A.in1.xt=bp:=I.ok.hd hc;let dr:∀b5:gw,Æ (c.o V.p) b5->preSum (λi=>c.I i 0) b5.E.q=c.sum:=λb5 j=>by
  let k:b5.E.q=c.f:=by rw[Ģ,<- j.f,Ä]
  rw[k,Hs c _<|Ô _,ź]
 rcases n with n|n
 .let(b5,j,pl,B):=I.vu n;show SA<|ww pl.xc ?_;let d:p≠s.k.y.q:=by let(o,g,_):=pl.xc;show ý<|Ý g
  show(s.k.y.q,_,_,_,_,_,_,λi=>c.I i 0,?r,(PY z _ p d b5.E).toS,((_,ÿ _ ?r,?r,?r),pl.xc.zl _),?_,λi v x=>Hu j x,λG y m=>?_)
  .intro b a;change b<(s.k.zl _).objs.size;rw[Χ];let(o,g,_):=pl.xc;let w:=Ý g;dsimp[ē,Ϣ,gg]at a;rcases a with rfl|rfl
   .show ς _
   .show NB w
  .show(.p c.sum,H,Ht I m (λb o e=>ä _ e) (λb a=>?_) (?r,?r,?r),(y,?_),q)
   .let e:b=s.k.y.q:=by apply a
    show qi e.R
   .rw[dr b5 j]
 .let(b5,j,pl,B):=I.kl n;show SA<|b7 (show s.k.ko p b5.E from pl) ?_;let d:p≠s.k.y.q:=by let(o,g,_):=pl;show ý<|Ý g
  show(s.k.y.q,_,_,_,_,_,_,λi=>c.I i 0,?r,(PR z _ p d b5.E).toS,((_,ÿ _ ?r,?r,?r),zr pl _),?_,λi v x=>Hu j x,λG y m=>?_)
  .intro b a;change b<(s.k.zl _).objs.size;rw[Χ];let(o,g,_):=pl;let w:=Ý g;dsimp[ē,Ϣ,gg]at a;rcases a with rfl|rfl
   .show ς _
   .show NB w
  .show(.p c.sum,H,Ht I m (λb o e=>ä _ e) (λb a=>?_) (?r,?r,?r),(y,?_),q)
   .let e:b=s.k.y.q:=by apply a
    show qi e.R
   .rw[dr b5 j]
def B8!:MF:=λds μ=>match ds with
 |[.p i,.p j]=>a7 ⟨.p<|if j<i then j else i,μ⟩|_=>b0
def B9!:MF:=λds μ=>match ds with
 |[.p i,.p j]=>a7 ⟨.p<|if j>i then j else i,μ⟩|_=>b0
def Uu:e8 K B8 (λxs H Q=>∃i j,xs=[.p i,.p j]/\Q (.p<|if j<i then j else i) H):=by
 intro g H n xs d e h Q R i a k;unfold B8 at a;split at a
 .ext a;cases i with
  |bm i t=>
   ext i;cases t with
   |bm b c=>ext b;ext c;show(_,_,?r,k g _ H .ki R<|.p _)
 .ext a
def Uv:e8 K B9 (λxs H Q=>∃i j,xs=[.p i,.p j]/\Q (.p<|if j>i then j else i) H):=by
 intro g H n xs d e h Q R i a k;unfold B9 at a;split at a
 .ext a;cases i with
  |bm i t=>
   ext i;cases t with
   |bm b c=>ext b;ext c;show(_,_,?r,k g _ H .ki R<|.p _)
 .ext a
def fU!{a:Type}(xs:ab a)(lo hi st:af ae):ab a:=(NZ (Ϡ lo hi st xs.f).1 (Ϡ lo hi st xs.f).2.1 (Ϡ lo hi st xs.f).2.2).vv (xs[·]?)
def mE!(a:ME)(lo hi st:MO):ME:=λb μ=>(a b μ).U λp=>(lo b p.2).U λq=>(hi b q.2).U λr=>(st b r.2).U λt=>if t.1≠a7 0 then(fZ t.2 p.1).U λc=>if(fU c q.1 r.1 t.1).f<=Ò then a7 ⟨.z t.2.f,t.2++[.D<|fU c q.1 r.1 t.1]⟩else b0 else b0
def Uw(h:È K π n H vs ds)lo hi st:È K π n H (fU vs lo hi st) (fU ds lo hi st):=by
 ext fU;rw[h.f];generalize NZ _ _ _=l;induction l with
 |fk=>show .kk|bm i l a=>
  rw[bh,bh];cases hi:ds[i]? with
  |bp=>
   have:vs[i]?=bp:=by rw[Κ]at hi ⊢;rw[h.f];show hi
   rw[ah];show a
  |bb d=>let(v,h1,b):=h.get hi;rw[h1];show .zv b a
def Ux(r:Æ vs b5)lo hi st:Æ (fU vs lo hi st) (fU b5 lo hi st):=by
 ext fU;rw[r.f];generalize NZ _ _ _=l;induction l with
 |fk=>show .kk|bm i l a=>
  rw[bh,bh];cases hi:vs[i]? with
  |bp=>
   have:b5[i]?=bp:=by rw[Κ]at hi ⊢;rw[<- r.f];show hi
   rw[ah];show a
  |bb v=>let(u,h1,b):=r.get hi;rw[h1];show .zv b a
def Uy!(K:Ï)(te:TE)(tl th tt:TO):TE:=λσ H Q=>te σ H λx c=>tl σ c λl d=>th σ d λu g=>tt σ g λt b=>t≠a7 0/\∃a xs,x=.x a/\Ā K b a xs/\(fU xs l u t).f<=Ò/\∀p,b p=b0->Q (.x p) (eo b p<|.D<|fU xs l u t)
open PyProof.Rows in
def Uz{X:Cx}{e:bo}{te:TE}{lo hi:af bo}{st:bo}{tl th tt:TO}{ca p2:Ń}(L:PE X e te)(M:PO X lo tl)(O:PO X hi th)(N:PO X (a7 st) tt):PE X (.xy e (.Slice lo hi (a7 st) p2) ca) (Uy X.K te tl th tt):=by
 intro c s i H Q I h;show NY<|aR (L c s i H _ I h) λv s1 (x,y,E,r1,Z)=>?_;show wpAny_Slice<|aR (M c s1 i y _ E Z) λo s2 (l,z,G,pl,q2)=>aR (O c s2 i z _ G q2) λw s3 (u,A,J,Y,q3)=>aR (N c s3 i A _ J q3) λp d (t,B,K,pt,q4)=>?_;let(h0,a,xs,?r,R,T,q):=q4;ext r1;let k:Â X c i B {d with ce:=d.k.zl {cw:=.O "slice",bv:=.xi #[o,w,p]}}:=K.vx (t':=d.xh) λb ob q=>ä _ q;let(b5,r,j,U):=k.vu R;let n:=r.f;change Ç (Ê X.Y X.w) X.A (O4 e (.Slice lo hi (a7 st) p2) (.x a)<|.x d.k.y.q) (EP X c i Q) X.xe {d with ce:=d.k.zl {cw:=.O "slice",bv:=.xi #[o,w,p]}};show Ox (k0:=[.x a,.x d.k.y.q]) j.xc.ja Q4.B ?_ (by with_unfolding_all rfl);show TR j.xc (UC ..) pl Y pt h0 ?_ (by rw[Ģ]<;>lia);let g:Nu b5.E l u t=(fU b5 l u t).E:=by ext Nu fU;simp
 rw[g];show(.x _,_,k.laid (t':=d.xh) (o:=.D (fU xs l u t)) (λb ob q=>ä _ q) (Ô _) ?_,?r,q _<|k.vr.xo<|Ô _);show(T,_,0,Ux r l u t,ÿ _ ?r)
open _root_ in
def b2T{mt:MO}(Y:QE X e me)(Z:QO X lo G)(hu:QO X hi B)(ht:QO X (a7 st) mt):QE X (.xy e (.Slice lo hi (a7 st) p2) ca) (mE me G B mt):=⟨eL (Uz Y.h Z.h hu.h ht.h)<|by
 rintro σ H Q (π|n|μ|d|aw|R|E|a|k);show bJ a ?_;clear a;intro x c h1 a;show bJ a ?_;clear a;intro l g N a;show bJ a ?_;clear a;intro u h O a;show bJ a ?_;clear a;intro t s T a;show(π,n,μ,x,c,R,E,h1,λv v1 H1 i J i1=>(v,n,c,l,g,J,E.zw i,N,λw H2 j R2=>(w,n,g,u,h,R2,(E.zw i).zw j,O,λy H3 o K=>(y,n,h,t,s,K,((E.zw i).zw j).zw o,T,λπ4 H4 A z=>?_))));split at a
 .rename_i h0;show cC a ?_;clear a;intro xs U a;split at a
  .rename_i hz;ext a;let(p,I,?r,q,hd):=vK z (((i1.zw j).zw o).zw A) U;let b:=Uw hd l u t;show(h0,p,I,?r,q,by rw[b.f];show hz,λp' hp=>?_);let(M,L,_):=z.alloc (c:=.D (fU xs l u t)) (o:=.D (fU I l u t)) hp b;show k _ _ _ ((((i.u j).u o).u A).u M) L lG
  .ext a
 .ext a⟩
def zG{σ:St}{ch:ab ar}{a:ar}(I:Â X Do σ H s)(k:∀b u,b∉ch->s.k.G b=a7 u->h'.G b=a7 u)(i:∀b∈ch,jQ X Do H b)(j:s.k.y.q<=a)(new:á X.Y X.w (eo H a o) h' a o):Â X Do σ (eo H a o) {s with ce:=h',dL:=t'}:=by
 let d:=I.vr.xo j;let g:∀b u,H b=a7 u->b∉ch:=λb u e z=>by have:=(i b z).1;rw[e]at ah;ext ah
 show I.step (g':=s.gens) (d':=s.drawn) (ch:=ch) (λb h=>let(K,y,L,A,B,E):=i b h;(A,y,B,E)) (λb o f f hc e f=>k b o hc e) (λb o f f hc e f=>(o.slots,k b o hc e)) (λb ob hc e n=>?_)
  (λb o hc e=>(o,k b o hc e)) (λb p q=>?_) (λb ob p q=>?_) (λb M q=>?_) (λm G=>?_) (λb u e=>?_) I.bare
 .rw[bV<|ý<|Ŏ (Ý e) j];show n
 .rw[bV<|k8 q d];show q
 .rw[bV<|k8 q d];show q
 .show(#[],by rw[bV<|k8 q d,q];simp)
 .let(o,x,w,J,r):=G;show(o,x,w,k _ o (λz=>(i _ z).2.1 ?r) J,r)
 .by_cases h:b=a
  .subst h;rw[dH]at e;ext e;show new
  .rw[bV h]at e;show(I.vr b u e).stay (λc v hc q=>k c v ?_ q) (λc q=>by rw[bV<|k8 q d];show q) λc p q=>by rw[bV<|k8 q d];show q
   rcases hc with z|z
   .rw[z];show g b u e
   .show g c _ z
def Ca{σ:St}{ch:ab ar}(I:Â X Do σ H s)(k:∀b u,b∉ch->s.k.G b=a7 u->h'.G b=a7 u)(d:∀b∈ch,jQ X Do H b):Â X Do σ H {s with ce:=h',dL:=t'}:=by
 let a:∀b u,H b=a7 u->b∉ch:=λb u e z=>by have:=(d b z).1;rw[e]at ah;ext ah
 show I.step (g':=s.gens) (d':=s.drawn) (ch:=ch) (λb y=>let(E,j,G,p,w,x):=d b y;(p,j,w,x)) (λb o f f hc e f=>k b o hc e) (λb o f f hc e f=>(o.slots,k b o hc e)) (λb ob hc e n=>n)
  (λb o hc e=>(o,k b o hc e)) (λb g q=>q) (λb ob g q=>q) (λb J q=>(#[],by rw[q];simp)) (λm A=>?_) (λb u e=>?_) I.bare
 .let(o,i,h,B,r):=A;show(o,i,h,k _ o (λz=>(d _ z).2.1 ?r) B,r)
 .show(I.vr b u e).stay (λc v hc q=>k c v ?_ q) (λc q=>q) λc g q=>q;rcases hc with z|z
  .rw[z];show a b u e
  .show a c _ z
structure ig(X:Cx)(e:bo)(m:MI):Prop where
 h:∀es k p,PI X (.va es k p) e (Ϩ X.K m)
def QJ.t(h:QJ X e m):ig X e m:=⟨λes k p=>h.h _⟩
def mG!(x:D):gJ:=λμ i=>(bW μ x).o λxs=>(xs[i]?).o λd=>.L [.p i,d]
def vL(hi:PI X tg ea (Ϩ X.K A))(K:QG X tg g)(I:QB X gi y)(L:yw (Ê X.Y X.w) X.A X.M X.xe)(hc:X.vn=b4)(M:jV ea=b4):
  QS X (.For tg ea gi [] ca) (cV A g y):=⟨lV (b1s L hc hi K.h I.h<|by intro z;ext ea<;>first|rfl|ext M)<|by
 rintro E U H (Q|T|O|x|v|s|R|w|p|k);obtain((q|n|o)|h1|p):=ń.Z p;show(Q,T,O,q,n,o,R,w,h1,λu B J i G W=>?_);let N:qZ X.K E u o.f B x v s:=by
  cases x with
  |nx=>show λa b e j h c=>k a b e (i.u j) h c|bk=>show λa b e j h c=>k a b e (i.u j) h c|ct=>show λa b e j h c=>k a b e (i.u j) h c|rt d=>show KC.after k i
 show b7j W N .ki G (w.zw i) p⟩
def Cb!(put:D->D->D->Hm->af Hm)(o i v:ME):MS:=λa μ=>(v a μ).U λp=>(o a p.2).U λq=>(i a q.2).U λr=>(put q.1 r.1 p.1 r.2).o λaw=>⟨.nx,a,aw⟩
def vM!:D->D->D->Hm->af Hm
 |.z a,y,d,μ=>match μ[a]? with
  |bb (.dT ay)=>(d7 y).U λk=>if ay.f<Ò then a7 (μ.xl a<|.dT<|cK ay k d)else b0|_=>b0
 |_,_,_,_=>b0
def oO!:D->D->D->Hm->af Hm:=vM
def d8!:=Cb oO
def Hv:QS X st (dA i cJ):=⟨λDo s σ H D I q=>by
 let(g,h,e,d,c,b,R,E,a,k):=q;ext a⟩
def pY!(μ:Hm)(x:D):ab D->af (ab av)
 |[]=>a7 []|y::r=>(eX 8 μ y x).U λb=>(pY μ x r).o λc=>b::c
def tL!:D->ab D->Hm->jk
 |.z a,[x],μ=>match μ[a]? with
  |bb (.D xs)=>(pY μ x xs).U λbs=>if bs.findIdx id<bs.f/\bs.f<=Ò then a7 ⟨.p (bs.findIdx id:am),μ⟩else b0|_=>b0
 |_,_,_=>b0
def Hw!(K:Ï):V->gz->Hp->VK->Prop:=λx vs H Q=>∃π μ a xs y b bs,Rp K π H μ/\x=.x (π a)/\vs=[y]/\μ[a]?=a7 (.D xs)/\Ù K π μ.f H y b/\pY μ b xs=a7 bs/\bs.findIdx id<bs.f/\Q (.p (bs.findIdx id:am)) H
open _root_ in
def b2O:l9 K tL (Hw K):=by
 intro b H o x ds d p v q Q R i h a k;unfold tL at a;split at a
 .split at a
  .rename_i n e;show cC a ?_;clear a;intro bs h1 a;split at a
   .rename_i c;ext a;cases h with
    |bm g j=>ext j;ext i;show(b,o,_,n,_,_,bs,R,?r,?r,e,g,h1,c.1,k b _ H .ki R<|.p _)
   .ext a
  .ext a
 .ext a
def b2N{σ:St}(I:Â X Do σ H s)(R:Rp X.K π H μ)(O:A.qv+8<ă)(rx:Í x v)(Y:Ù X.K π μ.f H x k):
  ∀{e}{vs}{us}{bs},È X.K π μ.f H vs e->Æ vs us->pY μ k e=a7 bs->
   ∃g,(∀u∈us,ut A s u v (g u))/\us.o g=bs:=by
 classical
 intro e vs us bs hi j a
 let o:∀{e:ab D}{vs:gz}{us:gw}{bs:ab av},È X.K π μ.f H vs e->Æ vs us->pY μ k e=a7 bs->(∀u∈us,∃c,ut A s u v c/\∃w n,Í w u/\Ù X.K π μ.f H w n/\eX 8 μ n k=a7 c):=by
  intro e
  induction e with
  |fk=>
   intro vs us b hi j a u d
   ext hi
   ext j
   ext d
  |bm y e G=>
   intro vs us b hi j a u d
   cases hi with
   |bm h t=>
    cases j with
    |bm r rt=>
     show cC a ?_
     clear a
     intro c h1 a
     show cI a ?_
     clear a
     intro L B a
     rcases ē.Z d with rfl|d
     .show(c,BF I R 8 O r rx h Y h1,_,_,r,h,h1)
     .show G t rt B u d
 let p:=o hi j a
 show(λu=>if h:u∈us then wy (p u h)else b3,λu d=>?_,?_)
 .dsimp[oy d]
  show(OU<|p u d).1
 .let io:∀u (h:u∈us) w n c,Í w u->Ù X.K π μ.f H w n->eX 8 μ n k=a7 c->wy (p u h)=c:=by
   intro u h w n c J U K
   let(_,w2,M,Z,T,N):=OU<|p u h
   have:w2=w:=Z.inj J
   subst ah
   have:=BV I R T U
   subst ah
   rw[N]at K
   show Ĕ K
  let q:∀{e:ab D}{vs:gz}{i:gw}{bs:ab av},(∀u∈i,u∈us)->È X.K π μ.f H vs e->Æ vs i->pY μ k e=a7 bs->i.o (λu=>if h:u∈us then wy (p u h)else b3)=bs:=by
   intro e
   induction e with
   |fk=>
    intro vs i b E hi j a
    ext hi
    ext j
    ext a
    rfl
   |bm y e G=>
    intro vs i b E hi j a
    cases hi with
    |bm h t=>
     cases j with
     |@bm _ u _ us2 r rt=>
      show cC a ?_
      clear a
      intro c h1 a
      show cI a ?_
      clear a
      intro L B a
      have iI:u∈us:=E u<|ŗ ..
      rw[í,G (λz Q=>E z<|ķ _ Q) t rt B,oy iI,io u iI _ _ c r h h1]
      show a
  show q (λ_ h=>h) hi j a
def b2J(hu:X.A.qv+20<ă):mZ X "list.index" (Hw X.K):=by
 intro B s σ H x vs v us Q I U T h
 let(Z,μ,a,Y,y,dy,bs,R,?r,?r,L,N,K,o,q):=h
 ext U
 let(u,?r,O):=T.one
 let(ws,G,hd):=R.D a Y L
 let(z,b5,n,r,hl,e):=I.lstM G
 let(g,E,A):=b2N I R (A:=X.A.in1) (by rw[lX];lia) O N hd r K
 let i:bs.f=b5.f:=by rw[<- A,Ä]
 let p:bs.findIdx id<b5.E.q:=by rw[Ģ,<- i];show o
 let b:∀m (k:m<b5.f),bs[m]?=a7 (g b5[m]):=λm k=>by
  rw[<- A,ĉ,Ċ k];rfl
 let small:((bs.findIdx id:am):ae)<2^63-1:=by
  let h1:bs.findIdx id<b5.f:=by apply p
  let c:=qV
  let d:(bs.findIdx id:am)<Ò:=()
  let j:((Ò:am):ae)<=2^63-1:=⋯
  lia
 show zf F.slot_list_index (_,e,?r) F.entry_list_index (F.args_list_index_2 _ _) (mn.list_indexAt (Z a) b5.E n b0 #[] u g (bs.findIdx id) p small ?_ ?_) (e,λy M=>E y<|by apply M,(.p (bs.findIdx id:am),H,I.tok _,(_,?r),q))
 .let h1:bs.findIdx id<b5.f:=by apply p
  let c:=ab.findIdx_getElem (p:=id) (xs:=bs) (w:=o)
  let d:=b _ h1
  rw[Ċ o]at d
  let j:=Ĕ d
  rw[j]at c
  apply c
 .intro m k w
  let h1:m<b5.f:=by apply k
  let c:=ab.not_of_lt_findIdx (p:=id) (xs:=bs) w
  let d:=b _ h1
  let J:m<bs.f:=()
  rw[Ċ J]at d
  let j:=Ĕ d
  rw[j]at c
  apply c
def b2I:zm (.O "list_reverseiterator") "__len__"=ej bp:=by rw[Po,QF];kernel_rfl
def b2G:zm (.O "list_reverseiterator") "__length_hint__"=ej (a7<|.zn "list_reverseiterator.__length_hint__"):=by rw[Po,QF];kernel_rfl
def b1v(b:s.TypeIs (.x r) "list_reverseiterator")(h:Q b3 s):Ç (Ê dv w) A (UO<|.x r) Q E s:=by ext UO;show Á<|qu b b2I ?_;dsimp;show qp (λa=>cb a<|by decide +de) λ_=>?_;show qp (λa=>cb a ⋯) λ_=>?_;show Á<|qu b b2G ?_;generalize cD:("list_reverseiterator.__length_hint__":cq)=id0;wp_delta;rw[show splitId id0=a7 ⟨"list_reverseiterator","__length_hint__"⟩from by subst cD;decide +de];subst cD;show Á (gf (T:="list_reverseiterator") (b:=b4) b (by rw[isSubtype_type];kernel_rfl) ?_);show qp (λa=>cb a ⋯) λ_=>?_;show qp (λ_=>?_) (λa=>cb (by decide +de) a);show qp (λa=>cb a<|by decide +de) λ_=>?_;show É h
def b1k(Z:A.xt=b0)(j:s.k.IsRevIter p a ((b5.q:ae)-1))(hl:s.k.IsList a b5)(K:a≠p)S(x:S≠p)(H:S≠a)res k(Y:s.k.G S=a7 {cw:=.O "list",bv:=.seq #[] k})(X:∀B tk c u,(∀b o,b≠S->b≠p->s.k.G b=a7 o->B.G b=a7 o)->B.G S=a7 {cw:=.O "list",ix:=b0,bv:=.seq c u,ft:=#[]}->pa (λi v=>b5[b5.q-1-i]?=a7 v) c b5.q->R (.ok<|.ret res) {s with ce:=B,dL:=tk})(hn:b5.q<=Ò):
  Ç (Ê dv w) A.in1 (xf (.x S) (.x p) res)
   (λdr q=>match dr with|.done f=>R (.ok f) q|.again u=>u.quiet=b4/\Ρ (Ê dv w) A u R q) (λe q=>R (.error e) q) s:=by
 let I:S∉[p,a]:=by dsimp[ē,Ϣ,gg,oi];show(x,H)
 let W:=Walks.listRev (dv:=dv) (w:=w) (A:=A.in1) Z p a K b5;let io:∀(h:ê)(d tk:am),h.IsRevIter p a ((b5.q:ae)-1)->h.IsList a b5->(∀b o,b≠S->s.k.G b=a7 o->h.G b=a7 o)->
   h.G S=a7 {cw:=.O "list",bv:=.seq #[] d}->Ρ (Ê dv w) A (.zn "list.extend.loop" ([.x S,.x p,res],[])) R {s with ce:=h,dL:=tk}:=by
  intro h d tk M z hk n;show codeAny_extend_loopS W.toS hn S I res b5.q 0 _ #[] d ?r (Ŝ _) (Ŝ _,by apply M,z) n (pa.kk _) λq c u O G y=>?_;rw[Moved.eq_with O];show X q.k q.xh c u (λb o N L e=>O.k b o (λg=>?_)<|hk b o N e) G y;rcases ē.Z g with Q|g
  .show N Q
  .show L<|ġ.Z g
 ext xf;show Á<|ul (T:="list_reverseiterator") j.ja ?_;let h1:Og (.x S) (.x p)=ai:=by simp[Og,x]
 let T:(é "list_reverseiterator"==é "list")=ai:=by decide +de
 let U:(é "list_reverseiterator"==é "tuple")=ai:=by decide +de
 dsimp[h1,T,U,OG,Ī,cm];show Á<|Qf j ?_;show Á<|Ņ<|b1v j.ja ?_;show qp (λJ=>cb J<|by decide +de) λ_=>É (ϲ ci.F.vb _,?_);show io _ k s.xh j hl (λb o l e=>e) Y
def b1j(L:A.xt=b0)(I:s.k.IsRevIter p a ((b5.q:ae)-1))(N:s.k.IsList a b5)(G:a≠p)S(n:S≠p)(k:S≠a)(z:s.k.G S=a7 {cw:=.O "list",bv:=.seq #[]})(K:∀j J c h,(∀b o,b≠S->b≠p->s.k.G b=a7 o->j.G b=a7 o)->j.G S=a7 {cw:=.O "list",ix:=b0,bv:=.seq c h,ft:=#[]}->pa (λi v=>b5[b5.q-1-i]?=a7 v) c b5.q->R (.ok<|.ret .qo) {s with ce:=j,dL:=J})(O:b5.q<=Ò):
  Ç (Ê dv w) A.in1 (ez.«list.__init__» ([.x S,.x p],[]))
   (λdr y=>match dr with|.done f=>R (.ok f) y|.again h=>h.quiet=b4/\Ρ (Ê dv w) A h R y) (λe y=>R (.error e) y) s:=by
 change Ç _ _ (do let kB <- U0 (.x S);b7L (.x S) λ_=>#[];letGo kB.zh.zd;xf (.x S) (.x p) .qo) _ _ s;show Á ?_;ext U0;show Á<|ϝ z ?r<|É ?_;change Ç _ _ (nj S (λ_=>#[]) >>= λ_=>letGo (#[]:eh ax).toList.reverse >>= λ_=>xf (.x S) (.x p) .qo) _ _ s;show Á<|gA z ?r ?_;let d:=τ (ly λ_=>(#[]:eh ax)) z ?r;let g:∀b o,b≠S->s.k.G b=a7 o->(s.k.vi S<|ly λ_=>(#[]:eh ax)).G b=a7 o:=
  λb o u e=>(J4 _ _<|ì u).u e
 show Á<|J1 ?_;show b1k L (I.at λo e=>g p o (ì n) e) (let(o,Q,x):=N;(o,g a o (ì k) Q,x)) G S n k .qo _ d (λj J c h M B q=>?_) O;show K j J c h (λb o u H e=>M b o u H<|g b o u e) B q
def b1i(L:A.xt=b0)(j:s.k.IsRevIter p a ((b5.q:ae)-1))(H:s.k.IsList a b5)(z:a≠p)(N:b5.q<=Ò)(I:∀g B c u,(∀b o,b≠p->s.k.G b=a7 o->g.G b=a7 o)->g.G s.k.y.q=a7 {cw:=.O "list",ix:=b0,bv:=.seq c u,ft:=#[]}->pa (λi v=>b5[b5.q-1-i]?=a7 v) c b5.q->Q (.x s.k.y.q) {s with ce:=g,dL:=B}):
  Ç (Ê dv w) A (ia (.O "list") [.x p]) Q E s:=by
 show PU (Q₁:=λq d=>q=.x s.k.y.q/\d={s with ce:=s.k.zl {cw:=.O "list",bv:=.seq #[]}}) ci.F.called_list (ci.F.typeCall_list_1 _) ci.F.entry_list_init
  (code_list_new _ (?r,?r)) λq d n=>?_
 let(?r,?r):=n;let G:(s.k.zl {cw:=.O "list",bv:=.seq #[]}).G s.k.y.q=a7 {cw:=.O "list",bv:=.seq #[]}:=ÿ _ ?r;let O:p<s.k.y.q:=let(o,k,_):=j;Ý k;let J:a<s.k.y.q:=let(o,k,_):=H;Ý k;show((_,G,?r),ci.F.args_list_init_2 _ _,b1j (A:=A.in1) L (j.at λo e=>ä _ e) (let(o,k,x):=H;(o,ä _ k,x)) z _ (š O) (š J) G (λg B c u M y h=>?_) N);show(?r,I g B c u (λb o K e=>M b o (ý<|Ý e) K<|ä _ e) y h)
def Hx!(K:Ï):gz->Hp->VK->Prop:=λxs H Q=>∃(p:ar)(a:gz),xs=[.x p]/\Ā K H p a/\∀l,H l=b0->Q (.x l) (eo H l<|.D a.zd)
def Hy:∀{a}{b5},Æ a b5->Æ a.zd b5.zd
 |_,_,.kk=>.kk|_,_,.zv h t=>by rw[N3,N3];show(Hy t).append<|.zv h .kk
def b1Z(hc:X.vn=b4)(O:Gl X "list")(R:X.mg "list"=b0)(w:Gl X "reversed")(z:X.mg "reversed"=b0)(N:PA X [e] t)(U:ð [e] X.M=⟨b3,eu e X.M⟩::ð [] X.M):
  PE X (.xz (.xk "list" p) [.xz (.xk "reversed" K) [e] [] c] [] ca) (xX (Hx X.K) t):=by
 intro n s σ H Q I h;show az (i9 I O R Qv ?_ ⋯<|by decide);show gj ?_ ?r ?r;change Ç _ _ (spliced<|⟨b3,eu (.xz (.xk "reversed" K) [e] [] c) X.M⟩::ĵ ca (ð [] X.M)) _ _ s;show ON (az<|i9 I w z b5o ?_ ⋯<|by decide);show gj (aR (N c n s σ H _ I h) λus g (vs,H1,j,r1,q1)=>?_) U ?r;let(q,ys,?r,T,k):=q1;let(u,?r,ru):=hJ r1;ext ru;let(b5,L,pl,Y):=j.vu T;let J:=L.f;let y:=pl.xc;let B:q<g.k.y.q:=let(o,A,_):=y;Ý A;show RZ y ?_;show OI ?_;show b1i (j.ok.hd hc) (p:=g.k.y.q) (a:=q) (b5:=b5.E) (_,ÿ _ ?r,?r,?r) (let(o,A,x):=y;(o,ä _ A,x)) (ý B) (by dsimp[Ģ]<;>lia) λh' tk a M Z G d=>?_;let v:a.zh=b5.zd:=by
  show QX λi=>?_;let hn:a.q=b5.f:=by apply d.1
  by_cases hi:i<b5.f
  .let h1:=d.2 i a[i] (Ql ());rw[UV,Ql (),<- h1,Qq hi,Ģ,ab.getElem?_toArray]
  .rw[ju<|by rw[fu];lia,ju<|by rw[R4];lia]
 let E:(g.k.zl<|revObj q<|(b5.E.q:ae)-1).objs.size=g.k.y.q+1:=by simp[Heap.zl]
 rw[E]at G ⊢;show(.x<|g.k.y.q+1,_,j.laid (t':=tk) (a:=g.k.y.q+1) (o:=.D ys.zd) (λb o e=>Z b o (ý<|Ý e)<|ä _ e) () (by rw[R4];show Y,b5.zd,M,Hy L,by rw[<- v];apply G),?r,k _<|j.vr.xo ())
def nJ!:MF:=λds μ=>match ds with
 |[.z a]=>match μ[a]? with
  |bb (.D xs)=>a7 ⟨.z μ.f,μ++[.D xs.zd]⟩|_=>b0
 |_=>b0
open _root_ in
def b1P:e8 K nJ (Hx K):=by
 intro u H s q d o p Q R i b k;unfold nJ at b;split at b
 .rename_i a;split at b
  .rename_i e n;ext b;cases i with
   |bm i t=>ext t;ext i;let(c,h1,h):=R.D a e n;show(_,c,?r,.of h1,λl j=>?_);let(g,R2,_):=R.alloc (c:=.D e.zd) (o:=.D c.zd) j<|b4A h;show k _ _ _ g R2 lG
  .ext b
 .ext b
def b1M(hc:X.vn=b4)(d:X.mg "list"=b0)(g:X.mg "reversed"=b0)(h:QA X [e] ms n)(b:Gl X "list")(c:Gl X "reversed"):
  QE X (.xz (.xk "list" p) [.xz (.xk "reversed" j) [e] [] a] [] ca) (bI nJ ms):=by
 let i:=h.s;rw[İ,â]at i;show⟨eL (b1Z hc b d c g h.h<|fS i.1)<|By b1P⟩
def Cd!(lo c:ae)(n:am):It:=(λi y=>i<n,λi H x a=>a=H/\x=.p (lo+(i:am)*c),λi y=>n<=i)
def b1C a lo c n:ı Qc P w K tg (Cd lo c n) [a] a (λi h=>ou h a (lo+(i:am)*c) ((n:ae)-(i:am)) c) where
 mem:=∅
 obj:=λi h st b d=>by
  let e:b=a:=by apply d
  subst e;show(_,st,λv z=>by
   let Y:ğ _=uh v:=z;ext Y)
 fv:=λi h p st k=>k a ∅ _ st;lm:=by intro X J hw G hc i g s N H E I q st L;subst J hw G;let(u,x,R,y,A,B):=q a ∅;let W:=S8 (dv:=X.Y) (w:=X.w) (I.ok.hd hc) a lo c n;show W.item i s _ _ L st λv p M T j U=>?_;let(t,?r):=T;let O:Â X g N H {s with ce:=p,dL:=M}:=I.turned (λb o d e=>U b o (by apply d) e) u x y A B;show(_,?r,qT (s:={s with ce:=p,dL:=M}) (n:="range_iterator") j ?r ?r ⋯ (.p<|lo+(i:am)*c,H,O,(t,?r),(?r,?r),j,λb d=>(q b d).1))
 k4:=by intro X J hw G hc i g s N H E I q st L;subst J hw G;let(u,x,R,y,A,B):=q a ∅;show SW (I.ok.hd hc) st (by have:n<=i:=L;lia) λp Q=>(?r,I.turned (t':=s.xh) (λb o d e=>Q b o d e) u x y A B)
 lh:=λ_ f f f f st h=>SU st h
def vO!(a b c:ae):av:=b7m a b c&&ag (c≠0)&&ag (c.natAbs<1073741824)&&ag (0<=ϳ a b c)
def b0w!(e:TA):TI:=λσ H R=>e σ H λvs d=>∃a b c:ae,vs=[.p a,.p b,.p c]/\vO a b c=b4/\R (Cd a c (ϳ a b c).zi) d
open PyProof.Rows in
def b0v{X:Cx}{tg a b c:bo}{J:TA}{p ca:Ń}(T:Gl X "range") (U:X.mg "range"=b0) (O:PA X [a,b,c] J)(Z:ð [a,b,c] X.M=⟨b3,eu a X.M⟩::ð [b,c] X.M)(A:(ĵ ca<|ð [b,c] X.M).any (·.1)=b3) :
  PI X tg (.xz (.xk "range" p) [a,b,c] [] ca) (b0w J):=by
 intro u s K H R I h;show my<|i9 I T U Oy<|gj (aR (O ca u s K H _ I h) λus n (vs,G,L,r1,q1)=>?_) Z A;let(i,j,k,e,g,q):=q1;subst e;unfold vO at g;rw[â,â,â,e4,e4,e4]at g;obtain(((B|y)|z)|Y):=g;cases r1 with
 |bm r v=>
  cases v with
  |bm r' v=>
   cases v with
   |bm E v=>
    ext v;let(t,?r):=r;let(w,?r):=r';let(d,?r):=E;show call_range_3 y ?_<|.Q<|PyProof.noPylong_small z;show Rb (Rj ..) B ?_;let x:Â X u K G {n with ce:=n.k.zl {cw:=.O "range",bv:=.xi #[.p i t,.p j w,.p k d]},dL:=n.xh}:=L.vx λb o e=>ä _ e;show((n.k.zl {cw:=.O "range",bv:=.xi #[.p i t,.p j w,.p k d]}).objs.size,[(n.k.zl {cw:=.O "range",bv:=.xi #[.p i t,.p j w,.p k d]}).objs.size],_,_,G,?r,
     x.vx (t':=n.xh) λb o e=>ä _ e,b1C _ i k (ϳ i j k).zi,?_,λb Q=>?_,q)
    .have M:i+((0:am):ae)*k=i:=∅
     let N:(((ϳ i j k).zi:am):ae)-((0:am):ae)=ϳ i j k:=()
     change ou _ _ (i+((0:am):ae)*k) ((((ϳ i j k).zi:am):ae)-((0:am):ae)) k;rw[M,N];show ÿ _ ?r
    .have e:b=(n.k.zl {cw:=.O "range",bv:=.xi #[.p i t,.p j w,.p k d]}).objs.size:=by apply Q
     subst e;show x.fpOk (Ô _)<|x.vr.xo<|Ô _
def tP!(lo c:ae)(n:am):gJ:=λ_ i=>a7<|if i<n then a7 (.p<|lo+(i:am)*c)else b0
open _root_ in
def b0d:Wk K (Cd lo c k) (tP lo c k) π n H:=by
 show(λb p g i e R z=>?_,λb p g i d e R z=>?_)
 .let a:=Ĕ z;split at a
  .ext a
  .show oh.Z<|by assumption
 .let a:=Ĕ z;split at a
  .ext a;rename_i h;show(h,λx q (j,o)=>by subst j;rw[o];show(.ki,R,.p _))
  .ext a
def vP!(ms:MA):MI:=λa μ=>(ms a μ).U λp=>match p.1 with
 |[.p i,.p j,.p c]=>if vO i j c=b4 then a7 ⟨tP i c (ϳ i j c).zi,(ϳ i j c).zi+1,p.2⟩else b0|_=>b0
open _root_ in
def b0M(e:Gl X "range")(g:X.mg "range"=b0)(v:QA X [a,b,c] ms n):QJ X (.xz (.xk "range" p) [a,b,c] [] ca) (vP ms):=⟨λtg Do s σ H R I hw=>by
 let h:=v.s;rw[İ,â]at h;let(T,U,O,K,Y,Q,z,E,d,k):=hw;show bJ d ?_;clear d;intro x q h1 d;show b0v e g v.h (fS h.1) (l7 h.2) Do s σ H R I (T,U,O,x,q,z,E,h1,λu Z w A y o=>?_);dsimp at d;split at d
 .rename_i i j c;split at d
  .rename_i B;ext d;cases o with
   |bm o L=>
    ext o;cases L with
    |bm G M=>
     ext G;cases M with
     |bm J N=>ext J;ext N;show(i,j,c,?r,B,k u w _ A y b0d)
  .ext d
 .ext d⟩
def Ce!(K:Ï)(a:ar)(n:am):It:=(λi H=>i<n/\∃xs x,Ā K H a xs/\xs[n-1-i]?=a7 x,λi H x b=>b=H/\∀xs,Ā K H a xs->xs[n-1-i]?=a7 x,λi y=>i=n)
def b0F a j n:ı Qc P w K tg (Ce K a n) [j] j (λi h=>h.IsRevIter j a<|(n:ae)-1-(i:am)) where
 mem:=∅
 obj:=λi h st b g=>by
  let e:b=j:=by apply g
  subst e;let(o,e,c,d):=st;show(o,e,λv z=>by rw[d]at z;ext z)
 fv:=λi h A st k=>st.at λo e=>k j ∅ o e;lm:=by
  intro X Q hw O hc i y s Z H E I B st R;subst Q hw O;let(hi,xs,x,U,Y):=R;let(b5,rv,p,hz):=I.vu U;let(u,hu,ru):=rv.get Y;let(G,J,f2,L,M,N):=B j ∅;let T:(n:ae)-1-(i:am)=((n-1-i:am):ae):=()
  rw[T]at st;show wpAny_pyNext_rev_item st p.xc (x:=u) (by apply hu) λA q sb=>?_;let I1:Â X y Z H {s with ce:=A}:=I.turned (t':=s.xh) (λb o g e=>(sb.2 b g).u e) G J L M N;rw[<- T,show(n:ae)-1-(i:am)-1=(n:ae)-1-((i+1:am):am) by lia]at q;let(o,e,c,d):=id q;show(u,?r,qT (s:={s with ce:=A}) e c d ⋯ (x,H,I1,ru,(?r,λys hy=>by rw[I.list_inj hy U];show Y),q,λb g=>(B b g).1))
 k4:=by intro X Q hw O hc i y s Z H E I B st R;subst Q hw O;let hg':i=n:=R;let(G,J,f2,L,M,N):=B j ∅;rw[show(n:ae)-1-(i:am)=-1 by lia]at st;show wpAny_pyNext_rev_end (I.ok.hd hc) st λA eb=>(?r,I.turned (t':=s.xh) (λb o g e=>eb b o g e) G J L M N)
 lh:=λ_ f f f f st h=>Qf st h
def TzI!(K:Ï)(c:TA):TI:=λσ H R=>c σ H λvs b=>∃a xs,vs=[.x a]/\Ā K b a xs/\R (Ce K a xs.f) b
open PyProof.Rows in
def TuP{X:Cx}{tg a:bo}{v:TA}{p ca:Ń}(z:Gl X "reversed") (A:X.mg "reversed"=b0) (x:PA X [a] v)(E:ð [a] X.M=[⟨b3,eu a X.M⟩]):PI X tg (.xz (.xk "reversed" p) [a] [] ca) (TzI X.K v):=by
 intro j s M H R I h;show my<|i9 I z A Boot.«reversed»<|callWith_type1 (aR (x ca j s M H _ I h) λO c (Q,w,g,J,G)=>?_) E ?r;let(i,k,?r,B,q):=G;let(u,?r,K):=hJ J;ext K;let(b5,L,pl,N):=g.vu B;let n:=L.f;show RZ pl.xc ?_;let d:(c.k.zl<|revObj i<|(b5.E.q:ae)-1).IsRevIter c.k.y.q i ((b5.E.q:ae)-1):=(_,ÿ _ ?r,?r,?r);show Qf d ?_;show(c.k.y.q,[c.k.y.q],_,_,w,?r,g.vx (t':=c.xh) λb o e=>ä _ e,b0F i _ k.f,?_,λb y=>?_,q)
 .let e:(k.f:ae)-1-((0:am):ae)=(b5.E.q:ae)-1:=by dsimp[Ģ];lia
  change Heap.IsRevIter _ _ _ ((k.f:ae)-1-((0:am):ae));rw[e];show d
 .let e:b=c.k.y.q:=by apply y
  subst e;show g.fpOk (Ô _)<|g.vr.xo<|Ô _
def nK!(a n:am):gJ:=λμ i=>match μ[a]? with
 |bb (.D xs)=>if i<n then(xs[n-1-i]?).o a7 else if i=n then a7 b0 else b0|_=>b0
open _root_ in
def TiV(u:a<n):Wk K (Ce K (π a) k) (nK a k) π n H:=by
 show(λb E j i e R z=>?_,λb E j i d e R z=>?_)
 .unfold nK at z;split at z
  .split at z
   .let(y,_,h):=Ľ.Z z;ext h
   .split at z
    .assumption
    .ext z
  .ext z
 .unfold nK at z;split at z
  .rename_i B x;split at z
   .rename_i hi;show cI z ?_;clear z;intro y A h;ext h;let(g,h1,q):=R.D a B x;rw[e.pi a u]at h1;let(w,c,s):=q.get A;show((hi,g,w,.of h1,c),λv G (o,p)=>?_);subst o;have:=p g<|.of h1;rw[c]at ah;ext ah;show(.ki,R,s)
   .split at z
    .ext z
    .ext z
  .ext z
def vQ!(ms:MA):MI:=λb μ=>(ms b μ).U λp=>match p.1 with
 |[.z a]=>match p.2[a]? with
  |bb (.D xs)=>a7 ⟨nK a xs.f,xs.f+1,p.2⟩|_=>b0
 |_=>b0
open _root_ in
def TaI(d:Gl X "reversed")(e:X.mg "reversed"=b0)(o:QA X [a] ms n):QJ X (.xz (.xk "reversed" p) [a] [] ca) (vQ ms):=⟨λtg Do s σ H R I hw=>by
 let q:=o.s;rw[İ,â]at q;let(O,Q,M,G,T,N,w,E,c,k):=hw;show bJ c ?_;clear c;intro x h h1 c;show TuP d e o.h (fS q.1) Do s σ H R I (O,Q,M,x,h,w,E,h1,λi U v y j g=>?_);dsimp at c;split at c
 .rename_i b;split at c
  .rename_i L u;ext c;cases g with
   |bm g J=>ext J;ext g;let(K,z,A):=j.D b L u;let B:=(ã.Z u).1;show(_,K,?r,.of z,?_);rw[A.f];show k i v _ y j<|TiV B
  .ext c
 .ext c⟩
noncomputable abbrev bX:=ab<|ab ae×ar×V
def cP!(ps:bX)(ws:gw):ab (ab ae×ar×ax):=um (λp w=>⟨p.1,p.2.1,w⟩) ps ws
def zH:∀(ps:bX)(ws:gw),um u6 ps ws=(cP ps ws).o (zg<|Ϭ<|ŷ P w)
 |[],_=>by simp[cP]
 |p::ps,[]=>by simp[cP]
 |p::ps,u::ws=>by let a:=zH (P:=P) (w:=w) ps ws;unfold cP at a ⊢;rw[ϑ,ϑ,í,a];rfl
def oP:∀{ps}{ws},Æ (ps.o (·.2.2)) ws->(cP ps ws).o (·.1)=ps.o (·.1)
 |[],_,_=>by simp[cP]
 |p::ps,_,.zv r t=>by let a:=oP (ps:=ps) t;unfold cP at a ⊢;rw[ϑ,í,í,a]
def Cf:∀{ps}{ws}{x},x∈cP ps ws->∃p∈ps,p.1=x.1/\p.2.1=x.2.1
 |[],_,x,h=>by simp[cP]at h
 |p::ps,[],x,h=>by simp[cP]at h
 |p::ps,u::ws,x,h=>by
  unfold cP at h;rw[ϑ]at h;rcases ē.Z h with e|h
  .subst e;show(p,ŗ ..,?r,?r)
  .let(q,a,e):=Cf (ps:=ps) (ws:=ws) h;show(q,ķ _ a,e)
def gM!(ps:bX)(k:ab ae):af V:=(ps.find? λp=>ag<|p.1=k).o (·.2.2)
def fV!(ps:bX)(k:ab ae)(b:ar)(v:V):bX:=if(gM ps k).qh then ps.o (λp=>if p.1=k then⟨p.1,p.2.1,v⟩else p)else ps++[⟨k,b,v⟩]
def rN:∀{ps}{ws},Æ (ps.o (·.2.2)) ws->∀k,Į (gM ps k) ((ϗ (cP ps ws) k).o (·.2))
 |[],_,.kk,k=>by simp[gM,cP,ϗ];show ϛ
 |p::ps,_,.zv r t,k=>by
  let a:=rN (ps:=ps) t k;unfold gM ϗ cP at a ⊢;rw[ϑ,Ε,Ε];by_cases e:p.1=k
  .dsimp[e,decide_true];show r
  .dsimp[e,decide_false];show a
def vT ps k b v:(fV ps k b v).f<=ps.f+1:=by ext fV;lk<;>simp
def Hz(c:Í v u):∀{ps}{ws},Æ (ps.o (·.2.2)) ws->
  ∃a,Æ ((ps.o λp=>if p.1=k then⟨p.1,p.2.1,v⟩else p).o (·.2.2)) a/\(cP ps ws).o (putAt k u)=cP (ps.o λp=>if p.1=k then⟨p.1,p.2.1,v⟩else p) a
 |[],_,.kk=>([],.kk,by simp[cP])|p::ps,_,.zv (b:=w) r t=>by
  let(a,h1,b):=Hz c (ps:=ps) t;by_cases e:p.1=k
  .show(u::a,?_,?_)
   .rw[í,í,ad e];show .zv c h1
   .unfold cP at b ⊢;rw[ϑ,í,b,í,ad e,ϑ];ext putAt;rw[ad e]
  .show(w::a,?_,?_)
   .rw[í,í,ac e];show .zv r h1
   .unfold cP at b ⊢;rw[ϑ,í,b,í,ac e,ϑ];ext putAt;rw[ac e]
def HA:∀{ps}{ws},Æ (ps.o (·.2.2)) ws->cP ps ws++[⟨k,b,u⟩]=cP (ps++[⟨k,b,v⟩]) (ws++[u])
 |[],_,.kk=>by simp[cP]
 |p::ps,_,.zv r t=>by let a:=HA (k:=k) (b:=b) (v:=v) (u:=u) (ps:=ps) t;unfold cP at a ⊢;rw[ϑ,Ź,a,Ź,Ź,ϑ]
def zI(r:Æ (ps.o (·.2.2)) ws)k b(c:Í v u):
  ∃a,Æ ((fV ps k b v).o (·.2.2)) a/\Ϫ (cP ps ws) k b u=cP (fV ps k b v) a:=by
 let e:=(rN r k).isSome_eq;rw[OK]at e;ext fV Ϫ;rw[e];by_cases h:(ϗ (cP ps ws) k).qh=b4
 .rw[ad h,ad h];show Hz c r
 .rw[ac h,ac h];show(ws++[u],?_,HA r);rw[Ć];show RX r c
def eY!(K:Ï)(H:Hp)(ps:bX):Prop:=∀p∈ps,à K H p.2.1 (p.1.o V.p)
def lO{σ:St}{ps:bX}(I:Â X Do σ H s)(e:Rd H a (aN a ps))(q:eY X.K H ps):(a==Ļ)=b3/\ps.f<=Ò /\
  ∃b,Æ (ps.o (·.2.2)) b/\s.k.DictOfH (Ϭ<|ŷ X.Y X.w) a (cP ps b):=by
 obtain((b|r|w|u|o|h|g|h1|i|j|k|n)|_):=(show á X.Y X.w H s.k a (aN a ps)from e.ok I.vr);show(w,u,b,r,o,h,g,h1,i,j,by rw[k];show zH ps b,λx y=>?_,by rw[oP r];show n);let(p,v,c,d):=Cf y;rw[<- c,<- d];show nI I<|q p v
def vU{ps:bX}(k:(a==Ļ)=b3)(j:ps.f<=Ò)(r:Æ (ps.o (·.2.2)) ws)(d:h'.DictOfH (Ϭ<|ŷ P w) a (cP ps ws)):á P w n h' a (aN a ps):=by let(o,c,b,h1,e,g,h,_,i):=d;show((ws,r,k,j,o,c,b,h1,e,g,by rw[h,zH (P:=P) (w:=w)],by rw[<- oP r];show i),(o,h1),?_);rintro q u (ws|r|k|j|o|c|b|h1|e|g|h|i) p;show(ws,r,k,j,o,c,b,p o h1,e,g,h,i)
def SfI{σ:St}{ps:bX}(I:Â X Do σ H s)(e:Rd H a (aN a ps))(b:eY X.K H ps):s.TypeIs (.x a) "dict":=by let(_,_,c,_,d):=lO I e b;show d.ja
def rO{X:Cx}{A:ų}(b:A.qv+1<ă):(Ϭ<|ŷ X.Y X.w).room A.in1:=by change A.in1.qv<ă;rw[lX];lia
def b2y{σ:St}{ps:bX}(u:A.qv+1<ă)(I:Â X Do σ H s)(e:Rd H a (aN a ps))(o:eY X.K H ps)(n:à X.K H b (k.o V.p))(w:gM ps k=a7 v)(h:∀c j,Â X Do σ H j->Í v c->Q c j):Ç (Ê X.Y X.w) A (ud (.x a)<|.x b) Q E s:=by
 let(z,y,x,r,d):=lO I e o;let(c,hw,i):=Į.some_of (v:=v) (o:=(ϗ (cP ps x) k).o (·.2)) (by rw[<- w];show rN r k);show cI hw ?_;clear hw;intro p q g;show wpAny_getItem_heap (rO u) (nI I n) d q ?_;rw[g];show h c _ (I.tok _) i
def b2s{σ:St}{ps:bX}(n:A.qv+1<ă)(I:Â X Do σ H s)(e:Rd H a (aN a ps))(i:eY X.K H ps)(g:à X.K H b (k.o V.p))(h:∀c,Â X Do σ H c->Q (.kt (gM ps k).qh) c):Ç (Ê X.Y X.w) A (Ķ .In (.x b)<|.x a) Q E s:=by
 let(j,o,p,r,d):=lO I e i;show wpAny_in_heap (rO n) (nI I g) j d ?_;let q:=(rN r k).isSome_eq;rw[OK]at q;rw[<- q];show h _<|I.tok _
def b2l{σ:St}{ps:bX}(n:A.qv+1<ă)(I:Â X Do σ H s)(e:Rd H a (aN a ps))(i:eY X.K H ps)(g:à X.K H b (k.o V.p))(h:∀c,Â X Do σ H c->Q (.kt<|!(gM ps k).qh) c):Ç (Ê X.Y X.w) A (Ķ .NotIn (.x b)<|.x a) Q E s:=by
 let(j,o,p,r,d):=lO I e i;show b7s (rO n) (nI I g) j d ?_;let q:=(rN r k).isSome_eq;rw[OK]at q;rw[<- q];show h _<|I.tok _
def b2f{σ:St}{ps:bX}(z:A.qv+1<ă)(I:Â X Do σ H s)(e:H a=a7 (aN a ps))(w:eY X.K H ps)(o:à X.K H b (k.o V.p))(hz:ps.f<Ò)(J:Í v u)(h:∀i,Â X Do σ (eo H a<|aN a<|fV ps k b v) i->Q ld.unit i):Ç (Ê X.Y X.w) A (setItem (.x a) (.x b) u) Q E s:=by
 let(y,M,K,r,d):=lO I (.of e) w;let B:(cP ps K).f<=Ò:=by have:=br ģ<|oP r;rw[Ä,Ä]at ah;lia
 show wpAny_setItem_heap (hsz:=B) (rO z) (nI I o) d λn c g=>h _ ?_;let(L,G,j):=zI r k b J;rw[j]at c;let p:∃q,n.G a=a7 q:=let(q,_,_,x,_):=c;(q,x);show xY I (by rw[e];show ϛ) g p<|vU y (by have:=vT ps k b v;lia) G c
def ñ!(K:Ï)(π:am->ar)(n:am)(H:Hp):bX->jx->Prop:=ύ λp q=>p.1=q.1/\à K H p.2.1 (p.1.o V.p)/\Ù K π n H p.2.2 q.2
def b2Z{k:ab ae}(h:Ù K π n H (.x b) (.L<|k.o D.p)):à K H b (k.o V.p):=by
 cases h with
 |f6 q t=>rw[ħ t]at q;show q
def ñ.of:∀{ps}{ay},ps.o (·.1)=ay.o (·.1)->È K π n H (ps.o λp=>V.x p.2.1) (ay.o λk=>D.L<|k.1.o D.p)->È K π n H (ps.o (·.2.2)) (ay.o (·.2))->ñ K π n H ps ay
 |[],[],_,_,_=>.kk|[],_::_,h,_,_=>by ext h
 |_::_,[],h,_,_=>by ext h
 |p::ps,q::ay,h,h2,h3=>by
  cases h2 with
  |bm a b=>
   cases h3 with
   |bm c d=>rw[í,í,N9]at h;show .zv (h.1,?_,c)<|ñ.of h.2 b d;rw[h.1];show b2Z a
def ñ.keys:∀{ps}{ay},ñ K π n H ps ay->eY K H ps
 |_,_,.kk=>λp a=>nomatch a|_,_,.zv h t=>λp a=>by
  rcases ē.Z a with e|a
  .subst e;show h.2.1
  .show ñ.keys t p a
def ñ.to:∀{ps}{ay},ñ K π n H ps ay->ps.o (·.1)=ay.o (·.1)/\È K π n H (ps.o λp=>V.x p.2.1) (ay.o λk=>D.L<|k.1.o D.p)/\È K π n H (ps.o (·.2.2)) (ay.o (·.2))
 |_,_,.kk=>(?r,.kk,.kk)|_,_,.zv (a:=p) (b:=q) h t=>by let(h1,a,b):=ñ.to t;show(by rw[í,í,h.1,h1],.zv ?_ a,.zv h.2.2 b);change Ù K π n H (.x p.2.1) (.L<|q.1.o D.p);rw[<- h.1];show .L h.2.1<|B6 p.1
def ñ.val k:∀{ps}{ay},ñ K π n H ps ay->(gM ps k=b0/\bC ay k=b0)\/∃v d,gM ps k=a7 v/\bC ay k=a7 d/\Ù K π n H v d
 |_,_,.kk=>.Q (?r,?r)|_,_,.zv (a:=p) (b:=q) h t=>by
  let a:=ñ.val k t;unfold gM bC at a ⊢;rw[Ε,Ε,<- h.1];by_cases e:p.1=k
  .dsimp[e,decide_true];show .X (_,_,?r,?r,h.2.2)
  .dsimp[e,decide_false];show a
def ñ.put(h:ñ K π n H ps ay)k(i:à K H b (k.o V.p))(g:Ù K π n H v d):ñ K π n H (fV ps k b v) (cK ay k d):=by
 let e:(gM ps k).qh=(bC ay k).qh:=by rcases h.val k with(h1|c)|(v|d|h1|c|_)<;>rw[h1,c]<;>rfl
 let a:∀{ps:bX}{ay:jx},ñ K π n H ps ay->ñ K π n H (ps.o λp=>if p.1=k then⟨p.1,p.2.1,v⟩else p) (ay.o λp=>if p.1=k then⟨p.1,d⟩else p):=by
  intro ps ay h;unfold ñ at h;induction h with
  |fk=>show .kk|@bm p q ps o h t j=>
   rw[í,í];show .zv ?_ j;by_cases z:p.1=k
   .rw[ad z,ad<|h.1.symm.trans z];show(h.1,h.2.1,g)
   .rw[ac z,ac λy=>z<|h.1.u y];show h
 ext fV cK;rw[e];lk
 .show a h
 .show RX h (?r,i,g)
def jC{ay:jx}(R:Rp K π H μ)(h:μ[a]?=a7 (.dT ay)):∃ps,H (π a)=a7 (aN (π a) ps)/\ñ K π μ.f H ps ay:=by let(ps,h1,b,c,d):=R.dT a ay h;show(ps,h1,.of b c d)
def tQ{ay:jx}(R:Rp K π H μ)(h:μ[a]?=a7 (.dF ay)):∃ob ps,H (π a)=a7 (.frz ob<|aN (π a) ps)/\ñ K π μ.f H ps ay:=by let(ob,ps,h1,b,c,d):=R.dF a ay h;show(ob,ps,h1,.of b c d)
def pZ(h:Ù K π n H v x)(e:d7 x=a7 k):∃b,v=.x b/\à K H b (k.o V.p):=by
 have:=vJ e;subst ah;cases h with
 |f6 q t=>rw[ħ t]at q;show(_,?r,q)
def jX!:ME:=λ_ μ=>a7 ⟨.z μ.f,μ++[.dT []]⟩
def HB(h:ê)(a:Ļ<h.y.q):á P w H (h.zl {cw:=.O "dict",bv:=.dict #[]}) h.y.q (aN h.y.q []):=
 vU (ws:=[]) (cv.v<|ì<|ý a) (Ŝ _) .kk<|b7K h
def b2Y!:TE:=λ_ H Q=>∀p,H p=b0->Q (.x p) (eo H p<|aN p [])
def b2X:PE X (.Dict [] [] ca) b2Y:=λDo s σ H Q I h=>wpAny_Dict_empty (.x s.k.y.q,_,I.laid (a:=s.k.y.q) (o:=aN s.k.y.q []) (t':=s.xh) (λ_ x q=>ä _ q) (Ô _)<|HB s.k I.big,?r,h _<|I.vr.xo<|Ô _)
def b2W:QE X (.Dict [] [] ca) jX:=⟨eL b2X<|by
 rintro o H Q (j|n|i|d|g|R|E|c|k) p e;ext c;let(b,a,h):=R.alloc (c:=.dT []) (o:=aN p []) e ([],?r,?r,.kk,.kk);show k _ _ _ b a lG⟩
def vV!:D->D->Hm->jk
 |.z a,y,μ=>match μ[a]? with
  |bb (.dT ay)=>(d7 y).U λk=>(bC ay k).o λd=>⟨d,μ⟩|bb (.dF ay)=>(d7 y).U λk=>(bC ay k).o λd=>⟨d,μ⟩|_=>b0
 |_,_,_=>b0
def HC!(K:Ï):R2:=λx y H Q=>∃a b ps k v,x=.x a/\y=.x b/\Rd H a (aN a ps)/\eY K H ps/\à K H b (k.o V.p)/\gM ps k=a7 v/\Q v H
def b2V(E:X.A.qv+1<ă)(A:PE X a td)(hi:PE X b ty)(B:FC b):PE X (.xy a b ca) (λσ H Q=>td σ H λx d=>ty σ d λy g=>HC X.K x y g Q):=by intro c s σ H Q I h;show FD UE.B B<|aR (A c s σ H _ I h) λu O (x,d,o,M,K)=>aR (hi c O σ d _ o K) λJ T (y,g,j,N,a,b,R,k,v,q,w,e,n,z,G,L)=>?_;subst q w;obtain rfl:u=Ñ a:=M;obtain rfl:J=Ñ b:=N;show(SfI j e n,b2y E j e n z G λY U p i=>(v,g,p,i,L))
open _root_ in
def b2U:eU K vV (HC K):=by
 intro A H L x y d G I J Q R u w c k;unfold vV at c;split at c
 .split at c
  .rename_i n hc;show cC c ?_;clear c;intro h h1 c;show cI c ?_;clear c;intro B g c;ext c;ext u;let(o,i,T):=jC R hc;let(b,?r,j):=pZ w h1;rcases T.val h with(_|z)|(v|E|p|q|s)
   .rw[z]at g;ext g
   .rw[q]at g;ext g;show(_,b,o,h,v,?r,?r,.of i,T.keys,j,p,k A _ H .ki R s)
  .rename_i n hc;show cC c ?_;clear c;intro h h1 c;show cI c ?_;clear c;intro B g c;ext c;ext u;let(ob,o,i,T):=tQ R hc;let(b,?r,j):=pZ w h1;rcases T.val h with(_|z)|(v|E|p|q|s)
   .rw[z]at g;ext g
   .rw[q]at g;ext g;show(_,b,o,h,v,?r,?r,.X (ob,i),T.keys,j,p,k A _ H .ki R s)
  .ext c
 .ext c
def Va(g:Þ k X.A)(c:QE X a ma)(d:QE X b mb)(h:rG b=b4):QE X (.xy a b ca) (aA vV ma mb):=⟨eL (b2V (iI g) c.h d.h<|BP h)<|u9 b2U⟩
def Vb!(K:Ï)(td ty tv:TE):TS:=λD σ H=>tv σ H λv d=>td σ d λx g=>ty σ g λy c=>∃a b ps k,x=.x a/\y=.x b/\c a=a7 (aN a ps)/\eY K c ps/\à K c b (k.o V.p)/\ps.f<Ò/\D.nx σ (eo c a<|aN a<|fV ps k b v)
def Vc(K:X.A.qv+1<ă)(G:PE X o td)(hi:PE X i ty)(L:PE X e tv)(J:dI e (a7<|.xy o i tpos) ca.line X.M=ej b3):
  PS X (.Assign [.xy o i tpos] e ca) (Vb X.K td ty tv):=by
 intro c s d H D I h;show wpAny_Assign_Subscript (aR (L c s d H _ I h) λr Z (v,g,n,T,O)=>aR (G c Z d g _ n O) λu s2 (x,j,p,U,Q)=>aR (hi c s2 d j _ p Q) λN s3 (y,H3,q,Y,a,b,ps,k,z,A,e,E,B,M,R)=>?_) J;subst z A;obtain rfl:u=Ñ a:=U;obtain rfl:N=Ñ b:=Y;show b2f K q e E B M T λs4 w=>(d,_,w,R)
open _root_ in
def Vd(hr:Þ g X.A)(ho:QE X o mo)(hi:QE X i mi)(he:QE X e me)(h:l8 e=b4):QS X (.Assign [.xy o i tpos] e ca) (Cb vM mo mi me):=
 ⟨lV (Vc (b1U hr) ho.h hi.h he.h<|yS h)<|by
 rintro E σ H (π|M|μ|fl|ρ'|aw|R|p|c|k);show bJ c ?_;clear c;intro x j h1 c;show bJ c ?_;clear c;intro y n h2 c;show bJ c ?_;clear c;intro z I h3 c;show cI c ?_;clear c;intro om d c;ext c;show(π,M,μ,x,j,R,p,h1,λJ v1 H1 q Y i1=>(J,M,j,y,n,Y,p.zw q,h2,λK v2 H2 s R2 i2=>(K,M,n,z,I,R2,(p.zw q).zw s,h3,λL v3 H3 u N i3=>?_)));cases y with
 |lp a=>
  dsimp[vM]at d;split at d
  .rename_i B hc;show cC d ?_;clear d;intro g h5 d;split at d
   .rename_i hz;ext d;let A:=i2.zw u;cases A with
    |lp v=>
     let(G,Q,T):=jC N hc;let(b,?r,U):=pZ i3 h5;let hv:=(i1.zw s).zw u;let T':=T.put g U hv;let(g1,g2,g3):=T'.to;let w:G.f<Ò:=by have:=br ģ (T.to).1;rw[Ä,Ä]at ah;lia
     show(_,b,G,g,?r,?r,Q,T.keys,U,w,?_);let(O,Z):=N.put (c:=.dT (cK B g x)) (o:=aN _ (fV G g b v1)) v Q (.X<|.X (_,?r)) (_,?r,g1,g2,g3);show k L σ _ (((q.u s).u u).u O) Z<|(((p.zw q).zw s).zw u).zw O
   .ext d
  .ext d
 |_=>simp[vM]at d⟩
def vW!(b:av):D->D->Hm->jk
 |x,.z a,μ=>match μ[a]? with
  |bb (.dT ay)=>(d7 x).o λk=>⟨.bl<|if b then !(bC ay k).qh else(bC ay k).qh,μ⟩|bb (.dF ay)=>(d7 x).o λk=>⟨.bl<|if b then !(bC ay k).qh else(bC ay k).qh,μ⟩|_=>b0
 |_,_,_=>b0
def Cg!(K:Ï)(c:av):R2:=λx y H Q=>∃a b ps k,x=.x b/\y=.x a/\Rd H a (aN a ps)/\eY K H ps/\à K H b (k.o V.p)/\Q (.bl<|if c then !(gM ps k).qh else(gM ps k).qh) H
def HD(j:X.A.qv+1<ă):Ē X (Ķ .In) (Cg X.K b3):=by intro d s z H x y v u Q I n o h;let(a,b,p,k,?r,?r,e,i,g,q):=h;obtain rfl:v=Ñ b:=n;obtain rfl:u=Ñ a:=o;show b2s j I e i g λw c=>(.bl _,H,c,?r,q)
def HE(j:X.A.qv+1<ă):Ē X (Ķ .NotIn) (Cg X.K b4):=by intro d s z H x y v u Q I n o h;let(a,b,p,k,?r,?r,e,i,g,q):=h;obtain rfl:v=Ñ b:=n;obtain rfl:u=Ñ a:=o;show b2l j I e i g λw c=>(.bl _,H,c,?r,q)
open _root_ in
def zJ:eU K (vW i) (Cg K i):=by
 intro s H A x y d u w z Q R p q a k;unfold vW at a;split at a
 .split at a
  .rename_i g hc;show cI a ?_;clear a;intro c h1 a;ext a;ext q;let(j,n,T):=jC R hc;let(b,?r,o):=pZ p h1;let e:(gM j c).qh=(bC g c).qh:=by rcases T.val c with(h1|h)|(v|d|h1|h|_)<;>rw[h1,h]<;>rfl
   show(_,b,j,c,?r,?r,.of n,T.keys,o,?_);rw[e];show k s _ H .ki R<|.bl _
  .rename_i g hc;show cI a ?_;clear a;intro c h1 a;ext a;ext q;let(ob,j,n,T):=tQ R hc;let(b,?r,o):=pZ p h1;let e:(gM j c).qh=(bC g c).qh:=by rcases T.val c with(h1|h)|(v|d|h1|h|_)<;>rw[h1,h]<;>rfl
   show(_,b,j,c,?r,?r,.X (ob,n),T.keys,o,?_);rw[e];show k s _ H .ki R<|.bl _
  .ext a
 .ext a
def ø!(h:ê)(d:ar)(es:eh eg)(ep:am):Prop:=∃z,h.G d=a7 z/\z.ExactDict/\z.data=.dict es ep
def ø.ty{s:Ø}{es ep}(g:ø s.k d es ep):s.TypeIs (.x d) "dict":=let(z,a,b,_):=g;(z,a,b.1)
def ø.stay{es ep}(g:ø h d es ep)(k:∀o,h.G d=a7 o->h'.G d=a7 o):ø h' d es ep:=let(z,a,b):=g;(z,k z a,b)
def ø.lt{h:ê}{d:ar} {es ep} (g:ø h d es ep):d<h.y.q:=let(_,a,_):=g;Ý a
def HF(lo:(d==Ļ)=b3)(g:ø s.k d es ep)(q:Q (.x s.k.y.q) {s with ce:=s.k.zl {cw:=.O "dict_keyiterator",bv:=.xi #[.x d,.p 0 0,.p es.q 0,.p ep 0]}}):Ç (Ê P w) A (aj<|.x d) Q E s:=by
 let(z,a,c,b):=id g;show Q5 g.ty F.slot_dict_iter<|Ÿ F.slot_dict_iter g.ty F.entry_dict_iter ?_<|F.args_dict_iter_1 _;unfold ez.«dict.__iter__» b7O;show Á<|Á<|rE g.ty ?_;change Ç _ _ (ej<|Ñ d) _ _ _;show É ?_;change Ç _ _ (jy d >>= _) _ _ _;ext jy;rw[ac λx=>þ<|lo.R.u x];show Á<|É<|Á<|Υ a b<|Á<|g8 a b<|Á<|Η<|É ?_;show(_,?r,"dict_keyiterator",_,(_,ÿ _ ?r,?r),F.slot_dict_keyiterator_next.B,by simpa[Ł]using q)
def zK(v:A.xt=b0)(j:s.k.IsKeyIter it d i es.q ep)(g:ø s.k d es ep)(G:∀e a,es[i]?=a7 e->a.IsKeyIter it d (i+1) es.q ep->ū it s.k a->Q (a7 e.key) {s with ce:=a})(H:es[i]?=b0->∀a,ϰ it s.k a->Q b0 {s with ce:=a}):Ç (Ê P w) A (Ō<|.x it) Q E s:=by
 let(y,c,B,b):=id j;let(z,n,I,o):=id g;let k:∀{Q:cq->Ø->Prop}{A:ų}{E:ax->Ø->Prop},Q "dict_keyiterator" s->Ç (Ê P w) A (Pp<|.x it) Q E s:=λq=>wpAny_typeNameOfWhole_keyiter j.ja q;ext Ō;show Á<|uo<|kh (fg:=ŝ "__next__") j.ja F.slot_dict_keyiterator_next<|Ÿ F.slot_dict_keyiterator_next j.ja F.entry_dict_keyiterator_next ?_<|F.args_dict_keyiterator_next_1 _;show Á<|É<|Á<|Á<|Á<|k<|É<|Á<|PX c b ?_;rw[show NL "dict_keyiterator"=b3 by decide,ac þ];change Ç _ _ (if(Ñ d==ļ)=b4 then _ else _) _ _ _;rw[ac<|show ¬ (Ñ d==ļ)=b4 from λx=>þ x];show Á<|É<|Á<|Υ n o ?_;rw[ac λx=>by simp at x];show Á<|É<|Á<|g8 n o ?_;rw[ac λx=>by simp at x];show É ?_;dsimp;rw[ac<|show ¬ ((i:ae)<0) by lia,kj];cases p:es[i]? with
 |bb e=>
  show Á<|Á<|k<|É<|Á<|Su j.ja ?_;change Ç _ _ (iz (.x it) 1 (Ł<|(i:ae)+1) >>= _) _ _ _;show Á (q9 c b ∅ ?_);let h:(s.k.vi it<|OF (·.setIfInBounds 1<|Ł<|(i:ae)+1)).IsKeyIter it d (i+1) es.q ep:=
   (_,τ _ c<|QP<|wz b _,(Q1 ..).u B,by simp[wz b,Ł])
  generalize hu:s.k.vi it (OF (·.setIfInBounds 1<|Ł<|(i:ae)+1))=u at h;show Á<|Ņ<|Á<|Su (s:={s with ce:=u}) h.ja ?_;change Ç _ _ (ej e.key) _ _ _;show É<|É (_,?r,É<|G e u p h<|hu▸ž ..)
 |bp=>show Á<|Á<|k<|É ?_;change Ç _ _ (iz (.x it) 0 .qo >>= _) _ _ _;show Á (q9 c b ∅ ?_);change Ç _ _ (iw (.O "StopIteration") [] >>= _) _ _ _;dsimp[iw,ug];show Á (Á<|Η ?_<|by size_fits);show Á (m:=jn _ _) (pD (a:=ļ) (by first|rfl|(dsimp[jn];rfl))<|Η ?_<|by size_fits);ext NX;show Á<|O5 ?_;rw[show A.in1.xt=b0 from v];show Á<|É<|O0 ?mw;case mw=>show Á<|gf (T:="StopIteration") (b:=b4) (_,ÿ _ ?r,?r) CR<|É<|H p _<|((ž ..).extBut.push _).zl _
def Ve(p:A.xt=b0)(n:d≠it)es ep:Walks P w A it [it,d] [it] es.q (λi v=>∃e,es[i]?=a7 e/\v=e.key) (λi h=>h.IsKeyIter it d i es.q ep/\ø h d es ep) where
 sub:=λb a=>by rw[ġ.Z a];show ŗ ..
 frame:=λ_ f f st k=>(st.1.at λo e=>k it ∅ o e,st.2.stay λo e=>k d ∅ o e)
 lm:=λi s Q E hi st q=>zK p st.1 st.2 (λe j c y u=>q _ j s.xh (e,c,?r) (y,st.2.stay λo g=>u.V d o n g) λb o a g=>u.V b o (λz=>a<|by simp[z]) g) λc=>by simp at c;lia
 k4:=λs Q E st q=>zK p st.1 st.2 (λe j c=>by simp at c) λ_ j x=>q j s.xh λb o a g=>x b o (λz=>a<|by simp[z]) g
 lh:=λ_ f f f st q=>Si st.1 q
def HG(lo:(d==Ļ)=b3):ci.W.KdlSrc P w "dict" d d es.q (λi v=>∃e,es[i]?=a7 e/\v=e.key) (λh=>ø h d es ep) where
 type:=λ_ g=>g.ty
 there:=λ_ g=>(g.lt,g.lt)
 fv:=λ_ x g k=>g.stay λo e=>k d (.Q ?r) o e
 notList:=⋯
 notTuple:=⋯
 hint:=λ_ x x x g q=>ci.W.kdl_hint_dict g.ty q
 ea:=λ_ x a g=>(_,_,(λ_ x q=>HF lo g q),Ve a (ý g.lt) es ep,((_,ÿ _ ?r,?r,?r),g.stay λo e=>ä _ e))
def Vf(lo:(d==Ļ)=b3):yq P w (ez.«dict.__len__» ([.x d],[])) (λ_ R s=>∃es ep,ø s.k d es ep/\R (.ok<|.ret<|.p (es.q:am) s.xh) {s with dL:=s.xh+1}):=
 .of_wp λA R s (es,ep,(z,a,c,b),q)=>by change Ç _ _ (dictSize d >>= _) _ _ _;ext dictSize;show Á<|Á<|Υ a b<|É ?_;change Ç _ _ (b7M d >>= _) _ _ _;show Á<|wpAny_pendingCount_other lo<|wpAny_ret_mkInt ?_;rw[am.add_zero];show q
def Vg{s:Ø}(lo:(d==Ļ)=b3)(g:ø s.k d es ep)(hz:es.q<=Ò)(q:Q (.p (es.q:am)<|s.xh+1) {s with dL:=s.xh+1+1}):Ç (Ê P w) A (ia (.zn "len") [.x d]) Q E s:=
 b7B g.ty F.slot_dict_len (λb a=>qg F.slot_dict_len g.ty F.entry_dict_len (F.args_dict_len_1 _) (Vf lo) (es,ep,g,a)) () (by rw[õ]at hz;lia) q
def Ci:∀{ps}{ws},Æ (ps.o (·.2.2)) ws->(cP ps ws).o (λx=>Ñ x.2.1)=ps.o λp=>Ñ p.2.1
 |[],_,_=>by simp[cP]
 |p::ps,_,.zv r t=>by let a:=Ci (ps:=ps) t;unfold cP at a ⊢;rw[ϑ,í,í,a]
def HH:∀ps:bX,Æ (ps.o λp=>V.x p.2.1) (ps.o λp=>Ñ p.2.1)
 |[]=>.kk|p::ps=>.zv ?r<|HH ps
def tR{σ:St}{ps:bX}(I:Â X Do σ H s)(e:H a=a7 (aN a ps))(g:eY X.K H ps):(a==Ļ)=b3/\ps.f<=Ò/\∃es ep,ø s.k a es ep/\es.zh.o (·.key)=ps.o λp=>Ñ p.2.1:=by let(i,h,j,r,z,es,ep,h1,b,c,d,_):=lO I (.of e) g;show(i,h,es,ep,(z,h1,b,c),?_);rw[d,æ,<- Ci r];rfl
def HJ!(K:Ï):gz->Hp->VK->Prop:=λxs H Q=>∃a ps,xs=[V.x a]/\H a=a7 (aN a ps)/\eY K H ps/\Q (.p ps.f) H
def Vh:ß X (.zn "len") (HJ X.K):=by
 intro Do s σ H v p Q I r h;let(a,ps,?r,c,e,q):=h;let(u,?r,k):=hJ r;ext k;let(j,o,b,n,g,d):=tR I c e;let i:b.q=ps.f:=by have:=br ģ d;apply ah
 show Vg j g () ?_;rw[i];show(.p ps.f,H,(I.tok _).tok _,(_,?r),q)
def HK!(K:Ï):gz->Hp->VK->Prop:=λxs H Q=>∃a ps,xs=[V.x a]/\H a=a7 (aN a ps)/\eY K H ps/\∀l,H l=b0->Q (.x l) (eo H l<|.D<|ps.o λp=>V.x p.2.1)
def Vi(hc:X.vn=b4):ß X (.O "list") (HK X.K):=by
 intro Do s σ H O N Q I r h;let(a,ps,?r,y,z,q):=h;let(u,?r,G):=hJ r;ext G;let(E,A,o,K,g,d):=tR I y z;let M:o.q=ps.f:=by have:=br ģ d;apply ah
 show ci.W.kdl_call (HG E) (I.ok.hd hc) g () λL J b k B x c=>?_;show(.x s.k.y.q,_,I.laid (t':=J) (a:=s.k.y.q) (o:=.D (ps.o λp=>V.x p.2.1)) B (Ô _) ?_,?r,q _<|I.vr.xo<|Ô _);show(by rw[Ä];show A,b.zh,k,?_,by apply x);let n:b.zh=ps.o λp=>Ñ p.2.1:=by
  rw[<- d];show QX λi=>?_;rw[ĉ,UV,UV];cases j:b[i]? with
  |bb v=>let(e,h1,w):=c.2 i v j;rw[h1,w];rfl|bp=>
   have:b.q<=i:=by apply j
   rw[Qs<|by rw[<- c.1];show ah];rfl
 rw[n];show HH ps
open _root_ in
def Vj(n:Þ k X.A)(g:QE X a ma)(j:QE X b mb)(h:rG b=b4):QE X (.xy a b ca) (aA bE ma mb):=
 rJ (Va n g j h) (b6D g j h)<|kQ λx y p r c=>by
  unfold bE at c;split at c
  .split at c
   .rename_i d hc;show .Q ?_;dsimp[vV,hc];show c
   .rename_i d hc;show .Q ?_;dsimp[vV,hc];show c
   .show .X c
  .show .X c
def tS!(c:av):D->D->Hm->jk:=λx y μ=>match vW c x y μ with
 |bb r=>a7 r|bp=>oK c x y μ
open _root_ in
def zL x y μ r(h:tS c x y μ=a7 r):vW c x y μ=a7 r\/oK c x y μ=a7 r:=by
 unfold tS at h;split at h
 .rename_i z;rw[z];show .Q h
 .show .X h
def HL x y μ r(h:dB g x y μ=a7 r):(∃i j,x=.jv i/\y=.jv j)\/tS g x y μ=a7 r:=by
 cases y with
 |lp a=>
  show .X ?_;let e:dB g x (.z a) μ=(match μ[a]? with
   |bb (.dT d)=>(d7 x).o λk=>⟨D.bl<|if g then !(bC d k).qh else(bC d k).qh,μ⟩|bb (.dF d)=>(d7 x).o λk=>⟨D.bl<|if g then !(bC d k).qh else(bC d k).qh,μ⟩
   |_=>oK g x (.z a) μ):=by ext x<;>rfl
  rw[e]at h;ext tS;dsimp[vW];cases hc:μ[a]? with
  |bp=>rw[hc]at h;show h|bb c=>
   rw[hc]at h;cases c with
   |dT d=>dsimp at h ⊢;rw[h]|dF d=>dsimp at h ⊢;rw[h]|_=>show h
 |gy j=>
  cases x with
  |gy i=>show .Q (i,j,?r,?r)|_=>show .X h
 |_=>ext x<;>show .X h
def HM x y μ r(h:dB b3 x y μ=a7 r):BM x y μ=a7 r\/tS b3 x y μ=a7 r:=by
 rcases HL x y μ r h with(i|j|rfl|rfl)|z
 .show .Q h
 .show .X z
def HN x y μ r(h:dB b4 x y μ=a7 r):BY x y μ=a7 r\/tS b4 x y μ=a7 r:=by
 rcases HL x y μ r h with(i|j|rfl|rfl)|z
 .show .Q h
 .show .X z
def Vk(g:Þ k X.A)(c:QE X a ma)(d:QE X b mb)(h:jV b=b4):QE X (.qq a [.In] [b] ca) (aA (dB b3) ma mb):=
 rJ ⟨iT Fg Gv c.h d.h<|lK h⟩ (rJ ⟨iT (HD<|iI g) zJ c.h d.h<|lK h⟩ ⟨iT (GX<|yX g) yV c.h d.h<|lK h⟩<|kQ zL)<|kQ HM
def Vl(g:Þ k X.A)(c:QE X a ma)(d:QE X b mb)(h:jV b=b4):QE X (.qq a [.NotIn] [b] ca) (aA (dB b4) ma mb):=
 rJ ⟨iT FJ G0 c.h d.h<|lK h⟩ (rJ ⟨iT (HE<|iI g) zJ c.h d.h<|lK h⟩ ⟨iT (GY<|yX g) yV c.h d.h<|lK h⟩<|kQ zL)<|kQ HN
def Vm(g:Þ k X.A)(c:QE X a ma)(d:QE X b mb)(h:jV b=b4):QT X (.qq a [.In] [b] ca) (aP<|aA (dB b3) ma mb):=
 tE ⟨iU Fg Gv c.h d.h<|lK h⟩ (tE ⟨iU (HD<|iI g) zJ c.h d.h<|lK h⟩ ⟨iU (GX<|yX g) yV c.h d.h<|lK h⟩<|tF<|kQ zL)<|tF<|kQ HM
def Vn(g:Þ k X.A)(c:QE X a ma)(d:QE X b mb)(h:jV b=b4):QT X (.qq a [.NotIn] [b] ca) (aP<|aA (dB b4) ma mb):=
 tE ⟨iU FJ G0 c.h d.h<|lK h⟩ (tE ⟨iU (HE<|iI g) zJ c.h d.h<|lK h⟩ ⟨iU (GY<|yX g) yV c.h d.h<|lK h⟩<|tF<|kQ zL)<|tF<|kQ HN
def Vo(g:Þ k X.A)(d:QE X o mo)(hi:QE X i mi)(c:QE X e me)(h:l8 e=b4):QS X (.Assign [.xy o i tpos] e ca) (d8 mo mi me):=Vd g d hi c h
def Cj!(K:Ï)(a b:ar):It:=
 (λi H=>∃c d x y,Ā K H a c/\Ā K H b d/\c[i]?=a7 x/\d[i]?=a7 y,
   λi H z e=>∃p v u,z=.x p/\H p=b0/\e=eo H p (.L [v,u])/\(∀c,Ā K H a c->c[i]?=a7 v)/\∀d,Ā K H b d->d[i]?=a7 u,
   λi H=>∃c d,Ā K H a c/\Ā K H b d/\(c.f<=i\/d.f<=i))
def Vp(J:ZipApart z B to n A a b):
  ı Qc P w K (.va es kx pt) (Cj K a b) [z,B,to,n,A] z (λi h=>Ο h z B to .qo/\IsPair h B (.x n) (.x A)/\(∃u v,IsPair h to u v)/\h.IsListIter n a i/\h.IsListIter A b i) where
 mem:=∅
 obj:=λi h (G,L,(u,v,N),O,Q) c hc=>by
  let hc':c=z\/c=B\/c=to\/c=n\/c=A:=by apply hc
  rcases hc' with rfl|rfl|rfl|rfl|rfl
  .show(_,G,λq e=>by
    let Y:ğ _=uh q:=e;ext Y)
  .show(_,L,λq e=>by
    let Y:Nw _ _=uh q:=e;ext Y)
  .show(_,N,λq e=>by
    let Y:Nw _ _=uh q:=e;ext Y)
  .let(o,e1,c,d):=O;show(o,e1,λv e=>by rw[d]at e;ext e)
  .let(o,e1,c,d):=Q;show(o,e1,λv e=>by rw[d]at e;ext e)
 fv:=λi h h' (G,L,(u,v,N),O,Q) k=>(k z ∅ _ G,k B ∅ _ L,(u,v,k to ∅ _ N),O.at λo e=>k n ∅ o e,Q.at λo e=>k A ∅ o e);lm:=by
  intro X hP hw hK hc i Do s σ H E I hf (G,L,(u,v,N),O,Q) hg;subst hP hw hK;let(xs,ys,x,y,hq,M,U,hy):=hg;let(b5,rv,p,hz):=I.vu hq;let(Z,R,p2,hz2):=I.vu M;let(u1,iI,ru1):=rv.get U;let(u2,hu2,ru2):=R.get hy;show wpAny_pyNext_zip_item J G L N O Q p.xc p2.xc (x:=u1) (y:=u2) (by apply iI) (by apply hu2) λh1 a1 a2 a3 a4 a5 a6 hk=>(_,?r,T3 a1 λh2 b1 j=>?_);let ne:∀{c o},s.k.G c=a7 o->s.k.y.q≠c:=λe=>š<|Ý e;let l4:∃o,s.k.G n=a7 o:=let(o,e,_):=O;(o,e);let l5:∃o,s.k.G A=a7 o:=let(o,e,_):=Q;(o,e);let ht2:h2.G s.k.y.q=a7 {cw:=.O "tuple",bv:=.seq #[u1,u2]}:=(j.2 _<|ne G).u a5;let hfr:H s.k.y.q=bp:=I.vr.xo<|Ô _;let g2':IsPair h2 B (.x n) (.x A):=(j.2 _ J.TIz).u<|hk _ _ J.TIz J.TITO J.TIi1 J.TIi2 L;show(.x s.k.y.q,eo H s.k.y.q<|.L [x,y],?_,?r,(s.k.y.q,x,y,?r,hfr,?r,λws hw=>by rw[I.list_inj hw hq];show U,λws hw=>by rw[I.list_inj hw M];show hy),
   (b1,g2',(_,_,(j.2 _ J.TOz).u a2),a3.V j.V J.i1z,a4.V j.V J.i2z),λc T=>?_)
  .show zG (s:=s) (h':=h2) (t':=s.xh) (ch:=[z,B,to,n,A]) I (λc oc T ec=>?_) hf (Ô _) ?_
   .let g:c≠z/\c≠B/\c≠to/\c≠n/\c≠A:=by apply T
    show(j.2 c g.1).u<|hk c oc g.1 g.2.2.1 g.2.2.2.1 g.2.2.2.2 ec
   .show(by change(2:am)<=Ò;decide,[u1,u2],.zv ru1<|.zv ru2 .kk,_,ht2,?r,0,?r,?r)
  .let g:c=z\/c=B\/c=to\/c=n\/c=A:=by apply T
   let hn:=(hf c T).1;rw[bV]
   .show hn
   .rcases g with rfl|rfl|rfl|rfl|rfl
    .show(ne G).R
    .show(ne L).R
    .show(ne N).R
    .show(ne l4.choose_spec).R
    .show(ne l5.choose_spec).R
 k4:=by
  intro X hP hw hK hc i Do s σ H E I hf (G,L,(u,v,N),O,Q) hg;subst hP hw hK;let(xs,ys,hq,M,U):=hg;let(b5,rv,p,hz):=I.vu hq;let(Z,R,p2,hz2):=I.vu M;let hl:=rv.f;let hl2:=R.f;show wpAny_pyNext_zip_end (I.ok.hd hc) J G L N O Q p.xc p2.xc ?_ λh' eb=>(?r,Ca (t':=s.xh) (ch:=[z,B,to,n,A]) I (λc o T e=>?_) hf)
  .rcases U with U|U
   .show .Q<|by simp;lia
   .show .X<|by simp;lia
  .let g:c≠z/\c≠B/\c≠to/\c≠n/\c≠A:=by apply T
   show eb c o g.1 g.2.2.1 g.2.2.2.1 g.2.2.2.2 e
 lh:=λ_ _ _ _ _ (G,_) h=>OC G h
def vX!(x y:D):gJ:=λμ i=>(bW μ x).U λxs=>(bW μ y).o λa=>(xs[i]?).U λd=>(a[i]?).o λe=>.L [d,e]
def vY!(ms:MA):MI:=λc μ=>(ms c μ).U λp=>match p.1 with
 |[x,y]=>(fZ p.2 x).U λa=>(fZ p.2 y).o λb=>⟨vX x y,mx a.f b.f+1,p.2⟩|_=>b0
def zM(R:Rp K π H μ)(h:Ù K π μ.f H v x)(j:fZ μ x=a7 xs):∃p,v=.x p/\(∃vs,Ā K H p vs) /\
  ∀c a d,ö π μ.f H c a.f d->Rp K c d a->∀i,bW a x=a7 i->∃g,Ā K d p g/\È K c a.f d g i:=by
 let(p,vs,?r,u,_):=vK R h j;show(p,?r,(vs,u),λc a d e n i k=>?_);let s:fZ a x=a7 i:=by
  cases x with
  |oe z=>show k|lp b=>show k|_=>ext j
 let(y,g,q,w,o):=vK n (h.zw e) s;ext q;show(g,w,o)
def Vq(R:Rp K π H μ)(h:Ù K π μ.f H v x)(h':Ù K π μ.f H X y)(hs:fZ μ x=a7 xs)(E:fZ μ y=a7 ys):
  ∃a b,v=.x a/\X=.x b/\(∃J,Ā K H a J)/\(∃J,Ā K H b J)/\Wk K (Cj K a b) (vX x y) π μ.f H:=by
 let(a,?r,qa,O):=zM R h hs;let(b,?r,qb,Q):=zM R h' E;show(a,b,?r,?r,qa,qb,λg c n i e j z=>?_,λg c n i d e j z=>?_)
 .let(o,h1,z):=ń.Z z;show cI z ?_;clear z;intro bs B z;let(u,p,w):=O g c n e j o h1;let(s,q,A):=Q g c n e j bs B;show(u,s,p,q,?_);rw[w.f,A.f];cases L:o[i]? with
  |bp=>show .Q (Κ.Z L)|bb d=>
   cases k:bs[i]? with
   |bp=>show .X (Κ.Z k)|bb d'=>rw[L,k]at z;ext z
 .let(o,h1,z):=ń.Z z;show cI z ?_;clear z;intro bs B z;show cC z ?_;clear z;intro d1' h3 z;show cI z ?_;clear z;intro d2' h4 h5;subst h5;let(u,p,w):=O g c n e j o h1;let(s,q,A):=Q g c n e j bs B;let(Y,M,k1):=w.get h3;let(Z,N,k2):=A.get h4;show((u,s,Y,Z,p,q,M,N),?_);rintro y H2 (t|v1|v2|rfl|hn|rfl|G|I);let T:=G u p;let U:=I s q;rw[M]at T;rw[N]at U;ext T;ext U;let(k,R2):=j.xo (o:=.L [Y,Z]) hn;show(k,R2,.L (.of dH)<|.zv (k1.zw k)<|.zv (k2.zw k) .kk)
def Vr!(K:Ï)(d:TA):TI:=λσ H R=>d σ H λvs c=>∃a b,vs=[.x a,.x b]/\(∃xs,Ā K c a xs)/\(∃e,Ā K c b e)/\R (Cj K a b) c
open PyProof.Rows in
def Vs{X:Cx}{a b:bo}{B:TA}{p ca pt:Ń}{es:ab bo}{kx:am}(T:Gl X "zip") (Y:X.mg "zip"=b0) (Q:PA X [a,b] B)(hs:ð [a,b] X.M=⟨b3,eu a X.M⟩::ð [b] X.M)(v:(ĵ ca<|ð [b] X.M).any (·.1)=b3) :
  PI X (.va es kx pt) (.xz (.xk "zip" p) [a,b] [] ca) (Vr X.K B):=by
 intro i s E H R I h;show my<|i9 I T Y Ry<|gj (aR (Q ca i s E H _ I h) λus d (vs,y,g,r1,q1)=>?_) hs v;obtain(n|o|rfl|(ws|Z)|(ws2|u)|q):=q1;cases r1 with
 |bm ru w=>
  cases w with
  |bm x w=>
   ext w;ext ru;ext x;let(b5,rv,pl,hz):=g.vu Z;let(A,rv2,k,hz2):=g.vu u;let la:n<d.k.y.q:=let(_,e,_):=pl.xc;Ý e;let lb:o<d.k.y.q:=let(_,e,_):=k.xc;Ý e;show call_zip_2 pl.xc k.xc λO z K L M N hsz U=>OC z ?_;let G:Â X i E y {d with ce:=O}:=g.vx (t':=d.xh) U;let J:ZipApart (d.k.y.q+4) (d.k.y.q+2) (d.k.y.q+3) d.k.y.q (d.k.y.q+1) n o:=by let la':@LT.lt am _ n d.k.y.q:=la;let lb':@LT.lt am _ o d.k.y.q:=lb;constructor<;>(change @Ne am _ _;lia)
   show(d.k.y.q+4,[d.k.y.q+4,d.k.y.q+2,d.k.y.q+3,d.k.y.q,d.k.y.q+1],_,_,y,?r,G,Vp J,(z,K,(_,_,L),M,N),λc hc=>?_,q);let j:d.k.y.q<=c:=by dsimp[ē,Ϣ,gg]at hc;rcases hc with rfl|rfl|rfl|rfl|rfl<;>first|show Q9 _ _|show Ô _
   show g.fpOk j<|g.vr.xo j
open _root_ in
def Vt(d:Gl X "zip")(e:X.mg "zip"=b0)(q:QA X [a,b] ms n):ig X (.xz (.xk "zip" p) [a,b] [] ca) (vY ms):=⟨λes Z pt Do s σ H R I hw=>by
 let g:=q.s;rw[İ,â,İ,â]at g;let(U,Y,Q,M,n',T,v,E,c,k):=hw;show bJ c ?_;clear c;intro x i h1 c;show Vs d e q.h (fS g.1) (by rw[fS g.2.1];rfl) Do s σ H R I (U,Y,Q,x,i,v,E,h1,λj vs u A o h=>?_);dsimp at c;split at c
 .rename_i x y;show cC c ?_;clear c;intro xs B c;show cI c ?_;clear c;intro ys G c;ext c;cases h with
  |bm h N=>
   cases N with
   |bm J O=>ext O;let(w,z,?r,?r,K,L,W):=Vq o h J B G;show(w,z,?r,K,L,k j u _ A o W)
 .ext c⟩
def Vu:zm (.O "tuple") "keys"=ej bp:=by rw[Po,QF];kernel_rfl
def Vv(g:s.k.G a=a7 o)(j:o.cls=.O "tuple")(n:o.data=.seq xs k)(p:o.dict=b0)(hA:A.xt=b0)(q:∀h v,(∀b u,s.k.G b=a7 u->h.G b=a7 u)->Q b0 {s with ce:=h,dL:=v}):Ç (Ê P w) A (getAttr? (.x a) "keys") Q E s:=by
 let(c,y,x,I):=o;dsimp at j n p;subst j n p;let(G,B,z,v,H):=s;let ty:∀d,((G,B,z,d,H):Ø).TypeIs (.x a) "tuple":=λ_=>(_,g,?r);let J:=sub_AttributeError;let K:=F.slot_tuple_getattribute.B;let L:=F.slot_tuple_getattribute.U<|.x a;let M:=am_tuple_getattr_none;unfold getAttr? getAttrBy? getAttrBy;repeat (any_goals (first|assumption|show ty _|((with_reducible change Ç _ _ (ia (Ż "tuple.__getattribute__") _ _) _ _ _);show zf F.slot_tuple_getattribute (ty _) am_entry_tuple_getattribute (F.args_tuple_getattribute_2 _ _) (meets_getattribute_miss_tuple a xs k I "keys" _ Vu<|by decide +de) (g,hA,λh d e ne=>?_))|wp_step))
 let(N,O,i):=ne.there;change Ç _ _ (Ra _ _ _ _ b0 b3 b3) _ _ _;ext Ra;repeat (any_goals (first|assumption|wp_step))
 show q _ _ ne.of.keeps
def HP:entryFor table "dict.update.loop"=a7 Builtin.«dict.update.loop»:=entryFor_of_tree ""
def zN:plainId "dict.update.loop"=bt:=by decide +de
def rP!(ps:bX):ab (ar×ab ae×ar×V)->bX
 |[]=>ps|r::L=>rP (fV ps r.2.1 r.2.2.1 r.2.2.2) L
def Vx{σ:St}{ps:bX}(G:A.qv<ă)(I:Â X Do σ H s)(e:H d=a7 (aN d ps))(y:eY X.K H ps)(w:à X.K H b (k.o V.p))(hz:ps.f<Ò)(L:Í v u)(h:∀i,Â X Do σ (eo H d<|aN d<|fV ps k b v) i->(∀c o,c≠d->s.k.G c=a7 o->i.k.G c=a7 o)->Q ld.unit i):Ç (Ê X.Y X.w) A (dictSet d (.x b) u) Q E s:=by
 let(B,O,M,r,j):=lO I (.of e) y;let J:(cP ps M).f<=Ò:=by have:=br ģ<|oP r;rw[Ä,Ä]at ah;lia
 show wpAny_dictSet_heap (hsz:=J) (show(Ϭ<|ŷ X.Y X.w).room A from G) (nI I w) j λp g a=>h _ ?_ λc o hc e=>a.V c o hc e;let(N,K,n):=zI r k b L;rw[n]at g;let x:∃q,p.G d=a7 q:=let(q,_,_,z,_):=g;(q,z);show xY I (by rw[e];show ϛ) a x<|vU B (by have:=vT ps k b v;lia) K g
def vZ{ps:bX}(e:H d=a7 (aN d ps))(h:à K H b vs):à K (eo H d o) b vs:=by
 let ne:∀{u},H b=a7 u->(∀a,u≠aN d a)->b≠d:=λz f y=>by rw[y,e]at z;ext z;show f ps ?r
 rcases h with⟨h|(ob|h)⟩|h
 .show .Q<|.Q<|by rw[bV<|ne h λ_ z=>by ext z];show h
 .show .Q<|.X (ob,by rw[bV<|ne h λ_ z=>by ext z];show h)
 .show .X h
def Vy(h:eY K H ps)(g:à K H b (k.o V.p)):eY K H (fV ps k b v):=by
 intro p a;unfold fV at a;split at a
 .let(d,c,e):=Ü.Z a;by_cases z:d.1=k
  .rw[ad z]at e;subst e;show h d c
  .rw[ac z]at e;subst e;show h d c
 .rcases Ĺ.Z a with a|a
  .show h p a
  .rw[ġ.Z a];show g
def HQ:eo (eo H d o) d a=eo H d a:=by
 funext b;ext eo;lk
 .rfl
 .rfl
def Vz{Q:gw->Ø->Prop}(h:WP s.k p xs)(q:Q xs.zh s):Ç (Ê P w) A (Tz<|.x p) Q E s:=by let(o,g,c,n,a):=h;let ty:s.TypeIs (.x p) "tuple":=(o,g,c);ext Tz;show Á<|ul ty ?_;rw[ad ⋯];ext jd;show Á<|Á<|Nr g ?_;rw[a];show É<|É q
open _root_ in
def VA{σ:St}(hh:A.xt=b0)(hu:A.in1.qv<ă):∀L i(ps:bX)H s,Â X Do σ H s->H d=a7 (aN d ps)->eY X.K H ps->à X.K H t ys->ys.kw i=L.o (λr=>V.x r.1)->
  (∀r∈L,à X.K H r.1 [.x r.2.2.1,r.2.2.2]/\à X.K H r.2.2.1 (r.2.1.o V.p))->jQ X Do H it->s.k.IsTupleIter it t i->ps.f+L.f<=Ò->
  (∀G,Â X Do σ (eo H d<|aN d<|rP ps L) G->R (.ok<|.ret .qo) G)->Ρ (Ê X.Y X.w) A (.zn "dict.update.loop" ([.x d,.x it,Ł i,.qo],[])) R s:=by
 intro L;induction L with
 |fk=>
  intro i ps H s I e O y hd B N st T q;let(b5,Z,p,U):=I.kl y;let(h,k,f2,n,v,w):=N;let hl:=Z.f;let hlen:ys.f<=i:=by have:=br ģ hd;simp at ah;lia
  show J2 HP ?_;rw[Rr zN _];change Ç _ A.in1 (Ō (.x it) >>= _) _ _ s;show Á (T8 hh st (show s.k.ko t b5.E from p) (by simp;lia) λJ eb=>?_);let j:Â X Do σ H {s with ce:=J}:=I.turned (t':=s.xh) (λb o K e=>eb b o K e) h k n v w;change Ç _ _ (UL d [] >>= _) _ _ _;show Á<|É<|É<|q _ ?_;have:eo H d (aN d<|rP ps [])=H:=by
   funext b;ext eo;lk
   .rename_i z;rw[z];show e.R
   .rfl
  rw[ah];show j
 |bm r L ih=>
  intro i ps H s I e O y hd B N st T q;let(b5,Z,p,U):=I.kl y;let(h,k,f2,n,v,w):=id N;let E:ys[i]?=a7 (.x r.1):=by have:=br (·[0]?) hd;apply ah
  let(u,iI,ru):=Z.get E;ext ru;show J2 HP ?_;rw[Rr zN _];change Ç _ A.in1 (Ō (.x it) >>= _) _ _ s;show Á (TJ st (show s.k.ko t b5.E from p) (x:=.x r.1) (by apply iI) λJ st' sb=>?_);let j:Â X Do σ H {s with ce:=J}:=I.turned (t':=s.xh) (λb o K e=>(sb.2 b K).u e) h k n v w;let a:=B r<|ŗ ..;let(its2,rv2,p2,_):=j.kl a.1;cases rv2 with
  |bm rk Y=>
   cases Y with
   |bm rw' Y=>
    ext Y;ext rk;rename_i w0;show Á<|Ņ<|Á<|qd<|Vz p2 ?_;let Q:ps.f<Ò:=by rw[ĩ]at T;lia
    show Ņ<|Vx hu j e O a.2 Q rw' λG I2 kp=>?_;show É (ϲ zN _,?_);let cD:it≠d:=λz=>by rw[<- z,h]at e;ext e
    let c:∀x∈L,à X.K (eo H d<|aN d<|fV ps r.2.1 r.2.2.1 r.2.2.2) x.1 [.x x.2.2.1,x.2.2.2]/\à X.K (eo H d<|aN d<|fV ps r.2.1 r.2.2.1 r.2.2.2) x.2.2.1 (x.2.1.o V.p):=λx E=>(vZ e (B x<|ķ _ E).1,vZ e (B x<|ķ _ E).2);let M:ys.kw (i+1)=L.o (λr=>V.x r.1):=by have:=br ab.tail hd;simpa[ab.tail_drop]using ah
    show ih (i+1) (fV ps r.2.1 r.2.2.1 r.2.2.2) _ G I2 dH (Vy (λp hp=>vZ e<|O p hp)<|vZ e a.2) (vZ e y) M c (by rw[bV cD];show h,k,f2,n,v,w) (st'.at λo ho=>kp it o cD ho) ?_ λs'' g=>q s'' ?_
    .have:=vT ps r.2.1 r.2.2.1 r.2.2.2;rw[ĩ]at T;lia
    .rw[HQ]at g;show g
def HR!(K:Ï):gz->Hp->VK->Prop:=λxs H Q=>∃(t:ar)(L:ab (ar×ab ae×ar×V)),xs=[V.x t]/\à K H t (L.o λr=>V.x r.1) /\
 (∀r∈L,à K H r.1 [.x r.2.2.1,r.2.2.2]/\à K H r.2.2.1 (r.2.1.o V.p))/\∀d,H d=b0->Q (.x d) (eo H d<|aN d<|rP [] L)
def VB(hc:X.vn=b4)(Y:X.A.qv+64<ă):ß X (.O "dict") (HR X.K):=by
 intro d s N H xs us Q I r h;let(t,L,?r,x,M,k):=h;let(u,?r,ru):=hJ r;ext ru;let K:H s.k.y.q=bp:=I.vr.xo<|Ô _;show PU (Q₁:=λi c=>i=.x s.k.y.q/\c={s with ce:=s.k.zl {cw:=.O "dict",bv:=.dict #[]}}) F.kt_called_dict (F.kt_typeCall_dict_1 _) F.entry_dict_init (Rq _ (?r,?r)) ?_;rintro i c (rfl|rfl);let E:Â X d N (eo H s.k.y.q<|aN s.k.y.q []) {s with ce:=s.k.zl {cw:=.O "dict",bv:=.dict #[]}}:=I.laid (a:=s.k.y.q) (o:=aN s.k.y.q []) (t':=s.xh) (λ_ l q=>ä _ q) (Ô _)<|HB s.k I.big;let ty:({s with ce:=s.k.zl {cw:=.O "dict",bv:=.dict #[]}}:Ø).TypeIs (.x s.k.y.q) "dict":=(_,ÿ _ ?r,?r);show(ty,F.args_dict_init_2 _ _,?_);unfold ez.«dict.__init__»;show Á ?_;ext Qz;show Á<|rE ty ?_;change Ç _ _ (ej ⟨s.k.y.q,[Ñ t]⟩) _ _ _;show É ?_;change Ç _ _ (xj "dict.__init__" s.k.y.q (.x t) [] .qo) _ _ _;ext xj;let mono:∀{b:ar}{vs:gz},à X.K H b vs->à X.K (eo H s.k.y.q<|aN s.k.y.q []) b vs:=λ{b vs} z=>by
  let ne:H b≠b0->b≠s.k.y.q:=λf y=>by rw[y]at f;show f K
  rcases z with⟨z|(ob|z)⟩|z
  .show .Q<|.Q<|by rw[bV<|ne<|by rw[z];show λy=>nomatch y];show z
  .show .Q<|.X (ob,by rw[bV<|ne<|by rw[z];show λy=>nomatch y];show z)
  .show .X z
 let(b5,rv,ob,G,J,n,R,T):=E.tupN<|mono x;show Á<|ul (ob,G,J) ?_;rw[ad ⋯];show Á<|Vv G J R T (I.ok.hd hc) λw v Z=>?_;let j:Â X d N (eo H s.k.y.q<|aN s.k.y.q []) {s with ce:=w,dL:=v}:=E.vx (t':=v) Z;change Ç _ _ (rule _ >>= _) _ _ _;show Á<|Ϛ ?_;let(a,rv',p',A):=j.kl<|mono x;show Á<|b7 (t:=t) (dk:=a.E) (show({s with ce:=w,dL:=v}:Ø).heap.IsTuple t a.E from p') ?_;let O:=j.vx (t':=v) (h':=w.zl {cw:=.O "tuple_iterator",bv:=.xi #[.x t,.p 0 0]}) λb o e=>ä _ e;show É (ϲ zN _,?_);show VA (A:=X.A.in1) (I.ok.hd hc) ?_ L 0 [] _ _ O dH (λp U=>nomatch U) (mono x) ?r (λr g=>(mono (M r g).1,mono (M r g).2)) (j.fpOk (Ô _)<|j.vr.xo<|Ô _) (_,ÿ _ ?r,?r,?r) ?_ λs' B=>?_
 .change X.A.qv+1+1<ă;lia
 .have:=A;simp at ah ⊢;show ah
 .rw[HQ]at B;show(?r,.x s.k.y.q,_,B,?r,k _ K)
def tT!:ab D->af (jx)
 |[]=>a7 []|.L [x,v]::r=>(d7 x).U λk=>(tT r).o λl=>⟨k,v⟩::l|_::_=>b0
def rQ!:MF:=λds μ=>match ds with
 |[.L xs]=>(tT xs).o λl=>⟨.z μ.f,μ++[.dT<|l.foldl (λq p=>cK q p.1 p.2) []]⟩|_=>b0
noncomputable abbrev HS(K:Ï)(π:am->ar)(n:am)(H:Hp):ab (ar×ab ae×ar×V)->jx->Prop:=
 ύ λr p=>r.2.1=p.1/\à K H r.1 [.x r.2.2.1,r.2.2.2]/\à K H r.2.2.1 (r.2.1.o V.p)/\Ù K π n H r.2.2.2 p.2
open _root_ in
def HU:∀{xs}{ws}{l},È K π n H ws xs->tT xs=a7 l->∃L,ws=L.o (λr=>V.x r.1)/\HS K π n H L l
 |[],_,_,.kk,h=>by ext h;show([],?r,.kk)
 |x::xs,_,l,.zv i t,h=>by
  unfold tT at h;split at h
  .rename_i a;ext a
  .rename_i y v r a;ext a;show cC h ?_;clear h;intro k d h;let(o,e,?r):=Ľ.Z h;let(L,?r,P):=HU t e;cases i with
   |f6 q z=>
    cases z with
    |bm g z=>
     cases z with
     |bm j z=>ext z;let(b,?r,c):=pZ g d;show(⟨_,k,b,_⟩::L,?r,.zv (?r,q,c,j) P)
  .ext h
def HV:∀{L}{l},HS K π n H L l->∀{ps}{ay},ñ K π n H ps ay->ñ K π n H (rP ps L) (l.foldl (λq p=>cK q p.1 p.2) ay)
 |_,_,.kk,_,_,h=>h|r::L,p::l,.zv e t,ps,ay,h=>by let(a,_,b,c):=e;change ñ K π n H (rP (fV ps r.2.1 r.2.2.1 r.2.2.2) L) (l.foldl _<|cK ay p.1 p.2);rw[<- a];show HV t<|h.put r.2.1 b c
open _root_ in
def VC:e8 K rQ (HR K):=by
 intro w H v n d o u Q R i a k;unfold rQ at a;split at a
 .rename_i n;show cI a ?_;clear a;intro l h1 h;ext h;cases i with
  |bm i t=>
   ext t;cases i with
   |f6 q z=>
    let(L,?r,P):=HU z h1;show(_,L,?r,q,?_,λd hd=>?_)
    .clear q z k h1;induction P with
     |fk=>show λr b=>nomatch b|bm e t j=>
      intro r b;rcases ē.Z b with rfl|b
      .show(e.2.1,e.2.2.1)
      .show j r b
    .have T:=HV P (ps:=[]) (ay:=[]) .kk;let(g,c,s):=R.alloc (c:=.dT (l.foldl (λq p=>cK q p.1 p.2) [])) (o:=aN d (rP [] L)) hd (_,?r,T.to.1,T.to.2.1,T.to.2.2);show k _ _ _ g c lG
 .ext a
def xx!(h:ê)(c d S:ar)(i n ep:am):Prop:=∃(b ok g:ax)(e:av),h.G c=a7 {cw:=.O "dict_itemiterator",ix:=b0,bv:=.xi #[b,.kt e,.x d,.p i 0,.p n 0,.p ep 0,ok,g],ft:=#[]} /\
 (b=.qo\/∃(a:ar)(o:hH),b=Ł a/\h.G a=a7 o/\a≠c/\a≠S)
def xx.stay{i n ep}(j:xx h c d S i n ep)(q:c≠S)(k:∀b o,b≠S->h.G b=a7 o->h'.G b=a7 o):xx h' c d S i n ep:=by
 let(x,ok,s,p,e,r):=j;show(x,ok,s,p,k _ _ q e,?_);rcases r with r|(a|o|u|v|w|g)
 .show .Q r
 .show .X (a,o,u,k _ _ g v,w,g)
def Ck{i ep:am}(hh:A.xt=b0)(H:s.k.G it=a7 {cw:=.O "dict_itemiterator",ix:=b0,bv:=.xi #[y,.kt O,.x d,.p i 0,.p es.q 0,.p ep 0,ok,J],ft:=#[]})(jr:y=.qo\/∃(a:ar)(o:hH),y=Ł a/\s.k.G a=a7 o/\a≠it/\a≠S)(g:ø s.k d es ep)(hS:S<s.k.y.q)(q1:∀e j,es[i]?=a7 e->xx j it d S (i+1) es.q ep->(y=.qo->O1 j it d (i+1) es.q ep e.key e.val s.k.y.q)->j.G s.k.y.q=a7 {cw:=.O "tuple",bv:=.seq #[e.key,e.val]}->j.y.q=s.k.y.q+1->(∀b o,b≠it->s.k.G b=a7 o->j.G b=a7 o)->Q (a7<|.x s.k.y.q) {s with ce:=j})(q2:es[i]?=b0->∀j,ϰ it s.k j->Q b0 {s with ce:=j}):Ç (Ê P w) A (Ō<|.x it) Q E s:=by
 let(z,g1,g2,g3):=id g;let ty:s.TypeIs (.x it) "dict_itemiterator":=(_,H,?r);let(c,G,B,K,I):=s;let Y:∀{Q:cq->Ø->Prop}{A:ų}{E:ax->Ø->Prop},Q "dict_itemiterator" (c,G,B,K,I)->Ç (Ê P w) A (Pp<|.x it) Q E (c,G,B,K,I):=λq=>wpAny_typeNameOfWhole_itemiter ty q;ext Ō;show Á<|uo<|kh (fg:=ŝ "__next__") ty F.slot_dict_itemiterator_next<|Ÿ F.slot_dict_itemiterator_next ty F.entry_dict_itemiterator_next ?_<|F.args_dict_itemiterator_next_1 _;show Á<|É<|Á<|Á<|Á<|Y<|É<|Á<|PX H ?r ?_;rw[show NL "dict_itemiterator"=b4 by decide,ad ?r];change Ç _ _ (if(Ñ d==ļ)=b4 then _ else _) _ _ _;rw[ac<|show ¬ (Ñ d==ļ)=b4 from λx=>þ x];show Á<|É<|Á<|Υ g1 g3 ?_;rw[ac λx=>by simp at x];show Á<|É<|Á<|g8 g1 g3 ?_;rw[ac λx=>by simp at x];show É ?_;dsimp;rw[ac<|show ¬ ((i:ae)<0) by lia,kj];let X:it<c.y.q:=Ý H;cases he:es[i]? with
 |bb e=>
  show Á<|Á<|Y<|É<|Á<|QM ty ?_;change Ç _ _ (iz (.x it) 3 (Ł<|(i:ae)+1) >>= _) _ _ _;show Á (Ι H ∅ λu T U=>?_);replace U:ū it c u:=U;replace T:u.G it=a7 {cw:=.O "dict_itemiterator",ix:=b0,bv:=.xi #[y,.kt O,.x d,.p ((i+1:am):ae) 0,.p es.q 0,.p ep 0,ok,J],ft:=#[]}:=by rw[show((i+1:am):ae)=(i:ae)+1 by lia];simpa[Ł]using T
  let L:Shared.TypeIs (u,G,B,K,I) (.x it) "dict_itemiterator":=(_,T,?r);show Á<|Ņ<|Á<|QM L<|Á<|QM L ?_;change Ç _ _ (UT (.x it) 6 e.key e.val) _ _ _;ext UT;show Á<|N0 ?_;let zu:u.y.q=c.y.q:=U.1;let k:=ä {cw:=.O "tuple",bv:=.seq #[e.key,e.val]} T;let vt:(u.zl {cw:=.O "tuple",bv:=.seq #[e.key,e.val]}).G c.y.q=a7 {cw:=.O "tuple",bv:=.seq #[e.key,e.val]}:=zu▸ÿ u ?r;let vz:(u.zl {cw:=.O "tuple",bv:=.seq #[e.key,e.val]}).objs.size=c.y.q+1:=by rw[Χ,zu]
  let M:∀b o,b≠it->c.G b=a7 o->(u.zl {cw:=.O "tuple",bv:=.seq #[e.key,e.val]}).G b=a7 o:=λb o R x=>ä _<|U.V b o R x;change Ç _ _ (UQ (.x it) >>= _) _ _ (u.zl {cw:=.O "tuple",bv:=.seq #[e.key,e.val]},G,B,K,I);rw[zu];generalize u.zl {cw:=.O "tuple",bv:=.seq #[e.key,e.val]}=v at k vt vz M;let h:c.y.q≠it:=š X;let dr:∀n:ê,xx n it d S (i+1) es.q ep->(y=.qo->O1 n it d (i+1) es.q ep e.key e.val c.y.q)->ū it v n->Q (a7<|.x c.y.q) (n,G,B,K,I):=λn j' jo sb=>q1 e n he j' jo (sb.V _ _ h vt) (by change n.y.q=_;rw[sb.1,vz]) λb o R x=>sb.V b o R<|M b o R x;show Á ?_;ext UQ;rcases jr with rfl|(a|o|rfl|Z|p|r4)
  .show Á<|ť k ?r (x:=.qo) ?r<|É ?_;dsimp[cy];show Á<|ť k ?r (x:=ok) ?r<|Á<|ť k ?r (x:=J) ?r ?_;show Á (Ι k ∅ λv3 x3 N=>Á<|Ι x3 ∅ λv4 x4 y4=>Á<|Ι x4 ∅ λv5 x5 y5=>Á<|Ι x5 ∅ λv6 x6 y6=>?_);let x7:O1 v6 it d (i+1) es.q ep e.key e.val c.y.q:=x6;show Á<|J1<|É<|É (_,?r,É<|dr v6 ?_ (λ_=>x7) ?_)
   .show(Ł c.y.q,e.key,e.val,b3,x7,.X (c.y.q,_,?r,y6.V _ _ h<|y5.V _ _ h<|y4.V _ _ h<|N.V _ _ h vt,h,š hS))
   .show((N.u y4).u y5).u y6
  .show Á<|ť k ?r (x:=Ł a) ?r ?_;change Ç _ _ (loadIfAlive ((a:ae).zi) >>= _) _ _ _;rw[kj];show Á<|ci.W.kdx_alive (M a o p Z) ?_;dsimp[af.isNone_some,Ī,cm];show Á<|ť k ?r (x:=.kt O) ?r ?_;cases O with
   |bt=>rw[ac<|show ¬ ((Ţ b4 != Ţ b4)=b4)from λx=>þ x];show É ?_;dsimp[Ī,cm];show É (É (_,?r,É<|dr v (_,ok,J,b4,k,.X (a,o,?r,M a o p Z,p,r4)) (λz=>nomatch z)<|Ob _ _))|ai=>rw[ad<|show(Ţ b3 != Ţ b4)=b4 from ?r];show Á (Ι k ∅ λv3 x3 N=>É ?_);dsimp[Ī,cm];show É<|É (_,?r,É<|dr v3 (_,ok,J,b4,by apply x3,.X (a,o,?r,N.V a o p<|M a o p Z,p,r4)) (λz=>nomatch z) N)
 |bp=>show Á<|Á<|Y<|É ?_;change Ç _ _ (iz (.x it) 2 .qo >>= _) _ _ _;show Á (q9 H ?r ∅ ?_);change Ç _ _ (iw (.O "StopIteration") [] >>= _) _ _ _;dsimp[iw,ug];show Á (Á<|Η ?_<|by size_fits);show Á (m:=jn _ _) (pD (a:=ļ) (by first|rfl|(dsimp[jn];rfl))<|Η ?_<|by size_fits);ext NX;show Á<|O5 ?_;rw[show A.in1.xt=b0 from hh];show Á<|É<|O0 ?mw;case mw=>show Á<|gf (T:="StopIteration") (b:=b4) (_,ÿ _ ?r,?r) CR<|É<|q2 he _<|((ž ..).extBut.push _).zl _
def HW(a:s.k.IsItemsView r d)(g:ø s.k d es ep)(q:Q (.x s.k.y.q) {s with ce:=s.k.zl {cw:=.O "dict_itemiterator",bv:=.xi #[.qo,.kt b3,.x d,.p 0 0,.p es.q 0,.p ep 0,.qo,.qo]}}):Ç (Ê P w) A (aj<|.x r) Q E s:=by
 let(y,e,k,h):=id a;let(z,b,j,c):=id g;show Q5 a.ja F.slot_dict_items_iter<|Ÿ F.slot_dict_items_iter a.ja F.entry_dict_items_iter ?_<|F.args_dict_items_iter_1 _;unfold ez.«dict_items.__iter__» UK US;show Á<|É<|Á<|Á<|ť e h (x:=.x d) ?r<|É<|Á<|Á<|Υ b c<|Á<|g8 b c ?_;dsimp[show NL "dict_itemiterator"=b4 by decide,cy];show Η (É (_,?r,"dict_itemiterator",_,(_,ÿ _ ?r,?r),F.slot_dict_itemiterator_next.B,?_)) (by dsimp[sizeOk,UP,Ģ,ô,ĩ,uy];rw[õ];lia);simpa[Ł,UP]using q
structure č(es:eh eg)(lo:ar)(h:ê)(as:ab ar):Prop where
 up:as.Pairwise (·<·)
 over:∀a∈as,lo<a
 prs:∀(j:am)(a:ar),as[j]?=a7 a->∃e,es[j]?=a7 e/\h.G a=a7 {cw:=.O "tuple",bv:=.seq #[e.key,e.val]}
def č.stay(p:č es lo h as)(k:∀b o,lo<b->h.G b=a7 o->h'.G b=a7 o):č es lo h' as:=
 (p.up,p.over,λj a c=>let(e,d,g):=p.prs j a c;(e,d,k a _ (p.over a<|œ c) g))
def č.lt{es:eh eg}{lo:ar}{h:ê}{as:ab ar}(p:č es lo h as){a:ar}(b:a∈as):a<h.y.q:=by let(j,c):=NI.Z b;let(_,_,e):=p.prs j a c;show Ý e
def č.snoc(p:č es lo h as)(i:∀a∈as,a<b)(n:lo<b)(k:es[as.f]?=a7 e)(o:h.G b=a7 {cw:=.O "tuple",bv:=.seq #[e.key,e.val]}):č es lo h (as++[b]):=by
 show(ab.pairwise_append.v (p.up,Qu _ _,λa d c hc=>by rw[ġ.Z hc];show i a d),λa d=>?_,λj a g=>?_)
 .rcases Ĺ.Z d with d|d
  .show p.over a d
  .rw[ġ.Z d];show n
 .rcases Q0 j as.f with h1|h1|h1
  .rw[ż h1]at g;show p.prs j a g
  .subst h1;have:b=a:=by apply g
   subst ah;show(e,k,o)
  .rw[ju<|by simp;lia]at g;ext g
def VD{s:Ø}(U:A.xt=b0)(y:S<I)(K:d≠S)(J:d≠I)(hn:es.q<=Ò)res{h1:ê}(X:∀h' tk fz c as,(∀b o,b≠S->b≠I->h1.G b=a7 o->h'.G b=a7 o)->h'.G S=a7 {cw:=.O "list",ix:=b0,bv:=.seq fz c,ft:=#[]}->as.f=es.q->č es I h' as->fz.zh=as.o Ñ->R (.ok<|.ret res) {s with ce:=h',dL:=tk}):
  ∀k i h tk c fz as,es.q-i=k->i<=es.q->xx h I d S i es.q ep->ø h d es ep->(∀b o,b≠S->b≠I->h1.G b=a7 o->h.G b=a7 o)->h.G S=a7 {cw:=.O "list",ix:=b0,bv:=.seq fz c,ft:=#[]}->
   fz.zh=as.o Ñ->as.f=i->č es I h as->I<h.y.q->Ρ (Ê P w) A (.zn "list.extend.loop" ([.x S,.x I,res],[])) R {s with ce:=h,dL:=tk}:=by
 let ne:S≠I:=ý y;intro k;induction k with
 |ij=>intro i h tk c fz as Y hi (_,_,_,_,N,O) g Q p G B H lt;show J2 F.entry_extend_loop ?_;rw[Rr F.vb _];show Á (m:=Ō (.x I)) (Ck (s:={s with ce:=h,dL:=tk}) (A:=A.in1) U N O g (Ý p) (λe h' n=>?_) λ_ h' x=>É<|X h' tk fz c as (λb o E u z=>x b o u<|Q b o E u z) (x S _ ne p) () (H.stay λb o q z=>x b o (š q) z) G);rw[Qs ()]at n;ext n|im k ih=>
  intro i h tk c fz as Y hi (_,_,_,_,N,O) g Q p G B H lt;let sz:fz.q=i:=by rw[<- fu,G,Ä,B]
  show J2 F.entry_extend_loop ?_;rw[Rr F.vb _];show Á (m:=Ō (.x I))<|Ck (s:={s with ce:=h,dL:=tk}) (A:=A.in1) U N O g (Ý p) (λe h' n j' a M Z j=>?_) λn=>?_
  .dsimp at M Z j ⊢;let v:=j S _ ne p;let T:S<h.y.q:=Ý p;let up:∀b o,b≠S->h'.G b=a7 o->(h'.vi S<|ly (·.zl<|Ñ h.y.q)).G b=a7 o:=λb o q z=>(J4 _ _<|ì q).u z;show Á (m:=nj S (·.zl<|Ñ h.y.q)) (gA v ?r (É (ϲ F.vb _,?_)) (by rw[sz];lia)<|by change(fz.zl<|Ñ h.y.q).q<=Ò+1;rw[eh.size_push,sz];lia);show ih (i+1) _ tk _ (fz.zl<|Ñ h.y.q) (as++[h.y.q]) () () (j'.stay (ì ne) up) (g.stay λo z=>up d o K<|j d o J z) (λb o E u z=>up b o E<|j b o u<|Q b o E u z) (τ _ v ?r) (by rw[eh.toList_push,G,Ć];rfl) (by rw[ô,B];rfl) ?_ ?_
   .show((H.stay λb o q z=>up b o (š<|O7 y q)<|j b o (š q) z)).snoc (λa L=>H.lt L) lt (by rw[B];show n)<|up _ _ (š T) M
   .show O7 lt<|Ý<|up _ _ (š T) M
  .rw[Ql ()]at n;ext n
def VE(J:A.xt=b0)(u:s.k.IsItemsView r d)(g:ø s.k d es ep)(B:S≠r)(Sd:d≠S)(z:s.k.G S=a7 {cw:=.O "list",bv:=.seq #[] c0})(L:es.q<=Ò)(G:∀h' tk fz c as,(∀b o,b≠S->s.k.G b=a7 o->h'.G b=a7 o)->h'.G S=a7 {cw:=.O "list",ix:=b0,bv:=.seq fz c,ft:=#[]}->as.f=es.q->č es s.k.y.q h' as->fz.zh=as.o Ñ->R (.ok<|.ret res) {s with ce:=h',dL:=tk}):
  Ç (Ê P w) A.in1 (xf (.x S) (.x r) res) (λdr p=>match dr with|.done f=>R (.ok f) p|.again c'=>c'.quiet=b4/\Ρ (Ê P w) A c' R p) (λe p=>R (.error e) p) s:=by
 let y:S<s.k.y.q:=Ý z;let E:d<s.k.y.q:=g.lt;let run:∀(h:ê)(q tk:am),(∀b o,b≠S->(s.k.zl {cw:=.O "dict_itemiterator",bv:=.xi #[.qo,.kt b3,.x d,.p 0 0,.p es.q 0,.p ep 0,.qo,.qo]}).G b=a7 o->h.G b=a7 o)->h.G S=a7 {cw:=.O "list",bv:=.seq #[] q}->
   Ρ (Ê P w) A (.zn "list.extend.loop" ([.x S,.x s.k.y.q,res],[])) R {s with ce:=h,dL:=tk}:=by
  intro h q tk v i;let gI:=v s.k.y.q _ (š y)<|ÿ _ ?r;show VD (s:=s) (h1:=s.k) (ep:=ep) J y Sd (ý E) L res (λh' x fz c as N O Q T U=>G h' x fz c as (λb o k e=>N b o k (ý<|Ý e) e) O Q T U) es.q 0 h tk q #[] [] (PL _) (Ŝ _)
   (.qo,.qo,.qo,b3,gI,.Q ?r) (g.stay λo e=>v d o Sd<|ä _ e) (λb o k j e=>v b o k<|ä _ e) i ?r ?r (Td,λ_ H=>(by ext H),λj a K=>(by simp at K))<|Ý gI
 ext xf;show Á<|ul (T:="dict_items") u.ja ?_;dsimp[show Og (.x S) (.x r)=b3 by simp[Og,B],show(é "dict_items"==é "list")=b3 by decide,show(é "dict_items"==é "tuple")=b3 by decide,OG,Ī,cm];show Á<|HW u g ?_;let i:=ä {cw:=.O "dict_itemiterator",bv:=.xi #[.qo,.kt b3,.x d,.p 0 0,.p es.q 0,.p ep 0,.qo,.qo]} z;show Á<|Ņ<|ci.W.kdx_hint (let(o,M,hc,_):=u;(o,ä _ M,hc)) ?_;show qp (λ_=>?_) λ_=>É (ϲ F.vb _,run _ c0 _ (λb o j e=>e) i);show Á<|Ϛ<|Á ?_;show Á (m:=nj S (·.zl .qo))<|gA i ?r ?_;let n:=τ (ly (·.zl ļ)) i ?r;show gA (hz:=by seq_fits) n ?r<|É (ϲ F.vb _,run _ _ _ (λb o k e=>?_)<|τ (ly (·.pop)) n ?r);show(J4 _ _<|ì k).u<|(J4 _ _<|ì k).u e
def VF{T:gw->Ø->Prop}(H:A.xt=b0)(v:s.k.IsItemsView r d)(g:ø s.k d es ep)(J:es.q<=Ò)(q:∀h' tk as,(∀b o,s.k.G b=a7 o->h'.G b=a7 o)->as.f=es.q->č es s.k.y.q h' as->s.k.y.q<=h'.y.q->T (as.o Ñ) {s with ce:=h',dL:=tk}):Ç (Ê P w) A (collect<|.x r) T E s:=by
 let K:r<s.k.y.q:=let(_,p,_):=v;Ý p
 ext collect
 show Á<|wpAny_runValue<|J2 b7z ?_
 rw[Rr F.plain_proto_collect _]
 show Á (m:=newList [])<|Η<|É (ϲ F.plain_list_iadd _,J2 b7A ?_)
 rw[Rr F.plain_list_iadd _]
 let B:(s.k.zl {cw:=.O "list",bv:=.seq ([]:gw).E}).G s.k.y.q=a7 {cw:=.O "list",bv:=.seq #[]}:=ÿ _ ?r
 let all:=VE (A:=A) (s:={s with ce:=s.k.zl {cw:=.O "list",bv:=.seq ([]:gw).E}}) (P:=P) (w:=w) (es:=es) (ep:=ep) (res:=.x s.k.y.q) (c0:=0)
  (R:=λ(q:UN)(u:Ø)=>∃(h':ê)(tk:am)(fz:eh ax)(c:am)(as:ab ar),q=.ok (.ret<|.x s.k.y.q)/\u={s with ce:=h',dL:=tk}/\(∀b o,s.k.G b=a7 o->h'.G b=a7 o)/\h'.G s.k.y.q=a7 {cw:=.O "list",ix:=b0,bv:=.seq fz c,ft:=#[]}/\as.f=es.q/\č es s.k.y.q h' as/\fz.zh=as.o Ñ)
  H (let(o,p,x):=v;(o,ä _ p,x)) (g.stay λo e=>ä _ e) (š K) (ý g.lt) B J
  λh' tk fz c as j h k i n=>(h',tk,fz,c,as,?r,?r,λb o e=>j b o (ý<|Ý e)<|ä _ e,h,k,(i.up,λa G=>O7 (ς _)<|by have:=i.over a G;rw[Χ]at ah;show ah,i.prs),n)
 show Ŗ all (λdr u x=>?_) λe u x=>?_
 .cases dr with
  |k4 f=>
   let(h',tk,fz,c,as,e,?r,j,h,k,i,n):=x
   ext e
   show Á (m:=load s.k.y.q)<|Nr h<|É ?_
   change T fz.zh _
   rw[n]
   show q h' tk as j k i<|dq<|Ý h
  |again L=>
   show(x.1,zq x.2 λy M x=>?_)
   let(h',tk,fz,c,as,?r,?r,j,h,k,i,n):=x
   show Á (m:=load s.k.y.q)<|Nr h<|É ?_
   change T fz.zh _
   rw[n]
   show q h' tk as j k i<|dq<|Ý h
 .let(_,_,_,_,_,z,_):=x
  ext z
end _3
namespace _3
open PySem _2 PySem.W PyProof.Rows
def HX(q:Q b4 s):Ç (Ê P w) A (eqBool v v) Q E s:=by ext eqBool;show Ņ ?_;rw[ad ∅];show Á<|Ϛ<|É q
def zO:∀k,HT.xw k k=b3
 |[]=>?r|a::k=>by simp[HT.xw,zO k]
def mH!(P:Ŧ)(w:ņ)(h:ê)(b:ar)(k:ab ae):Prop:=Tb.IsT P w h k b/\∃xs:gw,WP h b xs.E/\Ŷ xs k
def VG{C:av->Ø->Prop}(j:A.qv<ă)(o:s.k.G a=a7 {cw:=.O "tuple",bv:=.seq #[.x b,v]})(d:s.k.G g=a7 {cw:=.O "tuple",bv:=.seq #[.x h,n]})(i:mH P w s.k b k)(c:mH P w s.k h k')(p:k=k'->v=n)(q:C (HT.xw k k') s):Ç (Ê P w) A (keyLt' (tuples' b3) (.x a)<|.x g) C (λ_ f=>ef) s:=by
 show kat_lt o ?r d ?r ?_;show li<|(Ϭ<|ŷ P w).eqBool j i.1 c.1 ?_;by_cases e:k=k'
 .obtain rfl:=p e;subst e;rw[cc ?r];show oq<|li<|HX<|oq<|kat_nil ?_;rw[zO]at q;show q
 .rw[ba e];let(B,y,u):=i.2;let(G,z,x):=c.2;show kat_no (kat_one _ _<|HT.lt_tupInts y z (by apply u) (by apply x) j ?_);show q
def qA!(P:Ŧ)(w:ņ)(A:ų)(us:gw)(an:am->am->av)(s:Ø):Prop:=
 Ç (Ê P w) A (keyKind' us.E) (λb a=>a=s/\∀(i j:am)(C:av->Ø->Prop),i<us.f->j<us.f->C (an i j) s->Ç (Ê P w) A (keyLt' b (us.I i .qo)<|us.I j .qo) C (λ_ x=>ef) s) (λ_ x=>ef) s
def VH{lo:ar}{bs:ab ar}{ks:ab (ab ae)}(Y:A.qv<ă)(p:č es lo s.k as)(h0:0<as.f)(hl:as.f=es.q)(hk:ks.f=es.q)(X:bs.f=es.q)(io:∀j e,es[j]?=a7 e->e.key=.x (bs.I j 0)/\mH P w s.k (bs.I j 0) (ks.I j []))(nd:ks.J):qA P w A (as.o Ñ) (λi j=>HT.xw (ks.I i [])<|ks.I j []) s:=by
 let kD:∀i,i<as.f->∃(e:eg),es[i]?=a7 e/\s.k.G (as.I i 0)=a7 {cw:=.O "tuple",bv:=.seq #[.x (bs.I i 0),e.val]}/\mH P w s.k (bs.I i 0) (ks.I i []):=λi hi=>by
  let M:as[i]?=a7 (as.I i 0):=by simp[į,hi]
  let(e,q,g):=p.prs i _ M;let(k1,u):=io i e q;rw[k1]at g;show(e,q,g,u)
 ext qA;let k:NT s.k (as.o Ñ) (bs.o Ñ):=by
  let go:∀(n:am)(a c:ab ar),a.f=n->c.f=n->(∀i,i<n->∃v:ax,s.k.G (a.I i 0)=a7 {cw:=.O "tuple",bv:=.seq #[.x (c.I i 0),v]})->NT s.k (a.o Ñ) (c.o Ñ):=by
   intro n;induction n with
   |ij=>intro a c h1 d _;rw[xg.Z h1,xg.Z d];show .kk|im n Z=>
    intro a c h1 d K;match a,c,h1,d with
    |x::a,y::c,h1,d=>let(v,I):=K 0 ();show .zv I ?r ?r ∅ (Z a c (by apply h1) (by apply d) λi hi=>?_);have:=K (i+1) ();apply ah
  show go as.f as bs ?r () λi hi=>?_;let(e,_,g,_):=kD i hi;show(_,g)
 show Ow (T:=.O "tuple") k (by rw[Ä];lia) (λv I=>?_) ⋯ (?r,λi j C hi H T=>?_)
 .let(b,U,?r):=Ü.Z I;let(i,hi):=NI.Z U;let B:i<as.f:=by have:=(ã.Z hi).1;lia
  let(e,_,_,u):=kD i B;have:bs.I i 0=b:=by simp[į,hi]
  rw[ah]at u;obtain(xs|(o|o1|o2|_)|_):=u.2;show kitAt_ty _ _ (o,o1,o2)
 .rw[Ä]at hi H;let(e,q,g,L):=kD i hi;let(e',J,N,O):=kD j H;let Q:(as.o Ñ).I i .qo=.x (as.I i 0):=by simp[į,hi]
  let R:(as.o Ñ).I j .qo=.x (as.I j 0):=by simp[į,H]
  rw[Q,R];show VG Y g N L O (λz=>?_) T;let G:i=j:=by
   let h1:ks.I i []=ks[i]:=by simp[į,show i<ks.f by lia]
   let d:ks.I j []=ks[j]:=by simp[į,show j<ks.f by lia]
   rw[h1,d]at z;rcases Q0 i j with h|h|h
   .show cb z<|(NG.Z nd) i j () () h
   .show h
   .show cb z.R<|(NG.Z nd) j i () () h
  subst G;rw[q]at J;ext J;rfl
def Cm(O:2<=us.f)(u:us.f<64)(g:s.k.G c=a7 (Ě "list" us.E z))(H:∀K,(∀b o,b≠c->s.k.G b=a7 o->K.G b=a7 o)->qA P w A us an {s with ce:=K})(q:R (.done<|.ret .qo) {s with ce:=zj s.k c us ((dN an us.f).o λi=>us.I i ļ).E}):Ç (Ê P w) A (ez.«list.sort» ([.x c],[])) R E s:=by
 rw[RH]
 show Á<|listItems_at g ?r<|Á<|O3 g ?r ?_ (by rw[Ģ,õ];lia)<|Ŝ _
 obtain(y|I):∃y,(s.k.vi c<|ly λ_=>#[]).G c=a7 (Ě "list" #[] y):=(_,RF g _)
 show Á<|Ny I ?r<|Á<|N0 (Á<|vg (Ņ ?_)<|Ŝ _)<|by change us.f<=_;rw[õ];lia
 let J:(((s.k.vi c<|ly λ_=>#[]).zl<|Ě "tuple" us.E 0).zl<|Ě "list" #[] 0).G c=a7 (Ě "list" #[] y):=
  ä _<|ä _ I
 let n:=H (((s.k.vi c<|ly λ_=>#[]).zl<|Ě "tuple" us.E 0).zl<|Ě "list" #[] 0) λb o T e=>ä _<|ä _<|(J4 _ _<|ì T).u e
 change Ç (Ê P w) A _ R E (((s.k.vi c<|ly λ_=>#[]).zl<|Ě "tuple" us.E 0).zl<|Ě "list" #[] 0,s.gens,s.drawn,s.xh,s.os)
 dsimp
 let h:¬ us.E.q<2:=by rw[Ģ];lia
 rw[ac h,ac h]
 show Á<|Ŗ n (λY k v=>?_) λ_ f x=>x.vl
 let(?r,v):=v
 show Á<|Ŗ (kat_run (ks:=us) (vs:=us) (κ:=Y) (Q:=λa k=>k={s with ce:=((s.k.vi c<|ly λ_=>#[]).zl<|Ě "tuple" us.E 0).zl<|Ě "list" #[] 0}/\failedOf a=b0/\(arrOf a).o (·.2)=((dN an us.f).o λi=>us.I i ļ).E)
  (G:=λp k=>k={s with ce:=((s.k.vi c<|ly λ_=>#[]).zl<|Ě "tuple" us.E 0).zl<|Ě "list" #[] 0}/\p.zh=dN an us.f) ?r O u (λp a k Z M N G=>(G.1,N,by rw[kat_snds ?r M,G.2]))
 <|G9 (n:=us.f) (ans:=an) (λi j C hi U Q=>v i j C hi U Q) (tJ ()) (?r,?r)) (λr k X=>?_) λ_ f e=>e
 obtain(⟨⟩|a):=r
 let(?r,L,d):=X
 dsimp at L d ⊢
 rw[d]
 let B:((dN an us.f).o λi=>us.I i ļ).f=us.f:=by
  rw[Ä,(B1 an (n:=us.f) ()).length_eq,ql]
 show Á<|Ny J ?r<|Á<|O3 J ?r ?_ (hsz2:=by rw[Ģ,B,õ];lia)
 rw[L]
 dsimp[oD,Ī,cm]
 show É q
def VI(K:A.xt=b0)(M:s.k.IsItemsView r d)(g:ø s.k d es ep)(G:es.q<64)(H:2<=es.q->∀h tk as,(∀b o,s.k.G b=a7 o->h.G b=a7 o)->as.f=es.q->č es s.k.y.q h as->qA P w A.in1.in1 (as.o Ñ) an {s with ce:=h,dL:=tk})(q:∀h tk as(L e:am),(∀b o,s.k.G b=a7 o->h.G b=a7 o)->as.f=es.q->č es s.k.y.q h as->s.k.y.q<=L->(∀a∈as,a≠L)->h.G L=a7 (Ě "list" ((dN an es.q).o λi=>Ñ<|as.I i 0).E e)->Q (.x L) {s with ce:=h,dL:=tk}):
  Ç (Ê P w) A (ia (.zn "sorted") [.x r]) Q E s:=by
 show Qm PD PC P9 (P8 _) ?_
 ext Qk
 show Á (m:=P0 "sorted" 1 1 _)<|É<|Á<|VF (A:=A.in1) K M g (by rw[õ];lia) λc tk as z p v n=>?_
 let B:(as.o Ñ).f=es.q:=by rw[Ä,p]
 show Á<|vg ?_<|by rw[B,õ];lia
 let k:(c.zl<|Ě "list" (as.o Ñ).E 0).G c.y.q=a7 (Ě "list" (as.o Ñ).E 0):=ÿ _ ?r
 let dr:∀j:gw,j=((dN an es.q).o λi=>Ñ<|as.I i 0)->Q (.x c.y.q) {s with ce:=zj (c.zl<|Ě "list" (as.o Ñ).E 0) c.y.q (as.o Ñ) j.E,dL:=tk}:=by
  rintro j rfl
  let(e,J):=sortedHeap_at (h:=c.zl (Ě "list" (as.o Ñ).E 0)) (out:=((dN an es.q).o λi=>Ñ<|as.I i 0).E) k
  let kB:∀b o,c.G b=a7 o->(zj (c.zl<|Ě "list" (as.o Ñ).E 0) c.y.q (as.o Ñ) ((dN an es.q).o λi=>Ñ<|as.I i 0).E).G b=a7 o:=λb o x=>by
   rw[RQ (ý<|Ý x)<|by rw[Χ];show NB<|Ý x]
   show ä _ x
  show q _ tk as c.y.q e (λb o x=>kB b o<|z b o x) p (v.stay λb o f x=>kB b o x) n (λa I=>ý<|v.lt I) J
 by_cases u:2<=es.q
 .show Á<|Ņ<|Ÿ vp (s:={s with ce:=c.zl<|Ě "list" (as.o Ñ).E 0,dL:=tk}) (_,k,?r) ux (Cm (an:=an) () () k (λh y=>?_) (_,?r,?_))<|vo _
  .show H u h tk as (λb o e=>y b o (ý<|Ŏ (Ý e) n)<|ä _<|z b o e) p<|v.stay λb o N e=>y b o (ý<|Ý e)<|ä _ e
  .show É (_,?r,dr _ ?_)
   rw[B]
   show Φ λi hi=>?_
   let hi:i<as.f:=by
    have:=ŏ.Z<|(mD an es.q).mem_iff.mp hi
    lia
   simp[į,hi]
 .show Á<|Ņ<|Ÿ vp (s:={s with ce:=c.zl<|Ě "list" (as.o Ñ).E 0,dL:=tk}) (_,k,?r) ux (B2 () k (_,?r,?_))<|vo _
  show É (_,?r,dr (as.o Ñ) ?_)
  match as,p with
  |[],e=>rw[<- e];change[]=(dN _ 0).o _;rw[zC];rfl
  |[b],e=>rw[<- e];change[Ñ b]=(dN _ 1).o _;rw[B3];rfl
  |_::_::_,e=>rw[<- e]at u;simp at u
end _3
namespace _3
open PySem _2
def oQ!(ps:bX):bX:=(dN (λi j=>HT.xw ((ps.o (·.1)).I i [])<|(ps.o (·.1)).I j []) ps.f).o λi=>ps.I i ⟨[],0,.kf⟩
def ζ:(oQ ps).Perm ps:=by
 ext oQ;let p:=(mD (λi j=>HT.xw ((ps.o (·.1)).I i [])<|(ps.o (·.1)).I j []) ps.f).o λi=>ps.I i ⟨[],0,.kf⟩;let e:(Ĉ ps.f).o (λi=>ps.I i ⟨[],0,.kf⟩)=ps:=by show Pu ∅ λi h1 a=>?_;simp[į,a]
 rw[e]at p;show p
def HY d(hd:(d==Ļ)=b3):yq P w (ez.«dict.items» ([.x d],[])) (λ_ R s=>(∃es ep,ø s.k d es ep) /\
   R (.ok<|.ret<|.x s.k.y.q) {s with ce:=s.k.zl {cw:=.O "dict_items",bv:=.xi #[.x d]}}):=
 .of_wp λA R s ((es,ep,g),h)=>by unfold ez.«dict.items»;show Á ?_;ext Qt;show Á<|rE g.ty ?_;change Ç _ _ (ej d) _ _ s;show É ?_;change Ç _ _ (jy d >>= _) _ _ s;ext jy;rw[ac<|by rw[hd];show þ];show Á<|É ?_;show Á<|Η<|É (_,?r,h)
def tU!(ay:jx):jx:=(dN (λi j=>HT.xw ((ay.o (·.1)).I i [])<|(ay.o (·.1)).I j []) ay.f).o λi=>ay.I i ⟨[],.kf⟩
def HZ{R:a->b->Prop}{as:ab a}{bs:ab b}(h:ύ R as bs)c d:∀i,i<as.f->R (as.I i c) (bs.I i d):=by
 induction h with
 |fk=>show λi hi=>nomatch hi|bm e t g=>
  intro i hi;cases i with
  |ij=>show e|im i=>show g i<|by apply hi
def Co{R:a->b->Prop}{f:am->a}{g:am->b}:∀{l:ab am},(∀i∈l,R (f i) (g i))->ύ R (l.o f) (l.o g)
 |[],_=>.kk|i::l,h=>.zv (h i<|ŗ ..)<|Co λj c=>h j<|ķ _ c
def VJ(h:ñ K π n H ps ay):ps.f=ay.f/\ñ K π n H (oQ ps) (tU ay):=by
 let a:=h.to.1;let b:ps.f=ay.f:=by have:=br ģ a;apply ah
 show(b,?_);ext oQ tU;rw[a,b];show Co λi hi=>HZ h _ _ i ?_;have:=ŏ.Z<|(mD _ ay.f).mem_iff.mp hi;lia
def Â.freeze{σ:St}{ps:bX}(I:Â X Do σ H s)(e:H a=a7 (aN a ps))(c:s.k.G a=a7 ob):Â X Do σ (eo H a<|.frz ob<|aN a ps) s:=by let ok:á X.Y X.w H s.k a (aN a ps):=I.vr a _ e;show I.write (x:=a) (e:=a) (h':=s.k) (t':=s.xh) (by rw[e];show ϛ) (.Q ?r) (λb q y z=>z) (ob,c) (c,ok)
def Â.thaw{σ σ0:St}{ps ps0:bX}(n:Â X pins0 σ0 H0 s0)(v:H0 a=a7 (aN a ps0))(I:Â X Do σ H s)(e:H a=a7 (.frz ob<|aN a ps)):Â X Do σ (eo H a<|aN a ps) s:=by
 let ne:∀{b:ar},H b=b0->b≠a:=λ{b} h z=>by rw[z,e]at h;ext h
 show(I.ok,I.os,I.bare,(I.ka.keep,I.ka.slot,λb o h1 d g=>?_,I.ka.there,λb j h=>?_,λb o u h=>?_,λb y h=>?_),I.z,I.kz,?_,λx c h=>?_,λp w=>?_,λb u q=>?_,I.len)
 .have:=I.ka.kr b o h1 d g;rw[bV<|ne ah];show ah
 .have:=I.ka.tups b j h;rw[bV λz=>by rw[z,e]at ah;ext ah];show ah
 .have:=I.ka.frzs b o u h;rw[bV λz=>by
   let k:=n.ka.frzs b o u h;rw[z,v]at k;ext k]
  show ah
 .let(ge,h1):=I.ka.tbls b y h;show(ge,by rw[bV λz=>by rw[z,e]at h1;ext h1];show h1)
 .rw[bV<|ne I.kr];show I.kr
 .have:=I.freeC x c h;rw[bV<|ne ah];show ah
 .let(h1,d,g):=I.pin p w;show(h1,by rw[bV<|ne d];show d,g)
 .by_cases i:b=a
  .subst i;rw[dH]at q;ext q;show(show á X.Y X.w H s.k b (.frz ob<|aN b ps)from I.vr b _ e).2
  .rw[bV i]at q;show(I.vr b u q).stay (λ_ f f z=>z) (λc h=>by rw[bV λz=>by rw[z,e]at h;ext h];show h) λc j h=>by rw[bV λz=>by rw[z,e]at h;ext h];show h
def v7!(i:am)(a:aE):af D:=if i<1000 then(a[i]?).U id else match a[i/1000-1]? with
 |bb (a7<|.L ds)=>ds[i%1000]?|_=>b0
def qB!(i:am)(b:aE)(μ:Hm):af (am×jx):=match v7 i b with
 |bb (.z a)=>match μ[a]? with
  |bb (.dT ay)=>a7 ⟨a,ay⟩|_=>b0
 |_=>b0
open _root_ in
def Ia(h:qB i b μ=a7 ⟨a,ay⟩):μ[a]?=a7 (.dT ay):=by
 unfold qB at h;split at h
 .split at h
  .rename_i hc;ext h;show hc
  .ext h
 .ext h
def tV!(i:am)(c d:ME):ME:=λb μ=>match qB i b μ with
 |bb ⟨a,ay⟩=>(c b<|μ.xl a<|.dF ay).U λr=>match r.2[a]? with
  |bb (.dF kvs')=>a7 ⟨r.1,r.2.xl a<|.dT kvs'⟩|_=>b0
 |bp=>d b μ
def f9!(i:am)(c d:MS):MS:=λb μ=>match qB i b μ with
 |bb ⟨a,ay⟩=>(c b<|μ.xl a<|.dF ay).U λr=>match r.2.2[a]? with
  |bb (.dF kvs')=>a7 ⟨r.1,r.2.1,r.2.2.xl a<|.dT kvs'⟩|_=>b0
 |bp=>d b μ
def Ib{σ:St}{ay:jx}(I:Â X Do σ H s)(R:Rp X.K π H μ)(E:En X.K π μ.f H σ ρ)(hc:μ[a]?=a7 (.dT ay)):∃ob ps,H (π a)=a7 (aN (π a) ps)/\Â X Do σ (eo H (π a)<|.frz ob<|aN (π a) ps) s /\
  Rp X.K π (eo H (π a)<|.frz ob<|aN (π a) ps) (μ.xl a<|.dF ay)/\En X.K π (μ.xl a<|.dF ay).f (eo H (π a)<|.frz ob<|aN (π a) ps) σ ρ:=by
 let(ps,b,T):=jC R hc;obtain(_|(ob|d)|_):=(show á X.Y X.w H s.k (π a) (aN (π a) ps)from I.vr _ _ b);let(c,R2):=R.put (c:=.dF ay) (o:=.frz ob (aN (π a) ps)) (ã.Z hc).1 b (.X<|.X (_,?r)) (ob,ps,?r,T.to);show(ob,ps,b,Â.freeze I b d,R2,E.zw c)
def v8{σ:St}{μ:Hm}{ay:jx}{q:St}{ps:bX}{d:jx}(I:Â X Do σ H s)(e:H (π a)=a7 (aN (π a) ps))(A:a<μ.f)(y:Â X g q j x)(R':Rp X.K c j aw)(k:ö π (μ.xl a<|.dF ay).f (eo H (π a)<|.frz ob<|aN (π a) ps) c aw.f j)(hc:aw[a]?=a7 (.dF d)):
  ∃v,Â X g q v x/\ö π μ.f H c (aw.xl a<|.dT d).f v/\Rp X.K c v (aw.xl a<|.dT d)/\Ŋ c aw.f j c (aw.xl a<|.dT d).f v:=by
 let w:c a=π a:=k.pi a (by rw[ĸ];show A);let(E,i,h1,T):=tQ R' hc;let(J,R2):=R'.put0 (c:=.dT d) (o:=aN (c a) i) (ã.Z hc).1 h1 (.X<|.X<|.X (_,_,?r)) (i,?r,T.to);rw[w]at h1;show(eo j (c a)<|aN (c a) i,?_,(?_,λb B=>k.pi b<|by rw[ĸ];show B,λp G h=>?_,λp o u h=>?_),R2,J)
 .rw[w];show Â.thaw I e y h1
 .have:=k.le;rw[ĸ]at ah ⊢;show ah
 .let n:p≠π a:=λz=>by rw[z,e]at h;ext h
  have:=k.L p G (by rw[bV n];show h);rw[w,bV n];show ah
 .let n:p≠π a:=λz=>by rw[z,e]at h;ext h
  have:=k.frz p o u (by rw[bV n];show h);rw[w,bV n];show ah
def En.mono0(E:En K π n H σ ρ)(e:Ŋ π n H b g c):En K b g c σ ρ:=
 (E.len,λi d h=>let(v,h1,j):=E.get i d h;(v,h1,j.ky e))
open _root_ in
def VL(h1:QE X e B)(h2:QE X e G):QE X e (tV i B G):=⟨by
 intro j s L H Q I hw;let(n,K,J,d,y,R,E,c,k):=hw;unfold tV at c;split at c
 .rename_i a w hv;show bJ c ?_;clear c;intro x g g1 c;dsimp at c;split at c
  .rename_i A p;ext c;let hc:=Ia hv;let(ob,ps,Z,N,U,M):=Ib I R E hc;show aR (h1.h j s L _ (λv h=>∃b,ö n (J.xl a<|.dF w).f (eo H (n a)<|.frz ob<|aN (n a) ps) b g.f h/\Rp X.K b h g/\Ù X.K b g.f h v d) N (n,K,_,d,g,U,M,g1,λb v h o R2 q=>(b,o,R2,q))) λu s2 (v,h,O,rv,b,o,R2,q)=>?_;let(z,T,e3,Y,x3):=v8 I Z (ã.Z hc).1 O R2 o p;show(v,z,T,rv,k b v z e3 Y<|q.ky x3)
  .ext c
 .show h2.h j s L H Q I (n,K,J,d,y,R,E,c,k)⟩
open _root_ in
def zP(h1:QS X st m1)(h2:QS X st m2):QS X st (f9 i m1 m2):=⟨by
 intro M s σ H D I hw;let(n,ρ,N,K,w,Y,R,E,y,k):=hw;unfold f9 at y;split at y
 .rename_i a z hv;obtain((fl1|ρ1|g)|g1|y):=ń.Z y;dsimp at y;split at y
  .rename_i Z x;ext y;let hc:=Ia hv;let Q:=(ã.Z hc).1;let(ob,T,O,I1,R1,E1):=Ib I R E hc;show aR (h1.h M s σ _ (λc h=>K=.nx/\∃b,ö n (N.xl a<|.dF z).f (eo H (n a)<|.frz ob<|aN (n a) T) b g.f h/\Rp X.K b h g/\En X.K b g.f h c w,
     λv h=>∃d,K=.rt d/\∃b,ö n (N.xl a<|.dF z).f (eo H (n a)<|.frz ob<|aN (n a) T) b g.f h/\Rp X.K b h g/\Ù X.K b g.f h v d,
     λc h=>K=.bk/\∃b,ö n (N.xl a<|.dF z).f (eo H (n a)<|.frz ob<|aN (n a) T) b g.f h/\Rp X.K b h g/\En X.K b g.f h c w,
     λc h=>K=.ct/\∃b,ö n (N.xl a<|.dF z).f (eo H (n a)<|.frz ob<|aN (n a) T) b g.f h/\Rp X.K b h g/\En X.K b g.f h c w) I1 (n,ρ,_,K,w,g,R1,E1,g1,?_)) λf s2 q=>?_
   .cases K with
    |nx=>show λb c h j R2 o=>(?r,b,j,R2,o)|bk=>show λb c h j R2 o=>(?r,b,j,R2,o)|ct=>show λb c h j R2 o=>(?r,b,j,R2,o)|rt d=>show λb v h j R2 U=>(d,?r,b,j,R2,U)
   .cases f with
    |nw=>let(c,h,A,?r,b,j,R2,o):=q;let(p,B,J,G,L):=v8 I O Q A R2 j x;show(c,p,B,k b c p J G<|En.ky o L)|brk=>let(c,h,A,?r,b,j,R2,o):=q;let(p,B,J,G,L):=v8 I O Q A R2 j x;show(c,p,B,k b c p J G<|En.ky o L)|n0=>let(c,h,A,?r,b,j,R2,o):=q;let(p,B,J,G,L):=v8 I O Q A R2 j x;show(c,p,B,k b c p J G<|En.ky o L)|ret u=>let(v,c,h,A,rv,d,?r,b,j,R2,U):=q;let(p,B,J,G,L):=v8 I O Q A R2 j x;show(v,c,p,B,rv,k b v p J G<|U.ky L)
  .ext y
 .show h2.h M s σ H D I (n,ρ,N,K,w,Y,R,E,y,k)⟩
def Cp!(d:ar)(ob:hH)(ps:bX):It:=(λi H=>H d=a7 (.frz ob<|aN d ps)/\i<ps.f,λi H x a=>a=H/\∃p,ps[i]?=a7 p/\x=.x p.2.1,λi H=>H d=a7 (.frz ob<|aN d ps)/\ps.f<=i)
def rR{σ:St}{ps:bX}(I:Â X Do σ H s)(e:H d=a7 (.frz ob<|aN d ps)):
  (d==Ļ)=b3/\ps.f<=Ò/\∃a b,ø s.k d a b/\ob.data=.dict a b/\a.zh.o (·.key)=ps.o λp=>Ñ p.2.1:=by
 obtain(c|(q|r|k|j|o|a|b|h1|h|g|i|n)|_):=(show á X.Y X.w H s.k d (.frz ob<|aN d ps)from I.vr d _ e);rw[c]at h1;ext h1;show(k,j,a,b,(ob,c,h,g),g,?_);rw[i,zH (P:=X.Y) (w:=X.w),æ,<- Ci r];rfl
def Ic:∀(ps:bX)(ws:gw),ps.f=ws.f->(um u6 ps ws).o (·.val)=ws
 |[],[],_=>?r|[],_::_,h=>by ext h
 |_::_,[],h=>by ext h
 |p::ps,u::ws,h=>by rw[ϑ,í,Ic ps ws<|by apply h];rfl
def v9{σ:St}{ps:bX}(I:Â X Do σ H s)(e:H d=a7 (.frz ob<|aN d ps)):
  (d==Ļ)=b3/\ps.f<=Ò/\∃a b,ø s.k d a b/\ob.data=.dict a b/\Æ (ps.o (·.2.2)) (a.zh.o (·.val)):=by
 obtain(g|(c|r|p|n|o|a|b|h1|j|h|k|q)|_):=(show á X.Y X.w H s.k d (.frz ob<|aN d ps)from I.vr d _ e);rw[g]at h1;ext h1;show(p,n,a,b,(ob,g,j,h),h,?_);let i:(um u6 ps c).o (·.val)=c:=Ic ps c<|by
  have:=r.f;rw[Ä]at ah;show ah
 rw[k,i];show r
def VM(hd:ob.data=.dict es ep):ı Qc P w K tg (Cp d ob ps) [q] q (λi h=>h.IsKeyIter q d i es.q ep) where
 mem:=∅
 obj:=λi h st b j=>by
  let e:b=q:=by apply j
  subst e;let(o,e,c,d):=st;show(o,e,λv z=>by rw[d]at z;ext z)
 fv:=λi h x st k=>st.at λo e=>k q ∅ o e;lm:=by
  intro X T hw R hc i u s σ H E I B st U;subst T hw R;let(p,y):=U;let(lo,hl,J,G,g,a,A):=rR I p;rw[hd]at a;ext a;let hs:es.q=ps.f:=by have:=br ģ A;apply ah
  let(L,M,f2,N,O,Q):=B q ∅;show zK (I.ok.hd hc) st g (λe x n Z sb=>?_) λhn=>by simp at hn;lia
  let I1:Â X u σ H {s with ce:=x}:=I.turned (t':=s.xh) (λb o j e=>(sb.2 b j).u e) L M N O Q;let(o,e1,c,d1):=id Z;let Y:ps[i]?=a7 ps[i]:=Ċ y;let ek:e.key=.x (ps[i]).2.1:=by have:=br (·[i]?) A;dsimp[ĉ,UV,n,Y,ĝ]at ah;show Ĕ ah
  show(e.key,?r,qT (s:={s with ce:=x}) e1 c d1 ⋯ (.x (ps[i]).2.1,H,I1,ek,(?r,ps[i],Y,?r),Z,λb j=>(B b j).1))
 k4:=by
  intro X T hw R hc i u s σ H E I B st U;subst T hw R;let(p,y):=U;let(lo,hl,J,G,g,a,A):=rR I p;rw[hd]at a;ext a;let hs:es.q=ps.f:=by have:=br ģ A;apply ah
  let(L,M,f2,N,O,Q):=B q ∅;show zK (I.ok.hd hc) st g (λe x n=>by
   have:=(Qo.Z n).1;lia) λ_ x eb=>(?r,I.turned (t':=s.xh) (λb o j e=>eb b o j e) L M N O Q)
 lh:=λ_ f f f f st h=>Si st h
def VN(k:PE X l n):PI X tg l (λσ H R=>n σ H λv a=>∃d ob ps,v=.x d/\a d=a7 (.frz ob<|aN d ps)/\R (Cp d ob ps) a):=by
 intro j s σ H R I h;show aR (k j s σ H _ I h) λv i (y,a,c,z,x)=>?_;let(d,ob,ps,e,u,q):=x;subst e;obtain rfl:v=Ñ d:=z;let(w,k,B,A,g,hd,E):=rR c u;show HF w g (i.k.y.q,[i.k.y.q],_,_,a,?r,c.vx (t':=i.xh) λb o e=>ä _ e,VM hd,(_,ÿ _ ?r,?r,?r),λb p=>?_,q);let e:b=i.k.y.q:=by apply p
 subst e;show c.fpOk (Ô _)<|c.vr.xo<|Ô _
def fJ!(ay:jx):ab D:=ay.o λk=>D.L<|k.1.o D.p
def VO{ps:bX}(c:H d=a7 (.frz ob<|aN d ps))(T:ñ K π n H ps ay):Wk K (Cp d ob ps) (eM<|.L<|fJ ay) π n H:=by
 let w:ps.f=ay.f:=by have:=br ģ T.to.1;apply ah
 show(λb s g i e R z=>?_,λb s g i h e R z=>?_)
 .let a:(fJ ay)[i]?=bp:=Ĕ z;have:=Κ.Z a;rw[fJ,Ä]at ah;show(e.frz _ _ _ c,())
 .let a:(fJ ay)[i]?=a7 h:=Ĕ z;let hi:i<ay.f:=by have:=(ã.Z a).1;rwa [fJ,Ä]at ah
  show((e.frz _ _ _ c,()),λv u (j,p,k,o)=>?_);subst j o;let(x,h1,q):=(T.to.2.1.zw e).get a;rw[ĉ,k]at h1;ext h1;show(.ki,R,q)
def gX!(m:ME):MI:=λb μ=>(m b μ).U λp=>match p.1 with
 |.z a=>match p.2[a]? with
  |bb (.dF ay)=>a7 ⟨eM<|.L<|fJ ay,ay.f+1,p.2⟩|_=>b0
 |_=>b0
open _root_ in
def Cq(h:QE X e m):QJ X e (gX m):=⟨λtg Do s σ H R I hw=>by
 let(z,A,v,u,n,w,i,E,a,k):=hw;show bJ a ?_;clear a;intro x y h1 a;dsimp at a;split at a
 .split at a
  .rename_i p hc;ext a;show VN h.h Do s σ H R I (z,A,v,_,_,i,E,h1,λb B g j c o=>?_);ext o;let(ob,q,d,T):=tQ c hc;show(_,ob,q,?r,d,k b g _ j c<|VO d T)
  .ext a
 .ext a⟩
end _3
namespace _3
open PySem _2 PySem.W PyProof.Rows
def Ie!(h:ê)(b:ar)(k:ab ae):Prop:=∃xs:gw,WP h b xs.E/\Ŷ xs k
def VP{bs:ab ar}{ks:ab (ab ae)}(h0:0<bs.f)(x:ks.f=bs.f)(io:∀j b,bs[j]?=a7 b->Ie s.k b (ks.I j [])/\ks.I j []≠[]):qA P w A (bs.o Ñ) (λi j=>HT.xw (ks.I i [])<|ks.I j []) s:=by
 let h:∃fs:gw,fs.f=bs.f/\NT s.k (bs.o Ñ) fs/\∀v∈fs,∃i t,v=ĕ i t:=by
  clear h0;induction bs generalizing ks with
  |fk=>show([],?r,.kk,λv a=>nomatch a)|bm b bs Q=>
   match ks,x with
   |k::ks,x=>
    let(fs,y,p,q):=Q (ks:=ks) (by apply x) λj c hc=>by apply io (j+1) c (by apply hc)
    obtain((xs|(o|e|c|n|d)|hi)|g):=io 0 b ?r;dsimp[ab.getD_cons_zero]at hi g;cases hi with
    |fk=>show cb ?r g|@bm i z T R M=>
     show(ĕ i z::fs,by simp[y],.zv e c d ∅ p,λv a=>?_);rcases ē.Z a with rfl|a
     .show(i,z,?r)
     .show q v a
 let(fs,y,p,q):=h;ext qA;show Ow (T:=.O "int") p ?_ (λv a=>?_) ?r (?r,λi j C hi u L=>?_)
 .lia
 .let(i,t,?r):=q v a;show .now
 .rw[Ä]at hi u;obtain((xa|(Z|H|U|Y|B)|N)|_):=io i bs[i]<|Ċ hi;obtain((xb|(ob|I|X|nb|G)|O)|_):=io j bs[j]<|Ċ u;let J:(bs.o Ñ).I i .qo=.x bs[i]:=by simp[į,hi]
  let K:(bs.o Ñ).I j .qo=.x bs[j]:=by simp[į,u]
  rw[J,K];show kat_lt H B I G<|He 0 N O L
def VQ{bs:ab ar}{ks:ab (ab ae)}(M:A.xt=b0)(lo:(d==Ļ)=b3)(g:ø s.k d es ep)(z:es.zh.o (·.key)=bs.o Ñ)(K:es.q<64)(O:ks.f=bs.f)(io:∀j b,bs[j]?=a7 b->Ie s.k b (ks.I j [])/\ks.I j []≠[])(q:∀(h' u:ê)tk e,(∀b o,s.k.G b=a7 o->h'.G b=a7 o)->(∀b o,h'.G b=a7 o->u.G b=a7 o)->u.G h'.y.q=a7 (Ě "list" ((dN (λi j=>HT.xw (ks.I i [])<|ks.I j []) es.q).o λi=>Ñ<|bs.I i 0).E e)->Q (.x h'.y.q) {s with ce:=u,dL:=tk}):
  Ç (Ê P w) A (ia (.zn "sorted") [.x d]) Q E s:=by
 let n:bs.f=es.q:=by have:=br ģ z;apply ah.R
 show Qm PD PC P9 (P8 _) ?_;ext Qk;show Á (m:=P0 "sorted" 1 1 _) (É<|Á<|kdu_collect (A:=A.in1) (HG lo) M g (by rw[õ];lia) λh' tk c H a=>?_);let J:c.zh=bs.o Ñ:=by
  rw[<- z];show QX λi=>?_;rw[ĉ,UV,UV];cases G:c[i]? with
  |bb v=>let(e,U,X):=a.2 i v G;rw[U,X];rfl|bp=>
   have:c.q<=i:=by apply G
   rw[Qs<|by rw[<- a.1];show ah];rfl
 rw[J];let I:(bs.o Ñ).f=es.q:=by rw[Ä,n]
 show Á (vg ?_<|by rw[I,õ];lia);let k:(h'.zl<|Ě "list" (bs.o Ñ).E 0).G h'.y.q=a7 (Ě "list" (bs.o Ñ).E 0):=ÿ _ ?r;let dr:∀h:gw,h=((dN (λi j=>HT.xw (ks.I i [])<|ks.I j []) es.q).o λi=>Ñ<|bs.I i 0)->Q (.x h'.y.q) {s with ce:=zj (h'.zl<|Ě "list" (bs.o Ñ).E 0) h'.y.q (bs.o Ñ) h.E,dL:=tk}:=by rintro h rfl;let(e,L):=sortedHeap_at (h:=h'.zl (Ě "list" (bs.o Ñ).E 0)) (out:=((dN (λi j=>HT.xw (ks.I i [])<|ks.I j []) es.q).o λi=>Ñ<|bs.I i 0).E) k;show q h' _ tk e H (λb o x=>?_) L;rw[RQ (ý<|Ý x)<|by rw[Χ];show NB<|Ý x];show ä _ x
 by_cases B:2<=es.q
 .show Á<|Ņ<|Ÿ vp (s:={s with ce:=h'.zl<|Ě "list" (bs.o Ñ).E 0,dL:=tk}) (_,k,?r) ux (Cm (an:=λi j=>HT.xw (ks.I i [])<|ks.I j []) () () k (λu R=>?_) (_,?r,?_))<|vo _
  .show VP () O λj b N=>?_;obtain((T|(o|o1|o2)|hi)|y):=io j b N;let p:=H _ _ o1;show((T,(o,R b o (ý<|Ý p)<|ä _ p,o2),hi),y)
  .show É (_,?r,dr _ ?_);rw[I];show Φ λi hi=>?_;let hi:i<bs.f:=by have:=ŏ.Z ((B1 _ (n:=es.q) ()).mem_iff.mp hi);lia
   simp[į,hi]
 .show Á (Ņ<|Ÿ vp (s:={s with ce:=h'.zl<|Ě "list" (bs.o Ñ).E 0,dL:=tk}) (_,k,?r) ux (B2 () k (_,?r,?_))<|vo _);show É (_,?r,dr (bs.o Ñ) ?_);match bs,n with
  |[],e=>rw[<- e];change[]=(dN _ 0).o _;rw[zC];rfl|[b],e=>rw[<- e];change[Ñ b]=(dN _ 1).o _;rw[B3];rfl|_::_::_,e=>rw[<- e]at B;simp at B
end _3
namespace _3
open PySem _2
def Ig!(K:Ï):gz->Hp->VK->Prop:=λxs H Q=>∃a ps,xs=[V.x a]/\H a=a7 (aN a ps)/\eY K H ps/\ps.f<64/\(∀p∈ps,p.1≠[])/\∀l,H l=b0->Q (.x l) (eo H l<|.D<|(oQ ps).o λp=>V.x p.2.1)
def VR(hc:X.vn=b4):ß X (.zn "sorted") (Ig X.K):=by
 intro o s σ H xs us Q I r h;let(a,c,?r,O,B,N,x,q):=h;let(u,?r,ru):=hJ r;ext ru;let(lo,n,J,ep,g,A):=tR I O B;let R:J.q=c.f:=by have:=br ģ A;apply ah
 let L:∀{j:am}{b:ar},(c.o (·.2.1))[j]?=a7 b->∃p∈c,c[j]?=a7 p/\p.2.1=b:=λ{j b} d=>by rw[ĉ]at d;show cI d ?_;clear d;intro p k K;show(p,œ k,k,K)
 show VQ (bs:=c.o (·.2.1)) (ks:=c.o (·.1)) (I.ok.hd hc) lo g (by rw[A,æ];rfl) () ∅ (λj b d=>?_) λv M y e U Y Z=>?_
 .let(p,E,k,?r):=L d;let G:(c.o (·.1)).I j []=p.1:=by simp[į,k]
  rw[G];let(b5,rx,t,_):=I.kl<|B p E;show((b5,t,xZ rx),x p E)
 .let z:Â X o σ H {s with ce:=v,dL:=y}:=I.vx (t':=y) U;show(.x v.y.q,_,z.laid (t':=y) (h':=M) (a:=v.y.q) (o:=.D ((oQ c).o λp=>V.x p.2.1)) Y (Ô _) ?_,?r,q _<|z.vr.xo<|Ô _);let w:(oQ c).f=c.f:=ζ.length_eq;show(by rw[Ä,w];show n,_,e,?_,Z);ext oQ;rw[R,æ];have:∀l:ab am,(∀i∈l,i<c.f)->Æ (l.o<|(λp:ab ae×ar×V=>V.x p.2.1)∘λi=>c.I i ⟨[],0,.kf⟩) (l.o λi=>Ñ<|(c.o (·.2.1)).I i 0):=λl n=>by
   induction l with
   |fk=>show .kk|bm i l T=>show .zv ?_<|T λj d=>n j<|ķ _ d;let hi:=n i<|ŗ ..;change Ñ _=Ñ _;simp[į,hi]
  show ah _ λi hi=>ŏ.Z<|(mD _ c.f).mem_iff.mp hi
def qC!(μ:Hm):D->av
 |.z a=>match μ[a]? with|bb (.dT _)=>b4|_=>b3
 |_=>b3
def fW!(f:D->ab D->Hm->jk)(b:ME)(ms:MA):ME:=λa μ=>(b a μ).U λp=>match qC p.2 p.1 with
 |bt=>(ms a p.2).U λq=>f p.1 q.1 q.2|ai=>b0
def Cr!(K:Ï)(x:V)(H:Hp):Prop:=∃a ps,x=.x a/\H a=a7 (aN a ps)/\eY K H ps
open _root_ in
def VS(R:Rp K π H μ)(h:Ù K π μ.f H v x)(e:qC μ x=b4):Cr K v H:=by
 cases h with
 |@lp a d=>
  dsimp[qC]at e;split at e
  .rename_i g b;let(c,h1,T):=jC R b;show(_,c,?r,h1,T.keys)
  .ext e
 |_=>ext e
def VT{id:cq}(q:Slot "dict" fg id)(A:NS (.zn id)=ej (.O "method_descriptor"))(R:mZ X id r)(T:PE X o to)(N:PA X (e::es) t)(i:jj o fg X.M (eu o X.M)=eu o X.M)(p:((ĵ fb<|ð (e::es) X.M).all (λx=>!x.1)&&(ak fb<|au [] X.M).all (λx=>x.1.qh)&&ag ((e::es).f+([]:ab ϻ).f+(if([]:ab ϻ).qk then 0 else 1)<30))=b4)(j:(f8.ku==fb.line)=b4)(U:ð (e::es) X.M=⟨b3,eu e X.M⟩::ð es X.M)(c:(ĵ fb<|ð es X.M).any (·.1)=b3):
  PE X (.xz (.zk o fg f8) (e::es) [] fb) (λk H Q=>to k H λx u=>Cr X.K x u/\t k u λw y=>r x w y Q):=by
 intro d s k H Q I h;show SS i p j ?r<|aR (T d s k H _ I h) λv s1 (x,u,B,r1,ty,Y)=>?_;let(a,ps,?r,K,O):=ty;obtain rfl:v=Ñ a:=r1;let(lo,hl,w,ep,g,_):=tR B K O;show("dict",id,OW,q,A,g.ty,λb J=>?_,?_)
 .ext J;let(z,L,M,_):=g;show(z,L,M.2.1)
 let E:=N fb d s1 k u _ B Y;rw[U]at E ⊢;show ND (by change(b3||(ĵ fb<|ð es X.M).any (·.1))=b3;rw[c]<;>rfl)<|T5 ?_;show aR E λus s2 (w,y,G,r2,Z)=>R d s2 k y (.x a) w _ us Q G ?r r2 Z
open _root_ in
def VU(A:l9 K f r):∀σ H Q,tM K (fW f mo ms) σ H Q->tM K mo σ H λx g=>Cr K x g/\ŵ K ms σ g λvs h=>r x vs h Q:=by
 rintro σ H Q (L|y|J|d|i|R|E|a|k);show bJ a ?_;clear a;intro x b h1 a;dsimp at a;split at a
 .rename_i B;show bJ a ?_;clear a;intro w c z a;show(L,y,J,x,b,R,E,h1,λj I g s q v=>(VS q v B,j,y,b,w,c,q,E.zw s,z,λp vs h u R2 G=>?_));show A p h c x w d i I vs Q R2 (v.zw u) G a<|k.after<|s.u u
 .ext a
def Ct{id:cq}(c:Slot "dict" fg id)(d:NS (.zn id)=ej (.O "method_descriptor"))(j:mZ X id r)(h:l9 X.K f r)(p:QE X o mo)(g:QA X (e::es) ms n)(q:gW o=b4)(i:(f8.ku==fb.line)=b4)(k:(e::es).f<30):QE X (.xz (.zk o fg f8) (e::es) [] fb) (fW f mo ms):=by
 let b:=g.s;let a:=b;rw[İ,â]at a;show⟨eL (VT c d j p.h g.h (mB q) (G4 b k) i (fS a.1)<|l7 a.2)<|VU h⟩
def fD!:D->ab D->Hm->jk
 |.z a,[y,z],μ=>match μ[a]? with
  |bb (.dT ay)=>(d7 y).o λk=>⟨(bC ay k).I z,μ⟩|_=>b0
 |_,_,_=>b0
def Ih!(K:Ï):V->gz->Hp->VK->Prop:=λx vs H Q=>∃a b ps k z,x=.x a/\vs=[.x b,z]/\H a=a7 (aN a ps)/\eY K H ps/\à K H b (k.o V.p)/\Q ((gM ps k).I z) H
open _root_ in
def VV:l9 K fD (Ih K):=by
 intro y H E x B d w v A Q R n c a k;unfold fD at a;split at a
 .split at a
  .rename_i q hc;show cI a ?_;clear a;intro h h1 a;ext a;ext n;cases c with
   |bm o t=>
    cases t with
    |bm p t=>
     ext t;let(s,i,T):=jC R hc;let(b,?r,j):=pZ o h1;show(_,b,s,h,_,?r,?r,i,T.keys,j,k y _ H .ki R ?_);rcases T.val h with(e|g)|(v|z|e|g|u)
     .rw[e,g];show p
     .rw[e,g];show u
  .ext a
 .ext a
def VW(A:X.A.qv+1<ă):mZ X "dict.get" (Ih X.K):=by
 intro n s O H x M v L Q I G E h;let(a,b,g,k,z,?r,?r,e,p,o,q):=h;ext G;let(u,J,?r,B,i):=E.two;obtain rfl:u=Ñ b:=B;let(w,K,j,r,d):=lO I (.of e) p;show qg Tv d.ja ci.F.entry_dict_get (ci.F.args_dict_get_3 _ _ _) (meetsH_dict_get_default (Ϭ<|ŷ X.Y X.w) a b w J) (rO A,k,_,nI I o,d,?_);show((gM g k).I z,H,I.tok _,?_,q);have:=rN r k;cases h1:gM g k with
 |bp=>
  rw[h1]at ah;cases c:(ϗ (cP g j) k).o (·.2)with
  |bp=>show i|bb y=>rw[c]at ah;show ah.vl
 |bb N=>
  rw[h1]at ah;cases c:(ϗ (cP g j) k).o (·.2)with
  |bp=>rw[c]at ah;show ah.vl|bb y=>rw[c]at ah;show ah
section
variable{P:Ŧ}{w:ņ}{K:Type} [DecidableEq K] {knd:NV P w K}{A:ų}{E:Value->Ø->Prop}{s:Ø}{d a:Addr}{k:K}{xs:List (K×Addr×Value)}
def VX(H:hR.room A)(z:hR.is s.k k a)(M:s.k.DictOfH hR d xs)(hz:xs.f<=Ò)(h1:∀p,ϗ xs k=a7 p->Q p.2 {s with dL:=s.xh+hR.draws k})(L:ϗ xs k=b0->∀u,u.DictOfH hR d (Ϫ xs k a v)->ū d s.k u->Q v {s with ce:=u,dL:=s.xh+hR.draws k}):
  Ç (Ê P w) A (PV d (.x a) v) Q E s:=by
 let(o,N,J,g,hc,hd,q,h,B):=id M;ext PV;show Ņ<|Á<|hR.pyHash H z<|Á<|Sa (s:={s with dL:=s.xh+hR.draws k}) H z g hd q h B (λi=>?_) λj p G=>?_
 .let b:=S9 i;let n:k∉xs.o (·.1):=SY i;show Á<|Ϛ<|Á<|Sj (hz:=by let e:=OA q;lia) (s:={s with dL:=s.xh+hR.draws k}) g hd<|É<|L b _ (_,_,J+1,τ _ g<|N4<|qz hd _,hc.mapDictKeys _,qz hd _,?_,λx c=>?_,?_)<|ž ..
  .rw[pC b];simp[q,zg]
  .rw[pC b]at c;rcases Ĺ.Z c with c|c
   .show hR.keeps (h x c) g hd<|ž ..
   .rw[ġ]at c;subst c;show hR.keeps z g hd<|ž ..
  .rw[pC b,Ć,fB];show(B,∅,λx c y I e=>by
    dsimp[í,du,ġ]at I;subst I;show n<|e▸c)
 .show Á<|Υ (s:={s with dL:=s.xh+hR.draws k}) g hd ?_;rw[entry_at q j,G];show Á<|Ϛ<|É<|h1 _<|atKey_of_get B G
def VY(hR:NV P w K)d a(hd:(d==Ļ)=b3)v:yq P w (ez.«dict.setdefault» ([.x d,.x a,v],[])) (λA R s=>hR.room A.in1/\∃k xs,hR.is s.k k a/\s.k.DictOfH hR d xs/\xs.f<=Ò /\
   (∀p,ϗ xs k=a7 p->R (.ok<|.ret p.2) {s with dL:=s.xh+hR.draws k})/\(ϗ xs k=b0->∀b,b.DictOfH hR d (Ϫ xs k a v)->ū d s.k b->R (.ok<|.ret v) {s with ce:=b,dL:=s.xh+hR.draws k})):=
 .of_wp λA R s (o,k,xs,i,g,q,h1,h)=>by unfold ez.«dict.setdefault»;show Á ?_;ext b7N;show Á<|rE g.ja<|É ?_;change Ç _ _ (if(d==Ļ)=b4 then _ else(PV d (.x a) v >>= _)) _ _ s;rw[ac<|by rw[hd];show þ];show Á<|VX o i g q (λp n=>É (_,?r,h1 p n)) λj b c e=>É (v,?r,h j b c e)
end
def nM!:D->ab D->Hm->jk
 |.z a,[y,z],μ=>match μ[a]? with
  |bb (.dT ay)=>(d7 y).U λk=>match bC ay k with
   |bb d=>a7 ⟨d,μ⟩|bp=>if ay.f<Ò then a7 ⟨z,μ.xl a<|.dT<|cK ay k z⟩else b0
  |_=>b0
 |_,_,_=>b0
def Ii!(K:Ï):V->gz->Hp->VK->Prop:=λx vs H Q=>∃a b ps k z,x=.x a/\vs=[.x b,z]/\H a=a7 (aN a ps)/\eY K H ps/\à K H b (k.o V.p)/\((∃v,gM ps k=a7 v/\Q v H)\/(gM ps k=b0/\ps.f<Ò/\Q z (eo H a<|aN a<|fV ps k b z)))
open _root_ in
def VZ:l9 K nM (Ii K):=by
 intro u H N x M d G v L Q R A h a k;unfold nM at a;split at a
 .split at a
  .rename_i e hc;show cC a ?_;clear a;intro c h1 a;cases A with
   |lp g=>
    cases h with
    |bm B t=>
     cases t with
     |bm s t=>
      cases t;let(i,o,T):=jC R hc;let(b,?r,q):=pZ B h1;show(_,b,i,c,_,?r,?r,o,T.keys,q,?_);let z:i.f=e.f:=by have:=br ģ T.to.1;apply ah
      rcases T.val c with(j|n)|(v|I|j|n|E)
      .rw[n]at a;dsimp at a;split at a
       .rename_i J;ext a;let y:=T.put c q s;let(p,w):=R.put (c:=.dT (cK e c d)) (o:=aN _ (fV i c b _)) g o (.X<|.X (_,?r)) (_,?r,y.to);show .X (j,(),k u _ _ p w<|s.zw p)
       .ext a
      .rw[n]at a;ext a;show .Q (v,j,k u _ H .ki R E)
  .ext a
 .ext a
def V0(N:X.A.qv+1<ă):mZ X "dict.setdefault" (Ii X.K):=by
 intro y s σ H x vs v us Q I Y U h;let(a,b,o,k,z,?r,?r,e,J,E,q):=h;ext Y;let(u,Z,?r,T,g):=U.two;obtain rfl:u=Ñ b:=T;let(n,hl,ws,r,d):=lO I (.of e) J;let O:(cP o ws).f<=Ò:=by have:=br ģ<|oP r;rw[Ä,Ä]at ah;lia
 let c:=rN r k;show qg U3 d.ja ci.F.entry_dict_setdefault (ci.F.args_dict_setdefault_3 _ _ _) (VY (Ϭ<|ŷ X.Y X.w) a b n Z) (rO N,k,_,nI I E,d,O,λp L=>?_,λK B i j=>?_)
 .rw[L]at c;rcases q with(w|h1|q)|(h1|_)
  .rw[h1]at c;show(w,H,I.tok _,c,q)
  .rw[h1]at c;show c.vl
 .rw[K]at c;rcases q with(w|h1|q)|(h1|hz|q)
  .rw[h1]at c;show c.vl
  .let(ws',R,A):=zI r k b g;rw[A]at i;let G:∃q,B.G a=a7 q:=let(q,_,_,M,_):=i;(q,M);show(z,_,xY I (by rw[e];show ϛ) j G<|vU n (by have:=vT o k b z;lia) R i,g,q)
def Ij{bs:ab ar}(g:ø s.k d es ep)(o:es.zh.o (·.key)=bs.o Ñ)(I:∀b∈bs,s.TypeIs (.x b) "tuple")(nd:(es.zh.o (·.hash)).J)(q:Q es s):Ç (Ê P w) A (UH H d) Q E s:=by
 let(z,u,J,v):=id g;ext UH;show Á<|Υ u v<|Á ?_;rw[<- eh.forIn_toList];show Pd _ (λcN f c=>c=s/\∀e∈cN,e∈es.zh) _ (λe cN b c (h1,i)=>?_) (λb c (h1,_)=>?_) _ _ (?r,λe h=>h)
 .subst h1;let h:=i e<|ŗ ..;let B:e.key∈bs.o Ñ:=by rw[<- o];show Ü.v (e,h,?r)
  let(a,y,p):=Ü.Z B;let quiet:∀{Q:av->Ø->Prop},Q b3 c->Ç (Ê P w) A (UB e.key) Q E c:=λ{Q} q=>by rw[<- p];ext UB;show Á<|qu (I a y) ci.F.slot_tuple_eq.B<|É q
  show Á<|quiet ?_;let one:((es.H (·.hash==e.hash)).q>1)=ef:=by
   show eq_false λz=>?_;let K:1<(es.zh.H λx=>x.hash==e.hash).f:=by let k:(es.H (·.hash==e.hash)).zh=es.zh.H λx=>x.hash==e.hash:=eh.toList_filter ..;let n:=br ģ k;dsimp[fu]at n;lia
   let j:(es.zh.H λx=>x.hash==e.hash).f=(es.zh.o (·.hash)).count e.hash:=by rw[ab.count,ab.countP_map,<- ab.countP_eq_length_filter];rfl
   have:=ab.nodup_iff_count.Z nd e.hash;lia
  dsimp[dh,cy,one,cm];show É (?r,λx G=>i x<|ķ _ G)
 .subst h1;show É q
def Ik:∀(ps:bX)(ws:gw),ps.f=ws.f->(um u6 ps ws).o (·.hash)=ps.o λp=>Tb.hashT p.1
 |[],_,_=>∅
 |p::ps,[],h=>by ext h
 |p::ps,u::ws,h=>by rw[ϑ,í,í,Ik ps ws<|by apply h];rfl
def V1{es:eh eg}(c:bs≠[])(a:es.zh.o (·.key)=bs.o Ñ):(es.all λe=>(keyPart e.key).qh)=ai:=by
 rw[<- eh.all_toList];generalize es.zh=l at a;cases bs with
 |fk=>show cb ?r c|bm b bs=>
  cases l with
  |fk=>ext a|bm e l=>rw[í,í,N9]at a;rw[İ,a.1];rfl
def V2{es:eh eg}(a:bs≠[])(c:es.zh.o (·.key)=bs.o Ñ):es.qk=ai:=by let b:=br ģ c;dsimp[Ä,fu]at b;have:bs.f≠0:=λz=>a<|xg.Z z;rw[eh.qk];show ba ()
def Il!(K:Ï):gz->Hp->VK->Prop:=λxs H Q=>∃a ps,xs=[V.x a]/\H a=a7 (aN a ps)/\eY K H ps/\(ps.o λp=>Tb.hashT p.1).J/\∀l,H l=b0->Q (.x l) (eo H l<|aN l ps)
def V3:ß X (.O "dict") (Il X.K):=by
 intro Do s σ H xs us Q I r h;let(a,d,?r,ha,hk,nd,q):=h;let(u,?r,ru):=hJ r;ext ru;let hn:H s.k.y.q=bp:=I.vr.xo<|Ô _;obtain((n|U|lo|x|o|c|y|h1|w|E|L|h5)|_):=(show á X.Y X.w H s.k a (aN a d)from I.vr a _ ha);let(_,_,es',ep',g,G):=tR I ha hk;let(z,Y,g2,Z):=id g;rw[h1]at Y;ext Y;rw[E]at Z;ext Z;let T:c.q=d.f:=by have:=br ģ G;apply ah
 let O:(c.zh.o (·.hash)).J:=by
  have:c.zh.o (·.hash)=d.o λp=>Tb.hashT p.1:=by rw[L];show Ik d n<|by rw[<- U.f,Ä]
  rw[ah];show nd
 show PU (Q₁:=λA i=>A=.x s.k.y.q/\i={s with ce:=s.k.zl {cw:=.O "dict",bv:=.dict #[]}}) F.kt_called_dict (F.kt_typeCall_dict_1 _) F.entry_dict_init (Rq _ (?r,?r)) ?_;rintro A i (rfl|rfl);let v:({s with ce:=s.k.zl {cw:=.O "dict",bv:=.dict #[]}}:Ø).heap.get? s.k.y.q=a7 {cw:=.O "dict",bv:=.dict #[]}:=ÿ _ ?r;let ty:({s with ce:=s.k.zl {cw:=.O "dict",bv:=.dict #[]}}:Ø).TypeIs (.x s.k.y.q) "dict":=(_,v,?r);let ga:ø (s.k.zl {cw:=.O "dict",bv:=.dict #[]}) a c y:=g.stay λo e=>ä _ e;show(ty,F.args_dict_init_2 _ _,?_);unfold ez.«dict.__init__»;show Á ?_;ext Qz;show Á<|rE ty<|É ?_;change Ç _ _ (xj "dict.__init__" s.k.y.q (.x a) [] .qo) _ _ _;ext xj;show Á<|ul (T:="dict") (_,ä _ h1,w.1) ?_;rw[ac ⋯];show Á ?_;ext Tc UM;let B:({s with ce:=s.k.zl {cw:=.O "dict",bv:=.dict #[]}}:Ø).TypeIs (.x a) "dict":=(_,ä _ h1,w.1);show Á<|Á<|gf B SX ?_;dsimp[ϭ,Ī,cm];show Á<|qu B F.slot_dict_iter.B<|É ?_;dsimp[cp,cy];show Á<|É ?_;ext Qn;let M:(s.k.y.q==a)=ai:=cv.v<|ì<|ý<|Ý h1;rw[ac<|by rw[M];show þ];ext jy;rw[ac<|by rw[lo];show þ];let j:=ä {cw:=.O "dict",bv:=.dict #[]} h1;show Á<|É<|Á<|Υ j E ?_;let big:(s.k.y.q==Ļ)=ai:=cv.v<|ì<|ý I.big;by_cases k:d=[]
 .let z:c=#[]:=eh.eq_empty_of_size_eq_zero (by rw[T,k];rfl);subst z;let fe:(ag ((#[]:eh eg).q<=8)&&(#[]:eh eg).all λe=>(keyPart e.key).qh)=bt:=∅
  dsimp[fe,ϭ,Ī,cm];show Á<|g8 j E ?_;show Á<|Υ j E ?_;let fr:∀g:am->n5->ϩ (ForInStep n5),(ox [:(#[]:eh eg).q] ur g:ϩ n5)=ej ur:=λg=>∅
  rw[fr];show Á<|É<|É ?_;show Á<|É<|É ?_;show(?r,.x s.k.y.q,_,I.laid (t':=s.xh) (a:=s.k.y.q) (o:=aN s.k.y.q d) (λb u e=>ä _ e) (Ô _) ((n,U,big,x,_,#[],0,v,(?r,?r,?r),?r,L,h5),(_,v),?_),?r,q _ hn);rintro k1 k2 (n|r|R|x|o|c|y|h1|w) N;show(n,r,R,x,o,c,y,N o h1,w)
 let K:=V1 (bs:=d.o (·.2.1)) (λz=>k<|Oa.Z z) (by rw[G,æ];rfl);dsimp[K,Rg,dh,cy];show Á<|Υ v ?r ?_;dsimp[eh.isEmpty_empty,cy];let hes:c.q<=Ò:=()
 let J:=V2 (bs:=d.o (·.2.1)) (λz=>k<|Oa.Z z) (by rw[G,æ];rfl);show Á<|Ij (bs:=d.o (·.2.1)) ga (by rw[G,æ];rfl) (λb hb=>?_) O ?_
 .let(p,hp,?r):=Ü.Z hb;obtain(b5|rx|(ot|e1|e2|_)|_):=I.kl<|hk p hp;show(ot,ä _ e1,e2)
 dsimp[J,dh,cy];show Á (T9 v ?r (É ?_) ());let gN:=τ (hH.mapDictKeys λ_=>c) v<|N4<|qz (o:={cw:=.O "dict",bv:=.dict #[]}) ?r _;show Á<|É<|É ?_;show(?r,.x s.k.y.q,_,I.laid (t':=s.xh) (a:=s.k.y.q) (o:=aN s.k.y.q d) (λb u e=>?_) (Ô _) ((n,U,big,x,_,c,1,gN,?_,?r,L,h5),(_,gN),?_),?r,q _ hn)
 .rw[J4 _ _<|ì<|ý<|Ý e];show ä _ e
 .show b7b (?r,?r,?r) _
 .rintro k1 k2 (n|r|R|x|o|c|y|h1|w) N;show(n,r,R,x,o,c,y,N o h1,w)
noncomputable abbrev Cu(n:am):Prop:=n<64
def V4{σ:St}(I:Â X Do σ H s)(k:∀b u,s.k.G b=a7 u->h'.G b=a7 u)(kB:∀b,b<s.k.y.q->H' b=H b)(new:∀b o,s.k.y.q<=b->H' b=a7 o->á X.Y X.w H' h' b o):
  Â X Do σ H' {s with ce:=h',dL:=t'}:=by
 let lt:∀b u,H b=a7 u->b<s.k.y.q:=λb u e=>am.lt_of_not_le λz=>by rw[I.vr.xo z]at e;ext e
 let a:∀b u,H b=a7 u->H' b=a7 u:=λb u e=>by rw[kB b<|lt b u e];show e
 show I.un (λb u q x x x=>k b u q,λb u q x x x=>(u.slots,k b u q),λb u q n x=>by rw[kB b<|Ý q];show n,λb u q x=>(u,k b u q),λb g q=>a b _ q,λb u g q=>a b _ q,λb h q=>(#[],by rw[a b _ q];simp)) λb u e=>?_;by_cases d:b<s.k.y.q
 .rw[kB b d]at e;show(I.vr b u e).stay (λc v x q=>k c v q) (λc q=>a c _ q) λc g q=>a c _ q
 .show new b u (Se d) e
def iX!(H:Hp):ab ar->bX->Hp
 |a::as,p::ps=>iX (eo H a<|.L [.x p.2.1,p.2.2]) as ps|_,_=>H
def rS:∀{as}{ps}{H}{b},b∉as->iX H as ps b=H b
 |[],_,_,_,_=>by simp[iX]
 |a::as,[],_,_,_=>?r|a::as,p::ps,H,b,h=>by rw[ē,oi]at h;change iX (eo H a _) as ps b=H b;rw[rS h.2,bV h.1]
def zQ:∀{as:ab ar}{ps:bX}{H:Hp}{i:am}{a:ar}{p:ab ae×ar×V},as.J->as[i]?=a7 a->ps[i]?=a7 p->iX H as ps a=a7 (.L [.x p.2.1,p.2.2])
 |[],_,_,_,_,_,_,h,_=>by simp at h
 |_::_,[],_,_,_,_,_,_,h=>by simp at h
 |x::as,y::ps,H,0,a,p,nd,h1,h2=>by
  obtain rfl:x=a:=by apply h1
  obtain rfl:y=p:=by apply h2
  rw[ŧ]at nd;change iX (eo H x _) as ps x=_;rw[rS nd.1,dH]
 |x::as,y::ps,H,i+1,a,p,nd,h1,h2=>by rw[ŧ]at nd;show zQ (as:=as) (ps:=ps) (i:=i) nd.2 (by apply h1)<|by apply h2
def jY!(ps:bX):ab am:=dN (λi j=>HT.xw ((ps.o (·.1)).I i [])<|(ps.o (·.1)).I j []) ps.f
def iK!(as:ab ar)(ps:bX):gz:=(jY ps).o λi=>V.x<|as.I i 0
def V5{σ:St}(hc:X.vn=b4)(hun:X.A.qv+64<ă)(I:Â X Do σ H s){ps:bX}(e:H d=a7 (aN d ps))(hk:eY X.K H ps)(K:Cu ps.f)(hv:s.k.IsItemsView r d)(k:∀as L l,as.f=ps.f->(l::L::as).J->(∀a∈l::L::as,H a=b0)->Q (.x l) (eo (eo (iX H as ps) L<|.D<|iK as ps) l<|.L<|iK as ps)):
  Ç (Ê X.Y X.w) X.A (ia (.zn "sorted") [.x r]) (λv s'=>Ç (Ê X.Y X.w) X.A (ia (.O "tuple") [v]) (EP X Do σ Q) X.xe s') X.xe s:=by
 let(lo,hl,Z,rv,z,es,ep,z1,z2,z3,z4,z5,z6):=lO I (.of e) hk;let hwl:Z.f=ps.f:=by have:=rv.f;rw[Ä]at ah;show ah.R
 let hxl:(cP ps Z).f=ps.f:=by ext cP;rw[ab.length_zipWith,hwl,PH]
 let y:es.q=ps.f:=by rw[<- fu,z4,Ä,hxl]
 let nd:(ps.o (·.1)).J:=by rw[oP rv]at z6;show z6
 let kD:∀(j:am)(q:eg),es[j]?=a7 q->∃p u,ps[j]?=a7 p/\Z[j]?=a7 u/\q.key=.x p.2.1/\q.val=u:=λj q h=>by
  rw[<- UV,z4,ĉ]at h;let(x,h1,?r):=Ľ.Z h;unfold cP at h1;rw[T6]at h1;cases A:ps[j]? with
  |bp=>rw[A]at h1;simp at h1|bb p=>
   cases hw:Z[j]? with
   |bp=>rw[A,hw]at h1;simp at h1|bb u=>
    rw[A,hw]at h1;have:⟨p.1,p.2.1,u⟩=x:=by apply h1
    subst ah;show(p,u,?r,?r,?r,?r)
 let K:ps.f<64:=K;show VI (an:=λi j=>HT.xw ((ps.o (·.1)).I i [])<|(ps.o (·.1)).I j []) (I.ok.hd hc) hv (z,z1,z2,z3) () (λh22 U J as kp T G=>?_) λU J as L q kp T G hL nL gL=>?_
 .let I3:Â X Do σ H {s with ce:=U,dL:=J}:=I.vx (t':=J) kp;show VH (A:=X.A.in1.in1) (s:={s with ce:=U,dL:=J}) (bs:=ps.o (·.2.1)) (ks:=ps.o (·.1)) (by change X.A.qv+1+1<ă;lia) G () T (by rw[Ä,y]) (by rw[Ä,y]) (λj q w=>?_) nd;let(p,u,E,p2,p3,p4):=kD j q w;let n:j<ps.f:=(ã.Z E).1;let g:(ps.o (·.2.1)).I j 0=p.2.1:=by simp[į,E]
  let ek:(ps.o (·.1)).I j []=p.1:=by simp[į,E]
  rw[g,ek];let sq:=hk p<|œ E;show(p3,nI I3 sq,?_);let(xs,rx,t,_):=I3.kl sq;show(xs,t,L0I rx)
 .rw[y]at gL T;let B:as.J:=G.up.imp λh=>ý h;let hin:∀i∈jY ps,i<ps.f:=λi hi=>ŏ.Z<|(mD _ _).mem_iff.mp hi;let R:(jY ps).f=ps.f:=by have:=(mD (λi j=>HT.xw ((ps.o (·.1)).I i [])<|(ps.o (·.1)).I j []) ps.f).length_eq;rw[ql]at ah;show ah
  let nLa:L∉as:=λh=>nL L h ?r;let I1:Â X Do σ (eo (iX H as ps) L<|.D<|iK as ps) {s with ce:=U,dL:=J}:=by
   show V4 (t':=J) I kp (λb Y=>?_) λb o Y g=>?_
   .rw[bV<|ý<|Ŏ Y hL,rS λh=>am.lt_asymm Y<|G.over b h]
   .by_cases N:b=L
    .subst N;rw[dH]at g;ext g;show(by ext iK;rw[Ä,R];show hl,(jY ps).o λi=>Ñ<|as.I i 0,q,?_,gL);ext iK;show Co λi f=>rfl
    .rw[bV N]at g;by_cases O:b∈as
     .let(j,w):=NI.Z O;let n:j<ps.f:=by have:=(ã.Z w).1;lia
      have A:ps[j]?=a7 ps[j]:=Ċ n;rw[zQ B w A]at g;ext g;let(x,x1,x2):=G.prs j _ w;let(p,u,E,p2,p3,p4):=kD j x x1;rw[A]at E;ext E;let(u',g1,g2):=rv.get (i:=j) (x:=ps[j].2.2) (by rw[ĉ,A];rfl);rw[p2]at g1;ext g1;rw[p3,p4]at x2;show(by change(2:am)<=Ò;decide,[.x ps[j].2.1,u],.zv ?r<|.zv g2 .kk,_,x2,?r,0,?r,?r)
     .rw[rS O,I.vr.xo Y]at g;ext g
  show FK Do _ σ _ [.x L] [.x L] Q I1 (.zv ?r .kk) (L,iK as ps,?r,.Q (.Q<|.Q dH,λl c=>?_));let lL:l≠L:=λh=>by rw[h,dH]at c;ext c
  rw[bV lL]at c;let la:l∉as:=λh=>by
   let(j,w):=NI.Z h;let n:j<ps.f:=by have:=(ã.Z w).1;lia
   rw[zQ B w<|Ċ n]at c;ext c
  rw[rS la]at c;show k as L l T ?_ λa M=>?_
  .rw[ŧ,ŧ];show(λh=>(ē.Z h).vl lL la,nLa,B)
  .rcases ē.Z M with rfl|M
   .show c
   rcases ē.Z M with rfl|M
   .show I.vr.xo hL
   .show I.vr.xo<|dq<|G.over a M
def Cv!(k:ab ae×D):D:=.L [.L<|k.1.o D.p,k.2]
def Im!:D->Hm->jk
 |.z a,μ=>match μ[a]? with
  |bb (.dT ay)=>if Cu ay.f then a7 ⟨.L<|(tU ay).o Cv,μ⟩else b0|_=>b0
 |_,_=>b0
def Cw!(m:ME):ME:=λa μ=>(m a μ).U λr=>Im r.1 r.2
def Io!(K:Ï):V->Hp->VK->Prop:=λx H Q=>∃a ps,x=.x a/\H a=a7 (aN a ps)/\eY K H ps/\Cu ps.f /\
 ∀(as:ab ar)(L l:ar),as.f=ps.f->(l::L::as).J->(∀a∈l::L::as,H a=b0)->Q (.x l) (eo (eo (iX H as ps) L<|.D<|iK as ps) l<|.L<|iK as ps)
def V6(hc:X.vn=b4)(B:X.A.qv+64<ă)(y:X.mg "sorted"=b0)(A:X.mg "tuple"=b0)(u:Gl X "sorted")(w:Gl X "tuple")(U:PE X o to)(c:jj o "items" X.M (eu o X.M)=eu o X.M)(d:(f8.ku==fb.line)=b4):
  PE X (.xz (.xk "tuple" p) [.xz (.xk "sorted" p2) [.xz (.zk o "items" f8) [] [] fb] [] pos2] [] ca) (λj H Q=>to j H λx k=>Io X.K x k Q):=by
 intro i s j H Q I h;show az<|i9 I w A Qw ?_;show gj ?_ ?r ?r;show ON ?_;show az<|i9 I u y Qx ?_;show UJ ?_ ?r ?r;show ON ?_;show QU c d<|aR (U i s j H _ I h) λv E (x,k,G,r1,a,ps,O,e,J,n,q)=>?_;subst O;obtain rfl:v=Ñ a:=r1;let(Z,hl,N,M,g,he):=tR G e J;show("dict","dict.items",OW,OX,Th,g.ty,λb L=>?_,ND ?r<|QL ?_)
 .ext L;let(z,R,T,_):=g;show(z,R,T.2.1)
 show qg OX g.ty U8 (UD _) (HY a Z) ((N,M,g),?_);show OI ?_;let K:Â X i j k {E with ce:=E.k.zl {cw:=.O "dict_items",bv:=.xi #[.x a]}}:=G.vx (t':=E.xh) λb o e=>ä _ e;show aR (V5 hc B K e J n (_,ÿ _ ?r,?r,?r) q) λv s' Y=>OI Y
def Ip:∀{as}{ps}{H},Rp K π H μ->as.J->(∀a∈as,H a=b0)->ö π μ.f H π μ.f (iX H as ps)/\Rp K π (iX H as ps) μ
 |[],_,H,R,_,_=>by dsimp[iX];show(.ki,R)
 |a::as,[],H,R,_,_=>(.ki,R)|a::as,p::ps,H,R,nd,hf=>by
  rw[ŧ]at nd;let(e,d):=R.xo (o:=.L [.x p.2.1,p.2.2])<|hf a<|ŗ ..;let(g,R2):=Ip (as:=as) (ps:=ps) d nd.2 λb c=>by rw[bV λw:b=a=>nd.1<|w▸c];show hf b<|ķ _ c
  show(e.u g,R2)
open _root_ in
def V7:∀σ H Q,tM K (Cw O) σ H Q->tM K O σ H λx n=>Io K x n Q:=by
 rintro σ H Q (π|ρ|μ|d|o|R|E|g|k);show bJ g ?_;clear g;intro x z h1 g;show(π,ρ,μ,x,z,R,E,h1,λh v1 n e1 A i1=>?_);let k1:=k.after e1;dsimp at g;unfold Im at g;split at g
 .split at g
  .rename_i b hc;split at g
   .rename_i hb;ext g;ext i1;let(c,e2,T):=jC A hc;let N:c.f=b.f:=by have:=br ģ T.to.1;apply ah
    show(_,c,?r,e2,T.keys,by rw[N];show hb,λe L l al nd u=>?_);rw[ŧ,ŧ]at nd;let(B,X):=Ip (ps:=c) A nd.2.2 λa ha=>u a<|ķ _<|ķ _ ha;let hL:iX n e c L=bp:=by rw[rS nd.2.1];show u L<|ķ _<|ŗ ..
    let(G,Y):=X.xo (o:=.D (iK e c)) hL;let hl:eo (iX n e c) L (.D<|iK e c) l=bp:=by rw[bV λw:l=L=>nd.1<|by rw[w];show ŗ ..,rS λw=>nd.1<|ķ _ w];show u l<|ŗ ..
    let(I,Z):=Y.xo (o:=.L (iK e c)) hl;show k1 h _ _ ((B.u G).u I) Z<|.L (.of dH) ?_;let y:c.o (·.1)=b.o (·.1):=T.to.1;let io:∀p:ab am,(∀i∈p,i<b.f)->È K h o.f (eo (eo (iX n e c) L<|.D<|iK e c) l<|.L<|iK e c) (p.o λi=>V.x<|e.I i 0) (p.o<|Cv∘λi=>b.I i ⟨[],.kf⟩):=λp s=>by
     induction p with
     |fk=>show .kk|bm i p ih=>
      have hi:=s i<|ŗ ..;let q:e[i]?=a7 (e.I i 0):=by simp[į,show i<e.f by lia]
      have v:c[i]?=a7 c[i]:=Ċ ();let hik:b[i]?=a7 b[i]:=Ċ hi;let J:b.I i ⟨[],.kf⟩=b[i]:=by simp[į,hi]
      have ep:c.I i ⟨[],0,.kf⟩=c[i]:=by simp[į,show i<c.f by lia]
      have U:=HZ T ⟨[],0,.kf⟩ ⟨[],.kf⟩ i ();rw[ep,J]at U;let(q1,q2,q3):=U;show .zv ?_<|ih λj hj=>s j<|ķ _ hj;let kD:eo (eo (iX n e c) L<|.D<|iK e c) l (.L<|iK e c) (e.I i 0)=a7 (.L [.x c[i].2.1,c[i].2.2]):=by let g:=œ q;rw[bV λw:e.I i 0=l=>nd.1<|by rw[<- w];show ķ _ g,bV λw:e.I i 0=L=>nd.2.1<|by rw[<- w];show g];show zQ nd.2.2 q v
      change Ù K h o.f _ (.x<|e.I i 0) (Cv<|b.I i ⟨[],.kf⟩);rw[J];let M:=(B.u G).u I;let ik:Ù K h o.f n (.x c[i].2.1) (.L<|b[i].1.o D.p):=by rw[<- q1];show .L q2<|B6 _
      show .L (.of kD)<|.zv (ik.zw M)<|.zv (q3.zw M) .kk
    let ey:iK e c=(dN (λi j=>HT.xw ((b.o (·.1)).I i [])<|(b.o (·.1)).I j []) b.f).o λi=>V.x (e.I i 0):=by ext iK jY;rw[y,N]
    let dr:=io (dN (λi j=>HT.xw ((b.o (·.1)).I i [])<|(b.o (·.1)).I j []) b.f) λi hi=>ŏ.Z<|(mD _ _).mem_iff.mp hi;rw[<- ey]at dr;ext tU;rw[æ];show dr
   .ext g
  .ext g
 .ext g
def V8(hc:X.vn=b4)(i:X.A.qv+64<ă)(g:X.mg "sorted"=b0)(h:X.mg "tuple"=b0)(d:Gl X "sorted")(e:Gl X "tuple")(n:QE X o j)(q:gW o=b4)(k:(a.ku==b.line)=b4):
  QE X (.xz (.xk "tuple" p) [.xz (.xk "sorted" s) [.xz (.zk o "items" a) [] [] b] [] c] [] ca) (Cw j):=
 ⟨eL (V6 hc i g h d e n.h (mB q) k) V7⟩
def V9 d(hd:(d==Ļ)=b3):yq P w (ez.«dict.values» ([.x d],[])) (λ_ R s=>(∃es ep,ø s.k d es ep) /\
   R (.ok<|.ret<|.x s.k.y.q) {s with ce:=s.k.zl {cw:=.O "dict_values",bv:=.xi #[.x d]}}):=
 .of_wp λA R s ((es,ep,g),h)=>by change Ç _ _ (Qt "values" _ >>= _) _ _ s;show Á ?_;ext Qt;show Á<|rE g.ty ?_;change Ç _ _ (ej d) _ _ s;show É ?_;change Ç _ _ (jy d >>= _) _ _ s;ext jy;rw[ac<|by rw[hd];show þ];show Á<|É ?_;show Á<|Η<|É (_,?r,h)
def Wa(c:s.k.IsValuesView v d)(g:ø s.k d es ep)(q:Q (.x s.k.y.q) {s with ce:=s.k.zl {cw:=.O "dict_valueiterator",bv:=.xi #[.x d,.p 0 0,.p es.q 0,.p ep 0]}}):Ç (Ê P w) A (aj<|.x v) Q E s:=by
 let(n,b,j,a):=id c;let(z,e,k,h):=id g;show Q5 c.ja F.slot_dict_values_iter<|Ÿ F.slot_dict_values_iter c.ja F.entry_dict_values_iter ?_<|F.args_dict_values_iter_1 _;unfold ez.«dict_values.__iter__»;show Á<|É<|Á ?_;ext UK;show Á<|ť b a (x:=.x d) ?r<|É<|Á ?_;ext US;show Á<|Υ e h<|Á<|g8 e h ?_;dsimp[show NL "dict_valueiterator"=b3 by decide,Ī,cm];show Η<|É (_,?r,"dict_valueiterator",_,(_,ÿ _ ?r,?r),F.slot_dict_valueiterator_next.B,?_);simpa[Ł]using q
def Iq(v:A.xt=b0)(j:s.k.IsValIter it d i es.q ep)(g:ø s.k d es ep)(G:∀e a,es[i]?=a7 e->a.IsValIter it d (i+1) es.q ep->ū it s.k a->Q (a7 e.val) {s with ce:=a})(H:es[i]?=b0->∀a,ϰ it s.k a->Q b0 {s with ce:=a}):Ç (Ê P w) A (Ō<|.x it) Q E s:=by
 let(y,h,B,b):=id j;let(z,n,I,o):=id g;let k:∀{Q:cq->Ø->Prop}{A:ų}{E:ax->Ø->Prop},Q "dict_valueiterator" s->Ç (Ê P w) A (Pp<|.x it) Q E s:=λq=>wpAny_typeNameOfWhole_valiter j.ja q;ext Ō;show Á<|uo<|kh (fg:=ŝ "__next__") j.ja F.slot_dict_valueiterator_next<|Ÿ F.slot_dict_valueiterator_next j.ja F.entry_dict_valueiterator_next ?_<|F.args_dict_valueiterator_next_1 _;show Á<|É<|Á<|Á<|Á<|k<|É<|Á<|PX h b ?_;dsimp[show NL "dict_valueiterator"=b3 by decide,Ī,cm];change Ç _ _ (if(Ñ d==ļ)=b4 then _ else _) _ _ _;rw[ac<|show ¬ (Ñ d==ļ)=b4 from λx=>þ x];show Á<|É<|Á<|Υ n o ?_;rw[ac λx=>by simp at x];show Á<|É<|Á<|g8 n o ?_;rw[ac λx=>by simp at x];show É ?_;dsimp[ac<|show ¬ ((i:ae)<0) by lia,kj];cases p:es[i]? with
 |bb e=>
  show Á<|Á<|k<|É<|Á<|QH j.ja ?_;change Ç _ _ (iz (.x it) 1 (Ł<|(i:ae)+1) >>= _) _ _ _;show Á (q9 h b ∅ ?_);let c:(s.k.vi it<|OF (·.setIfInBounds 1<|Ł<|(i:ae)+1)).IsValIter it d (i+1) es.q ep:=
   (_,τ _ h<|QP<|wz b _,(Q1 ..).u B,by simp[wz b,Ł])
  generalize hu:s.k.vi it (OF (·.setIfInBounds 1<|Ł<|(i:ae)+1))=u at c;show Á<|Ņ<|Á<|QH (s:={s with ce:=u}) c.ja<|Á<|QH (s:={s with ce:=u}) c.ja ?_;change Ç _ _ (ej e.val) _ _ _;show É<|É (_,?r,É<|G e u p c<|hu▸ž ..)
 |bp=>show Á<|Á<|k<|É ?_;change Ç _ _ (iz (.x it) 0 .qo >>= _) _ _ _;show Á (q9 h b ∅ ?_);change Ç _ _ (iw (.O "StopIteration") [] >>= _) _ _ _;dsimp[iw,ug];show Á (Á<|Η ?_<|by size_fits);show Á (m:=jn _ _) (pD (a:=ļ) (by first|rfl|(dsimp[jn];rfl))<|Η ?_<|by size_fits);dsimp[NX];show Á<|O5 ?_;rw[show A.in1.xt=b0 from v];show Á<|É<|O0 ?mw;case mw=>show Á<|gf (T:="StopIteration") (b:=b4) (_,ÿ _ ?r,?r) CR<|É<|H p _<|((ž ..).extBut.push _).zl _
def Cy!(d:ar)(ob:hH)(ps:bX):It:=(λi H=>H d=a7 (.frz ob<|aN d ps)/\i<ps.f,λi H x a=>a=H/\∃p,ps[i]?=a7 p/\x=p.2.2,λi H=>H d=a7 (.frz ob<|aN d ps)/\ps.f<=i)
def Wb(hd:ob.data=.dict es ep):ı Qc P w K tg (Cy d ob ps) [q] q (λi h=>h.IsValIter q d i es.q ep) where
 mem:=∅
 obj:=λi h st b j=>by
  let e:b=q:=by apply j
  subst e;let(o,e,c,d):=st;show(o,e,λv z=>by rw[d]at z;ext z)
 fv:=λi h y st k=>let(o,e,c):=st;(o,k q ∅ o e,c);lm:=by
  intro X U hw T hc i x s σ H E I G st Y;subst U hw T;let(p,A):=Y;let(lo,hl,L,J,g,a,B):=v9 I p;rw[hd]at a;ext a;let hs:es.q=ps.f:=by have:=B.f;rw[Ä,Ä,fu]at ah;show ah.R
  let(M,N,f2,O,Q,R):=G q ∅;show Iq (I.ok.hd hc) st g (λe y n j' sb=>?_) λhn=>by simp at hn;lia
  let I1:Â X x σ H {s with ce:=y}:=I.turned (t':=s.xh) (λb o j e=>(sb.2 b j).u e) M N O Q R;let(o,e1,c,d1):=id j';let Z:ps[i]?=a7 ps[i]:=Ċ A;let(u,u1,u2):=B.get (i:=i) (x:=ps[i].2.2) (by rw[ĉ,Z];rfl);rw[ĉ,UV,n]at u1;ext u1;show(e.val,?r,qT (s:={s with ce:=y}) e1 c d1 ⋯ (ps[i].2.2,H,I1,u2,(?r,ps[i],Z,?r),j',λb j=>(G b j).1))
 k4:=by
  intro X U hw T hc i x s σ H E I G st Y;subst U hw T;let(p,A):=Y;let(lo,hl,L,J,g,a,B):=v9 I p;rw[hd]at a;ext a;let hs:es.q=ps.f:=by have:=B.f;rw[Ä,Ä,fu]at ah;show ah.R
  let(M,N,f2,O,Q,R):=G q ∅;show Iq (I.ok.hd hc) st g (λe y n=>by
   have:=(Qo.Z n).1;lia) λ_ y eb=>(?r,I.turned (t':=s.xh) (λb o j e=>eb b o j e) M N O Q R)
 lh:=λ_ f f f f st h=>wpAny_pyIter_valiter st h
def Wc(J:PE X l K)(j:jj l "values" X.M (eu l X.M)=eu l X.M)(k:(a.ku==c.line)=b4):
  PI X tg (.xz (.zk l "values" a) [] [] c) (λu H R=>K u H λv n=>∃d ob B,v=.x d/\n d=a7 (.frz ob<|aN d B)/\R (Cy d ob B) n):=by
 intro i s u H R I h;show QU j k<|aR (J i s u H _ I h) λv p (y,n,E,r1,q1)=>?_;let(d,ob,B,e,G,q):=q1;subst e;obtain rfl:v=Ñ d:=r1;let(lo,J,O,M,g,hd,he):=v9 E G;show("dict","dict.values",OW,UA,ci.F.type_dict_values,g.ty,λb L=>?_,ND ?r<|QL ?_)
 .ext L;let(z,T,x,_):=g;show(z,T,x.2.1)
 show qg UA g.ty ci.F.entry_dict_values (ci.F.args_dict_values_1 _) (V9 d lo) ((O,M,g),?_);let w:Â X i u n {p with ce:=p.k.zl {cw:=.O "dict_values",bv:=.xi #[.x d]}}:=E.vx (t':=p.xh) λb o e=>ä _ e;let(lo2,Z,Q,N,x,A,Y):=v9 w G;change Ç (Ê X.Y X.w) X.A (aj<|.x p.k.y.q) (Bb X i u tg R) X.xe _;show Wa (_,ÿ _ ?r,?r,?r) x (_,[_],_,_,n,?r,w.vx (t':=p.xh) λb o e=>ä _ e,Wb A,(_,ÿ _ ?r,?r,?r),λb U=>?_,q);let e:=ġ.Z U;subst e;show w.fpOk (Ô _)<|w.vr.xo<|Ô _
def mI!(ay:jx):ab D:=ay.o (·.2)
def We{ps:bX}(c:H d=a7 (.frz ob<|aN d ps))(T:ñ K π n H ps ay):Wk K (Cy d ob ps) (eM<|.L<|mI ay) π n H:=by
 let w:ps.f=ay.f:=by have:=br ģ T.to.1;apply ah
 show(λb s g i e R z=>?_,λb s g i h e R z=>?_)
 .let a:(mI ay)[i]?=bp:=Ĕ z;have:=Κ.Z a;rw[mI,Ä]at ah;show(e.frz _ _ _ c,())
 .let a:(mI ay)[i]?=a7 h:=Ĕ z;let hi:i<ay.f:=by have:=(ã.Z a).1;rwa [mI,Ä]at ah
  show((e.frz _ _ _ c,()),λv u (j,p,k,o)=>?_);subst j o;let(x,h1,q):=(T.to.2.2.zw e).get a;rw[ĉ,k]at h1;ext h1;show(.ki,R,q)
def tW!(m:ME):MI:=λb μ=>(m b μ).U λp=>match p.1 with
 |.z a=>match p.2[a]? with
  |bb (.dF ay)=>a7 ⟨eM<|.L<|mI ay,ay.f+1,p.2⟩|_=>b0
 |_=>b0
open _root_ in
def Wg(h:QE X e m)(u:gW e=b4)(q:(b.ku==c.line)=b4):QJ X (.xz (.zk e "values" b) [] [] c) (tW m):=⟨λtg Do s σ H R I hw=>by
 let(J,K,A,z,n,B,o,E,a,k):=hw;show bJ a ?_;clear a;intro x G h1 a;dsimp at a;split at a
 .split at a
  .rename_i w hc;ext a;show Wc h.h (mB u) q Do s σ H R I (J,K,A,_,_,o,E,h1,λd L j p g v=>?_);ext v;let(ob,y,i,T):=tQ g hc;show(_,ob,y,?r,i,k d j _ p g<|We i T)
  .ext a
 .ext a⟩
def Wh{dk}(a:s.k.IsTupleIter b t i)(j:s.k.ko t dk)(k:dk[i]?=a7 x)(h:∀d,d.IsTupleIter b t (i+1)->ū b s.k d->Q x {s with ce:=d}):Ç (Ê dv w) A (bf<|.x b) Q E s:=by
 let(o,c,hc,hd):=id a;let(n,g,_,nl,e):=j;ext bf;show Á<|kh (fg:=ŝ "__next__") a.ja F.vj<|Ÿ F.vj a.ja F.entry_tuple_iterator_next ?_<|F.args_tuple_iterator_next_1 _;change Ç _ _ (Y0 (.x b) 0 >>= _) _ _ s;show Á<|ť c hd (x:=.x t) ?r ?_;change Ç _ _ (if(Ñ t==ļ)=b4 then _ else _) _ _ s;rw[ac<|show ¬ ((Ñ t==ļ)=b4)from þ];change Ç _ _ (Y0 (.x b) 1 >>= _) _ _ s;show Á<|ť c hd (x:=.p i 0) ?r ?_;change Ç _ _ (jd (.x t) >>= _) _ _ s;show Á<|ϝ g e ?_;dsimp[kj,k];show Á (q9 c hd ∅<|É (x,?r,É<|h _ ?_<|ž ..));show(_,τ _ c<|QP<|wz hd _,(Q1 ..).u hc,by rw[wz hd];simp[Ł])
def Wi{dk}(j:A.xt=b0)(a:s.k.IsTupleIter b t i)(n:s.k.ko t dk)(p:dk[i]?=b0)(k:∀c e,ϰ b s.k c->(∃o,c.G e=a7 o/\o.cls=.O "StopIteration")->E (.x e) {s with ce:=c}):Ç (Ê dv w) A (bf<|.x b) Q E s:=by
 let(o,g,hc,hd):=id a;let(q,h,_,nl,d):=n;ext bf;show Á<|kh (fg:=ŝ "__next__") a.ja F.vj<|Ÿ F.vj a.ja F.entry_tuple_iterator_next ?_<|F.args_tuple_iterator_next_1 _;change Ç _ _ (Y0 (.x b) 0 >>= _) _ _ s;show Á<|ť g hd (x:=.x t) ?r ?_;change Ç _ _ (if(Ñ t==ļ)=b4 then _ else _) _ _ s;rw[ac<|show ¬ ((Ñ t==ļ)=b4)from þ];change Ç _ _ (Y0 (.x b) 1 >>= _) _ _ s;show Á<|ť g hd (x:=.p i 0) ?r ?_;change Ç _ _ (jd (.x t) >>= _) _ _ s;show Á<|ϝ h d ?_;dsimp[kj,p];show Á (Ϛ<|Á<|q9 g hd ∅ ?_);change Ç _ _ (iw (.O "StopIteration") [] >>= _) _ _ _;show Á ?_;dsimp[iw,ug];show Á (Η ?_<|by size_fits);show Á (m:=jn _ _) (pD (a:=ļ) (by first|rfl|(dsimp[jn];rfl)) ?_);show Η ?_ (by size_fits);dsimp[NX];show Á<|O5 ?_;first|rw[show A.in1.xt=b0 from j]|rw[j]
 show Á<|É<|O0<|k _ _ (((ž ..).extBut.push _).zl _) (_,ÿ _ ?r,?r)
def ŉ!(b:av)(h:ê)(l:ar)(xs:eh ax):Prop:=if b=b4 then h.ko l xs else h.IsList l xs
def ú!(b:av)(h:ê)(i l:ar)(k:am):Prop:=if b=b4 then h.IsTupleIter i l k else h.IsListIter i l k
def ŉ.ext(p:ŉ b h l xs)(e:ϰ c h h')(n:l≠c):ŉ b h' l xs:=by
 ext b
 .show b8d p e n
 .show b7J p e n
def ú.ext(p:ú b h i l k)(e:ϰ c h h')(n:i≠c):ú b h' i l k:=by
 ext b
 .show b6y p e n
 .show b6h p e n
def ú.at_(p:ú b h i l k)(e:∀o,h.G i=a7 o->h'.G i=a7 o):ú b h' i l k:=by
 ext b
 .show b6z p e
 .show b6i p e
def ú.ob(p:ú b h i l k):∃o,h.G i=a7 o/\∃f,o.data=.xi f:=by ext b<;>show let(o,e,_,d):=p;(o,e,_,d)
def Ir(a:ú b s.k c t i)(g:ŉ b s.k t dk)(h:dk[i]?=a7 x)(e:∀d,ú b d c t (i+1)->ū c s.k d->Q x {s with ce:=d}):Ç (Ê dv w) A (bf<|.x c) Q E s:=by
 ext b
 .show wpAny_nextOf_list_item a g h e
 .show Wh a g h e
def Iu(h:A.xt=b0)(a:ú b s.k d t i)(j:ŉ b s.k t dk)(k:dk[i]?=b0)(g:∀c e,ϰ d s.k c->(∃o,c.G e=a7 o/\o.cls=.O "StopIteration")->E (.x e) {s with ce:=c}):Ç (Ê dv w) A (bf<|.x d) Q E s:=by
 ext b
 .show wpAny_nextOf_list_end h a j k g
 .show Wi h a j k g
def γ!(t:av)(K:Ï)(H:Hp)(a:ar)(xs:gz):Prop:=if t=b4 then à K H a xs else Ā K H a xs
def γ.its{σ:_2.St}(I:Â X Do σ H s)(h:γ t X.K H a xs):∃b5,Æ xs b5/\ŉ t s.k a b5.E/\a<s.k.y.q:=by
 ext t
 .let(b5,b,p,_):=I.vu h;show(b5,b,p.xc,let(_,e,_):=p.xc;Ý e)
 .let(b5,b,p,_):=I.kl h;let p:s.k.ko a b5.E:=p;show(b5,b,p,let(_,e,_):=p;Ý e)
def γ.inj{σ:_2.St}(I:Â X Do σ H s)(h:γ t X.K H a xs)(g:γ t X.K H a b):xs=b:=by
 ext t
 .show I.list_inj h g
 .show I.tuple_inj h g
def Wj(R:Rp K π H μ)(h:Ù K π μ.f H v x)(g:x=.L xs\/fZ μ x=a7 xs):∃t p,v=.x p/\(∃vs,γ t K H p vs) /\
  ∀c b d,ö π μ.f H c b.f d->Rp K c d b->∀i,bW b x=a7 i->∃j,γ t K d p j/\È K c b.f d j i:=by
 rcases g with rfl|g
 .cases h with
  |@f6 a vs ds q t=>
  show(b4,a,?r,(vs,q),λc b d e n i k=>?_);ext k;show(vs,e.sqT q,t.zw e)
 .let(p,?r,q,l):=zM R h g;show(b3,p,?r,q,l)
def Iv(h:A.xt=b0)(j:IsItemIter s.k it d i es.q ep ok ov)(g:ø s.k d es ep)(p:∀e a,es[i]?=a7 e->O1 a it d (i+1) es.q ep e.key e.val s.k.y.q->a.G s.k.y.q=a7 {cw:=.O "tuple",bv:=.seq #[e.key,e.val]}->
   (∀b o,b≠it->s.k.G b=a7 o->a.G b=a7 o)->Q (a7<|.x s.k.y.q) {s with ce:=a})(q:es[i]?=b0->∀a,ϰ it s.k a->Q b0 {s with ce:=a}):Ç (Ê P w) A (Ō<|.x it) Q E s:=
 Ck (S:=d) h j (.Q ?r) g g.lt (λe a c x o n x k=>p e a c (o ?r) n k) q
def Cz!(d:ar)(ob:hH)(ps:bX):It:=(λi H=>H d=a7 (.frz ob<|aN d ps)/\i<ps.f,λi H x a=>∃t p,x=.x t/\H t=b0/\ps[i]?=a7 p/\a=eo H t (.L [.x p.2.1,p.2.2]),λi H=>H d=a7 (.frz ob<|aN d ps)/\ps.f<=i)
def Wl(hd:ob.data=.dict es ep):ı Qc P w K (.va el kx pt) (Cz d ob ps) [j] j (λi h=>∃ok x,IsItemIter h j d i es.q ep ok x) where
 mem:=∅
 obj:=λi h (ok,x,st) b q=>by
  let e:b=j:=by apply q
  subst e;show(_,st,λv z=>by
   let z':ğ _=uh v:=z;ext z')
 fv:=λi h U (ok,x,st) k=>(ok,x,k j ∅ _ st);lm:=by
  intro X Z hw Y hc i O s σ H E I M (ok,x,st) hg;subst Z hw Y;let(p,G):=hg;let(lo,hl,T,R,g,a,N):=rR I p;rw[hd]at a;ext a;let(_,_,es2,ep2,_,B,he):=v9 I p;rw[hd]at B;ext B;let hs:es.q=ps.f:=by have:=br ģ N;apply ah
  show Iv (I.ok.hd hc) st g (λe U n a1 a2 a3=>(_,?r,wpAny_letOwnedTupleGo_items a1 λh2 b1 L=>?_)) λhn=>by simp at hn;lia
  let hp:ps[i]?=a7 ps[i]:=Ċ G;let ek:e.key=.x (ps[i]).2.1:=by have:=br (·[i]?) N;dsimp[ĉ,UV,n,hp,ĝ]at ah;show Ĕ ah
  let(u,u1,u2):=he.get (i:=i) (x:=ps[i].2.2) (by rw[ĉ,hp];rfl);rw[ĉ,UV,n]at u1;ext u1;let J:j<s.k.y.q:=Ý st;let ht2:h2.G s.k.y.q=a7 {cw:=.O "tuple",bv:=.seq #[e.key,e.val]}:=(L.2 _<|š J).u a2;let hfr:H s.k.y.q=bp:=I.vr.xo<|Ô _;show(.x s.k.y.q,eo H s.k.y.q<|.L [.x (ps[i]).2.1,(ps[i]).2.2],?_,?r,(_,ps[i],?r,hfr,hp,?r),(_,_,b1),λc q=>?_)
  .show zG (s:=s) (h':=h2) (t':=s.xh) (ch:=[j]) I (λc oc q ec=>?_) M (Ô _) ?_
   .let y:c≠j:=by apply q
    show(L.2 c y).u<|a3 c oc y ec
   .show(by change(2:am)<=Ò;decide,[e.key,e.val],.zv ek<|.zv u2 .kk,_,ht2,?r,0,?r,?r)
  .rw[bV]
   .show(M c q).1
   .let e:c=j:=by apply q
    rw[e];show ý J
 k4:=by
  intro X Z hw Y hc i O s σ H E I M (ok,x,st) hg;subst Z hw Y;let(p,G):=hg;let(lo,hl,T,R,g,a,N):=rR I p;rw[hd]at a;ext a;let hs:es.q=ps.f:=by have:=br ģ N;apply ah
  let(f0,f1,f2,f3,f4,f5):=M j ∅;show Iv (I.ok.hd hc) st g (λe U n=>by
   have:=(Qo.Z n).1;lia) λ_ U eb=>(?r,I.turned (t':=s.xh) (λb o q e=>eb b o q e) f0 f1 f3 f4 f5)
 lh:=λA i s Q E (ok,x,st) h=>ci.W.kcp_self st h
def Iw(K:PE X l M)(j:jj l "items" X.M (eu l X.M)=eu l X.M)(k:(a.ku==c.line)=b4):
  PI X (.va G L pt) (.xz (.zk l "items" a) [] [] c) (λu H R=>M u H λv n=>∃d ob B,v=.x d/\n d=a7 (.frz ob<|aN d B)/\R (Cz d ob B) n):=by
 intro i s u H R I h;show QU j k<|aR (K i s u H _ I h) λv p (y,n,E,r1,q1)=>?_;let(d,ob,B,e,J,q):=q1;subst e;obtain rfl:v=Ñ d:=r1;let(lo,K,T,O,g,hd,he):=rR E J;show("dict","dict.items",OW,OX,Th,g.ty,λb N=>?_,ND ?r<|QL ?_)
 .ext N;let(z,Y,x,_):=g;show(z,Y,x.2.1)
 show qg OX g.ty U8 (UD _) (HY d lo) ((T,O,g),?_);let w:Â X i u n {p with ce:=p.k.zl {cw:=.O "dict_items",bv:=.xi #[.x d]}}:=E.vx (t':=p.xh) λb o e=>ä _ e;let(lo2,hl2,U,Q,x,A,he2):=rR w J;change Ç (Ê X.Y X.w) X.A (aj<|.x p.k.y.q) (Bb X i u (.va G L pt) R) X.xe _;show HW (_,ÿ _ ?r,?r,?r) x (_,[_],_,_,n,?r,w.vx (t':=p.xh) λb o e=>ä _ e,Wl A,(_,_,ÿ _ ?r),λb Z=>?_,q);let e:=ġ.Z Z;subst e;show w.fpOk (Ô _)<|w.vr.xo<|Ô _
def jD!(ay:jx):ab D:=ay.o λk=>.L [.L<|k.1.o D.p,k.2]
def Iy{ps:bX}(h:H d=a7 (.frz ob<|aN d ps))(T:ñ K π n H ps ay):Wk K (Cz d ob ps) (eM<|.L<|jD ay) π n H:=by
 let E:ps.f=ay.f:=by have:=br ģ T.to.1;apply ah
 show(λg A k i e R z=>?_,λg A k i o e R z=>?_)
 .let a:(jD ay)[i]?=bp:=Ĕ z;have:=Κ.Z a;rw[jD,Ä]at ah;show(e.frz _ _ _ h,())
 .let a:(jD ay)[i]?=a7 o:=Ĕ z;let hi:i<ay.f:=by have:=(ã.Z a).1;rwa [jD,Ä]at ah
  show((e.frz _ _ _ h,()),λv B (t,p,q,s,u,w)=>?_);subst q w;let b:ay[i]?=a7 ay[i]:=Ċ hi;let(G,h1,x):=(T.to.2.1.zw e).get (i:=i) (d:=D.L ((ay[i]).1.o D.p)) (by rw[ĉ,b];rfl);let(I,j,y):=(T.to.2.2.zw e).get (i:=i) (d:=(ay[i]).2) (by rw[ĉ,b];rfl);rw[ĉ,u]at h1 j;ext h1;ext j;let(c,R2):=R.xo (o:=.L [.x p.2.1,p.2.2]) s;rw[jD,ĉ,b]at a;ext a;show(c,R2,.L (.of dH)<|.zv (x.zw c)<|.zv (y.zw c) .kk)
def qD!(m:ME):MI:=λb μ=>(m b μ).U λp=>match p.1 with
 |.z a=>match p.2[a]? with
  |bb (.dF ay)=>a7 ⟨eM<|.L<|jD ay,ay.f+1,p.2⟩|_=>b0
 |_=>b0
open _root_ in
def Wm(h:QE X e m)(u:gW e=b4)(q:(b.ku==c.line)=b4):ig X (.xz (.zk e "items" b) [] [] c) (qD m):=⟨λes L pt Do s σ H R I hw=>by
 let(J,K,A,z,n,B,o,E,a,k):=hw;show bJ a ?_;clear a;intro x G h1 a;dsimp at a;split at a
 .split at a
  .rename_i w hc;ext a;show Iw h.h (mB u) q Do s σ H R I (J,K,A,_,_,o,E,h1,λd M j p g v=>?_);ext v;let(ob,y,i,T):=tQ g hc;show(_,ob,y,?r,i,k d j _ p g<|Iy i T)
  .ext a
 .ext a⟩
def Wn(i:PE X l g):PE X l (λσ H Q=>g σ H λv a=>∃d ps,v=.x d/\a d=a7 (aN d ps)/\∀ob,Q v (eo a d<|.frz ob<|aN d ps)):=by intro b s σ H Q I h;show aR (i b s σ H _ I h) λv o (y,a,c,n,k)=>?_;let(d,ps,?r,e,q):=k;obtain(_|(ob|j)|_):=(show á X.Y X.w a o.k d (aN d ps)from c.vr _ _ e);show(_,_,Â.freeze c e j,n,q ob)
def Iz!(m:ME):MI:=λb μ=>(m b μ).U λp=>match p.1 with
 |.z a=>match p.2[a]? with
  |bb (.dT ay)=>a7 ⟨eM<|.L<|jD ay,ay.f+1,p.2.xl a<|.dF ay⟩|_=>b0
 |_=>b0
open _root_ in
def Wo(h:QE X e m)(w:gW e=b4)(v:(b.ku==c.line)=b4):ig X (.xz (.zk e "items" b) [] [] c) (Iz m):=⟨λes M pt Do s σ H R I hw=>by
 let(J,K,A,z,n,B,q,E,a,k):=hw;show bJ a ?_;clear a;intro x G h1 a;dsimp at a;split at a
 .split at a
  .rename_i i hc;ext a;show Iw (Wn h.h) (mB w) v Do s σ H R I (J,K,A,_,_,q,E,h1,λj N L u o y=>?_);ext y;let(d,p,T):=jC o hc;show(_,d,?r,p,λob=>?_);let(g,R2):=o.put (c:=.dF i) (o:=.frz ob (aN _ d)) (ã.Z hc).1 p (.X<|.X (_,?r)) (ob,d,?r,T.to);show(_,ob,d,?r,dH,k j _ _ (u.u g) R2<|Iy dH<|ñ.of T.to.1 (T.to.2.1.zw g)<|T.to.2.2.zw g)
  .ext a
 .ext a⟩
open PyProof.Rows (IsTup kmk_tree seqObj)
def IA!(K:Ï):gz->Hp->VK->Prop:=λxs H Q=>∃p:ar,xs=[.x p,.kf]/\Ā K H p []/\Q .kf H
def Wq a:NR "min" ([a],[⟨ŝ "default",.qo⟩]):=by ext NR;kernel_rfl
def Wr{σ:_2.St}(hc:X.vn=b4){xs:gz}(I:Â X Do σ H s)(r:∃y,xs=[y,.kf]/\Í y u)(h:IA X.K xs H Q):
  Ç (Ê X.Y X.w) X.A (ia (.zn "min") [u] [⟨ŝ "default",.qo⟩]) (EP X Do σ Q) X.xe s:=by
 let(p,?r,i,q):=h;let(y,c,n):=r;ext c;ext n;let d:X.A.in1.xt=bp:=I.ok.hd hc;let(b5,v,pl,A):=I.vu i;ext v;let k:(f7 "min"++f7 ".loop":cq)="min.loop":=⋯
 show kmk_tree ci.F.kind_min ci.F.plain_min ci.F.entry_min (Wq _) ?_;show Á (m:=Of "min" ["key","default"] 0 ([],[⟨ŝ "default",.qo⟩]))<|pD (show Of "min" ["key","default"] 0 ([],[⟨ŝ "default",.qo⟩])=ej [b0,a7 .qo]from ?r)<|Á<|É<|Á<|ww pl.xc<|Á<|vg ?_<|Ŝ _;rw[k];show É (ϲ TY _,?_);let a:p<s.k.y.q:=by let(o,g,_):=pl.xc;show Ý g
 let K:=PY (dv:=X.Y) (w:=X.w) d s.k.y.q p (ý a) #[];show J2 ci.F.entry_min_loop ?_;rw[Rr TY _];show Á (m:=jd _)<|ϝ (ÿ _ ?r) ?r ?_;show Á (m:=j2 (Ō<|.x s.k.y.q) _)<|qd<|K.done _ _ _ ((_,ä _<|ÿ _ ?r,?r,?r),(pl.xc.zl _).zl _) λx w j=>?_;show Á<|Ϛ<|É (.kf,H,I.vx (t':=w) λb o e=>j b o (λz=>?_)<|ä _<|ä _ e,?r,q);rw[ġ.Z z]at e;show Ϝ _<|Ý e
def zR!:MF:=λds μ=>match ds with
 |[.z a,.kf]=>match μ[a]? with
  |bb (.D [])=>a7 ⟨.kf,μ⟩|_=>b0
 |_=>b0
open _root_ in
def Ws:e8 K zR (IA K):=by
 intro j H u s d h n Q R i a k;unfold zR at a;split at a
 .split at a
  .rename_i b;ext a;cases i with
   |bm c t=>
    cases t with
    |bm g t=>ext t;ext g;let(p,o,e,q,hd):=vK (xs:=[]) R c (by dsimp[fZ,b]);ext hd;show(p,by rw[e],q,k j _ H .ki R .kf)
  .ext a
 .ext a
def Wt(hc:X.vn=b4)(hun:X.A.qv+64<ă)(hg:Gl X "min")(hm:X.mg "min"=b0)(h:QE X e m)(h1:QE X j T)(hs:fR e=b4):
  QE X (.xz (.xk "min" p) [e] [(a7 "default",j,p1)] ca) (bI zR<|aB m<|aB T aD):=⟨by
 intro z s σ H Q I hw;let(π,ρ,Z,d,M,R,E,hw,k):=hw;show bJ hw ?_;clear hw;intro ds i6 n hw;show bJ n ?_;clear n;intro x c g1 n;show bJ n ?_;clear n;intro ds' μ3 B n;show bJ B ?_;clear B;intro y g N B;ext B;ext n;dsimp at N hw;show az (i9 I hg hm UI ?_ ⋯<|by decide);let st:ð [e] X.M=⟨b3,eu e X.M⟩::ð [] X.M:=fS hs;show b7C (aR (Ft h.h Fs st ca z s σ H (λU i=>∃v a,U=[v]/\ö π Z.f H a c.f i/\Rp X.K a i c/\Ù X.K a c.f i v x) I (π,ρ,Z,x,c,R,E,g1,λa v i j G J=>(v,a,?r,j,G,J))) λus s1 (U,i,I1,r1,v,a,ev,j,G,J)=>?_) (by rw[st];rfl) (by rw[st];rfl);subst ev;show aR (b3Y h1.h b3Z ca z s1 σ i (λY o=>∃w b,Y=[w]/\ö a c.f i b g.f o/\Rp X.K b o g/\Ù X.K b g.f o w y) I1 (a,ρ,c,y,g,G,E.zw j,N,λb w o A R2 K=>(w,b,?r,A,R2,K))) λws s2 (Y,o,I2,r2,w,b,ew,A,R2,K)=>?_;subst ew;let(u,?r,ru):=hJ r1;let(u2,?r,L):=hJ r2;let O:=Ws b o g [x,y] d M [v,w] Q R2 (.zv (J.zw A)<|.zv K .kk) hw<|k.after<|j.u A;let(q,e5,hr'):=id O;ext e5;ext L;show Wr hc I2 (_,?r,ru) O⟩
end _3
namespace _3
open PySem _2
open PyProof.Rows (IsTup IntsAre)
def wA!(h:ê)(v:ax)(p:ae×ae):Prop:=∃a xs,v=.x a/\WP h a xs/\Ŷ xs.zh [p.1,p.2]
def Wu(c:A.qv<ă)(a:wA s.k u p)(b:wA s.k v q)(h:Q (.kt<|HT.xw [p.1,p.2] [q.1,q.2]) s):Ç (Ê P w) A (uq .Lt u v) Q E s:=by let(a,j,?r,g,d):=a;let(b,k,?r,i,e):=b;show HT.lt_tupInts g i d e c h
def Wv(M:A.qv+2<ă)(a:wA s.k u p)(b:wA s.k v q)(h:Q (.kt<|HT.xw [q.1,q.2] [p.1,p.2]) s):Ç (Ê P w) A (uq .Gt u v) Q E s:=by
 obtain(a|I|rfl|(B|h1|o|N|L)|d):=a;obtain(b|J|rfl|(ob|k|n|O|K)|g):=b;let⟨I⟩:=I;let⟨J⟩:=J;show wpAny_richCompare_same_room (op:=.Gt) (B,h1,o) (ob,k,n) F.slot_tuple_gt (Ÿ F.slot_tuple_gt (B,h1,o) F.entry_tuple_gt ?_<|F.args_tuple_gt_2 _ _) ();show Á (m:=isInstance (.x b) (.O "tuple"))<|gf (ob,k,n) isSubtype_tuple_tuple ?_;dsimp[ϭ,Ī,cm];show Á<|Rf h1 L<|Á<|Rf k K<|Á ?_;cases d with
 |bm x t d=>
 cases d with
 |bm R G d=>
 ext d;cases g with
 |bm y u g=>
 cases g with
 |bm T H g=>
 ext g;change Ç _ _ (ox [⟨ĕ p.1 t,ĕ q.1 u⟩,⟨ĕ p.2 G,ĕ q.2 H⟩] _ _) _ _ s;dsimp[Q6,Rk];let c:∀(i:ae)(t:cg),(ŷ P w).is i (.p i t)=bt:=λi t=>by simp[ŷ,PQ]
 show Á<|Á<|(ŷ P w).eqBool (c p.1 t) (c q.1 u) ?_;by_cases e:p.1=q.1
 .rw[cc e];dsimp[ϭ,Ī,cm];show É<|Á<|Á<|(ŷ P w).eqBool (c p.2 G) (c q.2 H) ?_;by_cases j:p.2=q.2
  .rw[cc j];rw[e,j,zO]at h;dsimp[ϭ,Ī,cm];show É<|É<|É (.kt b3,?r,(λz=>nomatch z),h)
  .rw[ba j];dsimp[dh,cy];show Á<|Ϛ<|Á<|U5 ?_;have:HT.xw [q.1,q.2] [p.1,p.2]=ag (q.2<p.2):=by simp[HT.xw,e,ì j]
   rw[ah]at h;show Á<|É<|É<|É<|É (_,?r,(λz=>nomatch z),h)
 .rw[ba e];dsimp[dh,cy];show Á<|Ϛ<|Á<|U5 ?_;have:HT.xw [q.1,q.2] [p.1,p.2]=ag (q.1<p.1):=by simp[HT.xw,ì e]
  rw[ah]at h;show Á<|É<|É<|É<|É (_,?r,(λz=>nomatch z),h)
def rV!(t:av):cq:=match t with|bt=>"min.loop" |ai=>"max.loop"
def CA!(t:av):cq:=match t with|bt=>"min" |ai=>"max"
def wB!(t:av):pq:=match t with|bt=>.Lt|ai=>.Gt
def Ww!(t:av):ez:=match t with|bt=>ez.«min.loop»|ai=>ez.«max.loop»
def zS t:entryFor table (rV t)=a7 (Ww t):=by
 ext t
 .show F.entry_max_loop
 .show F.entry_min_loop
def qE t:plainId (rV t)=bt:=by
 ext t
 .show F.plain_max_loop
 .show F.plain_min_loop
def Wx{St:am->ê->Prop}(K:Walks P w A.in1 I fp J 2 (λi v=>(#[a,b]:eh ax)[i]?=a7 v) St)(X:S∉fp)(st:St 0 s.k)(M:s.k.G S=a7 {cw:=.O "list",ix:=b0,bv:=.seq #[] z,ft:=#[]})(hc:∀t (Q E:ax->Ø->Prop),(∀x o,x∉J->x≠S->s.k.G x=a7 o->t.k.G x=a7 o)->Q (.kt c) t->Ç (Ê P w) A.in1 (uq (wB U) b a) Q E t)(q:∀h' tk,(∀x o,x∉J->x≠S->s.k.G x=a7 o->h'.G x=a7 o)->R (.ok<|.ret<|if c then b else a) {s with ce:=h',dL:=tk}):Ρ (Ê P w) A (.zn (rV U) ([.x I,.qo,.x S],[])) R s:=by
 let p:(f7 "min"++f7 ".loop":cq)=rV bt:=⋯
 let k:(f7 "max"++f7 ".loop":cq)=rV ai:=⋯
 ext U;all_goals
  dsimp only[wB]at hc;let G:S∉J:=λz=>X<|K.sub _ z;let d:∀{h:ê}{u:ax}(x:ar)(o:hH),x≠S->h.G x=a7 o->(h.vi S<|ly λ_=>#[u,u]).G x=a7 o:=λx o n e=>(J4 _ _<|ì n).u e;show J2 (zS _) ?_;rw[Rr (qE _) _];show Á (m:=jd (.x S)) (ϝ M ?r<|Á (m:=j2 (Ō<|.x I) _)<|qd<|K.item 0 s _ _ ⋯ st λv h1 tk1 Y Z O=>?_);obtain rfl:a=v:=by apply Y
  show Á (m:=nj S λ_=>#[a,a])<|gA (O S _ G M) ?r ?_;first|rw[p]|rw[k]
  show É (ϲ (qE _) _,J2 (zS _) ?_);rw[Rr (qE _) _];let g1:=τ (ly λ_=>#[a,a]) (O S _ G M) ?r;show Á (m:=jd (.x S)) (ϝ g1 ?r<|Á (m:=j2 (Ō<|.x I) _)<|qd<|K.item 1 _ _ _ ⋯ (K.frame _ _ _ Z λx N o e=>d x o (λz=>X<|z▸N) e) λv h2 tk2 Y H k2=>?_);obtain rfl:b=v:=by apply Y
  let T:∀x o,x∉J->x≠S->s.k.G x=a7 o->h2.G x=a7 o:=λx o g j e=>k2 x o g<|d x o j<|O x o g e;let L:=k2 S _ G g1;change Ç _ A.in1 (j2 (ip [b,b]<|uq _ b a >>= _) _ >>= _) _ _ _;show Á<|qd<|Ņ<|Á<|hc _ _ _ T<|Á<|Ņ<|J3<|Á<|J1<|É ?_;cases c with
  |bt=>
   dsimp[cy]at q ⊢;show Á<|gA L ?r<|Á<|J1 ?_;first|rw[p]|rw[k]
   show É (ϲ (qE _) _,J2 (zS _) ?_);rw[Rr (qE _) _];let g3:=τ (ly λ_=>#[b,b]) L ?r;show Á (m:=jd (.x S))<|ϝ g3 ?r<|Á (m:=j2 (Ō<|.x I) _)<|qd<|K.done _ _ _ (K.frame _ _ _ H λx N o e=>d x o (λz=>X<|z▸N) e) λh4 y B=>?_;show Á (m:=nj S λ_=>#[])<|gA (B S _ G g3) ?r<|Á<|J1<|É ?_;show q _ y λx o g j e=>(J4 _ _<|ì j).u<|B x o g<|d x o j<|T x o g j e
  |ai=>
   dsimp[Ī,cm]at q ⊢;show Á<|J1 ?_;first|rw[p]|rw[k]
   show É (ϲ (qE _) _,J2 (zS _) ?_);rw[Rr (qE _) _];show Á (m:=jd (.x S))<|ϝ L ?r<|Á (m:=j2 (Ō<|.x I) _)<|qd<|K.done _ _ _ H λh4 y B=>?_;show Á (m:=nj S λ_=>#[])<|gA (B S _ G L) ?r<|Á<|J1<|É ?_;show q _ y λx o g j e=>(J4 _ _<|ì j).u<|B x o g<|T x o g j e
def IB j(I:op=wB j)(G:fn=CA j)(H:A.xt=b0)(hc:∀t (Q E:ax->Ø->Prop),(∀x o,s.k.G x=a7 o->t.k.G x=a7 o)->Q (.kt c) t->Ç (Ê P w) A.in1 (uq op b a) Q E t)(q:∀g u,(∀x o,s.k.G x=a7 o->g.G x=a7 o)->Q (if c then b else a) {s with ce:=g,dL:=u}):Ç (Ê P w) A (ia (.zn fn) [a,b]) Q E s:=by
 let p:(f7 "min"++f7 ".loop":cq)=rV bt:=⋯
 let n:(f7 "max"++f7 ".loop":cq)=rV ai:=⋯
 subst I G;ext j;case' bt=>
  dsimp only[CA,wB]at hc ⊢;show RY F.kind_min F.plain_min F.entry_min (F.args_min2 _ _) ?_;show Á (m:=Of "min" ["key","default"] 0 ([],[]))<|pD (show _=ej [b0,b0]from ?r) ?_
 case' ai=>
  dsimp only[CA,wB]at hc ⊢;show RY F.kind_max F.plain_max F.entry_max (F.args_max2 _ _) ?_;show Á (m:=Of "max" ["key","default"] 0 ([],[]))<|pD (show _=ej [b0,b0]from ?r) ?_
 all_goals
  show Á (m:=ug [a,b])<|Η ?_;let v:(s.k.zl {cw:=.O "tuple",bv:=.seq #[a,b]}).ko s.k.y.q #[a,b]:=(_,ÿ _ ?r,?r,0,?r);let i:(s.k.zl {cw:=.O "tuple",bv:=.seq #[a,b]}).objs.size=s.k.y.q+1:=Χ ..;show Á<|b7 v<|Á<|Η ?_;let d:((s.k.zl {cw:=.O "tuple",bv:=.seq #[a,b]}).zl {cw:=.O "tuple_iterator",bv:=.xi #[.x s.k.y.q,.p 0 0]}).objs.size=s.k.y.q+2:=by rw[Χ,i]
  first|rw[p]|rw[n]
  let kB:∀x o,s.k.G x=a7 o->x<s.k.y.q:=λx o e=>Ý e;show É (ϲ (qE _) _,Wx (c:=c) (PR (A:=A.in1) H _ s.k.y.q (by rw[i];show ý<|ς _) #[a,b]) ?_ ((_,ä _<|ÿ _ ?r,?r,?r),(v.zl _).zl _) (ÿ _ ?r) (λt B y k h=>hc t B y (λx o e=>?_) h) λg u k=>q g u λx o e=>?_)
  .rw[d,i];simp
  all_goals
   let l:=kB x o e;show k x o (λz=>?_) (λz=>?_)<|ä _<|ä _<|ä _ e
   .rw[i]at z;rw[ġ.Z z]at l;show Ϝ _<|Py l
   .rw[z,d]at l;show Ϝ _<|Py<|Py l
def CB!(x:D):af (ae×ae):=(d7 x).U λk=>match k with
 |[a,b]=>a7 ⟨a,b⟩|_=>b0
def zT!(f:ae×ae->ae×ae->av)(g:MF):MF:=λds μ=>match ds with
 |[x,y]=>(match CB x,CB y with
  |bb p,a7 q=>a7 ⟨if f p q then y else x,μ⟩
  |_,_=>g ds μ)
 |_=>g ds μ
def CC!:MF:=zT (λp q=>HT.xw [q.1,q.2] [p.1,p.2]) B8
def zU!:MF:=zT (λp q=>HT.xw [p.1,p.2] [q.1,q.2]) B9
inductive NO (f:ae×ae->ae×ae->av)(K:Ï):gz->Hp->VK->Prop
 |mk {H:Hp}{Q:VK}{a b:ar}{p q:ae×ae}(ha:à K H a ([p.1,p.2].o V.p))(hb:à K H b ([q.1,q.2].o V.p))(k:Q (.x<|if f p q then b else a) H):NO f K [.x a,.x b] H Q
def IC(h:CB x=a7 p):x=.L ([p.1,p.2].o D.p):=by
 show cC h ?_;clear h;intro k h1 a;rw[vJ h1];split at a
 .ext a;rfl
 .ext a
def wC{p:ab ae}(h:Ù K π n H v (.L<|p.o D.p)):∃a,v=.x a/\à K H a (p.o V.p):=by
 cases h with
 |@f6 a c ds b hd=>have:=ħ hd;subst ah;show(a,?r,b)
open _root_ in
def ID(j:e8 K g r):e8 K (zT f g) (λxs H Q=>NO f K xs H Q\/r xs H Q):=by
 intro h H u xs d e s Q R i c k;unfold zT at c;split at c
 .split at c
  .rename_i v w;ext c;cases i with
   |bm n t=>
   cases t with
   |bm o t=>
   ext t;let p:=n;let q:=o;rw[IC v]at p;rw[IC w]at q;let(a,?r,x):=wC p;let(b,?r,y):=wC q;show .Q<|.mk x y<|k h _ H .ki R ?_;lk
   .show o
   .show n
  .show .X<|j h H u _ d e s Q R i c k
 .show .X<|j h H u _ d e s Q R i c k
def zV{σ:St}(I:Â X Do σ H s)(h:à X.K H a ([p.1,p.2].o V.p))(b:∀x o,s.k.G x=a7 o->h'.G x=a7 o):wA h' (.x a) p:=by obtain(b5|r|(o|e|z)|_):=I.kl h;show(a,_,?r,(o,b _ _ e,z),xZ r)
def Wz(hc:X.vn=b4)(o:X.A.qv+64<ă):ß X (.zn "min") (NO (λp q=>HT.xw [q.1,q.2] [p.1,p.2]) X.K):=by intro b s z H y x Q I r h;let(c,d,k):=h;let(u,v,?r,e,g):=uX r;ext e;ext g;show IB b4 (op:=.Lt) ?r ?r (I.ok.hd hc) (λt j i a h=>Wu (by rw[lX];lia) (zV I d a) (zV I c a) h) λn w a=>(_,H,I.vx a,?_,k);lk<;>rfl
def WA(hc:X.vn=b4)(o:X.A.qv+64<ă):ß X (.zn "max") (NO (λp q=>HT.xw [p.1,p.2] [q.1,q.2]) X.K):=by intro b s z H y x Q I r h;let(c,d,k):=h;let(u,v,?r,e,g):=uX r;ext e;ext g;show IB b3 (op:=.Gt) ?r ?r (I.ok.hd hc) (λt j i a h=>Wv (by rw[lX];lia) (zV I d a) (zV I c a) h) λn w a=>(_,H,I.vx a,?_,k);lk<;>rfl
end _3
namespace _3
open PySem _2 PySem.W PyProof.Rows
noncomputable abbrev Ti:=ab ae×ab ae×av×ab ae
def nN!:Ti:=⟨[],[],b3,[]⟩
def zW!(x y:Ti):av:=if x.1=y.1 then(if x.2.1=y.2.1 then(if x.2.2.1=y.2.2.1 then HT.xw x.2.2.2 y.2.2.2 else y.2.2.1)else HT.xw x.2.1 y.2.1)else HT.xw x.1 y.1
section
variable{P:Ŧ}{w:ņ}{A:ų}{E:Value->Ø->Prop}{s:Ø}
inductive rT (P:Ŧ)(w:ņ)(h:ê)(a:ar)(t:Ti):Prop
 |mk (o:hH)(n:am)(b c e:ar)(g:h.G a=a7 o)(k:o.cls=.O "tuple") (d:o.data=.seq #[.x b,.x c,.kt t.2.2.1,.x e] n)(h1:mH P w h b t.1)(h2:mH P w h c t.2.1)(h3:mH P w h e t.2.2.2)
def WB(h:a≠b):ut A s (.kt a) (.kt b) ai:=λdv w E Q q=>by ext eqBool;show Ņ ?_;rw[ac<|by apply h];show Á<|mn.RcAt.bool_bool a b dv w E _<|J3 ?_;rw[show(a==b)=b3 by apply h];show q
def CD(g:A.qv<ă)(d:mH P w s.k b k)(a:mH P w s.k c k')(n:k=k'->KatLex P w A b3 dr Q r (i+1) s)(o:k≠k'->Q (HT.xw k k') s):
  KatLex P w A b3 dr Q (⟨.x b,.x c⟩::r) i s:=by
 show li<|(Ϭ<|ŷ P w).eqBool g d.1 a.1 ?_;by_cases e:k=k'
 .rw[cc e];show oq<|n e
 .rw[ba e];let(u,p,h):=d.2;let(v,q,j):=a.2;show kat_no<|kat_one _ _<|HT.lt_tupInts p q (by apply h) (by apply j) g<|o e
def WC{C:av->Ø->Prop}(h:A.qv<ă)(x:rT P w s.k a t)(y:rT P w s.k i t')(q:C (zW t t') s):Ç (Ê P w) A (keyLt' (tuples' b3) (.x a)<|.x i) C (λ_ l=>ef) s:=by
 let(o,n,b,c,e,g,_,d,H,I,J):=x;let(O,N,j,k,B,G,_,p,K,L,M):=y;unfold zW at q;show kat_lt g d G p ?_;change KatLex P w A b3 _ C [⟨.x b,.x j⟩,⟨.x c,.x k⟩,⟨.kt t.2.2.1,.kt t'.2.2.1⟩,⟨.x e,.x B⟩] 0 s;show CD h H K (λz=>?_) λz=>by rw[ac z]at q;show q
 rw[ad z]at q;show CD h I L (λz=>?_) λz=>by rw[ac z]at q;show q
 rw[ad z]at q;by_cases f:t.2.2.1=t'.2.2.1
 .rw[ad f]at q;rw[f];show li<|HX<|oq<|CD h J M (λz=>kat_nil ?_) λ_=>q;rw[z,zO]at q;show q
 .rw[ac f]at q;show li<|WB f P w _ _<|kat_no<|kat_one _ _<|lt_bool ?_;have:ag (b2i t.2.2.1<b2i t'.2.2.1)=t'.2.2.1:=by generalize t.2.2.1=u at f;generalize t'.2.2.1=v at f;ext u<;>ext v<;>first|show cb ?r f|decide
  rw[ah];show q
def WD{as:ab ar}{ts:ab Ti}(I:A.qv<ă)(h0:0<as.f)(u:ts.f=as.f)(kD:∀i,i<as.f->rT P w s.k (as.I i 0) (ts.I i nN)):qA P w A (as.o Ñ) (λi j=>zW (ts.I i nN)<|ts.I j nN) s:=by
 let g:∃fs:gw,fs.f=as.f/\NT s.k (as.o Ñ) fs/\∀v∈fs,∃b k,v=Ñ b/\mH P w s.k b k:=by
  clear h0;induction as generalizing ts with
  |fk=>show([],?r,.kk,λv d=>nomatch d)|bm a as J=>
   match ts,u with
   |t::ts,u=>
    let(fs,x,h,p):=J (ts:=ts) (by apply u) λi hi=>by apply kD (i+1) (by apply hi)
    let(o,n,b,c,e,y,z,B,G,_):=kD 0 ∅;show(.x b::fs,by simp[x],.zv y z B ∅ h,λv d=>?_);rcases ē.Z d with rfl|d
    .show(b,_,?r,G)
    .show p v d
 let(fs,x,h,p):=g;show Ow (T:=.O "tuple") h () (λv d=>?_) ⋯ (?r,λi j C hi q H=>?_)
 .let(b,k,?r,K):=p v d;obtain(L|(o|o1|o2|_)|_):=K.2;show kitAt_ty _ _ (o,o1,o2)
 .rw[Ä]at hi q;rw[show(as.o Ñ).I i .qo=.x (as.I i 0) by simp[į,hi],show(as.o Ñ).I j .qo=.x (as.I j 0) by simp[į,q]];show WC I (kD i hi) (kD j q) H
def WE(d:us.f<64)(h:s.k.IsList l us.E)(H:2<=us.f->∀c,(∀b o,s.k.G b=a7 o->c.G b=a7 o)->qA P w A.in1.in1 us an {s with ce:=c})(q:Q (.x<|s.k.y.q+1) {s with ce:=sortedAll s.k us ((dN an us.f).o λi=>us.I i ļ).E}):Ç (Ê P w) A (ia (.zn "sorted") [.x l]) Q E s:=by
 let k:us.f<=Ò:=by rw[õ];lia
 show Qm PD PC P9 (P8 _) ?_;ext Qk;show Á (m:=P0 "sorted" 1 1 _) (É<|Á<|collect_list h (Á<|vg ?_ ()) ());let z:((s.k.zl<|Ě "list" #[] 0).vi s.k.y.q<|ly (·++us.E)).objs.size=s.k.y.q+1:=by rw[Heap.size_update,size_push']
 let g:(((s.k.zl<|Ě "list" #[] 0).vi s.k.y.q<|ly (·++us.E)).zl<|Ě "list" us.E 0).G (s.k.y.q+1)=a7 (Ě "list" us.E 0):=z▸ÿ _ ?r;change Ç _ _ _ _ _ (((s.k.zl<|Ě "list" #[] 0).vi s.k.y.q<|ly (·++us.E)).zl<|Ě "list" us.E 0,s.gens,s.drawn,s.xh,s.os);rw[z];by_cases a:2<=us.f
 .show Á<|Ņ<|Ÿ vp (_,g,?r) ux (Cm a d g (λc j=>H a c λb o e=>j b o ?_ ?_) (_,?r,?_))<|vo _
  .show ý<|NB<|Ý e
  .show ä _<|(J4 _ _<|š<|Ý e).u<|ä _ e
  .show É (_,?r,q)
 .show Á (Ņ<|Ÿ vp (_,g,?r) ux (B2 (us:=us) () g (_,?r,?_))<|vo _);show É (_,?r,?_);match us,a,q with
  |[],_,q=>rw[uy,zC]at q;show q|[b],_,q=>rw[wj,B3]at q;show q|_::_::_,a,_=>simp at a
end
noncomputable abbrev oR(ts:ab Ti):Prop:=ts.f<64
def WG!:D->af av
 |.bl b=>a7 b|_=>b0
def WH!:ab D->af Ti
 |[x,y,z,w]=>(d7 x).U λk=>(d7 y).U λm=>(WG z).U λb=>(d7 w).o λn=>⟨k,m,b,n⟩|_=>b0
def zX!:D->af Ti
 |.L l=>WH l|_=>b0
def gC!(t:Ti):D:=.L [.L<|t.1.o D.p,.L<|t.2.1.o D.p,.bl t.2.2.1,.L<|t.2.2.2.o D.p]
def WI(h:zX x=a7 t):x=gC t:=by
 cases x with
 |f6 l=>
  rcases l with _|⟨x,_|⟨y,_|⟨z,_|⟨w,_|(_|_)⟩⟩⟩⟩;all_goals first|ext h;done|skip
  show cC h ?_;clear h;intro k h1 h;show cC h ?_;clear h;intro m c h;show cC h ?_;clear h;intro b a h;let(n,d,?r):=Ľ.Z h;rw[vJ h1,vJ c,vJ d];cases z with
  |bl=>ext a;rfl|_=>ext a
 |_=>ext h
def wD!:ab D->af (ab Ti)
 |[]=>a7 []|x::r=>(zX x).U λt=>(wD r).o (t::·)
def IE:∀{xs}{ts},wD xs=a7 ts->xs=ts.o gC
 |[],_,h=>by ext h;rfl
 |x::xs,ts,h=>by show cC h ?_;clear h;intro t h1 h;let(r,a,?r):=Ľ.Z h;rw[WI h1,IE a];rfl
def oS!(ts:ab Ti):am->am->av:=λi j=>zW (ts.I i nN)<|ts.I j nN
def tX!:MF:=λds μ=>match ds with
 |[x]=>(fZ μ x).U λb=>(wD b).U λa=>if oR a then a7 ⟨.z μ.f,μ++[.D<|(dN (oS a) a.f).o λi=>b.I i .kf]⟩else b0|_=>b0
inductive UX (K:Ï)(H:Hp)(v:V)(t:Ti):Prop
 |mk (a b c e:ar)(g:v=.x a)(s:à K H a [.x b,.x c,.bl t.2.2.1,.x e])(s1:à K H b (t.1.o V.p))(s2:à K H c (t.2.1.o V.p))(s3:à K H e (t.2.2.2.o V.p))
inductive Ű (K:Ï):gz->Hp->VK->Prop
 |mk {H:Hp}{Q:VK}{q:ar}{ws:gz}{ts:ab Ti}(hq:Ā K H q ws)(hw:ύ (UX K H) ws ts)(h:oR ts)(k:∀l,H l=b0->Q (.x l) (eo H l<|.D<|(dN (oS ts) ws.f).o λi=>ws.I i .kf)):Ű K [.x q] H Q
def IG{K:Ï}:∀{vs}{ts},È K π n H vs (ts.o gC)->ύ (UX K H) vs ts
 |_,[],h=>by ext h;show .kk
 |_,t::ts,h=>by
  cases h with
  |bm h r=>
  show .zv ?_<|IG r;cases h with
  |@f6 a vs ds k hd=>
  cases hd with
  |bm d hd=>
  cases hd with
  |bm g hd=>
  cases hd with
  |bm i hd=>
  cases hd with
  |bm j hd=>
  ext hd;ext i;let(b,?r,o):=wC d;let(c,?r,p):=wC g;let(e,?r,q):=wC j;show(a,b,c,e,?r,k,o,p,q)
open _root_ in
def WJ{K:Ï}:e8 K tX (Ű K):=by
 intro y H x w d u v Q R i a k;unfold tX at a;split at a
 .let(s,h1,a):=ń.Z a;show cC a ?_;clear a;intro c j a;split at a
  .rename_i n;ext a;cases i with
   |bm i t=>
    ext t;let(p,g,?r,q,hd):=vK R i h1;let b:=hd;rw[IE j]at b;let o:g.f=c.f:=by rw[b.f,Ä]
    show .mk q (IG b) n λl e=>?_;let(h,R2,_):=R.alloc (c:=.D ((dN (oS c) c.f).o λi=>s.I i .kf)) (o:=.D ((dN (oS c) g.f).o λi=>g.I i .kf)) e<|by
     change È _ _ _ _ _ _;rw[o];show Hk hd _
    show k _ _ _ h R2 lG
  .ext a
 .ext a
def IH(h:Æ vs us):∀l:ab am,Æ (l.o λi=>vs.I i .kf) (l.o λi=>us.I i .qo)
 |[]=>.kk|i::l=>by
  show .zv ?_<|IH h l;let z:=h.f;cases e:vs[i]? with
  |bb v=>let(u,a,b):=h.get e;dsimp[į,e,a];show b|bp=>have:=h.none_of e;dsimp[į,e,ah];rfl
def CF{σ:_2.St}(I:Â X Do σ H s)(h:à X.K H b (k.o V.p)):mH X.Y X.w s.k b k:=by let(b5,r,t,_):=I.kl h;show(nI I h,b5,t,xZ r)
def WK(h:Æ [.x b,.x c,.bl t,.x e] us):us=[.x b,.x c,.kt t,.x e]:=by
 cases h with
 |bm a h=>
 cases h with
 |bm d h=>
 cases h with
 |bm g h=>
 cases h with
 |bm i h=>
 ext h;ext a;ext d;ext g;ext i;rfl
open _root_ in
def WL(hun:X.A.qv+64<ă):ß X (.zn "sorted") (Ű X.K):=by
 intro B s σ H xs us Q I r h;let(M,hw,w,k):=h;rename_i q K j;let(u,?r,G):=hJ r;ext G;let(b5,A,pl,N):=I.vu M;let p:=A.f;let E:j.f=K.f:=hw.f.R;let y:∃v:ab ar,b5=v.o Ñ/\∀i,i<v.f->∃b c e,à X.K H (v.I i 0) [.x b,.x c,.bl (j.I i nN).2.2.1,.x e]/\à X.K H b ((j.I i nN).1.o V.p)/\à X.K H c ((j.I i nN).2.1.o V.p)/\à X.K H e ((j.I i nN).2.2.2.o V.p):=by
  clear N pl k M I p E w;induction hw generalizing b5 with
  |fk=>ext A;show([],?r,λi hi=>nomatch hi)|bm h _ ih=>
   cases A with
   |bm r1 r2=>
    let(v,e,f):=ih _ r2;let(a,b,c,d,?r,t,t1,t2,t3):=h;ext r1;show(a::v,by rw[e];rfl,λi hi=>?_);cases i with
    |ij=>show(b,c,d,t,t1,t2,t3)|im i=>apply f i (by apply hi)
 let(v,L,pr):=y;let hal:v.f=b5.f:=by rw[L,Ä]
 let x:b5.f<64:=by have:j.f<64:=w;lia
 show WE (us:=b5) (an:=oS j) x pl.xc (λh2 h3 kp=>?_) ?_
 .rw[L];show WD (by rw[lX,lX];lia) () () λi hi=>?_;let(b,c,e,g,U,Y,Z):=pr i hi;let J:Â X B σ H {s with ce:=h3,dL:=s.xh}:=I.vx (t':=s.xh) kp;obtain(us|G|(o|O|R|n|T)|_):=J.kl g;obtain rfl:=WK G;show(o,n,b,c,e,O,R,T,CF J U,CF J Y,CF J Z)
 .let(e,he):=sortedAll_at s.k b5 ((dN (oS j) b5.f).o λi=>b5.I i ļ).E;show(.x<|s.k.y.q+1,_,I.laid (t':=s.xh) (a:=s.k.y.q+1) (o:=.D ((dN (oS j) K.f).o λi=>K.I i .kf)) (λb ob z=>sortedAll_old z) (dj _) ?_,?r,k _<|I.vr.xo<|dj _);show(?_,_,e,?_,he)
  .rw[Ä,(mD _ _).length_eq,ql];show N
  .rw[<- p];show IH A _
end _3
namespace _3
open PySem _2
section
variable{P:Ŧ}{w:ņ}{K:Type} [DecidableEq K] {knd:NV P w K}{A:ų}{E:Value->Ø->Prop}{s:Ø}{d o a:Addr}{k:K}{xs ys:List (K×Addr×Value)}
def WM(N:hR.room A)(J:hR.is s.k k a)(M:s.k.DictOfH hR d xs)(hz:xs.f<=Ò)(q:∀h',h'.DictOfH hR d (Ϫ xs k a v)->ū d s.k h'->Q ld.unit {s with ce:=h'}):
  Ç (Ê P w) A (O2 d (.x a) (hR.hash k) v) Q E s:=by
 let(ob,L,H,c,hc,hd,B,h,n):=id M;ext O2;show Ņ<|Á<|Sa N J c hd B h n (λu=>?_) λj p I=>?_
 .let i:=S9 u;let z:k∉xs.o (·.1):=SY u;show Á<|Ϛ<|Sj (hz:=by let e:=OA B;lia) c hd<|q _ (_,_,H+1,τ _ c<|N4<|qz hd _,hc.mapDictKeys _,qz hd _,?_,λx b=>?_,?_)<|ž ..
  .rw[pC i];simp[B,zg]
  .rw[pC i]at b;rcases Ĺ.Z b with b|b
   .show hR.keeps (h x b) c hd<|ž ..
   .rw[ġ]at b;subst b;show hR.keeps J c hd<|ž ..
  .rw[pC i,Ć,fB];show(n,∅,λx b y G e=>by
    dsimp[í,du,ġ]at G;subst G;show z<|e▸b)
 .let g:=atKey_of_get n I;show Á<|Ϛ<|Á<|wpAny_updateDict c hd<|wpAny_point<|q _ (_,_,H,τ _ c<|N4<|Sf hd _,hc.mapDict _,Sf hd _,?_,λx b=>?_,?_)<|ž ..
  .let t:=modify_map_putAt (zg hR) (λe:eg=>{e with val:=v}) k v (λ_ f=>rfl) n I;rw[PF g];rw[<- B]at t;let⟨l⟩:=L;apply t
  .rw[PF g]at b;let(y,G,?r):=Ü.Z b;ext putAt;lk<;>show hR.keeps (h y G) c hd<|ž ..
  .rw[PF g,keys_map_putAt];show n
def lP!(xs ys:ab (K×ar×ax)):ab (K×ar×ax):=ys.foldl (λfz x=>Ϫ fz x.1 x.2.1 x.2.2) xs
def WN xs(k:K)a v:(Ϫ xs k a v).f<=xs.f+1:=by
 ext Ϫ;lk
 .rw[Ä];lia
 .rw[ô];show Ô _
def II:∀(ys xs:ab (K×ar×ax)),(lP xs ys).f<=xs.f+ys.f
 |[],xs=>Ô _|y::ys,xs=>by let h1:=II ys<|Ϫ xs y.1 y.2.1 y.2.2;let b:=WN xs y.1 y.2.1 y.2.2;change(lP (Ϫ xs y.1 y.2.1 y.2.2) ys).f<=_;rw[ĩ];lia
def IJ:∀(ys xs:ab (K×ar×ax)),((xs++ys).o (·.1)).J->lP xs ys=xs++ys
 |[],xs,_=>(Ĭ xs).R|y::ys,xs,h=>by
  let b:ϗ xs y.1=bp:=by
   ext ϗ;rw[fc.v]
   .rfl
   .intro x c;rw[cx];intro e;rw[Ć,í]at h;show(fB.Z h).2.2 x.1 (Ü.v (x,c,?r)) y.1 (.head _) e
  change lP (Ϫ xs y.1 y.2.1 y.2.2) ys=_;rw[pC b,IJ ys _<|by rw[Θ];show h,Θ];rfl
open _root_ in
def WO(hu:hR.room A)(p:(d==o)=b3)(hoS:(o==Ļ)=b3)(hd:s.k.DictOfH hR d xs)(ho:s.k.DictOfH hR o ys)(tt:∀y∈ys,s.TypeIs (.x y.2.1) "tuple")(nh:(ys.o λy=>hR.hash y.1).J)(hz:xs.f+ys.f<=Ò)(q:∀c,c.DictOfH hR d (lP xs ys)->ū d s.k c->Q ld.unit {s with ce:=c}):Ç (Ê P w) A (Qn nm d o) Q E s:=by
 let(od,ed,Z,T,d2,I,d4,d5,d6):=id hd
 let(oo,g,epo,o1,o2,o3,R,o5,o6):=id ho
 let hne:d≠o:=λe=>by rw[e,cp]at p;ext p
 let lo:=OA R
 ext Qn
 rw[ac<|by rw[p];show þ]
 ext jy
 rw[ac<|by rw[hoS];show þ]
 show Á<|É<|Á<|Υ o1 o3 ?_
 let j:Ç (Ê P w) A (do
   let n <- dictEpoch o
   let l <- dictEntries o
   ox [:l.q] ur λi (_:n5)=>(do
     let l' <- dictEntries o
     match l'[i]? with
      |bb e=>do
       ip [e.key,e.val] (O2 d e.key e.hash e.val)
       let Y <- dictEpoch o
       if(Y != n)=b4 then do
         (unsupported (f7 nm++f7 ":source-changed-during-callback"):ϩ n5)
         ej (gh ur)
        else ej (gh ur)
      |_=>do
       (unsupported "internal:dict-merge":ϩ n5)
       ej (gh ur):ϩ (ForInStep n5))
   ej ld.unit) Q E s:=by
  show Á<|g8 o1 o3<|Á<|Υ o1 o3<|Á ?_
  rw[b6a]
  dsimp[b5Z,PL,am.add_sub_cancel,am.div_one]
  show Pd _ (λcN a s'=>∃c i,s'={s with ce:=c}/\cN=uw i (g.q-i)/\i<=g.q/\c.DictOfH hR d (lP xs<|ys.ze i)/\c.G o=a7 oo/\(∀y∈ys,hR.is c y.1 y.2.1)/\ū d s.k c)
   _ ?_ ?_ _ _ (s.k,0,?r,∅,Ŝ _,by rw[zy];show hd,o1,o5,Ob _ _)
  .rintro x cN b s' (c|i|rfl|v|hi|h|u|H|B)
   let hlt:i<g.q:=by
    rcases RN i g.q with z|z
    .show z
    .rw[am.sub_eq_zero_of_le z]at v;ext v
   rw[show g.q-i=(g.q-(i+1))+1 by lia,OR]at v
   injection v with e1 e2
   subst e1
   let hx:x<ys.f:=()
   let en:=entry_at R x
   rw[Ċ hx]at en
   show Á<|Υ u o3 ?_
   rw[en]
   let hl2:(lP xs<|ys.ze x).f<=Ò:=by
    have:=II (ys.ze x) xs
    rw[ţ]at ah
    lia
   let(od',_,_,U,_,X,_):=id h
   change Ç _ _ (ip [_,_] (O2 d (.x ys[x].2.1) (hR.hash ys[x].1) ys[x].2.2) >>= _) _ _ _
   show Á<|Ņ<|WM (s:={s with ce:=c}) hu (H _<|uz hx) h hl2 λh2 J G=>?_
   let N:h2.G o=a7 oo:=(G.2 o<|ì hne).u u
   show Á<|g8 (s:={s with ce:=h2}) N o3 ?_
   rw[ac ∅]
   show É (h2,x+1,?r,e2,hlt,?_,N,λy O=>hR.keeps (H y O) U X G,B.u G)
   let et:ys.ze (x+1)=ys.ze x++[ys[x]]:=by rw[qm,Ċ hx];rfl
   rw[et]
   unfold lP at J ⊢
   rw[Qa]
   show J
  .rintro b s' (c|i|rfl|v|hi|h|u|H|B)
   let hin:i=g.q:=by
    rcases RN i g.q with z|z
    .rw[show g.q-i=(g.q-(i+1))+1 by lia,OR]at v;show nomatch v
    .show am.le_antisymm hi z
   rw[hin,lo,ź]at h
   show É<|q c h B
 dsimp
 lk
 .show Á<|Υ T I ?_
  lk
  .rename_i L
   let xn:xs=[]:=by
    let z:ed=#[]:=TB.Z L
    have:=OA d4
    rw[z]at ah
    show xg.Z ah.R
   subst xn
   let ek:g.zh.o (·.key)=(ys.o (·.2.1)).o Ñ:=by
    rw[R,æ,æ]
    rfl
   show Á<|Ij (bs:=ys.o (·.2.1)) (oo,o1,o2,o3) ek (λb hb=>?_) ?_ ?_
   .let(y,O,?r):=Ü.Z hb
    show tt y O
   .rw[R,æ]
    show nh
   let em:lP [] ys=ys:=IJ ys [] o6
   rw[em]at q
   lk
   .show Á<|T9 T I (É<|q _ (_,_,Z+1,τ _ T<|N4<|qz I _,d2.mapDictKeys _,qz I _,R,λy O=>hR.keeps (o5 y O) T I<|ž ..,o6)<|ž ..) ?_
    rw[uy,am.zero_add]at hz
    lia
   .rename_i M
    let z:g=#[]:=TB.Z<|by apply M
    let yn:ys=[]:=by
     rw[z]at lo
     show xg.Z lo.R
    subst yn
    show É<|q _ hd<|Ob _ _
  .show j
 .show j
def WQ(hR:NV P w K)d o:yq P w (ez.«dict.update» ([.x d,.x o],[])) (λA R s=>hR.room A.in1/\(d==o)=b3/\(o==Ļ)=b3/\∃xs ys,s.k.DictOfH hR d xs/\s.k.DictOfH hR o ys/\(∀y∈ys,s.TypeIs (.x y.2.1) "tuple")/\(ys.o λy=>hR.hash y.1).J/\xs.f+ys.f<=Ò /\
   ∀b,b.DictOfH hR d (lP xs ys)->ū d s.k b->R (.ok<|.ret .qo) {s with ce:=b}):=
 .of_wp λA R s (j,g,h,xs,ys,hd,c,u,p,n,q)=>by unfold ez.«dict.update»;show Á ?_;ext Qz;show Á<|rE hd.ja<|É ?_;change Ç _ _ (xj "dict.update" d (.x o) [] .qo) _ _ s;ext xj;show Á<|ul c.ja ?_;rw[ac ⋯];show Á ?_;ext Tc UM;show Á<|Á<|gf c.ja SX ?_;dsimp[ϭ,Ī,cm];show Á<|qu c.ja F.slot_dict_iter.B<|É ?_;dsimp[cp,cy];show Á<|É<|WO j g h hd c u p n λb e i=>?_;change Ç _ _ (UL d [] >>= _) _ _ _;show Á<|É<|É (.qo,?r,q b e i)
end
def rW!(ps qs:bX):bX:=qs.foldl (λq p=>fV q p.1 p.2.1 p.2.2) ps
def tY!(ay ge:jx):jx:=ge.foldl (λq p=>cK q p.1 p.2) ay
def rX!:D->ab D->Hm->jk
 |.z a,[.z b],μ=>match μ[a]?,μ[b]? with
  |bb<|.dT ay,a7 (.dT ge)=>if ay.f+ge.f<=Ò/\(ge.o λp=>Tb.hashT p.1).J/\a≠b then a7 ⟨.kf,μ.xl a<|.dT<|tY ay ge⟩else b0|_,_=>b0
 |_,_,_=>b0
def IK!(K:Ï):V->gz->Hp->VK->Prop:=λx vs H Q=>∃a b ps qs,x=.x a/\vs=[.x b]/\H a=a7 (aN a ps)/\eY K H ps/\H b=a7 (aN b qs)/\eY K H qs/\a≠b/\ps.f+qs.f<=Ò/\(qs.o λp=>Tb.hashT p.1).J/\Q .kf (eo H a<|aN a<|rW ps qs)
def ñ.upd:∀{qs}{ge},ñ K π n H qs ge->∀{ps}{ay},ñ K π n H ps ay->ñ K π n H (rW ps qs) (tY ay ge)
 |_,_,.kk,_,_,h=>h|p::qs,m::ge,.zv e t,ps,ay,h=>by let(b,c,d):=e;let a:=h.put p.1 c d;rw[show cK ay p.1 m.2=cK ay m.1 m.2 by rw[b]]at a;show ñ.upd t a
def IL:∀qs ps,(rW ps qs).f<=ps.f+qs.f
 |[],ps=>Ô _|q::qs,ps=>by let h1:=IL qs<|fV ps q.1 q.2.1 q.2.2;let a:=vT ps q.1 q.2.1 q.2.2;change(rW (fV ps q.1 q.2.1 q.2.2) qs).f<=_;rw[ĩ];lia
def IM:∀{qs}{us},Æ (qs.o (·.2.2)) us->∀{ps}{ws},Æ (ps.o (·.2.2)) ws->∃a,Æ ((rW ps qs).o (·.2.2)) a/\lP (cP ps ws) (cP qs us)=cP (rW ps qs) a
 |[],_,.kk,ps,ws,r=>(ws,r,?r)|q::qs,_,.zv ru t,ps,ws,r=>by let(h,d,b):=zI r q.1 q.2.1 ru;let(g,e,c):=IM t d;show(g,e,?_);change lP (Ϫ (cP ps ws) q.1 q.2.1 _) (cP qs _)=_;rw[b];show c
open _root_ in
def WR:l9 K rX (IK K):=by
 intro M H X x O d L v N Q R A h a k;unfold rX at a;split at a
 .split at a
  .rename_i i ge hc g;split at a
   .rename_i z;let(U,I,J):=z;ext a;cases A with
    |lp n=>
     cases h with
     |bm B t=>
      cases t;cases B with
      |lp y=>
       let(o,j,T):=jC R hc;let(c,s,b):=jC R g;let E:=br ģ T.to.1;let G:=br ģ b.to.1;rw[Ä,Ä]at E G;let(u,q):=R.put (c:=.dT (tY i ge)) (o:=aN _ (rW o c)) n j (.X<|.X (_,?r)) (_,?r,(b.upd T).to);show(_,_,o,c,?r,?r,j,T.keys,s,b.keys,λe=>J<|R.inj _ _ n y e,(),?_,k M _ _ u q .kf);let w:(c.o λp=>Tb.hashT p.1)=(c.o (·.1)).o Tb.hashT:=by rw[æ];rfl
       rw[w,b.to.1,æ];show I
   .ext a
  .ext a
 .ext a
def WS(U:X.A.qv+1<ă):mZ X "dict.update" (IK X.K):=by
 intro z s σ H x vs v us Q I w rv h;let(a,b,ps,k,?r,?r,e,M,B,c,ne,Z,nh,q):=h;ext w;let(u,?r,ru):=hJ rv;obtain rfl:u=Ñ b:=ru;let(T,hl,ws,r,d):=lO I (.of e) M;let(j,N,o,n,A):=lO I (.of B) c;let len:∀{ps:bX}{ws:gw},Æ (ps.o (·.2.2)) ws->(cP ps ws).f=ps.f:=λr=>by have:=br ģ<|oP r;rwa [Ä,Ä]at ah
 show qg U9 d.ja ci.F.entry_dict_update (ci.F.args_dict_update_2 _ _) (WQ (Ϭ<|ŷ X.Y X.w) a b) (rO U,cv.v ne,j,_,_,d,A,λy Y=>?_,?_,by rw[len r,len n];show Z,λK g ss=>?_)
 .let(p,O,J):=Cf Y;obtain(b5|w|(ot|E|i|_)|_):=I.kl<|c p O;rw[<- J.2];show(ot,E,i)
 .let G:((cP k o).o λy=>(Ϭ<|ŷ X.Y X.w).hash y.1)=k.o λp=>Tb.hashT p.1:=by have:=br (zc Tb.hashT)<|oP n;rw[æ,æ]at ah;show ah
  rw[G];show nh
 .let(w2,r2,i):=IM n r;rw[i]at g;let L:∃q,K.G a=a7 q:=let(q,_,_,R,_):=g;(q,R);show(.kf,_,xY I (by rw[e];show ϛ) ss L<|vU T (by have:=IL k ps;lia) r2 g,?r,q)
noncomputable abbrev iL(h:ê)(T:ar)(a b c:ax):Prop:=h.G T=a7 {cw:=.O "tuple",bv:=.seq #[a,b,c]}
def Μ!(n c:am):Prop:=c≠n+5/\c≠n+4/\c≠n+0/\c≠n+1/\c≠n+2
def cL(h:a≠b):@Ne am (n+a) (n+b):=λe=>h<|am.add_left_cancel e
def oT a(h:l<n):@Ne am l (n+a):=ý<|Ŏ h<|Q9 n a
def CG(e:iL s.k T a b c)(h:∀d,d.G T=a7 {cw:=.O "tuple",bv:=.seq<|(#[a,b,c]:eh ax).setIfInBounds k x}->ū T s.k d->Q ld.unit {s with ce:=d}):
  Ç (Ê dv w) A (nj T (·.setIfInBounds k x)) Q E s:=by
 show gA e ?r<|h _ ?_<|ž ..;rw[τ _ e ?r];simp[ly]
def F3.typeCall a b c:checkTypeCall "zip" ([a,b,c],[])=ej ld.unit:=""
def F3.newCall a b c:checkBuiltinCall "zip.__new__" ([.O "zip",a,b,c],[])=ej ld.unit:=""
def F3.args a b c d:NR "object.__init__" ([a,b,c,d],[]):=by ext NR;rw[signature?_of (id:="object.__init__") (n:=['_','_','t','i','n','i','_','_']) (o:=['t','c','e','j','b','o']) "" F.owner_object];kernel_rfl
def CH{d l:am}(j:A.xt=b0)(h1:ú b s.k d l k)(g:ŉ b s.k l xs){TI TO:ar}(hz:Ο s.k z TI TO f)(ne:d≠z)(p:∀x c,xs[k]?=a7 x->ú b c d l (k+1)->ū d s.k c->Q x {s with ce:=c})(n:∀c e,xs[k]?=b0->ϰ d s.k c->e≠z->(∃o,c.G e=a7 o/\o.cls=.O "StopIteration")->E (.x e) {s with ce:=c}):
  Ç (Ê dv w) A (bf<|.x d) Q E s:=by
 cases e:xs[k]? with
 |bb x=>show Ir h1 g e λc a b=>p x c e a b|bp=>show Iu j h1 g e λc r a b=>n c r e a ?_ b;let(o,h,hc):=b;intro i;subst i;rw[a _ _ (ì ne) hz]at h;ext h;simp at hc
def IP{n:am}(hh:A.xt=b0)(d1:l1<n)(d2:l2<n)(d3:l3<n)(hz:Ο s.k (n+5) (n+3) (n+4) .qo)(hTI:iL s.k (n+3) (.x<|n+0) (.x<|n+1) (.x<|n+2))(hTO:iL s.k (n+4) a b c)(h1:ú p s.k (n+0) l1 k)(h2:ú q s.k (n+1) l2 k)(h3:ú r s.k (n+2) l3 k)(hl1:ŉ p s.k l1 xs)(hl2:ŉ q s.k l2 ys)(hl3:ŉ r s.k l3 zs)(hQ:∀x y v M,xs[k]?=a7 x->ys[k]?=a7 y->zs[k]?=a7 v->Ο M (n+5) (n+3) (n+4) (Ł s.k.y.q)->iL M (n+4) x y v->ú p M (n+0) l1 (k+1)->ú q M (n+1) l2 (k+1)->ú r M (n+2) l3 (k+1)->
   iL M s.k.y.q x y v->(∀c o,Μ n c->s.k.G c=a7 o->M.G c=a7 o)->Q (a7<|.x s.k.y.q) {s with ce:=M})(hE:∀M,(xs[k]?=b0\/ys[k]?=b0\/zs[k]?=b0)->(∀c o,Μ n c->s.k.G c=a7 o->M.G c=a7 o)->Q b0 {s with ce:=M}):
  Ç (Ê dv w) A (Ō<|.x<|n+5) Q E s:=by
 let hT:s.TypeIs (.x<|n+5) "zip":=(_,hz,?r);let stop:∀M e,(xs[k]?=b0\/ys[k]?=b0\/zs[k]?=b0)->(∀c o,Μ n c->s.k.G c=a7 o->M.G c=a7 o)->(∃o,M.G e=a7 o/\o.cls=.O "StopIteration")->
   Ç (Ê dv w) A (do if <- isInstance (.x e) (.O "StopIteration")then ej b0 else throw (.x e)) Q E {s with ce:=M}:=λM e hn hk (o,ho,hc)=>
  Á<|gf (T:="StopIteration") (b:=b4) (o,ho,hc) CR<|É<|hE _ hn hk
 ext Ō;show Á<|uo<|kh (fg:=ŝ "__next__") hT F.slot_zip_next<|Ÿ F.slot_zip_next hT F.entry_zip_next ?_<|F.args_zip_next_1 _;change Ç _ _ (Y0 (.x<|n+5) 2 >>= _) _ _ _;show Á<|ť hz ?r (x:=.kt b3) ?r ?_;change Ç _ _ (Y0 (.x<|n+5) 3 >>= _) _ _ _;show Á<|ť hz ?r (x:=.x (n+3)) ?r ?_;show Á<|ϝ hTI ?r ?_;change Ç _ _ (Oh (.x<|n+5) >>= _) _ _ _;show Á ?_;ext Oh;show Á<|ť hz ?r (x:=.qo) ?r<|É ?_;dsimp[cy];show Á<|Ϛ ?_;show Á<|ť hz ?r (x:=.x (n+4)) ?r ?_;show Á (Ι hz ∅ λg₁ H i=>?_);replace H:Ο g₁ (n+5) (n+3) (n+4) .ellipsis:=H;show Á ?_;dsimp[ab.zipIdx_cons,ab.zipIdx_nil,Q6,Rk];show Á<|Á<|Pa ?_;change Ç _ _ (bf (.x<|n+0) >>= _) _ _ _;show Á (CH hh (h1.ext i.V<|cL ⋯) (hl1.ext i.V<|oT 5 d1) H (cL ⋯) (λx g₂ hx yo d=>É ?_) λg₂ e hx d hez he=>?_);rotate_left
 .show let(o,ho,hc):=he;Ι (d _ _ (cL ⋯) H) ∅ λR f g=>stop R e (.Q hx) (λc o' hc e=>g.V _ _ hc.1<|d _ _ hc.2.2.1<|i.V _ _ hc.1 e) (o,g.V _ _ hez ho,hc)
 let hz₂:Ο g₂ (n+5) (n+3) (n+4) .ellipsis:=d.V _ _ (cL ⋯) H;let X:iL g₂ (n+4) a b c:=d.V _ _ (cL ⋯) (i.V _ _ (cL ⋯) hTO);show Á<|ϝ X ?r ?_;show Á<|CG X λR J g=>?_;replace J:iL R (n+4) x b c:=J;show Á<|J1<|É ?_;show Á<|Á<|Pa ?_;change Ç _ _ (bf (.x<|n+1) >>= _) _ _ _;let N:Ο R (n+5) (n+3) (n+4) .ellipsis:=g.V _ _ (cL ⋯) hz₂;show Á (CH hh (((h2.ext i.V<|cL ⋯).ext d.V<|cL ⋯).ext g.V<|cL ⋯) (((hl2.ext i.V<|oT 5 d2).ext d.V<|oT 0 d2).ext g.V<|oT 4 d2) N (cL ⋯) (λy g₄ hy yl j=>É ?_) λg₄ e hy j hez he=>?_);rotate_left
 .show let(o,ho,hc):=he;Ι (j _ _ (cL ⋯) N) ∅ λT f u=>stop T e (.X<|.Q hy) (λc o' hc e=>u.V _ _ hc.1<|j _ _ hc.2.2.2.1<|g.V _ _ hc.2.1<|d.V _ _ hc.2.2.1<|i.V _ _ hc.1 e) (o,u.V _ _ hez ho,hc)
 let hz₄:Ο g₄ (n+5) (n+3) (n+4) .ellipsis:=j.V _ _ (cL ⋯) N;let Y:iL g₄ (n+4) x b c:=j.V _ _ (cL ⋯) J;show Á<|ϝ Y ?r ?_;show Á<|CG Y λT K u=>?_;replace K:iL T (n+4) x y c:=K;show Á<|J1<|É ?_;show Á<|Á<|Pa ?_;change Ç _ _ (bf (.x<|n+2) >>= _) _ _ _;let O:Ο T (n+5) (n+3) (n+4) .ellipsis:=u.V _ _ (cL ⋯) hz₄;show Á<|CH hh (((((h3.ext i.V<|cL ⋯).ext d.V<|cL ⋯).ext g.V<|cL ⋯).ext j.V<|cL ⋯).ext u.V<|cL ⋯)
  (((((hl3.ext i.V<|oT 5 d3).ext d.V<|oT 0 d3).ext g.V<|oT 4 d3).ext j.V<|oT 1 d3).ext u.V<|oT 4 d3) O (cL ⋯) (λv g₆ hv yh z=>É ?_) λg₆ e hv z hez he=>?_
 rotate_left
 .show let(o,ho,hc):=he;Ι (z _ _ (cL ⋯) O) ∅ λh f B=>stop h e (.X<|.X hv) (λc o' hc e=>B.V _ _ hc.1<|z _ _ hc.2.2.2.2<|u.V _ _ hc.2.1<|j.V _ _ hc.2.2.2.1<|g.V _ _ hc.2.1<|d.V _ _ hc.2.2.1<|i.V _ _ hc.1 e) (o,B.V _ _ hez ho,hc)
 let hz₆:Ο g₆ (n+5) (n+3) (n+4) .ellipsis:=z.V _ _ (cL ⋯) O;let Z:iL g₆ (n+4) x y c:=z.V _ _ (cL ⋯) K;show Á<|ϝ Z ?r ?_;show Á<|CG Z λh G B=>?_;replace G:iL h (n+4) x y v:=G;show Á<|J1<|É<|É ?_;show Á<|ϝ G ?r ?_;show Á<|N0 ?_;let hsz:h.y.q=s.k.y.q:=by rw[B.1,z.1,u.1,j.1,g.1,d.1,i.1]
 let hz₇:Ο h (n+5) (n+3) (n+4) .ellipsis:=B.V _ _ (cL ⋯) hz₆;let hk₇:∀c o,Μ n c->s.k.G c=a7 o->h.G c=a7 o:=λc o (c1,c2,c3,c4,c5) e=>B.V _ _ c2<|z.V _ _ c5<|u.V _ _ c2<|j.V _ _ c4<|g.V _ _ c2<|d.V _ _ c3<|i.V _ _ c1 e;let ym:ú p h (n+0) l1 (k+1):=((((yo.ext g.V<|cL ⋯).ext j.V<|cL ⋯).ext u.V<|cL ⋯).ext z.V<|cL ⋯).ext B.V (cL ⋯);let yj:ú q h (n+1) l2 (k+1):=((yl.ext u.V<|cL ⋯).ext z.V<|cL ⋯).ext B.V (cL ⋯);let yg:ú r h (n+2) l3 (k+1):=yh.ext B.V (cL ⋯);let hzlt:n+5<h.y.q:=Ý hz₇;change Ç _ _ (Oi (.x<|n+5) (.x h.y.q) >>= _) _ _ _;show Á ?_;ext Oi;let I:Ο (h.zl {cw:=.O "tuple",bv:=.seq #[x,y,v]}) (n+5) (n+3) (n+4) .ellipsis:=ä _ hz₇;show Á (Ι I ∅ λg₈ I hs₈=>?_);replace I:Ο g₈ (n+5) (n+3) (n+4) (Ł h.y.q):=I;show Ι I ∅ λU L hs₉=>?_;replace L:Ο U (n+5) (n+3) (n+4) (Ł h.y.q):=L;let up:∀c o,c≠n+5->h.G c=a7 o->U.G c=a7 o:=λc o c1 e=>hs₉.V _ _ c1<|hs₈.V _ _ c1<|ä _ e;let hT₉:iL U h.y.q x y v:=hs₉.V _ _ (š hzlt)<|hs₈.V _ _ (š hzlt)<|ÿ _ ?r;rw[hsz]at L hT₉;show É (_,?r,É ?_);change Q (a7<|.x h.y.q) _;rw[hsz];show hQ x y v U hx hy hv L (up _ _ (cL ⋯) G) (ym.at_ λo e=>up _ o (cL ⋯) e) (yj.at_ λo e=>up _ o (cL ⋯) e) (yg.at_ λo e=>up _ o (cL ⋯) e) hT₉ λc o hc e=>up c o hc.1<|hk₇ c o hc e
noncomputable abbrev wF(h:ê)(a:ar):ê:=h.zl {cw:=.O "list_iterator",bv:=.xi #[.x a,.p 0 0]}
noncomputable abbrev wG(h:ê)(a b:ar):ê:=(wF h a).zl {cw:=.O "tuple_iterator",bv:=.xi #[.x b,.p 0 0]}
noncomputable abbrev zY(h:ê)(a b c:ar):ê:=(wG h a b).zl {cw:=.O "tuple_iterator",bv:=.xi #[.x c,.p 0 0]}
noncomputable abbrev zZ(h:ê)(a b c:ar):ê:=(zY h a b c).zl {cw:=.O "tuple",bv:=.seq #[.x h.y.q,.x (wF h a).objs.size,.x (wG h a b).objs.size]}
noncomputable abbrev z7(h:ê)(a b c:ar):ê:=(zZ h a b c).zl {cw:=.O "tuple",bv:=.seq #[.qo,.qo,.qo]}
noncomputable abbrev rY(h:ê)(a b c:ar):ê:=(z7 h a b c).zl {cw:=.O "zip",bv:=.xi #[.qo,.kt b3,.kt b3,.x (zY h a b c).objs.size,.x (zZ h a b c).objs.size]}
def WT a b c xs x y:
  Meets (ez.«zip.__new__» ([.O "zip",.x a,.x b,.x c],[])) (λ_ R s=>s.k.IsList a xs/\s.k.ko b x/\s.k.ko c y /\
   R (.ok<|.ret<|.x (z7 s.k a b c).objs.size) {s with ce:=rY s.k a b c}):=
 .of_wp λdv w A R s h=>by let(p,g,d,u,q):=s;let(k,n,o,h):=h;let v:=sub_zip;let e:Heap.IsList (O8 (p,g,d,u,q)) a xs:=k;let i:Pk (O8 (wF p a,g,d,u,q)) b x:=zr n _;let j:Pk (O8 (wG p a b,g,d,u,q)) c y:=zr (zr o _) _;wp_walk using ww e,b7 i,b7 j;show(_,?r,h)
def WU{s:Ø}(j:s.k.IsList a xs)(k:s.k.ko b J)(p:s.k.ko d L)(h:∀g n,n=s.k.y.q->Ο g (n+5) (n+3) (n+4) .qo->iL g (n+3) (.x<|n+0) (.x<|n+1) (.x<|n+2)->iL g (n+4) .qo .qo .qo->g.IsListIter (n+0) a 0->g.IsTupleIter (n+1) b 0->g.IsTupleIter (n+2) d 0->
   (∀c o,s.k.G c=a7 o->g.G c=a7 o)->Q (.x<|n+5) {s with ce:=g}):
  Ç (Ê dv w) A (ia (.O "zip") [.x a,.x b,.x d]) Q E s:=by
 show callType_new F.called_zip ⋯ (F3.typeCall _ _ _) (F3.newCall _ _ _) (λq=>F3.args q _ _ _) F.entry_zip_new (WT a b d xs J L) (j,k,p,?_);let u:(wF s.k a).objs.size=s.k.y.q+1:=Χ ..;let v:(wG s.k a b).objs.size=s.k.y.q+2:=by rw[Χ,u]
 let y:(zY s.k a b d).objs.size=s.k.y.q+3:=by rw[Χ,v]
 let z:(zZ s.k a b d).objs.size=s.k.y.q+4:=by rw[Χ,y]
 let K:(z7 s.k a b d).objs.size=s.k.y.q+5:=by rw[Χ,z]
 let up:∀{h:ê} {c o x},h.G c=a7 o->(h.zl x).G c=a7 o:=λe=>ä _ e;let i:(rY s.k a b d).G (z7 s.k a b d).objs.size=a7 _:=ÿ _ ?r;let I:(rY s.k a b d).G (zZ s.k a b d).objs.size=a7 _:=up<|ÿ _ ?r;let H:(rY s.k a b d).G (zY s.k a b d).objs.size=a7 _:=up<|up<|ÿ _ ?r;let G:(rY s.k a b d).G (wG s.k a b).objs.size=a7 _:=up<|up<|up<|ÿ _ ?r;let B:(rY s.k a b d).G (wF s.k a).objs.size=a7 _:=up<|up<|up<|up<|ÿ _ ?r;let M:(rY s.k a b d).G s.k.y.q=a7 _:=up<|up<|up<|up<|up<|ÿ _ ?r;change _/\_;rw[y,z,K]at i;rw[u,v,y]at H;rw[z]at I;rw[v]at G;rw[u]at B;rw[K];show((_,i,?r),h _ _ ?r i H I (_,M,?r,?r) (_,B,?r,?r) (_,G,?r,?r) λc o x=>up<|up<|up<|up<|up<|up x)
def tZ!(x y z:D):gJ:=λμ i=>(bW μ x).U λxs=>(bW μ y).U λa=>(bW μ z).o λb=>(xs[i]?).U λd=>(a[i]?).U λe=>(b[i]?).o λf=>D.L [d,e,f]
def CI!(K:Ï)(a b c:ar):It:=
 (λi H=>∃d e g x y z,Ā K H a d/\à K H b e/\à K H c g/\d[i]?=a7 x/\e[i]?=a7 y/\g[i]?=a7 z,
   λi H z h=>∃p u v w,z=.x p/\H p=b0/\h=eo H p (.L [u,v,w])/\(∀d,Ā K H a d->d[i]?=a7 u)/\(∀e,à K H b e->e[i]?=a7 v)/\∀g,à K H c g->g[i]?=a7 w,
   λi H=>∃d e g,Ā K H a d/\à K H b e/\à K H c g/\(d.f<=i\/e.f<=i\/g.f<=i))
def jE!(n:am):ab ar:=[n+5,n+3,n+4,n+0,n+1,n+2]
def Μ.of{c:am}(h:c∉jE n):Μ n c:=by dsimp[jE,ē,Ϣ,gg,oi]at h;show(h.1,h.2.2.1,h.2.2.2.1,h.2.2.2.2.1,h.2.2.2.2.2)
def WV{a:am}(da:a<n)(db:b<n)(dc:c<n):
  ı Qc P w K (.va es kx pt) (CI K a b c) (jE n) (n+5) (λi h=>Ο h (n+5) (n+3) (n+4) .qo/\iL h (n+3) (.x<|n+0) (.x<|n+1) (.x<|n+2)/\(∃u v t,iL h (n+4) u v t)/\ú b3 h (n+0) a i/\ú b4 h (n+1) b i/\ú b4 h (n+2) c i) where
 mem:=.head _
 obj:=λi h (j,L,(u,v,t,O),Q,R,T) d hc=>by
  let hc':d=n+5\/d=n+3\/d=n+4\/d=n+0\/d=n+1\/d=n+2:=by simpa[jE]using hc
  rcases hc' with rfl|rfl|rfl|rfl|rfl|rfl
  .show(_,j,λq e=>nomatch e)
  .show(_,L,λq e=>nomatch e)
  .show(_,O,λq e=>nomatch e)
  .let(o,J,_,d):=Q.ob;show(o,J,λv e=>by rw[d]at e;ext e)
  .let(o,J,_,d):=R.ob;show(o,J,λv e=>by rw[d]at e;ext e)
  .let(o,J,_,d):=T.ob;show(o,J,λv e=>by rw[d]at e;ext e)
 fv:=λi h h' (j,L,(u,v,t,O),Q,R,T) k=>(k _ (by simp[jE]) _ j,k _ (by simp[jE]) _ L,(u,v,t,k _ (by simp[jE]) _ O),Q.at_ λo e=>k _ (by simp[jE]) o e,R.at_ λo e=>k _ (by simp[jE]) o e,T.at_ λo e=>k _ (by simp[jE]) o e);lm:=by
  intro X hP hw hK hc i Do s σ H E I hf (j,L,(u,v,t,O),Q,R,T) hg;subst hP hw hK;let(xs,ys,zs,x,y,z,hq,B,G,hx,hy,hz):=hg;let(b5,rv,p,_):=I.vu hq;let(M,U,p2,_):=I.kl B;let(N,Y,p3,_):=I.kl G;let(u1,iI,ru1):=rv.get hx;let(u2,hu2,ru2):=U.get hy;let(u3,hu3,ru3):=Y.get hz;let J:b5.E[i]?=a7 u1:=by apply iI
  let e2:M.E[i]?=a7 u2:=by apply hu2
  let e3:N.E[i]?=a7 u3:=by apply hu3
  show IP (p:=b3) (q:=b4) (r:=b4) (I.ok.hd hc) da db dc j L O Q R T p.xc p2 p3 (λw1 w2 w3 h1 f1 f2 f3 a1 a2 a3 a4 a5 a6 hk=>(_,?r,T3 a1 λh2 b1 g=>?_)) λh' A f=>?_
  .cases J.R.u f1;cases e2.R.u f2;cases e3.R.u f3;let ne:∀{c o},s.k.G c=a7 o->s.k.y.q≠c:=λe=>š<|Ý e;let ht2:h2.G s.k.y.q=a7 {cw:=.O "tuple",bv:=.seq #[u1,u2,u3]}:=(g.2 _<|ne j).u a6;let hfr:H s.k.y.q=bp:=I.vr.xo<|Ô _;let g2':iL h2 (n+3) (.x<|n+0) (.x<|n+1) (.x<|n+2):=(g.2 _<|cL ⋯).u (hk _ _ (cL ⋯,cL ⋯,cL ⋯,cL ⋯,cL ⋯) L);show(.x s.k.y.q,eo H s.k.y.q<|.L [x,y,z],?_,?r,(s.k.y.q,x,y,z,?r,hfr,?r,λws hw=>by rw[I.list_inj hw hq];show hx,λws hw=>by rw[I.tuple_inj hw B];show hy,λws hw=>by rw[I.tuple_inj hw G];show hz),
    (b1,g2',(_,_,_,(g.2 _<|cL ⋯).u a2),a3.ext g.V<|cL ⋯,a4.ext g.V<|cL ⋯,a5.ext g.V<|cL ⋯),λc Z=>?_)
   .show zG (s:=s) (h':=h2) (t':=s.xh) (ch:=jE n) I (λc oc Z ec=>?_) hf (Ô _) ?_
    .have o:=Μ.of Z;show(g.2 c o.1).u<|hk c oc o ec
    .show(by change(3:am)<=Ò;decide,[u1,u2,u3],.zv ru1<|.zv ru2<|.zv ru3 .kk,_,ht2,?r,0,?r,?r)
   .let A:=(hf c Z).1;rw[bV]
    .show A
    .intro er;subst er;let hb':s.k.y.q=n+5\/s.k.y.q=n+3\/s.k.y.q=n+4\/s.k.y.q=n+0\/s.k.y.q=n+1\/s.k.y.q=n+2:=by simpa[jE]using Z
     let l:n+5<s.k.y.q:=Ý j;lia
  .exfalso;rcases A with A|A|A
   .cases J.R.u A
   .cases e2.R.u A
   .cases e3.R.u A
 k4:=by intro X hP hw hK hc i Do s σ H E I hf (j,L,(u,v,t,O),Q,R,T) hg;subst hP hw hK;let(xs,ys,zs,hq,B,G,hx):=hg;let(b5,rv,p,_):=I.vu hq;let(M,U,p2,_):=I.kl B;let(N,Y,p3,_):=I.kl G;let lt:∀{l:gw}{w:ax},l.E[i]?=a7 w->i<l.f:=λe=>(ã.Z<|by apply e).1;show IP (p:=b3) (q:=b4) (r:=b4) (I.ok.hd hc) da db dc j L O Q R T p.xc p2 p3 (λw1 w2 w3 h1 f1 f2 f3 f f f f f f f=>?_) λh' A eb=>(?r,Ca (t':=s.xh) (ch:=jE n) I (λc o Z e=>eb c o (Μ.of Z) e) hf);let m1:=lt f1;let m2:=lt f2;let m3:=lt f3;let k1:=rv.f;let k2:=U.f;let k3:=Y.f;exfalso;lia
 lh:=λ_ _ _ _ _ (j,_) h=>OC j h
def wH!(ms:MA):MI:=λb μ=>(ms b μ).U λp=>match p.1 with
 |[x,.L ys,.L zs]=>(fZ p.2 x).o λa=>⟨tZ x (.L ys)<|.L zs,mx a.f (mx ys.f zs.f)+1,p.2⟩|_=>b0
def IQ(h:Ù K π l H v (.L xs)):∃p,v=.x p/\∃vs,à K H p vs /\
  ∀b d c,ö π l H b d c->à K c p vs/\È K b d c vs xs:=by
 cases h with
 |@f6 a vs ds q t=>show(a,?r,vs,q,λb d c e=>(e.sqT q,t.zw e))
def WW(R:Rp K π H μ)(h:Ù K π μ.f H v x)(h':Ù K π μ.f H v' (.L q))(M:Ù K π μ.f H o (.L s))(hs:fZ μ x=a7 xs):
  ∃a b c,v=.x a/\v'=.x b/\o=.x c/\(∃p,Ā K H a p)/\(∃p,à K H b p)/\(∃p,à K H c p)/\Wk K (CI K a b c) (tZ x (.L q)<|.L s) π μ.f H:=by
 let(a,?r,qa,Z):=zM R h hs;let(b,?r,U,qb,lb):=IQ h';let(c,?r,T,qc,lc):=IQ M;show(a,b,c,?r,?r,?r,qa,(_,qb),(_,qc),λk j G i e u z=>?_,λk j G i d e u z=>?_)
 .let(n,h1,z):=ń.Z z;let(E,w,I):=Z k j G e u n h1;let(A,J):=lb _ _ _ e;let(B,L):=lc _ _ _ e;show(E,U,T,w,A,B,?_);rw[I.f,J.f,L.f];replace z:a7 ((n[i]?).U λd=>(q[i]?).U λe=>(s[i]?).o λf=>D.L [d,e,f])=a7 bp:=z;cases X:n[i]? with
  |bp=>show .Q (Κ.Z X)|bb d=>
   cases g:q[i]? with
   |bp=>show .X (.Q<|Κ.Z g)|bb d'=>
    cases Y:s[i]? with
    |bp=>show .X (.X<|Κ.Z Y)|bb d''=>rw[X,g,Y]at z;ext z
 .let(n,h1,z):=ń.Z z;let(E,w,I):=Z k j G e u n h1;let(A,J):=lb _ _ _ e;let(B,L):=lc _ _ _ e;let z:((n[i]?).U λd=>(q[i]?).U λe=>(s[i]?).o λf=>D.L [d,e,f])=a7 d:=Ĕ z;let(x1,f1,z):=ń.Z z;let(x2,f2,z):=ń.Z z;let(x3,f3,z):=Ľ.Z z;subst z;let(w1,o1,k1):=I.get f1;let(w2,o2,k2):=J.get f2;let(w3,o3,k3):=L.get f3;show((E,U,T,w1,w2,w3,w,A,B,o1,o2,o3),?_);rintro y H2 (t|v1|v2|v3|rfl|hn|rfl|N|O|Q);cases o1.R.u<|N E w;cases o2.R.u<|O U A;cases o3.R.u<|Q T B;let(g,R2):=u.xo (o:=.L [w1,w2,w3]) hn;show(g,R2,.L (.of dH)<|.zv (k1.zw g)<|.zv (k2.zw g)<|.zv (k3.zw g) .kk)
def WX!(K:Ï)(e:TA):TI:=λσ H R=>e σ H λvs d=>∃a b c,vs=[.x a,.x b,.x c]/\(∃xs,Ā K d a xs)/\(∃g,à K d b g)/\(∃h,à K d c h)/\R (CI K a b c) d
open PyProof.Rows in
def WY{X:Cx}{a b c:bo}{N:TA}{p ca pt:Ń}{es:ab bo}{kx:am}(hg:Gl X "zip") (hm:X.mg "zip"=b0) (ha:PA X [a,b,c] N)(hs:ð [a,b,c] X.M=⟨b3,eu a X.M⟩::ð [b,c] X.M)(x:(ĵ ca<|ð [b,c] X.M).any (·.1)=b3) :
  PI X (.va es kx pt) (.xz (.xk "zip" p) [a,b,c] [] ca) (WX X.K N):=by
 intro i s O H R I h;show my<|i9 I hg hm Ry<|gj (aR (ha ca i s O H _ I h) λus g (vs,A,d,r1,q1)=>?_) hs x;obtain(T|U|Y|rfl|(ws|hq)|(ws2|v)|(ws3|w)|q):=q1;cases r1 with
 |bm ru u=>
  cases u with
  |bm y u=>
   cases u with
   |bm z u=>
    ext u;ext ru;ext y;ext z;let(b5,rv,pl,_):=d.vu hq;let(G,rv2,k,_):=d.kl v;let(J,rv3,o,_):=d.kl w;let K:T<g.k.y.q:=let(_,e,_):=pl.xc;Ý e;let L:U<g.k.y.q:=let(_,e,_):=k;Ý e;let M:Y<g.k.y.q:=let(_,e,_):=o;Ý e;show WU pl.xc k o λh' n B E Z g3 g4 g5 g6 hk=>OC E ?_;let Q:Â X i O A {g with ce:=h'}:=d.vx (t':=g.xh) hk;rw[<- B]at K L M;show(n+5,jE n,_,_,A,?r,Q,WV K L M,(E,Z,(_,_,_,g3),g4,g5,g6),λc hc=>?_,q);let j:g.k.y.q<=c:=by rw[<- B];dsimp[jE,ē,Ϣ,gg]at hc;rcases hc with rfl|rfl|rfl|rfl|rfl|rfl<;>first|show Q9 _ _|show Ô _
    show d.fpOk j<|d.vr.xo j
def WZ(g:Gl X "zip")(h:X.mg "zip"=b0)(q:QA X [a,b,c] ms n):ig X (.xz (.xk "zip" p) [a,b,c] [] ca) (wH ms):=⟨λes kx pt Do s σ H R I hw=>by
 let e:=q.s;rw[İ,â,İ,â,İ,â]at e;let(π,ρ,Z,Q,n',aw,v,E,d,k):=hw;show bJ d ?_;clear d;intro x i h1 d;show WY g h q.h (fS e.1) (by rw[fS e.2.1,fS e.2.2.1];rfl) Do s σ H R I (π,ρ,Z,x,i,v,E,h1,λj vs u A o G=>?_);dsimp at d;split at d
 .show cI d ?_;clear d;intro xs B d;ext d;cases G with
  |bm J T=>
   cases T with
   |bm K U=>
    cases U with
    |bm L Y=>ext Y;let(w,y,z,?r,?r,?r,M,N,O,W):=WW o J K L B;show(w,y,z,?r,M,N,O,k j u _ A o W)
 .ext d⟩
def W0{i:am}(he:aa s.k e j i kB)(hit:ú b s.k j l i)(hl:ŉ b s.k l dk)(hx:dk[i]?=a7 x)(N:e≠j)(hQ:∀Z,Ot Z e j ((i:ae)+1) x s.k.y.q->ú b Z j l (i+1)->
   Z.G s.k.y.q=a7 {cw:=.O "tuple",bv:=.seq #[.p i s.xh,x]}->
   (∀b o,b≠e->b≠j->s.k.G b=a7 o->Z.G b=a7 o)->Q (a7<|.x s.k.y.q) {s with ce:=Z,dL:=s.xh+1}):
  Ç (Ê dv w) A (Ō<|.x e) Q E s:=by
 let hT:s.TypeIs (.x e) "enumerate":=(_,he,?r);ext Ō;show Á<|uo<|kh (fg:=ŝ "__next__") hT F.slot_enumerate_next
 <|Ÿ F.slot_enumerate_next hT F.entry_enumerate_next ?_<|F.args_enumerate_next_1 _
 let(X,g,d,O,Y):=s;change Ç _ _ (Y0 (.x e) 2 >>= _) _ _ _;show Á<|ť he ?r (x:=.x j) ?r ?_;show Á<|Ir hit hl hx λc M a=>?_;replace a:ū j X c:=a;let k:aa c e j i kB:=(a.2 e N).u he;change Ç _ _ (Y0 (.x e) 3 >>= _) _ _ (c,g,d,O,Y);show Á<|ť k ?r (x:=Ł i) ?r ?_;change Ç _ _ (Y0 (.x e) 4 >>= _) _ _ (c,g,d,O,Y);show Á<|ť k ?r (x:=.qo) ?r ?_;change Ç _ _ (mkInt i >>= _) _ _ (c,g,d,O,Y);show Á<|wpAny_mkInt ?_;change Ç _ _ (iz (.x e) 3 (Ł<|(i:ae)+1) >>= _) _ _ (c,g,d,O+1,Y);show Á (Ι k ∅ λR n B=>?_);replace n:aa R e j ((i:ae)+1) kB:=n;change Ç _ _ (iz (.x e) 4 .qo >>= _) _ _ (R,g,d,O+1,Y);show Á (Ι n ∅ λh p G=>?_);replace p:aa h e j ((i:ae)+1) kB:=p;change Ç _ _ (ug [.p i O,x] >>= _) _ _ (h,g,d,O+1,Y);show Á<|N0 ?_;let hsz:h.y.q=X.y.q:=by rw[G.1,B.1,a.1]
 rw[hsz];let U:e<X.y.q:=Ý he;let u:aa (h.zl {cw:=.O "tuple",bv:=.seq #[.p i O,x]}) e j ((i:ae)+1) kB:=ä _ p;change Ç _ _ (Oh (.x e) >>= _) _ _ _;show Á ?_;ext Oh;show Á<|ť u ?r (x:=.qo) ?r<|É ?_;dsimp[cy];show Á<|Ϛ ?_;show Á<|ť u ?r (x:=kB) ?r ?_;show Á (Ι u ∅ λh₅ v H=>?_);replace v:aa h₅ e j ((i:ae)+1) x:=v;change Ç _ _ (Oi (.x e) (.x X.y.q) >>= _) _ _ _;show Á ?_;ext Oi;show Á (Ι v ∅ λh₆ y I=>?_);replace y:Ot h₆ e j ((i:ae)+1) x X.y.q:=y;show Ι y ∅ λL z J=>?_;replace z:Ot L e j ((i:ae)+1) x X.y.q:=z;let up:∀b o,b≠e->h.G b=a7 o->L.G b=a7 o:=λb o hb q=>J.V b o hb<|I.V b o hb<|H.V b o hb<|ä _ q;show Á<|J1<|É (_,?r,É<|hQ L z ?_ ?_ λb o T hbi hb=>up b o T<|G.V b o T<|B.V b o T<|a.V b o hbi hb)
 .show((M.ext B.V<|ì N).ext G.V<|ì N).at_ λo e=>up j o (ì N) e
 .let K:=ÿ h (o:={cw:=.O "tuple",bv:=.seq #[.p i O,x]}) ?r;rw[hsz]at K;show J.V _ _ (š U)<|I.V _ _ (š U)<|H.V _ _ (š U) K
def W2{i:am}(p:A.xt=b0)(k:aa s.k e a i kB)(g:ú b s.k a l i)(q:ŉ b s.k l dk)(v:dk[i]?=b0)(n:∀c,ϰ a s.k c->Q b0 {s with ce:=c}):Ç (Ê dv w) A (Ō<|.x e) Q E s:=by
 let j:s.TypeIs (.x e) "enumerate":=(_,k,?r);ext Ō;show Á<|uo<|kh (fg:=ŝ "__next__") j F.slot_enumerate_next
 <|Ÿ F.slot_enumerate_next j F.entry_enumerate_next ?_<|F.args_enumerate_next_1 _
 change Ç _ _ (Y0 (.x e) 2 >>= _) _ _ _;show Á<|ť k ?r (x:=.x a) ?r ?_;show Á<|Iu p g q v λc x d h=>?_;let(o,u,hc):=h;show Á<|gf (T:="StopIteration") (b:=b4) (o,u,hc) CR<|É<|n _ d
open _root_ in
def W3 l dk:
  Meets (ez.«enumerate.__new__» ([.O "enumerate",.x l],[])) (λ_ R s=>s.k.ko l dk /\
   R (.ok<|.ret<|.x (s.k.zl {cw:=.O "tuple_iterator",bv:=.xi #[.x l,.p 0 0]}).objs.size)
    {s with ce:=(s.k.zl {cw:=.O "tuple_iterator",bv:=.xi #[.x l,.p 0 0]}).zl {cw:=.O "enumerate",bv:=.xi #[.qo,.kt b3,.x s.k.y.q,Ł 0,.qo,.qo]}}):=
 .of_wp λdv w A R s h=>by
  let(k,g,d,p,o):=s;let(e,h):=h;let i:=sub_enumerate;let b:Pk (O8 (k,g,d,p,o)) l dk:=e;obtain((c|j|dt|q)|a|hc|n|hd):=e;replace hc:c=.O "tuple":=hc;replace hd:dt=.seq dk n:=hd;subst hc hd;wp_walk using OZ a;show wpAny_stack_any λst=>É ?_;lk
  .rename_i c _ _ _ _ _;cases(c==é "enumerate")
   .wp_walk using OZ a,b7 b;show(_,?r,h)
   .wp_walk using OZ a,b7 b;show(_,?r,h)
  .wp_walk using OZ a,b7 b;show(_,?r,h)
def W4{s:Ø}(e:s.k.ko l dk)(h:∀a,aa a (s.k.y.q+1) s.k.y.q 0 .qo->a.IsTupleIter s.k.y.q l 0->
   (∀b o,s.k.G b=a7 o->a.G b=a7 o)->Q (.x<|s.k.y.q+1) {s with ce:=a}):
  Ç (Ê dv w) A (ia (.O "enumerate") [.x l]) Q E s:=by
 show callType_new F.called_enumerate ⋯ (F.typeCall_enumerate_1 _) (F.newCall_enumerate_1 _) (λd=>F.args_object_init_2 d _) F.entry_enumerate_new (W3 l dk) (e,?_);let g:(s.k.zl {cw:=.O "tuple_iterator",bv:=.xi #[.x l,.p 0 0]}).objs.size=s.k.y.q+1:=Χ ..;change _/\_;let c:=ÿ (s.k.zl {cw:=.O "tuple_iterator",bv:=.xi #[.x l,.p 0 0]}) (o:={cw:=.O "enumerate",bv:=.xi #[.qo,.kt b3,.x s.k.y.q,Ł 0,.qo,.qo]}) ?r;rw[g]at c ⊢;show((_,c,?r),h _ c (_,ä _<|ÿ _ ?r,?r,?r) λb o x=>ä _<|ä _ x)
def W5{s:Ø}(c:ŉ b s.k l dk)(h:∀a,aa a (s.k.y.q+1) s.k.y.q 0 .qo->ú b a s.k.y.q l 0->
   (∀b o,s.k.G b=a7 o->a.G b=a7 o)->Q (.x<|s.k.y.q+1) {s with ce:=a}):
  Ç (Ê dv w) A (ia (.O "enumerate") [.x l]) Q E s:=by
 ext b
 .show call_enumerate_list c λa d e x g=>h a d e g
 .show W4 c h
def CJ!(b:av)(K:Ï)(a:ar):It:=
 (λi H=>∃c x,γ b K H a c/\c[i]?=a7 x,λi H x d=>∃p v,x=.x p/\H p=b0/\d=eo H p (.L [.p i,v])/\∀c,γ b K H a c->c[i]?=a7 v,λi H=>∃c,γ b K H a c/\c.f<=i)
def W6 a e n(A:e≠n):
  ı Qc P w K (.va es kx pt) (CJ b K a) [e,n] e (λi h=>∃kB,aa h e n i kB/\ú b h n a i) where
 mem:=.head _
 obj:=λi h (kB,st,j) c q=>by
  let g:c=e\/c=n:=by apply q
  rcases g with rfl|rfl
  .show(_,st,λv z=>nomatch z)
  .let(o,N,c,d):=j.ob;show(o,N,λv z=>by rw[d]at z;ext z)
 fv:=λi h h' (kB,st,j) k=>(kB,k e ∅ _ st,j.at_ λo N=>k n ∅ o N);lm:=by
  intro X R hw Q hc i M s σ H E I J (kB,st,j) Y;subst R hw Q;let(xs,x,L,hx):=Y;let(b5,rv,p,hz):=γ.its I L;let(u,hu,ru):=rv.get hx;show W0 st j p (x:=u) (by apply hu) A λh1 ho Z ht hk=>(_,?r,wpAny_letOwnedTupleGo_enum ho λh2 T y=>?_);let G:e<s.k.y.q:=Ý st;let ht2:h2.G s.k.y.q=a7 {cw:=.O "tuple",bv:=.seq #[.p i s.xh,u]}:=(y.2 _<|š G).u ht;let U:H s.k.y.q=bp:=I.vr.xo<|Ô _;let B:=Z.ext y.V<|ì A;show(.x s.k.y.q,eo H s.k.y.q<|.L [.p i,x],?_,?r,(s.k.y.q,x,?r,U,?r,λys hy=>by rw[γ.inj I hy L];show hx),(u,T,B),λb q=>?_)
  .show zG (s:=s) (h':=h2) (t':=s.xh+1) (ch:=[e,n]) I (λb ob q O=>?_) J (Ô _) ?_
   .let g:b≠e/\b≠n:=by apply q
    show(y.2 b g.1).u<|hk b ob g.1 g.2 O
   .show(by change(2:am)<=Ò;decide,[.p i s.xh,u],.zv (_,?r)<|.zv ru .kk,_,ht2,?r,0,?r,?r)
  .let g:b=e\/b=n:=by apply q
   let hn:=(J b q).1;let(o,ho2,_):=j.ob;rw[bV]
   .show hn
   .rcases g with rfl|rfl
    .show ý G
    .show ý<|Ý ho2
 k4:=by
  intro X R hw Q hc i M s σ H E I J (kB,st,j) Y;subst R hw Q;let(xs,L,hx):=Y;let(b5,rv,p,hz):=γ.its I L;let hl:=rv.f;show W2 (I.ok.hd hc) st j p (by simp;lia) λh' O=>(?r,Ca (t':=s.xh) (ch:=[e,n]) I (λb o q z=>O b o ?_ z) J);let g:b≠e/\b≠n:=by apply q
  show g.2
 lh:=λ_ _ _ _ _ (kB,st,_) h=>SF st h
def qF!(ms:MA):MI:=λb μ=>(ms b μ).U λp=>match p.1 with
 |[.L a]=>a7 ⟨mG<|.L a,a.f+1,p.2⟩|[x]=>(fZ p.2 x).o λa=>⟨mG x,a.f+1,p.2⟩|_=>b0
def IS(R:Rp K π H μ)(h:Ù K π μ.f H v x)(J:x=.L xs\/fZ μ x=a7 xs):∃t a,v=.x a/\(∃vs,γ t K H a vs)/\Wk K (CJ t K a) (mG x) π μ.f H:=by
 let(t,a,?r,I,b):=Wj R h J;show(t,a,?r,I,λg c s i e j z=>?_,λg c s i d e j z=>?_)
 .let(q,h1,k):=Ľ.Z z;let(p,o,u):=b g c s e j q h1;cases n:q[i]? with
  |bp=>show(p,o,by rw[u.f];show Κ.Z n)|bb d=>rw[n]at k;ext k
 .let(q,h1,k):=Ľ.Z z;let(p,o,u):=b g c s e j q h1;let(N,n,B):=Ľ.Z k;subst B;let(v,A,E):=u.get n;show((p,v,o,A),?_);rintro y M (t|O|rfl|G|rfl|L);cases A.R.u<|L p o;let(w,R2):=j.xo (o:=.L [.p i,v]) G;show(w,R2,.L (.of dH)<|.zv (.p _)<|.zv (E.zw w) .kk)
def W7!(K:Ï)(c:TA):TI:=λσ H R=>c σ H λvs b=>∃t a,vs=[.x a]/\(∃xs,γ t K b a xs)/\R (CJ t K a) b
open PyProof.Rows in
def W8{X:Cx}{a:bo}{n:TA}{p ca pt:Ń}{es:ab bo}{E:am}(x:Gl X "enumerate") (z:X.mg "enumerate"=b0) (v:PA X [a] n)(B:ð [a] X.M=[⟨b3,eu a X.M⟩]):PI X (.va es E pt) (.xz (.xk "enumerate" p) [a] [] ca) (W7 X.K n):=by
 intro e s L H R I h;show my<|i9 I x z Boot.«enumerate»<|callWith_type1 (aR (v ca e s L H _ I h) λT c (U,j,d,J,G)=>?_) B ?r;obtain(t|M|rfl|(_|A)|q):=G;let(u,?r,K):=hJ J;ext K;let o:∀b∈[c.k.y.q+1,c.k.y.q],jQ X e j b:=λb w=>by
  let g:b=c.k.y.q+1\/b=c.k.y.q:=by apply w
  rcases g with rfl|rfl
  .show d.fpOk (dj _)<|d.vr.xo<|dj _
  .show d.fpOk (Ô _)<|d.vr.xo<|Ô _
 let(b5,Q,pl,O):=γ.its d A;show W5 pl λN k i y=>SF k (c.k.y.q+1,[c.k.y.q+1,c.k.y.q],_,_,j,?r,d.vx (t':=c.xh) y,W6 _ _ _<|am.succ_ne_self _,(_,k,i),o,q)
def W9(h:Gl X "enumerate")(i:X.mg "enumerate"=b0)(w:QA X [a] ms n):ig X (.xz (.xk "enumerate" p) [a] [] ca) (qF ms):=⟨λes M pt Do s σ H R I hw=>by
 let y:=w.s;rw[İ,â]at y;let(K,L,G,B,N,J,z,E,b,k):=hw;show bJ b ?_;clear b;intro x q h1 b;show W8 h i w.h (fS y.1) Do s σ H R I (K,L,G,x,q,z,E,h1,λd O u v e c=>?_);dsimp at b;split at b
 .ext b;cases c with
  |bm c o=>ext o;let(t,g,?r,j,W):=IS e c<|.Q ?r;show(t,g,?r,j,k d u _ v e W)
 .show cI b ?_;clear b;intro Q A b;ext b;cases c with
  |bm c o=>ext o;let(t,g,?r,j,W):=IS e c<|.X A;show(t,g,?r,j,k d u _ v e W)
 .ext b⟩
structure Ĝ where
 fn:ab<|cf×am
 con:ab<|cf×D
 tab:ab<|cf×ab (b9×D)
 no:ab cf
 dIt:ab cf
 dEq:ab cf
 dMe:ab cf
 ob:ab (cf×cf):=[]
 mt:ab (cf×cf×cf×am):=[]
 mc:ab (cf×cf×am):=[]
 ms:ab (cf×ff):=[]
structure Cs where
 N:ab cf
 ks:ab<|cf×J0
def oU!(x:cf):ab cf->af am
 |[]=>b0|y::r=>if x=y then a7 0 else(oU x r).o (·+1)
open _root_ in
def wI:∀{N}{i},oU x N=a7 i->N[i]?=a7 x
 |[],_,h=>by ext h
 |y::r,i,h=>by
  unfold oU at h;split at h
  .rename_i e;ext h;subst e;rfl
  .let(j,h1,a):=Ľ.Z h;subst a;have:=wI h1;apply ah
def glob!(c:Cs)(x:cf):av:=ag (c.ks.B x=a7 .globalImplicit)&&!(x==("__debug__":cf))
def qY!(c:Cs)(x:cf):av:=(ag (c.ks.B x=a7 .kg)||ag (c.ks.B x=a7 .kz)||ag (c.ks.B x=a7 .kr))&&!(x==("__debug__":cf))&&!(x==("__classdict__":cf))
def qG!(c:Cs)(x:cf):av:=ag (c.ks.B x=a7 .kg)||ag (c.ks.B x=a7 .kz)
def gD{κ b:Type} [BEq κ] [LawfulBEq κ] {x k:κ}{a n:b}{r:ab (κ×b)}{P:Prop}(h:Τ x (⟨k,a⟩::r)=a7 n)(h1:x=k->a=n->P)(c:Τ x r=a7 n->P):P:=by
 rw[vf]at h;by_cases e:x=k
 .rw[bg.v e]at h;show h1 e<|Ĕ h
 .rw[cv.v e]at h;show c h
def IT!(x:cf):af cq:=Τ x [⟨"int","int"⟩,⟨"bool","bool"⟩,⟨"str","str"⟩,⟨"list","list"⟩,⟨"tuple","tuple"⟩,⟨"dict","dict"⟩]
def Xa(h:IT x=a7 n):ξ x=a7 (.O n)/\x ≠ "__name__":=by
 show gD h (λe g=>?_) λh=>?_
 .subst e;ext g;show(b5s,⋯)
 show gD h (λe g=>?_) λh=>?_
 .subst e;ext g;show(b5t,⋯)
 show gD h (λe g=>?_) λh=>?_
 .subst e;ext g;show(b5n,⋯)
 show gD h (λe g=>?_) λh=>?_
 .subst e;ext g;show(Qv,⋯)
 show gD h (λe g=>?_) λh=>?_
 .subst e;ext g;show(Qw,⋯)
 show gD h (λe g=>?_) λh=>?_
 .subst e;ext g;show(R6,⋯)
 ext h
def CK!(S:Ĝ)(c:Cs)(x:cf):ME:=
 if qY c x=b4 then(match oU x c.N with|bb i=>aC i|bp=>cJ)
 else if iq c x=b4 then(match S.con.B x with
  |bb d=>mC d
  |bp=>if S.no.zo x=b4 then(match IT x with|bb n=>mC (.ty n)|bp=>cJ)else cJ)
 else cJ
def fE!(r:bo->ME):ab bo->MA
 |[]=>aD|e::es=>aB (r e)<|fE r es
def z8!(op:BoolOp):ab ME->ME
 |[]=>cJ|[m]=>m|m::r=>match op with
  |.And=>lF m (z8 op r)|.Or=>Bx m<|z8 op r
def z9!(op:BoolOp):ab MT->MT
 |[]=>rH|[m]=>m|m::r=>match op with
  |.And=>kJ m (z9 op r)|.Or=>iG m<|z9 op r
def IU!(op:b4k)(a b:ME):ME:=match op with
 |.Add=>aA bS a b|.Sub=>aA dQ a b|.Mult=>aA cE a b|.FloorDiv=>aA eV a b|.Mod=>aA bP a b|.Pow=>aA oG a b|_=>cJ
def qH!(op:pq)(ns:av)(a b:ME):ME:=match op with
 |.Eq=>aA (aV b3) a b|.NotEq=>aA (aV b4) a b|.Lt=>aA nC a b|.LtE=>aA sW a b|.Gt=>aA nD a b|.GtE=>aA vB a b|.In=>if ns=b4 then aA (dB b3) a b else cJ|.NotIn=>if ns=b4 then aA (dB b4) a b else cJ|.Is=>aA (iJ b3) a b|.IsNot=>aA (iJ b4) a b
def t5!(r:bo->ME):af bo->MO
 |bp=>iH|bb e=>jT<|r e
def Aa!:bo->af (bo×ab bo)
 |.xz f as [] _=>a7 ⟨f,as⟩|_=>b0
def IV(h:Aa e=a7 ⟨f,as⟩):∃ca,e=.xz f as [] ca:=by
 unfold Aa at h;split at h
 .ext h;show(_,?r)
 .ext h
def mJ!:bo->af cf
 |.xk x _=>a7 x|_=>b0
def t6(h:mJ e=a7 x):∃p,e=.xk x p:=by
 unfold mJ at h;split at h
 .ext h;show(_,?r)
 .ext h
def o1!:ab bo->af bo
 |[e]=>a7 e|_=>b0
def t7(h:o1 l=a7 e):l=[e]:=by
 match l,h with
 |[_],h=>ext h;rfl
def o2!:ab bo->af (bo×bo)
 |[a,b]=>a7 ⟨a,b⟩|_=>b0
def Xb(h:o2 l=a7 ⟨a,b⟩):l=[a,b]:=by
 match l,h with
 |[_,_],h=>ext h;rfl
def o3!:ab bo->af (bo×bo×bo)
 |[a,b,c]=>a7 ⟨a,b,c⟩|_=>b0
def Xc(h:o3 l=a7 ⟨a,b,c⟩):l=[a,b,c]:=by
 match l,h with
 |[_,_,_],h=>ext h;rfl
def CL!(S:Ĝ)(c:Cs)(e:bo):af (ab<|b9×D):=(mJ e).U λx=>if iq c x=b4 then S.tab.B x else b0
def dS!:MF:=λds μ=>match ds with
 |[.z a]=>match μ[a]? with
  |bb (.D xs)=>a7 ⟨.p xs.f,μ⟩|bb (.st ks)=>a7 ⟨.p ks.f,μ⟩|bb (.dT ay)=>a7 ⟨.p ay.f,μ⟩|_=>b0
 |_=>vD ds μ
def qI!:MF:=λds μ=>match ds with
 |[x]=>(bW μ x).o λa=>⟨.L a,μ⟩|_=>b0
def Xd:e8 K qI (λxs H Q=>∃p b,xs=[.x p]/\((Ā K H p b/\∀l,H l=b0->Q (.x l) (eo H l<|.L b))\/(à K H p b/\Q (.x p) H))):=by
 intro g H s xs d n o Q R i a k;unfold qI at a;split at a
 .let(b,h1,h):=Ľ.Z a;ext h;cases i with
  |bm i t=>
   ext t;let(p,e,?r,q,hd):=rF R i h1;show(p,e,?r,?_);rcases q with q|q
   .show .Q (q,λl j=>?_);let(c,R2):=R.xo (o:=.L e) j;show k g _ _ c R2<|.L (.of dH)<|hd.zw c
   .show .X (q,k g _ H .ki R<|.L q hd)
 .ext a
def iM!:MF:=λds μ=>match ds with
 |[.z a]=>match μ[a]? with
  |bb (.dT ay)=>a7 ⟨.z μ.f,μ++[.D<|ay.o λk=>D.L<|k.1.o D.p]⟩|_=>vF [.z a] μ
 |ds=>vF ds μ
open _root_ in
def Xe:e8 K iM (λxs H Q=>(∃p g,xs=[.x p]/\(Ā K H p g\/à K H p g)/\∀l,H l=b0->Q (.x l) (eo H l<|.D g))\/HK K xs H Q):=by
 intro o H n xs d c j Q R i b k;unfold iM at b;split at b
 .rename_i a;split at b
  .rename_i e u;ext b;cases i with
   |bm i t=>ext t;ext i;let(h,h1,T):=jC R u;show .X (_,h,?r,h1,T.keys,λl s=>?_);let(q,R2,_):=R.alloc (c:=.D (e.o λk:ab ae×D=>D.L<|k.1.o D.p)) (o:=.D (h.o λp:ab ae×ar×V=>V.x p.2.1)) s T.to.2.1;show k _ _ _ q R2 lG
  .show .Q<|GB o H n _ d c j Q R i b k
 .show .Q<|GB o H n _ d c j Q R i b k
def bltT!:ab (cf×MF):=[⟨"len",dS⟩
 ,⟨"isinstance",lY⟩
 ,⟨"list",iM⟩
 ,⟨"tuple",qI⟩
 ,⟨"all",zA⟩
 ,⟨"sorted",tX⟩
 ,⟨"sum",oN⟩
 ,⟨"min",CC⟩ ,⟨"max",zU⟩
 ]
def IW!(x:cf):af MF:=bltT.B x
def Xf!(K:Ï):gz->Hp->VK->Prop:=λxs H Q=>BO K xs H Q\/(∃a L,xs=[V.x a]/\H a=a7 (yB a L)/\Q (.p L.f) H)\/HJ K xs H Q
open _root_ in
def Xg:e8 K dS (Xf K):=by
 intro g H j s d e h Q R i b k;unfold dS at b;split at b
 .rename_i a;split at b
  .rename_i u c;show .Q<|GA g H j _ d e h Q R i ?_ k;dsimp[vD,bW,c];show b
  .rename_i o c;ext b;cases i with
   |bm i t=>ext t;ext i;let(L,h1,n,_):=R.st a o c;have:=br ģ n;rw[Ä]at ah;show .X<|.Q (_,L,?r,h1,?_);rw[ah];show k g _ H .ki R<|.p _
  .rename_i p c;ext b;cases i with
   |bm i t=>ext t;ext i;let(q,h1,T):=jC R c;have:=br ģ T.to.1;rw[Ä,Ä]at ah;show .X<|.X (_,q,?r,h1,T.keys,?_);rw[ah];show k g _ H .ki R<|.p _
  .ext b
 .show .Q<|GA g H j _ d e h Q R i b k
def Xh(a:X.vn=b4)(b:X.A.qv+64<ă)(h:IW x=a7 f):∃v r,ξ x=a7 v/\((∃id,v=.zn id)\/∃T,v=.O T)/\ß X v r/\e8 X.K f r/\x ≠ "__name__":=by
 show gD h (λe g=>?_) λh=>?_
 .subst e;ext g;show(_,_,b5q,.Q (_,?r),ϖ.or<|ϕ.or Vh,Xg,⋯)
 show gD h (λe g=>?_) λh=>?_
 .subst e;ext g;show(_,_,b5r,.Q (_,?r),b7I,b7P,⋯)
 show gD h (λe g=>?_) λh=>?_
 .subst e;ext g;show(_,_,Qv,.X (_,?r),ű.or<|Vi a,Xe,⋯)
 show gD h (λe g=>?_) λh=>?_
 .subst e;ext g;show(_,_,Qw,.X (_,?r),FK,Xd,⋯)
 show gD h (λe g=>?_) λh=>?_
 .subst e;ext g;show(_,_,b5u,.Q (_,?r),SPr a,b4Y ?r,⋯)
 show gD h (λe g=>?_) λh=>?_
 .subst e;ext g;show(_,_,Qx,.Q (_,?r),WL b,WJ,⋯)
 show gD h (λe g=>?_) λh=>?_
 .subst e;ext g;show(_,_,b5m,.Q (_,?r),Ut a,Us,⋯)
 show gD h (λe g=>?_) λh=>?_
 .subst e;ext g;show(_,_,UI,.Q (_,?r),(Wz a b).or<|b0C a,ID Uu,⋯)
 show gD h (λe g=>?_) λh=>?_
 .subst e;ext g;show(_,_,b5p,.Q (_,?r),(WA a b).or<|b0J a,ID Uv,⋯)
 ext h
def CM!(x:cf):af MF:=
 if x="dict" then a7 rQ else
 IW x
open _root_ in
def Xi(a:X.vn=b4)(b:X.A.qv+64<ă)(h:CM x=a7 f):∃v r,ξ x=a7 v/\((∃id,v=.zn id)\/∃T,v=.O T)/\ß X v r/\e8 X.K f r/\x ≠ "__name__":=by
 unfold CM at h;split at h
 .rename_i e;subst e;ext h;show(_,_,R6,.X (_,?r),VB a b,VC,⋯)
 show Xh a b h
def yf!:ab ((cf×am)×(D->ab D->Hm->jk)):=[⟨⟨"append",1⟩,fT⟩
 ,⟨⟨"extend",1⟩,pU⟩
 ,⟨⟨"index",1⟩,tL⟩
 ,⟨⟨"pop",1⟩,pV⟩
 ]
def IX!(m:cf)(n:am):af (D->ab D->Hm->jk):=yf.B ⟨m,n⟩
def CN!:MF:=λds μ=>match ds with
 |[.z a]=>match μ[a]? with
  |bb (.dT ay)=>if ay.f<64/\(∀p∈ay,p.1≠[])then a7 ⟨.z μ.f,μ++[.D<|(tU ay).o λk=>D.L<|k.1.o D.p]⟩else b0|_=>b0
 |_=>b0
open _root_ in
def Xj:e8 K CN (Ig K):=by
 intro B H A y d v x Q R i a k;unfold CN at a;split at a
 .split at a
  .rename_i b u;split at a
   .rename_i j;ext a;cases i with
    |bm i t=>
     ext t;ext i;let(c,h1,T):=jC R u;let(w,g):=VJ T;show(_,c,?r,h1,T.keys,(),λp o z=>?_,λl n=>?_)
     .have:p.1∈b.o (·.1):=by rw[<- T.to.1];show Ü.v (p,o,?r)
      let(q,s,e):=Ü.Z ah;show j.2 q s<|e.u z
     .let(h,R2,_):=R.alloc (c:=.D ((tU b).o λk:ab ae×D=>D.L<|k.1.o D.p)) (o:=.D ((oQ c).o λp:ab ae×ar×V=>V.x p.2.1)) n g.to.2.1;show k _ _ _ h R2 lG
   .ext a
  .ext a
 .ext a
def t8!:MF:=λds μ=>match ds with
 |[.z a]=>match μ[a]? with
  |bb (.dT ay)=>if(ay.o λp=>Tb.hashT p.1).J then a7 ⟨.z μ.f,μ++[.dT ay]⟩else b0|_=>b0
 |_=>b0
open _root_ in
def Xk:e8 K t8 (Il K):=by
 intro v H u s d o q Q R i a k;unfold t8 at a;split at a
 .split at a
  .rename_i b n;split at a
   .rename_i h;ext a;cases i with
    |bm i t=>
     ext t;ext i;let(c,h1,T):=jC R n;let g:=T.to.1;show(_,c,?r,h1,T.keys,?_,λl j=>?_)
     .have:(c.o λp=>Tb.hashT p.1)=b.o λp=>Tb.hashT p.1:=by have:=br (zc Tb.hashT) g;simpa[æ,Function.comp_def]using ah
      rw[ah];show h
     .let(e,R2,_):=R.alloc (c:=.dT b) (o:=aN l c) j (c,?r,T.to);show k _ _ _ e R2 lG
   .ext a
  .ext a
 .ext a
def Xl!(e:bo):av:=match e with
 |.xy v _ _=>!((mJ v).I "-" == "sheet")|_=>b3
def Xm!(S:Ĝ)(x:cf)(a:bo):av:=match mJ a with
 |bb y=>S.dMe.zo y|bp=>x=="dict" && Xl a&&S.dMe.zo "[]"
def IY!(S:Ĝ)(f:bo)(ck:ab bo):af (av×bo):=(mJ f).U λx=>(o1 ck).U λa=>if(fR a&&Xm S x a)=b4 then(if x="sorted" then a7 ⟨b4,a⟩else if x="dict" then a7 ⟨b3,a⟩else b0)else b0
open _root_ in
def IZ(h:IY S f ck=a7 ⟨b,e⟩):∃p,f=.xk (if b then "sorted" else "dict") p/\ck=[e]/\[e].all fR=bt:=by
 show cC h ?_;clear h;intro x h1 i;show cC i ?_;clear i;intro a j c;let(p,k):=t6 h1;clear h1;split at c
 .rename_i g;rw[â]at g;split at c
  .rename_i d;subst d;ext c;show(p,k,t7 j,by rw[İ,g.1];rfl)
  .split at c
   .rename_i d;subst d;ext c;show(p,k,t7 j,by rw[İ,g.1];rfl)
   .ext c
 .ext c
def RE!:ab ((cf×am)×(D->ab D->Hm->jk)):=
 ⟨⟨"setdefault",2⟩,nM⟩ ::
 ⟨⟨"get",2⟩,fD⟩ ::
 ⟨⟨"update",1⟩,rX⟩ ::
 []
def Ja!(S:Ĝ)(o:bo)(m:cf)(n:am):af (D->ab D->Hm->jk):=
 RE.B ⟨m,n⟩
def Jb!(S:Ĝ)(c:Cs):bo->af am
 |.xk x _=>if S.dIt.zo x=b4 then oU x c.N else b0|.xy o i _=>match o,i with
  |.xk x _,.ve (.p n) _ _=>if S.dIt.zo x=b4 then(oU x c.N).o λj=>1000*(j+1)+n.zi else b0|_,_=>b0
 |_=>b0
def Ab!(S:Ĝ)(c:Cs)(tg:bo)(e:bo):af am:=match tg with
 |.xk _ _=>Jb S c e|_=>b0
def CO!(S:Ĝ)(F:cf->MF)(r:bo->ME)(c:Cs)(f:bo)(ck:ab bo)(a:Ń):ME:=match f with
 |.xk x _=>if iq c x&&ck.all fR then(match S.fn.B x with
   |bb n=>if ck.f=n then bI (F x) (fE r ck)else cJ|bp=>
   match S.mc.B x with
   |bb q=>if ck.f=q.2&&!ck.qk then pX x (F x) (fE r ck)else cJ|bp=>
   if S.no.zo x&&!ck.qk then(match CM x with|bb g=>bI g (fE r ck)|bp=>cJ)else cJ)
  else cJ
 |.zk o m f8=>if gW o&&(f8.ku==a.line)&&ck.all fR then(
   match S.mt.B m with
   |bb q=>if ck.f=q.2.2&&ag (ck.f<30)then nH q.1 m (F q.2.1) (r o) (fE r ck)else
    cJ
   |bp=>
   match Ja S o m ck.f with
   |bb g=>fW g (r o) (fE r ck)|bp=>
   match IX m ck.f with
   |bb g=>eH g (r o) (fE r ck)|bp=>
    cJ)
  else cJ
 |_=>cJ
def CP!(f:bo)(ck:ab bo):af (cf×cf×bo):=(mJ f).U λx=>(o1 ck).U λa=>(Aa a).U λg=>(mJ g.1).U λy=>(o1 g.2).o λe=>⟨x,y,e⟩
def Jc(h:CP f ck=a7 ⟨x,y,e⟩):∃p c ca,f=.xk x p/\ck=[.xz (.xk y c) [e] [] ca]:=by show cC h ?_;clear h;intro n h1 h;show cC h ?_;clear h;intro a d h;show cC h ?_;clear h;intro g i h;show cC h ?_;clear h;intro o b h;show cI h ?_;clear h;intro k j h;ext h;let(p,?r):=t6 h1;let(ca,?r):=IV i;let(c,b):=t6 b;show(p,c,ca,?r,by rw[t7 d,b,t7 j])
def Xn!(f:bo)(ck:ab bo):af (av×bo):=(CP f ck).U λt=>
 if t.1="list"/\t.2.1="reversed" then a7 ⟨b4,t.2.2⟩else
 b0
def Jd!:av->cf
 |ai=>"range"|bt=>"reversed"
def lstM!:av->MF
 |bt=>nJ|ai=>nJ
def CQ!(S:Ĝ)(F:cf->MF)(r:bo->ME)(c:Cs)(f:bo)(ck:ab bo)(a:Ń):ME:=
 match Xn f ck with
 |bb ⟨b,e⟩=>if iq c "list" && iq c (Jd b)&&S.no.zo "list" && S.no.zo (Jd b)&&fR e then bI (lstM b) (fE r [e])else cJ|bp=>CO S F r c f ck a
def CS!:bo->af (bo×Ń×Ń)
 |.xz g [] [] fb=>match g with
  |.zk o m f8=>if m="items" then a7 ⟨o,f8,fb⟩else b0|_=>b0
 |_=>b0
open _root_ in
def Xo(h:CS e=a7 ⟨o,a,b⟩):e=.xz (.zk o "items" a) [] [] b:=by
 unfold CS at h;split at h
 .split at h
  .split at h
   .rename_i c;ext h;rw[c]
   .ext h
  .ext h
 .ext h
def Xp!(f:bo)(ck:ab bo):af (bo×Ń×Ń):=(CP f ck).U λt=>if t.1="tuple"/\t.2.1="sorted" then CS t.2.2 else b0
def CT!(S:Ĝ)(F:cf->MF)(r:bo->ME)(c:Cs)(f:bo)(ck:ab bo)(a:Ń):ME:=
 match Xp f ck with
 |bb q=>if iq c "sorted" && iq c "tuple" && S.no.zo "sorted" && S.no.zo "tuple" && gW q.1&&(q.2.1.ku==q.2.2.line)then Cw (r q.1)else cJ|bp=>
 match IY S f ck with
 |bb ⟨b4,e⟩=>if iq c "sorted" && S.no.zo "sorted" then bI CN (fE r [e])else cJ|bb ⟨b3,e⟩=>if iq c "dict" && S.no.zo "dict" then bI t8 (fE r [e])else cJ|bp=>
 CQ S F r c f ck a
def t9!(c:Cs)(ap:θ)(xs:ab cf):av:=
 (ap.qf.all λy=>ag<|y.2≠.kz)&&ag (ap.kind=.kv)&&(ap.qf.all λy=>ag (y.2≠.kg)||ag (ap.qf.B y.1=a7 .kg)) &&
 (xs.all λx=>ag<|ap.qf.B x=a7 .kg)&&ag xs.J&&(ap.qf.all λy=>ag (y.2≠.kr)||ag (c.ks.B y.1=a7 .kz)||ag (c.ks.B y.1=a7 .kr)) &&
 (ap.qf.all λy=>ag (y.2≠.kg)||!(cD xs c.N).zo y.1)&&ag (cD xs c.N).J&&(c.N.all λy=>!xs.zo y||ag (ap.qf.B (sX y)=b0))
def wJ!(c:Cs)(ap:θ)(xs:ab cf):Cs:=
 (cD xs c.N++xs,ap.qf.o λ⟨n,k⟩=>if(k==bc&&c.ks.B n==a7 .kz)then⟨n,dg⟩else⟨n,k⟩)
def Je!(r:bo->MT):ab bo->MT
 |[]=>iW|[t]=>r t|_=>rH
def mK!(S:Ĝ)(c:Cs)(x:cf)(e:bo):af (ab bo):=(Aa e).U λg=>(mJ g.1).U λy=>if y=x/\(iq c x&&S.no.zo x&&g.2.all fR)=b4 then a7 g.2 else b0
def Xq!(r:bo->ME):ab bo->MI
 |[a]=>pT (fE r [a])|[a,b]=>tD (fE r [a,b])|[a,b,d]=>vP (fE r [a,b,d])|_=>GN
def Ac!(S:Ĝ)(r:bo->ME)(c:Cs)(e:bo):MI:=match mK S c "range" e with
 |bb b=>Xq r b|bp=>match(mK S c "reversed" e).U o1 with
  |bb a=>vQ (fE r [a])|bp=>dR<|r e
def CU!(S:Ĝ)(r:bo->ME)(c:Cs)(e:bo):MI:=match(mK S c "enumerate" e).U o1 with
 |bb a=>qF (fE r [a])|bp=>Ac S r c e
def CV!(S:Ĝ)(r:bo->ME)(c:Cs)(e:bo):MI:=match(mK S c "zip" e).U o3 with
 |bb ⟨a,b,d⟩=>wH (fE r [a,b,d])|bp=>CU S r c e
def CW!(S:Ĝ)(r:bo->ME)(c:Cs)(e:bo):MI:=match(mK S c "zip" e).U o2 with
 |bb ⟨a,b⟩=>vY (fE r [a,b])|bp=>CV S r c e
def CY!:bo->af (ab cf)
 |.xk x _=>a7 [x]|.va es _ _=>es.mapM mJ|_=>b0
def CZ!:bo->am->BD
 |.va ..,n=>vC n|_,_=>sZ
def Ad!(S:Ĝ)(r:bo->ME)(c:Cs)(tg e:bo):MI:=match tg with
 |.va ..=>CW S r c e|_=>Ac S r c e
def qJ!(b:MI)(d:Cs->bo->ME)(e:Cs->bo->MT)(c:Cs)(ii tg ea:bo)(hZ:ab bo)(ap:θ):ME:=match CY tg with
 |bb a=>if t9 c ap a&&jV ea then jW (CZ tg a.f) b (Je (e<|wJ c ap a) hZ) (d (wJ c ap a) ii)else cJ|bp=>cJ
def C0!(S:Ĝ)(a:Cs->bo->ME)(b:Cs->bo->MT)(c:Cs)(ii tg ea:bo)(hZ:ab bo)(ap:θ):ME:=
 match Ab S c tg ea with
 |bb i=>tV i (qJ (gX<|a c ea) a b c ii tg ea hZ ap) cJ|bp=>
 qJ (Ad S (a c) c tg ea) a b c ii tg ea hZ ap
def Jf!:Const->ME
 |.p i=>mC (.p i)|.kt b=>mC (.bl b)|.jv s=>mC (.jv s)|.qo=>mC .kf|_=>cJ
def Jg!(m:ME):o0->ME
 |.USub=>fA m|.Not=>sT m|_=>cJ
def Jh!(S:Ĝ)(r:bo->ME)(a:bo):ab pq->ab bo->ME
 |[op],[b]=>qH op (jV b) (r a)<|r b
 |[op,op'],[b,b']=>(match jB op,jB op' with
  |bb p,a7 q=>oM (iV p) (iV q) (r a) (r b)<|r b'
  |_,_=>cJ)
 |_,_=>cJ
def Ji!(S:Ĝ)(c:Cs):ab pq->ab bo->af (ab<|b9×D)
 |[.In],[b]=>CL S c b|_,_=>b0
def C1!(S:Ĝ)(c:Cs)(r:bo->ME)(a:bo)(k0:ab pq)(bs:ab bo):ME:=match Ji S c k0 bs with
 |bb b=>BU b (r a)|bp=>Jh S r a k0 bs
def C2!(r:bo->ME):ab (af bo)->ab bo->ME
 |[],[]=>jX|_,_=>cJ
def C3!(S:Ĝ)(r:bo->ME)(c:Cs)(a b:bo):ME:=match b with
 |.Slice lo hi b0 _=>q8 (r a) (t5 r lo) (t5 r hi)|.Slice lo hi (a7 st) _=>mE (r a) (t5 r lo) (t5 r hi) (t5 r<|a7 st)|b=>if rG b then(match CL S c a with|bb d=>vG d (r b)|bp=>aA bE (r a)<|r b)else cJ
def C4!(r:bo->ME)(es:ab bo):ME:=if es.all fR then bY (fE r es)else cJ
def C5!(r:bo->ME)(es:ab bo):ME:=if es.all fR then cU (fE r es)else cJ
def C6!(S:Ĝ)(r:bo->ME)(c:Cs)(f:bo)(ck:ab bo)(d:cf)(b:bo):ME:=match f with
 |.xk x _=>match ck with
  |[a]=>if x="min"/\d="default"/\(iq c "min" && S.no.zo "min" && fR a)=b4 then bI zR (aB (r a)<|aB (r b) aD)else cJ|_=>cJ
 |_=>cJ
def C7!(S:Ĝ)(F:cf->MF)(r:bo->ME)(c:Cs)(f:bo)(ck:ab bo)(a:Ń):ab ϻ->ME
 |[]=>CT S F r c f ck a|[(a7 k1,e1,_)]=>C6 S r c f ck k1 e1|_=>cJ
def Jj!(S:Ĝ)(a:Cs->bo->ME)(b:Cs->bo->MT)(c:Cs)(ii:bo)(ap:θ):ab Comprehension->ME
 |[(tg,ea,hZ,0)]=>C0 S a b c ii tg ea hZ ap|_=>cJ
def Jk!(S:Ĝ)(F:cf->MF)(d:Cs->bo->ME)(e:Cs->bo->MT)(c:Cs):bo->ME
 |.xk x _=>CK S c x|.ve v _ _=>Jf v|.BinOp a op b _=>IU op (d c a) (d c b)|.UnaryOp op a _=>Jg (d c a) op|.qq a k0 bs _=>C1 S c (d c) a k0 bs|.jp op vs _=>z8 op (vs.o<|d c)|.IfExp t a b _=>gU (e c t) (d c a) (d c b)|.va es _ _=>C4 (d c) es|.List es _=>C5 (d c) es|.Dict keys values _=>C2 (d c) keys values|.xy a b _=>C3 S (d c) c a b|.xz f ck kws fb=>C7 S F (d c) c f ck fb kws|.zk o a _=>if gW o then(match S.ob.B a with|bb x=>hX x a (d c o)|bp=>cJ)else cJ|.vw ii gs ap _=>Jj S d e c ii ap gs|_=>cJ
def wK!(r:bo->ME)(e:bo):MT:=if BQ e then c7 (r e)else rH
def C8!(S:Ĝ)(r:bo->ME)(a:bo)(k0:ab pq)(bs:ab bo)(p:Ń):MT:=match k0,bs with
 |[op],[b]=>aP<|qH op (jV b) (r a)<|r b
 |[op,op'],[b,b']=>(match jB op,jB op' with
  |bb p,a7 q=>aP<|oM (iV p) (iV q) (r a) (r b)<|r b'
  |_,_=>rH)
 |k0,bs=>wK r<|.qq a k0 bs p
def Xr!(r:bo->ME)(t:MT)(a:bo)(p:Ń):o0->MT
 |.Not=>t|op=>wK r<|.UnaryOp op a p
def Jl!(S:Ĝ)(b:Cs->bo->ME)(d:Cs->bo->MT)(c:Cs):bo->MT
 |.jp op vs _=>z9 op (vs.o<|d c)|.UnaryOp op a p=>Xr (b c) (kK<|d c a) a p op|.qq a k0 bs p=>C8 S (b c) a k0 bs p|e=>wK (b c) e
def tr!(S:Ĝ)(F:cf->MF):am->(Cs->bo->ME)×(Cs->bo->MT)
 |0=>⟨λ_ x=>cJ,λ_ x=>rH⟩|n+1=>⟨Jk S F (tr S F n).1 (tr S F n).2,Jl S (tr S F n).1 (tr S F n).2⟩
structure ù(S:Ĝ)(F:cf->MF)(k:am)(c:Cs)(X:Cx):Prop where
 N:X.N=c.N
 nd:X.N.J
 ks:X.M.xv.qf=c.ks
 kind:X.M.xv.kind=.kv
 calm:X.vn=b4
 room:Þ k X.A
 never:yw (Ê X.Y X.w) X.A X.M X.xe
 fn:∀x n,S.fn.B x=a7 n->∃(f:ar)(fd:km)(ps:ab cf),đ X.Y X.w X.K X.mg X.ka gR k f fd ps (gT X.K n<|F x)/\X.mg x=a7 (.x f)/\ϟ X.K (.x f)=b4/\ó X.K fd ps []
 con:∀x d,S.con.B x=a7 d->∃v u,X.mg x=a7 u/\Í v u/\∀π n H,Ù X.K π n H v d
 tab:∀x ay,S.tab.B x=a7 ay->ϒ X x ay
 no:∀x,S.no.zo x=b4->X.mg x=b0
 ob:∀f x,S.ob.B f=a7 x->∃C,ő X.K x C/\Ť X.K C/\Č X.K C f
 mt:∀m x y n,S.mt.B m=a7 ⟨x,y,n⟩->∃(C g:ar)(fd:km)(ps:ab cf),ő X.K x C/\Ť X.K C/\ũ X.K C m g/\đ X.Y X.w X.K X.mg X.ka gR k g fd ps (gT X.K (n+1)<|F y)/\ó X.K fd ps []
 mc:∀x y n,S.mc.B x=a7 ⟨y,n⟩->(∀ds μ,F x ds μ=b0)\/∃(k':am)(C g:ar)(fd:km)(ps:ab cf),k=k'+1/\ő X.K x C/\Mk X.K C g/\đ X.Y X.w X.K X.mg X.ka gR k' g fd ps (gT X.K (n+1)<|F x)/\ó X.K fd ps []
def Xs(ks:X.M.xv.qf=c.ks)(h:iq c x=b4):Gl X x/\(x==("__debug__":cf))=ai:=by unfold iq at h;rw[â]at h;show(?_,by apply h.2);change X.M.xv.qf.B x=_;rw[ks];show bi h.1
def Xu{X:Cx}(ks:X.M.xv.qf=c.ks)(h:qY c x=b4):sO X.M.xv x/\(x==("__debug__":cf))=b3/\(x==("__classdict__":cf))=ai:=by
 unfold qY at h;rw[â,â,qw,qw]at h;obtain((h1|a)|b):=h;show(?_,by apply a,by apply b);ext sO;rw[ks];rcases h1 with⟨h1|h1⟩|h1
 .show .Q<|bi h1
 .show .X<|.Q<|bi h1
 .show .X<|.X<|bi h1
def ù.gl(O:ù S F k c X)(h:iq c x=b4):Gl X x/\(x==("__debug__":cf))=ai:=Xs O.ks h
def ù.vis(O:ù S F k c X)(h:qY c x=b4):sO X.M.xv x/\(x==("__debug__":cf))=b3/\(x==("__classdict__":cf))=ai:=Xu O.ks h
open _root_ in
def Xv(O:ù S F k c X)x ca:QE X (.xk x ca) (CK S c x):=by
 ext CK;lk
 .rename_i h;let(h1,a,g):=O.vis h;lk
  .rename_i i hi;show b6x i (by rw[O.N];show wI hi) h1 a g
  .show cG
 lk
 .rename_i h;let(h1,a):=O.gl h;lk
  .rename_i d hd;let(v,u,m,r,i):=O.con x d hd;show⟨sS (a7B h1 m r a) i⟩
  .lk
   .rename_i j;lk
    .rename_i n o;let(b,e):=Xa o;show b5y (O.no x j) b h1 e a
    .show cG
   .show cG
 .show cG
def jF(a:∀e,QE X e (r e)):∀es,es.all fR=b4->QA X es (fE r es) es.f
 |[],_=>b4y|e::es,h=>by rw[İ,â]at h;show b4w (a e) (jF a es h.2) h.1
def Jm(a:∀e,QE X e (r e))op ca:∀vs,QE X (.jp op vs ca) (z8 op<|vs.o r)
 |[]=>cG|[e]=>b5C (a e)|e::d::es=>by
  let b:=Jm a op ca<|d::es;cases op with
  |And=>show b5B (a e) b|Or=>show b5A (a e) b
def Jn(a:∀e,QT X e (r e))op ca:∀vs,QW X (.jp op vs ca) (z9 op<|vs.o r)
 |[]=>b4V|[e]=>by
  cases op with
  |And=>show b5Y (a e)|Or=>show b5X<|a e
 |e::d::es=>by
  let b:=Jn a op ca<|d::es;cases op with
  |And=>show b6L (a e) b|Or=>show b6K (a e) b
def Xw(d:QE X a g)(e:QE X b h)op ca:QE X (.BinOp a op b ca) (IU op g h):=by
 cases op with
 |Add=>show a9T d e|Sub=>show a9A d e|Mult=>show b5W d e|FloorDiv=>show b5R d e|Mod=>show b5Q d e|Pow=>show b5P d e|_=>show cG
open _root_ in
def Xx(O:ù S F k c X)(d:QE X a g)(e:QE X b i)op ca:QE X (.qq a [op] [b] ca) (qH op (jV b) g i):=by
 cases op with
 |Eq=>show b5J O.room d e|NotEq=>show b5I O.room d e|Lt=>show b5H d e|LtE=>show b5G d e|Gt=>show b5F d e|GtE=>show b5E d e|In=>
  dsimp[qH];lk
  .rename_i h;show Vk O.room d e h
  .show cG
 |NotIn=>
  dsimp[qH];lk
  .rename_i h;show Vl O.room d e h
  .show cG
 |Is=>show Uo d e|IsNot=>show Up d e
def Jo:QT X e (aP cJ):=⟨λDo s σ H Q I h=>by
 let(i,j,g,d,b,R,E,a,k):=h;ext a⟩
open _root_ in
def Xy(O:ù S F k c X)(d:QE X a g)(e:QE X b i)op ca:QT X (.qq a [op] [b] ca) (aP<|qH op (jV b) g i):=by
 cases op with
 |Eq=>show b5x O.room d e|NotEq=>show b5v O.room d e|Lt=>show b5l d e|LtE=>show b5e d e|Gt=>show b5d d e|GtE=>show b5c d e|In=>
  dsimp[qH];lk
  .rename_i h;show Vm O.room d e h
  .show Jo
 |NotIn=>
  dsimp[qH];lk
  .rename_i h;show Vn O.room d e h
  .show Jo
 |Is=>show Uq d e|IsNot=>show Ur d e
def wL(a:∀e,QE X e (r e)):∀o,QO X o (t5 r o)
 |bp=>b6C|bb e=>b6B<|a e
def Jp(O:ù S F k c X)(h:CL S c a=a7 ay):∃x p,a=.xk x p/\ϒ X x ay/\Gl X x/\(x==("__debug__":cf))=ai:=by
 show cC h ?_;clear h;intro x e g;let(p,?r):=t6 e;by_cases b:iq c x=b4
 .rw[ad b]at g;let(h1,d):=O.gl b;show(_,_,?r,O.tab _ _ g,h1,d)
 .rw[ac b]at g;ext g
def Xz(O:ù S F k c X)(n:∀e,QE X e (r e))(h1:gW o=b4)(i:(d.ku==h.line)=b4)(j:QA X ck (fE r ck) ck.f)(b:IX m ck.f=a7 g):QE X (.xz (.zk o m d) ck [] h) (eH g (r o)<|fE r ck):=by
 show gD b (λe g=>?_) λb=>?_
 .let(?r,a):=ϱ e;ext g;cases ck with
  |fk=>ext a|bm e p=>show yY ci.F.slot_list_append ci.F.type_list_append FQ b3z (n o) j h1 i<|by rw[a];decide
 show gD b (λe g=>?_) λb=>?_
 .let(?r,a):=ϱ e;ext g;cases ck with
  |fk=>ext a|bm e p=>show yY ci.F.slot_list_extend ci.F.type_list_extend b6U b3y (n o) j h1 i<|by rw[a];decide
 show gD b (λe g=>?_) λb=>?_
 .let(?r,a):=ϱ e;ext g;cases ck with
  |fk=>ext a|bm e p=>show yY ci.F.slot_list_index ci.F.type_list_index (b2J<|by have:=O.room.qv;lia) b2O (n o) j h1 i<|by rw[a];decide
 show gD b (λe g=>?_) λb=>?_
 .let(?r,a):=ϱ e;ext g;cases ck with
  |fk=>ext a|bm e p=>show yY ci.F.slot_list_pop ci.F.type_list_pop b6S b4u (n o) j h1 i<|by rw[a];decide
 ext b
def XA(O:ù S F k c X)(n:∀e,QE X e (r e))(h1:gW o=b4)(i:(a.ku==b.line)=b4)(j:QA X ck (fE r ck) ck.f)(h:RE.B ⟨m,ck.f⟩=a7 g):QE X (.xz (.zk o m a) ck [] b) (fW g (r o)<|fE r ck):=by
 show gD h (λe g=>?_) λh=>?_
 .let(?r,d):=ϱ e;ext g;cases ck with
  |fk=>ext d|bm e p=>show Ct U3 ci.F.type_dict_setdefault (V0<|by have:=O.room.qv;lia) VZ (n o) j h1 i<|by rw[d];decide
 show gD h (λe g=>?_) λh=>?_
 .let(?r,d):=ϱ e;ext g;cases ck with
  |fk=>ext d|bm e p=>show Ct Tv ci.F.type_dict_get (VW<|by have:=O.room.qv;lia) VV (n o) j h1 i<|by rw[d];decide
 show gD h (λe g=>?_) λh=>?_
 .let(?r,d):=ϱ e;ext g;cases ck with
  |fk=>ext d|bm e p=>show Ct U9 ci.F.type_dict_update (WS<|by have:=O.room.qv;lia) WR (n o) j h1 i<|by rw[d];decide
 ext h
open _root_ in
def XB(O:ù S F k c X)(y:∀e,QE X e (r e))f ck i:QE X (.xz f ck [] i) (CO S F r c f ck i):=by
 ext CO;lk
 .rename_i x p;lk
  .rename_i w;rw[â]at w;let(z,A):=O.gl w.1;let j:=jF y ck w.2;lk
   .rename_i n hn;lk
    .rename_i d;let(fa,Q,U,a,u,R,b):=O.fn x n hn;subst d;cases ck with
     |fk=>show b4q a O.room u R b z A|bm e B=>show b5z a O.room u R b j z A
    .show cG
   .skip;lk
    .rename_i q H;lk
     .rename_i d;rw[â]at d;cases ck with
      |fk=>show cb d.2 ∅|bm e B=>
       rcases O.mc x q.1 q.2 H with hz|(k'|C|Z|Q|U|rfl|G|M|a|b)
       .show Uk λρ μ=>by
         unfold pX;cases fE r (e::B) ρ μ with
         |bp=>rfl|bb p=>dsimp[ě,hz,af.bind_none]
       .have s:=bi d.1;rw[<- s]at a;show Uj M G a O.room z b j A
     .show cG
    lk
    .rename_i h;rw[â]at h;lk
     .rename_i g b;let(v,rr,J,Y,K,L,N):=Xi (X:=X) O.vn O.room.qv b;cases ck with
      |fk=>show cb h.2 ∅|bm e B=>
       rcases Y with(id|rfl)|(T|rfl)
       .show GI K L (O.no x h.1) J j z N A
       .show GJ K L (O.no x h.1) J j z N A
     .show cG
    .show cG
  .show cG
 .rename_i o m I;lk
  .rename_i w;rw[â,â]at w;obtain((h1|E)|h3):=w;let j:=jF y ck h3;lk
   .rename_i q H;lk
    .rename_i d;rw[â]at d;let(C,Z,Q,U,G,cl,M,a,b):=O.mt m q.1 q.2.1 q.2.2 H;let s:=bi d.1;rw[<- s]at a;cases ck with
     |fk=>show CpI (y o) h1 E G cl M a O.room b|bm e B=>show CrF (y o) h1 E G cl M a O.room b j<|bi d.2
    .show cG
   lk
   .rename_i g u;unfold Ja at u;show XA O y h1 E j u
   lk
   .rename_i g u;show Xz O y h1 E j u
   .skip
    .show cG
  .show cG
 .show cG
open _root_ in
def XC(O:ù S F k c X)(j:∀e,QE X e (r e))f ck a:QE X (.xz f ck [] a) (CQ S F r c f ck a):=by
 ext CQ;lk
 .rename_i b e h;lk
  .rename_i i;rw[â,â,â,â]at i;obtain((((n|o)|s)|u)|st):=i;let q:=jF j [e] (by rw[İ,st];rfl);show cC h ?_;clear h;intro t h1 g;let(p,v,ca,?r,?r):=Jc h1;split at g
   .rename_i d;ext g;rw[d.1,d.2];show b1M O.vn (O.no _ s) (O.no _ u) q (O.gl n).1 (O.gl o).1
   .ext g
  .show cG
 .show XB O j f ck a
def XD{X:Cx}(nd:X.N.J)(e:X.N=c.N)(ks:X.M.xv.qf=c.ks)(h:t9 c ap xs=b4):ŋ X.M.xv X.N ap xs/\xs.J:=by
 unfold t9 at h;rw[â,â]at h;obtain((h|b)|s):=h;let b:=bi b;let d:∀y∈c.N,xs.zo y=b4->ap.qf.B (sX y)=bp:=λy a hc=>by have:=ϐ.Z s y a;rw[hc]at ah;apply ah
 dsimp[â,ϐ,e4,qw,OS,ab.contains_eq_mem,mh]at h;obtain((((((h1|i)|j)|n)|q)|o)|p):=h;show((h1,i,λy a g=>(j y a).kb λz=>z g,n,λy a u=>?_,λy a g=>?_,nd,by rw[e];show b,by rw[e];show d),q)
 .rw[ks];rcases o y a with⟨z|z⟩|z
  .show cb u z
  .show .Q z
  .show .X z
 .rw[e];have:=(p y a).kb λz=>z g;show ah
def wM(O:ù S F k c X)(h:t9 c ap xs=b4):ŋ X.M.xv X.N ap xs/\xs.J:=XD O.nd O.N O.ks h
def Jq{N:ab cf}(h:N.J)(d:xs.J)(g:∀x∈xs,x∉N):(N++xs).J:=by rw[fB];show(h,d,λa i b j e=>by subst e;show g _ j i)
def Jr{X:Cx}(Q:ŋ X.M.xv X.N ap xs/\xs.J):(cD xs X.N++xs).J:=Jq Q.1.hnd Q.2 λx a=>Q.1.own ⟨x,.kg⟩ (R8<|Q.1.here x a) ?r
def XE{X:Cx}(a:X.M.xv.kind=.kv)(ks:X.M.xv.qf=c.ks)ap xs:(NU ap X.M).qf=(wJ c ap xs).ks:=by
 ext NU wJ;dsimp;show Φ λy x=>?_;let(n,b):=y;dsimp;have:(X.M.xv.kind==ScopeKind.kv)=bt:=by rw[a];rfl
 rw[ah,SJ];change(if(b==bc&&X.M.xv.qf.B n==a7 dg)=b4 then _ else _)=_;rw[ks]
def ù.comp(O:ù S F k c X)(h:t9 c ap xs=b4){C:ar}:ù S F k (wJ c ap xs) (dZ X ap cl C (cD xs X.N++xs) fi fq b):=
 (show cD xs X.N++xs=cD xs c.N++xs by rw[O.N],Jr<|wM O h,XE O.kind O.ks ap xs,(wM O h).1.kind,O.vn,O.room,Sy,O.fn,O.con,λy a q=>⟨(O.tab y a q).ex⟩,O.no
  ,O.ob,O.mt,O.mc
  )
def Js(j:∀e,QT X e (r e)):∀es,QI X es (Je r es)
 |[]=>b6I|[t]=>b6H<|j t
 |a::b::es=>⟨λg s u H Q I h=>by
   let(p,q,o,d,n,R,E,i,k):=h;ext i⟩
def wN(O:ù S F k c X)(h:mK S c x e=a7 ck):∃p ca,e=.xz (.xk x p) ck [] ca/\Gl X x/\X.mg x=b0/\ck.all fR=bt:=by
 show cC h ?_;clear h;intro g h1 i;show cC i ?_;clear i;intro y d a;by_cases z:y=x/\(iq c x&&S.no.zo x&&g.2.all fR)=b4
 .rw[ad z]at a;ext a;let b:=z.2;rw[â,â]at b;let(ca,h1):=IV h1;let(p,d):=t6 d;show(p,ca,by rw[h1,d,z.1],(O.gl b.1.1).1,O.no _ b.1.2,b.2)
 .rw[ac z]at a;ext a
def Jt(O:ù S F k c X)(n:∀e,QE X e (r e))e:QJ X e (Ac S r c e):=by
 ext Ac;cases h:mK S c "range" e with
 |bb o=>
  let(p,ca,?r,h1,j,i):=wN O h;match o,i with
  |[],_=>show GO|[a],i=>show b3P h1 j (jF n [a] i)|[a,b],i=>show b3J h1 j (jF n [a,b] i)|[a,b,d],i=>show b0M h1 j (jF n [a,b,d] i)|_::_::_::_::_,_=>show GO
 |bp=>
  cases g:(mK S c "reversed" e).U o1 with
  |bb a=>show cC g ?_;clear g;intro o q s;obtain rfl:=t7 s;let(p,ca,?r,h1,j,i):=wN O q;show TaI h1 j (jF n [a] i)|bp=>show b3T<|n e
def XF(O:ù S F k c X)(b:∀e,QE X e (r e))e:ig X e (CU S r c e):=by
 ext CU;cases h:(mK S c "enumerate" e).U o1 with
 |bb a=>show cC h ?_;clear h;intro n d g;obtain rfl:=t7 g;let(p,ca,?r,h1,i,j):=wN O d;show W9 h1 i (jF b [a] j)|bp=>show(Jt O b e).t
def XG(O:ù S F k c X)(a:∀e,QE X e (r e))e:ig X e (CV S r c e):=by
 ext CV;cases h:(mK S c "zip" e).U o3 with
 |bb t=>show cC h ?_;clear h;intro j b d;obtain rfl:=Xc (a:=t.1) (b:=t.2.1) (c:=t.2.2) d;let(p,ca,?r,h1,g,i):=wN O b;show WZ h1 g (jF a [t.1,t.2.1,t.2.2] i)|bp=>show XF O a e
def XH(O:ù S F k c X)(a:∀e,QE X e (r e))e:ig X e (CW S r c e):=by
 ext CW;cases h:(mK S c "zip" e).U o2 with
 |bb t=>show cC h ?_;clear h;intro j b d;obtain rfl:=Xb (a:=t.1) (b:=t.2) d;let(p,ca,?r,h1,g,i):=wN O b;show Vt h1 g (jF a [t.1,t.2] i)|bp=>show XG O a e
def C9(O:ù S F k c X)(a:∀e,QE X e (r e))tg e:PI X tg e (Ϩ X.K<|Ad S r c tg e):=by
 cases tg with
 |Tuple=>show(XH O a e).h _ _ _|_=>show(Jt O a e).h _
def Ju(h:jV ea=b4):∀x,wu ea eA x=ej x:=by intro z;ext ea<;>first|rfl|ext h
def Jv(a:X.N.J):∀es xs n,es.mapM mJ=a7 xs->(∀j x,xs[j]?=a7 x->X.N[n+j]?=a7 x/\X.M.xv.qf.B x=a7 .kg)->xq X es (uw n xs.f)
 |[],xs,n,h,hx=>by ext h;show GK
 |e::es,xs,n,h,hx=>by rw[ab.mapM_cons]at h;show cC h ?_;clear h;intro x h1 h;show cC h ?_;clear h;intro d b h;ext h;let(p,?r):=t6 h1;rw[ĩ,OR];let h0:=hx 0 x ?r;show GL n a (Jv a es d (n+1) b λj z c=>?_) h0.1 (.Q h0.2)<|.X h0.2;have:=hx (j+1) z c;rw[<- am.add_assoc,am.add_right_comm]at ah;show ah
def XI{c:Cs}(Q:ŋ X.M.xv X.N ap [x]/\[x].J)cl C fi fq a:PG (dZ X ap cl C (cD [x] X.N++[x]) fi fq a) (.xk x p) (Ξ X.K<|gB X.N.f sZ):=by let d:=Jr Q;let b:(NU ap X.M).names.lookup x=a7 .kg:=Sh (Q.1.here x ∅);show b3I (X:=dZ X ap cl C (cD [x] X.N++[x]) fi fq a) (by change(cD [x] X.N++[x]).f=_;rw[ô,rA];rfl)<|Gw (X:=dZ X ap cl C (cD [x] X.N++[x]) fi fq a) d (by change(cD [x] X.N++[x])[X.N.f]?=_;rw[<- rA [x] X.N];simp) (.Q b)<|.X b
open _root_ in
def Ae(O:ù S F k c X)(a:CY tg=a7 xs)(h:t9 c ap xs=b4)cl C fi fq b:
  PG (dZ X ap cl C (cD xs X.N++xs) fi fq b) tg (Ξ X.K<|gB X.N.f<|CZ tg xs.f)/\∀d o z,CZ tg xs.f d o=a7 z->z.f=xs.f:=by
 let(St,g):=wM O h;let u:(cD xs X.N++xs).J:=Jq St.hnd g λx a=>St.own ⟨x,.kg⟩ (R8<|St.here x a) ?r;let e:∀x∈xs,(NU ap X.M).names.lookup x=a7 .kg:=λx a=>Sh<|St.here x a;unfold CY at a;split at a
 .rename_i x p;ext a;show(XI (c:=c) (St,g) cl C fi fq b,λd o z n=>?_);ext n;rfl
 .rename_i s w pt;show(b3G (X:=dZ X ap cl C (cD xs X.N++xs) fi fq b) (by change(cD xs X.N++xs).f=_;rw[ô,rA]) (BR (X:=dZ X ap cl C (cD xs X.N++xs) fi fq b) (Jv (X:=dZ X ap cl C (cD xs X.N++xs) fi fq b) u s xs X.N.f a λj x q=>(?_,e x<|œ q)) O.vn).h,λd o z n=>?_)
  .change(cD xs X.N++xs)[X.N.f+j]?=a7 x;rw[gk<|by rw[rA];lia,rA,show X.N.f+j-X.N.f=j by lia];show q
  .let(y,h1,i):=ń.Z n;split at i
   .rename_i v;ext i;rw[Ä];show v
   .ext i
 .ext a
open _root_ in
def XJ(O:ù S F k c X)(g:∀e,QE X e (r e))f ck b:QE X (.xz f ck [] b) (CT S F r c f ck b):=by
 ext CT;lk
 .rename_i q h;lk
  .rename_i a;rw[â,â,â,â,â]at a;obtain(((((n|o)|u)|v)|st)|s):=a;show cC h ?_;clear h;intro t h1 i;split at i
   .rename_i d;let(p,w,ca,?r,?r):=Jc h1;rw[d.1,d.2,Xo i];show V8 O.vn O.room.qv (O.no _ u) (O.no _ v) (O.gl n).1 (O.gl o).1 (g _) st s
   .ext i
  .show cG
 lk
 .rename_i e h;lk
  .rename_i a;rw[â]at a;let(p,?r,?r,j):=IZ h;show GI (VR O.vn) Xj (O.no _ a.2) Qx (jF g _ j) (O.gl a.1).1 ⋯ (O.gl a.1).2
  .show cG
 .rename_i e h;lk
  .rename_i a;rw[â]at a;let(p,?r,?r,j):=IZ h;show GJ V3 Xk (O.no _ a.2) R6 (jF g _ j) (O.gl a.1).1 ⋯ (O.gl a.1).2
  .show cG
 show XC O g _ _ _
open _root_ in
def Dd(u:∀c X,ù S F k c X->∀e,QE X e (o c e))(v:∀c X,ù S F k c X->∀e,QT X e (p c e))c X(O:ù S F k c X)ii tg ea hZ ap ca(hi:PI X tg ea (Ϩ X.K n)):QE X (.vw ii [(tg,ea,hZ,0)] ap ca) (qJ n o p c ii tg ea hZ ap):=by
 ext qJ;lk
 .rename_i y j;lk
  .rename_i h;rw[â]at h;show⟨λg s x H Q I q=>?_⟩;show b4X ((wM O h.1).1.ok I.ok) O.vn hi (λd w z=>(Ae O j h.1 [] 0 s H []).2 d w z) (λC b a i=>(Ae O j h.1 _ C b a i).1) (λC b a i=>(Js (v _ _<|O.comp h.1) _).h) (λC b a i=>(u _ _ (O.comp h.1) _).h) (Ju h.2) g s x H Q I q
  .show cG
 .show cG
def XM(a:∀c X,ù S F k c X->∀e,QE X e (d c e))(b:∀c X,ù S F k c X->∀e,QT X e (g c e))c X(O:ù S F k c X)ii tg ea hZ ap ca:QE X (.vw ii [(tg,ea,hZ,0)] ap ca) (C0 S d g c ii tg ea hZ ap):=by
 ext C0;lk
 .show VL (Dd a b c X O ii tg ea hZ ap ca<|(Cq<|a c X O ea).h tg) cG
 show Dd a b c X O ii tg ea hZ ap ca<|C9 O (a c X O) tg ea
def XN v n p:QE X (.ve v n p) (Jf v):=by ext v<;>first|show b6w|show b6v|show b6s|show b6r|show cG
def XO{r:bo->ME}(b:∀e,QE X e (r e))op a p:QE X (.UnaryOp op a p) (Jg (r a) op):=by ext op<;>first|show b5O (b _)|show b5M (b _)|show cG
def XQ(O:ù S F k c X)(d:∀e,QE X e (r e))a k0 bs p:QE X (.qq a k0 bs p) (Jh S r a k0 bs):=by
 match k0,bs with
 |[op],[b]=>show Xx O (d _) (d _) _ _|[op,op'],[b,b']=>
  change QE X _ (match jB op,jB op' with
  |bb p,a7 q=>oM (iV p) (iV q) (r a) (r b)<|r b'
  |_,_=>cJ)
  cases h1:jB op with
  |bp=>show cG|bb p=>cases g:jB op' with
   |bp=>show cG|bb q=>show Ul h1 g (d _) (d _)<|d _
 |[],_=>show cG|[_],[]=>show cG|[_],_::_::_=>show cG|[_,_],[]=>show cG|[_,_],[_]=>show cG|[_,_],_::_::_::_=>show cG|_::_::_::_,_=>show cG
def XR(O:ù S F k c X)(d:∀e,QE X e (r e))a k0 bs p:QE X (.qq a k0 bs p) (C1 S c r a k0 bs):=by
 ext C1;cases h:Ji S c k0 bs with
 |bp=>show XQ O d a k0 bs p|bb j=>
  match k0,bs,h with
  |[.In],[b],h=>let(x,q,?r,T,g,i):=Jp O h;show b4P T g i<|d _
def XS(O:ù S F k c X)(a:∀e,QE X e (r e))ks vs p:QE X (.Dict ks vs p) (C2 r ks vs):=by
 ext C2;try lk
 .show b2W
 .show cG
open _root_ in
def XT(O:ù S F k c X)(d:∀e,QE X e (r e))a b p:QE X (.xy a b p) (C3 S r c a b):=by
 ext C3;lk
 .show b6A (d _) (wL d _)<|wL d _
 .show b2T (d _) (wL d _) (wL d _)<|wL d _
 .lk
  .rename_i h;lk
   .rename_i n j;let(x,p,?r,T,g,i):=Jp O j;show b4U T g i (d _) h
   .show Vj O.room (d _) (d _) h
  .show cG
open _root_ in
def oV(a:∀e,QE X e (r e))e:QT X e (wK r e):=by
 ext wK;lk
 .rename_i h;show b4s (a _) h
 .show yT
def XU(O:ù S F k c X)(d:∀e,QE X e (r e))a k0 bs p:QT X (.qq a k0 bs p) (C8 S r a k0 bs p):=by
 match k0,bs with
 |[op],[b]=>show Xy O (d _) (d _) _ _|[op,op'],[b,b']=>
  ext C8;dsimp;cases h1:jB op with
  |bp=>show yT|bb p=>cases g:jB op' with
   |bp=>show yT|bb q=>show Um h1 g (d _) (d _)<|d _
 |[],_=>show oV d _|[_],[]=>show oV d _|[_],_::_::_=>show oV d _|[_,_],[]=>show oV d _|[_,_],[_]=>show oV d _|[_,_],_::_::_::_=>show oV d _|_::_::_::_,_=>show oV d _
open _root_ in
def XW(a:∀e,QE X e (r e))es n p:QE X (.va es n p) (C4 r es):=by
 ext C4;lk
 .rename_i h;show b4v<|jF a _ h
 .show cG
open _root_ in
def XX(a:∀e,QE X e (r e))es p:QE X (.List es p) (C5 r es):=by
 ext C5;lk
 .rename_i h;show b6F<|jF a _ h
 .show cG
open _root_ in
def XY(O:ù S F k c X)(b:∀e,QE X e (r e))f ck d a g p:QE X (.xz f ck [(a7 d,a,g)] p) (C6 S r c f ck d a):=by
 ext C6;cases f with
 |Name x i=>
  dsimp;lk
  .lk
   .rename_i h;let(?r,?r,h):=h;rw[â,â]at h;show Wt O.vn O.room.qv (O.gl h.1.1).1 (O.no _ h.1.2) (b _) (b _) h.2
   .show cG
  .show cG
 |_=>show cG
def XZ(O:ù S F k c X)(b:∀e,QE X e (r e))f ck a p:QE X (.xz f ck a p) (C7 S F r c f ck p a):=by
 ext C7;lk
 .show XJ O b _ _ _
 .show XY O b _ _ _ _ _ _
 .show cG
open _root_ in
def X2(O:ù S F k c X)(h:QE X o m):QE X (.zk o a p) (if gW o then(match S.ob.B a with|bb x=>hX x a m|bp=>cJ)else cJ):=by
 lk
 .rename_i e;lk
  .rename_i y g;let(C,h1,b,d):=O.ob a y g;show GoI h e h1 b d
  .show cG
 .show cG
def Jw(E:∀c X,ù S F k c X->∀e,QE X e (q c e))(G:∀c X,ù S F k c X->∀e,QT X e (s c e))c X(O:ù S F k c X):
  (∀e,QE X e (Jk S F q s c e))/\∀e,QT X e (Jl S q s c e):=by
 let d:=E c X O;let y:=G c X O;constructor
 .intro e;cases e with
  |Name x p=>show Xv O _ _|Constant v n p=>show XN v n p|BinOp a i b p=>show Xw (d _) (d _) _ _|o0 i a p=>show XO d i a p|Compare a g bs p=>show XR O d a g bs p|BoolOp i A p=>show Jm d _ _ _|IfExp t a b p=>show b4z (y _) (d _) (d _)|Tuple w n p=>show XW d w n p|ab w p=>show XX d w p|Dict H A p=>show XS O d H A p|Subscript a b p=>show XT O d a b p|Call f ck z j=>show XZ O d f ck z j|Attribute o a p=>show X2 O (d _)|ListComp u B h p=>
   change QE X _ (Jj S q s c u h B);match B with
   |[]=>show cG|[(_,_,_,.ofNat 0)]=>show XM E G c X O _ _ _ _ _ _|[(_,_,_,.ofNat<|_+1)]=>show cG|[(_,_,_,.negSucc _)]=>show cG|(_,_,_,.ofNat 0)::_::_=>show cG|(_,_,_,.ofNat<|_+1)::_::_=>show cG|(_,_,_,.negSucc _)::_::_=>show cG
  |_=>show cG
 .intro e;cases e with
  |BoolOp i A p=>show b6J (Jn y _ _ _)|o0 i a p=>
   ext i;case Not=>show b5a<|y _
   all_goals show oV d _
  |Compare a g bs p=>show XU O d a g bs p|_=>show oV d _
def De:∀n,(∀c X,ù S F k c X->∀e,QE X e ((tr S F n).1 c e))/\∀c X,ù S F k c X->∀e,QT X e ((tr S F n).2 c e)
 |0=>(λc X O e=>cG,λc X O e=>yT)|n+1=>by let a:=De (S:=S) (F:=F) (k:=k) n;show(λc X O e=>(Jw a.1 a.2 c X O).1 e,λc X O e=>(Jw a.1 a.2 c X O).2 e)
def Af!:MG:=λ_ x x=>b0
def wO!(c:Cs):ab bo->af (ab am)
 |[]=>a7 []|.xk x _::r=>if qG c x then(oU x c.N).U λi=>(wO c r).o (i::·)else b0|_=>b0
def rZ!(c:Cs):bo->MG
 |.xk x _=>if qG c x then(match oU x c.N with|bb i=>dE i|bp=>Af)else Af|.va es _ _=>match wO c es with|bb a=>fY a|bp=>Af
 |_=>Af
def mL!(r:ff->MS):ab ff->MS
 |[]=>bM|[s]=>r s|s::t=>aL (r s)<|mL r t
def Df!(S:Ĝ)(E:Cs->bo->ME)(T:Cs->bo->MT)(c:Cs)(i:am):bo->MS
 |.vw ii [(tg,ea,hZ,0)] ap _=>match Ab S c tg ea with
  |bb j=>f9 j (dA i<|qJ (gX<|E c ea) E T c ii tg ea hZ ap) dJ|bp=>dA i<|qJ (Ad S (E c) c tg ea) E T c ii tg ea hZ ap
 |_=>dJ
def Dg!(S:Ĝ)(E:Cs->bo->ME)(T:Cs->bo->MT)(c:Cs)(tg e:bo):MS:=match tg with
 |.xk y _=>if qG c y then(match oU y c.N with
   |bb i=>if l8 e then dA i (E c e)else Df S E T c i e
   |bp=>dJ)else dJ
 |.va es _ _=>if BS e then(match wO c es with|bb b=>l6 (E c e) (fY b)|bp=>dJ)
   else dJ
 |.xy o i _=>if l8 e&&rG i then d8 (E c o) (E c i) (E c e)else dJ|.zk o a _=>match S.ob.B a with|bb x=>if l8 e then pW x a (E c o) (E c e)else dJ|bp=>dJ
 |_=>dJ
def uA!:am:=1000000000
def Dh!(S:Ĝ)(c:Cs)(tg:bo):bo->af (am×bo×Ń×Ń)
 |.xz g [] [] fb=>match g with
  |.zk o m f8=>if m="values" then(Ab S c tg o).o λj=>⟨j,o,f8,fb⟩else b0|_=>b0
 |_=>b0
open _root_ in
def X3(h:Dh S c tg e=a7 q):e=.xz (.zk q.2.1 "values" q.2.2.1) [] [] q.2.2.2:=by
 unfold Dh at h;split at h
 .split at h
  .split at h
   .rename_i a;let(j,_,?r):=Ľ.Z h;rw[a]
   .ext h
  .ext h
 .ext h
def Di!(S:Ĝ)(c:Cs)(tg:bo):bo->af (am×bo×Ń×Ń)
 |.xz g [] [] fb=>match g with
  |.zk o m f8=>match tg with
   |.va ..=>if m="items" then(Jb S c o).o λj=>⟨j,o,f8,fb⟩else b0|_=>b0
  |_=>b0
 |_=>b0
open _root_ in
def X4(h:Di S c tg e=a7 q):e=.xz (.zk q.2.1 "items" q.2.2.1) [] [] q.2.2.2/\∃es b p,tg=.va es b p:=by
 unfold Di at h;split at h
 .split at h
  .split at h
   .split at h
    .rename_i a;let(j,_,?r):=Ľ.Z h;rw[a];show(?r,_,_,_,?r)
    .ext h
   .ext h
  .ext h
 .ext h
def Dj!(tg:bo):bo->af (bo×Ń×Ń)
 |.xz g [] [] fb=>match g with
  |.zk o m f8=>match tg with
   |.va ..=>if m="items" then a7 ⟨o,f8,fb⟩else b0|_=>b0
  |_=>b0
 |_=>b0
open _root_ in
def X5(h:Dj tg e=a7 q):e=.xz (.zk q.1 "items" q.2.1) [] [] q.2.2/\∃es b p,tg=.va es b p:=by
 unfold Dj at h;split at h
 .split at h
  .split at h
   .split at h
    .rename_i a;ext h;rw[a];show(?r,_,_,_,?r)
    .ext h
   .ext h
  .ext h
 .ext h
def Jx!(S:Ĝ)(E:Cs->bo->ME)(T:Cs->bo->MT)(c:Cs)(r:ff->MS):ff->MS
 |.Return (a7 e) _=>aM (E c e)|.Return b0 _=>aM (mC .kf)|.If t a b _=>bB (T c t) (mL r a) (mL r b)|.Assign [tg] e _=>Dg S E T c tg e|.Expr e _=>if l8 e then dP (E c e)else dJ|.For tg ea gi [] _=>if jV ea then
  (match Di S c tg ea with
  |bb q=>if gW q.2.1&&(q.2.2.1.ku==q.2.2.2.line)then f9 q.1 (cV (qD<|E c q.2.1) (rZ c tg)<|mL r gi) dJ else dJ|bp=>
  (match Dj tg ea with
  |bb q=>if gW q.1&&(q.2.1.ku==q.2.2.line)then cV (Iz<|E c q.1) (rZ c tg) (mL r gi)else dJ|bp=>
  (match Dh S c tg ea with
  |bb q=>if gW q.2.1&&(q.2.2.1.ku==q.2.2.2.line)then f9 q.1 (cV (tW<|E c q.2.1) (rZ c tg)<|mL r gi) dJ else dJ|bp=>
  (match Ab S c tg ea with
  |bb j=>f9 j (cV (gX<|E c ea) (rZ c tg)<|mL r gi) dJ
  |bp=>cV (Ad S (E c) c tg ea) (rZ c tg)<|mL r gi)
  )
  )
  )
  else dJ
 |.While t gi [] _=>tH uA (T c t) (mL r gi)|.Pass _=>bM|_=>dJ
def Dk!(S:Ĝ)(F:cf->MF)(m:am)(c:Cs):am->ff->MS
 |0=>λ_=>dJ|n+1=>Jx S (tr S F m).1 (tr S F m).2 c<|Dk S F m c n
def X6{X:Cx}(ks:X.M.xv.qf=c.ks)(h:qG c x=b4):_2.Loc X.M.xv x:=by unfold qG at h;rw[qw]at h;ext _2.Loc;rw[ks];show h.imp bi bi
def ù.own(O:ù S F k c X)(h:qG c x=b4):_2.Loc X.M.xv x:=X6 O.ks h
open _root_ in
def Dl(O:ù S F k c X)(b:∀x,X.fn x=b4):∀es a,wO c es=a7 a->xq X es a
 |[],a,h=>by ext h;show GK
 |e::es,a,h=>by
  cases e with
  |Name x p=>
   unfold wO at h;split at h
   .rename_i g;show cC h ?_;clear h;intro i h1 h;show cI h ?_;clear h;intro j d h;subst h;show GL i O.nd (Dl O b es j d) (by rw[O.N];show wI h1) (O.own g)<|.Q<|b x
   .ext h
  |_=>ext h
open _root_ in
def wQ(O:ù S F k c X)(a:∀x,X.fn x=b4)e:QG X e (rZ c e):=by
 ext rZ;lk
 .lk
  .rename_i b;lk
   .rename_i i hi;show b3e i O.nd (by rw[O.N];show wI hi) (O.own b)<|.Q<|a _
   .show yU λ_ y y=>rfl
  .show yU λ_ y y=>rfl
 .lk
  .rename_i d hi;show BR (Dl O a _ d hi) O.vn
  .show yU λ_ y y=>rfl
 .show yU λ_ y y=>rfl
def nO(a:∀s,QS X s (r s)):∀b,QB X b (mL r b)
 |[]=>b6G|[s]=>b3m (a s)|s::t::ts=>b3t (a s)<|nO a<|t::ts
def X7:
  ∃b,dI (.vw ii [(tg,ea,hZ,0)] ap ca) (a7<|.xk y py) n eA=ej b/\(b=b4->eA.kn y=a7 .kg):=by
 show(eA.blockKind==.kv&&eA.kn y==a7 .kg&&py.line==ca.line&&!(ap.qf.any λ⟨n,k⟩=>n==y&&(k==.kg||k==.kz)),?r,λh=>?_);dsimp[â,bg]at h;show h.1.1.2
open _root_ in
def Jy(O:ù S F k c X)(J:∀x,X.fn x=b4)(w:∀c X,ù S F k c X->∀e,QE X e (E c e))(A:∀c X,ù S F k c X->∀e,QT X e (T c e))(hi:X.N[i]?=a7 y)(K:qG c y=b4)ii tg ea hZ ap ca(o:PI X tg ea (Ϩ X.K G)):QS X (.Assign [.xk y py] (.vw ii [(tg,ea,hZ,0)] ap ca) j) (dA i<|qJ G E T c ii tg ea hZ ap):=by
  let(b,n,v):=X7 (ii:=ii) (tg:=tg) (ea:=ea) (hZ:=hZ) (ap:=ap) (ca:=ca) (py:=py) (y:=y) (n:=j.line) (eA:=X.M);cases b with
  |ai=>show⟨Gb O.nd hi (O.own K) (Dd w A c X O ii tg ea hZ ap ca o).h n<|.Q<|J y⟩|bt=>
   ext qJ;lk
   .rename_i N B;lk
    .rename_i h;rw[â]at h;show⟨λp s M H D I q=>?_⟩;show b4W ((wM O h.1).1.ok I.ok) O.nd O.vn o (λd L z=>(Ae O B h.1 [] 0 s H []).2 d L z) (λC g a u=>(Ae O B h.1 _ C g a u).1) (λC g a u=>(Js (A _ _<|O.comp h.1) _).h) (λC g a u=>(w _ _ (O.comp h.1) _).h) (Ju h.2) hi (v ?r) n p s M H D I q
    .show Hv
   .show Hv
def X8(O:ù S F k c X)(g:∀x,X.fn x=b4)(b:∀c X,ù S F k c X->∀e,QE X e (E c e))(d:∀c X,ù S F k c X->∀e,QT X e (T c e))(hi:X.N[i]?=a7 y)(h:qG c y=b4)e:QS X (.Assign [.xk y py] e a) (Df S E T c i e):=by
 ext Df;lk
 .lk
  .show zP (Jy O g b d hi h _ _ _ _ _ _<|(Cq<|b c X O _).h _) fI
  .show Jy O g b d hi h _ _ _ _ _ _<|C9 O (b c X O) _ _
 .show fI
open _root_ in
def X9(O:ù S F k c X)(d:∀x,X.fn x=b4)(a:∀c X,ù S F k c X->∀e,QE X e (E c e))(p:∀c X,ù S F k c X->∀e,QT X e (T c e))tg e ca:
  QS X (.Assign [tg] e ca) (Dg S E T c tg e):=by
 ext Dg;lk
 .lk
  .rename_i j;lk
   .rename_i i hi;let b:=wI hi;rw[<- O.N]at b;lk
    .rename_i g;show b3f i O.nd (a c X O e) g b (O.own j)<|.Q<|d _
    .show X8 O d a p b j e
   .show fI
  .show fI
 .lk
  .rename_i g;lk
   .rename_i s hi;show b3W (a c X O e) (BR (Dl O d _ s hi) O.vn) g
   .show fI
  .show fI
 .lk
  .rename_i h;rw[â]at h;show Vo O.room (a c X O _) (a c X O _) (a c X O _) h.1
  .show fI
 .lk
  .rename_i y q;lk
   .rename_i h;let(C,h1,n,o):=O.ob _ y q;show FpI (a c X O _) (a c X O _) h h1 n o
   .show fI
  .show fI
 .show fI
open _root_ in
def Yb(O:ù S F k c X)(n:∀x,X.fn x=b4)(i:∀c X,ù S F k c X->∀e,QE X e (E c e))(A:∀c X,ù S F k c X->∀e,QT X e (T c e))(j:∀s,QS X s (r s))st:
  QS X st (Jx S E T c r st):=by
 cases st with
 |Return o p=>
  cases o with
  |bp=>show b4Z|bb e=>show b3i<|i c X O _
 |If t a b p=>show b3g (A c X O _) (nO j _) (nO j _)|Assign G e p=>
  cases G with
  |fk=>show fI|bm H I=>
   cases I with
   |fk=>show X9 O n i A _ _ _|bm _ _=>show fI
 |bo e p=>
  change QS X _ (if l8 e then dP (E c e)else dJ);lk
  .rename_i h;show b3h (i c X O _) h
  .show fI
 |For H w u d p=>
  cases d with
  |bm _ _=>show fI|fk=>
   change QS X _ (if jV w then _ else dJ);lk
   .rename_i h;lk
    .rename_i q v;lk
     .rename_i g;rw[â]at g;let(e,z,B,pt,y):=X4 v;rw[e]at h ⊢;subst y;show zP (vL ((Wm (i c X O _) g.1 g.2).h z B pt) (wQ O n _) (nO j _) O.never O.vn h) fI
     .show fI
    lk
    .rename_i q v;lk
     .rename_i g;rw[â]at g;let(e,z,B,pt,y):=X5 v;rw[e]at h ⊢;subst y;show vL ((Wo (i c X O _) g.1 g.2).h z B pt) (wQ O n _) (nO j _) O.never O.vn h
     .show fI
    lk
    .rename_i q v;lk
     .rename_i g;rw[â]at g;let e:=X3 v;rw[e]at h ⊢;show zP (vL ((Wg (i c X O _) g.1 g.2).h _) (wQ O n _) (nO j _) O.never O.vn h) fI
     .show fI
    lk
    .show zP (vL ((Cq<|i c X O _).h _) (wQ O n _) (nO j _) O.never O.vn h) fI
    show vL (C9 O (i c X O) _ _) (wQ O n _) (nO j _) O.never O.vn h
   .show fI
 |While t u d p=>
  cases d with
  |fk=>show b4p _ (A c X O _) (nO j _) O.never|bm _ _=>show fI
 |Pass p=>show b3l|_=>show fI
def Jz(O:ù S F k c X)(a:∀x,X.fn x=b4)m:∀n st,QS X st (Dk S F m c n st)
 |0,_=>fI|n+1,st=>Yb O a (De m).1 (De m).2 (Jz O a m n) st
def eN!(st:ff):ab cf:=(jR st).args.map (·.arg)
def qK!(st:ff):ab cf:=eN st++(dO st).names.filterMap λy=>if(y.2==NameKind.kg||y.2==dg)&&!(eN st).zo y.1 then a7 y.1 else b0
def mM!(st:ff):av:=
 ag ((dO st).kind=.kv)&&!(dO st).isCoroutine&&!(dO st).isGenerator&&ag (qK st).J &&
 ((eN st).all λx=>ag ((dO st).names.lookup x=a7 .kg)||ag ((dO st).names.lookup x=a7 .kz))&&((dO st).names.all λy=>ag<|y.2≠.kr)
def Yc(h:mM st=b4):ī (qK st) (eN st) (dO st):=by unfold mM at h;dsimp[â,e4,OS,ϐ,qw]at h;obtain(((((h1|a)|b)|c)|d)|e):=h;show(h1,a,b,c,by ext qK;simp,d,e)
def JA!:am:=40
def JB!:am:=40
def lk!(S:Ĝ)(ds:ab (cf×ff))(x:cf):af ff:=match ds.B x with
 |bb st=>a7 st|bp=>S.ms.B x
def Dm!(S:Ĝ)(F:cf->MF)(st:ff):MF:=Bz (qK st).f<|mL (Dk S F JA (qK st,(dO st).qf) JB)<|hW st
def jG!(S:Ĝ)(ds:ab (cf×ff)):am->cf->MF
 |0,_=>λ_ y=>b0|k+1,x=>match lk S ds x with
  |bp=>match S.mc.B x with
   |bp=>λ_ y=>b0|bb q=>jG S ds k q.1
  |bb st=>Dm S (jG S ds k) st
structure ϔ(K:Ï)(mg:cf->af ax)(x:cf)(st:ff):Prop where
 ex:∃f fd,Ϧ K x x st f fd/\mg x=a7 (.x f)/\ó K fd (eN st) []
def r6!(K:Ï)(s:af ff)(n:am)(g:ar):Prop:=∃a b q st,s=a7 st/\Ϧ K b q st g a/\ó K a (eN st) []/\(eN st).f=n+1
structure Ů(P:Ŧ)(w:ņ)(K:Ï)(mg:cf->af ax)(S:Ĝ)(ds:ab (cf×ff)):Prop where
 fns:∀x n,S.fn.B x=a7 n->∃st,ds.B x=a7 st/\(eN st).f=n
 defs:∀x st,ds.B x=a7 st->ϔ K mg x st/\mM st=b4
 con:∀x d,S.con.B x=a7 d->∃v u,mg x=a7 u/\Í v u/\∀π n H,Ù K π n H v d
 tab:∀x ay,S.tab.B x=a7 ay->∃(p:ar)(vs:ab (b9×V))(ws:ab (b9×ax)),mg x=a7 (.x p)/\(p==Ļ)=b3/\(∀h:ê,K.In h->h.DictOf (jP P w) p ws)/\KV vs ws/\∀π n H,Ŵ K π n H vs ay
 no:∀x,S.no.zo x=b4->mg x=b0
 ob:∀f x,S.ob.B f=a7 x->∃C,ő K x C/\Ť K C/\Č K C f
 mt:∀m x y n,S.mt.B m=a7 ⟨x,y,n⟩->∃(C g:ar),ő K x C/\Ť K C/\ũ K C m g/\r6 K (lk S ds y) n g
 mc:∀x y n,S.mc.B x=a7 ⟨y,n⟩->lk S ds x=b0/\∃(C g:ar),ő K x C/\Mk K C g/\r6 K (lk S ds y) n g
 ms:∀y st,S.ms.B y=a7 st->mM st=b4
def JC(h:ds.B x=a7 st):lk S ds x=a7 st:=by ext lk;rw[h]
open _root_ in
def Ů.sc(T:Ů P w K a S ds)(h:lk S ds x=a7 st):mM st=bt:=by
 unfold lk at h;split at h
 .rename_i h1;ext h;show(T.defs _ _ h1).2
 .show T.ms _ _ h
def Yd(T:Ů P w K U S ds)k:∀x st nm q f M,lk S ds x=a7 st->Ϧ K nm q st f M->
  đ P w K U fy gR k f M (eN st) (gT K (eN st).f<|jG S ds k x):=by
 induction k using am.strongRecOn with
 |_ k v=>
 intro x st nm q f M Z hF;cases k with
 |ij=>show(λvs H Q E h=>h.1,λA ee s H ck us vs Q E hr he hb hv hs=>by
   let(_,π,ds',μ,d,aw,R,i,hm,kc):=hs;ext hm)
 |im k=>
  let ih:=v k<|ς k;let e:jG S ds (k+1) x=Dm S (jG S ds k) st:=by change(match lk S ds x with|bp=>_|bb st=>Dm S (jG S ds k) st)=_;rw[Z]
  rw[e];let G:=Yc<|T.sc Z;show b3V hF G (by ext qK;simp) ?r λL A ee s H E hr=>?_;let O:ù S (jG S ds k) k (qK st,(dO st).qf) (oC gR P w K U fy (qK st) q (dO st) f L A ee s H E).nox:=by
   show(?r,G.nd,?r,G.kind,?r,hr,Sy,λy n o=>?_,T.con,λy N q=>⟨T.tab y N q⟩,T.no
    ,T.ob,λm y z n o=>?_,λy z n o=>?_
    )
   .let(a,h1,u):=T.fns y n o;let(Y,b,j,m',p):=(T.defs y a h1).1.ex;subst u;show(Y,b,eN a,ih y a _ _ Y b (JC h1) j,m',j.kp,p)
   .let(C,g,I,J,c3,b,c,X,a,h1,j,p,u):=T.mt m y z n o;have:=ih z a c X g b h1 j;rw[u]at ah;show(C,g,b,eN a,I,J,c3,ah,p)
   .let(h0,C,g,I,J,b,c,X,a,h1,j,p,u):=T.mc y z n o;cases k with
    |ij=>show .Q λ_ l=>rfl|im B=>
     have:=v B () z a c X g b h1 j;rw[u]at ah;let e3:jG S ds (B+1) y=jG S ds B z:=by change(match lk S ds y with|bp=>(match S.mc.B y with|bp=>λ_ l=>b0|bb q=>jG S ds B q.1)|bb st=>_)=_;rw[h0];dsimp;rw[o]
     rw[<- e3]at ah;show .X (B,C,g,b,eN a,?r,I,J,ah,p)
  show nO (Jz O (λ_=>rfl) JA JB)<|hW st
def Ye(T:Ů P w K b S ds)k x st f a(d:ds.B x=a7 st)(c:Ϧ K x x st f a):
  đ P w K b fy gR k f a (eN st) (gT K (eN st).f<|jG S ds k x):=Yd T k x st x x f a (JC d) c
def JD:∀{ns:ab ae}{b},Qy (ns.o vh)<=b->∀n∈ns,Ž n<=b
 |[],_,_,n,a=>nomatch a|m::ns,b,h,n,a=>by
  let e:Qy ((m::ns).o vh)=UG (.p m)+1+Qy (ns.o vh):=?r;let c:UG (.p m)=Ž m:=?r;rw[e,c]at h;rcases ē.Z a with rfl|a
  .lia
  .show JD (b:=b) () n a
section
open PySem PySem.W PySem.Calls PyProof.Rows
def Yg{l:TH}(R:l.most=a7 n)(x:d.xp.defaults=[])(ia:∀w fi b s A g o B p c a(vs:gw)ns,
   Ground q ny [] XP w fi s A b.k->YP w b.k->
   b.k.G g=a7 o->o.data=.func (docDef d.name d.xp d.body d.xv B p c)->b.k.CodeRec p d.name->s d.name=a7 (.x g)->
   b.k.G a=a7 {cw:=.O "list",bv:=.seq vs.E}->Ŷ vs ns->ns.f<=n->(∀m∈ns,Ž m<=2^20)->b.gens=#[]->
   Ρ (Ê l.Y w) ni (.call (.x g) ([.x a],[])) (λr u=>r=.ok (.ret<|.kt b4)/\OldK b.k u.k/\u.os=b.os/\iy u.gens) b):
  Ss q ny XP YP l.row.toRowW d [] (λf vs=>Ro f vs):=by
 intro w fi b s A G Y g o B p c I kV T hd v E y N ck H Z k h X z O;obtain rfl:I=.qo:=Dflts.qo E x;obtain rfl:kV=.qo:=Dflts.noKw E;let(a,vs,ns,?r,?r,j,e,i):=Att.script_of R k z;let M:∀m∈ns,Ž m<=2^20:=by
  let h1:U1 (.vu<|ns.o vh)=bt:=by have:=h;unfold b6Z at ah;apply ah
  unfold U1 at h1;rw[â]at h1;show JD<|bi h1.2
 show enter_call<|zq (ia w fi b s A g o B p c a vs ns G Y T (fd_plain hd) v y j e i M N) λr u U=>?_;let(?r,J,K,L):=U;show(.Q (.kt b4,.kt b4,[],?r,λ_=>rfl,.kt b4,Att.post_true l _,λ_=>(Td,λ_ Q=>(nomatch Q))),J,K,L)
end
def walkM{l:TH}{K:ϯ->Ï}(hn:l.most=a7 63)(L:d.xp.defaults=[])(hr:Þ k ni)(hY:∀w h,YP w h->(K w.xp).In h)(hl:ds.B d.name=a7 st)(hx:eN st=[x])(T:∀w B h,(K w.xp).In h->h.Ns Ş B->Ů l.Y w (K w.xp) B S ds/\∃f I,Ϧ (K w.xp) d.name d.name st f I/\B d.name=a7 (.x f)/\∀s u,uc s I ([u],[]) [⟨x,u⟩])(M:∀b:ab ae,b.f<=63->(∀m∈b,Ž m<=2^20)->∃p,jG S ds k d.name [.rol<|b.o D.p] []=a7 ⟨.bl b4,p⟩):
  Ss q ny XP YP l.row.toRowW d [] (λf Z=>Ro f Z):=by
 show Yg hn L λw U X B mb fa o pm cd doc a Z b G Y ho hd hcd N A g c J hg=>?_;let Q:=hY w _ Y;let(hT,f,I,hF,R,hb):=T w B _ Q G.T.g;rw[N]at R;ext R;show _2.law_call (CX:=gR) (sp:=gT (K w.xp) 1 (jG S ds k d.name)) Q G.T.g G.T.b G.T.builtins G.T.nolimit hg A g (ĥ c ⋯) hr (λy hb1 hb2=>?_) hb (λH hO hS=>?_) λH e s' z=>z
 .have:=Ye (fy:=y) hT k d.name st fa I hl hF;rw[hx]at ah;show ah
 .let(p,hM):=M b c J;let O:bw (K w.xp) H a (b.o V.p):=by
   rcases hS with⟨h|h⟩|h
   .rcases hO a with z|(o|E|z)
    .rw[z]at h;ext h
    .rw[z]at h;ext h
   .show .Q h
   .show .X h
  show(?r,λ_=>0,[.rol<|b.o D.p],[],.bl b4,p,(λi j hi=>cb hi<|Pg _,λi hi=>cb hi<|Pg _,λi E h=>(by ext h),λi E h=>(by ext h),λi E h=>(by ext h)
   ,λi E h=>(by ext h)
   ,λi E h=>(by ext h)
   ,λi x fs h=>(by ext h)
   ),.zv (.rol O ?_) .kk,hM,λgu v H' i i hv=>?_)
  .have:∀b:ab ae,È (K w.xp) (λ_=>0) ([]:Hm).f H (b.o V.p) (b.o D.p):=λb=>by
    induction b with
    |fk=>show .kk|bm n r ih=>show .zv (.p n) ih
   show ah b
  .ext hv;rfl
end _3
namespace _3
open PySem _2
def oW{a:Type}:∀{l:ab (cf×a)}{x}{b},l.B x=a7 b->⟨x,b⟩∈l:=λh=>R8 h
open _root_ in
def Yh{S:Ĝ}{ds:ab (cf×ff)}(h:(S.fn.all λp=>match ds.B p.1 with|bb st=>ag ((eN st).f=p.2)|bp=>b3)=b4):∀x n,S.fn.B x=a7 n->∃st,ds.B x=a7 st/\(eN st).f=n:=by
 intro x n e;have:=ϐ.Z h ⟨x,n⟩<|oW e;dsimp at ah;split at ah
 .rename_i st a;show(st,a,bi ah)
 .ext ah
def Yi{ds:ab (cf×ff)}(h:∀p∈ds,ϔ K a p.1 p.2/\mM p.2=b4):∀x st,ds.B x=a7 st->ϔ K a x st/\mM st=bt:=λx st e=>h ⟨x,st⟩<|oW e
def Yj{b:cf->af ax}{a:ab (cf×D)}(h:∀p∈a,∃v u,b p.1=a7 u/\Í v u/\∀π n H,Ù K π n H v p.2):∀x d,a.B x=a7 d->∃v u,b x=a7 u/\Í v u/\∀π n H,Ù K π n H v d:=λx d e=>h ⟨x,d⟩<|oW e
def Yk{b:cf->af ax}{ts:ab (cf×ab (b9×D))}(h:∀t∈ts,∃(p:ar)(vs:ab (b9×V))(ws:ab (b9×ax)),b t.1=a7 (.x p)/\(p==Ļ)=b3/\(∀h,K.In h->h.DictOf (jP P w) p ws)/\KV vs ws/\∀π n H,Ŵ K π n H vs t.2):
  ∀x a,ts.B x=a7 a->∃(p:ar)(vs:ab (b9×V))(ws:ab (b9×ax)),b x=a7 (.x p)/\(p==Ļ)=b3/\(∀h,K.In h->h.DictOf (jP P w) p ws)/\KV vs ws/\∀π n H,Ŵ K π n H vs a:=λx a e=>h ⟨x,a⟩<|oW e
inductive Ĩ (w:ņ):ab eg->ab (b9×ax)->Prop where
 |fk:Ĩ w [] []
 |bm {e:eg}{k:b9}{v:ax}{es:ab eg}{ay:ab (b9×ax)}(h:n9 k e.key=b4)(hh:e.hash=EV w k)(hv:e.val=v)(t:Ĩ w es ay):Ĩ w (e::es)<|⟨k,v⟩::ay
def Ĩ.pairs(x:Ĩ w es ay):Pairs (jP P w) es ay:=by
 induction x with
 |fk=>show .kk|bm h c a _ b=>show .zv h a b
def Ĩ.keys(x:Ĩ w es ay):∀e∈es,∃k,(jP P w).is k e.key=b4/\e.hash=(jP P w).hash k:=by
 induction x with
 |fk=>intro e a;show nomatch a|@bm e k v es ay h c g _ d=>
  intro b a;rcases ē.Z a with rfl|a
  .show(k,h,c)
  .show d b a
def Yl{h:ê}(b:h.G p=a7 {cw:=.O "dict",bv:=.dict es.E ep})(x:Ĩ w es ay)(d:ks.J)(c:ay.o (·.1)=ks):h.DictOf (jP P w) p ay:=
 (_,es.E,ep,b,(?r,?r,?r),?r,λe a=>x.keys e<|by apply a,by apply x.pairs,c▸d)
def JE x t:n9 (.X x) (.jv x t)=bt:=by simp[n9,Pc]
def Ym{a:cf->af ax}{ns:ab cf}(h:∀x∈ns,a x=b0):∀x,ns.zo x=b4->a x=bp:=λx e=>h x<|by apply e
def uB!:am->(am->ax)->gw
 |0,_=>[]|n+1,u=>u 0::uB n λi=>u<|i+1
def Dn:∀us,∃u,us=uB us.f u
 |[]=>(λ_=>.qo,?r)|v::us=>let(u,a):=Dn us;(λi=>match i with|0=>v|i+1=>u i,br (v::·) a)
noncomputable abbrev JF:Type:=ax->ax->ax->af ar->ax->ax->(am->ax)->ϩ (ab<|cf×ax)
def Yn!(x:cf)(st:ff)(m:ax)(c:ar):hH:=(é "function",b0,.func<|ο x x (jR st) (hW st) (dO st) .qo .qo .qo m b0 (.x c) .qo,#[])
def JG!(K:Ï)(d:(cf×ff)×ax×ar×ar):af (af ax)×af hH×av×av×av×JF:=⟨aq K Ş d.1.1,K.B d.2.2.2,N6 K (.x d.2.2.1) d.1.1,ϟ K<|.x d.2.2.2,mM d.1.2,λkV b c an a ct u=>yu (ο d.1.1 d.1.1 (jR d.1.2) (hW d.1.2) (dO d.1.2) .qo kV b c an a ct) (uB (eN d.1.2).f u,[])⟩
def JH!(d:(cf×ff)×ax×ar×ar):af (af ax)×af hH×av×av×av×JF:=⟨a7<|a7<|.x d.2.2.2,a7<|Yn d.1.1 d.1.2 d.2.1 d.2.2.1,b4,b4,b4,λ_ x x x x x u=>ej<|(eN d.1.2).zip<|uB (eN d.1.2).f u⟩
def Ag!(K:Ï)(d:cf×ff):(cf×ff)×ax×ar×ar:=⟨d,match aq K Ş d.1 with
 |bb (a7<|.x f)=>(match K.B f with
  |bb (_,_,.func fd,_)=>(match fd.code with
   |.x c=>⟨fd.pyModule,c,f⟩
   |_=>⟨.qo,0,0⟩)
  |_=>⟨.qo,0,0⟩)
 |_=>⟨.qo,0,0⟩⟩
def Ah!(K:Ï)(ds:ab (cf×ff)):Prop:=ds.o (λd=>JG K<|Ag K d)=ds.o λd=>JH<|Ag K d
def JI(X:K.In h)(G:h.Ns Ş i)(q:Ah K ds):∀p∈ds,(ϔ K i p.1 p.2/\mM p.2=b4)/\∃f j,Ϧ K p.1 p.1 p.2 f j/\i p.1=a7 (.x f)/\∀us:gw,us.f=(eN p.2).f->yu j (us,[])=ej ((eN p.2).zip us):=by
 intro g v;let t:=SN.Z q g v;let e:(Ag K g).1=g:=?r;generalize Ag K g=d at t e;let(p,m,c,f):=d;ext e;unfold JG JH at t;let(a,t):=ϱ t;let(l,t):=ϱ t;let(c,t):=ϱ t;let(k,t):=ϱ t;let(s,b):=ϱ t;let F:=FX (st:=p.2) l c k;let D:=λkV doc pm an cdv ct (us:gw)(o:us.f=(eN p.2).f)=>(by
  let(u,n):=Dn us;rw[o]at n;rw[n];show gV (gV (gV (gV (gV (gV (gV b kV) doc) pm) an) cdv) ct) u:yu (ο p.1 p.1 (jR p.2) (hW p.2) (dO p.2) .qo kV doc pm an cdv ct) (us,[])=ej ((eN p.2).zip us))
 show(((_,_,F,zx X G a,ó.all<|D _ _ _ _ _ _),s),_,_,F,zx X G a,D _ _ _ _ _ _)
def Yo(X:K.In h)(G:h.Ns Ş c)(q:Ah K ds)(d:ds.B x=a7 st)(e:eN st=[y]):∃f a,Ϧ K x x st f a/\c x=a7 (.x f)/\∀s u,uc s a ([u],[]) [⟨y,u⟩]:=by let(f,a,F,m,b):=(JI X G q ⟨x,st⟩<|oW d).2;dsimp at b;rw[e]at b;show(f,a,F,m,λs u=>.of_eq<|b [u] ?r)
def Yp(X:K.In h)(G:h.Ns Ş a){ns:ab cf}(q:ns.o (aq K Ş)=ns.o λ_=>a7 b0):∀x∈ns,a x=bp:=λx b=>ci.W.mg_none_of X G<|SN.Z q x b
def wR!{c d:Type}(f:c->d->av):ab c->ab d->av
 |[],[]=>b4|a::as,b::bs=>f a b&&wR f as bs|_,_=>b3
def wU!(K:Ï):am->ax->D->av
 |0,_,_=>b3|k+1,u,d=>match d with
  |.kf=>(match u with|.qo=>b4|_=>b3)|.bl b=>(match u with|.kt c=>ag (b=c)|_=>b3)|.p i=>(match u with|.p j _=>ag (i=j)|_=>b3)|.jv x=>(match u with|.jv y _=>ag (x=y)|_=>b3)
  |.L ds=>(match u with
   |.x p=>(match K.B p with
    |bb (.O t,b0,.seq b5 _,_)=>ag (t="tuple")&&ag (b5.q<=1000)&&wR (wU K k) b5.zh ds
    |_=>b3)
   |_=>b3)
  |.rol ds=>(match u with
   |.x p=>(match K.B p with
    |bb (.O t,b0,.seq b5 _,_)=>ag (t="list")&&ag (b5.q<=1000)&&wR (wU K k) b5.zh ds
    |_=>b3)
   |_=>b3)
  |_=>b3
def JJ(h:∀u d,f u d=b4->∃v,Í v u/\∀π n H,Ù K π n H v d):∀us ds,wR f us ds=b4->∃vs,Æ vs us/\∀π n H,È K π n H vs ds
 |[],[],_=>([],.kk,λ_ x x=>.kk)|u::us,d::ds,e=>by let(a,b):=NH.Z e;let(v,r,q):=h u d a;let(vs,rs,c):=JJ h us ds b;show(v::vs,.zv r rs,λ_ x x=>.zv (q _ _ _)<|c _ _ _)
 |[],_::_,e=>nomatch e|_::_,[],e=>nomatch e
open _root_ in
def JK:∀k u d,wU K k u d=b4->∃v,Í v u/\∀π n H,Ù K π n H v d
 |0,_,_,e=>nomatch e|k+1,u,d,e=>by
  let seq:∀{p:ar}{ds:ab D}{c:cq},(match K.B p with|bb (.O t,b0,.seq b5 _,_)=>ag (t=c)&&ag (b5.q<=1000)&&wR (wU K k) b5.zh ds|_=>b3)=b4->∃g b5 n j,K.B p=a7 (.O c,b0,.seq b5 n,j)/\b5.q<=Ò/\Æ g b5.zh/\∀π n H,È K π n H g ds:=λ{p ds c} e=>by
   split at e
   .rename_i t b5 n j h;let(e,q):=NH.Z e;let(a,b):=NH.Z e;cases bi a;let(g,r,i):=JJ (JK k) _ _ q;show(g,b5,n,j,h,ĥ (bi b) ⋯,r,i)
   .ext e
  cases d with
  |g7=>cases u with
   |bp=>show(.kf,?r,λ_ x x=>.kf)|_=>ext e
  |bl b=>cases u with
   |bool c=>cases bi e;show(.bl b,?r,λ_ x x=>.bl _)|_=>ext e
  |gv b=>cases u with
   |gv c=>cases bi e;show(.p b,(_,?r),λ_ x x=>.p _)|_=>ext e
  |gy b=>cases u with
   |gy c=>cases bi e;show(.jv b,(_,?r),λ_ x x=>.jv _)|_=>ext e
  |f6 ds=>cases u with
   |ref p=>let(g,b5,n,j,h,o,r,i):=seq e;show(.x p,?r,λ_ x x=>.L (vs:=g) (.X (_,b5,n,h,?r,?r,?r,o,r))<|i _ _ _)|_=>ext e
  |oe ds=>cases u with
   |ref p=>let(g,b5,n,j,h,o,r,i):=seq e;show(.x p,?r,λ_ x x=>.rol (vs:=g) (.X (_,b5,n,h,?r,?r,?r,o,r))<|i _ _ _)|_=>ext e
  |_=>ext e
def JM!(K:Ï)(a:ab (cf×D)):av:=a.all λc=>match aq K Ş c.1 with|bb (a7 u)=>wU K 8 u c.2|_=>b3
open _root_ in
def Yq(X:K.In h)(G:h.Ns Ş b)(q:JM K a=b4):∀p∈a,∃v u,b p.1=a7 u/\Í v u/\∀π n H,Ù K π n H v p.2:=λp c=>by
 let t:=ϐ.Z q p c;split at t
 .rename_i u d;let(v,r,i):=JK _ _ _ t;show(v,u,zx X G d,r,i)
 .ext t
def kT!(K:Ï)(x:cf):ar:=match aq K Ş x with
 |bb (a7<|.x C)=>C|_=>0
def wV!(K:Ï)(x:cf):av:=aq K Ş x==a7 (a7<|.x<|kT K x)&&N2 K (kT K x) cf.empty&&OM K (kT K x)&&QD K (kT K x) &&
 Ϟ K (.x<|kT K x) "__setattr__"==a7 (a7<|.zn "object.__setattr__")
def wW(h:wV K x=b4):ő K x (kT K x)/\Ť K (kT K x):=by unfold wV at h;rw[â,â,â,â,bg,bg]at h;obtain((((h1|a)|b)|c)|d):=h;show(h1,a,b,c,d)
def Yr{L:ab (cf×cf)}(h:(L.all λp=>wV K p.2&&Ϟ K (.x<|kT K p.2) p.1==a7 b0)=b4):∀f x,L.B f=a7 x->∃C,ő K x C/\Ť K C/\Č K C f:=λf x e=>by have:=ϐ.Z h ⟨f,x⟩<|oW e;rw[â,bg]at ah;show(_,(wW ah.1).1,(wW ah.1).2,ah.2)
def oX!(K:Ï)(x m:cf):ar:=match Ϟ K (.x<|kT K x) m with
 |bb (a7<|.x g)=>g|_=>0
def Dp!(K:Ï)(g:ar):ax×ax×ar:=match K.B g with
 |bb (_,_,.func fd,_)=>(match fd.code with
  |.x c=>⟨fd.defaults,fd.pyModule,c⟩
  |_=>⟨.qo,.qo,0⟩)
 |_=>⟨.qo,.qo,0⟩
def JN!(x a:cf)(st:ff)(q:ax×ax×ar):km:=ο x a (jR st) (hW st) (dO st) q.1 .qo .qo q.2.1 b0 (.x q.2.2) .qo
def JO!(K:Ï)(x m a:cf)(st:ff)(n:am):av:=Ϟ K (.x<|kT K x) m==a7 (a7<|.x<|oX K x m)&&OH K (.x<|oX K x m)&&ϟ K (.x<|oX K x m) &&
 N6 K (.x (Dp K<|oX K x m).2.2) a&&ag ((eN st).f=n+1)
noncomputable abbrev Dq(K:Ï)(x m a:cf)(st:ff)(n:am):Prop:=JO K x m a st n=b4/\K.B (oX K x m)=a7 (.O "function",b0,.func<|JN m a st<|Dp K<|oX K x m,#[]) /\
 (λS u=>ci.W.peek K S<|yu (JN m a st<|Dp K<|oX K x m) (uB (n+1) u,[]))=λ_ u=>a7<|(eN st).zip<|uB (n+1) u
def JP(h:Dq K x m a st n):ũ K (kT K x) m (oX K x m)/\r6 K (a7 st) n (oX K x m):=by let(h,k,j):=h;unfold JO at h;rw[â,â,â,â,bg,e4]at h;obtain((((h1|g)|b)|i)|c):=h;show((h1,g,b),_,m,a,st,?r,FX (st:=st) k i b,λs o X d=>?_,c);rw[Ĭ]at d ⊢;let(u,e):=Dn o;rw[d,c]at e;rw[e];show ci.W.kp_binds X λS=>gV (gV j S) u
def Ys(h:∀p∈S.mt,wV K p.2.1=b4/\∃a st,lk S ds p.2.2.1=a7 st/\Dq K p.2.1 p.1 a st p.2.2.2):∀m x y n,S.mt.B m=a7 ⟨x,y,n⟩->∃C g,ő K x C/\Ť K C/\ũ K C m g/\r6 K (lk S ds y) n g:=λm x y n e=>by let(h1,a,st,b,c):=h ⟨m,x,y,n⟩<|oW e;dsimp at h1 b c;rw[b];show(_,_,(wW h1).1,(wW h1).2,JP c)
def Yt(h:∀p∈S.mc,wV K p.1=b4/\lk S ds p.1=b0/\(Q2 K (kT K p.1)&&ϟ K (.x<|kT K p.1))=b4/\∃b st,lk S ds p.2.1=a7 st/\Dq K p.1 "__init__" b st p.2.2):
  ∀x y n,S.mc.B x=a7 ⟨y,n⟩->lk S ds x=b0/\∃C g,ő K x C/\Mk K C g/\r6 K (lk S ds y) n g:=λx y n e=>by
 let(h1,d,c,b,st,i,j):=h ⟨x,y,n⟩<|oW e;dsimp at h1 d c i j;rw[i];rw[â]at c;let(m,a):=JP j;show(d,_,_,(wW h1).1,(c.1,m.at_,m.fn,c.2),a)
def Yu{L:ab (cf×ff)}(h:(L.all λp=>mM p.2)=b4):∀y st,L.B y=a7 st->mM st=bt:=λy st e=>ϐ.Z h ⟨y,st⟩<|oW e
def W!{a:Type}(o:af a)(Q:a->Prop):Prop:=∃r,o=a7 r/\Q r
def À{r:α}{Q:α->Prop}:W (a7 r) Q↔Q r:=(λ(_,h,q)=>by ext h;show q,λq=>(r,?r,q))
def ë{Q:α->Prop}:W b0 Q↔ef:=(λ(_,h,_)=>(by ext h),λh=>h.vl)
def Ã{o:af α}{g:α->af β}{Q:β->Prop}:W (o.U g) Q↔W o λr=>W (g r) Q:=by
 cases o with
 |bp=>show(λ(_,h,_)=>(by ext h),λ(_,h,_)=>(by ext h))|bb a=>simp[À]
def kU{o:af α}{g:α->β}{Q:β->Prop}:W (o.o g) Q↔W o λr=>Q (g r):=by
 cases o with
 |bp=>show(λ(_,h,_)=>(by ext h),λ(_,h,_)=>(by ext h))|bb a=>simp[À]
def bH{o:af α}{Q:α->Prop}{a:α->Prop}(h:W o Q)(k:∀r,Q r->a r):W o a:=let(r,e,q):=h;(r,e,k r q)
def Ai{Q:α->Prop}[Decidable c]{a b:af α}:W (if c then a else b) Q↔if c then W a Q else W b Q:=by lk<;>rfl
def fin!:af (Fl×aE×Hm)->jk:=λo=>o.U λp=>match p.1 with|.rt d=>a7 ⟨d,p.2.2⟩|.nx=>a7 ⟨.kf,p.2.2⟩|_=>b0
def å{Q:jz}:W (dr o) Q↔W o λp=>match p.1 with|.rt d=>Q ⟨d,p.2.2⟩|.nx=>Q ⟨.kf,p.2.2⟩|_=>ef:=by
 ext dr;rw[Ã];constructor
 .show λh=>bH h λp q=>by let(a,c,b):=p;ext a<;>simpa[À,ë]using q
 .show λh=>bH h λp q=>by let(a,c,b):=p;ext a<;>simpa[À,ë]using q
def aI{μ aw:Hm}(h:μ<+:aw){a:am}(e:μ[a]?=a7 c):aw[a]?=a7 c:=by let(t,?r):=h;let b:=(ã.Z e).1;rw[ż b];show e
def aS(μ:Hm)(c:C):μ<+:μ++[c]:=([c],?r)
def e6{μ aw:Hm}(h:μ<+:aw)(b:μ.f<=a)c:μ<+:aw.xl a c:=by let(t,?r):=h;rw[Oe _ _ b];show(_,?r)
def Ì{Q}:W (aL a b c μ) Q↔W (a c μ) λp=>match p.1 with|.nx=>W (b p.2.1 p.2.2) Q|_=>Q p:=by
 ext aL;rw[Ã];constructor
 .show λh=>bH h λp q=>by let(d,c,μ):=p;ext d<;>simpa[À,ë]using q
 .show λh=>bH h λp q=>by let(d,c,μ):=p;ext d<;>simpa[À,ë]using q
def Ö{Q}:W (aM m a μ) Q↔W (m a μ) λp=>Q ⟨.rt p.1,a,p.2⟩:=kU
def ï{Q}:W (dP m a μ) Q↔W (m a μ) λp=>Q ⟨.nx,a,p.2⟩:=kU
def ò{Q}:W (dA i m a μ) Q↔W (m a μ) λp=>Q ⟨.nx,a.xl i<|a7 p.1,p.2⟩:=kU
def Î{Q}:W (bM a μ) Q↔Q ⟨.nx,a,μ⟩:=À
def Ð{Q}:W (bB t a b c μ) Q↔W (t c μ) λp=>if p.1=b4 then W (a c p.2) Q else W (b c p.2) Q:=by ext bB;rw[Ã];constructor<;>show λh=>bH h λp q=>by let(x,μ):=p;ext x<;>apply q
def Ğ{Q}:W (gU t a b c μ) Q↔W (t c μ) λp=>if p.1=b4 then W (a c p.2) Q else W (b c p.2) Q:=by ext gU;rw[Ã];constructor<;>show λh=>bH h λp q=>by let(x,μ):=p;ext x<;>apply q
def ĳ{Q}:W (kJ a b c μ) Q↔W (a c μ) λp=>if p.1=b4 then W (b c p.2) Q else Q ⟨b3,p.2⟩:=by ext kJ;rw[Ã];constructor<;>show λh=>bH h λp q=>by let(x,μ):=p;ext x<;>simpa[À]using q
def Ŀ{Q}:W (iG a b c μ) Q↔W (a c μ) λp=>if p.1=b4 then Q ⟨b4,p.2⟩else W (b c p.2) Q:=by ext iG;rw[Ã];constructor<;>show λh=>bH h λp q=>by let(x,μ):=p;ext x<;>simpa[À]using q
def ω{Q}:W (kK a b μ) Q↔W (a b μ) λp=>Q ⟨!p.1,p.2⟩:=kU
def Û{Q}:W (aA f a b c μ) Q↔W (a c μ) λp=>W (b c p.2) λq=>W (f p.1 q.1 q.2) Q:=by ext aA;rw[Ã];dsimp[Ã]
def eI{Q}:W (mC d a μ) Q↔Q ⟨d,μ⟩:=À
def bK{a:aE}{Q}:W (aC 0 (a7 d::a) μ) Q↔Q ⟨d,μ⟩:=by change W (a7 ⟨d,μ⟩) Q↔_;show À
def cB{a:aE}{Q}:W (aC (i+1) (x::a) μ) Q↔W (aC i a μ) Q:=by ext aC;rw[Ts]
def cT{Q}:W (aD a μ) Q↔Q ⟨[],μ⟩:=À
def Å{Q}:W (aB a r b μ) Q↔W (a b μ) λp=>W (r b p.2) λq=>Q ⟨p.1::q.1,q.2⟩:=by ext aB;dsimp[Ã,À]
def ç{Q}:W (bY ms a μ) Q↔W (ms a μ) fun p=>p.1.f<=Ò/\Q ⟨.L p.1,p.2⟩:=by
 ext bY
 rw [Ã]
 constructor<;>show fun h=>bH h fun p q=>by
  first
  | (rw [Ai] at q;split at q
     .show (by assumption,À.Z q)
     .show (ë.Z q).vl)
  | (rw [ad q.1];show À.v q.2)
def ā{Q}:W (cU ms a μ) Q↔W (ms a μ) fun p=>p.1.f<=Ò/\Q ⟨.z p.2.f,p.2++[.D p.1]⟩:=by
 ext cU
 rw [Ã]
 constructor<;>show fun h=>bH h fun p q=>by
  first
  | (rw [Ai] at q;split at q
     .show (by assumption,À.Z q)
     .show (ë.Z q).vl)
  | (rw [ad q.1];show À.v q.2)
def Ë{Q}:W (bI f ms a μ) Q↔W (ms a μ) fun p=>W (f p.1 p.2) Q:=Ã
def î{Q}:W (aP m a μ) Q↔W (m a μ) λp=>match p.1 with|.bl b=>Q ⟨b,p.2⟩|_=>ef:=by ext aP;rw[Ã];constructor<;>show λh=>bH h λp q=>by let(d,μ):=p;ext d<;>simpa[À,ë]using q
def Ħ{Q}:W (c7 m a μ) Q↔W (m a μ) λp=>W (nG p.2 p.1) λb=>Q ⟨b,p.2⟩:=by ext c7;dsimp[Ã,kU]
def Ds{Q}:W (fA a b μ) Q↔W (a b μ) λp=>match p.1 with|.p i=>Q ⟨.p<|-i,p.2⟩|_=>ef:=by ext fA;rw[Ã];constructor<;>show λh=>bH h λp q=>by let(d,μ):=p;ext d<;>simpa[À,ë,kU,BH]using q
def JQ{Q}:W (sT a c μ) Q↔W (a c μ) λp=>match p.1 with|.bl b=>Q ⟨.bl<|!b,p.2⟩|_=>ef:=by ext sT;rw[Ã];constructor<;>show λh=>bH h λp q=>by let(d,μ):=p;ext d<;>simpa[À,ë]using q
def Ė{Q}:W (lF a b e μ) Q↔W (a e μ) λp=>match p.1 with|.bl c=>if c=b4 then W (b e p.2) Q else Q ⟨.bl b3,p.2⟩|_=>ef:=by
 ext lF;rw[Ã];constructor<;>show λh=>bH h λp q=>by
  let(d,μ):=p;cases d with
  |bl c=>ext c<;>simpa[À]using q|_=>simpa[ë]using q
def δ{Q}:W (l6 m g a μ) Q↔W (m a μ) λp=>W (g p.1 a p.2) λb=>Q ⟨.nx,b,p.2⟩:=by ext l6;dsimp[Ã,kU]
def lz{Q}:W (vG ay m a μ) Q↔W (m a μ) λp=>W (yN p.1) λk=>W (lJ ay k) λd=>Q ⟨d,p.2⟩:=by ext vG;dsimp[Ã,kU]
def è{Q:jz}:W (bS (.p i) (.p j) μ) Q↔Q ⟨.p<|i+j,μ⟩:=À
def ř{Q:jz}:W (dQ (.p i) (.p j) μ) Q↔Q ⟨.p<|i-j,μ⟩:=À
def fF{Q:jz}(h:0<j):W (bP (.p i) (.p j) μ) Q↔Q ⟨.p<|i%j,μ⟩:=by change W ((if 0<j then a7 (i%j)else b0).o λz=>⟨D.p z,μ⟩) Q↔_;rw[ad h];show À
def Yv:(1073741824:ae)<2^4000:=by decide +de
def Yw{Q:jz}(h:0<j)(k:j<2^4000):W (eV (.p i) (.p j) μ) Q↔Q ⟨.p<|i/j,μ⟩:=by change W ((if 0<j/\j<2^4000 then a7 (i/j)else b0).o λz=>⟨D.p z,μ⟩) Q↔_;rw[ad (h,k)];show À
def uC{Q:jz}(h:0<j)(k:j<1073741824):W (eV (.p i) (.p j) μ) Q↔Q ⟨.p<|i/j,μ⟩:=Yw h<|ae.lt_trans k Yv
def mN{Q:jz}(h:(-(2^64)<i/\i<2^64)\/(-(2^64)<j/\j<2^64)):W (cE (.p i) (.p j) μ) Q↔Q ⟨.p<|i*j,μ⟩:=by change W ((if((-(2^64)<i/\i<2^64)\/(-(2^64)<j/\j<2^64))\/(i.natAbs<2^4000/\j.natAbs<2^4000)\/Ž i+Ž j<=134217728 then a7 (i*j)else b0).o λz=>⟨D.p z,μ⟩) Q↔_;rw[ad<|.Q h];show À
def ü{Q:jz}:W (aV b3 (.p i) (.p j) μ) Q↔Q ⟨.bl<|i==j,μ⟩:=À
def JR{Q:jz}:W (aV b4 (.p i) (.p j) μ) Q↔Q ⟨.bl<|!(i==j),μ⟩:=À
def ϊ{Q:jz}:W (nC (.p i) (.p j) μ) Q↔Q ⟨.bl<|ag<|i<j,μ⟩:=À
def Yx{Q:jz}:W (sW (.p i) (.p j) μ) Q↔Q ⟨.bl<|ag<|i<=j,μ⟩:=À
def Α{Q:jz}:W (nD (.p i) (.p j) μ) Q↔Q ⟨.bl<|ag<|j<i,μ⟩:=À
def yc{Q:jz}:W (vB (.p i) (.p j) μ) Q↔Q ⟨.bl<|ag<|j<=i,μ⟩:=À
def Ă{Q:jz}:W (bE (.L [a,b]) (.p 0) μ) Q↔Q ⟨a,μ⟩:=À
def ċ{Q:jz}:W (bE (.L [a,b]) (.p 1) μ) Q↔Q ⟨b,μ⟩:=À
def Yy{Q:jz}:W (bE (.L [a,b,c,d,e,g]) (.p 0) μ) Q↔Q ⟨a,μ⟩:=À
def Yz{Q:jz}:W (bE (.L [a,b,c,d,e,g]) (.p 1) μ) Q↔Q ⟨b,μ⟩:=À
def YA{Q:jz}:W (bE (.L [a,b,c,d,e,g]) (.p 2) μ) Q↔Q ⟨c,μ⟩:=À
def YB{Q:jz}:W (bE (.L [a,b,c,d,e,g]) (.p 3) μ) Q↔Q ⟨d,μ⟩:=À
def ľ:W (nG μ<|.bl b) Q↔Q b:=À
def iY{Q:jz}(h:μ[a]?=a7 (.D xs))(hi:lv xs i=a7 d):W (bE (.z a) (.p i) μ) Q↔Q ⟨d,μ⟩:=by
 have:bE (.z a) (.p i) μ=a7 ⟨d,μ⟩:=by dsimp[bE,kL,bW,h,ě,hi,ĝ]
 rw[ah];show À
def Ú:W (dR m a μ) Q↔W (m a μ) λp=>W (nE p.2 p.1) λxs=>Q ⟨eM p.1,xs.f+1,p.2⟩:=by ext dR;dsimp[Ã,kU]
def Õ{Q}:W (cV c g b a μ) Q↔W (c a μ) λp=>W (fQ p.1 g b p.2.1 0 a p.2.2) Q:=Ã
open _root_ in
def Dt{j:ae}:W (pT ms c μ) Q↔W (ms c μ) fun p=>match p.1 with|[.p j]=>(-(2 ^ 62)<=j/\j<2 ^ 62)/\Q ⟨kN 0 j.zi,j.zi+1,p.2⟩|_=>ef:=by
 ext pT
 rw [Ã]
 constructor<;>show fun h=>bH h fun p q=>by
  obtain (l|μ):=p
  match l,q with
  | [],q=>simpa [ë] using q
  | [d],q=>
   cases d with
   | gv j=>
    first
    | (dsimp at q;rw [Ai] at q;split at q
       .rename_i e;show (e,À.Z q)
       .show (ë.Z q).vl)
    | (dsimp;rw [ad q.1];show À.v q.2)
   | _=>simpa [ë] using q
  | a::b::l,q=>simpa [ë] using q
open _root_ in
def JS:W (tD ms a μ) Q↔W (ms a μ) fun p=>match p.1 with|[.p i,.p j]=>(-(2 ^ 62)<=i/\i<2 ^ 62/\-(2 ^ 62)<=j/\j<2 ^ 62)/\Q ⟨kN i (j - i).zi,(j - i).zi+1,p.2⟩|_=>ef:=by
 ext tD
 rw [Ã]
 constructor<;>show fun h=>bH h fun p q=>by
  split at q
  .rename_i e
   try rw [e]
   first
   | (rw [Ai] at q;split at q
      .rename_i b;show (b,À.Z q)
      .show (ë.Z q).vl)
   | ((try dsimp only);rw [ad q.1];show À.v q.2)
  .first
   | show (ë.Z q).vl
   | show q.vl
def nP{e:gJ}{b:MS}(I:am->aE->Hm->Prop)(go:∀ i a μ,i<N->I i a μ->∃ d j,e μ i=a7 (a7 d)/\g d a μ=a7 j/\W (b j μ) fun p=>match p.1 with|.nx=>I (i+1) p.2.1 p.2.2|.ct=>I (i+1) p.2.1 p.2.2|.bk=>Q ⟨.nx,p.2.1,p.2.2⟩|.rt d=>Q ⟨.rt d,p.2.1,p.2.2⟩)(c:∀ a μ,I N a μ->e μ N=a7 b0/\Q ⟨.nx,a,μ⟩):∀m i a μ,i+m=N->I i a μ->W (fQ e g b (m+1) i a μ) Q
 | 0,i,a,μ,h,hI=>by
  have:i=N:=()
  subst ah
  obtain (h1|o):=c a μ hI
  ext fQ
  rw [h1]
  show À.v o
 | m+1,i,a,μ,h,hI=>by
  obtain (d|j|h1|o|u):=go i a μ () hI
  ext fQ
  rw [h1]
  simp only [ě,o]
  rw [Ã]
  show bH u fun p q=>?_
  obtain (s|n|k):=p
  cases s with
  | nx=>show nP I go c m (i+1) n k () q
  | ct=>show nP I go c m (i+1) n k () q
  | bk=>show À.v q
  | rt d=>show À.v q
def mO{b:MS}(I:am->aE->Hm->Prop)(h0:I 0 c μ)(n:∀i c μ,I i c μ->μ[a]?=a7 (.D xs))(go:∀i d c μ,xs[i]?=a7 d->I i c μ->∃h,g d c μ=a7 h/\W (b h μ) λp=>match p.1 with|.nx=>I (i+1) p.2.1 p.2.2|.ct=>I (i+1) p.2.1 p.2.2|.bk=>Q ⟨.nx,p.2.1,p.2.2⟩|.rt d=>Q ⟨.rt d,p.2.1,p.2.2⟩)(k:∀c μ,I xs.f c μ->Q ⟨.nx,c,μ⟩):W (fQ (eM<|.z a) g b (xs.f+1) 0 c μ) Q:=by
 show nP (N:=xs.f) I (λi c μ hi j=>?_) (λc μ j=>(?_,k c μ j)) xs.f 0 c μ () h0
 .let e:xs[i]?=a7 xs[i]:=Ċ hi;let(h,h1,o):=go i xs[i] c μ e j;show(xs[i],h,?_,h1,o);dsimp[eM,nE,bW,n i c μ j,ĝ,e]
 .dsimp[eM,nE,bW,n _ c μ j,ĝ];simp
def JT(k:∀μ,nE μ x=a7 xs){b:MS}(I:am->aE->Hm->Prop)(h0:I 0 a μ)(go:∀i d a μ,xs[i]?=a7 d->I i a μ->∃c,g d a μ=a7 c/\W (b c μ) λp=>match p.1 with|.nx=>I (i+1) p.2.1 p.2.2|.ct=>I (i+1) p.2.1 p.2.2|.bk=>Q ⟨.nx,p.2.1,p.2.2⟩|.rt d=>Q ⟨.rt d,p.2.1,p.2.2⟩)(h:∀a μ,I xs.f a μ->Q ⟨.nx,a,μ⟩):W (fQ (eM x) g b (xs.f+1) 0 a μ) Q:=by
 show nP (N:=xs.f) I (λi a μ hi j=>?_) (λa μ j=>(?_,h a μ j)) xs.f 0 a μ () h0
 .let e:xs[i]?=a7 xs[i]:=Ċ hi;let(c,h1,n):=go i xs[i] a μ e j;show(xs[i],c,?_,h1,n);dsimp[eM,k,ĝ,e]
 .dsimp[eM,k,ĝ];simp
def Aj{b:MS}(I:am->aE->Hm->Prop)(h0:I 0 a μ)(go:∀i a μ,i<n->I i a μ->∃c,g (.p<|lo+i) a μ=a7 c/\W (b c μ) λp=>match p.1 with|.nx=>I (i+1) p.2.1 p.2.2|.ct=>I (i+1) p.2.1 p.2.2|.bk=>Q ⟨.nx,p.2.1,p.2.2⟩|.rt d=>Q ⟨.rt d,p.2.1,p.2.2⟩)(e:∀a μ,I n a μ->Q ⟨.nx,a,μ⟩):W (fQ (kN lo n) g b (n+1) 0 a μ) Q:=by
 show nP (N:=n) I (λi a μ hi h=>?_) (λa μ h=>(?_,e a μ h)) n 0 a μ () h0
 .let(c,h1,j):=go i a μ hi h;show(_,c,by dsimp[kN,ad hi],h1,j)
 .dsimp[kN,Ϝ,cm]
def Du(h:μ[a]?=a7 (.D b))(c:b.f<Ò):sY μ a y=a7 (μ.xl a<|.D<|b++[y]):=by ext sY;rw[h];show ad c
def Dv{u:gJ}{gt:Hm}{xs:ab D}(x:∀μ i,gt<+:μ->u μ i=a7 xs[i]?)(H:xs.f<=Ò)(hc:∀d μ,d∈xs->gt<+:μ->W (c (G++[a7 d]) μ) λr=>r.1=p d/\μ<+:r.2)(z:∀d μ,d∈xs->p d=b4->gt<+:μ->W (e (G++[a7 d]) μ) λr=>r.1=v d/\μ<+:r.2)(dr:∀μ,gt<+:μ->μ[gt.f]?=a7 (.D<|(xs.H p).o v)->Q μ):
  ∀m i(μ:Hm),i+m=xs.f->gt<+:μ->μ[gt.f]?=a7 (.D<|((xs.ze i).H p).o v)->W (kP u sZ c e G gt.f (m+1) i μ) Q
 |0,i,μ,hi,hp,ha=>by
  have:i=xs.f:=()
  subst ah;ext kP;rw[x μ _ hp];rw[ju<|Ô _];dsimp[ě];show À.v<|dr μ hp ?_;apply ha
 |m+1,i,μ,hi,hp,ha=>by
  let o:i<xs.f:=()
  let I:xs[i]?=a7 xs[i]:=Ċ o;let g:xs[i]∈xs:=uz o;ext kP;rw[x μ _ hp,I];dsimp[ě,sZ];rw[Ã];show bH (hc _ μ g hp) λr q=>?_;let(b,w):=r;let(J,s):=q;dsimp at J s ⊢;subst J;let a:xs.ze (i+1)=xs.ze i++[xs[i]]:=by rw[qm,I];rfl
  let j:=aI s ha;cases h:p xs[i]with
  |ai=>show Dv x H hc z dr m (i+1) w () (hp.u s) ?_;rw[j,a,ϣ];simp[h]|bt=>
   dsimp;rw[Ã];show bH (z _ w g h<|hp.u s) λr q=>?_;let(y,E):=r;let(K,B):=q;dsimp at K B ⊢;subst K;let k:=aI B j;let n:(((xs.ze i).H p).o v).f<Ò:=by let h1:=ſ p<|xs.ze i;rw[Ä];rw[ţ]at h1;lia
   rw[Du k n,ě];let A:gt<+:E:=(hp.u s).u B;show Dv x H hc z dr m (i+1) _ () (e6 A (Ô _) _) ?_;rw[Ŭ (ã.Z k).1,a,ϣ];simp[h]
def jH{xs:ab D}{Q:jz}(g:W (x b μ) λr=>(∀a i,r.2.2<+:a->r.1 a i=a7 xs[i]?)/\r.2.1=xs.f+1/\xs.f<=Ò /\
   (∀d a,d∈xs->r.2.2<+:a->W (c (b++[a7 d]) a) λs=>s.1=p d/\a<+:s.2)/\(∀d a,d∈xs->p d=b4->r.2.2<+:a->W (e (b++[a7 d]) a) λs=>s.1=v d/\a<+:s.2) /\
   ∀a,r.2.2<+:a->a[r.2.2.f]?=a7 (.D<|(xs.H p).o v)->Q ⟨.z r.2.2.f,a⟩):W (gK x c e b μ) Q:=by
 ext gK jW;rw[Ã];show bH g λr q=>?_;let(y,n,h):=r;let(h1,j,k,o,u,w):=q;dsimp at h1 j k o u w ⊢;subst j;rw[kU];show Dv h1 k o u w xs.f 0 (h++[.D []]) () (aS _ _) ∅
def nQ{μ:Hm}(h:μ[a]?=a7 (.D xs)):∀aw i,μ<+:aw->eM (.z a) aw i=a7 xs[i]?:=λaw i b=>by dsimp[eM,nE,bW,aI b h,ĝ]
def Ak{μ:Hm}:∀aw i,μ<+:aw->eM (.L xs) aw i=a7 xs[i]?:=λaw i a=>rfl
def oY!(lo:ae)(n:am):ab D:=(Ĉ n).o λ(i:am)=>.p<|lo+(i:ae)
def YC{μ:Hm}:∀aw i,μ<+:aw->kN lo n aw i=a7 (oY lo n)[i]?:=λaw i x=>by
 ext kN oY;rw[ĉ];by_cases h:i<n
 .rw[ad h,ab.getElem?_range h];rfl
 .rw[ac h,ju<|by apply oh.Z h];rfl
noncomputable abbrev P(x y:ae):D:=.L [.p x,.p y]
noncomputable abbrev PP(p:ae×ae):D:=P p.1 p.2
def JU n μ p q:eX (n+2) μ (PP p) (PP q)=a7 (p==q):=by let(a,b):=p;let(c,d):=q;change a7 (a==c&&(b==d&&b4))=a7 (⟨a,b⟩==⟨c,d⟩);rw[SJ];rfl
def JV n μ:∀ps qs:ab ae,lW (pR (n+1) μ) (ps.o D.p) (qs.o D.p)=a7 (ps==qs)
 |[],[]=>?r|[],_::_=>?r|_::_,[]=>?r|p::ps,q::qs=>by rw[í,í];change(eX (n+1) μ (.p p)<|.p q).U (λb=>(lW (pR (n+1) μ) (ps.o D.p)<|qs.o D.p).o λc=>b&&c)=_;rw[JV n μ ps qs];rfl
def uD{Q:jz}(d:μ[a]?=a7 (.D xs))(e:μ[b]?=a7 (.D c))(g:xs.f+c.f<=Ò):W (bS (.z a) (.z b) μ) Q↔Q ⟨.z μ.f,μ++[.D<|xs++c]⟩:=by dsimp[bS,d,e,ad g];show À
def jZ{Q:jz}(h:W (b a μ) λp=>rK p.2 p.1=b4/\W (ms a p.2) λq=>W (f p.1 q.1 q.2) Q):W (eH f b ms a μ) Q:=by ext eH;rw[Ã];show bH h λp q=>?_;rw[q.1];show Ã.v q.2
def j0(h:μ[a]?=a7 (.D xs)):rK μ (.z a)=bt:=by dsimp[rK,h]
def oZ{Q:jz}(h:μ[a]?=a7 (.D xs))(b:xs.f<Ò):W (fT (.z a) [y] μ) Q↔Q ⟨.kf,μ.xl a<|.D<|xs++[y]⟩:=by dsimp[fT,Du h b,ĝ];show À
def Dw{Q:jz}(h:μ[a]?=a7 (.D xs))(d:μ[b]?=a7 (.D c))(e:xs.f+c.f<=Ò):W (pU (.z a) [.z b] μ) Q↔Q ⟨.kf,μ.xl a<|.D<|xs++c⟩:=by dsimp[pU,h,d,ad e];show À
def JW{Q:jz}:W (lY [.p i,.ty "bool"] μ) Q↔Q ⟨.bl b3,μ⟩:=À
def JX{Q:jz}:W (lY [.p i,.ty "int"] μ) Q↔Q ⟨.bl b4,μ⟩:=À
def mP{Q:jz}(h:μ[a]?=a7 (.D xs)):W (dS [.z a] μ) Q↔Q ⟨.p xs.f,μ⟩:=by dsimp[dS,vD,bW,h,ĝ];show À
def ϶{Q:jz}:W (dS [.rol xs] μ) Q↔Q ⟨.p xs.f,μ⟩:=À
def fK(h:μ[a]?=a7 (.D xs)):W (nE μ<|.z a) Q↔Q xs:=by dsimp[nE,bW,h];show À
def ϵ:W (nE μ<|.L xs) Q↔Q xs:=À
def JY{Q:jz}(h:W (a b μ) λp=>∃l,p.1=.z l/\W (lo b p.2) λq=>W (hi b q.2) λr=>∃xs,r.2[l]?=a7 (.D xs)/\Q ⟨.z r.2.f,r.2++[.D<|nB xs q.1 r.1]⟩):W (q8 a lo hi b μ) Q:=by ext q8;rw[Ã];show bH h λp q=>?_;let(d,j):=p;let(l,c,e):=q;dsimp at c e ⊢;subst c;rw[Ã];show bH e λs q=>?_;rw[Ã];show bH q λr q=>?_;let(xs,g,i):=q;dsimp[bW,g,ě];show À.v i
def bT(μ:Hm)c:(μ++[c])[μ.f]?=a7 c:=∅
def YD{Q}:W (oM f g a b c e μ) Q↔W (a e μ) λp=>W (b e p.2) λq=>W (f p.1 q.1 q.2) λr=>match r.1 with|.bl k=>if k=b4 then W (c e r.2) λt=>W (g q.1 t.1 t.2) Q else Q ⟨.bl b3,r.2⟩|_=>ef:=by
 ext oM;dsimp[Ã];constructor<;>show λh=>bH h λp q=>bH q λj h1=>bH h1 λr i=>by
  let(d,μ):=r;cases d with
  |bl k=>ext k<;>simpa[À,Ã]using i|_=>simpa[ë]using i
def ę{Q:jz}:W (iJ b4 .kf .kf μ) Q↔Q ⟨.bl b3,μ⟩:=À
def Ū{Q:jz}:W (iJ b4 (.L xs) .kf μ) Q↔Q ⟨.bl b4,μ⟩:=À
def Dx:∀a,tG (a.o D.p)=a7 a
 |[]=>?r|i::a=>by change(tG<|a.o D.p).o (i::·)=_;rw[Dx a];rfl
def JZ{Q:jz}{b:ab ae}(h:μ[a]?=a7 (.D<|b.o D.p)):W (oN [.z a] μ) Q↔Q ⟨.p b.sum,μ⟩:=by dsimp[oN,bW,h,ě,Dx,ĝ];show À
def YE{Q:jz}{bs:ab av}(h:μ[a]?=a7 (.D<|bs.o D.bl)):W (zA [.z a] μ) Q↔Q ⟨.bl<|bs.all id,μ⟩:=by
 let e:∀bs:ab av,tI (bs.o D.bl)=a7 bs:=λbs=>by
  induction bs with
  |fk=>rfl|bm b bs c=>change(tI<|bs.o D.bl).o (b::·)=_;rw[c];rfl
 dsimp[zA,bW,h,ě,e,ĝ];show À
def Dy{Q:jz}(h:W (a b μ) λp=>∃l,p.1=.z l/\W (lo b p.2) λq=>W (hi b q.2) λr=>W (st b r.2) λt=>t.1≠a7 0/\∃xs,t.2[l]?=a7 (.D xs)/\(fU xs q.1 r.1 t.1).f<=Ò/\Q ⟨.z t.2.f,t.2++[.D<|fU xs q.1 r.1 t.1]⟩):W (mE a lo hi st b μ) Q:=by ext mE;rw[Ã];show bH h λp q=>?_;let(d,k):=p;let(l,c,e):=q;dsimp at c e ⊢;subst c;rw[Ã];show bH e λs q=>?_;rw[Ã];show bH q λr q=>?_;rw[Ã];show bH q λt q=>?_;let(h0,xs,g,i,j):=q;rw[ad h0];dsimp[fZ,g,ě];rw[ad i];show À.v j
def YF(h:W (ms e μ) λp=>∃a xs,p.1=[.z a]/\p.2[a]?=a7 (.D xs)/\Q ⟨mG<|.z a,xs.f+1,p.2⟩):W (qF ms e μ) Q:=by ext qF;rw[Ã];show bH h λp q=>?_;let(l,g):=p;let(a,xs,b,c,d):=q;dsimp at b c d ⊢;subst b;dsimp;dsimp[fZ,c,ĝ];show À.v d
def YG(h:W (ms a μ) λp=>∃xs,p.1=[.L xs]/\Q ⟨mG<|.L xs,xs.f+1,p.2⟩):W (qF ms a μ) Q:=by ext qF;rw[Ã];show bH h λp q=>?_;let(xs,b,c):=q;rw[b];show À.v c
def YH{b:MS}(I:am->aE->Hm->Prop)(h0:I 0 c μ)(n:∀i c μ,I i c μ->μ[a]?=a7 (.D xs))(go:∀i d c μ,xs[i]?=a7 d->I i c μ->∃h,g (.L [.p i,d]) c μ=a7 h/\W (b h μ) λp=>match p.1 with|.nx=>I (i+1) p.2.1 p.2.2|.ct=>I (i+1) p.2.1 p.2.2|.bk=>Q ⟨.nx,p.2.1,p.2.2⟩|.rt d=>Q ⟨.rt d,p.2.1,p.2.2⟩)(k:∀c μ,I xs.f c μ->Q ⟨.nx,c,μ⟩):W (fQ (mG<|.z a) g b (xs.f+1) 0 c μ) Q:=by
 show nP (N:=xs.f) I (λi c μ hi j=>?_) (λc μ j=>(?_,k c μ j)) xs.f 0 c μ () h0
 .let e:xs[i]?=a7 xs[i]:=Ċ hi;let(h,h1,o):=go i xs[i] c μ e j;show(_,h,?_,h1,o);dsimp[mG,bW,n i c μ j,ĝ,e]
 .dsimp[mG,bW,n _ c μ j,ĝ];simp
def Al{n:gJ}(I:am->ab D->Hm->Prop)(A:N<=Ò)(j:∀i g μ,I i g μ->g.f<=i)(go:∀i g μ,i<N->I i g μ->μ[a]?=a7 (.D g)->∃d x,n μ i=a7 (a7 d)/\z d μ=a7 x/\W (c (w++x) μ) λr=>(r.1=b3->r.2[a]?=a7 (.D g)/\I (i+1) g r.2) /\
   (r.1=b4->W (e (w++x) r.2) λs=>s.2[a]?=a7 (.D g)/\I (i+1) (g++[s.1]) (s.2.xl a<|.D<|g++[s.1])))(k:∀g μ,I N g μ->μ[a]?=a7 (.D g)->n μ N=a7 b0/\Q μ):∀m i g μ,i+m=N->I i g μ->μ[a]?=a7 (.D g)->W (kP n z c e w a (m+1) i μ) Q
 |0,i,g,μ,h,hI,hg=>by
  have:i=N:=()
  subst ah;let(h1,u):=k g μ hI hg;ext kP;rw[h1];show À.v u
 |m+1,i,g,μ,h,hI,hg=>by
  let(d,x,h1,u,B):=go i g μ () hI hg;ext kP;rw[h1];dsimp[ě,u];rw[Ã];show bH B λr q=>?_;let(b,v):=r;cases b with
  |ai=>let(o,p):=q.1 ?r;show Al I A j go k m (i+1) g v () p o|bt=>dsimp;rw[Ã];show bH (q.2 ?r) λs q=>?_;let(y,E):=s;let(o,p):=q;dsimp at o p ⊢;let G:=j i g μ hI;rw[Du o (),ě];show Al I A j go k m (i+1) _ _ () p ?_;rw[Ŭ (ã.Z o).1]
def YI{Q:jz}(g:W (w b μ) λr=>∃(N:am)(I:am->ab D->Hm->Prop),r.2.1=N+1/\N<=Ò/\(∀i a μ,I i a μ->a.f<=i)/\I 0 [] (r.2.2++[.D []]) /\
   (∀i a μ,i<N->I i a μ->μ[r.2.2.f]?=a7 (.D a)->∃d x,r.1 μ i=a7 (a7 d)/\h d μ=a7 x/\W (c (b++x) μ) λp=>(p.1=b3->p.2[r.2.2.f]?=a7 (.D a)/\I (i+1) a p.2) /\
    (p.1=b4->W (e (b++x) p.2) λs=>s.2[r.2.2.f]?=a7 (.D a)/\I (i+1) (a++[s.1]) (s.2.xl r.2.2.f<|.D<|a++[s.1]))) /\
   (∀a μ,I N a μ->μ[r.2.2.f]?=a7 (.D a)->r.1 μ N=a7 b0/\Q ⟨.z r.2.2.f,μ⟩)):W (jW h w c e b μ) Q:=by
 ext jW;rw[Ã];show bH g λr q=>?_;let(y,n,z):=r;let(N,I,h1,j,k,o,u,v):=q;dsimp at h1 j k o u v ⊢;subst h1;rw[kU];show Al I j k u v N 0 [] _ () o ∅
def YJ{u:gJ}{gt:Hm}{xs:ab D}{x:D->aE}(G:∀μ i,gt<+:μ->u μ i=a7 xs[i]?)(L:xs.f<=Ò)(J:∀d μ,d∈xs->E d μ=a7 (x d))(hc:∀d μ,d∈xs->gt<+:μ->W (c (B++x d) μ) λr=>r.1=p d/\μ<+:r.2)(K:∀d μ,d∈xs->p d=b4->gt<+:μ->W (e (B++x d) μ) λr=>r.1=v d/\μ<+:r.2)(dr:∀μ,gt<+:μ->μ[gt.f]?=a7 (.D<|(xs.H p).o v)->Q μ):W (kP u E c e B gt.f (xs.f+1) 0<|gt++[.D []]) Q:=by
 show Al (N:=xs.f) (λi w μ=>w=((xs.ze i).H p).o v/\gt<+:μ) L ?_ ?_ ?_ xs.f 0 [] _ () (∅,aS _ _) ∅
 .rintro i w μ (rfl|_);rw[Ä];show ĥ (ſ _ _) ?_;rw[ţ];lia
 .rintro i w μ hi (rfl|h) o;let H:xs[i]?=a7 xs[i]:=Ċ hi;let a:xs[i]∈xs:=uz hi;let g:xs.ze (i+1)=xs.ze i++[xs[i]]:=by rw[qm,H];rfl
  show(xs[i],x xs[i],by rw[G μ i h,H],J _ _ a,bH (hc _ μ a h) λr q=>?_);let(b,A):=r;let(k,n):=q;dsimp at k n ⊢;show(λj=>(aI n o,?_,h.u n),λj=>?_)
  .rw[g,ϣ];rw[j]at k;simp[<- k]
  .rw[j]at k;show bH (K _ A a k.R<|h.u n) λs q=>?_;let(y,M):=s;let(I,z):=q;dsimp at I z ⊢;subst I;show(aI (n.u z) o,?_,e6 ((h.u n).u z) (Ô _) _);rw[g,ϣ,Ć];simp[<- k]
 .rintro w μ (rfl|h) o;show(by rw[G μ _ h];simp,dr μ h ?_);rw[ź]at o;show o
def Dz{xs:ab D}{x:D->aE}{Q:jz}(g:W (z b μ) λr=>(∀a i,r.2.2<+:a->r.1 a i=a7 xs[i]?)/\r.2.1=xs.f+1/\xs.f<=Ò/\(∀d a,d∈xs->h d a=a7 (x d)) /\
   (∀d a,d∈xs->r.2.2<+:a->W (c (b++x d) a) λs=>s.1=p d/\a<+:s.2)/\(∀d a,d∈xs->p d=b4->r.2.2<+:a->W (e (b++x d) a) λs=>s.1=v d/\a<+:s.2) /\
   ∀a,r.2.2<+:a->a[r.2.2.f]?=a7 (.D<|(xs.H p).o v)->Q ⟨.z r.2.2.f,a⟩):W (jW h z c e b μ) Q:=by
 ext jW;rw[Ã];show bH g λr q=>?_;let(A,n,B):=r;let(h1,j,k,o,u,w,y):=q;dsimp at h1 j k o u w y ⊢;subst j;rw[kU];show YJ h1 k o u w y
def ą:W (iW a μ) Q↔Q ⟨b4,μ⟩:=À
def ď{Q}:W (d8 o i v a μ) Q↔W (v a μ) λp=>W (o a p.2) λq=>W (i a q.2) λr=>W (oO q.1 r.1 p.1 r.2) λaw=>Q ⟨.nx,a,aw⟩:=by ext d8 Cb;dsimp[Ã,kU]
def YK(h:W (ms d μ) λp=>∃a xs b c,p.1=[.z a,.L b,.L c]/\p.2[a]?=a7 (.D xs)/\Q ⟨tZ (.z a) (.L b)<|.L c,mx xs.f (mx b.f c.f)+1,p.2⟩):W (wH ms d μ) Q:=by ext wH;rw[Ã];show bH h λp q=>?_;let(a,xs,b,c,e,g,q):=q;rw[e];dsimp[fZ,g,ĝ];show À.v q
def YL(h:W (ms d μ) λp=>∃a b xs c,p.1=[.z a,.z b]/\p.2[a]?=a7 (.D xs)/\p.2[b]?=a7 (.D c)/\Q ⟨vX (.z a)<|.z b,mx xs.f c.f+1,p.2⟩):W (vY ms d μ) Q:=by ext vY;rw[Ã];show bH h λp q=>?_;let(a,b,xs,c,e,g,i,q):=q;rw[e];dsimp[fZ,g,i,ě,ĝ];show À.v q
def DA{Q:jz}(h:μ[a]?=a7 (.D xs)):W (qI [.z a] μ) Q↔Q ⟨.L xs,μ⟩:=by dsimp[qI,bW,h,ĝ];show À
def DB k:d7 (.L<|k.o D.p)=a7 k:=Dx k
def û{Q:jz}:W (jX ρ μ) Q↔Q ⟨.z μ.f,μ++[.dT []]⟩:=À
def J6{ay:jx}{Q:jz}(h:μ[a]?=a7 (.dT ay))(b:d7 y=a7 k)(c:bC ay k=a7 d):W (bE (.z a) y μ) Q↔Q ⟨d,μ⟩:=by dsimp[bE,h,b,ě,c,ĝ];show À
def wX{ay:jx}{Q:jz}(h:μ[a]?=a7 (.dT ay))(c:d7 y=a7 k):W (dB b y (.z a) μ) Q↔Q ⟨.bl<|if b then !(bC ay k).qh else(bC ay k).qh,μ⟩:=by
 have:dB b y (.z a) μ=a7 ⟨.bl<|if b then !(bC ay k).qh else(bC ay k).qh,μ⟩:=by dsimp[dB,h,c,ĝ]
 rw[ah];show À
def qL(h:μ[a]?=a7 (.dT ay))(b:d7 y=a7 k)(c:ay.f<Ò):W (oO (.z a) y d μ) Q↔Q (μ.xl a<|.dT<|cK ay k d):=by dsimp[oO,vM,h,b,ě,ad c];show À
def YM{ay:jx}{Q:jz}(h:μ[a]?=a7 (.dT ay)):W (dS [.z a] μ) Q↔Q ⟨.p ay.f,μ⟩:=by dsimp[dS,h];show À
def DC{ay:jx}{Q:jz}(h:μ[a]?=a7 (.dT ay)):W (iM [.z a] μ) Q↔Q ⟨.z μ.f,μ++[.D<|ay.o λk=>D.L<|k.1.o D.p]⟩:=by dsimp[iM,h];show À
def DD{Q:jz}(h:μ[a]?=a7 (.D xs)):W (iM [.z a] μ) Q↔Q ⟨.z μ.f,μ++[.D xs]⟩:=by dsimp[iM,h,vF,bW,ĝ];show À
def J7{Q:jz}(h:μ[a]?=a7 (.D xs)):W (nJ [.z a] μ) Q↔Q ⟨.z μ.f,μ++[.D xs.zd]⟩:=by dsimp[nJ,h];show À
def YN(h:W (ms a μ) λp=>∃i j c,p.1=[.p i,.p j,.p c]/\vO i j c=b4/\Q ⟨tP i c (ϳ i j c).zi,(ϳ i j c).zi+1,p.2⟩):W (vP ms a μ) Q:=by ext vP;rw[Ã];show bH h λp q=>?_;let(i,j,c,h1,b,d):=q;rw[h1];dsimp;rw[ad b];show À.v d
def YO{b:MS}(I:am->aE->Hm->Prop)(h0:I 0 a μ)(go:∀i a μ,i<n->I i a μ->∃e,g (.p<|lo+(i:am)*c) a μ=a7 e/\W (b e μ) λp=>match p.1 with|.nx=>I (i+1) p.2.1 p.2.2|.ct=>I (i+1) p.2.1 p.2.2|.bk=>Q ⟨.nx,p.2.1,p.2.2⟩|.rt d=>Q ⟨.rt d,p.2.1,p.2.2⟩)(h:∀a μ,I n a μ->Q ⟨.nx,a,μ⟩):W (fQ (tP lo c n) g b (n+1) 0 a μ) Q:=by
 show nP (N:=n) I (λi a μ hi j=>?_) (λa μ j=>(?_,h a μ j)) n 0 a μ () h0
 .let(e,h1,k):=go i a μ hi j;show(_,e,?_,h1,k);dsimp[tP,hi,cy]
 .simp[tP]
def YQ(h:W (ms b μ) λp=>∃a xs,p.1=[.z a]/\p.2[a]?=a7 (.D xs)/\Q ⟨nK a xs.f,xs.f+1,p.2⟩):W (vQ ms b μ) Q:=by ext vQ;rw[Ã];show bH h λp q=>?_;let(a,xs,h1,c,d):=q;rw[h1];dsimp;rw[c];show À.v d
end _3
namespace _w
open PySem _2 _3
def dn!:ab (cf×am×am):=(⟨"is_whole",9,1⟩::⟨"is_corner",10,1⟩::⟨"is_edge",11,1⟩::⟨"is_quarter",12,1⟩::⟨"line_of",13,1⟩::⟨"beside",14,1⟩::⟨"sides_of",15,1⟩::⟨"moved_by",16,2⟩::⟨"edges_round",17,1⟩::⟨"number_by",18,2⟩::⟨"hand_of",19,2⟩::⟨"mirrored",20,2⟩::⟨"is_size",22,1⟩::⟨"check_size",23,2⟩::⟨"places_within",24,2⟩::⟨"quarters_in",25,2⟩::⟨"edges_in",26,2⟩::⟨"corners_in",27,2⟩::⟨"marks_in",28,1⟩::⟨"is_good",30,1⟩::⟨"creases_at",32,2⟩::⟨"gaps_at",33,2⟩::⟨"barred",34,1⟩::⟨"check_corners",35,1⟩::⟨"tie_of",37,4⟩::⟨"is_least",38,2⟩::⟨"ties_of_gap",39,3⟩::⟨"ties_at",40,2⟩::⟨"ties",41,1⟩::⟨"walked_back",44,1⟩::⟨"steps_from",45,1⟩::⟨"is_marked",46,1⟩::⟨"marked_creases",47,1⟩::⟨"last_steps",48,2⟩::⟨"way_by",49,2⟩::⟨"is_alike",50,1⟩::⟨"back_by",51,1⟩::⟨"round_by_step",52,2⟩::⟨"round_within",53,3⟩::⟨"round_of",54,1⟩::⟨"carried_mark",55,3⟩::⟨"carried",56,1⟩::⟨"laying_by",59,3⟩::⟨"mirror_in",60,1⟩::⟨"led",61,2⟩::⟨"then",62,2⟩::⟨"is_turned",63,1⟩::⟨"heights_in",65,1⟩::⟨"is_above",66,3⟩::⟨"turned_first",67,2⟩::⟨"mark_by_heights",68,3⟩::⟨"marks_by",69,3⟩::⟨"folded_layings",72,3⟩::⟨"folded_piles",73,4⟩::⟨"check_fold",74,2⟩::⟨"creased_edges",75,3⟩::⟨"unfolded",76,2⟩::⟨"_law_cell",79,2⟩::⟨"_law_quarters",80,2⟩::⟨"_law_led",81,2⟩::⟨"_law_over",82,2⟩::⟨"_law_value",83,2⟩::⟨"_law_begun",84,2⟩::⟨"_law_folded",85,4⟩::⟨"_law_plan",86,3⟩::⟨"_law_go",87,3⟩::⟨"_law_opened",88,2⟩::⟨"law",89,1⟩::[])
def ds!:ab (cf×ff):=dn.o λp=>⟨p.1,aT p.2.1⟩
def J8!:D:=(.L [(.L [(.p 2),(.p 0)]),(.L [(.p 1),(.p 1)]),(.L [(.p 0),(.p 2)]),(.L [(.p<|-1),(.p 1)]),(.L [(.p<|-2),(.p 0)]),(.L [(.p<|-1),(.p<|-1)]),(.L [(.p 0),(.p<|-2)]),(.L [(.p 1),(.p<|-1)])])
def J9!:D:=(.L [(.L [(.p 1),(.p 1)]),(.L [(.p<|-1),(.p 1)]),(.L [(.p<|-1),(.p<|-1)]),(.L [(.p 1),(.p<|-1)])])
def wY!:ab (b9×D):=[⟨(.X "h"),(.jv "v")⟩,⟨(.X "v"),(.jv "h")⟩]
def DE!:D:=(.L [(.p 1),(.p 0),(.p 0),(.p 1),(.p 0),(.p 0)])
def S!:Ĝ:={fn:=dn.o λp=>⟨p.1,p.2.2⟩,con:=[⟨"EIGHT_EDGES",J8⟩,⟨"FOUR_EDGES",J9⟩,⟨"STILL",DE⟩],tab:=[⟨"TURNED",wY⟩],no:=["all","bool","dict","enumerate","int","isinstance","len","list","max","min","range","reversed","sorted","sum","tuple","zip"],dIt:=["piles","layings","_law_state","marks","reached"],dEq:=[],dMe:=["layings","piles","[]"],ob:=[⟨"wide","Folding"⟩,⟨"high","Folding"⟩,⟨"states","Folding"⟩],mt:=[⟨"fold","Folding","Folding.fold",3⟩,⟨"sheet","Folding","Folding.sheet",0⟩],mc:=[⟨"Folding","Folding.__init__",2⟩],ms:=[⟨"Folding.__init__",jA 77 0⟩,⟨"Folding.fold",jA 77 1⟩,⟨"Folding.sheet",jA 77 6⟩]}
@[irreducible] noncomputable def f(k:am)(x:cf):MF:=jG S ds k x
noncomputable abbrev aG:ME:=aC 0
noncomputable abbrev aJ:ME:=aC 1
noncomputable abbrev aO:ME:=aC 2
noncomputable abbrev b6:ME:=aC 3
noncomputable abbrev bQ:ME:=aC 4
noncomputable abbrev cW:ME:=aC 5
noncomputable abbrev dG:ME:=aC 6
noncomputable abbrev dU:ME:=aC 7
noncomputable abbrev iC:ME:=aC 8
noncomputable abbrev j4:ME:=aC 9
noncomputable abbrev Am:ME:=aC 10
noncomputable abbrev An:ME:=aC 11
noncomputable abbrev Ka:ME:=aC 12
noncomputable abbrev a8:ME:=mC<|.p 0
noncomputable abbrev aK:ME:=mC<|.p 1
noncomputable abbrev cH:ME:=mC<|.p 2
noncomputable abbrev r8:ME:=mC<|.p 3
noncomputable abbrev d9:ME:=mC<|.p 4
noncomputable abbrev bF(g:MF)(a:ME):ME:=bI g<|aB a aD
noncomputable abbrev bL(g:MF)(a b:ME):ME:=bI g<|aB a<|aB b aD
noncomputable abbrev lQ(g:MF)(a b c:ME):ME:=bI g<|aB a<|aB b<|aB c aD
noncomputable abbrev aW(i:am)(m:ME)(c:MS):MS:=aL (dA i m) c
noncomputable abbrev aH(a b:ME):ME:=aA bE a b
def Kb k a μ:f (k+1) "is_whole" [a] μ=dr ((aM<|lF (bL lY aG<|mC<|.ty "int")<|sT<|bL lY aG<|mC<|.ty "bool") [a7 a] μ):=""
def YR k a μ:f (k+1) "is_corner" [a] μ=dr ((aM<|lF (aA (aV b3) (aA bP (aH aG a8) cH) a8)<|aA (aV b3) (aA bP (aH aG a8) d9)<|aA bP (aH aG aK) d9) [a7 a] μ):=""
def YS k a μ:f (k+1) "is_edge" [a] μ=dr ((aL (bB (aP<|aA (aV b3) (aA bP (aH aG a8) cH) aK) (aM<|aA (aV b3) (aA bP (aH aG aK) cH) aK) bM)<|aM<|lF (aA (aV b3) (aA bP (aH aG aK) cH) a8)<|aA (aV b4) (aA bP (aH aG a8) d9)<|aA bP (aH aG aK) d9) [a7 a] μ):=""
def YT k a μ:f (k+1) "is_quarter" [a] μ=dr ((aL (bB (aP<|aA (aV b3) (aA bP (aH aG a8) cH) aK) (aM<|aA (aV b3) (aA bP (aH aG aK) d9) cH) bM)<|aM<|lF (aA (aV b3) (aA bP (aH aG a8) d9) cH)<|aA (aV b3) (aA bP (aH aG aK) cH) aK) [a7 a] μ):=""
def YU k a μ:f (k+1) "line_of" [a] μ=dr ((aL (bB (aP<|aA (aV b3) (aA bP (aH aG a8) cH) aK) (aM<|gU (aP<|aA (aV b3) (aA bP (aH aG a8) d9)<|aA bP (aH aG aK) d9) (mC<|.jv "falling")<|mC<|.jv "rising") bM)<|aM<|gU (aP<|aA (aV b3) (aA bP (aH aG aK) d9) a8) (mC<|.jv "level")<|mC<|.jv "upright") [a7 a] μ):=""
def YV k a μ:f (k+1) "beside" [a] μ=dr ((aW 1 (aH aG a8)<|aW 2 (aH aG aK)<|aM<|cU<|aB (bY<|aB (aA dQ aJ aK)<|aB aO aD)<|aB (bY<|aB aJ<|aB (aA dQ aO aK) aD)<|aB (bY<|aB aJ<|aB (aA bS aO aK) aD)<|aB (bY<|aB (aA bS aJ aK)<|aB aO aD) aD) [a7 a,b0,b0] μ):=""
def YW k a μ:f (k+1) "sides_of" [a] μ=dr ((aM<|gK (dR<|bF (f k "beside") aG) (c7<|bF (f k "is_quarter") aJ) aJ) [a7 a] μ):=""
def YX k a b μ:f (k+1) "moved_by" [a,b] μ=dr ((aM<|gK (dR aJ) iW<|bY<|aB (aA bS (aH aG a8)<|aH aO a8)<|aB (aA bS (aH aG aK)<|aH aO aK) aD) [a7 a,a7 b] μ):=""
def YY k a μ:f (k+1) "edges_round" [a] μ=dr ((aM<|bL (f k "moved_by") aG<|gU (aP<|aA (aV b3) (aA bP (aH aG a8) d9) a8) (mC J8)<|mC J9) [a7 a] μ):=""
def YZ k a b μ:f (k+1) "number_by" [a,b] μ=dr ((aL (bB (aP<|aA (aV b3) aG<|mC<|.jv "level") (aM<|aH aJ aK) bM)<|aL (bB (aP<|aA (aV b3) aG<|mC<|.jv "upright") (aM<|aH aJ a8) bM)<|aL (bB (aP<|aA (aV b3) aG<|mC<|.jv "falling") (aM<|aA dQ (aH aJ a8)<|aH aJ aK) bM)<|aM<|aA bS (aH aJ a8)<|aH aJ aK) [a7 a,a7 b] μ):=""
def Y2 k a b μ:f (k+1) "hand_of" [a,b] μ=dr ((aW 2 (bF (f k "line_of") aJ)<|aW 3 (aA dQ (bL (f k "number_by") aO aG)<|bL (f k "number_by") aO aJ)<|aL (bB (aP<|aA nD b6 a8) (aM aK) bM)<|aM<|gU (aP<|aA nC b6 a8) (fA aK) a8) [a7 a,a7 b,b0,b0] μ):=""
def Y3 k a b μ:f (k+1) "mirrored" [a,b] μ=dr ((aW 2 (aH aG a8)<|aW 3 (aH aG aK)<|aW 4 (bF (f k "line_of") aJ)<|aW 5 (bL (f k "number_by") bQ aJ)<|aL (bB (aP<|aA (aV b3) bQ<|mC<|.jv "level") (aM<|bY<|aB aO<|aB (aA dQ (aA cE cH cW) b6) aD) bM)<|aL (bB (aP<|aA (aV b3) bQ<|mC<|.jv "upright") (aM<|bY<|aB (aA dQ (aA cE cH cW) aO)<|aB b6 aD) bM)<|aL (bB (aP<|aA (aV b3) bQ<|mC<|.jv "falling") (aM<|bY<|aB (aA bS b6 cW)<|aB (aA dQ aO cW) aD) bM)<|aM<|bY<|aB (aA dQ cW b6)<|aB (aA dQ cW aO) aD) [a7 a,a7 b,b0,b0,b0,b0] μ):=""
def Y4 k a μ:f (k+1) "is_size" [a] μ=dr ((aM<|lF (bF (f k "is_whole") aG)<|oM sW sW aK aG<|mC<|.p 6) [a7 a] μ):=""
def Y5 k a b μ:f (k+1) "check_size" [a,b] μ=dr ((bB (kK<|kJ (c7<|bF (f k "is_size") aG)<|c7<|bF (f k "is_size") aJ) dJ bM) [a7 a,a7 b] μ):=""
def Y6 k a b μ:f (k+1) "places_within" [a,b] μ=dr ((aW 2 (cU aD)<|aL (cV (tD<|aB aK<|aB (aA cE d9 aG) aD) (dE 3)<|dP<|eH pU aO<|aB (gK (tD<|aB aK<|aB (aA cE d9 aJ) aD) iW<|bY<|aB b6<|aB bQ aD) aD)<|aM aO) [a7 a,a7 b,b0,b0] μ):=""
def Y7 k a b μ:f (k+1) "quarters_in" [a,b] μ=dr ((aM<|gK (dR<|bL (f k "places_within") aG aJ) (c7<|bF (f k "is_quarter") aO) aO) [a7 a,a7 b] μ):=""
def Y8 k a b μ:f (k+1) "edges_in" [a,b] μ=dr ((aM<|gK (dR<|bL (f k "places_within") aG aJ) (c7<|bF (f k "is_edge") aO) aO) [a7 a,a7 b] μ):=""
def Y9 k a b μ:f (k+1) "corners_in" [a,b] μ=dr ((aM<|gK (dR<|bL (f k "places_within") aG aJ) (c7<|bF (f k "is_corner") aO) aO) [a7 a,a7 b] μ):=""
def Kc k a μ:f (k+1) "marks_in" [a] μ=dr ((aM<|bF rQ<|aH aG cH) [a7 a] μ):=""
def Za k a μ:f (k+1) "is_good" [a] μ=dr ((aL (bB (iG (aP<|aA nD (bF dS aG)<|mC<|.p 8)<|aP<|aA (aV b3) (aA bP (bF dS aG) cH) aK) (aM<|mC<|.bl b3) bM)<|aL (bB (kK<|c7<|bF zA<|gK (dR aG) iW<|lF (bF (f k "is_whole") aJ)<|aA vB aJ aK) (aM<|mC<|.bl b3) bM)<|aM<|aA (aV b3) (bF oN<|mE aG iH iH<|jT cH)<|bF oN<|mE aG (jT aK) iH<|jT cH) [a7 a] μ):=""
def Zb k a b μ:f (k+1) "creases_at" [a,b] μ=dr ((aW 2 (bF (f k "marks_in") aG)<|aM<|gK (dR<|bF (f k "edges_round") aJ) (aP<|aA (dB b3) b6 aO) b6) [a7 a,a7 b,b0] μ):=""
def Zc k a b μ:f (k+1) "gaps_at" [a,b] μ=dr ((aW 2 (bF (f k "edges_round") aJ)<|aW 3 (bL (f k "creases_at") aG aJ)<|aW 4 (gK (dR b6) iW<|eH tL aO<|aB dU aD)<|aW 5 (aA bS (q8 bQ (jT aK) iH)<|gK (dR<|q8 bQ iH<|jT aK) iW<|aA bS dU<|bF dS aO)<|aW 6 (aA eV (mC<|.p 8)<|bF dS aO)<|aM<|jW (vC 2) (vY<|aB bQ<|aB cW aD) iW<|aA cE (aA dQ iC dU) dG) [a7 a,a7 b,b0,b0,b0,b0,b0] μ):=""
def Zd k a μ:f (k+1) "barred" [a] μ=dr ((aL (cV (dR<|bL (f k "corners_in") (aH aG a8)<|aH aG aK) (dE 1)<|bB (kK<|c7<|bF (f k "is_good")<|bL (f k "gaps_at") aG aJ) (aM aJ) bM)<|aM<|mC .kf) [a7 a,b0] μ):=""
def Ze k a μ:f (k+1) "check_corners" [a] μ=dr ((aW 1 (bF (f k "barred") aG)<|bB (aP<|aA (iJ b4) aJ<|mC .kf) dJ bM) [a7 a,b0] μ):=""
def Zf k a b c d μ:f (k+1) "tie_of" [a,b,c,d] μ=dr ((aM<|bY<|aB (bL CC aG aJ)<|aB (bL zU aG aJ)<|aB aO<|aB b6 aD) [a7 a,a7 b,a7 c,a7 d] μ):=""
def Zg k a b μ:f (k+1) "is_least" [a,b] μ=dr ((aM<|lF (aA nC (aH aG aJ)<|aH aG<|aA dQ aJ aK)<|aA nC (aH aG aJ)<|aH aG<|aA bP (aA bS aJ aK)<|bF dS aG) [a7 a,a7 b] μ):=""
def Zh k a b c μ:f (k+1) "ties_of_gap" [a,b,c] μ=dr ((aW 3 (bF dS aG)<|aW 4 (cU<|aB (bI (f k "tie_of")<|aB (aH aG aJ)<|aB (aH aG<|aA bP (aA bS aJ aK) b6)<|aB (mC<|.bl b3)<|aB aO aD) aD)<|aL (bB (aP<|aA (aV b3) b6 d9) (dP<|eH fT bQ<|aB (bI (f k "tie_of")<|aB (aH aG<|aA bP (aA bS aJ cH) d9)<|aB (aH aG<|aA bP (aA bS aJ r8) d9)<|aB (mC<|.bl b4)<|aB aO aD) aD) bM)<|aM bQ) [a7 a,a7 b,a7 c,b0,b0] μ):=""
def Zi k a b μ:f (k+1) "ties_at" [a,b] μ=dr ((aW 2 (bL (f k "creases_at") aG aJ)<|aW 3 (bL (f k "gaps_at") aG aJ)<|aL (bB (aP<|aA (aV b3) (bF dS aO) cH) (aM<|cU<|aB (bI (f k "tie_of")<|aB (aH aO a8)<|aB (aH aO aK)<|aB (mC<|.bl b4)<|aB aJ aD) aD) bM)<|aW 4 (cU aD)<|aL (cV (pT<|aB (bF dS aO) aD) (dE 5)<|bB (c7<|bL (f k "is_least") b6 cW) (dP<|eH pU bQ<|aB (lQ (f k "ties_of_gap") aO cW aJ) aD) bM)<|aM bQ) [a7 a,a7 b,b0,b0,b0,b0] μ):=""
def Zj k a μ:f (k+1) "ties" [a] μ=dr ((aL (dP<|bF (f k "check_corners") aG)<|aW 1 (cU aD)<|aL (cV (dR<|bL (f k "corners_in") (aH aG a8)<|aH aG aK) (dE 2)<|dP<|eH pU aJ<|aB (bL (f k "ties_at") aG aO) aD)<|aM<|bF tX aJ) [a7 a,b0,b0] μ):=""
def Zk k a μ:f (k+1) "walked_back" [a] μ=dr ((aM<|bY<|aB (aH aG aK)<|aB (aH aG a8)<|aB (aH aG cH)<|aB (aH aG r8) aD) [a7 a] μ):=""
def Zl k a μ:f (k+1) "steps_from" [a] μ=dr ((aW 1 jX<|aL (cV (dR<|bF (f k "ties") aG) (dE 2)<|aL (dP<|eH fT (fW nM aJ<|aB (aH aO a8)<|aB (cU aD) aD)<|aB aO aD)<|dP<|eH fT (fW nM aJ<|aB (aH aO aK)<|aB (cU aD) aD)<|aB (bF (f k "walked_back") aO) aD)<|aM aJ) [a7 a,b0,b0] μ):=""
def Zm k a μ:f (k+1) "is_marked" [a] μ=dr ((aM<|BU wY aG) [a7 a] μ):=""
def Zn k a μ:f (k+1) "marked_creases" [a] μ=dr ((aM<|jW (vC 2) (dR<|aH aG cH) (c7<|bF (f k "is_marked") aO) aJ) [a7 a] μ):=""
def Zo k a b μ:f (k+1) "last_steps" [a,b] μ=dr ((aW 2 jX<|aL (cV (dR aJ) (dE 3)<|d8 aO b6<|mC .kf)<|aW 4 (bF iM aJ)<|aL (tH uA (c7 bQ)<|aW 5 (eH pV bQ<|aB a8 aD)<|cV (dR<|fW fD aG<|aB cW<|aB (cU aD) aD) (dE 6)<|bB (aP<|aA (dB b4) (aH dG aK) aO) (aL (d8 aO (aH dG aK) dG)<|dP<|eH fT bQ<|aB (aH dG aK) aD) bM)<|aM aO) [a7 a,a7 b,b0,b0,b0,b0,b0] μ):=""
def Zp k a b μ:f (k+1) "way_by" [a,b] μ=dr ((aW 2 (cU aD)<|aW 3 (aH aG aJ)<|aL (tH uA (aP<|aA (iJ b4) b6<|mC .kf)<|aL (dP<|eH fT aO<|aB b6 aD)<|dA 3<|aH aG<|aH b6 a8)<|aM<|bF nJ aO) [a7 a,a7 b,b0,b0] μ):=""
def Zq k a μ:f (k+1) "is_alike" [a] μ=dr ((aM<|aA (aV b3) (aA bP (bF dS<|gK (dR aG) (kK<|c7<|aH aJ cH) aJ) cH) a8) [a7 a] μ):=""
def Zs k a μ:f (k+1) "back_by" [a] μ=dr ((aM<|gK (vQ<|aB aG aD) iW<|bF (f k "walked_back") aJ) [a7 a] μ):=""
def Zt k a b μ:f (k+1) "round_by_step" [a,b] μ=dr ((aM<|aA bS (aA bS (bL (f k "way_by") aG<|aH aJ a8)<|cU<|aB aJ aD)<|bF (f k "back_by")<|bL (f k "way_by") aG<|aH aJ aK) [a7 a,a7 b] μ):=""
def Zu k a b c μ:f (k+1) "round_within" [a,b,c] μ=dr ((aW 3 (bL (f k "last_steps") aG<|cU<|aB aO aD)<|aL (f9 3 (cV (gX b6) (dE 4)<|aW 5 (bL (f k "way_by") b6 bQ)<|aL (bB (kJ (c7<|bF (f k "is_marked")<|aH aJ bQ)<|kJ (c7<|bF (f k "is_marked")<|aH aJ aO)<|aP<|aA (aV b4) (bF (f k "is_alike") cW)<|aA (aV b3) (aH aJ bQ)<|aH aJ aO) (aM cW) bM)<|cV (dR<|fW fD aG<|aB bQ<|aB (cU aD) aD) (dE 6)<|aW 7 (bL (f k "round_by_step") b6 dG)<|bB (kK<|c7<|bF (f k "is_alike") dU) (aM dU) bM) dJ)<|aM<|mC .kf) [a7 a,a7 b,a7 c,b0,b0,b0,b0,b0] μ):=""
def Zv k a μ:f (k+1) "round_of" [a] μ=dr ((aW 1 (bF (f k "steps_from") aG)<|aW 2 (bF (f k "marks_in") aG)<|aW 3 jX<|aL (cV (dR<|aA bS (bF (f k "marked_creases") aG)<|bF iM aO) (dE 4)<|bB (aP<|aA (dB b4) bQ b6) (aW 5 (lQ (f k "round_within") aJ aO bQ)<|aL (bB (aP<|aA (iJ b4) cW<|mC .kf) (aM cW) bM)<|dP<|fW rX b6<|aB (bL (f k "last_steps") aJ<|cU<|aB bQ aD) aD) bM)<|aM<|mC .kf) [a7 a,b0,b0,b0,b0,b0] μ):=""
def Kd k a b c μ:f (k+1) "carried_mark" [a,b,c] μ=dr ((aL (bB (aP<|aA (dB b4) aO aJ) (aM<|mC<|.jv "o") bM)<|aW 3 (bL (f k "way_by") aJ aO)<|aW 4 (gU (c7 b6) (aH (aH b6 a8) a8) aO)<|aM<|gU (c7<|bF (f k "is_alike") b6) (aH aG bQ)<|vG wY<|aH aG bQ) [a7 a,a7 b,a7 c,b0,b0] μ):=""
def Zw k a μ:f (k+1) "carried" [a] μ=dr ((aW 1 (bL (f k "last_steps") (bF (f k "steps_from") aG)<|bF (f k "marked_creases") aG)<|aW 2 (bF (f k "marks_in") aG)<|aM<|tV 2 (gK (gX aO) iW<|bY<|aB b6<|aB (lQ (f k "carried_mark") aO aJ b6) aD) cJ) [a7 a,b0,b0] μ):=""
def Zx k a b c μ:f (k+1) "laying_by" [a,b,c] μ=dr ((aM<|bY<|aB (aA dQ (aH aJ a8)<|aH aG a8)<|aB (aA dQ (aH aO a8)<|aH aG a8)<|aB (aA dQ (aH aJ aK)<|aH aG aK)<|aB (aA dQ (aH aO aK)<|aH aG aK)<|aB (aH aG a8)<|aB (aH aG aK) aD) [a7 a,a7 b,a7 c] μ):=""
def Zy k a μ:f (k+1) "mirror_in" [a] μ=dr ((aM<|lQ (f k "laying_by") (bL (f k "mirrored") (bY<|aB a8<|aB a8 aD) aG) (bL (f k "mirrored") (bY<|aB aK<|aB a8 aD) aG)<|bL (f k "mirrored") (bY<|aB a8<|aB aK aD) aG) [a7 a] μ):=""
def Zz k a b μ:f (k+1) "led" [a,b] μ=dr ((aW 2 (aH aJ a8)<|aW 3 (aH aJ aK)<|aM<|bY<|aB (aA bS (aA bS (aA cE (aH aG a8) aO)<|aA cE (aH aG aK) b6)<|aH aG d9)<|aB (aA bS (aA bS (aA cE (aH aG cH) aO)<|aA cE (aH aG r8) b6)<|aH aG<|mC<|.p 5) aD) [a7 a,a7 b,b0,b0] μ):=""
def ZA k a b μ:f (k+1) "then" [a,b] μ=dr ((aM<|lQ (f k "laying_by") (bL (f k "led") aJ<|bL (f k "led") aG<|bY<|aB a8<|aB a8 aD) (bL (f k "led") aJ<|bL (f k "led") aG<|bY<|aB aK<|aB a8 aD)<|bL (f k "led") aJ<|bL (f k "led") aG<|bY<|aB a8<|aB aK aD) [a7 a,a7 b] μ):=""
def ZC k a μ:f (k+1) "is_turned" [a] μ=dr ((aM<|aA (aV b3) (aA dQ (aA cE (aH aG a8)<|aH aG r8)<|aA cE (aH aG aK)<|aH aG cH)<|fA aK) [a7 a] μ):=""
def ZD k a μ:f (k+1) "heights_in" [a] μ=dr ((aW 1 jX<|aL (f9 0 (cV (tW aG) (dE 2)<|cV (qF<|aB aO aD) (fY [3,4])<|d8 aJ bQ b6) dJ)<|aM aJ) [a7 a,b0,b0,b0,b0] μ):=""
def ZE k a b c μ:f (k+1) "is_above" [a,b,c] μ=dr ((aM<|aA nD (aH aG aJ)<|aH aG aO) [a7 a,a7 b,a7 c] μ):=""
def ZF k a b μ:f (k+1) "turned_first" [a,b] μ=dr ((aW 2 (bF (f k "sides_of") aJ)<|aL (bB (c7<|bF (f k "is_turned")<|aH aG<|aH aO a8) (aM aO) bM)<|aM<|cU<|aB (aH aO aK)<|aB (aH aO a8) aD) [a7 a,a7 b,b0] μ):=""
def ZG k a b c μ:f (k+1) "mark_by_heights" [a,b,c] μ=dr ((aW 3 (bL (f k "turned_first") aJ aO)<|aM<|gU (c7<|lQ (f k "is_above") aG (aH b6 a8)<|aH b6 aK) (mC<|.jv "v")<|mC<|.jv "h") [a7 a,a7 b,a7 c,b0] μ):=""
def ZH k a b c μ:f (k+1) "marks_by" [a,b,c] μ=dr ((aW 3 (bF (f k "heights_in") aO)<|aM<|jW (vC 2) (dR<|aH aG cH) iW<|bY<|aB bQ<|aB (lQ (f k "mark_by_heights") b6 aJ bQ) aD) [a7 a,a7 b,a7 c,b0] μ):=""
def ZI k a b c μ:f (k+1) "folded_layings" [a,b,c] μ=dr ((aW 3 (bF (f k "mirror_in") aJ)<|aW 4 jX<|aL (f9 0 (cV (qD aG) (fY [5,6])<|aW 7 (aA (aV b3) (bL (f k "hand_of") (bL (f k "led") dG cW) aJ) aO)<|d8 bQ cW<|gU (c7 dU) (bL (f k "then") dG b6) dG) dJ)<|aM bQ) [a7 a,a7 b,a7 c,b0,b0,b0,b0,b0] μ):=""
def ZJ k a b c d μ:f (k+1) "folded_piles" [a,b,c,d] μ=dr ((aW 4 jX<|aL (f9 0 (cV (qD aG) (fY [5,6])<|bB (aP<|aA (aV b4) (bL (f k "hand_of") cW aJ) aO) (d8 bQ cW<|bF iM dG) bM) dJ)<|aL (f9 0 (cV (qD aG) (fY [5,6])<|bB (aP<|aA (aV b3) (bL (f k "hand_of") cW aJ) aO) (aW 7 (bL (f k "mirrored") cW aJ)<|aW 8 (bF nJ dG)<|aW 9 (fW fD bQ<|aB dU<|aB (cU aD) aD)<|d8 bQ dU<|gU (c7 b6) (aA bS j4 iC)<|aA bS iC j4) bM) dJ)<|aM bQ) [a7 a,a7 b,a7 c,a7 d,b0,b0,b0,b0,b0,b0] μ):=""
def ZK k a b μ:f (k+1) "check_fold" [a,b] μ=dr ((aL (f9 0 (dA 2<|gK (gX aG) iW<|bL (f k "hand_of") b6 aJ) dJ)<|bB (iG (aP<|aA (dB b4) aK aO)<|aP<|aA (dB b4) (fA aK) aO) dJ bM) [a7 a,a7 b,b0] μ):=""
def ZL k a b c μ:f (k+1) "creased_edges" [a,b,c] μ=dr ((aW 3 (cU aD)<|aL (cV (dR<|bL (f k "edges_in") aG aJ) (dE 4)<|aW 5 (bF (f k "sides_of") bQ)<|bB (aP<|aA (aV b4) (aH aO<|aH cW a8)<|aH aO<|aH cW aK) (dP<|eH fT b6<|aB bQ aD) bM)<|aM b6) [a7 a,a7 b,a7 c,b0,b0,b0] μ):=""
def ZM k a b μ:f (k+1) "unfolded" [a,b] μ=dr ((aW 2 jX<|aW 3 jX<|aL (cV (dR<|bL (f k "quarters_in") aG aJ) (dE 4)<|aL (d8 aO bQ<|mC DE)<|d8 b6 bQ<|cU<|aB bQ aD)<|aM<|bY<|aB aO<|aB b6 aD) [a7 a,a7 b,b0,b0,b0] μ):=""
def ZN k a b μ:f (k+1) "_law_cell" [a,b] μ=dr ((aL (bB (aP<|aA nC aJ<|bF dS aG) (aM<|aH aG aJ) bM)<|aL (bB (aP<|aA (aV b3) aG<|cU aD) (aM<|aA bP (aA cE (aA cE aJ aJ)<|mC<|.p 48271)<|mC<|.p 2147483647) bM)<|aW 2 (aA bP (aA cE (aA bS (aA bP (aH aG<|aA bP aJ<|bF dS aG)<|mC<|.p 2147483629)<|aA cE (aA cE aJ aJ)<|mC<|.p 69623)<|mC<|.p 48271)<|mC<|.p 2147483647)<|aM<|aA bP (aA cE aO aO)<|mC<|.p 2147483629) [a7 a,a7 b,b0] μ):=""
def ZO k a b μ:f (k+1) "_law_quarters" [a,b] μ=dr ((aW 2 (cU aD)<|aL (cV (pT<|aB (aA cE d9 aG) aD) (dE 3)<|cV (pT<|aB (aA cE d9 aJ) aD) (dE 4)<|bB (iG (kJ (aP<|aA (aV b3) (aA bP b6 d9) cH)<|aP<|aA (aV b3) (aA bP bQ cH) aK)<|kJ (aP<|aA (aV b3) (aA bP b6 cH) aK)<|aP<|aA (aV b3) (aA bP bQ d9) cH) (dP<|eH fT aO<|aB (bY<|aB b6<|aB bQ aD) aD) bM)<|aM aO) [a7 a,a7 b,b0,b0,b0] μ):=""
def ZP k a b μ:f (k+1) "_law_led" [a,b] μ=dr ((aL (l6 aG<|fY [2,3,4,5,6,7])<|aM<|bY<|aB (aA bS (aA bS (aA cE aO<|aH aJ a8)<|aA cE b6<|aH aJ aK) dG)<|aB (aA bS (aA bS (aA cE bQ<|aH aJ a8)<|aA cE cW<|aH aJ aK) dU) aD) [a7 a,a7 b,b0,b0,b0,b0,b0,b0] μ):=""
def ZQ k a b μ:f (k+1) "_law_over" [a,b] μ=dr ((aL (l6 aG<|fY [2,3,4,5,6,7])<|aL (l6 aJ<|fY [8,9])<|aL (bB (aP<|aA (aV b3) iC a8) (aM<|bY<|aB aO<|aB b6<|aB (fA bQ)<|aB (fA cW)<|aB dG<|aB (aA dQ (aA cE cH j4) dU) aD) bM)<|aL (bB (aP<|aA (aV b3) iC aK) (aM<|bY<|aB (fA aO)<|aB (fA b6)<|aB bQ<|aB cW<|aB (aA dQ (aA cE cH j4) dG)<|aB dU aD) bM)<|aL (bB (aP<|aA (aV b3) iC cH) (aM<|bY<|aB bQ<|aB cW<|aB aO<|aB b6<|aB (aA bS dU j4)<|aB (aA dQ dG j4) aD) bM)<|aM<|bY<|aB (fA bQ)<|aB (fA cW)<|aB (fA aO)<|aB (fA b6)<|aB (aA dQ j4 dU)<|aB (aA dQ j4 dG) aD) [a7 a,a7 b,b0,b0,b0,b0,b0,b0,b0,b0] μ):=""
def ZR k a b μ:f (k+1) "_law_value" [a,b] μ=dr ((aM<|aH (cU<|aB (aH aG aK)<|aB (aH aG a8)<|aB (aA dQ (aH aG a8)<|aH aG aK)<|aB (aA bS (aH aG a8)<|aH aG aK) aD) aJ) [a7 a,a7 b] μ):=""
def ZS k a b μ:f (k+1) "_law_begun" [a,b] μ=dr ((aW 2 jX<|aW 3 jX<|aL (cV (dR<|bL (f k "_law_quarters") aG aJ) (dE 4)<|aL (d8 aO bQ<|bY<|aB aK<|aB a8<|aB a8<|aB aK<|aB a8<|aB a8 aD)<|d8 b6 bQ<|cU<|aB bQ aD)<|aM<|bY<|aB aO<|aB b6 aD) [a7 a,a7 b,b0,b0,b0] μ):=""
def ZT k a b c d μ:f (k+1) "_law_folded" [a,b,c,d] μ=dr ((aW 4 (bF t8<|aH aG a8)<|aL (f9 1001 (dA 6<|gK (gX<|aH aG aK) (aP<|aA (aV b3) (aA nD (bL (f k "_law_value") An<|aH aJ a8)<|aH aJ aK) aO) An) dJ)<|aL (bB (iG (aP<|aA (aV b3) dG<|cU aD)<|aP<|aA (aV b3) (bF dS dG)<|bF dS<|aH aG aK) (aM<|mC .kf) bM)<|aL (cV (dR<|bF iM bQ) (dE 7)<|bB (aP<|aA (dB b3) (bL (f k "_law_led") (aH bQ dU) dU) dG) (d8 bQ dU<|bL (f k "_law_over") (aH bQ dU) aJ) bM)<|aW 8 jX<|aL (f9 1001 (cV (gX<|aH aG aK) (dE 5)<|bB (aP<|aA (dB b4) cW dG) (d8 iC cW<|bF iM<|aH (aH aG aK) cW) bM) dJ)<|aL (cV (dR dG) (dE 5)<|aW 9 (bL (f k "_law_led") (bL (f k "_law_over") (bY<|aB aK<|aB a8<|aB a8<|aB aK<|aB a8<|aB a8 aD) aJ) cW)<|aW 10 (mE (aH (aH aG aK) cW) iH iH<|jT<|fA aK)<|bB (c7 b6) (d8 iC j4<|aA bS (fW fD iC<|aB j4<|aB (cU aD) aD) Am)<|d8 iC j4<|aA bS Am<|fW fD iC<|aB j4<|aB (cU aD) aD)<|aM<|bY<|aB bQ<|aB iC aD) [a7 a,a7 b,a7 c,a7 d,b0,b0,b0,b0,b0,b0,b0] μ):=""
def ZU k a b c μ:f (k+1) "_law_plan" [a,b,c] μ=dr ((aW 3 (aA bP aJ d9)<|aW 4 (bF iM<|aH aG aK)<|aW 5 (aH bQ<|aA bP (aA eV aJ<|mC<|.p 64)<|bF dS bQ)<|aW 6 (aA bS (aA cE (aA eV (bL (f k "_law_value") cW b6) d9) d9)<|aA cE (aA bP (aA eV aJ d9) cH) d9)<|aL (bB (aP<|aA (aV b3) (aA bP (aA eV aJ<|mC<|.p 8)<|mC<|.p 7) r8) (dA 6<|aA cE d9<|aA dQ (aA bP aO<|aA cE cH<|aA oG (mC<|.p 10)<|mC<|.p 58)<|aA oG (mC<|.p 10)<|mC<|.p 58) bM)<|aW 7 (aA dQ (aA bP (aA eV aO r8)<|mC<|.p 9) d9)<|aL (bB (aP<|aA (aV b3) (aA bP (aA eV aJ<|mC<|.p 56)<|mC<|.p 5) cH) (dA 7<|aA bP (aA eV aO<|mC<|.p 7)<|aA oG (mC<|.p 10)<|mC<|.p 57) bM)<|aW 8 (aH (cU<|aB (bY<|aB (aA bS cH<|aA cE d9 dU)<|aB dG aD)<|aB (bY<|aB dG<|aB (aA bS cH<|aA cE d9 dU) aD)<|aB (bY<|aB (aA bS (aA bS dG aK)<|aA cE cH dU)<|aB (aA bS aK<|aA cE cH dU) aD)<|aB (bY<|aB (aA bS aK<|aA cE cH dU)<|aB (aA dQ (aA dQ dG aK)<|aA cE cH dU) aD) aD) b6)<|aM<|bY<|aB iC<|aB (bY<|aB b6<|aB dG aD)<|aB (aA (aV b3) (aA bP (aA eV aJ<|mC<|.p 280) cH) aK)<|aB (aA (aV b3) (aA bP (aA eV aJ<|mC<|.p 560) cH) aK) aD) [a7 a,a7 b,a7 c,b0,b0,b0,b0,b0,b0] μ):=""
def ZV k a b c μ:f (k+1) "_law_go" [a,b,c] μ=dr ((aW 3 (aA bS aK<|aA bP (bL (f k "_law_cell") aG a8) aJ)<|aW 4 (aA bS aK<|aA bP (aA eV (bL (f k "_law_cell") aG a8) aJ) aJ)<|aW 5 (pX "Folding" (f k "Folding")<|aB b6<|aB bQ aD)<|aW 6 (bL (f k "_law_begun") b6 bQ)<|aL (cV (vP<|aB aK<|aB (aA bS (aA cE cH aO) aK)<|aB cH aD) (dE 7)<|aL (l6 (lQ (f k "_law_plan") dG (bL (f k "_law_cell") aG dU)<|bL (f k "_law_cell") aG<|aA bS dU aK)<|fY [8,9,10,11])<|aW 12 (bI (f k "_law_folded")<|aB dG<|aB j4<|aB Am<|aB An aD)<|bB (aP<|aA (iJ b4) Ka<|mC .kf) (aL (dP<|nH "Folding" "fold" (f k "Folding.fold") cW<|aB iC<|aB Am<|aB An aD)<|dA 6 Ka) bM)<|aM<|bY<|aB b6<|aB bQ<|aB cW aD) [a7 a,a7 b,a7 c,b0,b0,b0,b0,b0,b0,b0,b0,b0,b0] μ):=""
def ZW k a b μ:f (k+1) "_law_opened" [a,b] μ=dr ((aW 2 (cU aD)<|aW 3 (aA bP (bL (f k "_law_cell") aJ<|mC<|.p 14)<|bL zU aK<|bF dS<|aH aG cH)<|aW 4 (bL (f k "_law_cell") aJ<|mC<|.p 61)<|aL (cV (qF<|aB (aH aG cH) aD) (fY [5,6])<|aW 7 (aA (aV b3) (aA bP (aA eV (bL (f k "_law_cell") aJ<|aA bS (mC<|.p 15)<|aA bP cW<|mC<|.p 5)<|aA bS (aA bP cW<|mC<|.p 11) aK) d9) a8)<|aL (bB (aP<|aA (aV b3) (aA bP (bL (f k "_law_cell") aJ<|mC<|.p 60) cH) aK) (aW 7 (aA (aV b3) (aA bP bQ cH) aK)<|dA 4<|aA eV bQ cH) bM)<|bB (iG (aP<|aA (aV b3) cW b6)<|c7 dU) (dP<|eH fT aO<|aB dG aD)<|dP<|eH fT aO<|aB (bY<|aB (aH dG a8)<|aB (mC<|.jv "o") aD) aD)<|aM<|bY<|aB (aH aG a8)<|aB (aH aG aK)<|aB (bF qI aO) aD) [a7 a,a7 b,b0,b0,b0,b0,b0,b0] μ):=""
def ZX k a μ:f (k+1) "law" [a] μ=dr ((aL (l6 (lQ (f k "_law_go") aG r8<|aA bS aK<|aA bP (bL (f k "_law_cell") aG<|mC<|.p 13)<|mC<|.p 6)<|fY [1,2,3])<|aW 4 (nH "Folding" "sheet" (f k "Folding.sheet") b6 aD)<|aW 5 (bL (f k "_law_opened") bQ aG)<|aL (bB (aP<|aA (iJ b4) (bF (f k "round_of") cW)<|mC .kf) (aM<|mC<|.bl b3) bM)<|aW 6 (bF (f k "carried") cW)<|aL (bB (iG (kK<|c7<|bL lY dG<|mC<|.ty "list")<|aP<|aA (aV b4) (bF dS dG)<|bF dS<|aH bQ cH) (aM<|mC<|.bl b3) bM)<|aL (cV (wH<|aB dG<|aB (aH bQ cH)<|aB (aH cW cH) aD) (fY [7,8,9])<|aL (bB (iG (kK<|c7<|bL lY dU<|mC<|.ty "tuple")<|iG (aP<|aA (aV b4) (bF dS dU) cH)<|aP<|aA (aV b4) (aH dU a8)<|aH iC a8) (aM<|mC<|.bl b3) bM)<|bB (iG (kJ (aP<|aA (aV b4) (aH j4 aK)<|mC<|.jv "o")<|aP<|aA (aV b4) (aH dU aK)<|aH iC aK)<|aP<|aA (dB b4) (aH dU aK)<|cU<|aB (aH iC aK)<|aB (mC<|.jv "o") aD) (aM<|mC<|.bl b3) bM)<|aM<|mC<|.bl b4) [a7 a,b0,b0,b0,b0,b0,b0,b0,b0,b0] μ):=""
def ZY k a b c μ:f (k+1) "Folding.__init__" [a,b,c] μ=dr ((aL (dP<|bL (f k "check_size") aJ aO)<|aL (pW "Folding" "wide" aG aJ)<|aL (pW "Folding" "high" aG aO)<|pW "Folding" "states" aG<|cU<|aB (bL (f k "unfolded") aJ aO) aD) [a7 a,a7 b,a7 c] μ):=""
def ZZ k a b c d μ:f (k+1) "Folding.fold" [a,b,c,d] μ=dr ((aW 4 (aH (hX "Folding" "states" aG)<|fA aK)<|aL (dP<|bL (f k "check_fold") (aH bQ aK) aJ)<|aW 5 (gU (c7 aO) aK<|fA aK)<|dP<|eH fT (hX "Folding" "states" aG)<|aB (bY<|aB (lQ (f k "folded_layings") (aH bQ a8) aJ cW)<|aB (bI (f k "folded_piles")<|aB (aH bQ aK)<|aB aJ<|aB cW<|aB b6 aD) aD) aD) [a7 a,a7 b,a7 c,a7 d,b0,b0] μ):=""
def Z0 k a μ:f (k+1) "Folding.sheet" [a] μ=dr ((aW 1 (aH (hX "Folding" "states" aG)<|fA aK)<|aW 2 (bF qI<|gK (dR<|lQ (f k "creased_edges") (hX "Folding" "wide" aG) (hX "Folding" "high" aG)<|aH aJ a8) iW<|bY<|aB bQ<|aB (mC<|.jv "o") aD)<|aW 3 (lQ (f k "marks_by") (bY<|aB (hX "Folding" "wide" aG)<|aB (hX "Folding" "high" aG)<|aB aO aD) (aH aJ a8)<|aH aJ aK)<|aM<|bY<|aB (hX "Folding" "wide" aG)<|aB (hX "Folding" "high" aG)<|aB (bF qI b6) aD) [a7 a,b0,b0,b0] μ):=""
def Z1 k xs μ:f (k+1) "Folding" xs μ=f k "Folding.__init__" xs μ:=""
def lw{Q:jz}:W (cE (.p 2) (.p z) μ) Q↔Q ⟨.p<|2*z,μ⟩:=mN<|.Q (⋯,⋯)
def Ao{Q:jz}:W (cE (.p 4) (.p z) μ) Q↔Q ⟨.p<|4*z,μ⟩:=mN<|.Q (⋯,⋯)
def Ś{Q:jz}:W (bP (.p z) (.p 2) μ) Q↔Q ⟨.p<|z%2,μ⟩:=fF ⋯
def wZ{Q:jz}:W (bP (.p z) (.p 4) μ) Q↔Q ⟨.p<|z%4,μ⟩:=fF ⋯
def Z2:(2:am)<=Ò:=⋯
def iN:([a,b]:ab D).f<=Ò:=Z2
def Z3:(1:am)<=Ò:=⋯
def Ap:([a]:ab D).f<=Ò:=Z3
def Z4{Q:jz}:W (cE (.p z) (.p 4) μ) Q↔Q ⟨.p<|z*4,μ⟩:=mN<|.X (⋯,⋯)
def sR!:D->ae
 |.p i=>i|_=>0
def Z5(h:d∈oY lo n):∃j,j<n/\d=.p (lo+(j:ae)):=by unfold oY at h;let(j,h1,?r):=Ü.Z h;show(j,ŏ.Z h1,?r)
def Aq{C:MS}{Q:jz}(h:a c μ=a7 ⟨.nx,b,aw⟩)(k:W (dr<|C b aw) Q):W (dr<|aL a C c μ) Q:=by ext aL;rw[h];show k
def Ke(h:m a μ=a7 ⟨d,aw⟩):dA i m a μ=a7 ⟨.nx,a.xl i<|a7 d,aw⟩:=by ext dA;rw[h];rfl
def r9{o:af a}{r:a}{Q:a->Prop}(h:W o λx=>x=r):W o Q↔Q r:=by let(_,h,?r):=h;rw[h];show À
def Kf{o:af a}{r:a}(h:∀Q,W o Q↔Q r):o=a7 r:=by let(_,e,h1):=(h λx=>x=r).v ?r;rw[e,h1]
def Z6{ds:ab D}{Q:jz}(h:ms a μ=a7 ⟨ds,aw⟩)(k:W (g ds aw) Q):W (bI g ms a μ) Q:=by ext bI;rw[h];show k
def Z7{Q:jz}(h1:a d μ=a7 ⟨x,ic⟩)(e:b d ic=a7 ⟨y,c⟩)(k:W (g x y c) Q):W (aA g a b d μ) Q:=by ext aA;rw[h1,ě,e];show k
def Z8{Q:jz}(k:W (m a μ) Q):W (dr<|aM m a μ) Q:=å.v<|Ö.v<|bH k λ_ q=>q
def w4!(x y:ae):cf:=if x%2=1 then(if x%4=y%4 then "falling" else "rising")else if y%4=0 then "level" else "upright"
def Kg k x y μ(Q:jz):W (f (k+1) "line_of" [P x y] μ) Q↔Q ⟨.jv<|w4 x y,μ⟩:=by rw[YU,å];dsimp[Ì,Ö,Î,Ð,Ğ,Û,eI,bK,î,Ă,ċ,ü,fF<|show(0:ae)<2 by decide,fF<|show(0:ae)<4 by decide];ext w4;lk<;>lk<;>simp_all
def nR!(x y:ae)(a b:ae):ae:=if x%2=1 then(if x%4=y%4 then a-b else a+b)else if y%4=0 then b else a
def DF k x y a b μ(Q:jz):W (f (k+1) "number_by" [.jv<|w4 x y,P a b] μ) Q↔Q ⟨.p<|nR x y a b,μ⟩:=by show r9 ?_;rw[YZ];ext w4 nR;lk<;>lk<;>show(_,?r,?r)
def c9!(p e:ae×ae):ae×ae:=
 if e.1%2=1 then(if e.1%4=e.2%4 then⟨p.2+(e.1-e.2),p.1-(e.1-e.2)⟩else⟨e.1+e.2-p.2,e.1+e.2-p.1⟩)else if e.2%4=0 then⟨p.1,2*e.2-p.2⟩else⟨2*e.1-p.1,p.2⟩
def Kh k x y a b μ(Q:jz):W (f (k+2) "mirrored" [P x y,P a b] μ) Q↔Q ⟨PP<|c9 ⟨x,y⟩ ⟨a,b⟩,μ⟩:=by show r9 ?_;rw[Y3];show Aq ?r<|Aq ?r<|Aq (Ke<|Kf<|Kg k a b μ)<|Aq (Ke<|Kf<|DF k a b a b μ) ?_;unfold w4 nR c9;lk<;>lk<;>show(_,?r,?r)
def Z9 p a b:c9 (c9 p ⟨a,b⟩) ⟨a,b⟩=p:=by let(x,y):=p;ext c9;dsimp;lk<;>lk<;>(show ė ?_ ?_<;>dsimp<;>lia)
def fL!:D->ae×ae
 |.L [.p x,.p y]=>⟨x,y⟩|_=>⟨0,0⟩
def uE p(l:jq):((l.o PP).H λd=>p<|fL d).o (λd=>d)=(l.H p).o PP:=by
 rw[Pm];induction l with
 |fk=>rfl|bm a l b=>
  let e:(zc PP<|a::l).H (λd=>p<|fL d)=if p a then PP a::(l.o PP).H (λd=>p<|fL d)else(l.o PP).H λd=>p (fL d):=by rw[í,Pw];rfl
  rw[e,b,Pw];lk<;>rfl
def uF{l:jq}(h:d∈l.o PP):∃x y,d=P x y:=by let(p,_,?r):=Ü.Z h;show(p.1,p.2,?r)
def DG{n:am}{i:ae}(h0:0<=i)(h:i<n):oE n i=a7 i.zi:=by ext oE;rw[ad h0,ad h]
def Ki{a:ab ae}{i:ae}(h0:0<=i)(h:i<a.f):lv (a.o D.p) i=a7 (.p<|a.I i.zi 0):=by
 ext lv;rw[Ä,DG h0 h,ě,ĉ];let hi:i.zi<a.f:=()
 simp[į,hi]
def Kj{Q:jz}(h:lv xs i=a7 d):W (bE (.rol xs) (.p i) μ) Q↔Q ⟨d,μ⟩:=by
 have:bE (.rol xs) (.p i) μ=a7 ⟨d,μ⟩:=by dsimp[bE,kL,bW,ě,h,ĝ]
 rw[ah];show À
def nT!:ab ae->ae
 |[]=>0|g::r=>g-nT r
def a0a{Q:jz}(c:μ[b]?=a7 (.D [])):W (aV b3 (.rol<|ns.o D.p) (.z b) μ) Q↔Q ⟨.bl<|ns==[],μ⟩:=by
 let h1:kM μ (.rol<|ns.o D.p)=a7 (.D<|ns.o D.p):=?r;let a:kM μ (.z b)=a7 (.D<|([]:ab ae).o D.p):=by dsimp[kM,c];rfl
 have:eX 8 μ (.rol<|ns.o D.p) (.z b)=a7 (ns==[]):=by change(kM μ<|.rol<|ns.o D.p).U (λx=>(kM μ<|.z b).U λy=>vA (eX 7 μ) x y)=_;rw[h1,a];show JV 6 μ ns []
 ext aV;rw[ah];show À
def jI!(ns:ab ae)(i:ae):ae:=if i<ns.f then ns.I i.zi 0 else if ns=[]then i*i*48271%2147483647 else
 ((ns.I (i%ns.f).zi 0%2147483629+i*i*69623)*48271%2147483647)*((ns.I (i%ns.f).zi 0%2147483629+i*i*69623)*48271%2147483647)%2147483629
def a0b{i:ae}(hi:0<=i/\i<=100):0<=i*i/\i*i<=10000:=by show(RW hi.1 hi.1,?_);have:=RV hi.2 hi.2 hi.1 ⋯;lia
def fX{o:af α}{r:α}{Q:α->Prop}(h:o=a7 r)(q:Q r):W o Q:=(r,h,q)
def Ó{Q:jz}(e:o=dr a)(h:W a λp=>match p.1 with|.rt d=>Q ⟨d,p.2.2⟩|.nx=>Q ⟨.kf,p.2.2⟩|_=>ef):W o Q:=e▸å.v h
def bN{C:MS}(h:W (m ρ μ) λp=>W (C (ρ.xl i<|a7 p.1) p.2) R):W (aL (dA i m) C ρ μ) R:=Ì.v<|ò.v h
def iO{C:MS}(h:W (A ρ μ) λp=>p.1=.nx/\W (C p.2.1 p.2.2) R):W (aL A C ρ μ) R:=Ì.v<|bH h λp q=>by rw[q.1];show q.2
def Ar{C:MS}(h:W (m ρ μ) λp=>W (C ρ p.2) R):W (aL (dP m) C ρ μ) R:=Ì.v<|ï.v h
def cZ(h:W (m ρ μ) λp=>R ⟨.rt p.1,ρ,p.2⟩):W (aM m ρ μ) R:=Ö.v h
def aY{ds:ab D}{Q:jz}(h:ms ρ μ=a7 ⟨ds,aw⟩)(k:W (g ds aw) Q):W (bI g ms ρ μ) Q:=Ë.v (_,h,k)
def eP{Q:jz}(h:W (ms ρ μ) λp=>W (g p.1 p.2) Q):W (bI g ms ρ μ) Q:=Ë.v h
def aX(h:W (m ρ μ) λp=>W (ms ρ p.2) λq=>Q ⟨p.1::q.1,q.2⟩):W (aB m ms ρ μ) Q:=Å.v h
def Au{Q:jz}(h:W (m ρ μ) λp=>W (g [p.1] p.2) Q):W (bI g (aB m aD) ρ μ) Q:=Ë.v<|Å.v<|bH h λ_ q=>(_,?r,q)
def w5{C:MS}(h:t ρ μ=a7 ⟨b,aw⟩)(h1:b=b4->W (aL A C ρ aw) R)(a:b=b3->W (aL B C ρ aw) R):W (aL (bB t A B) C ρ μ) R:=by
 show Ì.v<|Ð.v (_,h,?_);ext b
 .show Ì.Z<|a ?r
 .show Ì.Z<|h1 ?r
def Kk{C:MS}(h:W (t ρ μ) λp=>p.1=b4/\W (aL A C ρ p.2) R):W (aL (bB t A B) C ρ μ) R:=Ì.v<|Ð.v<|bH h λp q=>by rw[ad q.1];show Ì.Z q.2
def uG{C:MS}(h:W (t ρ μ) λp=>p.1=b3/\W (aL B C ρ p.2) R):W (aL (bB t A B) C ρ μ) R:=Ì.v<|Ð.v<|bH h λp q=>by rw[ac<|by rw[q.1];show þ];show Ì.Z q.2
def w8(h:W (t ρ μ) λp=>T ⟨!p.1,p.2⟩):W (kK t ρ μ) T:=ω.v h
def j5(h:W (m ρ μ) λp=>p.1=.bl b/\T ⟨b,p.2⟩):W (c7 m ρ μ) T:=Ħ.v<|bH h λp (e,q)=>by rw[e];show ľ.v q
def w9{C:MS}(h:W (m ρ μ) λp=>R ⟨.rt p.1,ρ,p.2⟩):W (aL (aM m) C ρ μ) R:=Ì.v<|Ö.v h
def mQ{C:MS}(h:W (C ρ μ) R):W (aL bM C ρ μ) R:=Ì.v<|Î.v h
def eB(h:W (m ρ μ) λp=>∃b,p.1=.bl b/\T ⟨b,p.2⟩):W (aP m ρ μ) T:=î.v<|bH h λp (b,e,q)=>by rw[e];show q
def Av(h:W (s ρ μ) λp=>p.1=b3/\W (t ρ p.2) T):W (iG s t ρ μ) T:=Ŀ.v<|bH h λp q=>by rw[ac<|by rw[q.1];show þ];show q.2
def bG{Q:jz}(h1:a ρ μ=a7 ⟨x,ic⟩)(d:b ρ ic=a7 ⟨y,c⟩)(k:W (h x y c) Q):W (aA h a b ρ μ) Q:=Û.v (_,h1,_,d,k)
def bD{Q:jz}(k:W (a ρ μ) λp=>W (b ρ p.2) λq=>W (h p.1 q.1 q.2) Q):W (aA h a b ρ μ) Q:=Û.v k
def fM{o:af a}{r:a}:W o (λx=>x=r)->o=a7 r:=λ(_,e,q)=>e.u<|br a7 q
def o7 k ns i(hi:0<=i/\i<=100)(μ:Hm)(Q:jz)(H:∀aw,μ<+:aw->Q ⟨.p<|jI ns i,aw⟩):W (f (k+1) "_law_cell" [.rol<|ns.o D.p,.p i] μ) Q:=by
 let g:=a0b hi;show Ó (ZN k _ _ μ)<|w5 (b:=ag (i<ns.f)) (aw:=μ) (fM<|eB<|bD (_,?r,aY ?r<|϶.v<|ϊ.v (_,?r,by rw[Ä]))) (λh=>?_) λh=>mQ<|w5 (b:=ns==[]) (aw:=μ++[.D []]) (fM<|eB<|bG ?r ?r<|(a0a<|bT _ _).v (_,?r,?r)) (λh0=>?_) λh0=>mQ ?_
 .let h:=bi h;show w9<|bG ?r ?r<|(Kj<|Ki hi.1 h).v ?_;let e:jI ns i=ns.I i.zi 0:=by ext jI;rw[ad h]
  rw[<- e];show H _<|Ę _
 .let h:=og h;let e:jI ns i=i*i*48271%2147483647:=by ext jI;rw[ac h,ad<|by apply h0]
  show w9 (bD<|bD<|bG ?r ?r<|(mN<|.Q ()).v (_,?r,(mN<|.X ()).v (_,?r,(fF ⋯).v ?_)));rw[<- e];show H _<|aS _ _
 .let h:=og h;let h0:ns≠[]:=λz=>by rw[z]at h0;ext h0
  let d:0<ns.f:=TM.v h0;let a:0<=i%(ns.f:ae)/\i%(ns.f:ae)<ns.f:=(OD _ (),OJ _ ());let e:jI ns i=((ns.I (i%ns.f).zi 0%2147483629+i*i*69623)*48271%2147483647)*((ns.I (i%ns.f).zi 0%2147483629+i*i*69623)*48271%2147483647)%2147483629:=by ext jI;rw[ac h,ac h0]
  let b:aA bP (aC 1) (bI dS<|aB (aC 0) aD) [a7<|.rol<|ns.o D.p,a7<|.p i,b0] (μ++[.D []])=a7 ⟨.p<|i%ns.f,μ++[.D []]⟩:=fM (bD (_,?r,aY ?r<|϶.v<|by rw[Ä];show(fF ()).v ?r));show bN (bD<|bD<|bD<|bD<|bD (_,?r,_,b,(Kj<|Ki a.1 a.2).v (_,?r,(fF ⋯).v<|bD<|bG ?r ?r<|(mN<|.Q ()).v (_,?r,(mN<|.X ()).v<|è.v (_,?r,(mN<|.X ()).v (_,?r,(fF ⋯).v ?_))))));generalize hy:(ns.I (i%ns.f).zi 0%2147483629+i*i*69623)*48271%2147483647=y at e;let c:0<=y/\y<2147483647:=by rw[<- hy];show(OD _ ⋯,OJ _ ⋯)
  show cZ (bD<|bG ?r ?r<|(mN<|.Q ()).v (_,?r,(fF ⋯).v ?_));rw[<- e];show H _<|aS _ _
structure Ly where
 a:ae
 b:ae
 c:ae
 d:ae
 e:ae
 g:ae
 deriving kS
noncomputable abbrev LD(A:Ly):D:=.L [.p A.a,.p A.b,.p A.c,.p A.d,.p A.e,.p A.g]
def Ġ!(A:Ly):Prop:=(A.b=0/\A.c=0/\(A.a=1\/A.a=-1)/\(A.d=1\/A.d=-1))\/(A.a=0/\A.d=0/\(A.b=1\/A.b=-1)/\(A.c=1\/A.c=-1))
def Ġ.sm(h:Ġ A):(-1<=A.a/\A.a<=1)/\(-1<=A.b/\A.b<=1)/\(-1<=A.c/\A.c<=1)/\(-1<=A.d/\A.d<=1):=by
 let z:∀{x:ae},x=0->-1<=x/\x<=1:=λe=>e▸by decide
 let o:∀{x:ae},x=1\/x=-1->-1<=x/\x<=1:=λe=>by rcases e with e|e<;>ext e<;>decide
 show h.vl (λ(b,c,a,d)=>(o a,z b,z c,o d)) λ(a,d,b,c)=>(z a,o b,o c,z d)
def aF!(A:Ly)(p:ae×ae):ae×ae:=⟨A.a*p.1+A.b*p.2+A.e,A.c*p.1+A.d*p.2+A.g⟩
def c8!(A B:Ly):Ly:=(B.a*A.a+B.b*A.c,B.a*A.b+B.b*A.d,B.c*A.a+B.d*A.c,B.c*A.b+B.d*A.d,B.a*A.e+B.b*A.g+B.e,B.c*A.e+B.d*A.g+B.g)
def DH!(A:Ly):Ly:=(A.a,A.c,A.b,A.d,-(A.a*A.e+A.c*A.g),-(A.b*A.e+A.d*A.g))
def eJ!:Ly:=(1,0,0,1,0,0)
def fN!(e:ae×ae):Ly:=
 ((c9 ⟨1,0⟩ e).1-(c9 ⟨0,0⟩ e).1,(c9 ⟨0,1⟩ e).1-(c9 ⟨0,0⟩ e).1,(c9 ⟨1,0⟩ e).2-(c9 ⟨0,0⟩ e).2,(c9 ⟨0,1⟩ e).2-(c9 ⟨0,0⟩ e).2,(c9 ⟨0,0⟩ e).1,(c9 ⟨0,0⟩ e).2)
def eC!(A:Ly):ae:=A.a*A.d-A.b*A.c
def Ly.ext'{A:Ly}(h1:A.a=B.a)(a:A.b=B.b)(b:A.c=B.c)(c:A.d=B.d)(d:A.e=B.e)(e:A.g=B.g):A=B:=by ext A;ext B;simp_all
def Kl(a b d:ae):a+d-(b+d)=a-b:=()
def Km(a b d:ae):a-d-(b-d)=a-b:=()
def qM(a b d:ae):d-a-(d-b)=b-a:=()
def Kn e:Ġ (fN e):=by
 ext fN c9;lk<;>lk
 .show .X (Kl 0 0 _,Km 0 0 _,.Q<|Kl 1 0 _,.Q<|Km 1 0 _)
 .show .X (qM 0 0 _,qM 0 0 _,.X<|qM 1 0 _,.X<|qM 1 0 _)
 .show .Q (?r,qM 0 0 _,.Q ?r,.X<|qM 1 0 _)
 .show .Q (qM 0 0 _,?r,.X<|qM 1 0 _,.Q ?r)
def DI e:eC (fN e)=-1:=by
 let h:=Kn e;let(x,y):=e;unfold eC fN c9;dsimp;lk<;>lk<;>dsimp
 .rw[show(0:ae)+(x-y)-(0+(x-y))=0 by lia,show(1:ae)+(x-y)-(0+(x-y))=1 by lia,show(1:ae)-(x-y)-(0-(x-y))=1 by lia,show(0:ae)-(x-y)-(0-(x-y))=0 by lia];rfl
 .rw[show x+y-0-(x+y-0)=0 by lia,show x+y-1-(x+y-0)=-1 by lia];rfl
 .rw[show(1:ae)-0=1 by rfl,show 2*y-1-(2*y-0)=-1 by lia,show(0:ae)-0=0 by rfl,show 2*y-0-(2*y-0)=0 by lia];rfl
 .rw[show 2*x-1-(2*x-0)=-1 by lia,show(1:ae)-0=1 by rfl,show 2*x-0-(2*x-0)=0 by lia,show(0:ae)-0=0 by rfl];rfl
def kW e p:aF (fN e) p=c9 p e:=by
 let(x,y):=e;let(u,v):=p;unfold aF fN c9;dsimp;lk<;>lk<;>dsimp
 .rw[show(0:ae)+(x-y)-(0+(x-y))=0 by lia,show(1:ae)+(x-y)-(0+(x-y))=1 by lia,show(1:ae)-(x-y)-(0-(x-y))=1 by lia,show(0:ae)-(x-y)-(0-(x-y))=0 by lia];show ė ?_ ?_<;>dsimp<;>lia
 .rw[show x+y-0-(x+y-0)=0 by lia,show x+y-1-(x+y-0)=-1 by lia];show ė ?_ ?_<;>dsimp<;>lia
 .rw[show(1:ae)-0=1 by rfl,show 2*y-1-(2*y-0)=-1 by lia,show(0:ae)-0=0 by rfl,show 2*y-0-(2*y-0)=0 by lia];show ė ?_ ?_<;>dsimp<;>lia
 .rw[show 2*x-1-(2*x-0)=-1 by lia,show(1:ae)-0=1 by rfl,show 2*x-0-(2*x-0)=0 by lia,show(0:ae)-0=0 by rfl];show ė ?_ ?_<;>dsimp<;>lia
def j6 A B p:aF (c8 A B) p=aF B (aF A p):=by ext aF c8;show ė ?_ ?_<;>dsimp<;>grind
def Aw A B:eC (c8 A B)=eC A*eC B:=by ext eC c8;dsimp;grind
def a0c A:c8 A eJ=A:=by ext c8 eJ;show Ly.ext' (by dsimp;lia) (by dsimp;lia) (by dsimp;lia) (by dsimp;lia) (by dsimp;lia)<|by dsimp;lia
def Ko A:c8 eJ A=A:=by ext c8 eJ;show Ly.ext' (by dsimp;lia) (by dsimp;lia) (by dsimp;lia) (by dsimp;lia) (by dsimp;lia)<|by dsimp;lia
def Ax A B E:c8 (c8 A B) E=c8 A (c8 B E):=by ext c8;show Ly.ext' ?_ ?_ ?_ ?_ ?_ ?_<;>dsimp<;>grind
def Kq:Ġ eJ:=.Q (?r,?r,.Q ?r,.Q ?r)
def DJ(h:Ġ A):∃e g,A=(1,0,0,1,e,g)\/A=(1,0,0,-1,e,g)\/A=(-1,0,0,1,e,g)\/A=(-1,0,0,-1,e,g)\/A=(0,1,1,0,e,g)\/A=(0,1,-1,0,e,g)\/A=(0,-1,1,0,e,g)\/A=(0,-1,-1,0,e,g):=by
 let(a,b,c,d,e,g):=A;show(e,g,?_);rcases h with(h1|k|i|j)|(h1|k|i|j)<;>ext h1<;>ext k
 .rcases i with i|i<;>rcases j with j|j<;>ext i<;>ext j
  .show .Q ?r
  .show .X<|.Q ?r
  .show .X<|.X<|.Q ?r
  .show .X<|.X<|.X<|.Q ?r
 .rcases i with i|i<;>rcases j with j|j<;>ext i<;>ext j
  .show .X<|.X<|.X<|.X<|.Q ?r
  .show .X<|.X<|.X<|.X<|.X<|.Q ?r
  .show .X<|.X<|.X<|.X<|.X<|.X<|.Q ?r
  .show .X<|.X<|.X<|.X<|.X<|.X<|.X ?r
def qN(a:x=1\/x=-1)(b:y=1\/y=-1):x*y=1\/x*y=-1:=by rcases a with rfl|rfl<;>rcases b with rfl|rfl<;>decide
def qO{x:ae}(h:x=0\/y=0)(k:z=0\/t=0):x*y+z*t=0:=by rw[je.v h,je.v k];rfl
def Ay(k:z=0\/t=0)(h:x*y=1\/x*y=-1):x*y+z*t=1\/x*y+z*t=-1:=by rw[je.v k,zz];show h
def Az(k:x=0\/y=0)(h:z*t=1\/z*t=-1):x*y+z*t=1\/x*y+z*t=-1:=by rw[je.v k,RL];show h
def DK(hA:Ġ A)(hB:Ġ B):Ġ (c8 A B):=by
 rcases hA with(a|b|c|d)|(a|b|c|d)<;>rcases hB with(u|v|w|x)|(u|v|w|x)
 .show .Q (qO (.X a)<|.Q u,qO (.Q v)<|.X b,Ay (.Q u)<|qN w c,Az (.Q v)<|qN x d)
 .show .X (qO (.Q u)<|.X b,qO (.X a)<|.Q v,Az (.Q u)<|qN w d,Ay (.Q v)<|qN x c)
 .show .X (qO (.X a)<|.Q u,qO (.Q v)<|.X b,Ay (.Q u)<|qN w c,Az (.Q v)<|qN x d)
 .show .Q (qO (.Q u)<|.X b,qO (.X a)<|.Q v,Az (.Q u)<|qN w d,Ay (.Q v)<|qN x c)
def Kr(hA:Ġ A)p:aF (DH A) (aF A p)=p:=by let(e,g,h):=DJ hA;rcases h with rfl|rfl|rfl|rfl|rfl|rfl|rfl|rfl<;>(show ė ?_ ?_<;>dsimp only[aF,DH]<;>lia)
def DL(h:∀p,aF A p=aF B p):A=B:=by let h0:=h ⟨0,0⟩;let h1:=h ⟨1,0⟩;let a:=h ⟨0,1⟩;unfold aF at h0 h1 a;dsimp[Ph]at h0 h1 a;show Ly.ext' () () () () () ()
def xA p:aF eJ p=p:=by ext aF eJ;show ė ?_ ?_<;>dsimp<;>lia
def Ks k p q r μ(Q:jz):W (f (k+1) "laying_by" [PP p,PP q,PP r] μ) Q↔Q ⟨LD (q.1-p.1,r.1-p.1,q.2-p.2,r.2-p.2,p.1,p.2),μ⟩:=by rw[show f (k+1) "laying_by" [PP p,PP q,PP r] μ=a7 ⟨LD (q.1-p.1,r.1-p.1,q.2-p.2,r.2-p.2,p.1,p.2),μ⟩from(Zx k _ _ _ μ).u ""];show À
def DM{Q:jz}(h0:aC 0 c μ=a7 ⟨P x y,μ⟩)(H:Q ⟨PP<|c9 ⟨a,b⟩ ⟨x,y⟩,μ⟩):W (bI (f (k+2) "mirrored") (aB (bY<|aB (mC<|.p a)<|aB (mC<|.p b) aD)<|aB (aC 0) aD) c μ) Q:=
 eP<|aX<|ç.v (_,?r,iN,aX (_,h0,_,?r,(Kh k a b x y _ _).v H))
def a0d k x y μ(Q:jz):W (f (k+3) "mirror_in" [P x y] μ) Q↔Q ⟨LD<|fN ⟨x,y⟩,μ⟩:=
 r9 <|Ó (Zy (k+2) _ μ)<|cZ<|eP<|aX<|DM ?r<|aX<|DM ?r<|aX<|DM ?r (_,?r,(Ks (k+1) _ _ _ _ _).v ?r)
def qP(h:-1<=i/\i<=1){Q:jz}:W (cE (.p i) (.p j) μ) Q↔Q ⟨.p<|i*j,μ⟩:=mN<|.Q ((),())
def Kt{Q:jz}(h0:bE A (.p c0) μ=a7 ⟨.p a,μ⟩)(h1:bE A (.p g) μ=a7 ⟨.p b,μ⟩)(k:bE A (.p h) μ=a7 ⟨.p e,μ⟩)(d:aC n c μ=a7 ⟨A,μ⟩)(hi:aC i c μ=a7 ⟨.p x,μ⟩)(q:aC j c μ=a7 ⟨.p y,μ⟩)(o:-1<=a/\a<=1)(p:-1<=b/\b<=1)(H:Q ⟨.p<|a*x+b*y+e,μ⟩):
  W (aA bS (aA bS (aA cE (aA bE (aC n)<|mC<|.p c0)<|aC i)<|aA cE (aA bE (aC n)<|mC<|.p g)<|aC j) (aA bE (aC n)<|mC<|.p h) c μ) Q:=
 bD<|bD<|bD<|bG d ?r (_,h0,_,hi,(qP o).v<|bD<|bG d ?r (_,h1,_,q,(qP p).v<|è.v<|bG d ?r (_,k,è.v H)))
def DN k A(hA:Ġ A)x y μ(Q:jz):W (f (k+1) "led" [LD A,P x y] μ) Q↔Q ⟨PP<|aF A ⟨x,y⟩,μ⟩:=by
 let(h1,a,b,c):=hA.sm;show r9 <|
  Ó (Zz k _ _ μ)<|bN (_,?r,bN (_,?r,cZ<|ç.v<|aX<|Kt ?r ?r ?r ?r ?r ?r h1 a<|aX<|Kt ?r ?r ?r ?r ?r ?r b c (_,?r,iN,?r)))
def Ku(p q a b c d e g h:ae):p*(a*1+b*0+e)+q*(c*1+d*0+g)+h-(p*(a*0+b*0+e)+q*(c*0+d*0+g)+h)=p*a+q*c:=by grind
def Kv(p q a b c d e g h:ae):p*(a*0+b*1+e)+q*(c*0+d*1+g)+h-(p*(a*0+b*0+e)+q*(c*0+d*0+g)+h)=p*b+q*d:=by grind
def Kw(p q a b c d e g h:ae):p*(a*0+b*0+e)+q*(c*0+d*0+g)+h=p*e+q*g+h:=by grind
def DO(hA:Ġ A)(hB:Ġ B){Q:jz}(h0:aC 0 a μ=a7 ⟨LD A,μ⟩)(h1:aC 1 a μ=a7 ⟨LD B,μ⟩)(H:Q ⟨PP<|aF B<|aF A ⟨x,y⟩,μ⟩):W (bI (f (k+1) "led") (aB (aC 1)<|aB (bI (f (k+1) "led")<|aB (aC 0)<|aB (bY<|aB (mC<|.p x)<|aB (mC<|.p y) aD) aD) aD) a μ) Q:=
 eP<|aX (_,h1,aX<|eP<|aX (_,h0,aX<|ç.v (_,?r,iN,_,?r,(DN k A hA x y _ _).v (_,?r,(DN k B hB _ _ _ _).v H))))
def a0e k A B(hA:Ġ A)(hB:Ġ B)μ(Q:jz):W (f (k+2) "then" [LD A,LD B] μ) Q↔Q ⟨LD<|c8 A B,μ⟩:=
 r9 <|Ó (ZA (k+1) _ _ μ)<|cZ<|eP<|aX<|DO hA hB ?r ?r<|aX<|DO hA hB ?r ?r<|aX<|DO hA hB ?r ?r (_,?r,(Ks k _ _ _ _ _).v<|br (λz=>⟨LD z,μ⟩)<|Ly.ext' (Ku ..) (Kv ..) (Ku ..) (Kv ..) (Kw ..)<|Kw ..)
def a0f k A(hA:Ġ A)μ(Q:jz):W (f (k+1) "is_turned" [LD A] μ) Q↔Q ⟨.bl<|eC A==-1,μ⟩:=by let(h1,a,b,c):=hA.sm;rw[ZC,å];dsimp[Ö,Û,bK,eI,Ds,Yy,Yz,YA,YB,qP h1,qP a,ř,ü];rfl
def lR!(lo:ae)(n m:am):jq:=(Ĉ n).flatMap λ(i:am)=>(Ĉ m).o λ(j:am)=>⟨lo+(i:ae),lo+(j:ae)⟩
def mR!(lo x:ae)(m:am):jq:=(Ĉ m).o λ(j:am)=>⟨x,lo+(j:ae)⟩
def Ky lo n m:lR lo (n+1) m=lR lo n m++mR lo (lo+(n:ae)) m:=by ext lR mR;rw[OO,vy];simp
def Kz lo x m:mR lo x (m+1)=mR lo x m++[⟨x,lo+(m:ae)⟩]:=by ext mR;rw[OO,Ć];rfl
def KA lo x m:(mR lo x m).f=m:=by ext mR;simp
def KG lo m:∀n,(lR lo n m).f=n*m
 |0=>by simp[lR]
 |n+1=>by rw[Ky,ô,KG lo m n,KA,PM]
def KH{μ:Hm}:(μ.xl a c).xl a c'=μ.xl a c':=OE ..
def fG{μ:Hm}(h:μ[a]?=a7 c):(μ.xl a c')[a]?=a7 c':=by rw[Ŭ (ã.Z h).1]
def AA(μ:Hm)(c c':C):(μ++[c]).xl μ.f c'=μ++[c']:=by rw[Oe _ _<|Ô _];simp
def xB{μ:Hm}(h:μ[a]?=a7 c):μ.xl a c=μ:=by let(b,?r):=ã.Z h;show ab.set_getElem_self b
noncomputable abbrev KI:MS:=dP<|eH fT (aC 2)<|aB (bY<|aB (aC 3)<|aB (aC 4) aD) aD
def a0g T(b:ae->ae->av)d e a x(q:∀y μ Q,W (T [a7 d,a7 e,a7<|.z a,a7<|.p x,a7<|.p y] μ) Q↔Q ⟨b x y,μ⟩)lo m(ps:jq)(s:ps.f+m<=1000)μ(g:μ[a]?=a7 (.D<|ps.o PP))o Q(c:∀o,Q ⟨.nx,[a7 d,a7 e,a7<|.z a,a7<|.p x,o],μ.xl a<|.D<|(ps++(mR lo x m).H λp=>b p.1 p.2).o PP⟩):W (fQ (kN lo m) (dE 4) (bB T KI bM) (m+1) 0 [a7 d,a7 e,a7<|.z a,a7<|.p x,o] μ) Q:=by
 show Aj (λi k h=>i<=m/\h=μ.xl a (.D<|(ps++(mR lo x i).H λp=>b p.1 p.2).o PP)/\∃o,k=[a7 d,a7 e,a7<|.z a,a7<|.p x,o]) (Ŝ _,?_,o,?r) ?_ ?_
 .dsimp[mR,Sb,du,jg,Ĭ];show(xB g).R
 .rintro i k j hi (_|rfl|o|rfl);show(_,?r,?_);dsimp[Ũ,ŭ,Ð];rw[q];cases n:b x (lo+(i:ae))with
  |ai=>dsimp[Ī,cm,Î];show(hi,?_,_,?r);rw[Kz,ϣ];simp[n]|bt=>
   dsimp[cy,ï];show jZ ?_;dsimp[bK,cB];show(j0<|fG g,?_);dsimp[Å,cT,ç,bK,cB,iN,nr];show(oZ (fG g) ?_).v ?_
   .have:=ſ (λp=>b p.1 p.2)<|mR lo x i;rw[KA]at ah;rw[Ä,ô,õ];lia
   show(hi,?_,_,?r);rw[KH,Kz,ϣ];simp[n,PP,P]
 .rintro k j (_|rfl|o|rfl);show c o
def a0h T(d:ae->ae->av)b c a(s:MI)lo m(g:∀o1 o2 μ Q,W (s [a7 b,a7 c,a7<|.z a,o1,o2] μ) Q↔Q ⟨kN lo m,m+1,μ⟩)(u:∀x y μ Q,W (T [a7 b,a7 c,a7<|.z a,a7<|.p x,a7<|.p y] μ) Q↔Q ⟨d x y,μ⟩)n(w:n*m+m<=900)μ(q:μ[a]?=a7 (.D []))Q(e:∀o1 o2,Q ⟨.nx,[a7 b,a7 c,a7<|.z a,o1,o2],μ.xl a<|.D<|((lR lo n m).H λp=>d p.1 p.2).o PP⟩):W (fQ (kN lo n) (dE 3) (cV s (dE 4)<|bB T KI bM) (n+1) 0 [a7 b,a7 c,a7<|.z a,b0,b0] μ) Q:=by
 show Aj (λi k h=>i<=n/\h=μ.xl a (.D<|((lR lo i m).H λp=>d p.1 p.2).o PP)/\∃o1 o2,k=[a7 b,a7 c,a7<|.z a,o1,o2]) (Ŝ _,?_,b0,b0,?r) ?_ ?_
 .dsimp[lR,Sb,Sm,jg,du];show(xB q).R
 .rintro i k j hi (_|rfl|o1|o2|rfl);show(_,?r,?_);dsimp[Ũ,ŭ,Õ];rw[g];show a0g T d b c a _ (u _) lo m _ ?_ _ (fG q) _ _ λo=>?_
  .let h1:=ſ (λp=>d p.1 p.2)<|lR lo i m;rw[KG]at h1;let v:i*m<=n*m:=am.mul_le_mul_right _<|dq hi;lia
  .show(hi,?_,_,_,?r);rw[KH,Ky,ϣ]
 .rintro k j (_|rfl|o1|o2|rfl);show e o1 o2
def DP!(x y:ae):av:=(x%4==2&&y%2==1)||(x%2==1&&y%4==2)
def gO!(w h:ae):jq:=(lR 0 (4*w).zi (4*h).zi).H λp=>DP p.1 p.2
def a0i{w h:ae}(hw:1<=w/\w<=3)(d:1<=h/\h<=3):(4*w).zi*(4*h).zi+(4*h).zi<=900/\(4*w-1).zi*(4*h-1).zi+(4*h-1).zi<=900:=by
 let h1:(4*w).zi<=12:=()
 let a:(4*h).zi<=12:=()
 let b:=Pb h1 a;let c:(4*w-1).zi*(4*h-1).zi<=12*12:=Pb () ();lia
def a0j k w h(hw:1<=w/\w<=3)(a:1<=h/\h<=3)μ(Q:jz)(H:Q ⟨.z μ.f,μ++[.D<|(gO w h).o PP]⟩):W (f (k+1) "_law_quarters" [.p w,.p h] μ) Q:=by
 rw[ZO,å];dsimp[Ì,ò,ā,cT];show(Ŝ _,?_);dsimp[Ũ,ŭ,Õ];rw[Dt (j:=0)];dsimp[Å,cT,eI,Û,bK,cB,Ao];show((),?_);show a0h _ DP _ _ _ _ 0 (4*h).zi (λo1 o2 μ Q=>?_) (λx y μ Q=>?_) (4*w).zi (a0i hw a).1 _ (bT _ _) _ λo1 o2=>?_
 .rw[Dt (j:=0)];dsimp[Å,cT,eI,Û,bK,cB,Ao];show and_iff_right ()
 .dsimp[Ŀ,ĳ,î,Û,bK,cB,eI,Ś,wZ,ü,è];ext DP;cases x%4==2<;>cases y%2==1<;>cases x%2==1<;>cases y%4==2<;>simp
 .dsimp[Ö,bK,cB];rw[AA];show H
def a9!(p:ae×ae):ab ae:=[p.1,p.2]
def o8{es:jq}{i:am}(h:(es.o PP)[i]?=a7 d):∃p,es[i]?=a7 p/\d=PP p:=by rw[ĉ]at h;let(p,h1,a):=Ľ.Z h;show(p,h1,a.R)
def dW q:d7 (PP q)=a7 (a9 q):=?r
def AB(nd:(l.o (·.1)).J)(h:⟨k,d⟩∈l):bC l k=a7 d:=by
 induction l with
 |fk=>ext h|bm p l a=>
  rw[í,ŧ]at nd;ext bC;rw[Ε];rcases ē.Z h with h|h
  .rw[<- h];simp
  .have:ag (p.1=k)=ai:=ba λz=>nd.1<|Ü.v (_,h,z.R);rw[ah];show a nd.2 h
def j7(h:a9 p=a9 q):p=q:=by unfold a9 at h;injection h with h1 h2;injection h2 with h2;show ė h1 h2
def a0k:W (fY [i1,i2,i3,h,i,j] (.L [a,b,c,d,e,g]) k μ) Q↔Q ((((((k.xl i1<|a7 a).xl i2<|a7 b).xl i3<|a7 c).xl h<|a7 d).xl i<|a7 e).xl j<|a7 g):=À
noncomputable abbrev Gr:=ab<|(ae×ae)×jq
noncomputable abbrev Zr:=ab<|(ae×ae)×jq×am
def GZ!(Z:Zr):Gr:=Z.o λz=>⟨z.1,z.2.1⟩
def bA!(Z:Zr):jx:=Z.o λz=>⟨a9 z.1,D.z z.2.2⟩
def AD(d:(Z.o (·.1)).J)(h:z∈Z):bC (bA Z) (a9 z.1)=a7 (.z z.2.2):=by
 show AB ?_<|Ü.v (z,h,?r);let e:(bA Z).o (·.1)=(Z.o (·.1)).o a9:=by ext bA;rw[æ,æ];rfl
 rw[e];show vq _ (λa b c x=>c<|j7 x) d
def DQ(h:p∉Z.o (·.1)):bC (bA Z) (a9 p)=bp:=by
 ext bC;rw[fc.v]
 .rfl
 .intro x a;let(z,b,?r):=Ü.Z a;rw[cx];show λe=>h<|Ü.v (z,b,j7 e)
def KJ{Z:Zr}(h:p∈Z.o (·.1)):∃z∈Z,z.1=p:=by let(z,h1,a):=Ü.Z h;show(z,h1,a)
def mS Z:(GZ Z).o (·.1)=Z.o (·.1):=by ext GZ;rw[æ];rfl
def a0l(h:p∉Z.o (·.1)):cK (bA Z) (a9 p) (.z b)=bA (Z++[⟨p,qs,b⟩]):=by ext cK;rw[DQ h,ac ∅];ext bA;rw[Ć];rfl
def a0m(h:p∈Z.o (·.1))(d:(Z.o (·.1)).J):cK (bA Z) (a9 p) (.z b)=bA (Z.o λy=>if y.1=p then⟨y.1,qs,b⟩else y):=by
 let(z,c,e):=KJ h;ext cK;rw[<- e,AD d c,af.isSome_some,ad ?r];ext bA;rw[æ,æ];show Φ λy x=>?_;change(if a9 y.1=a9 z.1 then⟨a9 y.1,D.z b⟩else⟨a9 y.1,D.z y.2.2⟩)=⟨a9 (if y.1=z.1 then⟨y.1,qs,b⟩else y).1,D.z (if y.1=z.1 then⟨y.1,qs,b⟩else y).2.2⟩;by_cases a:y.1=z.1
 .rw[ad<|by rw[a],ad a]
 .rw[ac λw=>a<|j7 w,ac a]
def a0n{ay:jx}{Q:jz}(h:μ[a]?=a7 (.dT ay))(h1:ay≠[]/\(ay.o λp=>Tb.hashT p.1).J):W (t8 [.z a] μ) Q↔Q ⟨.z μ.f,μ++[.dT ay]⟩:=by dsimp[t8,h];rw[ad h1.2];show À
def DR{f:D->ab D->Hm->jk}{Q:jz}(h:W (b a μ) λp=>qC p.2 p.1=b4/\W (ms a p.2) λq=>W (f p.1 q.1 q.2) Q):W (fW f b ms a μ) Q:=by ext fW;rw[Ã];show bH h λp q=>?_;rw[q.1];show Ã.v q.2
def DS{ay:jx}(h:μ[a]?=a7 (.dT ay)):qC μ (.z a)=bt:=by dsimp[qC,h]
def a0o{ds:ab D}{Q:jz}(hA:μ[A]?=a7 (.D ds))(hB:μ[B]?=a7 (.D [])):W (aV b3 (.z A) (.z B) μ) Q↔Q ⟨.bl ds.qk,μ⟩:=by
 let a:∀{x:am}{xs:ab D},μ[x]?=a7 (.D xs)->kM μ (.z x)=a7 (.D xs):=λh=>by dsimp[kM,h]
 let e:eX 8 μ (.z A) (.z B)=a7 ds.qk:=by change(kM μ<|.z A).U (λu=>(kM μ<|.z B).U λv=>vA (eX 7 μ) u v)=_;rw[a hA,a hB];change lW (eX 7 μ) ds []=_;ext ds<;>rfl
 ext aV;rw[e];show À
def AE Z:(bA Z).f=Z.f:=Ä ..
def sC Z:(GZ Z).f=Z.f:=Ä ..
def bR!(k:ae)(p:ae×ae):ae:=if k=0 then p.2 else if k=1 then p.1 else if k=2 then p.1-p.2 else p.1+p.2
def aZ!(k n:ae):Ly:=if k=0 then(1,0,0,-1,0,2*n)else if k=1 then(-1,0,0,1,2*n,0)else if k=2 then(0,1,1,0,n,-n)else(0,-1,-1,0,n,n)
def xC k n:Ġ (aZ k n):=by
 ext aZ;lk
 .show .Q (?r,?r,.Q ?r,.X ?r)
 lk
 .show .Q (?r,?r,.X ?r,.Q ?r)
 lk
 .show .X (?r,?r,.Q ?r,.Q ?r)
 .show .X (?r,?r,.X ?r,.X ?r)
def DT k n p:aF (aZ k n) (aF (aZ k n) p)=p:=by
 let(x,y):=p;ext aZ aF;lk
 .show ė ?_ ?_<;>dsimp<;>lia
 lk
 .show ė ?_ ?_<;>dsimp<;>lia
 lk
 .show ė ?_ ?_<;>dsimp<;>lia
 .show ė ?_ ?_<;>dsimp<;>lia
def b8!(G:Gr)(p:ae×ae):jq:=match G.find? (λg=>ag<|g.1=p)with|bb g=>g.2|bp=>[]
def j8!(G:Gr)(p:ae×ae)(L:jq):Gr:=if(G.o (·.1)).zo p then G.o (λg=>if g.1=p then⟨g.1,L⟩else g)else G++[⟨p,L⟩]
def DU p:b8 [] p=[]:=?r
def jJ g(G:Gr)p:b8 (g::G) p=if g.1=p then g.2 else b8 G p:=by
 ext b8;rw[Ε];by_cases e:g.1=p
 .rw[ad e,cc e]
 .rw[ac e,ba e]
def kX(a:(G.o (·.1)).J)(h:g∈G):b8 G g.1=g.2:=by
 induction G with
 |fk=>ext h|bm x G b=>
  rw[í,ŧ]at a;rw[jJ];rcases ē.Z h with rfl|h
  .show ad ?r
  .rw[ac λe:x.1=g.1=>a.1<|by rw[e];show Ü.v (g,h,?r),b a.2 h]
def sD(h:p∉G.o (·.1)):b8 G p=[]:=by
 induction G with
 |fk=>rfl|bm x G a=>rw[í,ē,oi]at h;rw[jJ,ac λe=>h.1 e.R,a h.2]
def KL(h:p∉G.o (·.1)):b8 (G++K) p=b8 K p:=by
 induction G with
 |fk=>rfl|bm x G a=>rw[í,ē,oi]at h;rw[Ź,jJ,ac λe=>h.1 e.R,a h.2]
def Β(h:p∈G.o (·.1)):b8 (G++K) p=b8 G p:=by
 induction G with
 |fk=>ext h|bm x G a=>
  rw[Ź,jJ,jJ];by_cases e:x.1=p
  .rw[ad e,ad e]
  .rw[ac e,ac e];rw[í,ē]at h;show a<|h.kb λw=>e w.R
def KN G p L:(j8 G p L).o (·.1)=if(G.o (·.1)).zo p then G.o (·.1)else G.o (·.1)++[p]:=by
 ext j8;lk
 .rw[æ];show Φ λg x=>?_;change(if g.1=p then⟨g.1,L⟩else g).1=g.1;lk<;>rfl
 .rw[Ć];rfl
open _root_ in
def a0p(a:(G.o (·.1)).J):((j8 G p L).o (·.1)).J:=by
 rw[KN];lk
 .show a
 .rename_i h;rw[fB];show(a,∅,λx b y c e=>h<|ϡ.v<|by rw[ġ.Z c]at e;show e▸b)
open _root_ in
def ϸ:q∈(j8 G p L).o (·.1)↔q∈G.o (·.1)\/q=p:=by
 rw[KN];lk
 .rename_i h;show(.Q,λz=>z.vl id λe=>e▸ϡ.Z h)
 .rw[Ĺ,ġ]
open _root_ in
def DV G p q L:b8 (j8 G p L) q=if q=p then L else b8 G q:=by
 ext j8;lk
 .rename_i h;let h:=ϡ.Z h;induction G with
  |fk=>ext h|bm x G d=>
   rw[í,jJ,jJ];by_cases e:x.1=p
   .rw[ad e];by_cases a:q=p
    .rw[ad a,ad<|by rw[e,a]]
    .rw[ac a,ac<|by change ¬ x.1=q;rw[e];show λw=>a w.R,ac<|by rw[e];show λw=>a w.R];by_cases b:p∈G.o (·.1)
     .rw[d (ϡ.v b) b,ac a]
     .have:(G.o λg=>if g.1=p then⟨g.1,L⟩else g)=G:=by let w:(G.o λg=>if g.1=p then⟨g.1,L⟩else g)=G.o id:=Φ λg i=>ac λe=>b<|Ü.v (g,i,e);rw[w,RM]
      rw[ah]
   .rw[ac e];rw[í,ē]at h;let c:=h.kb λw=>e w.R;rw[d (ϡ.v c) c];by_cases a:x.1=q
    .rw[ad a,ad a,ac<|by rw[<- a];show e]
    .rw[ac a,ac a]
 .rename_i h;let h:p∉G.o (·.1):=λz=>h<|ϡ.v z;by_cases e:q=p
  .rw[ad e,e,KL h,jJ,ad ?r]
  .rw[ac e];by_cases b:q∈G.o (·.1)
   .show Β b
   .rw[KL b,jJ,ac λw=>e w.R,DU,sD b]
def a0q(h:b8 G p≠[]):p∈G.o (·.1):=b2x λz=>h<|sD z
structure Ň(qs:jq)(f:ae×ae->ae×ae)(G:Gr):Prop where
 kd:(G.o (·.1)).J
 ne:∀g∈G,g.2≠[]
 pm:∀p,(b8 G p).Perm (qs.H λq=>ag<|f q=p)
def Ň.key{f:ae×ae->ae×ae}(h:Ň qs f G):p∈G.o (·.1)↔∃q∈qs,f q=p:=by
 constructor
 .intro c;let(g,b,?r):=Ü.Z c;let h1:=h.pm g.1;rw[kX h.kd b]at h1;let(q,a):=TV _<|h.ne g b;have:=Ĥ.Z<|h1.mem_iff.Z a;show(q,ah.1,bi ah.2)
 .rintro(q|a|rfl);show a0q λe=>?_;let h1:=h.pm<|f q;rw[e]at h1;have:q∈([]:jq):=h1.mem_iff.v<|Ĥ.v (a,cc ?r);ext ah
def KO{g:Type}a b(hd:∀x,a x=b4->b x=b3):∀l:ab g,(l.H λx=>a x||b x).Perm (l.H a++l.H b)
 |[]=>.kk|x::l=>by
  let e:=KO a b hd l;cases c:a x with
  |bt=>rw[bu<|by simp[c],bu c,J5<|by simp[hd x c]];show e.zv x|ai=>
   cases d:b x with
   |bt=>rw[bu<|by simp[d],J5<|by simp[c],bu d];show(e.zv x).u ab.perm_middle.R|ai=>rw[J5<|by simp[c,d],J5<|by simp[c],J5<|by simp[d]];show e
def iZ!(mv:ae×ae->av)(G:Gr):Gr:=G.H λg=>!mv g.1
def fP!(mv:ae×ae->av)(M:ae×ae->ae×ae)(G:Gr):Gr:=(G.H λg=>mv g.1).o λg=>⟨M g.1,g.2.zd⟩
def eD!(a:av)(S:Gr)(g:(ae×ae)×jq):Gr:=j8 S g.1<|if a then b8 S g.1++g.2 else g.2++b8 S g.1
def mT!(mv:ae×ae->av)(M:ae×ae->ae×ae)(a:av)(G:Gr):Gr:=(fP mv M G).foldl (eD a)<|iZ mv G
def DW p:∀G,b8 (iZ mv G) p=if mv p then[]else b8 G p
 |[]=>by cases mv p<;>rfl
 |g::G=>by
  let a:=DW (mv:=mv) p G;unfold iZ at a ⊢;rw[jJ];cases h:mv g.1 with
  |bt=>
   rw[J5<|by simp[h],a];by_cases e:g.1=p
   .rw[<- e,h];rfl
   .rw[ac e]
  |ai=>
   rw[bu<|by simp[h],jJ];by_cases e:g.1=p
   .rw[ad e,ad e,<- e,h];rfl
   .rw[ac e,ac e,a]
def DX(a:∀p,M (M p)=p)p:∀G,b8 (fP mv M G) p=if mv (M p)then(b8 G<|M p).zd else[]
 |[]=>by cases mv (M p)<;>rfl
 |g::G=>by
  let b:=DX (mv:=mv) a p G;unfold fP at b ⊢;rw[jJ];let hi:M g.1=p↔g.1=M p:=(λe=>by rw[<- e,a],λe=>by rw[e,a]);cases h:mv g.1 with
  |bt=>
   rw[bu<|by simp[h],í,jJ];by_cases e:g.1=M p
   .rw[ad<|hi.v e,ad e,<- e,h];rfl
   .rw[ac λw=>e<|hi.Z w,ac e,b]
  |ai=>
   rw[J5<|by simp[h],b];by_cases e:g.1=M p
   .rw[<- e,h];rfl
   .rw[ac e]
open _root_ in
def KP a:∀(K S:Gr),(K.o (·.1)).J->(S.o (·.1)).J->(∀g∈S,g.2≠[])->(∀g∈K,g.2≠[])->
  ((K.foldl (eD a) S).o (·.1)).J/\(∀g∈K.foldl (eD a) S,g.2≠[])/\∀p,(b8 (K.foldl (eD a) S) p).Perm (b8 S p++b8 K p)
 |[],S,_,hs,ns,_=>(hs,ns,λp=>by rw[DU,Ĭ];show .ki _)|g::K,S,hk,hs,ns,nk=>by
  rw[í,ŧ]at hk;rw[N7];let b:((eD a S g).o (·.1)).J:=a0p hs;let i:∀x∈eD a S g,x.2≠[]:=λx c=>by
   let e:b8 (eD a S g) x.1=x.2:=kX b c;rw[<- e];ext eD;rw[DV];let k:=nk g<|ŗ ..;lk
   .ext a
    .show λw=>k (To.Z w).1
    .show λw=>k (To.Z w).2
   .rename_i d;have:x.1∈(eD a S g).o (·.1):=Ü.v (x,c,?r);rcases ϸ.Z ah with h|h
    .let(y,j,n):=Ü.Z h;rw[<- n,kX hs j];show ns y j
    .show cb h d
  let(h1,o,q):=KP a K (eD a S g) hk.2 b i λx c=>nk x<|ķ _ c;show(h1,o,λp=>(q p).u ?_);rw[jJ];ext eD;rw[DV];by_cases e:p=g.1
  .rw[ad e,ad e.R,e,sD hk.1,Ĭ];ext a
   .show ab.perm_append_comm
   .show .ki _
  .rw[ac e,ac λw=>e w.R]
def a0r{f:ae×ae->ae×ae}(h:Ň qs f G){mv:ae×ae->av}(d:∀p,M (M p)=p)c:
  Ň qs (λq=>if mv (f q)then M (f q)else f q) (mT mv M c G):=by
 let j:∀(l:ab ((ae×ae)×jq)),l.Sublist G->(l.o (·.1)).J:=λl x=>(x.o _).nodup h.kd;let s:((fP mv M G).o (·.1)).J:=by
  let e:(fP mv M G).o (·.1)=((G.H λg=>mv g.1).o (·.1)).o M:=by ext fP;rw[æ,æ];rfl
  rw[e];show vq _ (λa b k w=>k<|by rw[<- d a,w,d])<|j _ fj
 let(h1,u,v):=KP c (fP mv M G) (iZ mv G) s (j _ fj) (λg n=>h.ne g (Ĥ.Z n).1) λg n=>by
  let(y,z,?r):=Ü.Z n;show λw=>h.ne y (Ĥ.Z z).1<|ab.reverse_eq_nil_iff.Z w
 show(h1,u,λp=>(v p).u ?_);rw[DW,DX d];let e:(qs.H λq=>ag<|(if mv (f q)then M (f q)else f q)=p)=qs.H λq=>(!mv (f q)&&ag (f q=p))||(mv (f q)&&ag (f q=M p)):=by
  congr 1;funext q;let hi:M (f q)=p↔f q=M p:=(λe=>by rw[<- e,d],λe=>by rw[e,d]);cases mv (f q)with
  |bt=>simp[hi]|ai=>simp
 rw[e];show ab.Perm.u ?_ (KO _ _ (λq o=>?_) qs).R
 .show ab.Perm.append ?_ ?_
  .cases i:mv p with
   |bt=>rw[ad ?r,NJ.v];intro q _ w;rw[â]at w;let e:=bi w.2;rw[e,i]at w;show þ w.1|ai=>
    rw[ac þ];have:(qs.H λq=>!mv (f q)&&ag (f q=p))=qs.H λq=>ag (f q=p):=by
     congr 1;funext q;by_cases e:f q=p
     .simp[e,i]
     .simp[e]
    rw[ah];show h.pm p
  .cases i:mv (M p)with
   |bt=>
    rw[ad ?r];have:(qs.H λq=>mv (f q)&&ag (f q=M p))=qs.H λq=>ag (f q=M p):=by
     congr 1;funext q;by_cases e:f q=M p
     .simp[e,i]
     .simp[e]
    rw[ah];show(ab.reverse_perm _).u<|h.pm<|M p
   |ai=>rw[ac þ,NJ.v];intro q _ w;rw[â]at w;let e:=bi w.2;rw[e,i]at w;show þ w.1
 .rw[â]at o;dsimp[OS]at o;rw[o.1];rfl
def a0s(a:0<=u/\u<4):lv [D.p p.2,.p p.1,.p<|p.1-p.2,.p<|p.1+p.2] u=a7 (.p<|bR u p):=by
 have:u=0\/u=1\/u=2\/u=3:=()
 rcases ah with rfl|rfl|rfl|rfl<;>rfl
def mF{Q:jz}:W (aV b3 (.bl x) (.bl y) μ) Q↔Q ⟨.bl<|x==y,μ⟩:=À
def gY(h:1<=w/\w<=3):w∈[(1:ae),2,3]:=by
 have:w=1\/w=2\/w=3:=()
 rcases ah with rfl|rfl|rfl<;>decide
def Dc!(μ:Hm)(a:am)(ay:jx):Prop:=μ[a]?=a7 (.dT ay)\/μ[a]?=a7 (.dF ay)
def uH{Q:jz}(h:Dc μ a ay)(b:d7 y=a7 k)(c:bC ay k=a7 d):W (bE (.z a) y μ) Q↔Q ⟨d,μ⟩:=by
 have:bE (.z a) y μ=a7 ⟨d,μ⟩:=by rcases h with h|h<;>dsimp[bE,h,b,ě,c,ĝ]
 rw[ah];show À
structure HI(μ:Hm)(a:am)(Z:Zr):Prop where
 dic:Dc μ a<|bA Z
 kd:(Z.o (·.1)).J
 kD:∀z∈Z,μ[z.2.2]?=a7 (.D<|z.2.1.o PP)
def Dc.more{aw:Hm}(I:Dc μ a ay)(h:μ<+:aw):Dc aw a ay:=I.vl (λe=>.Q<|aI h e) λe=>.X<|aI h e
def HI.more{aw:Hm}(I:HI μ a Z)(h:μ<+:aw):HI aw a Z:=(I.dic.more h,I.kd,λz hz=>aI h<|I.at_ z hz)
def HI.ne(I:HI μ a Z)(h:Dc μ b ay)(hz:z∈Z):z.2.2≠b:=λe=>by let h1:=I.at_ z hz;rw[e]at h1;rcases h with h|h<;>(rw[h]at h1;ext h1)
def HI.frz{ay:jx}(I:HI μ a Z)(h:μ[b]?=a7 (.dT ay)):HI (μ.xl b<|.dF ay) a Z:=by
 show(?_,I.kd,λz c=>by rw[ć<|ì<|I.ne (.Q h) c];show I.at_ z c);by_cases e:b=a
 .subst e;have:ay=bA Z:=by
   rcases I.dic with w|w
   .rw[h]at w;injection w with w;injection w
   .rw[h]at w;ext w
  rw[<- ah];show .X<|fG h
 .ext Dc;rw[ć e];show I.dic
def AF{μ ic:Hm}{ay:jx}(hc:μ[a]?=a7 (.dT ay))(h:μ.xl a (.dF ay)<+:ic):μ<+:ic.xl a (.dT ay):=by let(t,?r):=h;let b:a<μ.f:=(ã.Z hc).1;rw[Od _ _<|by rw[ĸ];show b,OE,xB hc];show OL _ _
def a0t{n:am}(h:(bA Z)[n]?=a7 ⟨k,d⟩):∃z∈Z,Z[n]?=a7 z/\k=a9 z.1/\d=.z z.2.2:=by unfold bA at h;rw[ĉ]at h;let(z,h1,a):=Ľ.Z h;ext a;show(z,œ h1,h1,?r,?r)
def iP{a:Type}{l:ab a}{x:a}(h:l[n]?=a7 x):l.ze (n+1)=l.ze n++[x]:=by rw[ab.take_add_one,h];rfl
def sE{c:Type}{l:ab c}(nd:l.J){x:c}(h:l[n]?=a7 x):x∉l.ze n:=λg=>by
 let(j,a):=NI.Z g;let b:j<n:=by have:=(ã.Z a).1;rw[ţ]at ah;lia
 rw[Tt b]at a;let i:n<l.f:=(ã.Z h).1;let d:=(ã.Z a).2;let e:=(ã.Z h).2;show cb ((Px nd).Z<|d.u e.R) ()
def KQ{a:Type}:∀xs:ab a,(Ĉ xs.f).vv (λi=>xs[i]?)=xs
 |[]=>?r|x::xs=>by rw[ĩ,Qr,bh,ab.filterMap_map];change x::(Ĉ xs.f).vv (λi=>(x::xs)[i+1]?)=x::xs;dsimp[Ts];rw[KQ xs]
noncomputable abbrev bU(v:ae×ae->D)(ps:jq):jx:=ps.o λp=>⟨a9 p,v p⟩
def sF(nd:ps.J)(h:p∈ps):bC (bU v ps) (a9 p)=a7 (v p):=by show AB ?_<|Ü.v (p,h,?r);rw[æ];show vq _ (λa b c x=>c<|j7 x) nd
def KR(h:p∉ps):bC (bU v ps) (a9 p)=bp:=by
 ext bC;rw[fc.v]
 .rfl
 .intro x a;let(z,b,?r):=Ü.Z a;rw[cx];show λe=>h<|j7 e▸b
def KS(h:p∉ps):cK (bU v ps) (a9 p) (v p)=bU v (ps++[p]):=by ext cK;rw[KR h,ac ∅];change _=zc _ _;rw[Ć];rfl
def KU(h:bC K k=b0):cK K k d=K++[⟨k,d⟩]:=by ext cK;rw[h,ac ∅]
def aU!(u n:ae)(a:av)(p:ae×ae):av:=ag (n<bR u p)==a
def cQ!(u n:ae)(a:av)(F:ae×ae->Ly)(q:ae×ae):Ly:=if aU u n a (aF (F q) q)then c8 (F q) (aZ u n)else F q
def KW(b:∀q,Ġ (F q))q:Ġ (cQ u n a F q):=by
 ext cQ;lk
 .show DK (b q)<|xC u n
 .show b q
def KY u n a F q:aF (cQ u n a F q) q=if aU u n a (aF (F q) q)then aF (aZ u n) (aF (F q) q)else aF (F q) q:=by
 ext cQ;lk
 .rw[j6]
 .rfl
def a0u(h:p∉G.o (·.1)):j8 G p L=G++[⟨p,L⟩]:=by ext j8;rw[ac λw=>h<|ϡ.Z w]
def a0v mv M G g:fP mv M (G++[g])=if mv g.1 then fP mv M G++[⟨M g.1,g.2.zd⟩]else fP mv M G:=by ext fP;rw[ϣ,Ć];cases h:mv g.1<;>simp[h]
def KZ{c:Type} [kS c]:∀{l m:ab c},l.J->(∀x∈l,x∈m)->l.f<=m.f
 |[],_,_,_=>Ŝ _|x::l,m,h,hs=>by rw[ŧ]at h;let a:=hs x<|ŗ ..;let d:=KZ (l:=l) (m:=m.erase x) h.2 λy b=>(ab.mem_erase_of_ne λe:y=x=>h.1<|e▸b).v<|hs y<|ķ _ b;rw[ab.length_erase_of_mem a]at d;have:=ab.length_pos_of_mem a;rw[ĩ];lia
def Ň.len(P:Ň qs g G):G.f<=qs.f/\∀x∈G,x.2.f<=qs.f:=by
 constructor
 .have:=KZ P.kd (m:=qs.o g) λp a=>by let(q,b,e):=P.key.Z a;show Ü.v (q,b,e)
  rw[Ä,Ä]at ah;show ah
 .intro x c;have:=(P.pm x.1).length_eq;rw[kX P.kd c]at ah;rw[ah];show ſ _ _
def Ň.lenZ(P:Ň qs g (GZ Z)):Z.f<=qs.f/\∀z∈Z,1<=z.2.1.f/\z.2.1.f<=qs.f:=by let(h1,b):=P.len;unfold GZ at h1;rw[Ä]at h1;show(h1,λz c=>?_);let a:⟨z.1,z.2.1⟩∈GZ Z:=Ü.v (z,c,?r);show(TM.v<|P.ne _ a,b _ a)
def K0{a:Type}[kS a]:∀{l:ab a},l.J->∀{p},p∈l->(l.H λq=>ag<|q=p)=[p]
 |[],_,_,h=>by ext h
 |x::l,nd,p,h=>by
  rw[ŧ]at nd;by_cases e:x=p
  .subst e;rw[bu ∅,NJ.v];intro y b w;show nd.1<|bi w▸b
  .rw[J5<|by simp[e]];show K0 nd.2<|(ē.Z h).kb λw=>e w.R
def kY!(qs:jq):Gr:=qs.o λq=>⟨q,[q]⟩
def DY qs:(kY qs).o (·.1)=qs:=by ext kY;rw[æ];show RM _
def a0w(nd:qs.J):Ň qs (λq=>aF eJ q) (kY qs):=by
 let a:((kY qs).o (·.1)).J:=by rw[DY];show nd
 show(a,λg b=>?_,λp=>?_)
 .let(q,_,?r):=Ü.Z b;simp
 .let e:(λq=>ag<|aF eJ q=p)=λq=>ag (q=p):=m4 λq=>by rw[xA]
  rw[e];by_cases h:p∈qs
  .have:=kX a (g:=⟨p,[p]⟩)<|Ü.v (p,h,?r);rw[ah,K0 nd h]
  .rw[sD<|by rw[DY];show h,NJ.v];intro q c w;show h<|bi w▸c
def mV!(n:ae):ae:=if 0<n then 1 else if n<0 then -1 else 0
def a0x n μ b o1 o2:W (aL (bB (aP<|aA nD (aC 3)<|mC<|.p 0) (aM<|mC<|.p 1) bM) (aM<|gU (aP<|aA nC (aC 3)<|mC<|.p 0) (fA<|mC<|.p 1)<|mC<|.p 0) [b,o1,o2,a7<|.p n] μ) λr=>r=⟨.rt<|.p<|if 0<n then 1 else if n<0 then -1 else 0,[b,o1,o2,a7<|.p n],μ⟩:=by
 by_cases h1:0<n
 .rw[ad h1];show Kk<|eB<|bG ?r ?r<|Α.v (_,?r,cc h1,Ì.v<|cZ (_,?r,?r))
 .rw[ac h1];show uG<|eB<|bG ?r ?r<|Α.v (_,?r,ba h1,mQ<|cZ<|Ğ.v<|eB<|bG ?r ?r<|ϊ.v (_,?r,?_));by_cases a:n<0
  .rw[ad a];show(ad<|cc a).v (_,?r,?r)
  .rw[ac a];show(ac<|by rw[ba a];show þ).v (_,?r,?r)
def a0y k x y a b μ(Q:jz):W (f (k+2) "hand_of" [P x y,P a b] μ) Q↔Q ⟨.p<|mV<|nR a b x y-nR a b a b,μ⟩:=
 r9 <|Ó (Y2 (k+1) _ _ μ)<|bN<|aY ?r<|(Kg k a b _ _).v<|bN<|bD<|aY ?r<|(DF k a b x y _ _).v<|aY ?r<|(DF k a b a b _ _).v<|ř.v<|bH (a0x _ _ _ _ _) λr h=>by rw[h];rfl
def qQ!(h:ae)(x:ae):jq:=(Ĉ (4*h-1).zi).o λ(j:am)=>⟨x,1+(j:ae)⟩
def o9!(h:ae)(n:am):jq:=(Ĉ n).flatMap λ(i:am)=>qQ h<|1+(i:ae)
def iQ!(w h:ae):jq:=o9 h (4*w-1).zi
def K1 h n:o9 h (n+1)=o9 h n++qQ h (1+(n:ae)):=by ext o9;rw[OO,vy];simp
def K2 h x:(qQ h x).f=(4*h-1).zi:=by ext qQ;simp
def DZ h:∀n,(o9 h n).f=n*(4*h-1).zi
 |0=>by simp[o9]
 |n+1=>by rw[K1,ô,DZ h n,K2,PM]
def K3{h:ae}(b:h<=6)(a:n<=23):n*(4*h-1).zi<=529:=by have:n*(4*h-1).zi<=23*23:=Pb a ();lia
def a0z h x:((oY 1 (4*h-1).zi).H λ_=>b4).o (λd=>P x<|sR d)=(qQ h x).o PP:=by ext oY qQ;rw[show ∀l:ab D,l.H (λ_=>b4)=l from λl=>∅,æ,æ];rfl
def D0 k w h(hw:1<=w/\w<=6)(s:1<=h/\h<=6)(μ:Hm)(Q:jz)(H:∀a aw,μ<+:aw->aw[a]?=a7 (.D<|(iQ w h).o PP)->μ.f<=a->Q ⟨.z a,aw⟩):W (f (k+1) "places_within" [.p w,.p h] μ) Q:=by
 rw[Y6,å];dsimp[Ì,ò,ā,cT];show(Ŝ _,?_);dsimp[Ũ,ŭ,Õ,JS,Å,cT,eI,Û,bK,cB,Ao];show((),?_);show Aj (lo:=1) (λi q aw=>μ<+:aw/\aw[μ.f]?=a7 (.D<|(o9 h i).o PP)/\∃o,q=[a7<|.p w,a7<|.p h,a7<|.z μ.f,o]) (aS _ _,bT _ _,b0,?r) ?_ ?_
 .rintro i q p hi (n|c|o|rfl);show(_,?r,?_);dsimp[Ũ,ŭ,ï];show jZ ?_;dsimp[bK,cB];show(j0 c,?_);dsimp[Å,cT];show jH (xs:=oY 1 (4*h-1).zi) (p:=λ_=>b4) (v:=λd=>P (1+(i:ae))<|sR d) ?_;dsimp[JS,Å,cT,eI,Û,bK,cB,Ao];show((),YC,by simp[oY],by rw[õ];simp[oY];lia,?_,?_,?_)
  .intro d aw hd n;show ą.v (?r,Ę _)
  .intro d aw hd _ n;let(j,v,?r):=Z5 hd;dsimp[Ź,Ζ,ç,Å,cT,bK,cB,iN,nr];show(?r,Ę _)
  .intro u b e;rw[a0z]at e;let g:((o9 h i).o PP).f+((qQ h<|1+(i:ae)).o PP).f<=Ò:=by let h1:=K3 (h:=h) s.2 (n:=i+1) ();rw[PM]at h1;rw[Ä,Ä,DZ,K2,õ];lia
   show(Dw (aI b c) e g).v ?_;show(e6 (n.u b) (Ô _) _,?_,_,?r);rw[Ŭ (ã.Z<|aI b c).1,K1,Ć]
 .rintro q p (n|c|o|rfl);dsimp[Ö,bK,cB];show H _ _ n c<|Ô _
def AG(hw:w<=6)(a:h<=6):(iQ w h).f<=529:=by ext iQ;rw[DZ];show K3 a ()
def cR!(p:ae×ae):av:=if p.1%2=1 then p.2%4==2 else p.1%4==2&&p.2%2==1
def K4 k x y μ(Q:jz):W (f (k+1) "is_quarter" [P x y] μ) Q↔Q ⟨.bl<|cR ⟨x,y⟩,μ⟩:=by
 rw[YT,å];dsimp[Ì,Ö,Î,Ð,î,Ė,Û,eI,bK,Ă,ċ,ü,JR,Ś,wZ];ext cR;by_cases h:x%2=1
 .simp[h]
 .let e:(x%2==1)=ai:=by apply h
  dsimp[e,h,Ī,cm];cases x%4==2<;>simp
def a0A k i μ(Q:jz):W (f (k+1) "is_whole" [.p i] μ) Q↔Q ⟨.bl b4,μ⟩:=by rw[Kb,å];dsimp[Ö,Ė,JQ,Ë,Å,cT,bK,eI,JX,JW,cy,dh]
def K5 k(h:1<=i/\i<=6)μ(Q:jz)(H:Q ⟨.bl b4,μ⟩):W (f (k+2) "is_size" [.p i] μ) Q:=by rw[Y4,å];dsimp[Ö,Ė,Ë,Å,cT,bK,eI,a0A,cy,YD,Yx,cc h.1,cc h.2];show H
def a0B k(hw:1<=w/\w<=6)(a:1<=h/\h<=6)μ(Q:jz)(H:Q ⟨.kf,μ⟩):W (f (k+3) "check_size" [.p w,.p h] μ) Q:=by rw[Y5,å];dsimp[Ð,ω,ĳ,Ħ,Ë,Å,cT,bK,cB];show K5 k hw _ _ ?_;dsimp[ľ,cy];show K5 k a _ _ ?_;dsimp[ľ,ϭ,Ī,cm,Î];show H
def xD{ay:jx}(h:v7 i b=a7 (.z a))(hc:μ[a]?=a7 (.dT ay))(H:W (c b<|μ.xl a<|.dF ay) λr=>r.2.2[a]?=a7 (.dF ay)/\Q ⟨r.1,r.2.1,r.2.2.xl a<|.dT ay⟩):W (f9 i c d b μ) Q:=by
 let e:qB i b μ=a7 ⟨a,ay⟩:=by dsimp[qB,h,hc]
 ext f9;rw[e,Ã];show bH H λr q=>?_;rw[q.1];show À.v q.2
def AH{s:MI}{μ:Hm}{ay:jx}{ds:ab D}(h:v7 i k=a7 (.z a))(hc:μ[a]?=a7 (.dT ay))(o:s k (μ.xl a<|.dF ay)=a7 ⟨eM<|.L ds,ds.f+1,μ.xl a<|.dF ay⟩)(I:am->aE->Hm->Prop)(h0:I 0 k (μ.xl a<|.dF ay))(go:∀n d c b,ds[n]?=a7 d->I n c b->∃e,g d c b=a7 e/\W (gi e b) λp=>p.1=.nx/\I (n+1) p.2.1 p.2.2)(j:∀c b,I ds.f c b->b[a]?=a7 (.dF ay)/\Q ⟨.nx,c,b.xl a<|.dT ay⟩):W (f9 i (cV s g gi) w k μ) Q:=by
 show xD h hc ?_;rw[Õ,o,À];show JT (x:=.L ds) (λ_=>rfl) I h0 (λn d c b hd v=>?_) j;let(e,h1,u):=go n d c b hd v;show(e,h1,bH u λp q=>?_);rw[q.1];show q.2
def D1(h:me b μ=a7 ⟨.z a,ic⟩)(g:ic[a]?=a7 (.dF ay)):gX me b μ=a7 ⟨eM<|.L<|fJ ay,(fJ ay).f+1,ic⟩:=by dsimp[gX,h,ě,g,fJ,Ä]
def D2(h:me b μ=a7 ⟨.z a,ic⟩)(g:ic[a]?=a7 (.dF ay)):qD me b μ=a7 ⟨eM<|.L<|jD ay,(jD ay).f+1,ic⟩:=by dsimp[qD,h,ě,g,jD,Ä]
def K6{V:ae×ae->D}:jD (bU V qs)=qs.o λq=>.L [PP q,V q]:=by ext jD bU;rw[æ];rfl
def AI Z:jD (bA Z)=Z.o λz=>.L [PP z.1,.z z.2.2]:=by ext jD bA;rw[æ];rfl
def AJ Z:fJ (bA Z)=(Z.o (·.1)).o PP:=by ext fJ bA;rw[æ,æ];rfl
def pE(h:l<μ.f)(t:Hm):(μ++t).xl l c=μ.xl l c++t:=Od _ _ h
def uI(μ:Hm)(h:l<μ.f)(t:Hm):(μ.xl l c++t)[l]?=a7 c:=by rw[ż<|by rw[ĸ];show h,Ŭ h]
def K7(μ:Hm)l c d d'(t:Hm):(μ.xl l c++d::t).xl μ.f d'=μ.xl l c++d'::t:=by rw[Oe _ _<|by rw[ĸ];show Ô _,ĸ,Bw];rfl
def D3(μ:Hm)l c d(t:Hm):(μ.xl l c++d::t)[μ.f]?=a7 d:=by rw[gk<|by rw[ĸ];show Ô _,ĸ,Bw];rfl
def D4{μ:Hm}(h:μ[l]?=a7 c)(t:Hm):(μ.xl l c'++t).xl l c=μ++t:=by let a:l<μ.f:=(ã.Z h).1;rw[Od _ _<|by rw[ĸ];show a,OE,xB h]
structure ϥ(e:ae×ae)(u n:ae):Prop where
 u0:0<=u/\u<4
 num:∀p:ae×ae,nR e.1 e.2 p.1 p.2=bR u p
 kD:bR u e=n
 mir:∀p,c9 p e=aF (aZ u n) p
 mirZ:fN e=aZ u n
def sd!(a:av):ae:=if a then 1 else -1
def D5(h:bR u p≠n)a:(mV (bR u p-n)==sd a)=aU u n a p:=by
 unfold mV sd aU;by_cases h1:n<bR u p
 .have:0<bR u p-n:=()
  rw[ad ah,cc h1];ext a<;>rfl
 .let b:¬ 0<bR u p-n:=()
  let c:bR u p-n<0:=()
  rw[ac b,ad c,ba h1];ext a<;>rfl
def AK k(E:ϥ e u n)μ(Q:jz):W (f (k+2) "hand_of" [PP p,PP e] μ) Q↔Q ⟨.p<|mV<|bR u p-n,μ⟩:=by let(x,y):=e;let(a,b):=p;let h1:=E.num ⟨a,b⟩;let c:=E.num ⟨x,y⟩;let d:=E.at_;dsimp at h1 c;have:=a0y k a b x y μ Q;rw[h1,c,d]at ah;show ah
def a0C k(E:ϥ e u n)μ(Q:jz):W (f (k+2) "mirrored" [PP p,PP e] μ) Q↔Q ⟨PP<|aF (aZ u n) p,μ⟩:=by let(x,y):=e;let(a,b):=p;have:=Kh k a b x y μ Q;rw[E.mir ⟨a,b⟩]at ah;show ah
def a0D k(E:ϥ e u n)μ(Q:jz):W (f (k+3) "mirror_in" [PP e] μ) Q↔Q ⟨LD<|aZ u n,μ⟩:=by let(x,y):=e;have:=a0d k x y μ Q;rw[E.mirZ]at ah;show ah
def K8!(k:am):MS:=aL (dA 7<|aA (aV b3) (bI (f k "hand_of")<|aB (bI (f k "led")<|aB (aC 6)<|aB (aC 5) aD)<|aB (aC 1) aD)<|aC 2)<|d8 (aC 4) (aC 5)<|gU (c7<|aC 7) (bI (f k "then")<|aB (aC 6)<|aB (aC 3) aD)<|aC 6
def a0E k(d:∀q,Ġ (F q))(E:ϥ e u n)(h:bR u (aF (F q) q)≠n)(H:W (oO (.z m) (PP q) (LD<|cQ u n a F q) g) λb=>∀x,R ⟨.nx,[c,a7<|PP e,a7<|.p<|sd a,a7<|LD<|aZ u n,a7<|.z m,a7<|PP q,a7<|LD<|F q,x],b⟩):
  W (K8 (k+3) [c,a7<|PP e,a7<|.p<|sd a,a7<|LD<|aZ u n,a7<|.z m,a7<|PP q,a7<|LD<|F q,x] g) R:=by
 show bN<|bD<|eP<|aX<|aY ?r<|(DN (k+2) (F q) (d q) q.1 q.2 _ _).v (_,?r,(AK (k+1) E _ _).v (_,?r,ü.v ?_));rw[D5 h];unfold cQ at H;show ď.v<|Ğ.v ?_;cases hc:aU u n a (aF (F q) q)with
 |bt=>rw[hc,ad ?r]at H;show(_,?r,(ad ?r).v<|aY ?r<|(a0e (k+1) (F q) (aZ u n) (d q) (xC u n) _ _).v (_,?r,_,?r,bH H λb z=>z _))|ai=>rw[hc,ac ⋯]at H;show(_,?r,(ac þ).v (_,?r,_,?r,_,?r,bH H λb z=>z _))
def a0F k(s:∀q,Ġ (F q))(nd:qs.J)(B:qs.f<=100)(E:ϥ e u n)(w:∀q∈qs,bR u (aF (F q) q)≠n)(g:μ[l]?=a7 (.dT<|bU (λq=>LD<|F q) qs))(Q:jz)(H:Q ⟨.z μ.f,μ++[.dT<|bU (λq=>LD<|cQ u n a F q) qs]⟩):W (f (k+4) "folded_layings" [.z l,PP e,.p<|sd a] μ) Q:=by
 let b:l<μ.f:=(ã.Z g).1;show Ó (ZI (k+3) _ _ _ μ)<|bN<|aY ?r<|(a0D k E _ _).v<|bN<|û.v<|iO ?_;let p:(μ++[C.dT []])[l]?=a7 (.dT<|bU (λq=>LD<|F q) qs):=by rw[ż b];show g
 show AH (gi:=K8 (k+3)) ?r p (D2 (a:=l) ?r<|by rw[pE b];show uI μ b _) (λi j h=>∃x y z,j=[a7<|.z l,a7<|PP e,a7<|.p<|sd a,a7<|LD<|aZ u n,a7<|.z μ.f,x,y,z]/\h=μ.xl l (.dF<|bU (λq=>LD<|F q) qs)++[.dT<|bU (λq=>LD<|cQ u n a F q)<|qs.ze i])
  (b0,b0,b0,?r,pE b _) (λi d j h hd o=>?_) λj h o=>?_
 .let(x,y,z,?r,?r):=o;rw[K6,ĉ]at hd;let(q,c,?r):=Ľ.Z hd;let v:i<qs.f:=(ã.Z c).1;let A:bC (bU (λq=>LD<|cQ u n a F q)<|qs.ze i) (a9 q)=bp:=KR<|sE nd c;show(_,?r,a0E k s E (w q<|œ c)<|(qL (D3 _ _ _ _ _) (dW q)<|by rw[Ä,ţ,õ];lia).v λx=>(?r,_,_,_,?r,?_));rw[KU A,K7];ext bU;rw[iP c,Ć];rfl
 .let(x,y,z,?r,?r):=o;show(uI μ b _,?r,cZ (_,?r,?_));rw[D4 g,K6,Ä,ź];show H
def eW!(c:am):Zr->Zr
 |[]=>[]|z::Z=>⟨z.1,z.2.1,c⟩::eW (c+1) Z
def uJ z:∀Z c,eW c (Z++[z])=eW c Z++[⟨z.1,z.2.1,c+Z.f⟩]
 |[],c=>?r|y::Z,c=>by change⟨y.1,y.2.1,c⟩::eW (c+1) (Z++[z])=⟨y.1,y.2.1,c⟩::(eW (c+1) Z++_);rw[uJ z Z<|c+1,ĩ,show c+1+Z.f=c+(Z.f+1) by lia]
def uK:∀Z c,GZ (eW c Z)=GZ Z
 |[],_=>?r|z::Z,c=>by change⟨z.1,z.2.1⟩::GZ (eW (c+1) Z)=⟨z.1,z.2.1⟩::GZ Z;rw[uK Z<|c+1]
def D6(h:GZ Z=GZ Y):Z.o (·.1)=Y.o (·.1):=by rw[<- mS,<- mS,h]
def D7:∀Z c(μ t:Hm),c=μ.f->∀z∈eW c Z,c<=z.2.2/\(μ++(Z.o λz=>C.D<|z.2.1.o PP)++t)[z.2.2]?=a7 (.D<|z.2.1.o PP)
 |[],_,_,_,_,z,a=>nomatch a|y::Z,c,μ,t,hc,z,a=>by
  rcases ē.Z a with rfl|a
  .show(Ô _,?_);rw[Θ,gk<|by rw[hc];show Ô _,hc,Bw];rfl
  .have:=D7 Z (c+1) (μ++[.D<|y.2.1.o PP]) t (by rw[hc,ô];rfl) z a;show((),?_);rw[<- ah.2,í,Θ μ [_],T7]
structure Pz(μ:Hm)(n a:am)(Z:Zr):Prop where
 dic:μ[a]?=a7 (.dT<|bA Z)
 kd:(Z.o (·.1)).J
 kD:∀z∈Z,n<=z.2.2/\μ[z.2.2]?=a7 (.D<|z.2.1.o PP)
def D8{ds:ab D}{μ:Hm}(h:μ[i]?=a7 (.D ds))(b:i≠p):(μ.xl p c++d::L)[i]?=a7 (.D ds):=by let a:=(ã.Z h).1;rw[ż<|by rw[ĸ];show a,ć<|ì b];show h
def HI.nd(I:HI μ p Z)(h:Z[i]?=a7 z):z.1∉(Z.ze i).o (·.1):=by have:=I.kd;rw[Pt];show sE ah<|by rw[ĉ,h];rfl
def K9{μ:Hm}{Y:Zr}(g:q∉Y.o (·.1))(h:Y.f<=1000)Q(H:Q (μ.xl p c++(.dT (bA<|eW (μ.f+1)<|Y++[⟨q,L,0⟩])::(Y++[⟨q,L,0⟩]:Zr).o λz=>C.D<|z.2.1.o PP))):
  W (oO (.z μ.f) (PP q) (.z (μ.xl p c++(.dT (bA<|eW (μ.f+1) Y)::Y.o λz=>C.D<|z.2.1.o PP)).f)<|(μ.xl p c++(.dT (bA<|eW (μ.f+1) Y)::Y.o λz=>C.D<|z.2.1.o PP))++[.D<|L.o PP]) Q:=by
 let d:(μ.xl p c++(.dT (bA<|eW (μ.f+1) Y)::Y.o λz=>C.D<|z.2.1.o PP)).f=μ.f+1+Y.f:=by rw[ô,ĸ,ĩ,Ä];lia
 let b:(eW (μ.f+1) Y).o (·.1)=Y.o (·.1):=D6<|uK _ _;let a:(eW (μ.f+1) Y).f=Y.f:=by apply br ģ b
 rw[d,Θ,Ź];show(qL (D3 _ _ _ _ _) (dW q)<|by rw[AE,a,õ];lia).v ?_;rw[KU<|DQ<|by rw[b];show g,K7];let e:bA (eW (μ.f+1) Y)++[⟨a9 q,D.z<|μ.f+1+Y.f⟩]=bA (eW (μ.f+1)<|Y++[⟨q,L,0⟩]):=by rw[uJ];ext bA;rw[Ć];rfl
 rw[e];rw[Ć]at H;show H
def a0G k(I:HI μ p Z)(g:μ[p]?=a7 (.dT<|bA Z))(G:Z.f<=1000)(E:ϥ e u n)(B:∀z∈Z,bR u z.1≠n)Q(H:∀x y,Q ⟨.nx,[a7<|.z p,a7<|PP e,a7<|.p<|sd a,a7<|.bl o,a7<|.z μ.f,x,y,b0,b0,b0],μ++(.dT (bA<|eW (μ.f+1)<|Z.H λz=>!aU u n a z.1)::(Z.H λz=>!aU u n a z.1).o λz=>C.D<|z.2.1.o PP)⟩):
  W (f9 0 (cV (qD<|aC 0) (fY [5,6])<|bB (aP<|aA (aV b4) (bI (f (k+2) "hand_of")<|aB (aC 5)<|aB (aC 1) aD)<|aC 2) (d8 (aC 4) (aC 5)<|bI iM<|aB (aC 6) aD) bM) dJ [a7<|.z p,a7<|PP e,a7<|.p<|sd a,a7<|.bl o,a7<|.z μ.f,b0,b0,b0,b0,b0]<|μ++[.dT []]) Q:=by
 let b:p<μ.f:=(ã.Z g).1;let w:(μ++[C.dT []])[p]?=a7 (.dT<|bA Z):=by rw[ż b];show g
 show AH ?r w (D2 (a:=p) ?r<|by rw[pE b];show uI μ b _) (λi q j=>∃x y,q=[a7<|.z p,a7<|PP e,a7<|.p<|sd a,a7<|.bl o,a7<|.z μ.f,x,y,b0,b0,b0] /\
   j=μ.xl p (.dF<|bA Z)++(.dT (bA<|eW (μ.f+1)<|(Z.ze i).H λz=>!aU u n a z.1)::((Z.ze i).H λz=>!aU u n a z.1).o λz=>C.D<|z.2.1.o PP))
  (b0,b0,?r,pE b _) (λi d q j hd s=>?_) λq j s=>?_
 .let(x,y,?r,?r):=s;rw[AI,ĉ]at hd;let(z,v,?r):=Ľ.Z hd;show(_,?r,?_);let c:=œ v;let ne:∀{x y:ae}{μ:Hm}{Q:jz},W (aV b4 (.p x) (.p y) μ) Q↔Q ⟨.bl<|!(x==y),μ⟩:=À;dsimp[pS,Ũ,ŭ,Ð,î,Û,Ë,Å,cT,bK,cB,AK k E,ne,D5<|B z c];let e:(Z.ze<|i+1).H (λz=>!aU u n a z.1)=(Z.ze i).H (λz=>!aU u n a z.1)++[z].H (λz=>!aU u n a z.1):=by rw[iP v,ϣ]
  cases hc:aU u n a z.1 with
  |bt=>dsimp[ϭ,Ī,cm,Î];show(fw,_,_,?r,?_);rw[e,J5<|by rw[hc];decide,jg,Ĭ]|ai=>
   dsimp[dh,cy,ď,Ë,Å,cT,bK,cB];show(DD<|D8 (I.at_ z c)<|I.ne (.Q g) c).v ?_;show K9 (λh=>I.nd v ?_) (by have:=ſ (λz:(ae×ae)×jq×am=>!aU u n a z.1)<|Z.ze i;rw[ţ]at ah;lia) _ (fw,_,_,?r,?_)
   .let(y,h1,A):=Ü.Z h;show Ü.v (y,(Ĥ.Z h1).1,A)
   .rw[e,bu<|by rw[hc];rfl,jg,uJ,uJ,Ć,Ć];rfl
 .let(x,y,?r,?r):=s;show(uI μ b _,?_);rw[D4 g,AI,Ä,ź];show H x y
def Pz.ne(I:Pz μ n a Z)(hz:z∈Z):z.2.2≠a:=λe=>by let h1:=(I.at_ z hz).2;rw[e,I.dic]at h1;ext h1
def Pz.keep(I:Pz μ n a Z)(h:∀(c:am)y,μ[c]?=a7 y->aw[c]?=a7 y):Pz aw n a Z:=(h _ _ I.dic,I.kd,λz hz=>((I.at_ z hz).1,h _ _ (I.at_ z hz).2))
def Pz.put(I:Pz μ n a Z)(i:μ[b]?=a7 (.D<|L.o PP))(nb:n<=b):
  ∃h,cK (bA Z) (a9 p) (.z b)=bA h/\GZ h=j8 (GZ Z) p L/\Pz (μ.xl a<|.dT<|bA h) n a h:=by
 let bs:b≠a:=λe=>by rw[e,I.dic]at i;ext i
 by_cases d:p∈Z.o (·.1)
 .show(Z.o λy=>if y.1=p then⟨y.1,L,b⟩else y,a0m d I.kd,?_,fG I.dic,?_,λy c=>?_)
  .ext j8;rw[mS,ad<|ϡ.v d];ext GZ;rw[æ,æ];show Φ λz f=>?_;change⟨(if z.1=p then⟨z.1,L,b⟩else z).1,(if z.1=p then⟨z.1,L,b⟩else z).2.1⟩=if z.1=p then⟨z.1,L⟩else⟨z.1,z.2.1⟩
   lk<;>rfl
  .let e:(Z.o λy=>if y.1=p then⟨y.1,L,b⟩else y).o (·.1)=Z.o (·.1):=by rw[æ];show Φ λy f=>?_;change(if y.1=p then⟨y.1,L,b⟩else y).1=y.1;lk<;>rfl
   rw[e];show I.kd
  .let(x,g,?r):=Ü.Z c;lk
   .rw[ć<|ì bs];show(nb,i)
   .rw[ć<|ì<|I.ne g];show I.at_ x g
 .show(Z++[⟨p,L,b⟩],a0l d,?_,fG I.dic,?_,λy c=>?_)
  .ext j8;rw[mS,ac λw=>d<|ϡ.Z w];ext GZ;rw[Ć];rfl
  .rw[Ć,fB];show(I.kd,∅,λx g y c e=>by
    dsimp[í,du,ġ]at c;rw[e,c]at g;show d g)
  .rcases Ĺ.Z c with c|c
   .rw[ć<|ì<|I.ne c];show I.at_ y c
   .rw[ġ.Z c,ć<|ì bs];show(nb,i)
def La(I:Pz μ n a Z)(h:μ[b]?=a7 (.D<|L.o PP))(nb:n<=b)(i:Z.f<=10000)Q(H:∀c,GZ c=j8 (GZ Z) p L->Pz (μ.xl a<|.dT<|bA c) n a c->Q (μ.xl a<|.dT<|bA c)):W (oO (.z a) (PP p) (.z b) μ) Q:=by
 let(c,e,g,d):=I.put (p:=p) h nb;show(qL I.dic (dW p)<|by rw[AE,õ];lia).v ?_;rw[e];show H c g d
def a0H(a:(Z.o (·.1)).J)(h:z∈Z):b8 (GZ Z) z.1=z.2.1:=kX (by rw[mS];show a) (g:=⟨z.1,z.2.1⟩)<|Ü.v (z,h,?r)
def a0I(I:Pz μ n a Z)(hd:μ[d]?=a7 (.D [])):∃c,fD (.z a) [PP p,.z d] μ=a7 ⟨.z c,μ⟩/\μ[c]?=a7 (.D<|(b8 (GZ Z) p).o PP):=by
 by_cases b:p∈Z.o (·.1)
 .let(z,e,?r):=KJ b;show(z.2.2,?_,by rw[a0H I.kd e];show(I.at_ z e).2);dsimp[fD,I.dic,dW,ĝ,AD I.kd e,Qd]
 .show(d,?_,by rw[sD<|by rw[mS];show b];show hd);dsimp[fD,I.dic,dW,ĝ,DQ b,NA]
open _root_ in
def D9(h:∀x∈G,x.2.f<=B)p:(b8 G p).f<=B:=by
 ext b8;lk
 .rename_i g a;show h g<|TX a
 .show Ŝ _
def a0J(h:∀x∈G,x.2.f<=B)(d:g.2.f<=100):(eD o G g).f<=G.f+1/\∀x∈eD o G g,x.2.f<=B+100:=by
 let b:(if o then b8 G g.1++g.2 else g.2++b8 G g.1).f<=B+100:=by have:=D9 h g.1;lk<;>rw[ô]<;>lia
 ext eD j8;generalize(if o then b8 G g.1++g.2 else g.2++b8 G g.1)=L at b;lk
 .show(by rw[Ä];lia,λx a=>?_);let(y,c,?r):=Ü.Z a;lk
  .show b
  .show ĥ (h y c) ()
 .show(by rw[ô];show Ô _,λx a=>?_);rcases Ĺ.Z a with a|a
  .show ĥ (h x a) ()
  .rw[ġ.Z a];show b
def Ea o:∀(K S:Gr)B,(∀x∈S,x.2.f<=B)->(∀x∈K,x.2.f<=100)->(K.foldl (eD o) S).f<=S.f+K.f/\∀x∈K.foldl (eD o) S,x.2.f<=B+100*K.f
 |[],S,B,h,_=>(Ô _,h)|g::K,S,B,h,hk=>by let(h1,b):=a0J (o:=o) h<|hk g<|ŗ ..;let(d,c):=Ea o K (eD o S g) (B+100) b λx a=>hk x<|ķ _ a;rw[N7,ĩ];show((),λx a=>by have:=c x a;lia)
def a0K{Z:Zr}(h:Z[i]?=a7 z):GZ (Z.ze<|i+1)=GZ (Z.ze i)++[⟨z.1,z.2.1⟩]:=by ext GZ;rw[iP h,Ć];rfl
def Lb mv Z:GZ (Z.H λz=>!mv z.1)=iZ mv (GZ Z):=by ext GZ iZ;rw[jf];rfl
def a0L o(g:Z.f<=100)(c:∀z∈Z,z.2.1.f<=100)i:((fP mv M<|GZ<|Z.ze i).foldl (eD o)<|iZ mv<|GZ Z).f<=200/\∀x∈(fP mv M<|GZ<|Z.ze i).foldl (eD o) (iZ mv<|GZ Z),x.2.f<=10100:=by
 let e:∀x∈GZ Z,x.2.f<=100:=λx a=>by let(z,b,?r):=Ü.Z a;show c z b
 let j:(fP mv M<|GZ<|Z.ze i).f<=100:=by ext fP;rw[Ä];show ĥ (ſ _ _) ?_;rw[sC,ţ];lia
 let(h1,d):=Ea o (fP mv M<|GZ<|Z.ze i) (iZ mv<|GZ Z) 100 (λx a=>e x (Ĥ.Z a).1) λx a=>by let(y,h,?r):=Ü.Z a;rw[R4];have:=(Ĥ.Z h).1;let(z,b,?r):=Ü.Z ah;show c z<|QN b
 let k:(iZ mv<|GZ Z).f<=100:=by show ĥ (ſ _ _) ?_;rw[sC];show g
 show((),λx a=>by have:=d x a;lia)
def a0M{S:Gr}{Z:Zr}(h:Z[i]?=a7 z):
  (fP mv M<|GZ<|Z.ze<|i+1).foldl (eD o) S=if mv z.1 then eD o ((fP mv M<|GZ<|Z.ze i).foldl (eD o) S) ⟨M z.1,z.2.1.zd⟩else(fP mv M<|GZ<|Z.ze i).foldl (eD o) S:=by
 rw[a0K h,a0v];dsimp;lk
 .rw[Qa];rfl
 .rfl
def a0N{o a:af b}{Q:b->Prop}(e:o=a)(h:W a Q):W o Q:=e▸h
def Lc{b μ:Hm}{S:Zr}o(z:b<+:μ)(x:b.f<=m)(B:n<=μ.f)(J:Pz μ n m S)(d:μ[r]?=a7 (.D<|L.o PP))(A:L.f<=100)(w:S.f<=10000)(hA:(b8 (GZ S) g).f<=10100):
  ∃c,fD (.z m) [PP g,.z μ.f] (μ++[.D []])=a7 ⟨.z c,μ++[.D []]⟩/\∀Q,(∀j a,b<+:a->Pz a n m j->GZ j=eD o (GZ S) ⟨g,L⟩->Q a)->W (bS (if o then .z c else .z r) (if o then .z r else .z c)<|μ++[.D []]) λp=>W (oO (.z m) (PP g) p.1 p.2) Q:=by
 let i:Pz (μ++[C.D []]) n m S:=J.keep λc y h=>aI (aS _ _) h;let(c,v,k):=a0I (d:=μ.f) i (p:=g)<|bT _ _;show(c,v,λQ H=>?_);let d:=aI (aS μ<|C.D []) d;let dr:∀{xs:ab D},xs=(if o then b8 (GZ S) g++L else L++b8 (GZ S) g).o PP->W (oO (.z m) (PP g) (.z (μ++[C.D []]).f)<|μ++[C.D []]++[.D xs]) Q:=λe=>by subst e;show La (i.keep λc y h=>aI (aS _ _) h) (bT _ _) (by rw[ô];lia) w _ λs u q=>H s _ (e6 (z.u<|(aS _ _).u<|aS _ _) x _) q u
 cases o with
 |bt=>show(uD k d<|by rw[Ä,Ä,õ];lia).v (dr (Ć ..).R)|ai=>show(uD d k<|by rw[Ä,Ä,õ];lia).v<|dr (Ć ..).R
def a0O!(k:am):MS:=aL (dA 7<|bI (f k "mirrored")<|aB (aC 5)<|aB (aC 1) aD)<|aL (dA 8<|bI nJ<|aB (aC 6) aD)<|aL (dA 9<|fW fD (aC 4)<|aB (aC 7)<|aB (cU aD) aD)<|d8 (aC 4) (aC 7)<|gU (c7<|aC 3) (aA bS (aC 9)<|aC 8)<|aA bS (aC 8)<|aC 9
def a0P k{b μ:Hm}{S:Zr}{L:jq}(E:ϥ e u v)(O:b<+:μ)(M:b.f<=m)(N:n<=μ.f)(J:Pz μ n m S)(hc:μ[c]?=a7 (.D<|L.o PP))(I:L.f<=100)(K:S.f<=10000)(hA:(b8 (GZ S)<|aF (aZ u v) z).f<=10100)(H:∀g a x y t,b<+:a->Pz a n m g->GZ g=eD o (GZ S) ⟨aF (aZ u v) z,L.zd⟩->R ⟨.nx,[s,a7<|PP e,A,a7<|.bl o,a7<|.z m,a7<|PP z,a7<|.z c,x,y,t],a⟩):W (a0O (k+2) [s,a7<|PP e,A,a7<|.bl o,a7<|.z m,a7<|PP z,a7<|.z c,x,y,t] μ) R:=by
 let i:=aS μ<|C.D (L.o PP).zd;let j:=J.keep λc y h=>aI i h;let(d,G,w):=Lc (g:=aF (aZ u v) z) (L:=L.zd) o (O.u i) M (ĥ N i.ke) j (by rw[OQ];show bT _ _) (by rw[R4];show I) K hA;show bN<|aY ?r<|(a0C k E _ _).v<|bN<|aY ?r<|(J7 hc).v<|bN<|DR (_,?r,DS j.dic,_,?r,_,G,ď.v<|a0N (by ext o<;>rfl)<|bH (w _ λg a q B e=>H g a _ _ _ q B e) λp x=>(_,?r,_,?r,x))
inductive Ue (μ:Hm)(p:am)(Z:Zr)(e:ae×ae)(u n:ae)(a o:av):am->aE->Hm->Prop
 |mk {i:am}{aw:Hm}{S:Zr}{x y gl co th:af D}(np:μ.xl p (.dF<|bA Z)<+:aw)(J:Pz aw μ.f μ.f S)(eG:GZ S=(fP (aU u n a) (aF<|aZ u n)<|GZ<|Z.ze i).foldl (eD o) (iZ (aU u n a)<|GZ Z)):Ue μ p Z e u n a o i [a7<|.z p,a7<|PP e,a7<|.p<|sd a,a7<|.bl o,a7<|.z μ.f,x,y,gl,co,th] aw
open _root_ in
def a0Q k(I:HI μ p Z)(g:μ[p]?=a7 (.dT<|bA Z))(R:Z.f<=100)(G:∀z∈Z,z.2.1.f<=100)(E:ϥ e u n)(K:∀z∈Z,bR u z.1≠n)(Q:jz)(H:∀S c,μ<+:c->Pz c μ.f μ.f S->GZ S=mT (aU u n a) (aF<|aZ u n) o (GZ Z)->Q ⟨.z μ.f,c⟩):W (f (k+3) "folded_piles" [.z p,PP e,.p<|sd a,.bl o] μ) Q:=by
 let b:p<μ.f:=(ã.Z g).1;show Ó (ZJ (k+2) _ _ _ _ μ) (bN<|û.v<|iO<|a0G k I g () E K _ λx y=>(?r,iO ?_));generalize hS:(Z.H λz=>!aU u n a z.1)=S0;let O:(μ++(C.dT (bA<|eW (μ.f+1) S0)::S0.o λz=>C.D<|z.2.1.o PP))[p]?=a7 (.dT<|bA Z):=by rw[ż b];show g
 let w:(S0.o (·.1)).J:=by rw[<- hS];show(fj.o _).nodup I.kd
 show AH ?r O (D2 (a:=p) ?r<|by rw[pE b];show uI μ b _) (Ue μ p Z e u n a o) (.mk (S:=eW (μ.f+1) S0) (by rw[pE b];show OL _ _) ?_ ?_) (λi d B c hd v=>?_) λB c v=>?_
 .rw[pE b];show(D3 _ _ _ _ _,by rw[D6<|uK _ _];show w,λz q=>?_);have:=D7 S0 (μ.f+1) (μ.xl p (.dF<|bA Z)++[.dT<|bA<|eW (μ.f+1) S0]) [] (by rw[ô,ĸ];rfl) z q;show((),?_);rw[Ĭ,Θ]at ah;show ah.2
 .rw[uK,<- hS,Lb];rfl
 .let(np,J,j):=v;rename_i S x y gl M X;rw[AI,ĉ]at hd;let(z,q,?r):=Ľ.Z hd;let h:=œ q;let s:=a0M (mv:=aU u n a) (M:=aF (aZ u n)) (o:=o) (S:=iZ (aU u n a) (GZ Z)) q;show(_,?r,Ð.v<|eB<|bD<|aY ?r<|(AK k E _ _).v (_,?r,ü.v (_,?r,?_)));rw[D5<|K z h];cases hc:aU u n a z.1 with
  |ai=>rw[hc]at s;show Î.v (?r,.mk np J<|j.u s.R)|bt=>rw[hc,ad ?r,<- j]at s;let(U,A):=a0L (mv:=aU u n a) (M:=aF (aZ u n)) o R G i;show a0P k E np (by rw[ĸ];show Ô _) (by have:=np.ke;rwa [ĸ]at ah) J (aI np<|by rw[ć<|ì<|I.ne (.Q g) h];show I.at_ z h) (G z h) (by rw[<- sC,j];lia) (D9 (by rw[j];show A) _) λY c l l l T L N=>(?r,.mk T L<|N.u s.R)
 .let(np,J,j):=v;rename_i S x y gl M X;show(aI np<|Ŭ b,?r,cZ (_,?r,H S _ (AF g np) (?_,J.kd,λz q=>?_) ?_))
  .rw[ć ()];show J.dic
  .have:=J.at_ z q;rw[ć ()];show ah
  .rw[j,AI,Ä,ź];rfl
def Ld k p u(a:0<=u/\u<4)(μ:Hm)(Q:jz)(H:∀aw,μ<+:aw->Q ⟨.p<|bR u p,aw⟩):W (f (k+1) "_law_value" [PP p,.p u] μ) Q:=by rw[ZR];show Z8<|Z7 ?r ?r<|(iY (bT _ _)<|a0s a).v<|H _<|aS _ _
def Le k A(hA:Ġ A)p μ(Q:jz):W (f (k+1) "_law_led" [LD A,PP p] μ) Q↔Q ⟨PP<|aF A p,μ⟩:=by let(h1,a,b,c):=hA.sm;rw[ZP,å];dsimp[Ì,δ,bK,a0k,Ũ,ŭ,Ö,ç,Å,cT,Û,eI,Ă,ċ,cB,qP h1,qP a,qP b,qP c,è,iN,nr];rfl
def a0R A n:c8 A (aZ 0 n)=(A.a,A.b,-A.c,-A.d,A.e,2*n-A.g)/\c8 A (aZ 1 n)=(-A.a,-A.b,A.c,A.d,2*n-A.e,A.g)/\c8 A (aZ 2 n)=(A.c,A.d,A.a,A.b,A.g+n,A.e-n)/\c8 A (aZ 3 n)=(-A.c,-A.d,-A.a,-A.b,n-A.g,n-A.e):=by show(?_,?_,?_,?_)<;>(ext c8 aZ;dsimp[cy,cm,ae.reduceEq,Ly.mk.injEq];lia)
def Lf k A u n(c:0<=u/\u<4)μ(Q:jz):W (f (k+1) "_law_over" [LD A,.L [.p u,.p n]] μ) Q↔Q ⟨LD<|c8 A<|aZ u n,μ⟩:=by
 let(h0,h1,a,b):=a0R A n;show r9 ?_;rw[ZQ];have:u=0\/u=1\/u=2\/u=3:=()
 rcases ah with rfl|rfl|rfl|rfl
 .rw[h0];show(_,?r,?r)
 .rw[h1];show(_,?r,?r)
 .rw[a];show(_,?r,?r)
 .rw[b];show(_,?r,?r)
def Lg!(n:am):ab am:=NZ (Ϡ b0 b0 (a7<|-1) n).1 (Ϡ b0 b0 (a7<|-1) n).2.1 (Ϡ b0 b0 (a7<|-1) n).2.2
def a0S:∀n∈Ĉ 101,Lg n=(Ĉ n).zd:=by decide +de
def Lh(xs:ab a)(h:xs.f<=100):fU xs b0 b0 (a7<|-1)=xs.zd:=by let e:=a0S xs.f (ŏ.v ());unfold Lg at e;ext fU;rw[e,Tp,KQ]
def a0T{L:jq}{Q:jz}(b:L.f<=100)(d:a c μ=a7 ⟨.z l,μ⟩)(g:μ[l]?=a7 (.D<|L.o PP))(H:Q ⟨.z μ.f,μ++[.D<|L.zd.o PP]⟩):
  W (mE a iH iH (jT<|fA<|mC<|.p 1) c μ) Q:=by
 show Dy ?_;rw[d,À];show(l,?r,?_);show À.v<|À.v<|À.v (show(a7 (-1):af ae)≠a7 0 by decide,_,g,?_,?_)
 .change(fU (L.o PP) b0 b0<|a7<|-1).f<=Ò;rw[Lh _<|by rw[Ä];show b,R4,Ä,õ];lia
 .change Q ⟨.z μ.f,μ++[.D<|fU (L.o PP) b0 b0<|a7<|-1]⟩;rw[Lh _<|by rw[Ä];show b,<- OQ];show H
def Li q μ:∀ps:jq,oJ μ (PP q) (ps.o PP)=a7 (ps.zo q)
 |[]=>?r|p::ps=>by
  change(eX 8 μ (PP p)<|PP q).U (λb=>(oJ μ (PP q)<|ps.o PP).o λc=>b||c)=_;rw[JU 6,Li q μ ps,ab.contains_cons];have:(p==q)=(q==p):=by rw[Ψ,bg,bg];show eq_comm
  rw[ah];rfl
def Lj{ps:jq}{Q:jz}(h:μ[a]?=a7 (.D<|ps.o PP)):W (dB b (PP q) (.z a) μ) Q↔Q ⟨.bl<|if b then !(ps.zo q)else ps.zo q,μ⟩:=by
 have:dB b (PP q) (.z a) μ=a7 ⟨.bl<|if b then !(ps.zo q)else ps.zo q,μ⟩:=by
  let c:bW μ (.z a)=a7 (ps.o PP):=by dsimp[bW,h]
  dsimp[dB,oK,h,c,ě,Li,ĝ]
 rw[ah];show À
def a0U{V:ae×ae->D}q(a:q∈qs)(nd:qs.J)d:cK (bU V qs) (a9 q) d=bU (λx=>if x=q then d else V x) qs:=by
 ext cK;rw[sF nd a,ad<|show(a7<|V q).qh=b4 from ?r];ext bU;rw[æ];show Φ λx y=>?_;change(if a9 x=a9 q then⟨a9 x,d⟩else⟨a9 x,V x⟩)=⟨a9 x,if x=q then d else V x⟩;by_cases e:x=q
 .rw[ad<|by rw[e],ad e]
 .rw[ac λh=>e<|j7 h,ac e]
def Lk{r:aE}:(aA bE (aC 0)<|mC<|.p 1) (a7 (.L [l,.z p])::r) μ=a7 ⟨.z p,μ⟩:=?r
def a0V k{μ:Hm}(g:μ[p]?=a7 (.dT<|bA Z))(I:Z.f<=100)(A:0<=u/\u<4){l:af D}Q(H:∀t b,μ<+:b->b[t]?=a7 (.D<|((Z.o (·.1)).H<|aU u n a).o PP)->Q ⟨.nx,[a7<|.L [o,.z p],a7<|.L [.p u,.p n],a7<|.bl a,i,j,w,a7<|.z t,x,y,z,c],b⟩):
  W (f9 1001 (dA 6<|gK (gX<|aA bE (aC 0)<|mC<|.p 1) (aP<|aA (aV b3) (aA nD (bI (f (k+1) "_law_value")<|aB (aC 11)<|aB (aA bE (aC 1)<|mC<|.p 0) aD)<|aA bE (aC 1)<|mC<|.p 1)<|aC 2)<|aC 11) B
   [a7<|.L [o,.z p],a7<|.L [.p u,.p n],a7<|.bl a,i,j,w,b0,x,y,z,c] μ) Q:=by
 let h:p<μ.f:=(ã.Z g).1;let s:(μ.xl p<|.dF<|bA Z)[p]?=a7 (.dF<|bA Z):=Ŭ h;show xD (a:=p) ?r g ?_;rw[ò];show jH (xs:=(Z.o (·.1)).o PP) (p:=λd=>aU u n a<|fL d) (v:=λd=>d) ?_;rw[D1 (a:=p) Lk s,AJ,À];show(Ak,?r,by rw[Ä,Ä,õ];lia,λd b hd e=>?_,λd b hd m e=>?_,λb e v=>?_)
 .let(q,_,?r):=Ü.Z hd;dsimp[Ź,Ζ,î,Û,Ë,Å,cT,eI,bK,cB,Ă,ċ];show Ld k q u A _ _ λG E=>?_;dsimp[Α];show mF.v (?r,E)
 .dsimp[Ź,Ζ,bK,cB];show(fw,Ę _)
 .show(aI e s,?_);dsimp;rw[uE,ĸ]at v;rw[ĸ];show H _ _ (AF g e)<|by rw[ć ()];show v
def a0W k{μ:Hm}(T:∀q,Ġ (F q)){ps:jq}(nd:qs.J)(hl:qs.f<=100)(Z:0<=u/\u<4)(g:μ[l]?=a7 (.dT<|bU (λq=>LD<|F q) qs))(w:μ[t]?=a7 (.D<|ps.o PP))(U:∀q∈qs,ps.zo (aF (F q) q)=aU u n a (aF (F q) q))Q(H:∀x,Q ⟨.nx,[y,a7<|.L [.p u,.p n],z,A,a7<|.z l,J,a7<|.z t,x,K,L,s],(μ++[C.D<|qs.o PP]).xl l<|.dT<|bU (λq=>LD<|cQ u n a F q) qs⟩):
  W (cV (dR<|bI iM<|aB (aC 4) aD) (dE 7) (bB (aP<|aA (dB b3) (bI (f (k+1) "_law_led")<|aB (aA bE (aC 4)<|aC 7)<|aB (aC 7) aD)<|aC 6) (d8 (aC 4) (aC 7)<|bI (f (k+1) "_law_over")<|aB (aA bE (aC 4)<|aC 7)<|aB (aC 1) aD) bM)
   [y,a7<|.L [.p u,.p n],z,A,a7<|.z l,J,a7<|.z t,b0,K,L,s] μ) Q:=by
 let X:l<μ.f:=(ã.Z g).1;let I:t≠l:=λe=>by rw[e,g]at w;ext w
 let Y:t<μ.f:=(ã.Z w).1;dsimp[Õ,Ú,Ë,Å,cT,bK,cB];show(DC g).v ?_;let R:(bU (λq=>LD<|F q) qs).o (λk=>D.L<|k.1.o D.p)=qs.o PP:=by ext bU;rw[æ];rfl
 rw[R];show(fK<|bT _ _).v ?_;let N:l<(μ++[C.D<|qs.o PP]).f:=by rw[ô];lia
 let M:(μ++[C.D<|qs.o PP])[l]?=a7 (.dT<|bU (λq=>LD<|F q) qs):=aI (aS _ _) g;show mO (λi o j=>∃x,o=[y,a7<|.L [.p u,.p n],z,A,a7<|.z l,J,a7<|.z t,x,K,L,s]/\j=(μ++[C.D<|qs.o PP]).xl l (.dT<|bU (λq=>LD<|if q∈qs.ze i then cQ u n a F q else F q) qs))
  (b0,?r,?_) ?_ (λi d o j hd E=>?_) λo j E=>?_
 .rw[show(λq=>LD<|if q∈qs.ze 0 then cQ u n a F q else F q)=λq=>LD (F q)from m4 λq=>by rw[ac ∅]];show(xB M).R
 .rintro i o j (x|_|rfl);rw[ć ()];show bT _ _
 .let(x,?r,?r):=E;let(q,G,?r):=o8 hd;show(_,?r,?_);let p:q∈qs:=œ G;let nq:q∉qs.ze i:=sE nd G;let gl:((μ++[C.D<|qs.o PP]).xl l<|.dT<|bU (λq=>LD<|if q∈qs.ze i then cQ u n a F q else F q) qs)[l]?=a7 (.dT<|bU (λq=>LD<|if q∈qs.ze i then cQ u n a F q else F q) qs):=fG M;let B:((μ++[C.D<|qs.o PP]).xl l<|.dT<|bU (λq=>LD<|if q∈qs.ze i then cQ u n a F q else F q) qs)[t]?=a7 (.D<|ps.o PP):=by rw[ć<|ì I];show aI (aS _ _) w
  let O:∀Q,Q ⟨LD<|F q,(μ++[C.D<|qs.o PP]).xl l<|.dT<|bU (λq=>LD<|if q∈qs.ze i then cQ u n a F q else F q) qs⟩->W (bE (.z l) (PP q)<|(μ++[C.D<|qs.o PP]).xl l<|.dT<|bU (λq=>LD<|if q∈qs.ze i then cQ u n a F q else F q) qs) Q:=λQ h=>by show(J6 gl (dW q)<|sF nd p).v ?_;rw[ac nq];show h
  dsimp[Ũ,ŭ,Ð,î,Û,Ë,Å,cT,bK,cB];show O _<|(Le k (F q) (T q) q _ _).v<|(Lj B).v ?_;rw[ac þ,U q p];let v:∀x∈qs,x∈qs.ze (i+1)↔x∈qs.ze i\/x=q:=λx m=>by rw[iP G,Ĺ,ġ]
  cases hc:aU u n a (aF (F q) q)with
  |bt=>
   dsimp[cy,ď,Ë,Å,cT,Û,bK,cB];show O _ ((Lf k (F q) u n Z _ _).v<|(qL gl (dW q)<|by rw[Ä,õ];lia).v (_,?r,?_));rw[a0U q p nd,OE];congr 2;show Φ λx c=>?_;dsimp;by_cases e:x=q
   .rw[ad e,ad<|(v x c).v<|.X e,e];ext cQ;rw[ad hc]
   .rw[ac e];by_cases b:x∈qs.ze i
    .rw[ad b,ad<|(v x c).v<|.Q b]
    .rw[ac b,ac λh=>((v x c).Z h).vl b e]
  |ai=>
   dsimp[Ī,cm,Î];show(_,?r,?_);congr 2;show Φ λx c=>?_;dsimp;by_cases b:x∈qs.ze i
   .rw[ad b,ad<|(v x c).v<|.Q b]
   .by_cases e:x=q
    .rw[ac b,ad<|(v x c).v<|.X e,e];ext cQ;rw[ac<|by rw[hc];show þ]
    .rw[ac b,ac λh=>((v x c).Z h).vl b e]
 .let(x,?r,?r):=E;let e:bU (λq=>LD<|if q∈qs.ze (qs.o PP).f then cQ u n a F q else F q) qs=bU (λq=>LD<|cQ u n a F q) qs:=by show Φ λx c=>?_;dsimp;rw[Ä,ź,ad c]
  rw[e];show H x
def Ll{Z:Zr}(h:q∈Z.o (·.1)):((Z.o (·.1)).H mv).zo q=mv q:=by rw[Ψ,ϡ,Ĥ];show(λx=>x.2,λx=>(h,x))
def a0X(I:HI μ p Z)(g:μ[p]?=a7 (.dT<|bA Z))(T:Z.f<=100)(A:μ[t]?=a7 (.D<|((Z.o (·.1)).H mv).o PP))Q(H:∀x,Q ⟨.nx,[a7<|.L [u,.z p],n,o,q,s,x,a7<|.z t,J,a7<|.z μ.f,K,c],μ++(C.dT (bA<|eW (μ.f+1)<|Z.H λz=>!mv z.1)::(Z.H λz=>!mv z.1).o λz=>C.D<|z.2.1.o PP)⟩):
  W (f9 1001 (cV (gX<|aA bE (aC 0)<|mC<|.p 1) (dE 5)<|bB (aP<|aA (dB b4) (aC 5)<|aC 6) (d8 (aC 8) (aC 5)<|bI iM<|aB (aA bE (aA bE (aC 0)<|mC<|.p 1)<|aC 5) aD) bM) R
   [a7<|.L [u,.z p],n,o,q,s,b0,a7<|.z t,J,a7<|.z μ.f,K,c]<|μ++[C.dT []]) Q:=by
 let a:p<μ.f:=(ã.Z g).1;let E:t≠p:=λe=>by rw[e,g]at A;ext A
 let M:(μ++[C.dT []])[p]?=a7 (.dT<|bA Z):=by rw[ż a];show g
 let v:∀L,(μ.xl p (.dF<|bA Z)++L)[p]?=a7 (.dF<|bA Z):=λL=>uI μ a _;show AH ?r M (D1 (a:=p) Lk<|by rw[pE a];show v _) (λi k j=>∃x,k=[a7<|.L [u,.z p],n,o,q,s,x,a7<|.z t,J,a7<|.z μ.f,K,c] /\
   j=μ.xl p (.dF<|bA Z)++(C.dT (bA<|eW (μ.f+1)<|(Z.ze i).H λz=>!mv z.1)::((Z.ze i).H λz=>!mv z.1).o λz=>C.D<|z.2.1.o PP))
  (b0,?r,pE a _) (λi d k j hd B=>?_) λk j B=>?_
 .let(x,?r,?r):=B;rw[AJ,æ,ĉ]at hd;let(z,G,?r):=Ľ.Z hd;show(_,?r,?_);let b:=œ G;let O:z.1∈Z.o (·.1):=Ü.v (z,b,?r);let w:=D8 (p:=p) (c:=.dF (bA Z)) (d:=C.dT (bA<|eW (μ.f+1)<|(Z.ze i).H λz=>!mv z.1)) (L:=((Z.ze i).H λz=>!mv z.1).o λz=>C.D<|z.2.1.o PP) A E;dsimp[Function.comp_apply,Ũ,ŭ,Ð,î,Û,bK,cB];show(Lj w).v ?_;rw[ad ?r,Ll O];let e:(Z.ze<|i+1).H (λz=>!mv z.1)=(Z.ze i).H (λz=>!mv z.1)++[z].H (λz=>!mv z.1):=by rw[iP G,ϣ]
  cases hc:mv z.1 with
  |bt=>dsimp[ϭ,Ī,cm,Î];show(fw,_,?r,?_);rw[e,J5<|by rw[hc];decide,jg,Ĭ]|ai=>
   dsimp[dh,cy,ď,Ë,Å,cT,Û,eI,ċ,bK,cB];show(uH (.X<|v _) (dW z.1)<|AD I.kd b).v ?_;show(DD<|D8 (I.at_ z b)<|I.ne (.Q g) b).v ?_;show K9 (λh=>I.nd G ?_) (by have:=ſ (λz:(ae×ae)×jq×am=>!mv z.1)<|Z.ze i;rw[ţ]at ah;lia) _ (fw,_,?r,?_)
   .let(y,h1,N):=Ü.Z h;show Ü.v (y,(Ĥ.Z h1).1,N)
   .rw[e,bu<|by rw[hc];rfl,jg,uJ,uJ,Ć,Ć];rfl
 .let(x,?r,?r):=B;show(v _,?_);rw[D4 g,AJ,Ä,Ä,ź];show H x
def a0Y mv M Z:fP mv M (GZ Z)=(Z.H λz=>mv z.1).o λz=>⟨M z.1,z.2.1.zd⟩:=by ext fP GZ;rw[jf,æ];rfl
def AL mv(Z:Zr):(Z.o (·.1)).H mv=(Z.H λz=>mv z.1).o (·.1):=by rw[jf];rfl
def Lm!(k:am):MS:=aL (dA 9<|bI (f k "_law_led")<|aB (bI (f k "_law_over")<|aB (bY<|aB (mC<|.p 1)<|aB (mC<|.p 0)<|aB (mC<|.p 0)<|aB (mC<|.p 1)<|aB (mC<|.p 0)<|aB (mC<|.p 0) aD)<|aB (aC 1) aD)<|aB (aC 5) aD)<|aL (dA 10<|mE (aA bE (aA bE (aC 0)<|mC<|.p 1)<|aC 5) iH iH<|jT<|fA<|mC<|.p 1)<|bB (c7<|aC 3) (d8 (aC 8) (aC 9)<|aA bS (fW fD (aC 8)<|aB (aC 9)<|aB (cU aD) aD)<|aC 10)<|d8 (aC 8) (aC 9)<|aA bS (aC 10)<|fW fD (aC 8)<|aB (aC 9)<|aB (cU aD) aD
def a0Z k{b μ:Hm}{S:Zr}(X:0<=u/\u<4){L:jq}(Y:b<+:μ)(T:b.f<=m)(U:n<=μ.f)(J:Pz μ n m S)(O:bE (.z p) (PP z) μ=a7 ⟨.z c,μ⟩)(hc:μ[c]?=a7 (.D<|L.o PP))(M:L.f<=100)(Q:S.f<=10000)(hA:(b8 (GZ S)<|aF (aZ u v) z).f<=10100)(H:∀g a x y,b<+:a->Pz a n m g->GZ g=eD o (GZ S) ⟨aF (aZ u v) z,L.zd⟩->R ⟨.nx,[a7<|.L [G,.z p],a7<|.L [.p u,.p v],s,a7<|.bl o,A,a7<|PP z,B,E,a7<|.z m,x,y],a⟩):
  W (Lm (k+1) [a7<|.L [G,.z p],a7<|.L [.p u,.p v],s,a7<|.bl o,A,a7<|PP z,B,E,a7<|.z m,x,y] μ) R:=by
 let j:=aS μ<|C.D<|L.zd.o PP;let i:=J.keep λc y h=>aI j h;let(d,I,w):=Lc (g:=aF (aZ u v) z) (L:=L.zd) o (Y.u j) T (ĥ U j.ke) i (bT _ _) (by rw[R4];show M) Q hA;show bN (eP<|aX<|aY (ds:=[LD eJ,.L [.p u,.p v]]) (aw:=μ) ""<|(Lf k eJ u v X _ _).v (_,?r,?_));rw[Ko];show(Le k (aZ u v) (xC u v) z _ _).v<|bN<|a0T M O hc ?_;let K:=w _ λg a q N e=>H g a (a7<|PP<|aF (aZ u v) z) (a7<|.z μ.f) q N e;cases o with
 |bt=>show Ð.v (_,?r,ď.v<|bD<|DR (_,?r,DS i.dic,_,?r,_,I,_,?r,bH K λp x=>(_,?r,_,?r,x)))|ai=>show Ð.v (_,?r,ď.v<|bD (_,?r,DR (_,?r,DS i.dic,_,?r,_,I,bH K λp x=>(_,?r,_,?r,x))))
def a1a k{gt μ:Hm}(np:gt<+:μ)(I:HI gt p Z)(g:gt[p]?=a7 (.dT<|bA Z))(hl:Z.f<=100)(G:∀z∈Z,z.2.1.f<=100)(hu:0<=u/\u<4)(O:gt[t]?=a7 (.D<|((Z.o (·.1)).H<|aU u n a).o PP))(X:Pz μ gt.f b S0)(K:gt.f<=b)(e0:GZ S0=iZ (aU u n a) (GZ Z))Q(H:∀x y z S c,gt<+:c->Pz c gt.f b S->GZ S=mT (aU u n a) (aF<|aZ u n) o (GZ Z)->Q ⟨.nx,[a7<|.L [B,.z p],a7<|.L [.p u,.p n],a7<|.bl a,a7<|.bl o,A,x,a7<|.z t,N,a7<|.z b,y,z],c⟩):
  W (cV (dR<|aC 6) (dE 5) (Lm<|k+1) [a7<|.L [B,.z p],a7<|.L [.p u,.p n],a7<|.bl a,a7<|.bl o,A,T,a7<|.z t,N,a7<|.z b,b0,b0] μ) Q:=by
 show Õ.v<|Ú.v (_,?r,(fK<|aI np O).v ?_);show mO (λi j c=>∃x y z S,j=[a7<|.L [B,.z p],a7<|.L [.p u,.p n],a7<|.bl a,a7<|.bl o,A,x,a7<|.z t,N,a7<|.z b,y,z]/\gt<+:c/\Pz c gt.f b S /\
   GZ S=(((Z.H λz=>aU u n a z.1).ze i).o λz=>⟨aF (aZ u n) z.1,z.2.1.zd⟩).foldl (eD o) (iZ (aU u n a)<|GZ Z))
  (T,b0,b0,S0,?r,np,X,e0) (by rintro _ _ _ (_|_|_|_|_|h|_);show aI h O) (λi d j c hd E=>?_) λj c E=>?_
 .let(x,y,w,S,?r,q,J,s):=E;rw[AL,æ,ĉ]at hd;let(z,R,?r):=Ľ.Z hd;let e:=(Ĥ.Z<|œ R).1;let ei:bE (.z p) (PP z.1) c=a7 ⟨.z z.2.2,c⟩:=by let h1:c[p]?=a7 (.dT<|bA Z):=aI q g;dsimp[bE,h1,dW,ě,AD I.kd e,ĝ]
  let hK:(((Z.H λz=>aU u n a z.1).ze i).o λz=>⟨aF (aZ u n) z.1,z.2.1.zd⟩).f<=100:=by rw[Ä,ţ];have:=ſ (λz:(ae×ae)×jq×am=>aU u n a z.1) Z;lia
  let(sm1,M):=Ea o (((Z.H λz=>aU u n a z.1).ze i).o λz=>⟨aF (aZ u n) z.1,z.2.1.zd⟩) (iZ (aU u n a)<|GZ Z) 100 (λx v=>by
    let(y,L,?r):=Ü.Z (Ĥ.Z v).1;show G y L) λx v=>by
    let(y,L,?r):=Ü.Z v;rw[R4];show G y (Ĥ.Z<|QN L).1
  let hS0:(iZ (aU u n a)<|GZ Z).f<=100:=by show ĥ (ſ _ _) ?_;rw[sC];show hl
  show(_,?r,a0Z k hu q K q.ke J ei (aI q<|I.at_ z e) (G z e) (by rw[<- sC,s];lia) (D9 (by rw[s];show λx v=>by have:=M x v;lia) _) λY c f f p' U e'=>(_,_,_,Y,?r,p',U,?_));rw[e',iP R,Ć,Qa,<- s];rfl
 .let(x,y,w,S,?r,q,J,s):=E;show H x y w S _ q J ?_;rw[s,Ä,AL,Ä,ź,mT,a0Y]
def pG!(Z:Zr)(mv:ae×ae->av):av:=((Z.o (·.1)).H mv).qk||(((Z.o (·.1)).H mv).f==Z.f)
def a1b k(hF:∀q,Ġ (F q)){qs:jq}(nd:qs.J)(hl:qs.f<=100)(G:qs≠[])(hh:(qs.o λq=>Tb.hashT<|a9 q).J)(I:HI μ p Z)(g:μ[p]?=a7 (.dT<|bA Z))(gl:μ[l]?=a7 (.dT<|bU (λq=>LD<|F q) qs))(B:Z.f<=100)(hb:∀z∈Z,z.2.1.f<=100)(hk:∀q∈qs,aF (F q) q∈Z.o (·.1))(J:0<=u/\u<4)(Q:jz)(O:pG Z (aU u n a)=b4->∀c,μ<+:c->Q ⟨.kf,c⟩)(H1:pG Z (aU u n a)=b3->∀S K Y c,μ<+:c->μ.f<=K->c[K]?=a7 (.dT<|bU (λq=>LD<|cQ u n a F q) qs)->Pz c μ.f Y S->GZ S=mT (aU u n a) (aF<|aZ u n) o (GZ Z)->Q ⟨.L [.z K,.z Y],c⟩):
  W (f (k+2) "_law_folded" [.L [.z l,.z p],.L [.p u,.p n],.bl a,.bl o] μ) Q:=by
 let hlt:l<μ.f:=(ã.Z gl).1;let hpt:p<μ.f:=(ã.Z g).1;rw[ZT,å];dsimp[Ì,ò,Ë,Å,cT,Û,eI,Ă,bK,cB];show(a0n gl (?_,?_)).v ?_
 .intro e;have:=br ģ e;rw[Ä]at ah;show G<|xg.Z ah
 .rw[æ];show hh
 dsimp[Ũ,ŭ];let L:μ<+:μ++[C.dT<|bU (λq=>LD<|F q) qs]:=aS _ _;show a0V k (aI L g) B J (l:=b0) _ λt b M U=>?_;let gc:b[μ.f]?=a7 (.dT<|bU (λq=>LD<|F q) qs):=aI M<|bT _ _;let g2:=aI (L.u M) g;let q2:=L.u M;dsimp[Ð,Ŀ,î,Û,ā,cT,Ë,Å,eI,ċ,bK,cB];show(Ŝ _,(a0o (aI (aS _ _) U)<|bT _ _).v ?_);let A:μ<+:b++[C.D []]:=q2.u<|aS _ _;let d:(b++[C.D []])[t]?=a7 (.D<|((Z.o (·.1)).H<|aU u n a).o PP):=aI (aS _ _) U;let h:(b++[C.D []])[μ.f]?=a7 (.dT<|bU (λq=>LD<|F q) qs):=aI (aS _ _) gc;let em:(((Z.o (·.1)).H<|aU u n a).o PP).qk=((Z.o (·.1)).H<|aU u n a).qk:=by cases(Z.o (·.1)).H (aU u n a)<;>rfl
 let el:(((((Z.o (·.1)).H<|aU u n a).o PP).f:ae)==((bA Z).f:ae))=(((Z.o (·.1)).H<|aU u n a).f==Z.f):=by rw[Ä,AE,Ψ,bg,bg];lia
 dsimp;rw[em];cases h1:((Z.o (·.1)).H<|aU u n a).qk with
 |bt=>dsimp[cy,Ö,eI];show O (by ext pG;rw[h1];rfl) _ A|ai=>
  dsimp[Ī,cm];show(mP d).v<|(YM<|aI A g).v<|ü.v ?_;dsimp;rw[el];cases X:(((Z.o (·.1)).H<|aU u n a).f==Z.f)with
  |bt=>dsimp[cy,Ö,eI];show O (by ext pG;rw[h1,X];rfl) _ A|ai=>
   dsimp[Ī,cm,Î];show a0W k hF nd hl J h d (λq hq=>Ll<|hk q hq) _ λx=>?_;let E:μ.f<(b++[C.D []]++[C.D<|qs.o PP]).f:=by have:=(ã.Z h).1;rw[ô];lia
   let s:μ<+:(b++[C.D []]++[C.D<|qs.o PP]).xl μ.f (.dT<|bU (λq=>LD<|cQ u n a F q) qs):=e6 (A.u<|aS _ _) (Ô _) _;let j:((b++[C.D []]++[C.D<|qs.o PP]).xl μ.f<|.dT<|bU (λq=>LD<|cQ u n a F q) qs)[μ.f]?=a7 (.dT<|bU (λq=>LD<|cQ u n a F q) qs):=Ŭ E;let H:t≠μ.f:=λe=>by rw[e,h]at d;ext d
   let i:((b++[C.D []]++[C.D<|qs.o PP]).xl μ.f<|.dT<|bU (λq=>LD<|cQ u n a F q) qs)[t]?=a7 (.D<|((Z.o (·.1)).H<|aU u n a).o PP):=by rw[ć<|ì H];show aI (aS _ _) d
   generalize(b++[C.D []]++[C.D<|qs.o PP]).xl μ.f (.dT<|bU (λq=>LD<|cQ u n a F q) qs)=om at s j i;dsimp[û,Ũ,ŭ];let R:HI om p Z:=I.more s;let T:=aI s g;show a0X R T B i _ λx=>?_;dsimp[];let pr:om<+:om++(C.dT (bA<|eW (om.f+1)<|Z.H λz=>!aU u n a z.1)::(Z.H λz=>!aU u n a z.1).o λz=>C.D<|z.2.1.o PP):=OL _ _;show a1a k pr R T B hb J i (S0:=eW (om.f+1) (Z.H λz=>!aU u n a z.1)) (?_,?_,λz w=>?_) (Ô _) (by rw[uK,Lb]) _ λx y z S N p5 v e5=>?_
   .rw[gk<|Ô _,Bw];rfl
   .rw[D6<|uK _ _];show(fj.o _).nodup I.kd
   .have:=D7 (Z.H λz=>!aU u n a z.1) (om.f+1) (om++[.dT<|bA<|eW (om.f+1)<|Z.H λz=>!aU u n a z.1]) [] (by rw[ô];rfl) z w;show((),?_);rw[Ĭ,Θ]at ah;show ah.2
   .dsimp[Ö,ç,Å,cT,bK,cB];show(iN,H1 (by ext pG;rw[h1,X];rfl) S _ _ N (s.u p5) (Ô _) (aI p5 j) (v.dic,v.kd,λz w=>(ĥ s.ke (v.at_ z w).1,(v.at_ z w).2)) e5)
def Ln(w:∀ρ μ Q,W (me ρ μ) Q↔Q ⟨LD eJ,μ⟩){gt μ:Hm}(nd:qs.J)(hl:qs.f<=100)(np:gt<+:μ)(la:gt.f<=a)(lb:gt.f<=b)(M:a≠b)(O:μ[a]?=a7 (.dT []))(R:μ[b]?=a7 (.dT []))(gl:μ[l]?=a7 (.D<|qs.o PP))Q(H:∀x S g,gt<+:g->g[a]?=a7 (.dT<|bU (λ_=>LD eJ) qs)->Pz g gt.f b S->GZ S=kY qs->Q ⟨.nx,[I,K,a7<|.z a,a7<|.z b,x],g⟩):
  W (fQ (eM<|.z l) (dE 4) (aL (d8 (aC 2) (aC 4) me)<|d8 (aC 3) (aC 4)<|cU<|aB (aC 4) aD) ((qs.o PP).f+1) 0 [I,K,a7<|.z a,a7<|.z b,b0] μ) Q:=by
 let A:l≠a:=λe=>by rw[e,O]at gl;ext gl
 let B:l≠b:=λe=>by rw[e,R]at gl;ext gl
 show mO (λi k g=>∃x S,k=[I,K,a7<|.z a,a7<|.z b,x]/\gt<+:g/\g[a]?=a7 (.dT<|bU (λ_=>LD eJ)<|qs.ze i)/\Pz g gt.f b S/\GZ S=kY (qs.ze i)/\g[l]?=a7 (.D<|qs.o PP))
  (b0,[],?r,np,O,(R,Rl,λz u=>nomatch u),?r,gl) (λ_ _ _ (_,_,_,_,_,_,_,h)=>h) ?_ ?_
 .rintro i d k g hd (x|S|rfl|E|n|J|o|N);let(q,v,?r):=o8 hd;show(_,?r,?_);let Z:i<qs.f:=(ã.Z v).1;let T:q∉qs.ze i:=sE nd v;let lS:S.f<=100:=by rw[<- sC,o];ext kY;rw[Ä,ţ];lia
  dsimp[Ũ,ŭ,Ì,ď,w,bK,cB];show(qL n (dW q)<|by rw[Ä,ţ,õ];lia).v ?_;rw[KS T,<- iP v];let j:∀(c:am)(y:C),c≠a->g[c]?=a7 y->(g.xl a<|C.dT<|bU (λ_=>LD eJ)<|qs.ze<|i+1)[c]?=a7 y:=λc y h e=>by rw[ć<|ì h];show e
  let L:Pz (g.xl a<|C.dT<|bU (λ_=>LD eJ)<|qs.ze<|i+1) gt.f b S:=(j _ _ (ì M) J.dic,J.kd,λz u=>((J.at_ z u).1,j _ _ (λe=>by have:=(J.at_ z u).2;rw[e,n]at ah;ext ah) (J.at_ z u).2));let G:=e6 E la<|C.dT<|bU (λ_=>LD eJ)<|qs.ze<|i+1;let p:(g.xl a<|C.dT<|bU (λ_=>LD eJ)<|qs.ze<|i+1)[a]?=a7 (C.dT<|bU (λ_=>LD eJ)<|qs.ze<|i+1):=fG n;let s:=j _ _ A N;generalize g.xl a (C.dT<|bU (λ_=>LD eJ)<|qs.ze<|i+1)=i6 at L G p s;dsimp[ā,Å,cT,bK,cB];show(Ap,?_);show La (L.keep λc y h=>aI (aS i6<|C.D [PP q]) h) (p:=q) (L:=[q]) (bT _ _) G.ke () _ λX Y U=>?_;show(_,X,?r,e6 (G.u<|aS _ _) lb _,by rw[ć<|ì M];show aI (aS _ _) p,U,?_,by rw[ć<|ì B];show aI (aS _ _) s);rw[Y,o,a0u<|by rw[DY];show T,iP v];ext kY;rw[Ć];rfl
 .rintro k g (x|S|rfl|E|n|J|o|N);rw[Ä,ź]at n o;show H x S g E n J o
def AM{Q:jz}(h:W (m b μ) λp=>∃a fs d,p.1=.z a/\p.2[a]?=a7 (.ins x fs)/\fs.B g=a7 d/\Q ⟨d,p.2⟩):W (hX x g m b μ) Q:=by ext hX;rw[Ã];show bH h λp (a,fs,d,h1,c,e,i)=>?_;rw[h1];dsimp;rw[c];dsimp;rw[ad ?r,e];show À.v i
def Eb(h:W (mv b μ) λp=>W (c b p.2) λq=>∃a fs,q.1=.z a/\q.2[a]?=a7 (.ins x fs)/\fs.f<100/\Q ⟨.nx,b,q.2.xl a<|.ins x<|kR g p.1 fs⟩):W (pW x g c mv b μ) Q:=by ext pW;rw[Ã];show bH h λp h=>?_;rw[Ã];show bH h λq (a,fs,h1,d,e,i)=>?_;rw[h1];dsimp;rw[d];dsimp;rw[ad (?r,e)];show À.v i
def Lo{Q:jz}(h:W (d b μ) λp=>∃a fs,p.1=.z a/\p.2[a]?=a7 (.ins x fs)/\fs.B m=b0/\W (ms b p.2) λq=>W (c (.z a::q.1) q.2) Q):W (nH x m c d ms b μ) Q:=by ext nH;rw[Ã];show bH h λp (a,fs,h1,e,g,i)=>?_;rw[h1];dsimp;rw[e];dsimp;rw[ad (?r,g),Ã];show i
def a1c{Q:jz}(h:W (ms b μ) λq=>W (a (.z q.2.f::q.1)<|q.2++[.ins x []]) λr=>r.1=.kf/\Q ⟨.z q.2.f,r.2⟩):W (pX x a ms b μ) Q:=by ext pX;rw[Ã];show bH h λq h=>?_;rw[Ã];show bH h λr (h1,c)=>?_;rw[h1];show À.v c
def a1d k w h(hw:1<=w/\w<=3)(j:1<=h/\h<=3)(μ:Hm)(Q:jz)(H:∀a aw,μ<+:aw->aw[a]?=a7 (.D<|((iQ w h).H cR).o PP)->Q ⟨.z a,aw⟩):W (f (k+2) "quarters_in" [.p w,.p h] μ) Q:=by
 rw[Y7,å];dsimp[Ö];show jH (xs:=(iQ w h).o PP) (p:=λd=>cR<|fL d) (v:=λd=>d) ?_;dsimp[Ú,Ë,Å,cT,bK,cB];show D0 _ w h () () _ _ λa i g c n=>?_;show(fK c).v (nQ c,?r,?_,λd aw hd b=>?_,λd aw hd x b=>?_,λaw b e=>?_)
 .have:=AG (w:=w) (h:=h) () ();rw[Ä,õ];lia
 .let(u,v,?r):=uF hd;dsimp[Ź,Ζ,Ħ,Ë,Å,cT,bK,cB,K4,ľ];show(?r,Ę _)
 .dsimp[Ź,Ζ,bK,cB];show(fw,Ę _)
 .show H _ _ (g.u b) ?_;rw[e,uE cR]
def AN:∀w∈[(1:ae),2,3],∀h∈[(1:ae),2,3],(iQ w h).H cR=gO w h/\(gO w h).f<=36/\gO w h≠[]/\(gO w h).J/\((gO w h).o λq=>Tb.hashT<|a9 q).J/\(gO w h).all cR=bt:=by decide +de
def Lp(h:cR p=b4)(a:n%4=0):bR u p≠n:=by
 unfold cR at h;ext bR;split at h
 .dsimp[bg]at h;lk<;>(try lk)<;>(try lk)<;>lia
 .dsimp[â,bg]at h;lk<;>(try lk)<;>(try lk)<;>lia
def a1e(h:cR p=b4)(d:n%4=0):cR (aF (aZ u n) p)=bt:=by
 let(x,y):=p;let q:∀a b:ae,(a%2=1/\b%4=2)\/(a%4=2/\b%2=1)->cR ⟨a,b⟩=bt:=λa b z=>by
  ext cR;dsimp;lk
  .rw[bg];lia
  .rw[â,bg,bg];lia
 let r:(x%2=1/\y%4=2)\/(x%4=2/\y%2=1):=by
  unfold cR at h;dsimp at h;split at h
  .rw[bg]at h;lia
  .rw[â,bg,bg]at h;lia
 obtain(m|rfl):∃m,n=4*m:=(n/4,());clear d h;ext aZ;lk
 .change cR ⟨1*x+0*y+0,0*x+(-1)*y+2*(4*m)⟩=b4;rcases r with(h1|c)|(h1|c)
  .show q _ _<|.Q ((),())
  .show q _ _<|.X ((),())
 .lk
  .change cR ⟨(-1)*x+0*y+2*(4*m),0*x+1*y+0⟩=b4;rcases r with(h1|c)|(h1|c)
   .show q _ _<|.Q ((),())
   .show q _ _<|.X ((),())
  .lk
   .change cR ⟨0*x+1*y+4*m,1*x+0*y+-(4*m)⟩=b4;rcases r with(h1|c)|(h1|c)
    .show q _ _<|.X ((),())
    .show q _ _<|.Q ((),())
   .change cR ⟨0*x+(-1)*y+4*m,(-1)*x+0*y+4*m⟩=b4;rcases r with(h1|c)|(h1|c)
    .show q _ _<|.X ((),())
    .show q _ _<|.Q ((),())
def mW!(u n:ae)(Z:Zr):ab ae:=(Z.o (·.1)).o λp=>mV<|bR u p-n
def Lq μ x:∀ws:ab ae,oJ μ (.p x) (ws.o D.p)=a7 (ws.any λw=>w==x)
 |[]=>?r|w::ws=>by rw[í,vm];change(eX 8 μ (.p w)<|.p x).U _=_;let e:eX 8 μ (.p w) (.p x)=a7 (w==x):=?r;rw[e,Lq μ x ws];rfl
def a1f{ws:ab ae}{Q:jz}(h:μ[a]?=a7 (.D<|ws.o D.p)):W (dB b4 (.p x) (.z a) μ) Q↔Q ⟨.bl<|!(ws.any λw=>w==x),μ⟩:=by
 let b:bW μ (.z a)=a7 (ws.o D.p):=by dsimp[bW,h]
 have:dB b4 (.p x) (.z a) μ=a7 ⟨.bl<|!(ws.any λw=>w==x),μ⟩:=by dsimp[dB,oK,h,b,ě,Lq,ĝ,cy]
 rw[ah];show À
def a1g k{μ:Hm}(g:μ[p]?=a7 (.dT<|bA Z))(s:Z.f<=100)(E:ϥ e u n)Q(H:∀t a,μ<+:a->a[t]?=a7 (.D<|(mW u n Z).o D.p)->Q ⟨.nx,[a7<|.z p,a7<|PP e,a7<|.z t],a⟩):
  W (f9 0 (dA 2<|gK (gX<|aC 0) iW<|bI (f (k+2) "hand_of")<|aB (aC 3)<|aB (aC 1) aD) o [a7<|.z p,a7<|PP e,b0] μ) Q:=by
 let c:p<μ.f:=(ã.Z g).1;let h:(μ.xl p<|.dF<|bA Z)[p]?=a7 (.dF<|bA Z):=Ŭ c;show xD (a:=p) ?r g ?_;rw[ò];show jH (xs:=(Z.o (·.1)).o PP) (p:=λ_=>b4) (v:=λd=>.p<|mV<|bR u (fL d)-n) ?_;rw[D1 (a:=p) ?r h,AJ,À];show(Ak,?r,by rw[Ä,Ä,õ];lia,λd a hd b=>ą.v (?r,Ę _),λd a hd x b=>?_,λa b i=>?_)
 .let(q,_,?r):=Ü.Z hd;dsimp[Ź,Ζ,Ë,Å,cT,bK,cB];show(AK k E _ _).v (?r,Ę _)
 .show(aI b h,?_);dsimp;let j:(((Z.o (·.1)).o PP).H λ_=>b4).o (λd=>D.p<|mV<|bR u (fL d)-n)=(mW u n Z).o D.p:=by rw[N5.v λ_ x=>rfl];ext mW;dsimp[æ];rfl
  rw[j,ĸ]at i;rw[ĸ];show H _ _ (AF g b)<|by rw[ć ()];show i
def xE!(u n:ae)(Z:Zr):av:=!((mW u n Z).any λw=>w==1)||!((mW u n Z).any λw=>w==-1)
def a1h(g:μ[t]?=a7 (.D<|(mW u n Z).o D.p))Q:
  W (iG (aP<|aA (dB b4) (mC<|.p 1)<|aC 2) (aP<|aA (dB b4) (fA<|mC<|.p 1)<|aC 2) [a,b,a7<|.z t] μ) Q↔Q ⟨xE u n Z,μ⟩:=by
 dsimp[Ŀ,î,Û,eI,Ds,bK,cB,a1f g];ext xE;cases !((mW u n Z).any λw=>w==1)<;>simp
def a1i k{μ:Hm}(g:μ[p]?=a7 (.dT<|bA Z))(b:Z.f<=100)(E:ϥ e u n)(hB:xE u n Z=b3)(Q:jz)(H:∀aw,μ<+:aw->Q ⟨.kf,aw⟩):W (f (k+3) "check_fold" [.z p,PP e] μ) Q:=by rw[ZK,å,Ì];show a1g k g b E _ λt d c a=>?_;dsimp[Ð];show(a1h a _).v ?_;rw[hB];dsimp[Ī,cm,Î];show H _ c
def Ec{a:Type}{p q:a->av}:∀{l:ab a},(∀z∈l,p z=q z)->l.any p=l.any q
 |[],_=>?r|x::l,h=>by rw[vm,vm,h x<|ŗ ..,Ec λz b=>h z<|ķ _ b]
def a1j a(h:∀z∈Z,bR u z.1≠n):xE u n Z=pG Z (aU u n a):=by
 let one:((mW u n Z).any λw=>w==1)=Z.any λz=>ag (n<bR u z.1):=by
  ext mW;rw[pF,pF];show Ec λz b=>?_;change(mV (bR u z.1-n)==1)=_;ext mV;by_cases c:n<bR u z.1
  .rw[ad (),cc c];rfl
  .rw[ac (),ba c];lk<;>rfl
 let two:((mW u n Z).any λw=>w==-1)=Z.any λz=>!ag (n<bR u z.1):=by
  ext mW;rw[pF,pF];show Ec λz b=>?_;have:=h z b;change(mV (bR u z.1-n)==-1)=_;ext mV;by_cases c:n<bR u z.1
  .rw[ad (),cc c];rfl
  .rw[ac (),ad (),ba c];rfl
 let d:((Z.o (·.1)).H<|aU u n a).qk=!(Z.any λz=>aU u n a z.1):=by rw[AL];rw[Ψ];simp[ab.isEmpty_iff,NJ,QV]
 let e:(((Z.o (·.1)).H<|aU u n a).f==Z.f)=!(Z.any λz=>!aU u n a z.1):=by rw[AL,Ä,Ψ,bg,ab.length_filter_eq_length_iff];simp[QV]
 ext xE pG;rw[one,two,d,e];ext aU;cases a with
 |bt=>dsimp[beq_true]|ai=>dsimp[beq_false,Rv];rw[Rw]
structure Ω(μ:Hm)(b:am)(d:D)(F:ae×ae->Ly)(qs:jq)(G:Gr):Prop where
 ex:∃l p Z,d=.L [.z l,.z p]/\μ[l]?=a7 (.dT<|bU (λq=>LD<|F q) qs)/\HI μ p Z/\μ[p]?=a7 (.dT<|bA Z)/\GZ Z=G/\∀z∈Z,z.2.2≠b
def Ω.keep(S:Ω μ b d F qs G)(i:μ[b]?=a7 (.D xs))(h:∀c y,c≠b->μ[c]?=a7 y->aw[c]?=a7 y):Ω aw b d F qs G:=by let(l,p,Z,e,a,I,g,n,nb):=S.ex;let j:=h p _ (λe=>by rw[e,i]at g;ext g) g;show(l,p,Z,e,h l _ (λe=>by rw[e,i]at a;ext a) a,(.Q j,I.kd,λz k=>h _ _ (nb z k)<|I.at_ z k),j,n,nb)
def Ω.more{aw:Hm}(S:Ω μ b d F qs G)(h:μ<+:aw):Ω aw b d F qs G:=by let(l,p,Z,e,c,I,g,a,nb):=S.ex;show(l,p,Z,e,aI h c,I.more h,aI h g,a,nb)
def Ω.new(g:μ[l]?=a7 (.dT<|bU (λq=>LD<|F q) qs))(J:Pz μ n p Z)(c:b<n):Ω μ b (.L [.z l,.z p]) F qs (GZ Z):=
 (l,p,Z,?r,g,(.Q J.dic,J.kd,λz a=>(J.at_ z a).2),J.dic,?r,λz a e=>by have:=(J.at_ z a).1;lia)
structure Gd(qs:jq)(F:ae×ae->Ly)(G:Gr):Prop where
 di:∀q,Ġ (F q)
 pl:Ň qs (λq=>aF (F q) q) G
 qr:∀q∈qs,cR (aF (F q) q)=b4
def Gd.fold(h:Gd qs F G)(c:n%4=0)a o:Gd qs (cQ u n a F) (mT (aU u n a) (aF<|aZ u n) o G):=by
 show(KW h.di,?_,λq b=>?_)
 .have:=a0r h.pl (mv:=aU u n a) (DT u n) o;rw[show(λq=>aF (cQ u n a F q) q)=λq=>if aU u n a (aF (F q) q)then aF (aZ u n) (aF (F q) q)else aF (F q) q from m4 λq=>KY u n a F q];show ah
 .rw[KY];lk
  .show a1e (h.qr q b) c
  .show h.qr q b
def Gd.key(h:Gd qs F (GZ Z)):(∀q∈qs,aF (F q) q∈Z.o (·.1))/\(∀z∈Z,cR z.1=b4)/\Z.f<=qs.f/\∀z∈Z,z.2.1.f<=qs.f:=by
 show(λq a=>?_,λz b=>?_,h.pl.lenZ.1,λz b=>(h.pl.lenZ.2 z b).2)
 .rw[<- mS];show h.pl.key.v (q,a,?r)
 .have:z.1∈(GZ Z).o (·.1):=by rw[mS];show Ü.v (z,b,?r)
  let(q,a,e):=h.pl.key.Z ah;rw[<- e];show h.qr q a
def Ee!(G:Gr)(mv:ae×ae->av):av:=((G.o (·.1)).H mv).qk||(((G.o (·.1)).H mv).f==G.f)
def Lr Z mv:pG Z mv=Ee (GZ Z) mv:=by ext pG Ee;rw[mS,sC]
noncomputable abbrev sG(w h:ae)(b:am):ab (cf×D):=[⟨"wide",.p w⟩,⟨"high",.p h⟩,⟨"states",.z b⟩]
def a1k xs(d:a):lv (xs++[d]) (-1)=a7 d:=by ext lv oE;rw[ac ⋯,ad<|by rw[ô,wj];lia];change(xs++[d])[_]?=_;rw[show((-1:ae)+((xs++[d]).f:ae)).zi=xs.f by rw[ô,wj];lia];simp
def Ls{r:aE}(i1:μ[o]?=a7 (.ins "Folding"<|sG w h b))(i2:μ[b]?=a7 (.D<|xs++[d]))(Q:jz)(H:Q ⟨d,μ⟩):W ((aA bE (hX "Folding" "states"<|aC 0)<|fA<|mC<|.p 1) (a7 (.z o)::r) μ) Q:=by rw[Û];show AM ?_;dsimp[bK];show(o,_,_,?r,i1,?r,?_);dsimp[Ds,eI];show(iY i2<|a1k xs d).v H
def a1l(G:Gd qs F (GZ Z))(a:n%4=0):(∀q∈qs,bR u (aF (F q) q)≠n)/\∀z∈Z,bR u z.1≠n:=(λq b=>Lp (G.qr q b) a,λz hz=>Lp (G.key.2.1 z hz) a)
def a1m k(nd:qs.J)(hl:qs.f<=64)(i1:μ[o]?=a7 (.ins "Folding"<|sG w h b))(i2:μ[b]?=a7 (.D<|xs++[d]))(hx:xs.f<=1000)(S:Ω μ b d F qs G)(L:Gd qs F G)(E:ϥ e u n)(hn:n%4=0)(hN:Ee G (aU u n a)=b3)(Q:jz)(H:∀R i,(∀c y,c≠b->μ[c]?=a7 y->i[c]?=a7 y)->i[b]?=a7 (.D<|xs++[d]++[R])->Ω i b R (cQ u n a F) qs (mT (aU u n a) (aF<|aZ u n) B G)->Q ⟨.kf,i⟩):
  W (f (k+5) "Folding.fold" [.z o,PP e,.bl a,.bl B] μ) Q:=by
 let(l,p,Z,?r,g1,I,T,?r,nb):=S.ex;let(v1,U):=a1l L (u:=u) hn;let(_,_,lZ,bZ):=L.key;rw[ZZ,å,Ì,ò];show Ls i1 i2 _ ?_;dsimp[Ũ,ŭ,Ì,ï,Ë,Å,cT,Û,eI,ċ,bK,cB];show a1i (k+1) T () E (by rw[a1j a U,Lr];show hN) _ λg x=>?_;let ib:b<μ.f:=(ã.Z i2).1;dsimp[ò,Ğ,Ħ,bK,cB,ľ];let step:∀Q:jz,Q ⟨.p<|sd a,g⟩->(if a=b4 then W ((mC<|.p 1) [a7<|.z o,a7<|PP e,a7<|.bl a,a7<|.bl B,a7<|.L [.z l,.z p],b0] g) Q else W ((fA<|mC<|.p 1) [a7<|.z o,a7<|PP e,a7<|.bl a,a7<|.bl B,a7<|.L [.z l,.z p],b0] g) Q):=λQ h=>by
  cases a with
  |bt=>show À.v h|ai=>show À.v h
 show step _ ?_;dsimp[Ũ,ŭ];show jZ<|AM ?_;dsimp[bK];let M:=aI x i2;show(o,_,_,?r,aI x i1,?r,by dsimp[rK,M],?_);dsimp[Å,cT,ç,Ë,Û,eI,Ă,ċ,bK,cB];show a0F k L.di nd () E v1 (aI x g1) _ ?_;let j:μ<+:g++[C.dT<|bU (λq=>LD<|cQ u n a F q) qs]:=x.u<|aS _ _;let gl:(g++[C.dT<|bU (λq=>LD<|cQ u n a F q) qs])[g.f]?=a7 (.dT<|bU (λq=>LD<|cQ u n a F q) qs):=bT _ _;let hge:μ.f<=g.f:=x.ke;let s:(g++[C.dT<|bU (λq=>LD<|cQ u n a F q) qs]).f=g.f+1:=by rw[ô];rfl
 generalize g++[C.dT<|bU (λq=>LD<|cQ u n a F q) qs]=i6 at j gl s;show a0Q (k+1) (I.more j) (aI j T) () (λz v=>by have:=bZ z v;lia) E U _ λY A K J e3=>?_;show(iN,(oZ (aI (j.u K) i2)<|by rw[ô,wj,õ];lia).v ?_);let N:b<A.f:=Ŏ ib (j.u K).ke;let ne:g.f≠b:=()
 let O:i6.f≠b:=()
 show H _ _ (λc y hc h=>by rw[ć<|ì hc];show aI (j.u K) h) (Ŭ N) ?_;let X:Pz (A.xl b<|.D<|xs++[.L [.z l,.z p]]++[.L [.z g.f,.z i6.f]]) i6.f i6.f Y:=
  (by rw[ć<|ì O];show J.dic,J.kd,λz v=>((J.at_ z v).1,by rw[ć<|by have:=(J.at_ z v).1;lia];show(J.at_ z v).2))
 have:=Ω.new (b:=b) (l:=g.f) (F:=cQ u n a F) (qs:=qs) (by rw[ć<|ì ne];show aI K gl) X ();rw[e3]at ah;show ah
def a1n k(hw:1<=w/\w<=3)(a:1<=h/\h<=3)(μ:Hm)(Q:jz)(H:∀l p S aw,μ<+:aw->aw[l]?=a7 (.dT<|bU (λ_=>LD eJ)<|gO w h)->Pz aw μ.f p S->GZ S=kY (gO w h)->Q ⟨.L [.z l,.z p],aw⟩):
  W (f (k+2) "_law_begun" [.p w,.p h] μ) Q:=by
 let(_,g,i,e,_,_):=AN w (gY hw) h<|gY a;rw[ZS,å];dsimp[Ì,ò,û,Ũ,ŭ,Õ,Ú,Ë,Å,cT,bK,cB];show a0j k w h hw a _ _<|(fK<|bT _ _).v ?_;show Ln (me:=bY (aB (mC<|.p 1)<|aB (mC<|.p 0)<|aB (mC<|.p 0)<|aB (mC<|.p 1)<|aB (mC<|.p 0)<|aB (mC<|.p 0) aD)) (λj μ Q=>À) (gt:=μ) e () (((aS _ _).u<|aS _ _).u<|aS _ _) (Ô _) (by rw[ô];lia) (by rw[ô];show ý<|ς _) ?_ ?_ (bT _ _) _ λx S aw d c J b=>?_
 .show aI ((aS _ _).u<|aS _ _)<|bT _ _
 .show aI (aS _ _)<|bT _ _
 .dsimp[Ö,ç,Å,cT,bK,cB];show(iN,H _ _ S aw d c J b)
def a1o k(hw:1<=w/\w<=3)(d:1<=h/\h<=3)(μ:Hm)(Q:jz)(H:∀l p S aw,μ<+:aw->aw[l]?=a7 (.dT<|bU (λ_=>LD eJ)<|gO w h)->Pz aw μ.f p S->GZ S=kY (gO w h)->Q ⟨.L [.z l,.z p],aw⟩):
  W (f (k+3) "unfolded" [.p w,.p h] μ) Q:=by
 let(n,s,u,o,_,_):=AN w (gY hw) h<|gY d;rw[ZM,å];dsimp[Ì,ò,û,Ũ,ŭ,Õ,Ú,Ë,Å,cT,bK,cB];show a1d k w h hw d _ _ λc q b a=>?_;rw[n]at a;show(fK a).v ?_;let g:(μ++[C.dT []]).f=μ.f+1:=by rw[ô];rfl
 show Ln (me:=mC DE) (λv μ Q=>À) (gt:=μ) o () (((aS _ _).u<|aS _ _).u b) (Ô _) () (by rw[g];show ý<|ς _) ?_ ?_ a _ λx S aw j i J e=>?_
 .show aI ((aS _ _).u b)<|bT _ _
 .show aI b<|bT _ _
 .dsimp[Ö,ç,Å,cT,bK,cB];show(iN,H _ _ S aw j i J e)
def a1p a:kR "wide" a []=([⟨"wide",a⟩]:ab (cf×D)):=?r
def a1q a b:kR "high" b [⟨"wide",a⟩]=([⟨"wide",a⟩,⟨"high",b⟩]:ab (cf×D)):=by ext kR;rw[ac ⋯];rfl
def a1r a b c:kR "states" c [⟨"wide",a⟩,⟨"high",b⟩]=([⟨"wide",a⟩,⟨"high",b⟩,⟨"states",c⟩]:ab (cf×D)):=by ext kR;rw[ac ⋯];ext kR;rw[ac ⋯];rfl
def a1s k(hw:1<=w/\w<=3)(v:1<=h/\h<=3)(μ:Hm)(Q:jz)(H:∀b d g,μ<+:g->b<g.f->g[μ.f]?=a7 (.ins "Folding"<|sG w h b)->g[b]?=a7 (.D [d])->Ω g b d (λ_=>eJ) (gO w h) (kY<|gO w h)->Q ⟨.kf,g⟩):W (f (k+5) "Folding" [.z μ.f,.p w,.p h]<|μ++[.ins "Folding" []]) Q:=by
 rw[Z1,ZY,å];dsimp[Ì,ï,Ë,Å,cT,bK,cB];show a0B k () () _ _ ?_;show Eb ?_;dsimp[bK,cB];show(_,_,?r,bT _ _,⋯,?_);rw[AA,a1p];try dsimp
 show Eb ?_;dsimp[bK,cB];show(_,_,?r,bT _ _,show(1:am)<100 by decide,?_);rw[AA,a1q];try dsimp
 show Eb ?_;dsimp[ā,Ë,Å,cT,bK,cB];show a1o k hw v _ _ λl p S a n o J u=>(Ap,_,_,?r,aI (n.u<|aS _ _)<|bT _ _,show(2:am)<100 by decide,?_);rw[a1r];let o1:μ.f<a.f:=by have:=n.ke;rw[ô]at ah;show ah
 let ne:a.f≠μ.f:=()
 let x:μ<+:(a++[C.D [.L [.z l,.z p]]]).xl μ.f (.ins "Folding"<|sG w h a.f):=e6 (((aS _ _).u n).u<|aS _ _) (Ô _) _;let i:∀(c:am)(y:C),c≠μ.f->a[c]?=a7 y->((a++[C.D [.L [.z l,.z p]]]).xl μ.f<|.ins "Folding"<|sG w h a.f)[c]?=a7 y:=λc y hc e=>by rw[ć<|ì hc];show aI (aS _ _) e
 let q:a[μ.f]?=a7 (.ins "Folding" [⟨"wide",.p w⟩,⟨"high",.p h⟩]):=aI n<|bT _ _;let s:=i p _ (λe=>by have:=J.dic;rw[e,q]at ah;ext ah) J.dic;show H a.f _ _ x (by rw[ĸ,ô];show ς _) (Ŭ<|Ŏ o1 (aS a _).ke) (by rw[ć<|ì ne];show bT _ _) (l,p,S,?r,i l _ (λe=>by rw[e,q]at o;ext o) o,(.Q s,J.kd,λz j=>i _ _ (λe=>by have:=(J.at_ z j).2;rw[e,q]at ah;ext ah) (J.at_ z j).2),s,u,λz j e=>?_);have:=(ã.Z (J.at_ z j).2).1;lia
def sH!(u n j:ae):ae×ae:=if u=0 then⟨2+4*j,n⟩else if u=1 then⟨n,2+4*j⟩else if u=2 then⟨n+1+2*j,1+2*j⟩else⟨1+2*j,n-1-2*j⟩
def AO(m:∀p,c9 p e=aF A p):fN e=A:=by ext fN;rw[m ⟨1,0⟩,m ⟨0,0⟩,m ⟨0,1⟩];ext aF;show Ly.ext' ?_ ?_ ?_ ?_ ?_ ?_<;>(dsimp;lia)
def a1t(a:0<=u/\u<4)(b:n%4=0)j:ϥ (sH u n j) u n:=by
 let c:u=0\/u=1\/u=2\/u=3:=()
 rcases c with rfl|rfl|rfl|rfl
 .let e:sH 0 n j=⟨2+4*j,n⟩:=?r;let m:∀p,c9 p ⟨2+4*j,n⟩=aF (aZ 0 n) p:=λp=>by ext c9;rw[ac<|by dsimp;lia,ad b];change⟨p.1,2*n-p.2⟩=⟨1*p.1+0*p.2+0,0*p.1+(-1)*p.2+2*n⟩;congr 1<;>lia
  rw[e];show(a,λp=>?_,?r,m,?_)
  .ext nR;rw[ac<|by dsimp;lia,ad b];rfl
  .show AO m
 .let e:sH 1 n j=⟨n,2+4*j⟩:=?r;let m:∀p,c9 p ⟨n,2+4*j⟩=aF (aZ 1 n) p:=λp=>by ext c9;rw[ac<|by dsimp;lia,ac<|by dsimp;lia];change⟨2*n-p.1,p.2⟩=⟨(-1)*p.1+0*p.2+2*n,0*p.1+1*p.2+0⟩;congr 1<;>lia
  rw[e];show(a,λp=>?_,?r,m,?_)
  .ext nR;rw[ac<|by dsimp;lia,ac<|by dsimp;lia];rfl
  .show AO m
 .let e:sH 2 n j=⟨n+1+2*j,1+2*j⟩:=?r;let m:∀p,c9 p ⟨n+1+2*j,1+2*j⟩=aF (aZ 2 n) p:=λp=>by ext c9;rw[ad<|by dsimp;lia,ad<|by dsimp;lia];change⟨p.2+(n+1+2*j-(1+2*j)),p.1-(n+1+2*j-(1+2*j))⟩=⟨0*p.1+1*p.2+n,1*p.1+0*p.2+-n⟩;congr 1<;>lia
  rw[e];show(a,λp=>?_,?_,m,?_)
  .ext nR;rw[ad<|by dsimp;lia,ad<|by dsimp;lia];rfl
  .change n+1+2*j-(1+2*j)=n;lia
  .show AO m
 .let e:sH 3 n j=⟨1+2*j,n-1-2*j⟩:=?r;let m:∀p,c9 p ⟨1+2*j,n-1-2*j⟩=aF (aZ 3 n) p:=λp=>by ext c9;rw[ad<|by dsimp;lia,ac<|by dsimp;lia];change⟨1+2*j+(n-1-2*j)-p.2,1+2*j+(n-1-2*j)-p.1⟩=⟨0*p.1+(-1)*p.2+n,(-1)*p.1+0*p.2+n⟩;congr 1<;>lia
  rw[e];show(a,λp=>?_,?_,m,?_)
  .ext nR;rw[ad<|by dsimp;lia,ac<|by dsimp;lia];rfl
  .change 1+2*j+(n-1-2*j)=n;lia
  .show AO m
def a1u(a:0<=u/\u<4):lv [P (2+4*j) n,P n<|2+4*j,P (n+1+2*j)<|1+2*j,P (1+2*j)<|n-1-2*j] u=a7 (PP<|sH u n j):=by
 have:u=0\/u=1\/u=2\/u=3:=()
 rcases ah with rfl|rfl|rfl|rfl<;>rfl
def a1v{ps:jq}{i:ae}(h0:0<=i)(h:i<ps.f):∃q,lv (ps.o PP) i=a7 (PP q):=by
 ext lv;rw[DG h0<|by rw[Ä];show h];let a:i.zi<ps.f:=()
 show(ps[i.zi],by rw[ě,ĉ,Ċ a];rfl)
def a1w(g:μ[p]?=a7 (.dT<|bA Z)):iM [.z p] μ=a7 ⟨.z μ.f,μ++[.D<|(Z.o (·.1)).o PP]⟩:=by
 let e:(bA Z).o (λk=>D.L<|k.1.o D.p)=(Z.o (·.1)).o PP:=by ext bA;rw[æ,æ];rfl
 show fM<|(DC g).v<|by rw[e]
def a1x{r:aE}{ps:jq}(g:μ[l]?=a7 (.D<|ps.o PP))(h:0<ps.f):∃q,aA bE (aC 4) (aA bP (aA eV (aC 1)<|mC<|.p 64)<|bI dS<|aB (aC 4) aD) (a0::a7 (.p v)::a2::a3::a7 (.z l)::r) μ=a7 ⟨PP q,μ⟩:=by
 let a:(0:ae)<((ps.o PP).f:am):=by rw[Ä];lia
 let(q,b):=a1v (ps:=ps) (i:=v/64%((ps.o PP).f:am)) (OD _ ()) (by have:=OJ (v/64) a;rw[Ä]at ah ⊢;show ah);show(q,fM<|Û.v (_,?r,bD<|bG ?r ?r<|(uC ⋯<|by decide).v<|aY ?r<|(mP g).v<|(fF a).v<|(iY g b).v ?r))
def a1y{μ:Hm}{r:aE}k(a:0<=u/\u<4){Q:jz}(H:∀n aw,μ<+:aw->n%4=0->Q ⟨.p n,aw⟩):
  W (aA bS (aA cE (aA eV (bI (f (k+1) "_law_value")<|aB (aC 5)<|aB (aC 3) aD)<|mC<|.p 4)<|mC<|.p 4) (aA cE (aA bP (aA eV (aC 1)<|mC<|.p 4)<|mC<|.p 2)<|mC<|.p 4) (a0::a7 (.p v)::a2::a7 (.p u)::a4::a7 (PP q)::r) μ) Q:=by
 show bD<|bD<|bD<|aY ?r<|Ld k q u a _ _ λc b=>(_,?r,?_);dsimp[uC (show(0:ae)<4 by decide) ⋯,Z4,fF<|show(0:ae)<2 by decide,è,bK,cB,eI,Û];show H _ _ b ()
def Lu(h:t a μ=a7 ⟨b,aw⟩)(c:b=b4):bB t A B a μ=A a aw:=by ext bB;rw[h,c];rfl
def Lv(h:t a μ=a7 ⟨b,aw⟩)(c:b=b3):bB t A B a μ=B a aw:=by ext bB;rw[h,c];rfl
def a1z{r:aE}(b:n%4=0):∃a,a%4=0/\bB (aP<|aA (aV b3) (aA bP (aA eV (aC 1)<|mC<|.p 8)<|mC<|.p 7)<|mC<|.p 3) (dA 6<|aA cE (mC<|.p 4)<|aA dQ (aA bP (aC 2)<|aA cE (mC<|.p 2)<|aA oG (mC<|.p 10)<|mC<|.p 58)<|aA oG (mC<|.p 10)<|mC<|.p 58) bM (a0::a7 (.p v)::a7 (.p far)::a3::a4::a5::a7 (.p n)::r) μ=a7 ⟨.nx,a0::a7 (.p v)::a7 (.p far)::a3::a4::a5::a7 (.p a)::r,μ⟩:=by
 cases c:v/8%7==3
 .show(n,b,Lv (aw:=μ) "" c)
 .show(4*(far%(2*10^58)-10^58),SK ..,(Lu (aw:=μ) "" c).u "")
def a1A{r:aE}:aA bP (aA eV (aC 2)<|mC<|.p 3) (mC<|.p 9) (a0::a::a7 (.p far)::r) μ=a7 ⟨.p<|far/3%9,μ⟩:=""
def a1B{r:aE}:∃b,bB (aP<|aA (aV b3) (aA bP (aA eV (aC 1)<|mC<|.p 56)<|mC<|.p 5)<|mC<|.p 2) (dA 7<|aA bP (aA eV (aC 2)<|mC<|.p 7)<|aA oG (mC<|.p 10)<|mC<|.p 57) bM (a0::a7 (.p v)::a7 (.p far)::a3::a4::a5::a::a7 (.p j)::r) μ=a7 ⟨.nx,a0::a7 (.p v)::a7 (.p far)::a3::a4::a5::a::a7 (.p b)::r,μ⟩:=by
 cases c:v/56%5==2
 .show(j,Lv (aw:=μ) "" c)
 .show(far/7%10^57,(Lu (aw:=μ) "" c).u "")
def a1C{r:aE}(a:0<=u/\u<4):aA bE (cU<|aB (bY<|aB (aA bS (mC<|.p 2)<|aA cE (mC<|.p 4)<|aC 7)<|aB (aC 6) aD)<|aB (bY<|aB (aC 6)<|aB (aA bS (mC<|.p 2)<|aA cE (mC<|.p 4)<|aC 7) aD)<|aB (bY<|aB (aA bS (aA bS (aC 6)<|mC<|.p 1)<|aA cE (mC<|.p 2)<|aC 7)<|aB (aA bS (mC<|.p 1)<|aA cE (mC<|.p 2)<|aC 7) aD)<|aB (bY<|aB (aA bS (mC<|.p 1)<|aA cE (mC<|.p 2)<|aC 7)<|aB (aA dQ (aA dQ (aC 6)<|mC<|.p 1)<|aA cE (mC<|.p 2)<|aC 7) aD) aD) (aC 3) (a0::a7 (.p v)::a2::a7 (.p u)::a4::a5::a7 (.p n)::a7 (.p j)::r) μ=a7 ⟨PP<|sH u n j,μ++[.D [P (2+4*j) n,P n<|2+4*j,P (n+1+2*j)<|1+2*j,P (1+2*j)<|n-1-2*j]]⟩:=by show fM (bG (x:=.z μ.f) (ic:=μ++[.D [P (2+4*j) n,P n<|2+4*j,P (n+1+2*j)<|1+2*j,P (1+2*j)<|n-1-2*j]]) "" ?r<|(iY (bT _ _)<|a1u a).v ?_);rfl
def a1D:∃a o,bY (aB (aC 8)<|aB (bY<|aB (aC 3)<|aB (aC 6) aD)<|aB (aA (aV b3) (aA bP (aA eV (aC 1)<|mC<|.p 280)<|mC<|.p 2)<|mC<|.p 1)<|aB (aA (aV b3) (aA bP (aA eV (aC 1)<|mC<|.p 560)<|mC<|.p 2)<|mC<|.p 1) aD) [a0,a7<|.p v,a2,a7<|.p u,a4,a5,a7<|.p n,b,a7<|PP e] μ=a7 ⟨.L [PP e,.L [.p u,.p n],.bl a,.bl o],μ⟩:=(v/280%2==1,v/560%2==1,"")
def a1E k{μ:Hm}(g:μ[p]?=a7 (.dT<|bA Z))(hz:0<Z.f)v c(Q:jz)(H:∀e u n a o b,μ<+:b->ϥ e u n->n%4=0->Q ⟨.L [PP e,.L [.p u,.p n],.bl a,.bl o],b⟩):W (f (k+2) "_law_plan" [.L [i,.z p],.p v,.p c] μ) Q:=by
 let d:0<=v%4/\v%4<4:=(OD _ ⋯,OJ _ ⋯);show Ó (ZU (k+1) _ _ _ μ)<|bN<|fX ?r<|bN<|aY ?r<|fX (a1w g)<|bN ?_;let(q,e):=a1x (μ:=μ++[.D<|(Z.o (·.1)).o PP]) (l:=μ.f) (bT _ _) (by rw[Ä];show hz);show fX e<|bN<|a1y k d λx w s h0=>iO ?_;let(n,h,e):=a1z h0;show fX e (?r,bN<|bD (_,a1A,_,?r,ř.v<|iO ?_));let(j,e):=a1B;show fX e (?r,bN<|fX (a1C d) ?_);let(a,o,e):=a1D;show cZ<|fX e<|H _ _ _ _ _ _ (((aS _ _).u s).u<|aS _ _) (a1t d h j) h
def j9!(a:ab ae):av:=ag (a.f<=8)&&ag (a.f%2=0)&&a.all (λg=>ag<|1<=g)&&nT a==0
def a1F k i μ(Q:jz):W (f (k+1) "is_whole" [.p i] μ) Q↔Q ⟨.bl b4,μ⟩:=by rw[Kb,å];dsimp[Ö,Ė,JQ,Ë,Å,cT,bK,eI,JW,JX];simp
def a1G:∀i,i.f<=8->i.f%2=0->∃es j:ab ae,fU (i.o D.p) b0 b0 (a7 2)=es.o D.p/\fU (i.o D.p) (a7 1) b0 (a7 2)=j.o D.p/\es.sum-j.sum=nT i/\es.f<=8/\j.f<=8
 |[],_,_=>([],[],?r,?r,?r,⋯,⋯)|[_],_,h=>by simp at h
 |[a,b],_,_=>([a],[b],"","",by simp[nT]<;>lia,∅,∅)|[_,_,_],_,h=>by simp at h
 |[a,b,c,d],_,_=>([a,c],[b,d],"","",by simp[nT]<;>lia,∅,∅)|[_,_,_,_,_],_,h=>by simp at h
 |[a,b,c,d,e,g],_,_=>([a,c,e],[b,d,g],"","",by simp[nT]<;>lia,∅,∅)|[_,_,_,_,_,_,_],_,h=>by simp at h
 |[a,b,c,d,e,g,x,y],_,_=>([a,c,e,x],[b,d,g,y],"","",by simp[nT]<;>lia,∅,∅)|_::_::_::_::_::_::_::_::_::_,h,_=>cb h ∅
def Lx{a:ab ae}(h:d∈a.o D.p):∃g∈a,d=.p g:=by let(g,h1,?r):=Ü.Z h;show(g,h1,?r)
def AQ{a:Type}(l:ab a):l.H (λ_=>b4)=l:=∅
def Lz{o:af a}{r:a}:W o (λx=>x=r)->o=a7 r:=λ(_,e,q)=>e.u<|br a7 q
def a1H k a b(hz:b.f<=8)(μ:Hm)(Q:jz)(p:μ[a]?=a7 (.D<|b.o D.p))(H:∀aw,μ<+:aw->Q ⟨.bl<|j9 b,aw⟩):W (f (k+2) "is_good" [.z a] μ) Q:=by
 let s:dS [.z a] μ=a7 ⟨.p (b.f:am),μ⟩:=Lz ((mP p).v<|by rw[Ä]);let z:j9 b=(ag (b.f%2=0)&&b.all (λg=>ag<|1<=g)&&nT b==0):=by ext j9;rw[cc hz,Pr]
 rw[z]at H;show Ó (Za (k+1) _ μ)<|w5 (b:=(b.f:ae)%2==1) (aw:=μ) (Lz<|Av<|eB<|bD<|aY ?r<|fX s (_,?r,Α.v (_,?r,ba (),eB<|bD<|bD<|aY ?r<|fX s (_,?r,Ś.v (_,?r,ü.v (_,?r,?r)))))) (λj=>?_) λj=>mQ ?_
 .let j:=bg.Z j;rw[ba<|show ¬ b.f%2=0 by lia]at H;show w9 (_,?r,H _<|Ę _)
 .let j:=cv.Z j;let u:b.f%2=0:=()
  rw[cc u,Pr]at H;let(y,G,w,n,E,K,L):=a1G b hz u;let dr:∀(R:Fl×aE×Hm->Prop) c,μ<+:c->(∀J aw,μ<+:aw->R ⟨.rt<|.bl<|nT b==0,J,aw⟩)->W (aM (aA (aV b3) (bI oN<|aB (mE (aC 0) iH iH<|jT<|mC<|.p 2) aD)<|bI oN<|aB (mE (aC 0) (jT<|mC<|.p 1) iH<|jT<|mC<|.p 2) aD) [a7<|.z a] c) R:=λR c x A=>by
   let h:=aI x p;show cZ (bD<|Au<|Dy (_,?r,_,?r,_,?r,_,?r,_,?r,by change a7 (2:ae)≠a7 0;decide,_,h,by rw[w,Ä,õ];lia,?_));rw[w];show(JZ<|bT _ _).v (Au<|Dy (_,?r,_,?r,_,?r,_,?r,_,?r,by change a7 (2:ae)≠a7 0;decide,_,aI (aS _ _) h,by rw[n,Ä,õ];lia,?_));rw[n];show(JZ<|bT _ _).v<|ü.v ?_;let e:(y.sum==G.sum)=(nT b==0):=by rw[<- E,Ψ,bg,bg];lia
   rw[e];show A _ _<|x.u<|(aS _ _).u<|aS _ _
  show Ì.v<|Ð.v<|w8<|j5 (b:=b.all λg=>ag<|1<=g)<|Au<|jH (xs:=b.o D.p) (p:=λ_=>b4) (v:=λd=>.bl<|ag<|1<=sR d)<|Ú.v (_,?r,(fK p).v (nQ p,?r,by rw[Ä,õ];lia,λd aw hd B=>ą.v (?r,Ę _),λd aw hd l B=>?_,λc o q=>?_))
  .let(g,_,?r):=Lx hd;show Ė.v<|aY ?r<|(a1F k g _ _).v<|(ad ?r).v<|bG ?r ?r<|yc.v (?r,Ę _)
  .let i:c[μ.f]?=a7 (.D<|(b.o λg=>ag<|1<=g).o D.bl):=by rw[q,AQ,æ,æ];rfl
   show(YE i).v (by rw[Pl];rfl,?_);cases v:b.all λg=>ag (1<=g)with
   |ai=>rw[v]at H;show(ad ?r).v (Ö.v (_,?r,H _ o))|bt=>rw[v]at H;show(ac þ).v<|Î.v<|dr _ c o λ_ aw I=>H aw I
def mv!(x y:ae)(l:jq):jq:=l.o λs=>⟨x+s.1,y+s.2⟩
def LA k x y l(e:l.f<=63)(μ:Hm)(Q:jz)(h:∀a aw,μ<+:aw->aw[a]?=a7 (.D<|(mv x y l).o PP)->μ.f<=a->Q ⟨.z a,aw⟩):W (f (k+1) "moved_by" [P x y,.L<|l.o PP] μ) Q:=by
 rw[YX,å];dsimp[Ö];show jH (xs:=l.o PP) (p:=λ_=>b4) (v:=λd=>PP ⟨x+(fL d).1,y+(fL d).2⟩) ?_;dsimp[Ú,bK,cB];show ϵ.v ?_;show(Ak,?r,by rw[Ä,õ];lia,λd aw hd b=>À.v (?r,Ę _),λd aw hd z b=>?_,λaw b c=>?_)
 .let(u,v,?r):=uF hd;dsimp[Ź,Ζ,ç,Û,eI,Å,cT,bK,cB,Ă,ċ,è,iN,nr];show(?r,Ę _)
 .show h _ _ b ?_<|Ô _;rw[c,N5.v λ_ z=>rfl,æ];ext mv;rw[æ];rfl
def E8!:jq:=[⟨2,0⟩,⟨1,1⟩,⟨0,2⟩,⟨-1,1⟩,⟨-2,0⟩,⟨-1,-1⟩,⟨0,-2⟩,⟨1,-1⟩]
def F4!:jq:=[⟨1,1⟩,⟨-1,1⟩,⟨-1,-1⟩,⟨1,-1⟩]
def b2K!:jq:=[⟨2,1⟩,⟨1,2⟩,⟨-1,2⟩,⟨-2,1⟩,⟨-2,-1⟩,⟨-1,-2⟩,⟨1,-2⟩,⟨2,-1⟩]
def b2Q!:jq:=[⟨0,1⟩,⟨-1,0⟩,⟨0,-1⟩,⟨1,0⟩]
def gZ!(x:ae):jq:=if x%4=0 then E8 else F4
def a1I!(x:ae):jq:=if x%4=0 then b2K else b2Q
def LB k x y(μ:Hm)(Q:jz)(h:∀a aw,μ<+:aw->aw[a]?=a7 (.D<|(mv x y<|gZ x).o PP)->μ.f<=a->Q ⟨.z a,aw⟩):W (f (k+2) "edges_round" [P x y] μ) Q:=by
 rw[YY,å];dsimp[Ö,Ë,Å,cT,bK,Ğ,î,Û,eI,Ă,wZ,ü];unfold gZ at h;by_cases e:x%4=0
 .rw[ad e]at h;rw[e];show LA k x y E8 ⋯ μ _ h
 .rw[ac e]at h;rw[ac<|by apply e];show LA k x y F4 ⋯ μ _ h
def a1J{a:Type}l(d:a):(Ĉ l.f).o (λi=>l.I i d)=l:=by show Pu ∅ λi h1 b=>?_;simp[į,b]
def xF ay k:(bC ay k).qh=ay.any λp=>ag (p.1=k):=by ext bC;rw[OK,Ψ,ab.find?_isSome,qj]
open _root_ in
def a1K ay k k' d:(bC (cK ay k d) k').qh=(ag (k=k')||(bC ay k').qh):=by
 ext cK;lk
 .rename_i h;let e:(ay.o λp=>if p.1=k then⟨p.1,d⟩else p).any (λp=>ag<|p.1=k')=ay.any λp=>ag (p.1=k'):=by rw[pF];congr 1;funext p;dsimp[Function.comp];lk<;>rfl
  rw[xF,e,xF ay k'];by_cases z:k=k'
  .subst z;rw[xF]at h;rw[h];simp
  .simp[z]
 .rw[xF,ab.any_append,xF];dsimp[vm,ab.any_nil,OG];show Rw _ _
def jY!(bs:ab av):ab ae:=((Ĉ bs.f).H λi=>bs.I i b3).o λ(i:am)=>(i:ae)
def iD!(bs:ab av):ab ae:=((jY bs).zip<|(jY bs).kw 1++((jY bs).ze 1).o λs=>s+(bs.f:ae)).o λp=>(p.2-p.1)*(8/(bs.f:ae))
def MD!(m:(ae×ae)×cf):D:=.L [PP m.1,.jv m.2]
def a1L{z:ae}(n:am)(h0:0<=z)(h1:z<n):∃k,k<n/\(k:ae)=z:=(z.zi,(ae.toNat_lt h0).v h1,ae.toNat_of_nonneg h0)
def LC(hz:1<=z/\z<=6):z∈[(1:ae),2,3,4,5,6]:=by let(k,a,?r):=a1L 7 (ae.le_trans ⋯ hz.1) (ae.lt_of_le_of_lt hz.2 ⋯);show(by decide:∀k:am,k<7->1<=(k:ae)/\(k:ae)<=6->(k:ae)∈[(1:ae),2,3,4,5,6]) k a hz
def sI!(p:ae×ae):av:=p.1%2==0&&p.1%4==p.2%4
def a1M k x y μ(Q:jz):W (f (k+1) "is_corner" [P x y] μ) Q↔Q ⟨.bl<|sI ⟨x,y⟩,μ⟩:=by rw[YR,å];dsimp[Ö,Ė,Û,eI,bK,Ă,ċ,ü,Ś,wZ];ext sI;cases x%2==0<;>simp
def bO!(ms:ab ((ae×ae)×cf))(p:ae×ae):av:=(ms.o (·.1)).any λq=>q==p
def LF:∀ms:ab<|(ae×ae)×cf,tT (ms.o MD)=a7 (ms.o λm=>⟨a9 m.1,D.jv m.2⟩)
 |[]=>?r|m::ms=>by rw[í,í];change(d7<|PP m.1).U (λk=>(tT<|ms.o MD).o λl=>⟨k,D.jv m.2⟩::l)=_;rw[LF ms];rfl
def LG k:∀(l ay:jx),(bC (l.foldl (λq p=>cK q p.1 p.2) ay) k).qh=((bC ay k).qh||l.any λp=>ag<|p.1=k)
 |[],ay=>∅
 |p::l,ay=>by rw[N7,LG k l,a1K,vm];cases ag (p.1=k)<;>cases(bC ay k).qh<;>simp
def a1N p q:ag (a9 p=a9 q)=(p==q):=by rw[Ψ];dsimp[e4,bg,a9,N9,and_true,Rz]
def a1O ms p:(bC ((ms.o λm=>⟨a9 m.1,D.jv m.2⟩).foldl (λq p=>cK q p.1 p.2) [])<|a9 p).qh=bO ms p:=by rw[LG];ext bO;rw[pF,pF];change(b3||_)=_;rw[N1];congr 1;funext m;show a1N m.1 p
def ε{Q:jz}:W (bE (.L [a,b,c]) (.p 2) μ) Q↔Q ⟨c,μ⟩:=À
def m9{Q:jz}:W (bE (.L [a,b,c]) (.p 0) μ) Q↔Q ⟨a,μ⟩:=À
def m5{Q:jz}:W (bE (.L [a,b,c]) (.p 1) μ) Q↔Q ⟨b,μ⟩:=À
noncomputable abbrev SH(w h:ae)(ms:ab ((ae×ae)×cf)):D:=.L [.p w,.p h,.L<|ms.o MD]
def Ϸ{ms:ab ((ae×ae)×cf)}{Q:jz}:W (rQ [.L<|ms.o MD] μ) Q↔Q ⟨.z μ.f,μ++[.dT<|(ms.o λm=>⟨a9 m.1,D.jv m.2⟩).foldl (λq p=>cK q p.1 p.2) []]⟩:=by
 have:rQ [.L<|ms.o MD] μ=a7 ⟨.z μ.f,μ++[.dT<|(ms.o λm=>⟨a9 m.1,D.jv m.2⟩).foldl (λq p=>cK q p.1 p.2) []]⟩:=by dsimp[rQ,LF,ĝ]
 rw[ah];show À
def LH k w h ms x y(μ:Hm)(Q:jz)(H:∀a aw,μ<+:aw->aw[a]?=a7 (.D<|((mv x y<|gZ x).H<|bO ms).o PP)->Q ⟨.z a,aw⟩):W (f (k+3) "creases_at" [SH w h ms,P x y] μ) Q:=by
 rw[Zb,å];dsimp[Ì,ò,Ë,Å,cT,bK,cB];rw[Kc,å];dsimp[Ö,Ë,Å,cT,Û,bK,eI,ε,Ϸ,Ũ,ŭ];show jH (xs:=(mv x y<|gZ x).o PP) (p:=λd=>bO ms<|fL d) (v:=λd=>d) ?_;dsimp[Ú,Ë,Å,cT,bK,cB];show LB k x y _ _ λa i e c j=>?_;show(fK c).v (nQ c,?r,?_,λd aw hd b=>?_,λd aw hd z b=>?_,λaw b g=>?_)
 .rw[Ä,õ];ext mv gZ;rw[Ä];lk<;>decide
 .let(u,v,?r):=uF hd;dsimp[Ź,Ζ,î,Û,bK,cB];show(wX (aI (e.u b)<|bT _ _)<|dW ⟨u,v⟩).v ?_;dsimp[Ī,cm];show(a1O ms ⟨u,v⟩,Ę _)
 .dsimp[Ź,Ζ,bK,cB];show(fw,Ę _)
 .show H _ _ ((aS _ _).u<|e.u b) ?_;rw[g,uE<|bO ms]
def LI μ q:∀ps:jq,pY μ (PP q) (ps.o PP)=a7 (ps.o λp=>p==q)
 |[]=>?r|p::ps=>by rw[í,í];dsimp[pY,LI μ q ps];rw[JU 6];rfl
def a1P{ps:jq}{Q:jz}(h:μ[a]?=a7 (.D<|ps.o PP))(c:q∈ps)(hz:ps.f<=Ò):W (tL (.z a) [PP q] μ) Q↔Q ⟨.p (ps.idxOf q:am),μ⟩:=by
 let e:(ps.o λp=>p==q).findIdx id=ps.idxOf q:=by rw[ab.findIdx_map];rfl
 let b:ps.idxOf q<ps.f:=Tn c;dsimp[tL,h,LI,ě];rw[e,Ä,ad (b,hz)];show À
def a1Q{es:jq}(b:es.J)(hi:i<es.f):es.idxOf (es.I i ⟨0,0⟩)=i:=by
 let e:es.I i ⟨0,0⟩=es[i]:=by simp[į,hi]
 rw[e];let a:es.idxOf es[i]<es.f:=Tn<|uz hi;let h1:es[es.idxOf es[i]]=es[i]:=ab.getElem_idxOf a;rcases Q0 (es.idxOf es[i]) i with h|h|h
 .show cb h1<|(NG.Z b) _ i a hi h
 .show h
 .show cb h1.R<|(NG.Z b) i _ hi a h
def Ef{es:jq}(b:es.J)m:(es.H m).o (λq=>((es.idxOf q:am):ae))=jY (es.o m):=by
 let h1:es.H m=((Ĉ es.f).H λi=>m<|es.I i ⟨0,0⟩).o λi=>es.I i ⟨0,0⟩:=by
  conv=>lhs;rw[<- a1J es ⟨0,0⟩]
  rw[jf];rfl
 ext jY;rw[h1,æ,Ä];let a:(Ĉ es.f).H (λi=>m<|es.I i ⟨0,0⟩)=(Ĉ es.f).H λi=>(es.o m).I i ai:=by show QY λi hi=>?_;let hi:=ŏ.Z hi;simp[į,hi]
 rw[<- a];show Φ λi hi=>?_;let hi:=ŏ.Z (Ĥ.Z hi).1;change((es.idxOf (es.I i ⟨0,0⟩):am):ae)=_;rw[a1Q b hi]
def LJ x y(h:l.J):(mv x y l).J:=by ext mv;change ab.Pairwise _ _;rw[Qb];show b7f (λ{a b} c e=>c ?_) h;dsimp[Rz]at e ⊢;lia
def LK x:(gZ x).J:=by ext gZ;lk<;>decide
def LL x:(gZ x).f=8\/(gZ x).f=4:=by
 ext gZ;lk
 .show .Q ?r
 .show .X ?r
def a1R(b:ab ae):nB (b.o D.p) (a7 1) b0=(b.kw 1).o D.p:=by
 cases b with
 |fk=>rfl|bm a l=>ext nB;rw[show(1:ae)=((1:am):ae)from ?r,HT.sIx_nat,HT.sIx_none,Ä,Pf ∅,<- ab.map_drop,NK<|by rw[Ä,vd];lia]
def a1S(b:ab ae):nB (b.o D.p) b0 (a7 1)=(b.ze 1).o D.p:=by
 cases b with
 |fk=>rfl|bm a l=>ext nB;rw[show(1:ae)=((1:am):ae)from ?r,HT.sIx_nat,HT.sIx_none,Ä,Pf ∅,Pe,PL,Pt]
def sJ!(a b:ab ae):ab D:=(a.zip b).o PP
def a1T{μ:Hm}(g:μ[a]?=a7 (.D<|c.o D.p))(h:μ[b]?=a7 (.D<|d.o D.p)):∀aw i,μ<+:aw->vX (.z a) (.z b) aw i=a7 (sJ c d)[i]?:=λaw i e=>by dsimp[vX,bW,aI e g,aI e h,ě,ĝ];ext sJ ab.zip;rw[ĉ,ĉ,ĉ,T6];cases c[i]?<;>cases d[i]?<;>rfl
def LM k w h ms x y(μ:Hm)(Q:jz)(H:∀a aw,μ<+:aw->aw[a]?=a7 (.D<|(iD<|(mv x y<|gZ x).o<|bO ms).o D.p)->Q ⟨.z a,aw⟩):W (f (k+4) "gaps_at" [SH w h ms,P x y] μ) Q:=by
 let B:=LL x;let n:(mv x y<|gZ x).f=(gZ x).f:=by ext mv;rw[Ä]
 let o:=LJ x y<|LK x;show Ó (Zc (k+3) _ _ μ)<|bN<|aY ?r<|LB (k+1) x y _ _ λa1 ic p1 T l1=>bN<|aY ?r<|LH k w h ms x y _ _ λa2 J M u=>?_;let c:=aI M T;generalize hes:mv x y (gZ x)=es at c u n o H;let E:(es.H<|bO ms).f<=8:=ĥ (ſ _ _) ();show bN<|jH (xs:=(es.H<|bO ms).o PP) (p:=λ_=>b4) (v:=λd=>.p ((es.idxOf (fL d):am):ae))<|Ú.v (_,?r,(fK u).v (nQ u,?r,by rw[Ä,õ];lia,λd aw hd e=>ą.v (?r,Ę _),λd aw hd l e=>?_,λb N U=>?_))
 .let(q,Z,?r):=Ü.Z hd;show jZ (_,?r,j0<|aI e c,_,?r,(a1P (aI e c) (Ĥ.Z Z).1<|by rw[õ];lia).v (?r,Ę _))
 .let g:b[J.f]?=a7 (.D<|(jY<|es.o<|bO ms).o D.p):=by rw[U,AQ,æ,<- Ef o,æ];rfl
  let G:(jY<|es.o<|bO ms).f<=8:=by rw[<- Ef o,Ä];show E
  generalize hix:jY (es.o<|bO ms)=is at g G;show bN<|bD<|JY (_,?r,_,?r,_,?r,_,?r,_,g,?_);rw[a1R];let v:=aI (aS b<|C.D<|(is.kw 1).o D.p) g;let j:=aI (N.u<|aS b<|C.D<|(is.kw 1).o D.p) c;let A:=bT b<|C.D<|(is.kw 1).o D.p;let O:=p1.u<|M.u<|N.u<|aS b<|C.D<|(is.kw 1).o D.p;dsimp;generalize b.f=l3 at A ⊢;generalize b++[C.D<|(is.kw 1).o D.p]=om at v j A O ⊢;show jH (xs:=(is.ze 1).o D.p) (p:=λ_=>b4) (v:=λd=>.p<|sR d+(es.f:ae))<|Ú.v<|JY (_,?r,_,?r,_,?r,_,?r,_,v,?_);rw[a1S];show(fK<|bT _ _).v (nQ<|bT _ _,?r,by rw[Ä,ţ,õ];lia,λd aw hd e=>ą.v (?r,Ę _),λd aw hd l e=>?_,λp p5 X=>?_)
  .let(i,_,?r):=Lx hd;show bD (_,?r,aY ?r<|(mP<|aI ((aS _ _).u e) j).v<|è.v (by rw[Ä];rfl,Ę _))
  .let R:=(aS om<|C.D<|(is.ze 1).o D.p).u p5;let z:p[(om++[C.D<|(is.ze 1).o D.p]).f]?=a7 (.D<|((is.ze 1).o λs=>s+(es.f:ae)).o D.p):=by rw[X,AQ,æ,æ];rfl
   show(uD (aI R A) z<|by rw[Ä,Ä,Ä,vd,ţ,õ];lia).v ?_;rw[<- Ć];generalize hjs:is.kw 1++(is.ze 1).o (λs=>s+(es.f:ae))=js;let I:=R.u<|aS p<|C.D<|js.o D.p;show bN (bD (_,?r,aY ?r<|(mP<|aI I j).v<|(uC (by rw[Ä];lia)<|by rw[Ä];lia).v<|cZ ?_));rw[Ä];let K:=aI I v;let L:=bT p<|C.D<|js.o D.p;let hzl:(sJ is js).f<=8:=by ext sJ;rw[Ä,Q7];lia
   let h8:8/(es.f:ae)=1\/8/(es.f:ae)=2:=by
    rcases B with h|h
    .left;rw[n,h];rfl
    .right;rw[n,h];rfl
   show Dz (xs:=sJ is js) (x:=λd=>[a7<|.p (fL d).1,a7<|.p (fL d).2]) (p:=λ_=>b4) (v:=λd=>.p<|((fL d).2-(fL d).1)*(8/(es.f:ae)))<|YL (_,?r,_,_,_,_,?r,K,L,a1T K L,?_,by rw[õ];lia,λd aw hd=>?_,λd aw hd e=>ą.v (?r,Ę _),λd aw hd l e=>?_,λμ8 p8 Y=>?_)
   .ext sJ;dsimp[Ä,Q7]
   .let(q,_,?r):=Ü.Z hd;rfl
   .let(q,_,?r):=Ü.Z hd;show bD<|bG ?r ?r<|ř.v (_,?r,(mN<|.X ()).v (?r,Ę _))
   .show H _ _ (O.u<|I.u p8) ?_;rw[Y,AQ];ext sJ iD;rw[hix,Ä,hjs,æ,æ];rfl
def dX!(p:ae×ae):ab ae:=[p.1,p.2]
def gE!(p q:ae×ae):ae×ae:=if HT.xw (dX q) (dX p)then q else p
def gG!(p q:ae×ae):ae×ae:=if HT.xw (dX p) (dX q)then q else p
def nU!(p q:ae×ae)(a:av)(c:ae×ae):Ti:=⟨dX<|gE p q,dX<|gG p q,a,dX c⟩
def a1U p q μ:CC [PP p,PP q] μ=a7 ⟨PP<|gE p q,μ⟩:=by change a7 ⟨if HT.xw (dX q) (dX p)then PP q else PP p,μ⟩=_;ext gE;lk<;>rfl
def a1V p q μ:zU [PP p,PP q] μ=a7 ⟨PP<|gG p q,μ⟩:=by change a7 ⟨if HT.xw (dX p) (dX q)then PP q else PP p,μ⟩=_;ext gG;lk<;>rfl
def a1W(h:n=4):n<=Ò:=by rw[h];decide
def Eg k p q a c μ(Q:jz)(H:Q ⟨gC<|nU p q a c,μ⟩):W (f (k+1) "tie_of" [PP p,PP q,.bl a,PP c] μ) Q:=
 Ó (Zf k _ _ _ _ μ)<|cZ<|ç.v<|aX<|aY ?r<|fX (a1U p q μ)<|aX<|aY ?r<|fX (a1V p q μ) (_,?r,a1W ?r,H)
def AR{i:am}{d:D}(e:xs[i]?=a7 d):lv xs (i:ae)=a7 d:=by let a:=(ã.Z e).1;ext lv;rw[DG () ()];apply e
def a1X{xs:ab D}(h:i<xs.f):lv xs ((i:ae)-1)=xs[(i+(xs.f-1))%xs.f]?:=by
 ext lv oE;cases i with
 |ij=>
  rw[ac (),ad ()];let e:(((0:am):ae)-1+xs.f).zi=(0+(xs.f-1))%xs.f:=by rw[N8 ()];lia
  rw[e];rfl
 |im i=>
  rw[ad (),ad ()];let e:(((i+1:am):ae)-1).zi=(i+1+(xs.f-1))%xs.f:=by
   have:i+1+(xs.f-1)=i+xs.f:=()
   rw[ah,am.add_mod_right,N8 ()];lia
  rw[e];rfl
def Eh{a:ab ae}(h:i<a.f):(a.o D.p)[i]?=a7 (.p<|a.I i 0):=by rw[ĉ,Ċ h];simp[į,h]
def a1Y{cr:jq}(h:i<cr.f):(cr.o PP)[i]?=a7 (PP<|cr.I i ⟨0,0⟩):=by rw[ĉ,Ċ h];simp[į,h]
def nV!(a:ab ae)(i:am):av:=ag (a.I i 0<a.I ((i+(a.f-1))%a.f) 0)&&ag (a.I i 0<a.I ((i+1)%a.f) 0)
def LN(i n:am):((i:ae)+1)%(n:ae)=(((i+1)%n:am):ae):=by simp[ae.natCast_emod]
def a1Z k(g:μ[a]?=a7 (.D<|b.o D.p))(h:i<b.f)(Q:jz)(H:Q ⟨.bl<|nV b i,μ⟩):W (f (k+1) "is_least" [.z a,.p i] μ) Q:=by
 let s:(i+(b.f-1))%b.f<b.f:=Ϗ _ ();let u:(i+1)%b.f<b.f:=Ϗ _ ();let j:∀{c},c=μ->bE (.z a) (.p i) c=a7 ⟨.p<|b.I i 0,c⟩:=λe=>by subst e;show fM<|(iY g<|AR<|Eh h).v ?r
 let o:bE (.z a) (.p<|(i:ae)-1) μ=a7 ⟨.p<|b.I ((i+(b.f-1))%b.f) 0,μ⟩:=fM<|(iY g<|by
  rw[a1X<|by rw[Ä];show h,Ä];show Eh s).v ?r
 let q:bE (.z a) (.p<|((i:ae)+1)%(b.f:am)) μ=a7 ⟨.p<|b.I ((i+1)%b.f) 0,μ⟩:=fM ((iY g<|by rw[LN];show AR<|Eh u).v ?r);show Ó (Zg k _ _ μ)<|cZ<|Ė.v<|bD<|bG ?r ?r (_,j ?r,bD (_,?r,bG ?r ?r<|ř.v (_,o,ϊ.v ?_)));unfold nV at H;let d:W (aA nC (aA bE (aC 0)<|aC 1) (aA bE (aC 0)<|aA bP (aA bS (aC 1)<|mC<|.p 1)<|bI dS<|aB (aC 0) aD) [a7<|.z a,a7<|.p i] μ) λp=>p=⟨.bl<|ag<|b.I i 0<b.I ((i+1)%b.f) 0,μ⟩:=by show bD<|bG ?r ?r (_,j ?r,bD (_,?r,bD<|bG ?r ?r<|è.v<|aY ?r<|(mP g).v ?_));rw[Ä];show(fF ()).v (_,q,ϊ.v ?r)
 cases n:ag (b.I i 0<b.I ((i+(b.f-1))%b.f) 0)with
 |bt=>rw[n,Pr]at H;let(r,h1,?r):=d;show(ad ?r).v (_,h1,H)|ai=>rw[n,Rh]at H;show(ac þ).v H
def qR!(cr:jq)(c:ae×ae)(i:am):ab Ti:=nU (cr.I i ⟨0,0⟩) (cr.I ((i+1)%cr.f) ⟨0,0⟩) b3 c::(if cr.f=4 then[nU (cr.I ((i+2)%4) ⟨0,0⟩) (cr.I ((i+3)%4) ⟨0,0⟩) b4 c]else[])
def uL{cr:jq}(g:μ[a]?=a7 (.D<|cr.o PP))(h:i<cr.f):bE (.z a) (.p (i:ae)) μ=a7 ⟨PP<|cr.I i ⟨0,0⟩,μ⟩:=fM<|(iY g<|AR<|a1Y h).v ?r
def a2a k{μ:Hm}(g:μ[a]?=a7 (.D<|cr.o PP))(h:i<cr.f)c(Q:jz)(H:∀l aw,μ<+:aw->aw[l]?=a7 (.D<|(qR cr c i).o gC)->Q ⟨.z l,aw⟩):W (f (k+2) "ties_of_gap" [.z a,.p i,PP c] μ) Q:=by
 let s:(i+1)%cr.f<cr.f:=Ϗ _ ();let n:bE (.z a) (.p<|((i:ae)+1)%(cr.f:am)) μ=a7 ⟨PP<|cr.I ((i+1)%cr.f) ⟨0,0⟩,μ⟩:=by rw[LN];show uL g s
 let q:dS [.z a] μ=a7 ⟨.p (cr.f:am),μ⟩:=fM ((mP g).v<|by rw[Ä]);show Ó (Zh (k+1) _ _ _ μ) (bN<|aY ?r<|fX q<|bN<|ā.v<|aX<|eP<|aX<|bG ?r ?r (_,uL g h,aX<|bD (_,?r,bD<|bG ?r ?r<|è.v (_,?r,(fF ()).v (_,n,_,?r,?_)))));show Eg k _ _ _ _ _ _ (_,?r,Ap,?_);let gl:=bT μ<|C.D [gC<|nU (cr.I i ⟨0,0⟩) (cr.I ((i+1)%cr.f) ⟨0,0⟩) b3 c];let j:=aI (aS μ<|C.D [gC<|nU (cr.I i ⟨0,0⟩) (cr.I ((i+1)%cr.f) ⟨0,0⟩) b3 c]) g;show w5 (b:=((cr.f:am):ae)==4) (aw:=μ++[C.D [gC<|nU (cr.I i ⟨0,0⟩) (cr.I ((i+1)%cr.f) ⟨0,0⟩) b3 c]]) (fM<|eB<|bG ?r ?r<|ü.v (_,?r,?r)) (λb=>?_) λb=>mQ<|cZ (_,?r,H _ _ (aS _ _) ?_)
 .let b:cr.f=4:=by have:=bg.Z b;lia
  let u:(i+2)%4<cr.f:=()
  let v:(i+3)%4<cr.f:=()
  let o:∀{e:Hm},e[a]?=a7 (.D<|cr.o PP)->bE (.z a) (.p<|((i:ae)+2)%4) e=a7 ⟨PP<|cr.I ((i+2)%4) ⟨0,0⟩,e⟩:=λd=>by rw[show((i:ae)+2)%4=(((i+2)%4:am):ae) by lia];show uL d u
  let p:∀{e:Hm},e[a]?=a7 (.D<|cr.o PP)->bE (.z a) (.p<|((i:ae)+3)%4) e=a7 ⟨PP<|cr.I ((i+3)%4) ⟨0,0⟩,e⟩:=λd=>by rw[show((i:ae)+3)%4=(((i+3)%4:am):ae) by lia];show uL d v
  show Ar (jZ (_,?r,j0 gl,aX<|eP<|aX<|bD (_,?r,bD<|bG ?r ?r<|è.v (_,?r,(fF ⋯).v (_,o j,aX<|bD (_,?r,bD<|bG ?r ?r<|è.v (_,?r,(fF ⋯).v (_,p j,_,?r,?_))))))));show Eg k _ _ _ _ _ _ (_,?r,(oZ gl<|by change(1:am)<Ò;decide).v<|cZ (_,?r,H _ _ (e6 (aS _ _) (Ô _) _) ?_));rw[fG gl];ext qR;rw[ad b];rfl
 .let b:¬ cr.f=4:=λz=>by rw[z]at b;ext b
  ext qR;rw[ac b];show gl
def dY!(m:ae×ae->av)(p:ae×ae):jq:=(mv p.1 p.2<|gZ p.1).H m
def i7!(m:ae×ae->av)(p:ae×ae):ab ae:=iD<|(mv p.1 p.2<|gZ p.1).o m
def AS m p:(i7 m p).f=(dY m p).f:=by let e:=br ģ<|Ef (LJ p.1 p.2<|LK p.1) m;rw[Ä]at e;unfold i7 iD dY;rw[Ä,Q7,ô,Ä,vd,ţ,e];lia
def AU m p:(dY m p).f<=8:=by show ĥ (ſ _ _) ?_;have:(mv p.1 p.2<|gZ p.1).f=(gZ p.1).f:=Ä ..;have:=LL p.1;lia
def kE!(m:ae×ae->av)(p:ae×ae)(i:am):ab Ti:=if nV (i7 m p) i then qR (dY m p) p i else[]
def jK!(m:ae×ae->av)(p:ae×ae):ab Ti:=if(dY m p).f=2 then[nU ((dY m p).I 0 ⟨0,0⟩) ((dY m p).I 1 ⟨0,0⟩) b4 p]else(Ĉ (dY m p).f).flatMap (kE m p)
def Ei m p i:(kE m p i).f<=2:=by
 ext kE qR;lk
 .lk<;>simp
 .simp
def uM{a b:Type}{f:a->ab b}(h:∀x,(f x).f<=n):∀l:ab a,(l.flatMap f).f<=n*l.f
 |[]=>∅
 |x::l=>by let h1:=uM h l;let c:=h x;rw[QZ,ô,ĩ,am.mul_succ];lia
def Ej m p:(jK m p).f<=16:=by
 ext jK;lk
 .simp
 .let h1:=uM (Ei m p)<|Ĉ (dY m p).f;rw[ql]at h1;have:=AU m p;lia
inductive UY (a0 a1 a2 a3:af D)(l:am)(ν:Hm)(F:am->ab Ti):am->aE->Hm->Prop
 |mk {i:am}{x:af D}{μ:Hm}(p:ν<+:μ)(g:μ[l]?=a7 (.D<|((Ĉ i).flatMap F).o gC)):UY a0 a1 a2 a3 l ν F i [a0,a1,a2,a3,a7<|.z l,x] μ
def a2b k w h ms p(μ:Hm)(Q:jz)(H:∀l aw,μ<+:aw->aw[l]?=a7 (.D<|(jK (bO ms) p).o gC)->Q ⟨.z l,aw⟩):W (f (k+6) "ties_at" [SH w h ms,PP p] μ) Q:=by
 show Ó (Zi (k+5) _ _ μ)<|bN<|aY ?r<|LH (k+2) w h ms p.1 p.2 μ _ λa n O q=>bN<|aY ?r<|LM (k+1) w h ms p.1 p.2 n _ λb c B o=>?_;replace q:n[a]?=a7 (.D<|(dY (bO ms) p).o PP):=q;replace o:c[b]?=a7 (.D<|(i7 (bO ms) p).o D.p):=o;let j:=aI B q;let N:=AS (bO ms) p;let U:=AU (bO ms) p;let L:dS [.z a] c=a7 ⟨.p ((dY (bO ms) p).f:am),c⟩:=fM ((mP j).v<|by rw[Ä]);let G:=O.u B;show w5 (b:=(((dY (bO ms) p).f:am):ae)==2) (aw:=c) (fM<|eB<|bD<|aY ?r<|fX L (_,?r,ü.v (_,?r,?r))) (λe=>?_) λe=>mQ ?_
 .let e:(dY (bO ms) p).f=2:=by have:=bg.Z e;lia
  show w9 (ā.v<|aX<|eP<|aX<|bG ?r ?r (_,uL (i:=0) j (),aX<|bG ?r ?r (_,uL (i:=1) j (),_,?r,?_)));show Eg (k+4) _ _ _ _ _ _ (_,?r,Ap,H _ _ (G.u<|aS _ _) ?_);ext jK;rw[ad e];show bT _ _
 .let e:¬ (dY (bO ms) p).f=2:=λz=>by rw[z]at e;ext e
  let M:=aI (aS c<|C.D []) j;let gB:=aI (aS c<|C.D []) o;let K:dS [.z a] (c++[C.D []])=a7 ⟨.p ((dY (bO ms) p).f:am),c++[C.D []]⟩:=fM ((mP M).v<|by rw[Ä]);show bN (ā.v (_,?r,Ŝ _,iO<|Õ.v<|(Dt (j:=0)).v<|aX<|aY ?r<|fX K (_,?r,((),()),?_)));dsimp;rw[kj];show Aj (UY (a7<|SH w h ms) (a7<|PP p) (a7<|.z a) (a7<|.z b) c.f c<|kE (bO ms) p) (.mk (aS _ _)<|bT _ _) ?_ ?_
  .rintro i u s hi (g|d);show(_,?r,?_);rw[RL];show Ð.v (j5<|aY ?r<|a1Z (k+4) (aI g o) (by rw[N];show hi) _ (?r,?_));let v:(Ĉ<|i+1).flatMap (kE (bO ms) p)=(Ĉ i).flatMap (kE (bO ms) p)++kE (bO ms) p i:=by rw[OO,vy];simp
   let I:=uM (Ei (bO ms) p)<|Ĉ i;rw[ql]at I;cases A:nV (i7 (bO ms) p) i with
   |ai=>show(ac þ).v<|Î.v<|.mk g ?_;rw[v];unfold kE at d ⊢;rw[A,ac þ,Ĭ];show d|bt=>
    show(ad ?r).v<|ï.v<|jZ (_,?r,j0 d,aX<|aY ?r<|a2a (k+3) (aI g j) hi p _ λl R E x=>(_,?r,?_));let J:qR (dY (bO ms) p) p i=kE (bO ms) p i:=by ext kE;rw[A,ad ?r]
    rw[J]at x;let T:=Ei (bO ms) p i;let y:=aI E d;show(Dw y x<|by rw[Ä,Ä,õ];lia).v<|.mk (e6 (g.u E) (Ô _) _) ?_;rw[fG y,v,Ć]
  .rintro u s (g|d);show(?r,cZ (_,?r,H _ _ (G.u g) ?_));ext jK;rw[ac e];show d
def LO k(hw:1<=w/\w<=6)(j:1<=h/\h<=6)(μ:Hm)(Q:jz)(H:∀a aw,μ<+:aw->aw[a]?=a7 (.D<|((iQ w h).H sI).o PP)->Q ⟨.z a,aw⟩):W (f (k+2) "corners_in" [.p w,.p h] μ) Q:=by
 show Ó (Y9 (k+1) _ _ μ) (cZ<|jH (xs:=(iQ w h).o PP) (p:=λd=>sI<|fL d) (v:=λd=>d)<|Ú.v<|aY ?r<|D0 _ w h () () _ _ λa i g c n=>?_);show(fK c).v (nQ c,?r,?_,λd aw hd b=>?_,λd aw hd x b=>(_,?r,?r,Ę _),λaw b e=>?_)
 .have:=AG (w:=w) (h:=h) () ();rw[Ä,õ];lia
 .let(u,v,?r):=uF hd;show j5<|aY ?r<|(a1M k u v _ _).v (?r,?r,Ę _)
 .show H _ _ (g.u b) ?_;rw[e,uE sI]
def a2c{a:Type}{l A B:ab a}{x:a}{q:a->av}(b:l=A++x::B)(hA:∀y∈A,q y=b3)(c:q x=b4):l.find? q=a7 x:=by
 rw[b,SM];have:A.find? q=bp:=fc.v λy d=>by rw[hA y d];show þ
 rw[ah,ab.find?_cons_of_pos c];rfl
def a2d{a:Type}{l:ab a}{x:a}(h:l[i]?=a7 x):l=l.ze i++x::l.kw (i+1):=by let(hi,?r):=ã.Z h;rw[<- OY hi,wk]
def a2e!:af (ae×ae)->D
 |bp=>.kf|bb p=>PP p
def eK!(w h:ae):jq:=(iQ w h).H sI
def iR!(m:ae×ae->av)(p:ae×ae):av:=!(j9<|i7 m p)
inductive Ui (ms:ab ((ae×ae)×cf))(w h:ae)(cs:jq)(q:ae×ae->av)(ν:Hm):am->aE->Hm->Prop
 |mk {i:am}{x:af D}{μ:Hm}(p:ν<+:μ)(ok:∀z∈cs.ze i,q z=b3):Ui ms w h cs q ν i [a7<|SH w h ms,x] μ
def a2f{b:jq}{q:ae×ae->av}(ok:∀y∈b.ze i,q y=b3)(hz:b[i]?=a7 z)(c:q z=b3):∀y∈b.ze (i+1),q y=ai:=λy a=>by
 rw[qm,hz]at a;rcases Ĺ.Z a with a|a
 .show ok y a
 .have:y=z:=by apply a
  rw[ah];show c
def a2g k(hw:1<=w/\w<=6)(A:1<=h/\h<=6)ms(μ:Hm)(Q:jz)(H:∀aw,μ<+:aw->Q ⟨a2e<|(eK w h).find?<|iR<|bO ms,aw⟩):W (f (k+5) "barred" [SH w h ms] μ) Q:=by
 show Ó (Zd (k+4) _ μ)<|Ì.v<|Õ.v<|Ú.v<|aY ?r<|LO (k+2) hw A _ _ λa j s o=>(fK o).v ?_;show mO (xs:=(eK w h).o PP) (Ui ms w h (eK w h) (iR<|bO ms) j) (.mk (Ę _) λz g=>by simp at g) (by rintro _ _ _ (p|_);show aI p o) ?_ ?_
 .rintro i d I n hd (c|ok);let(z,g,?r):=o8 hd;show(_,?r,Ð.v<|w8<|j5 (b:=j9 (i7 (bO ms) z))<|eP<|aX<|aY ?r<|LM k w h ms z.1 z.2 _ _ λb E u x=>(_,?r,?_));show a1H (k+2) b (i7 (bO ms) z) (by have:=AS (bO ms) z;have:=AU (bO ms) z;lia) _ _ x λG v=>(?r,?_);cases q:j9 (i7 (bO ms) z)with
  |bt=>show(ac þ).v (Î.v<|.mk (c.u<|u.u v)<|a2f ok g<|by ext iR;rw[q];rfl)|ai=>have e:=a2c (q:=iR (bO ms)) (a2d g) ok (by ext iR;rw[q];rfl);rw[e]at H;show(ad ?r).v<|Ö.v (_,?r,H _<|s.u<|c.u<|u.u v)
 .rintro I n (c|ok);rw[Ä,ź]at ok;let e:(eK w h).find? (iR<|bO ms)=bp:=fc.v λy B=>by rw[ok y B];show þ
  rw[e]at H;show cZ (_,?r,H _<|s.u c)
def kF!(m:ae×ae->av)(w h:ae):ab Ti:=(eK w h).flatMap<|jK m
def nW!(ts:ab Ti):ab Ti:=(dN (oS ts) ts.f).o λi=>ts.I i nN
def LP:∀ts,wD (ts.o gC)=a7 ts
 |[]=>?r|t::ts=>by
  let h:zX (gC t)=a7 t:=by change(d7<|.L<|t.1.o D.p).U (λk=>(d7<|.L<|t.2.1.o D.p).U λm=>(d7<|.L<|t.2.2.2.o D.p).o λn=>⟨k,m,t.2.2.1,n⟩)=_;rw[DB,DB,DB];rfl
  change(zX<|gC t).U (λx=>(wD<|ts.o gC).o (x::·))=_;rw[h,LP ts];rfl
def a2h(g:μ[a]?=a7 (.D<|ts.o gC))(h:oR ts):tX [.z a] μ=a7 ⟨.z μ.f,μ++[.D<|(nW ts).o gC]⟩:=by
 let e:fZ μ (.z a)=a7 (ts.o gC):=by dsimp[fZ,g]
 dsimp[tX,e,ě,LP,ad h];let b:(dN (oS ts) ts.f).o (λi=>(ts.o gC).I i .kf)=(nW ts).o gC:=by ext nW;rw[æ];show Φ λi hi=>?_;let hi:i<ts.f:=ŏ.Z<|(mD _ _).mem_iff.mp hi;simp[į,hi]
 rw[b]
def a2i k(hw:1<=w/\w<=6)(b:1<=h/\h<=6)(a:(eK w h).find? (iR<|bO ms)=b0)(μ:Hm)(Q:jz)(H:∀aw,μ<+:aw->Q ⟨.kf,aw⟩):W (f (k+6) "check_corners" [SH w h ms] μ) Q:=by show Ó (Ze (k+5) _ μ)<|bN<|aY ?r<|a2g k hw b ms _ _ λaw c=>?_;rw[a];show Ð.v<|eB<|bG ?r ?r<|ę.v (_,?r,(ac þ).v<|Î.v<|H _ c)
inductive UU (ms:ab ((ae×ae)×cf))(w h:ae)(l:am)(ν:Hm):am->aE->Hm->Prop
 |mk {i:am}{x:af D}{μ:Hm}(p:ν<+:μ)(g:μ[l]?=a7 (.D<|(((eK w h).ze i).flatMap<|jK<|bO ms).o gC)):UU ms w h l ν i [a7<|SH w h ms,a7<|.z l,x] μ
def a2j(hw:1<=w/\w<=6)(b:1<=h/\h<=6):(eK w h).f<=1000:=by let h1:=AG (w:=w) (h:=h) () ();let a:=ſ sI<|iQ w h;ext eK;lia
def a2k k(hw:1<=w/\w<=6)(o:1<=h/\h<=6)(E:(eK w h).find? (iR<|bO ms)=b0)(G:oR (kF (bO ms) w h))(μ:Hm)(Q:jz)(H:∀l aw,μ<+:aw->μ.f<=l->aw[l]?=a7 (.D<|(nW<|kF (bO ms) w h).o gC)->Q ⟨.z l,aw⟩):W (f (k+7) "ties" [SH w h ms] μ) Q:=by
 show Ó (Zj (k+6) _ μ)<|Ar<|aY ?r<|a2i k hw o E _ _ λb q=>bN<|ā.v (_,?r,Ŝ _,iO<|Õ.v<|Ú.v<|aY ?r<|LO (k+4) hw o _ _ λa K s c=>(fK c).v ?_);let I:=q.u<|aS b<|C.D [];let hc:=a2j hw o;let j:a≠b.f\/eK w h=[]:=by
  by_cases z:a=b.f
  .right;let J:=aI s<|bT b<|C.D [];rw[z,J]at c;injection c with c;injection c with c;show Oa.Z c.R
  .show .Q z
 show mO (xs:=(eK w h).o PP) (λi x aw=>UU ms w h b.f b i x aw/\aw[a]?=a7 (.D<|(eK w h).o PP)) (.mk ((aS _ _).u s)<|aI s<|bT _ _,c) (by rintro _ _ _ (_|g);show g) ?_ ?_
 .rintro i d M v hd ((n|e)|B);let(z,p,?r):=o8 hd;show(_,?r,ï.v<|jZ (_,?r,j0 e,aX<|aY ?r<|a2b k w h ms z _ _ λl L u A=>(_,?r,?_)));let y:=aI u e;let N:=uM (Ej<|bO ms)<|(eK w h).ze i;let O:=Ej (bO ms) z;let R:=ab.length_take_le i<|eK w h;let T:=Sw i<|eK w h;show(Dw y A<|by rw[Ä,Ä,õ];lia).v (.mk (e6 (n.u u) (Ô _) _) ?_,?_)
  .rw[fG y,qm,p];simp
  .rcases j with j|j
   .rw[ć<|ì j];show aI u B
   .rw[j]at p;ext p
 .rintro M v ((n|e)|_);rw[Ä,ź]at e;show(?r,cZ<|aY ?r<|fX (a2h (ts:=kF (bO ms) w h) e G)<|H _ _ ((q.u n).u<|aS _ _) (ĥ q.ke n.ke)<|bT _ _)
def LQ(hi:i<1000)(h:b[i]?=a7 (a7<|.z a)):v7 i b=a7 (.z a):=by ext v7;rw[ad hi,h];rfl
def a2l{ay:jx}(hi:h[i]?=a7 (a7<|.z a))(hc:μ[a]?=a7 (.dT ay))(I:am->aE->Hm->Prop)(h0:I 0 h (μ.xl a<|.dF ay))(go:∀n k d c b,ay[n]?=a7 ⟨k,d⟩->I n c b->W (gi (c.xl j<|a7 d) b) λp=>p.1=.nx/\I (n+1) p.2.1 p.2.2)(g:∀c b,I ay.f c b->b[a]?=a7 (.dF ay)/\Q ⟨.nx,c,b.xl a<|.dT ay⟩)(w:i<1000:=by decide):W (f9 i (cV (tW<|aC i) (dE j) gi) x h μ) Q:=by
 show xD (LQ w hi) hc ?_;let u:(μ.xl a<|.dF ay)[a]?=a7 (.dF ay):=fG hc;let s:tW (aC i) h (μ.xl a<|.dF ay)=a7 ⟨eM<|.L<|mI ay,ay.f+1,μ.xl a<|.dF ay⟩:=by dsimp[tW,aC,hi,ě,u]
 rw[Õ,s,À];show nP (N:=ay.f) I (λn c b v o=>?_) (λc b o=>(?_,g c b o)) ay.f 0 h _ () h0
 .let e:ay[n]?=a7 ⟨ay[n].1,ay[n].2⟩:=Ċ v;show(ay[n].2,_,?_,?r,bH (go n _ _ c b e o) λp q=>?_)
  .change a7 ((mI ay)[n]?)=_;ext mI;rw[ĉ,e];rfl
  .rw[q.1];show q.2
 .change a7 ((mI ay)[ay.f]?)=_;rw[ju<|by ext mI;simp]
def a2m{ay:jx}{Q:jz}(h:b[i]?=a7 (a7<|.z a))(hc:μ[a]?=a7 (.dT ay))(H:W (c b<|μ.xl a<|.dF ay) λr=>r.2[a]?=a7 (.dF ay)/\Q ⟨r.1,r.2.xl a<|.dT ay⟩)(d:i<1000:=by decide):W (tV i c g b μ) Q:=by
 let e:qB i b μ=a7 ⟨a,ay⟩:=by dsimp[qB,LQ d h,hc]
 ext tV;rw[e];rw[Ã];show bH H λr q=>?_;rw[q.1];show À.v q.2
def LR:∀a b c,HT.xw a b=b4->HT.xw b c=b4->HT.xw a c=b4
 |[],[],_,h,_=>by ext h
 |[],_::_,[],_,h=>by ext h
 |[],_::_,_::_,_,_=>?r|_::_,[],_,h,_=>by ext h
 |_::_,_::_,[],_,h=>by ext h
 |x::xs,y::ys,z::zs,h1,d=>by
  rw[HT.lexLt_cons]at h1 d ⊢;by_cases g:x=y
  .subst g;rw[ad ?r]at h1;by_cases e:x=z
   .rw[ad e]at d ⊢;show LR xs ys zs h1 d
   .rw[ac e]at d ⊢;show d
  .rw[ac g]at h1;let h1:=bi h1;by_cases e:y=z
   .subst e;rw[ac g];show cc h1
   .rw[ac e]at d;let d:=bi d;rw[ac ()];show cc ()
def LS:∀k,HT.xw k k=b3
 |[]=>?r|a::k=>by rw[HT.lexLt_cons,ad ?r];show LS k
def a2n!(x y:ae):av:=(x%4==2&&y%2==1)||(y%4==2&&x%2==1)
def eE!(w h:ae):jq:=(lR 1 (4*w-1).zi (4*h-1).zi).H λp=>a2n p.1 p.2
def xG!:ab (ab ae)->av
 |x::y::r=>HT.xw x y&&xG (y::r)|_=>b4
def Ek:∀{l},xG l=b4->l.Pairwise λx y=>HT.xw x y=b4
 |[],_=>.kk|[x],_=>Qu _ _|x::y::r,h=>by
  unfold xG at h;rw[â]at h;let b:=Ek h.2;show Qh.v (λz a=>?_,b);rcases ē.Z a with rfl|a
  .show h.1
  .show LR _ _ _ h.1<|(Qh.Z b).1 z a
def LU(h:Z[i]?=a7 z):(GZ Z).ze (i+1)=(GZ Z).ze i++[⟨z.1,z.2.1⟩]:=iP<|by ext GZ;rw[ĉ,h];rfl
def pH{P:Prop}(h:b=b3)(q:Q):if b=b4 then P else Q:=by rw[h];show q
def xH{P:Prop}(h:b=b4)(q:P):if b=b4 then P else Q:=by rw[h];show q
def LV u n p:aF (aZ u n) p=if u=0 then⟨p.1,2*n-p.2⟩else if u=1 then⟨2*n-p.1,p.2⟩else if u=2 then⟨p.2+n,p.1-n⟩else⟨n-p.2,n-p.1⟩:=by
 ext aZ aF;lk
 .show ė ?_ ?_<;>dsimp<;>lia
 lk
 .show ė ?_ ?_<;>dsimp<;>lia
 lk
 .show ė ?_ ?_<;>dsimp<;>lia
 .show ė ?_ ?_<;>dsimp<;>lia
def a2o u n:eC (aZ u n)=-1:=by
 ext aZ eC;lk
 .rfl
 lk
 .rfl
 lk
 .rfl
 .rfl
def AV(h:Ġ A):(eC A=1/\A.c=-A.b/\A.d=A.a)\/(eC A=-1/\A.c=A.b/\A.d=-A.a):=by
 let(a,b,c,d,e,g):=A;unfold Ġ at h;ext eC;dsimp at h ⊢;rcases h with(rfl|rfl|h1|i)|(rfl|rfl|h1|i)
 .rcases h1 with rfl|rfl<;>rcases i with rfl|rfl<;>decide
 .rcases h1 with rfl|rfl<;>rcases i with rfl|rfl<;>decide
def LW{a:ae}(h1:a*x+b*y=0)(e:a*y-b*x=0)(hd:x*x+y*y≠0):a=0/\b=0:=by
 let c:a*(x*x+y*y)=0:=by grind
 let d:b*(x*x+y*y)=0:=by grind
 show((je.Z c).resolve_right hd,(je.Z d).resolve_right hd)
def a2p{p:ae×ae}(h:p≠q):(p.1-q.1)*(p.1-q.1)+(p.2-q.2)*(p.2-q.2)≠0:=λe=>by
 let h1:(p.1-q.1)*(p.1-q.1)=0/\(p.2-q.2)*(p.2-q.2)=0:=by
  let a:∀z:ae,0<=z*z:=λz=>by
   rcases ae.le_total 0 z with h|h
   .show RW h h
   .show ae.mul_nonneg_of_nonpos_of_nonpos h h
  have:=a<|p.1-q.1;have:=a<|p.2-q.2;omega
 show h<|ė ?_ ?_
 .rcases je.Z h1.1 with z|z<;>lia
 .rcases je.Z h1.2 with z|z<;>lia
def a2q{C:Ly}(hB:Ġ B)(hC:Ġ C)(hd:eC B=eC C)(R:p≠q)(h1:aF B p=aF C p)(n:aF B q=aF C q):B=C:=by
 let j:=AV hB;let k:=AV hC;let nz:=a2p R;clear R;let(x,y):=p;let(z,w):=q;unfold aF at h1 n;injection h1 with u1 u2;injection n with v1 v2;dsimp at nz u1 u2 v1 v2;let h:(B.a-C.a)*(x-z)+(B.b-C.b)*(y-w)=0:=by grind
 let i:(B.c-C.c)*(x-z)+(B.d-C.d)*(y-w)=0:=by grind
 let io:B.a-C.a=0/\B.b-C.b=0:=by
  rcases j with(a|c|d)|(a|c|d)<;>rcases k with(c1|c2|c3)|(c1|c2|c3)
  .show LW h (by rw[c,d,c2,c3]at i;grind) nz
  .rw[hd,c1]at a;ext a
  .rw[hd,c1]at a;ext a
  .show LW h (by rw[c,d,c2,c3]at i;grind) nz
 let e:B.a=C.a:=()
 let g:B.b=C.b:=()
 let b:B.c=C.c/\B.d=C.d:=by
  rcases j with(a|c|d)|(a|c|d)<;>rcases k with(c1|c2|c3)|(c1|c2|c3)
  .rw[c,d,c2,c3,e,g];show(?r,?r)
  .rw[hd,c1]at a;ext a
  .rw[hd,c1]at a;ext a
  .rw[c,d,c2,c3,e,g];show(?r,?r)
 show Ly.ext' e g b.1 b.2 ?_ ?_
 .rw[e,g]at u1;lia
 .rw[b.1,b.2]at u2;lia
def LX{P:ae->ae->Prop}(h:∀a∈[(0:ae),1,2,3],∀b∈[(0:ae),1,2,3],P a b)x y:P (x%4) (y%4):=by
 let m:∀z:ae,z%4∈[(0:ae),1,2,3]:=λz=>by
  have:z%4=0\/z%4=1\/z%4=2\/z%4=3:=()
  apply ah
 show h _ (m x) _<|m y
def sL(z:ae):z%4%2=z%2:=TK z ⋯
def c6!(x y:ae):av:=x%2==y%2&&(x%2==1||!(x%4==y%4))
def sA!(e:ae×ae):ae×ae:=if e.1%2=1 then⟨e.1,e.2+2-e.2%4⟩else if e.2%4=0 then⟨e.1,e.2-1⟩else⟨e.1-1,e.2⟩
def sB!(e:ae×ae):ae×ae:=if e.1%2=1 then⟨e.1+2-e.1%4,e.2⟩else if e.2%4=0 then⟨e.1,e.2+1⟩else⟨e.1+1,e.2⟩
def xI{e:ae×ae}(h:c6 e.1 e.2=b4):(e.1%2=1/\e.2%2=1)\/(e.1%2=0/\e.2%4=0/\e.1%4=2)\/(e.1%2=0/\e.2%4=2/\e.1%4=0):=by unfold c6 at h;rw[<- sL e.1,<- sL e.2]at h ⊢;revert h;show LX (P:=λa b=>(a%2==b%2&&(a%2==1||!(a==b)))=b4->(a%2=1/\b%2=1)\/(a%2=0/\b=0/\a=2)\/(a%2=0/\b=2/\a=0)) ⋯ e.1 e.2
def AW(h:c6 e.1 e.2=b4):c9 (sA e) e=sB e/\c9 (sB e) e=sA e:=by
 have:=xI h;unfold c9 sA sB;rcases ah with(h1|b)|(h1|b|a)|(h1|b|a)
 .dsimp[ad h1];by_cases a:e.1%4=e.2%4
  .dsimp[ad a];show(ė ?_ ?_,ė ?_ ?_)<;>dsimp<;>lia
  .dsimp[ac a];show(ė ?_ ?_,ė ?_ ?_)<;>dsimp<;>lia
 .dsimp[ac<|show ¬ e.1%2=1 by lia,ad b];show(ė ?_ ?_,ė ?_ ?_)<;>dsimp<;>lia
 .dsimp[ac<|show ¬ e.1%2=1 by lia,ac<|show ¬ e.2%4=0 by lia];show(ė ?_ ?_,ė ?_ ?_)<;>dsimp<;>lia
def EdF.pos{F:ae×ae->Ly}(a:c6 e.1 e.2=b4)(h:F (sA e)=c8 (fN e) (F<|sB e)):aF (F<|sA e) (sA e)=aF (F<|sB e) (sB e):=by rw[h,j6,kW,(AW a).1]
def a2r u n:c8 (aZ u n) (aZ u n)=eJ:=DL λp=>by rw[j6,DT,xA]
def cY!(w h:ae):jq:=(lR 1 (4*w-1).zi (4*h-1).zi).H λp=>c6 p.1 p.2
def i8!:jq:=[⟨1,1⟩,⟨1,2⟩,⟨1,3⟩,⟨2,1⟩,⟨2,2⟩,⟨2,3⟩,⟨3,1⟩,⟨3,2⟩,⟨3,3⟩,⟨4,1⟩,⟨5,1⟩,⟨6,1⟩,⟨4,2⟩,⟨5,2⟩,⟨6,2⟩,⟨1,4⟩,⟨1,5⟩,⟨1,6⟩,⟨2,4⟩,⟨2,5⟩,⟨2,6⟩]
def kZ:∀p∈i8,(1<=p.1/\p.1<=6)/\(1<=p.2/\p.2<=6)/\(eE p.1 p.2).f<=48/\1<=(eE p.1 p.2).f/\xG ((eE p.1 p.2).o a9)=b4/\(cY p.1 p.2).f<=64/\xG ((cY p.1 p.2).o a9)=b4 /\
  ∀e∈cY p.1 p.2,c6 e.1 e.2=b4/\sA e∈eE p.1 p.2/\sB e∈eE p.1 p.2/\(0<e.1/\e.1<4*p.1)/\0<e.2/\e.2<4*p.2:=by decide +de
def a2s μ A B:eX 8 μ (LD A) (LD B)=a7 (ag<|A=B):=by
 have:eX 8 μ (LD A) (LD B)=a7 (A.a==B.a&&(A.b==B.b&&(A.c==B.c&&(A.d==B.d&&(A.e==B.e&&(A.g==B.g&&b4)))))):=?r;rw[ah];congr 1;rw[Ψ,cx];dsimp[â,bg,and_true];constructor
 .rintro(h1|a|b|c|d|e);show Ly.ext' h1 a b c d e
 .rintro rfl;show(?r,?r,?r,?r,?r,?r)
def lu{Q:jz}:W (aV b4 (LD A) (LD B) μ) Q↔Q ⟨.bl<|!ag (A=B),μ⟩:=by
 have:aV b4 (LD A) (LD B) μ=a7 ⟨.bl<|!ag (A=B),μ⟩:=by ext aV;rw[a2s];rfl
 rw[ah];show À
def k5!(w h:ae)(F:ae×ae->Ly):jq:=(cY w h).H λe=>!ag (F (sA e)=F (sB e))
def flat!(G:Gr):jq:=G.flatMap (·.2)
def aQ!(G:Gr)(q:ae×ae):ae:=match G.find? (λg=>g.2.zo q)with|bb g=>(g.2.idxOf q:am)|bp=>0
def LY G g:j3 (G++[g])=j3 G++g.2:=by ext j3;rw[vy];simp
def ś:q∈j3 G↔∃g∈G,q∈g.2:=ji
def Ň.one{f:ae×ae->ae×ae}(P:Ň qs f G)(a:g∈G)(b:q∈g.2):q∈qs/\f q=g.1:=by let h:=P.pm g.1;rw[kX P.kd a]at h;have:=Ĥ.Z<|h.mem_iff.Z b;show(ah.1,bi ah.2)
def Ň.nd{f:ae×ae->ae×ae}(nd:qs.J)(P:Ň qs f G)(a:g∈G):g.2.J:=by let h:=P.pm g.1;rw[kX P.kd a]at h;show h.nodup_iff.v<|nd.sublist fj
def LZ{f:ae×ae->ae×ae}:∀{G},(G.o (·.1)).J->(∀g∈G,g.2.J/\∀q∈g.2,f q=g.1)->(j3 G).J
 |[],_,_=>Rl|g::G,kd,h=>by rw[í,ŧ]at kd;change(g.2++j3 G).J;rw[fB];show((h g<|ŗ ..).1,LZ kd.2 λx c=>h x<|ķ _ c,λa k b n e=>?_);subst e;let(x,c,d):=ś.Z n;let i:=(h g<|ŗ ..).2 a k;let j:=(h x<|ķ _ c).2 a d;show kd.1<|Ü.v (x,c,by rw[<- j,i])
def Ň.flat{f:ae×ae->ae×ae}(nd:qs.J)(P:Ň qs f G):(_w.flat G).Perm qs:=by
 let h1:(_w.flat G).J:=LZ (f:=f) P.kd λg a=>(P.nd nd a,λq b=>(P.one a b).2);show(Te h1 nd).v λq=>?_;rw[ś];constructor
 .rintro(g|a|b);show(P.one a b).1
 .intro b;let(g,a,e):=Ü.Z<|P.key.v (q,b,?r);show(g,a,?_);let h:=P.pm g.1;rw[kX P.kd a]at h;show h.mem_iff.v<|Ĥ.v (b,cc e.R)
def xJ{f:ae×ae->ae×ae}(nd:qs.J)(P:Ň qs f G)(a:g∈G){i:am}(b:g.2[i]?=a7 q):aQ G q=i:=by
 let k:=œ b;let p:G.find? (λx=>x.2.zo q)=a7 g:=by
  cases h:G.find? (λx=>x.2.zo q)with
  |bp=>show cb (ϡ.v k) (by have:=fc.Z h g a;apply ah)|bb x=>
   let n:=TX h;let c:q∈x.2:=by let d:=ab.find?_some h;show ϡ.Z d
   let e:x.1=g.1:=by rw[<- (P.one n c).2,(P.one a k).2]
   let j:=kX P.kd n;let o:=kX P.kd a;rw[e,o]at j;rw[show x=g from ė e j.R]
 ext aQ;rw[p];let hi:i<g.2.f:=(ã.Z b).1;let e:=(ã.Z b).2;have:g.2.idxOf q=i:=by rw[<- e];show(P.nd nd a).idxOf_getElem i hi
 change((g.2.idxOf q:am):ae)=i;rw[ah]
def a2t{h μ:Hm}(z:∀(i:am)q,L[i]?=a7 q->v q=.p (i:ae))(u:∀q∈L,q∉K)(nd:L.J)(A:K.f+L.f<=1000)(np:h<+:μ)(lo:h.f<=b)(gl:h[l]?=a7 (.D<|L.o PP))(s:μ[b]?=a7 (.dT<|bU v K))Q(H:∀x y a,h<+:a->a[b]?=a7 (.dT<|bU v<|K++L)->Q ⟨.nx,[j,a7<|.z b,k,x,y],a⟩):
  W (fQ (mG<|.z l) (fY [3,4]) (d8 (aC 1) (aC 4)<|aC 3) ((L.o PP).f+1) 0 [j,a7<|.z b,k,n,o] μ) Q:=by
 show YH (λi c a=>∃x y,c=[j,a7<|.z b,k,x,y]/\h<+:a/\a[b]?=a7 (.dT<|bU v<|K++L.ze i)) (n,o,?r,np,by rw[zy,Ĭ];show s) (by rintro _ _ _ (_|_|_|p|_);show aI p gl) ?_ ?_
 .rintro i d c a hd (x|y|rfl|p|g);let(q,e,?r):=o8 hd;show(_,?r,?_);let hi:i<L.f:=(ã.Z e).1;change W (d8 (aC 1) (aC 4) (aC 3) [j,a7<|.z b,k,a7<|.p i,a7<|PP q] a) _;dsimp[ď,bK,cB];show(qL g (dW q)<|by rw[Ä,ô,ţ,õ];lia).v ?_;show(_,_,?r,e6 p lo _,?_);rw[fG g,<- z i q e,KS,iP e,Θ];intro w;rcases Ĺ.Z w with w|w
  .show u q (œ e) w
  .show sE nd e w
 .rintro c a (x|y|rfl|p|g);rw[Ä,ź]at g;show H x y a p g
def a2u(nd:qs.J)(p:qs.f<=100)(P:Ň qs g (GZ Z))(hz:Z[i]?=a7 z):
  (∀(j:am)q,z.2.1[j]?=a7 q->(λq=>D.p<|aQ (GZ Z) q) q=.p (j:ae))/\(∀q∈z.2.1,q∉j3 ((GZ Z).ze i))/\z.2.1.J/\(j3<|(GZ Z).ze i).f+z.2.1.f<=1000:=by
 let a:⟨z.1,z.2.1⟩∈GZ Z:=Ü.v (z,œ hz,?r);show(λj q b=>by dsimp;rw[xJ nd P a b],λq b w=>?_,P.nd nd a,?_)
 .let(x,h,c):=ś.Z w;let d:=QN h;let e:x.1=z.1:=by rw[<- (P.one d c).2,(P.one a b).2]
  have:z.1∉((GZ Z).ze i).o (·.1):=by rw[Pt,mS];let k:=P.kd;rw[mS]at k;show sE k<|by rw[ĉ,hz];rfl
  show ah<|e▸Ü.v (x,h,?r)
 .let h1:=(P.flat nd).length_eq;let n:(j3<|(GZ Z).ze i).f+z.2.1.f=(j3<|(GZ Z).ze<|i+1).f:=by rw[LU hz,LY,ô]
  let o:(j3<|(GZ Z).ze<|i+1).f<=(j3<|GZ Z).f:=by
   have:GZ Z=(GZ Z).ze (i+1)++(GZ Z).kw (i+1):=(wk _ _).R;conv=>rhs;rw[ah]
   ext j3;rw[vy,ô];lia
  lia
def a2v k(nd:qs.J)(G:qs.f<=100)(I:HI μ h Z)(e:μ[h]?=a7 (.dT<|bA Z))(P:Ň qs g (GZ Z))(Q:jz)(H:∀b a,μ<+:a->a[b]?=a7 (.dT<|bU (λq=>.p<|aQ (GZ Z) q)<|j3<|GZ Z)->Q ⟨.z b,a⟩):W (f (k+1) "heights_in" [.z h] μ) Q:=by
 let s:h<μ.f:=(ã.Z e).1;rw[ZD,å,Ì];dsimp[ò,û,Ũ,ŭ];rw[Ì];let v:=I.frz e;let n:(μ.xl h<|.dF<|bA Z).f=μ.f:=ĸ;let u:μ.xl h (.dF<|bA Z)<+:(μ++[C.dT []]).xl h (.dF<|bA Z):=by rw[Od _ _ s];show OL _ _
 show a2l ?r (aI (aS _ _) e) (λi c a=>∃x y z,c=[a7<|.z h,a7<|.z μ.f,x,y,z]/\μ.xl h (.dF<|bA Z)<+:a/\a[μ.f]?=a7 (.dT<|bU (λq=>.p<|aQ (GZ Z) q)<|j3<|(GZ Z).ze i))
  (b0,b0,b0,?r,u,by rw[ć ()];show bT _ _) ?_ ?_
 .rintro i R d c a E (x|y|X|rfl|o|p);let(z,w,j,?r,?r):=a0t E;dsimp[Ũ,ŭ,Õ];show YF ?_;dsimp[Å,cT,bK,cB];show(z.2.2,z.2.1.o PP,?r,(v.more o).at_ z w,?_);let(K,L,M,N):=a2u nd G P j;show a2t (v:=λq=>.p<|aQ (GZ Z) q) (K:=j3 ((GZ Z).ze i)) K L M N o (by rw[n];show Ô _) (v.at_ z w) p _ λT U O J A=>?_;show(?r,_,_,_,?r,J,?_);rw[LU j,LY];show A
 .rintro c a (x|y|z|rfl|o|p);let B:a[h]?=a7 (.dF<|bA Z):=aI o<|fG e;show(B,?_);dsimp[Ö,bK,cB];show H _ _ (AF e o) ?_;rw[ć (),p,NK<|by rw[AE,GZ,Ä];show Ô _]
def eF!(F:ae×ae->Ly)(r:ae×ae->ae)(e:ae×ae):cf:=if(ag (r (sB e)<r (sA e))==ag (eC (F<|sA e)<0))=b4 then "v" else "h"
def k6!(q:ae×ae):jq:=[⟨q.1-1,q.2⟩,⟨q.1,q.2-1⟩,⟨q.1,q.2+1⟩,⟨q.1+1,q.2⟩]
def a2w:(4:am)<=Ò:=⋯
def a2x k q μ:f (k+1) "beside" [PP q] μ=a7 ⟨.z μ.f,μ++[C.D [P (q.1-1) q.2,P q.1<|q.2-1,P q.1<|q.2+1,P (q.1+1) q.2]]⟩:=by rw[YV];kernel_rfl
def L4 k q(μ:Hm)(Q:jz)(H:∀a aw,μ<+:aw->aw[a]?=a7 (.D<|((k6 q).H cR).o PP)->Q ⟨.z a,aw⟩):W (f (k+2) "sides_of" [PP q] μ) Q:=by
 rw[YW,å];dsimp[Ö];show jH (xs:=(k6 q).o PP) (p:=λd=>cR<|fL d) (v:=λd=>d) ?_;show Ú.v<|Z6 ?r ?_;rw[a2x,À];let c:(μ++[C.D [P (q.1-1) q.2,P q.1<|q.2-1,P q.1<|q.2+1,P (q.1+1) q.2]])[μ.f]?=a7 (.D<|(k6 q).o PP):=bT _ _;show(fK c).v (nQ c,?r,a2w,λd aw hd b=>?_,λd aw hd x b=>?_,λaw b e=>?_)
 .let(u,v,?r):=uF hd;dsimp[Ź,Ζ,Ħ,Ë,Å,cT,bK,cB,K4,ľ];show(?r,Ę _)
 .dsimp[Ź,Ζ,bK,cB];show(fw,Ę _)
 .show H _ _ ((aS _ _).u b) ?_;rw[e,uE cR]
def xK!(F:ae×ae->Ly)(r:ae×ae->ae)(s t:ae×ae):cf:=if(if eC (F s)=-1 then ag (r t<r s)else ag (r s<r t))=b4 then "v" else "h"
def a2y(g:∀q,Ġ (F q))(hd:F (sA e)=c8 (fN e) (F<|sB e))(h:r (sA e)≠r (sB e)):xK F r (sA e) (sB e)=eF F r e/\xK F r (sB e) (sA e)=eF F r e:=by
 let h1:eC (F<|sA e)=-eC (F<|sB e):=by rw[hd,Aw,DI];lia
 let d:=AV<|g<|sB e;ext xK eF;let a:eC (F<|sB e)=1\/eC (F<|sB e)=-1:=d.imp (·.1) (·.1);rw[h1];rcases a with a|a
 .rw[a];constructor<;>(by_cases b:r (sB e)<r (sA e)<;>by_cases c:r (sA e)<r (sB e)<;>simp[b,c]<;>lia)
 .rw[a];constructor<;>(by_cases b:r (sB e)<r (sA e)<;>by_cases c:r (sA e)<r (sB e)<;>simp[b,c]<;>lia)
def Em p:cR p=b4↔(p.1%2=1/\p.2%4=2)\/(p.1%4=2/\p.2%2=1):=by
 ext cR;lk
 .rw[bg];lia
 .rw[â,bg,bg];lia
def qS(z:ae):z%2=z%4%2:=(TK z ⋯).R
def L5(a:x%4=r%4)(b:y%4=s%4):cR ⟨x,y⟩=cR ⟨r,s⟩:=by ext cR;dsimp;rw[qS x,qS y,a,b,<- qS,<- qS]
def a2z x y:cR ⟨-x,y⟩=cR ⟨x,y⟩:=by
 ext cR;dsimp;let a:-x%2=x%2:=()
 rcases Ri x with h|h
 .rw[show -x%4=x%4 by lia,a]
 .rw[a,h,ad ?r,ad ?r]
def a2A x y:cR ⟨y,x⟩=cR ⟨x,y⟩:=by rw[Ψ,Em,Em];show(λh=>h.R.imp uf uf,λh=>h.R.imp uf uf)
def a2B(a:x%4=r)(b:y%4=s)i j:cR ⟨x+i,y+j⟩=cR ⟨r+i,s+j⟩:=L5 (by rw[<- a,Sk])<|by rw[<- b,Sk]
def Eo(a:x%4=r)(b:y%4=s):(k6 ⟨x,y⟩).H cR=(([⟨-1,0⟩,⟨0,-1⟩,⟨0,1⟩,⟨1,0⟩]:jq).H λd=>cR ⟨r+d.1,s+d.2⟩).o λd=>⟨x+d.1,y+d.2⟩:=by
 have:k6 ⟨x,y⟩=([⟨-1,0⟩,⟨0,-1⟩,⟨0,1⟩,⟨1,0⟩]:jq).o λd=>⟨x+d.1,y+d.2⟩:=by dsimp[k6,í,du,zz];rfl
 rw[ah,jf];congr 1;show QY λd z=>a2B a b d.1 d.2
def L6(h:c6 e.1 e.2=b4):(k6 e).H cR=[sA e,sB e]\/(k6 e).H cR=[sB e,sA e]:=by
 have:=xI h;let(x,y):=e;ext sA sB;dsimp at ah ⊢;rcases ah with(h1|c)|(h1|c|d)|(h1|c|d)
 .let a:x%4=1\/x%4=3:=()
  let b:y%4=1\/y%4=3:=()
  rw[ad h1,ad h1];rcases a with a|a<;>rcases b with b|b<;>rw[Eo a b,a,b]
  .show .Q<|by change[⟨x+0,y+1⟩,⟨x+1,y+0⟩]=_;simp;lia
  .show .Q<|by change[⟨x+0,y+-1⟩,⟨x+1,y+0⟩]=_;simp;lia
  .show .X<|by change[⟨x+-1,y+0⟩,⟨x+0,y+1⟩]=_;simp;lia
  .show .X<|by change[⟨x+-1,y+0⟩,⟨x+0,y+-1⟩]=_;simp;lia
 .dsimp[ac<|show ¬ x%2=1 by lia,ad c];rw[Eo d c];show .Q<|by change[⟨x+0,y+-1⟩,⟨x+0,y+1⟩]=_;rw[zz];rfl
 .dsimp[ac<|show ¬ x%2=1 by lia,ac<|show ¬ y%4=0 by lia];rw[Eo d c];show .Q<|by change[⟨x+-1,y+0⟩,⟨x+1,y+0⟩]=_;rw[zz];rfl
def a2C(a:x%4=r%4)(b:y%4=s%4):c6 x y=c6 r s:=by ext c6;rw[qS x,qS y,a,b,<- qS,<- qS]
def a2D x y:c6 (-x) y=c6 x y:=by
 ext c6;let a:-x%2=x%2:=()
 rcases Ri x with h|h
 .rw[show -x%4=x%4 by lia,a]
 .rw[a,h];rfl
def a2E x y:c6 y x=c6 x y:=by
 ext c6;rw[BEq.comm (a:=y%2),BEq.comm (a:=y%4)];cases h:x%2==y%2
 .rfl
 .rw[eq_of_beq h]
def L7{T:ae->ae->av}(i:∀{x y r s},x%4=r%4->y%4=s%4->T x y=T r s)(pn:∀x y,T (-x) y=T x y)(ps:∀x y,T y x=T x y)(hA:Ġ A)(a:A.e%4=0/\A.g%4=0)e:T (aF A e).1 (aF A e).2=T e.1 e.2:=by
 let c:=pn e.1 e.2;let b:=ps e.1 e.2;let d:T e.1 (-e.2)=T e.1 e.2:=by rw[<- ps,pn,b]
 let h:T (-e.1) (-e.2)=T e.1 e.2:=by rw[pn,d]
 let g:∀{x y r s u v:ae},u%4=0/\v%4=0->T r s=T e.1 e.2->x=r+u->y=s+v->T x y=T e.1 e.2:=λa q h1 j=>(i (by clear q;lia)<|by clear q;lia).u q;ext aF;obtain⟨u,v,k|k|k|k|k|k|k|k⟩:=DJ hA<;>subst k<;>dsimp at a ⊢
 .show g a ?r () ()
 .show g a d () ()
 .show g a c () ()
 .show g a h () ()
 .show g a b () ()
 .show g a ((ps _ _).u c) () ()
 .show g a ((pn _ _).u b) () ()
 .show g a ((ps _ _).u h) () ()
def AX(hA:Ġ A)(a:A.e%4=0/\A.g%4=0)(h:c6 e.1 e.2=b4):c6 (aF A e).1 (aF A e).2=bt:=(L7 a2C a2D a2E hA a e).u h
def a2F!(k:am):MS:=aM<|gU (c7<|bI (f k "is_above")<|aB (aC 0)<|aB (aA bE (aC 3)<|mC<|.p 0)<|aB (aA bE (aC 3)<|mC<|.p 1) aD) (mC<|.jv "v")<|mC<|.jv "h"
def L8 k{r:ae×ae->ae}(i:e.J)(h:μ[a]?=a7 (.dT<|bU (λq=>.p<|r q) e))(j:x∈e)(n:y∈e)(g:μ[c]?=a7 (.D<|[x,y].o PP))Q(H:Q ⟨.rt<|.jv<|if ag (r y<r x)=b4 then "v" else "h",[a7<|.z a,b,d,a7<|.z c],μ⟩):
  W (a2F (k+1) [a7<|.z a,b,d,a7<|.z c] μ) Q:=by
 show cZ<|Ğ.v<|j5 (b:=ag (r y<r x))<|eP<|aX (_,?r,aX<|bG ?r ?r<|(iY g ?r).v<|aX<|bG ?r ?r<|(iY g ?r).v (_,?r,Ó (ZE k _ _ _ _)<|cZ<|bD<|bG ?r ?r<|(uH (.Q h) (dW x)<|sF i j).v<|bG ?r ?r<|(uH (.Q h) (dW y)<|sF i n).v<|Α.v (?r,?_)));cases hc:ag (r y<r x)with
 |bt=>rw[hc]at H;show xH ?r (_,?r,H)|ai=>rw[hc]at H;show pH ?r (_,?r,H)
def a2G k(u:∀q,Ġ (F q))(L:n7.J)(y:d.J){μ:Hm}(v:μ[a]?=a7 (.dT<|bU (λq=>.p<|r q) d))(G:μ[b]?=a7 (.dT<|bU (λq=>LD<|F q) n7))(I:c6 e.1 e.2=b4)(x:sA e∈n7/\sB e∈n7)(n:sA e∈d/\sB e∈d)(hd:F (sA e)=c8 (fN e) (F<|sB e))(J:r (sA e)≠r (sB e))(Q:jz)(H:∀j,μ<+:j->Q ⟨.jv<|eF F r e,j⟩):
  W (f (k+4) "mark_by_heights" [.z a,.z b,PP e] μ) Q:=by
 let c:∀s t:ae×ae,s∈n7->s∈d->t∈d->xK F r s t=eF F r e->(k6 e).H cR=[s,t]->W (f (k+4) "mark_by_heights" [.z a,.z b,PP e] μ) Q:=λs t K fs p E B=>by
  show Ó (ZG (k+3) _ _ _ μ)<|bN<|aY ?r<|Ó (ZF (k+2) _ _ μ)<|bN<|aY ?r<|L4 k e _ _ λl M i g=>?_;rw[B]at g;rw[<- E]at H;unfold xK at H;show Ì.v<|Ð.v<|j5<|eP<|aX<|bD (_,?r,bG ?r ?r<|(iY g ?r).v<|(uH (.Q<|aI i G) (dW s)<|sF L K).v (_,?r,(a0f (k+1) (F s) (u s) _ _).v (?r,?_)));cases o:eC (F s)==-1 with
  |bt=>rw[ad<|eq_of_beq o]at H;show xH ?r (cZ (_,?r,L8 (k+2) y (aI i v) fs p g _<|H _ i))|ai=>rw[ac<|show ¬ eC (F s)=-1 from λw=>by rw[w]at o;ext o]at H;show pH ?r<|Î.v<|cZ<|ā.v<|aX<|bG ?r ?r<|(iY g ?r).v<|aX<|bG ?r ?r<|(iY g ?r).v (_,?r,iN,L8 (k+2) y (aI (i.u<|aS _ _) v) p fs (bT _ _) _<|H _<|i.u<|aS _ _)
 let(z,A):=a2y u hd J;rcases L6 I with h|h
 .show c _ _ x.1 n.1 n.2 z h
 .show c _ _ x.2 n.2 n.1 A h
def AY!:D->D
 |.L (a::_)=>a|_=>.kf
def L9!:D->D
 |.L [_,b]=>b|_=>.kf
def Ma(nd:qs.J)(P:Ň qs g G)(n:a∈qs)(p:b∈qs)(ne:a≠b)(e:g a=g b):aQ G a≠aQ G b:=by
 let(x,d,k):=Ü.Z<|P.key.v (a,n,?r);let h:=P.pm x.1;rw[kX P.kd d]at h;let h1:a∈x.2:=h.mem_iff.v<|Ĥ.v (n,cc k.R);let o:b∈x.2:=h.mem_iff.v<|Ĥ.v (p,cc<|e.R.u k.R);let(i,hi):=TU h1;let(j,c):=TU o;rw[xJ nd P d hi,xJ nd P d c];intro w;let q:i=j:=()
 subst q;rw[hi]at c;show ne<|Ĕ c
def pI(h:c6 e.1 e.2=b4):sA e≠sB e:=by
 have:=xI h;ext sA sB;intro w;rcases ah with(h1|a)|(h1|a|b)|(h1|a|b)
 .rw[ad h1,ad h1]at w;injection w with w1 w2;lia
 .dsimp[ac<|show ¬ e.1%2=1 by lia,ad a]at w;injection w with w1 w2;lia
 .dsimp[ac<|show ¬ e.1%2=1 by lia,ac<|show ¬ e.2%4=0 by lia]at w;injection w with w1 w2;lia
structure Ug(qs:jq)(F:ae×ae->Ly)(e:ae×ae):Prop where
 r:c6 e.1 e.2=b4
 a:sA e∈qs
 b:sB e∈qs
 m:F (sA e)=c8 (fN e) (F<|sB e)
def kG!(r:ae×ae):ae:=if r.1%2=1 then(if r.1%4=r.2%4 then 2 else 3)else if r.2%4=0 then 0 else 1
def Mb{qs:jq}(up:(qs.o a9).Pairwise λx y=>HT.xw x y=b4):qs.J:=by rw[Qb]at up;show up.imp λ{x y} h e=>by rw[e,LS]at h;show þ h
structure Wf(w h:ae)(F:ae×ae->Ly):Prop where
 di:∀q,Ġ (F q)
 lt:∀q,(F q).e%4=0/\(F q).g%4=0
 ed:∀e∈cY w h,F (sA e)=F (sB e)\/F (sA e)=c8 (fN e) (F<|sB e)
structure Dr(qs:jq)(μ:Hm)(a b:am)(F:ae×ae->Ly)(n7:jq)(Z:Zr):Prop where
 hw:μ[a]?=a7 (.dT<|bU (λq=>LD<|F q) n7)
 hr:n7.Perm qs
 hi:HI μ b Z
 hh:μ[b]?=a7 (.dT<|bA Z)
 pl:Ň qs (λq=>aF (F q) q)<|GZ Z
def Dr.more{aw:Hm}(d:Dr qs μ a b F n7 Z)(p:μ<+:aw):Dr qs aw a b F n7 Z:=(aI p d.hw,d.hr,d.hi.more p,aI p d.hh,d.pl)
def a2H(d:c6 r.1 r.2=b4):aZ (kG r) (bR (kG r) r)=fN r:=by
 show DL λp=>?_;rw[LV,kW];let(x,y):=r;let(u,v):=p;unfold c9 kG bR;rcases xI d with(a|b)|(a|b|c)|(a|b|c)<;>dsimp at a b ⊢
 .dsimp[ad a];by_cases h:x%4=y%4
  .dsimp[ad h];show ė ?_ ?_<;>simp<;>lia
  .dsimp[ac h];show ė ?_ ?_<;>simp<;>lia
 .dsimp[ac<|show ¬ x%2=1 by lia,ad b];show ė ?_ ?_<;>simp
 .dsimp[ac<|show ¬ x%2=1 by lia,ac<|show ¬ y%4=0 by lia];show ė ?_ ?_<;>simp
def Mc{o:af a}{x:a}(h:W o λr=>r=x):o=a7 x:=by let(r,e,?r):=h;show e
def Md u(a:n%4=0)(h:A.e%4=0/\A.g%4=0):(c8 A<|aZ u n).e%4=0/\(c8 A<|aZ u n).g%4=0:=by
 ext c8 aZ;lk
 .dsimp;lia
 lk
 .dsimp;lia
 lk
 .dsimp;lia
 .dsimp;lia
def Me(hw:1<=w/\w<=3)(c:1<=h/\h<=3):⟨w,h⟩∈i8:=by
 let a:=gY hw;let b:=gY c;revert w h;intro w h _ _ a b;have:∀w∈[(1:ae),2,3],∀h∈[(1:ae),2,3],⟨w,h⟩∈i8:=⋯
 show ah w a h b
def pJ!(p:ae×ae):av:=if p.1%2=1 then p.2%2==1 else p.2%2==0&&!(p.1%4==p.2%4)
def a2I k x y μ(Q:jz):W (f (k+1) "is_edge" [P x y] μ) Q↔Q ⟨.bl<|pJ ⟨x,y⟩,μ⟩:=by
 rw[YS,å];dsimp[Ì,Ö,Î,Ð,î,Ė,Û,eI,bK,Ă,ċ,ü,JR,Ś,wZ];ext pJ;by_cases h:x%2=1
 .simp[h]
 .let e:(x%2==1)=ai:=by apply h
  dsimp[e,h,Ī,cm];cases y%2==0<;>simp
def Mf:∀p∈i8,(iQ p.1 p.2).H pJ=cY p.1 p.2:=by decide +de
def a2J k(g:⟨w,h⟩∈i8)(μ:Hm)(Q:jz)(H:∀a aw,μ<+:aw->aw[a]?=a7 (.D<|(cY w h).o PP)->Q ⟨.z a,aw⟩):W (f (k+2) "edges_in" [.p w,.p h] μ) Q:=by
 let(hw,e,_):=kZ _ g;show Ó (Y8 (k+1) _ _ μ)<|cZ<|jH (xs:=(iQ w h).o PP) (p:=λd=>pJ<|fL d) (v:=λd=>d)<|Ú.v<|aY ?r<|D0 _ w h hw e _ _ λa n j c o=>(fK c).v (nQ c,?r,?_,λd aw hd b=>?_,λd aw hd x b=>(_,?r,?r,Ę _),λaw b i=>?_)
 .have:=AG (w:=w) (h:=h) hw.2 e.2;rw[Ä,õ];lia
 .let(u,v,?r):=uF hd;show j5 (b:=pJ ⟨u,v⟩)<|aY ?r<|(a2I k u v _ _).v (?r,?r,Ę _)
 .show H _ _ (j.u b) ?_;rw[i,uE pJ,Mf _ g]
def xM!(e:ae×ae):jq:=(k6 e).H cR
def Ep(h:c6 e.1 e.2=b4):∃s t,xM e=[s,t]/\s≠t/\((s=sA e/\t=sB e)\/(s=sB e/\t=sA e)):=by
 rcases L6 h with a|a
 .show(_,_,a,pI h,.Q (?r,?r))
 .show(_,_,a,ì<|pI h,.X (?r,?r))
def Mg(h:c6 e.1 e.2=b4):c9 e e=e:=by
 let(x,y):=e;ext c9;rcases xI h with(a|b)|(a|b|c)|(a|b|c)<;>dsimp at a b ⊢
 .by_cases h:x%4=y%4
  .dsimp[ad a,ad h];show ė ?_ ?_<;>dsimp<;>lia
  .dsimp[ad a,ac h];show ė ?_ ?_<;>dsimp<;>lia
 .dsimp[ac<|show ¬ x%2=1 by lia,ad b];show ė ?_ ?_<;>dsimp<;>lia
 .dsimp[ac<|show ¬ x%2=1 by lia,ac<|show ¬ y%4=0 by lia];show ė ?_ ?_<;>dsimp<;>lia
def cS!(F:ae×ae->Ly)(e:ae×ae):ae×ae:=aF (F<|sA e) e
def Er(h:c6 e.1 e.2=b4)(hd:F (sA e)=F (sB e)\/F (sA e)=c8 (fN e) (F<|sB e)):aF (F<|sB e) e=cS F e:=by
 ext cS;rcases hd with hd|hd
 .rw[hd]
 .rw[hd,j6,kW,Mg h]
def ϋ!:jq:=[⟨-1,0⟩,⟨0,-1⟩,⟨0,1⟩,⟨1,0⟩]
def a2K p:k6 p=ϋ.o λs=>⟨p.1+s.1,p.2+s.2⟩:=by ext k6 ϋ;dsimp[í,du,zz];rfl
def Mh(hA:Ġ A)(b:A.e%4=0/\A.g%4=0)(h:q∈xM e):aF A q∈xM (aF A e):=by
 let(h1,a):=Ĥ.Z h;show Ĥ.v (?_,?_)
 .let io:∀s∈ϋ,⟨A.a*s.1+A.b*s.2,A.c*s.1+A.d*s.2⟩∈ϋ:=by obtain⟨u,v,h|h|h|h|h|h|h|h⟩:=DJ hA<;>subst h<;>dsimp<;>decide
  rw[a2K]at h1 ⊢;let(s,c,?r):=Ü.Z h1;show Ü.v (_,io s c,?_);ext aF;dsimp[RT,Ph];lia
 .rw[show cR (aF A q)=cR q from L7 (T:=λx y=>cR ⟨x,y⟩) L5 a2z a2A hA b q];show a
def xN(hA:Ġ A)(h:p≠q):aF A p≠aF A q:=λe=>h<|by
 have:=br (aF<|DH A) e;rwa [Kr hA,Kr hA]at ah
def fH!(c:ab av):av:=c==[b4,b3,b4,b3]||c==[b3,b4,b3,b4]
def ŕ:fH c=b4↔c=[b4,b3,b4,b3]\/c=[b3,b4,b3,b4]:=by ext fH;rw[qw,bg,bg]
def Mi(h:fH c=b4):c.f=4:=by rcases ŕ.Z h with e|e<;>rw[e]<;>rfl
def Mj c:fH c.zd=fH c:=by rw[Ψ,ŕ,ŕ,TN,TN];show or_comm
def Es a b:fH (a++b)=fH (b++a):=by
 let h:∀a b:ab av,fH (a++b)=b4->fH (b++a)=bt:=λa b h=>by
  let k:∀c:ab av,fH c=b4->∀n,n<5->fH (c.kw n++c.ze n)=bt:=λc hc=>by rcases ŕ.Z hc with rfl|rfl<;>decide
  let l:=Mi h;rw[ô]at l;have:=k _ h a.f ();rwa [ab.drop_left,Rm]at ah
 show Ψ.v (h a b,h b a)
def Et x{C:ab av}(hA:∀b∈A,b=x)(hB:∀b∈B,b=!x)(hC:∀b∈C,b=x):fH (A++(B++C))=ai:=by
 let k:∀x:av,∀a,a<5->∀b,b<5->∀c,c<5->fH (Ϯ a x++(Ϯ b (!x)++Ϯ c x))=ai:=by decide +de
 show av.eq_false_iff.v λh=>?_;let l:=Mi h;rw[ô,ô]at l;rw[Qp.v (?r,hA),Qp.v (?r,hB),Qp.v (?r,hC),k x _ () _ () _ ()]at h;ext h
def eQ!(e a q:ae×ae):af av:=if q=sA e\/q=sB e then a7 b4 else if q=sA a\/q=sB a then a7 b3 else b0
def wd!(e a:ae×ae)(P:jq):ab av:=P.vv<|eQ e a
def Mm(h:eQ e a q=a7 b4):q=sA e\/q=sB e:=by
 unfold eQ at h;split at h
 .assumption
 .split at h<;>ext h
def Mn(h:eQ e a q=a7 b3):q=sA a\/q=sB a:=by
 unfold eQ at h;split at h
 .ext h
 .split at h
  .assumption
  .ext h
def xO{P:jq}(h:∀q∈P,eQ e a q≠a7 !x):∀b∈wd e a P,b=x:=λb d=>by let(q,g,c):=Qg.Z d;have:=h q g;rw[c]at ah;revert ah;ext b<;>ext x<;>simp
def Mo{P:jq}(h:∀q∈P,eQ e a q=b0):wd e a P=[]:=ab.filterMap_eq_nil_iff.v h
def nX!(G:Gr)(s t e a:ae×ae):av:=fH<|wd e a (b8 G s)++(wd e a<|b8 G t).zd
def Mp G s t e a:nX G s t e a=nX G t s e a:=by ext nX;rw[<- Mj,qy,jt]
def pK!{a:Type}(o:av)(X Y:ab a):ab a:=if o then X++Y else Y++X
def Mq o p:∀K S,(K.o (·.1)).J->b8 (K.foldl (eD o) S) p=pK o (b8 S p) (b8 K p)
 |[],S,_=>by
  rw[DU];ext pK;ext o
  .rfl
  .show(Ĭ _).R
 |g::K,S,hk=>by
  rw[í,ŧ]at hk;rw[N7,Mq o p K _ hk.2,jJ];ext eD;rw[DV];by_cases e:p=g.1
  .rw[ad e,ad e.R,e,sD hk.1];ext pK;ext o
   .rfl
   .show Ĭ _
  .rw[ac e,ac λw=>e w.R]
def a2L(h:(G.o (·.1)).J){mv:ae×ae->av}(c:∀p,M (M p)=p)o p:
  b8 (mT mv M o G) p=pK o (if mv p then[]else b8 G p) (if mv (M p)then(b8 G<|M p).zd else[]):=by
 ext mT;rw[Mq,DW,DX c];let e:(fP mv M G).o (·.1)=((G.H λg=>mv g.1).o (·.1)).o M:=by ext fP;rw[æ,æ];rfl
 rw[e];show vq _ (λa b d w=>d<|by rw[<- c a,w,c])<|(fj.o _).nodup h
def Mr(c:(G.o (·.1)).J){mv:ae×ae->av}(b:∀p,M (M p)=p)o e a p:
  wd e a (b8 (mT mv M o G) p)=pK o (if mv p then[]else wd e a (b8 G p)) (if mv (M p)then(wd e a<|b8 G<|M p).zd else[]):=by
 rw[a2L c b];let h:∀X Y:jq,wd e a (pK o X Y)=pK o (wd e a X) (wd e a Y):=λX Y=>by ext o<;>show ab.filterMap_append
 rw[h];congr 1
 .cases mv p<;>rfl
 .cases mv<|M p
  .rfl
  .show Tp
def Ms x o{c e:ab av}(h0:∀b∈a,b=x)(h1:∀b∈d,b=x)(i:∀b∈c,b=!x)(n:∀b∈e,b=!x):fH (pK o a c.zd++(pK o d e.zd).zd)=ai:=by
 let r:∀{L:ab av}{y:av},(∀b∈L,b=y)->∀b∈L.zd,b=y:=λh b g=>h b<|Sn.Z g;let j:∀{L K:ab av}{y:av},(∀b∈L,b=y)->(∀b∈K,b=y)->∀b∈L++K,b=y:=λh k b g=>(Ĺ.Z g).vl (h b)<|k b;ext o
 .change fH ((c.zd++a)++(e.zd++d).zd)=b3;rw[qy,jt,Θ,<- Θ a];show Et (!x) (r i) (by rw[Rv];show j h0<|r h1) n
 .change fH ((a++c.zd)++(d++e.zd).zd)=b3;rw[qy,jt,Θ,<- Θ c.zd];show Et x h0 (j (r i) n)<|r h1
def AZ(e:0<=u/\u<4)(d:n%4=0)(b:cR s=b4):aU u n a (aF (aZ u n) s)=!aU u n a s:=by
 let h:ag (n<bR u (aF (aZ u n) s))=!ag (n<bR u s):=by
  rw[Em]at b;rw[LV,Ψ,OS,cx,mh];ext bR;let(x,y):=s;dsimp at b ⊢;let c:u=0\/u=1\/u=2\/u=3:=()
  rcases c with rfl|rfl|rfl|rfl
  .change n<2*n-y↔¬ n<y;lia
  .change n<2*n-x↔¬ n<x;lia
  .change n<y+n-(x-n)↔¬ n<x-y;lia
  .change n<n-y+(n-x)↔¬ n<x+y;lia
 ext aU;rw[h];cases ag (n<bR u s)<;>ext a<;>rfl
def kH!(p:ae×ae):ae×ae:=⟨p.1-p.1%4,p.2-p.2%4⟩
def rs!(p:ae×ae):ae×ae:=⟨p.1%4,p.2%4⟩
def a2M p:sA p=⟨(kH p).1+(sA<|rs p).1,(kH p).2+(sA<|rs p).2⟩:=by
 unfold sA kH rs;dsimp;rw[sL,ph];lk
 .show ė (by dsimp;lia)<|by dsimp;lia
 .lk
  .show ė (by dsimp;lia)<|by dsimp;lia
  .show ė (by dsimp;lia)<|by dsimp;lia
def a2N p:sB p=⟨(kH p).1+(sB<|rs p).1,(kH p).2+(sB<|rs p).2⟩:=by
 unfold sB kH rs;dsimp;rw[sL,ph,ph];lk
 .show ė (by dsimp;lia)<|by dsimp;lia
 .lk
  .show ė (by dsimp;lia)<|by dsimp;lia
  .show ė (by dsimp;lia)<|by dsimp;lia
def a2O p:kG p=kG (rs p):=by ext kG rs;dsimp;rw[sL,ph,ph]
def a2P x y:c6 x y=c6 (x%4) (y%4):=by ext c6;rw[sL,sL,ph,ph]
def Eu k p q:bR k ⟨p.1+q.1,p.2+q.2⟩=bR k p+bR k q:=by
 ext bR;lk
 .rfl
 lk
 .rfl
 lk
 .change p.1+q.1-(p.2+q.2)=p.1-p.2+(q.1-q.2);lia
 .change p.1+q.1+(p.2+q.2)=p.1+p.2+(q.1+q.2);lia
def Mt(x:ae):x-x%4=4*(x/4):=()
def a2Q k p:bR k (kH p)%4=0:=by
 have:bR k (kH p)=4*bR k ⟨p.1/4,p.2/4⟩:=by
  ext bR kH;rw[Mt,Mt];lk
  .rfl
  lk
  .rfl
  lk
  .show(ae.mul_sub ..).R
  .show(RT ..).R
 rw[ah,SK]
def Mu(n v a:ae):n<v+a↔n-v<a:=()
def a2R(i:m%4=0)(h:¬ (m<a↔m<b))(c:-4<=a)(d:a<=8)(e:-4<=b)(g:b<=8):m=-4\/m=0\/m=4:=()
def a2S(x:0<=u/\u<4)(s:n%4=0)(k:c6 p.1 p.2=b4)(hd:aU u n a (sA p)≠aU u n a (sB p)):u=kG p/\n=bR (kG p) p:=by
 let h:¬ (n<bR u (sA p)↔n<bR u (sB p)):=λe=>hd (by ext aU;rw[fx.v e]);clear hd;let K:∀i∈[(0:ae),1,2,3],∀j∈[(0:ae),1,2,3],∀u∈[(0:ae),1,2,3],c6 i j=b4->(-4<=bR u (sA ⟨i,j⟩)/\bR u (sA ⟨i,j⟩)<=8/\-4<=bR u (sB ⟨i,j⟩)/\bR u (sB ⟨i,j⟩)<=8)/\∀m∈[(-4:ae),0,4],¬ (m<bR u (sA ⟨i,j⟩)↔m<bR u (sB ⟨i,j⟩))->u=kG ⟨i,j⟩/\m=bR (kG ⟨i,j⟩) ⟨i,j⟩:=by decide +de
 let v:u∈[(0:ae),1,2,3]:=by
  have:u=0\/u=1\/u=2\/u=3:=()
  apply ah
 rw[a2P]at k;let(b,c):=LX (P:=λi j=>c6 i j=b4->(-4<=bR u (sA ⟨i,j⟩)/\bR u (sA ⟨i,j⟩)<=8/\-4<=bR u (sB ⟨i,j⟩)/\bR u (sB ⟨i,j⟩)<=8)/\∀m∈[(-4:ae),0,4],¬ (m<bR u (sA ⟨i,j⟩)↔m<bR u (sB ⟨i,j⟩))->u=kG ⟨i,j⟩/\m=bR (kG ⟨i,j⟩) ⟨i,j⟩) (λi hi j q=>K i hi j q u v) p.1 p.2 k;rw[a2M,a2N,Eu,Eu]at h;rw[Mu,Mu]at h;let e:p=⟨(kH p).1+(rs p).1,(kH p).2+(rs p).2⟩:=ė (Qe ..).R (Qe ..).R;let w:bR u p=bR u (kH p)+bR u (rs p):=(br (bR u) e).u<|Eu ..;let o:(n-bR u (kH p))%4=0:=by rw[ae.sub_emod,s,a2Q];rfl
 let(g,d):=c _ (by apply a2R o h b.1 b.2.1 b.2.2.1 b.2.2.2) h;rw[a2O];let g:u=kG (rs p):=g;let d:n-bR u (kH p)=bR (kG<|rs p) (rs p):=d;rw[<- g]at d ⊢;show(?r,by rw[w,<- d,RK,Qe])
def Ew(h:0<=u/\u<4)(g:n%4=0)(b:c6 p.1 p.2=b4)(hd:aU u n a (sA p)≠aU u n a (sB p)):aF (aZ u n) p=p/\aF (aZ u n) (sA p)=sB p/\aF (aZ u n) (sB p)=sA p:=by
 let(c,d):=a2S h g b hd;let e:aZ u n=fN p:=by rw[c,d];show a2H b
 rw[e,kW,kW,kW];show(Mg b,AW b)
def Mv(b:c6 p.1 p.2=b4)(h:q∈xM p):q=sA p\/q=sB p:=by
 let(s,t,e,_,a):=Ep b;rw[e]at h;have:q=s\/q=t:=by apply h
 rcases a with(rfl|rfl)|(rfl|rfl)
 .show ah
 .show ah.R
def Ex(b:c6 p.1 p.2=b4)(h:q=sA p\/q=sB p):q∈xM p:=by let(s,t,e,_,a):=Ep b;rw[e];rcases a with(rfl|rfl)|(rfl|rfl)<;>rcases h with rfl|rfl<;>simp
def Mw(a:c6 p.1 p.2=b4)(h:q=sA p\/q=sB p):cR q=bt:=(Ĥ.Z<|Ex a h).2
def Ey(hA:Ġ A)(b:A.e%4=0/\A.g%4=0)(a:c6 e.1 e.2=b4)(c:q=sA e\/q=sB e):aF A q=sA (aF A e)\/aF A q=sB (aF A e):=Mv (AX hA b a)<|Mh hA b<|Ex a c
def JL!(F:ae×ae->Ly):Prop:=(∀q,Ġ (F q))/\(∀q,(F q).e%4=0/\(F q).g%4=0)/\∀e,c6 e.1 e.2=b4->F (sA e)=F (sB e)\/F (sA e)=c8 (fN e) (F<|sB e)
def a2T:JL λ_=>eJ:=(λ_=>Kq,λ_=>(?r,?r),λ_ x=>.Q ?r)
def Mx(h:x≠y):(x=b4/\y=b3)\/(x=b3/\y=b4):=by ext x<;>ext y<;>simp at h ⊢
def a2U F u n a(o:0<=u/\u<4)(j:n%4=0)(h:JL F):JL (cQ u n a F):=by
 let(c,i,s):=h;show(KW c,λq=>?_,λe b=>?_)
 .ext cQ;lk
  .show Md u j<|i q
  .show i q
 .ext cQ;rcases s e b with h1|h1
  .let w:=Ey (c<|sB e) (i<|sB e) b<|.Q ?r;let lt:=Ey (c<|sB e) (i<|sB e) b<|.X ?r;let p:=AX (c<|sB e) (i<|sB e) b;let ne:=xN (c<|sB e)<|pI b;rw[h1];by_cases d:aU u n a (aF (F<|sB e)<|sA e)=aU u n a (aF (F<|sB e)<|sB e)
   .rw[d];show .Q ?r
   .let k:aF (aZ u n) (aF (F<|sB e)<|sA e)=aF (F<|sB e) (sB e)/\aF (aZ u n) (aF (F<|sB e)<|sB e)=aF (F<|sB e) (sA e):=by
     rcases w with g|g<;>rcases lt with e2|e2
     .show cb (g.u e2.R) ne
     .rw[g,e2]at d ⊢;show(Ew o j p d).2
     .rw[g,e2]at d ⊢;show(Ew o j p<|ì d).2.R
     .show cb (g.u e2.R) ne
    let(z,A):=AW b;let X:c8 (F<|sB e) (aZ u n)=c8 (fN e) (F<|sB e):=by
     show a2q (DK (c _)<|xC u n) (DK (Kn e)<|c _) ?_ (pI b) ?_ ?_
     .rw[Aw,Aw,a2o,DI,ae.mul_comm]
     .rw[j6,j6,kW,z,k.1]
     .rw[j6,j6,kW,A,k.2]
    show .X ?_;rcases Mx d with(x|y)|(x|y)<;>rw[x,y]
    .show X
    .change F (sB e)=c8 (fN e) (c8 (F<|sB e)<|aZ u n);rw[<- Ax,<- X,Ax,a2r,a0c]
  .let v:=EdF.pos b h1;show .X ?_;rw[v];lk
   .rw[<- Ax,<- h1]
   .show h1
def JL.wf(b:⟨w,h⟩∈i8)(J:JL F):Wf w h F:=(J.1,J.2.1,λe a=>J.2.2 e ((kZ _ b).2.2.2.2.2.2.2 e a).1)
def My(b:⟨w,h⟩∈i8)(wf:Wf w h F)(a:e∈cY w h):c6 (cS F e).1 (cS F e).2=bt:=AX (wf.di _) (wf.lt _) ((kZ _ b).2.2.2.2.2.2.2 e a).1
def uN(d:⟨w,h⟩∈i8)(wf:Wf w h F)(a:e∈cY w h)(b:q=sA e\/q=sB e):aF (F q) q=sA (cS F e)\/aF (F q) q=sB (cS F e):=by
 let c:=((kZ _ d).2.2.2.2.2.2.2 e a).1;let sp:aF (F q) e=cS F e:=by
  rcases b with rfl|rfl
  .rfl
  .show Er c<|wf.ed e a
 have:=Ey (wf.di q) (wf.lt q) c b;rwa [sp]at ah
def NC!(w h:ae)(F:ae×ae->Ly)(G:Gr):Prop:=∀e∈cY w h,∀a∈cY w h,cS F e=cS F a->nX G (sA<|cS F e) (sB<|cS F e) e a=b3
def Mz u n a e:cS (cQ u n a F) e=if aU u n a (aF (F<|sA e)<|sA e)then aF (aZ u n) (cS F e)else cS F e:=by
 ext cS cQ;lk
 .show j6 _ _ _
 .rfl
def a2V(Y:⟨w,h⟩∈i8)(wf:Wf w h F)(P:Ň (eE w h) (λq=>aF (F q) q) G)(R:0<=u/\u<4)(M:n%4=0)(nc:NC w h F G):NC w h (cQ u n a F) (mT (aU u n a) (aF<|aZ u n) o G):=by
 intro e B i v ep
 let L:=DT u n
 let Ml:Ġ (aZ u n):=xC u n
  -- where both lay ahead
 let kB:∀x∈cY w h,cS F x=cS (cQ u n a F) x\/cS F x=aF (aZ u n) (cS (cQ u n a F) x):=λx f=>by
  rw[Mz]
  lk
  .show .X (L _).R
  .show .Q ?r
 let A:=kB e B
 let d:=kB i v
 rw[<- ep]at d
 let lt:(aZ u n).e%4=0/\(aZ u n).g%4=0:=by
  have:=Md u M (A:=eJ) (?r,?r)
  rwa [Ko]at ah
 let rM:∀{x:ae×ae},c6 x.1 x.2=b4->c6 (aF (aZ u n) x).1 (aF (aZ u n) x).2=bt:=λh=>AX Ml lt h
 let J:c6 (cS (cQ u n a F) e).1 (cS (cQ u n a F) e).2=bt:=by
  rw[Mz]
  lk
  .show rM<|My Y wf B
  .show My Y wf B
 generalize cS (cQ u n a F) e=p at A d J
 let q0:=Mw J<|.Q ?r
 let q1:=Mw J<|.X ?r
 let pm:∀{s q:ae×ae},q∈b8 G s->aF (F q) q=s:=λ{s q} g=>bi (Ĥ.Z<|(P.pm s).mem_iff.mp g).2
 ext nX
 rw[Mr P.kd L,Mr P.kd L,AZ R M q0,AZ R M q1]
 by_cases hd:aU u n a (sA p)=aU u n a (sB p)
 .cases E:aU u n a (sA p)with
  |bt=>
   rw[<- hd,E]
   ext o<;>rfl
  |ai=>
   rw[<- hd,E]
   dsimp[dh,cy,Ī,cm]
      -- what uN at p,what uN at its mirror
   let Z:aU u n a (aF (aZ u n)<|sA p)=bt:=by rw[AZ R M q0,E];rfl
   let m1:aU u n a (aF (aZ u n)<|sB p)=bt:=by rw[AZ R M q1,<- hd,E];rfl
   let sM:∀{q:ae×ae},q=sA (aF (aZ u n) p)\/q=sB (aF (aZ u n) p)->q=aF (aZ u n) (sA p)\/q=aF (aZ u n) (sB p):=λ{q} g=>by
    have:=Mh Ml lt<|Ex (rM J) g
    rw[L]at ah
    rcases Mv J ah with e|e
    .show .Q<|by rw[<- e,L]
    .show .X<|by rw[<- e,L]
   let st:∀{x q s:ae×ae},x∈cY w h->(q=sA x\/q=sB x)->cS F x=p->aF (F q) q=s->aU u n a s=ai:=λT g H e2=>by
    have:=uN Y wf T g
    rw[H,e2]at ah
    rcases ah with e|e
    .rw[e,E]
    .rw[e,<- hd,E]
   let go:∀{x q s:ae×ae},x∈cY w h->(q=sA x\/q=sB x)->cS F x=aF (aZ u n) p->aF (F q) q=s->aU u n a s=bt:=λT g H e2=>by
    have:=uN Y wf T g
    rw[H,e2]at ah
    rcases sM ah with e|e
    .rw[e,Z]
    .rw[e,m1]
   let I:∀{s:ae×ae}{b:av},aU u n a s=b->∀{x:ae×ae},(∀{q:ae×ae},(q=sA x\/q=sB x)->aF (F q) q=s->aU u n a s=!b)->∀q∈b8 G s,¬ (q=sA x\/q=sB x):=λ{s b} hb x k q g T=>by
    have:=k T<|pm g
    rw[hb]at ah
    ext b<;>ext ah
   let X:∀{q:ae×ae},¬ (q=sA e\/q=sB e)->eQ e i q≠a7 bt:=λh k=>h<|Mm k
   let U:∀{q:ae×ae},¬ (q=sA i\/q=sB i)->eQ e i q≠a7 ai:=λh k=>h<|Mn k
   let nn:∀{q:ae×ae},¬ (q=sA e\/q=sB e)->¬ (q=sA i\/q=sB i)->eQ e i q=bp:=λh1 j=>by
    ext eQ
    rw[ac h1,ac j]
   let K:aU u n a (sB p)=ai:=by rw[<- hd,E]
   rcases A with A|A<;>rcases d with d|d
   ·-- both stay
    let z:∀{s:ae×ae},aU u n a s=b4->wd e i (b8 G s)=[]:=λc=>Mo λq g=>nn (I c (λh1 j=>st B h1 A j) q g)<|I c (λh1 j=>st v h1 d j) q g
    rw[z Z,z m1]
    have:=nc e B i v<|by rw[A,d]
    rw[A]at ah
    unfold nX at ah
    ext o
    .show ah
    .change fH ((_++[])++(_++[]).zd)=b3
     rw[Ĭ,Ĭ]
     show ah
   ·-- the one stays,the other goes
    let N:∀{s:ae×ae},aU u n a s=b3->∀b∈wd e i (b8 G s),b=bt:=λc=>xO λq g=>U<|I c (λh1 j=>go v h1 d j) q g
    let O:∀{s:ae×ae},aU u n a s=b4->∀b∈wd e i (b8 G s),b=ai:=λc=>xO λq g=>X<|I c (λh1 j=>st B h1 A j) q g
    show Ms b4 o (N E) (N K) (O Z)<|O m1
   .let N:∀{s:ae×ae},aU u n a s=b3->∀b∈wd e i (b8 G s),b=ai:=λc=>xO λq g=>X<|I c (λh1 j=>go B h1 A j) q g
    let O:∀{s:ae×ae},aU u n a s=b4->∀b∈wd e i (b8 G s),b=bt:=λc=>xO λq g=>U<|I c (λh1 j=>st v h1 d j) q g
    show Ms b3 o (N E) (N K) (O Z)<|O m1
   ·-- both go
    let z:∀{s:ae×ae},aU u n a s=b3->wd e i (b8 G s)=[]:=λc=>Mo λq g=>nn (I c (λh1 j=>go B h1 A j) q g)<|I c (λh1 j=>go v h1 d j) q g
    rw[z E,z K]
    have:=nc e B i v<|by rw[A,d]
    rw[A]at ah
    let k:nX G (aF (aZ u n)<|sA p) (aF (aZ u n)<|sB p) e i=ai:=by
     let n2:=xN Ml<|pI J
     let h0:=sM<|.Q ?r
     let h1:=sM<|.X ?r
     let n3:=pI<|rM J
     rcases h0 with Q|Q<;>rcases h1 with H|H
     .show cb (Q.u H.R) n3
     .rwa [Q,H]at ah
     .rw[Q,H]at ah
      rwa [Mp]
     .show cb (Q.u H.R) n3
    unfold nX at k
    rw[<- Mj,qy,jt,Es]at k
    ext o
    .change fH ((_++[])++(_++[]).zd)=b3
     rw[Ĭ,Ĭ,jt]
     show k
    .change fH (([]++dw _)++dw ([]++dw _))=b3
     rw[Ζ,Ζ,jt]
     show k
 .let(f1,f2,f3):=Ew R M J hd
  rw[f1,or_self]at A d
  have:=nc e B i v<|by rw[A,d]
  rw[A]at ah
  unfold nX at ah
  rw[f2,f3]
  rcases Mx hd with(x|y)|(x|y)<;>rw[x,y]
  .ext o
   .change fH ([]++(dw _++_).zd)=b3
    rw[Ζ,qy,jt,Es]
    show ah
   .change fH ([]++(_++dw _).zd)=b3
    rw[Ζ,qy,jt]
    show ah
  .ext o
   .change fH ((dw _++_)++dw ([]++[]))=b3
    rw[Ĭ,So,Ĭ,Es]
    show ah
   .change fH ((_++dw _)++dw ([]++[]))=b3
    rw[Ĭ,So,Ĭ]
    show ah
def a2W G:NC w h (λ_=>eJ) G:=λe x c x sp=>by
 unfold cS at sp ⊢;rw[xA,xA]at sp;subst sp;let k:∀P,∀b∈wd e e P,b=bt:=λP=>xO λq x=>λz=>by
  unfold eQ at z;by_cases h1:q=sA e\/q=sB e
  .rw[ad h1]at z;ext z
  .rw[ac h1,ac h1]at z;ext z
 ext nX;show Et b4 (A:=wd e e _) (B:=[]) (k _) (λb a=>nomatch a) λb a=>k _ b<|Sn.Z a
def MB:∀w∈[(1:ae),2,3],∀h∈[(1:ae),2,3],gO w h=eE w h:=by decide +de
structure lq(w h:ae)(o b:am)(xs:ab D)(d dl:D)(F:ae×ae->Ly)(G:Gr)(μ:Hm):Prop where
 i1:μ[o]?=a7 (.ins "Folding"<|sG w h b)
 i2:μ[b]?=a7 (.D<|xs++[d])
 s1:Ω μ b d F (gO w h) G
 s2:Ω μ b dl F (gO w h) G
 gd:Gd (gO w h) F G
 jl:JL F
 nc:NC w h F G
def lq.more{aw:Hm}(I:lq w h o b xs d a F G μ)(p:μ<+:aw):lq w h o b xs d a F G aw:=(aI p I.i1,aI p I.i2,I.s1.more p,I.s2.more p,I.gd,I.jl,I.nc)
def yd:W (fY [i,j,k,l] (.L [a,b,c,d]) e μ) Q↔Q ((((e.xl i<|a7 a).xl j<|a7 b).xl k<|a7 c).xl l<|a7 d):=À
def MC!(k:am):MS:=(aL (l6 (bI (f k "_law_plan")<|aB (aC 6)<|aB (bI (f k "_law_cell")<|aB (aC 0)<|aB (aC 7) aD)<|aB (bI (f k "_law_cell")<|aB (aC 0)<|aB (aA bS (aC 7)<|mC<|.p 1) aD) aD)<|fY [8,9,10,11])<|aL (dA 12<|bI (f k "_law_folded")<|aB (aC 6)<|aB (aC 9)<|aB (aC 10)<|aB (aC 11) aD)<|bB (aP<|aA (iJ b4) (aC 12)<|mC .kf) (aL (dP<|nH "Folding" "fold" (f k "Folding.fold") (aC 5)<|aB (aC 8)<|aB (aC 10)<|aB (aC 11) aD)<|dA 6<|aC 12) bM)
def a2X k{ns:ab ae}(hw:1<=w/\w<=3)(T:1<=h/\h<=3)(hc:0<=c/\c<=50)(J:lq w h o b xs d dl F G μ)(hx:xs.f<=20)Q(H:∀y N x F' G' X Y i j v A,y.f<=xs.f+1->lq w h o b y N x F' G' A->Q ⟨.nx,[a7<|.rol<|ns.o D.p,x1,a7<|.p s,a7<|.p w,a7<|.p h,a7<|.z o,a7 x,a7<|.p c,X,Y,i,j,v],A⟩):
  W (MC (k+5) [a7<|.rol<|ns.o D.p,x1,a7<|.p s,a7<|.p w,a7<|.p h,a7<|.z o,a7 dl,a7<|.p c,X,Y,i,j,v] μ) Q:=by
 let(_,q2,q3,q4,q5,_):=AN w (gY hw) h<|gY T;let sz:=Me hw T;show Ì.v (δ.v<|eP<|aX (_,?r,aX<|aY ?r<|o7 (k+4) ns c () _ _ λic p1=>aX<|eP<|aX (_,?r,aX<|bG ?r ?r<|è.v (_,?r,o7 (k+4) ns (c+1) () _ _ λi6 p2=>(_,?r,?_)))));let L:=J.more<|p1.u p2;let(l,p,Z,?r,g1,I,g2,O,nb):=L.s2.ex;let G2:Gd (gO w h) F (GZ Z):=by rw[O];show L.gd
 let(kq,_,lZ,bZ):=G2.key;let zp:0<Z.f:=by
  cases Z with
  |fk=>let(q,hq):=TV _ q3;show cb (kq q hq) ∅|bm _ _=>show PN _
 show a1E (k+3) g2 zp _ _ _ λe u n a ov μ3 K E B=>yd.v<|bN<|aY ?r ?_;let M:=L.more K;let bl:b<μ3.f:=(ã.Z M.i2).1;show a1b (k+3) J.gd.di q4 () q3 q5 (I.more K) (aI K g2) (aI K g1) () (λz hz=>by have:=bZ z hz;lia) kq E.u0 _ (λR om U=>?_) λR S l' p' om U f gl PJ eS=>?_
 .show Ð.v<|eB<|bG ?r ?r<|ę.v (_,?r,pH ?r<|Î.v<|H _ _ _ _ _ _ _ _ _ _ _ (dj _)<|M.more U)
 .rw[Lr,O]at R;let g:=M.more U;let T4:=Ω.new (b:=b) gl PJ bl;rw[eS,O]at T4;show Ð.v<|eB<|bG ?r ?r<|Ū.v (_,?r,xH ?r<|Ar<|Lo (_,?r,o,_,?r,g.i1,?r,_,?r,?_));show a1m k q4 () g.i1 g.i2 () g.s1 g.gd E B R _ λN μ5 kp gb S5=>ò.v (_,?r,?_);let ob:o≠b:=λe=>by have:=g.i1;rw[e,g.i2]at ah;ext ah
  show H (xs++[d]) N _ _ _ _ _ _ _ _ _ (by rw[ô];show Ô _) (kp _ _ ob g.i1,gb,S5,T4.keep g.i2 kp,J.gd.fold B a ov,a2U F u n a E.u0 B J.jl,a2V sz (J.jl.wf sz) (by rw[<- MB w (gY hw) h<|gY T];show J.gd.pl) E.u0 B J.nc)
def a2Y:∀s∈[(0:ae),1,2,3,4,5,6],vO 1 (2*s+1) 2=b4/\(ϳ 1 (2*s+1) 2).zi<=6:=by decide +de
def a2Z(h:0<=s/\s<=6):s∈[(0:ae),1,2,3,4,5,6]:=by dsimp[ē,Ϣ,gg];lia
inductive Ud (ns:ab ae)(s w h:ae)(o b:am):am->aE->Hm->Prop
 |mk {i:am}{xs:ab D}{d dl:D}{F:ae×ae->Ly}{G:Gr}{μ:Hm}{x7 x8 x9 x10 x11 x12:af D}(hx:xs.f<=i)(J:lq w h o b xs d dl F G μ):Ud ns s w h o b i [a7<|.rol<|ns.o D.p,a7<|.p 3,a7<|.p s,a7<|.p w,a7<|.p h,a7<|.z o,a7 dl,x7,x8,x9,x10,x11,x12] μ
def a3a k(ns:ab ae)(K:0<=s/\s<=6)μ(Q:jz)(H:∀w h o b xs d y F G aw,(1<=w/\w<=3)->(1<=h/\h<=3)->lq w h o b xs d y F G aw->Q ⟨.L [.p w,.p h,.z o],aw⟩):W (f (k+6) "_law_go" [.rol<|ns.o D.p,.p 3,.p s] μ) Q:=by
 show Ó (ZV (k+5) _ _ _ μ) (bN<|bD (_,?r,bD<|aY ?r<|o7 (k+4) ns 0 () _ _ λic p1=>(_,?r,(fF ⋯).v<|è.v<|bN<|bD (_,?r,bD<|bD<|aY ?r<|o7 (k+4) ns 0 () _ _ λc p2=>(_,?r,(uC ⋯<|by decide).v (_,?r,(fF ⋯).v<|è.v ?_))))));let hw:1<=1+jI ns 0%3/\1+jI ns 0%3<=3:=()
 let a:1<=1+jI ns 0/3%3/\1+jI ns 0/3%3<=3:=()
 generalize 1+jI ns 0%3=w at hw;generalize 1+jI ns 0/3%3=h at a;let(_,q2,q3,O,q5,R):=AN w (gY hw) h<|gY a;show bN<|a1c (_,?r,a1s k hw a _ _ λb d μ3 p3 bl M N S=>(?r,bN<|aY ?r<|a1n (k+3) hw a _ _ λl p Z g e B v A=>?_));let E:Gd (gO w h) (λ_=>eJ) (kY<|gO w h):=(λ_=>Kq,a0w O,λq I=>by rw[xA];show ϐ.Z R q I);let n:=Ω.new (b:=b) B v bl;rw[A]at n;let u:lq w h c.f b [] d (.L [.z l,.z p]) (λ_=>eJ) (kY<|gO w h) g:=(aI e M,aI e N,S.more e,n,E,a2T,a2W _);let(T,r2):=a2Y s<|a2Z K;show iO<|Õ.v<|YN<|aX (_,?r,aX<|bD<|bG ?r ?r<|lw.v (_,?r,è.v (_,?r,1,2*s+1,2,?r,T,?_)));show YO (b:=MC (k+5)) (Ud ns s w h c.f b) (.mk (Ô _) u) ?_ ?_
 .rintro i j aw hi (L|J);show(_,?r,a2X k hw a () J () _ λU d' z F' G' y8 y9 X Y y12 μ5 l5 x=>.mk () x)
 .rintro j aw (L|J);show(?r,cZ<|ç.v (_,?r,by change(3:am)<=Ò;decide,H w h _ b _ _ _ _ _ aw hw a J))
def a3b{b:MS}(I:am->aE->Hm->Prop)(u:∀m a μ,I m a μ->W (c a μ) λp=>if p.1=b4 then W (b a p.2) λq=>match q.1 with
   |.nx=>∃e,e<m/\I e q.2.1 q.2.2|.ct=>∃e,e<m/\I e q.2.1 q.2.2|.bk=>Q ⟨.nx,q.2.1,q.2.2⟩
   |.rt d=>Q ⟨.rt d,q.2.1,q.2.2⟩else Q ⟨.nx,a,p.2⟩):∀n m a μ,m<n->I m a μ->W (rL c b n a μ) Q:=by
 intro n;induction n with
 |ij=>intro m a μ h;lia|im n k=>
  intro m a μ z s;ext rL;rw[Ã];show bH (u m a μ s) λp j=>?_;let(v,w):=p;cases v with
  |ai=>show À.v (by apply j)|bt=>
   dsimp[cy]at j;dsimp;rw[Ã];show bH j λq g=>?_;let(o,y,x):=q;cases o with
   |nx=>let(e,h1,i):=g;show k e _ _ () i|ct=>let(e,h1,i):=g;show k e _ _ () i|bk=>show À.v g|rt d=>show À.v g
def MH{b:MS}(I:am->aE->Hm->Prop)m(g:m<1000000000)(h0:I m a μ)(h:∀m a μ,I m a μ->W (c a μ) λp=>if p.1=b4 then W (b a p.2) λq=>match q.1 with
   |.nx=>∃e,e<m/\I e q.2.1 q.2.2|.ct=>∃e,e<m/\I e q.2.1 q.2.2|.bk=>Q ⟨.nx,q.2.1,q.2.2⟩
   |.rt d=>Q ⟨.rt d,q.2.1,q.2.2⟩else Q ⟨.nx,a,p.2⟩):W (tH uA c b a μ) Q:=by
 ext tH;show a3b I h uA m a μ (by ext uA;show g) h0
def Ϲ:p∈iQ w h↔(0<p.1/\p.1<4*w)/\0<p.2/\p.2<4*h:=by
 unfold iQ o9 qQ;rw[ji];constructor
 .rintro(i|hi|b);let(j,a,?r):=Ü.Z b;have:=ŏ.Z hi;have:=ŏ.Z a;dsimp;lia
 .intro(h1,c);show((p.1-1).zi,ŏ.v (),Ü.v ((p.2-1).zi,ŏ.v (),ė ?_ ?_))<;>dsimp<;>lia
def A1!(w h:ae)(p:ae×ae):Prop:=p∈(iQ w h).H pJ
inductive ie (S:ab ((ae×ae)×cf)):Prop
 |mk (len:S.f<=600)(nd:(S.o (·.1)).J)(ok:∀m∈S,m.2="o"\/m.2="h"\/m.2="v")
def a3c:∀w∈[(1:ae),2,3,4,5,6],∀h∈[(1:ae),2,3,4,5,6],(eK w h).f<=61:=by decide +de
def Kp!(l:am)(μ aw:Hm):Prop:=∀j y,j≠l->μ[j]?=a7 y->aw[j]?=a7 y
def Kp.pre{μ aw:Hm}(p:μ<+:aw):Kp l μ aw:=λ_ x x h=>aI p h
def Kp.trans(a:Kp l μ aw)(b:Kp l aw c):Kp l μ c:=λj y n h=>b j y n<|a j y n h
def Kp.set:Kp l μ (μ.xl l x):=λj y n h=>by rw[ć<|ì n];show h
def Kp.all{b:Hm}(a:Kp l μ aw)(p:b<+:μ)(h:b.f<=l):b<+:aw:=by show ab.prefix_iff_getElem?.v λi hi=>?_;show a i _ ()<|aI p<|Ċ hi
def a3d{g:MF}{ds:ab D}(h:ms a μ=a7 ⟨ds,aw⟩)(e:g ds aw=a7 r):bI g ms a μ=a7 r:=fM<|aY h (_,e,?r)
def a3e(e:o=dr (aM m a μ))(h:m a μ=a7 r):o=a7 r:=fM<|Ó e<|cZ (_,h,?r)
def dC!(ms:ab ((ae×ae)×cf)):jx:=ms.o λm=>⟨a9 m.1,.jv m.2⟩
def a3f(h:p∉ms.o (·.1)):bC (dC ms) (a9 p)=bp:=by
 ext bC;rw[fc.v]
 .rfl
 .intro x a;let(z,b,?r):=Ü.Z a;rw[cx];show λe=>h<|j7 e▸Ü.v (z,b,?r)
def a3g(h:m.1∉ms.o (·.1)):cK (dC ms) (a9 m.1) (.jv m.2)=dC (ms++[m]):=by ext cK;rw[a3f h,ac ∅];ext dC;rw[Ć];rfl
noncomputable abbrev Ed:=ae×ae
noncomputable abbrev St:=Ed×Ed×av×Ed
def jL!(s:St):St:=⟨s.2.1,s.1,s.2.2.1,s.2.2.2⟩
def dM!(T:ab St)(e:Ed):ab St:=T.flatMap λt=>(if t.1=e then[t]else[])++if t.2.1=e then[jL t]else[]
def ŀ:s∈dM T e↔s.1=e/\(s∈T\/jL s∈T):=by
 ext dM;rw[ji];constructor
 .rintro(t|b|a);rcases Ĺ.Z a with a|a
  .by_cases h:t.1=e
   .rw[ad h]at a;rw[ġ.Z a];show(h,.Q b)
   .rw[ac h]at a;ext a
  .by_cases h:t.2.1=e
   .rw[ad h]at a;rw[ġ.Z a];show(h,.X b)
   .rw[ac h]at a;ext a
 .rintro⟨h,a|a⟩
  .show(s,a,Ĺ.v<|.Q<|by rw[ad h];show .head _)
  .show(jL s,a,Ĺ.v<|.X<|by rw[ad<|show(jL s).2.1=e from h];show .head _)
inductive Rc (T:ab St)(M:ab Ed):ab (Ed×af St)->Prop
 |st:Rc T M<|M.o λe=>⟨e,b0⟩
 |sn {R:ab (Ed×af St)}{s:St}(h:Rc T M R)(hs:s∈dM T s.1)(h1:s.1∈R.o (·.1))(h2:s.2.1∉R.o (·.1)):Rc T M<|R++[⟨s.2.1,a7 s⟩]
def A2(M:ab Ed):(M.o λe=>⟨e,(b0:af St)⟩).o (·.1)=M:=by rw[æ];show Pm _
def Rc.nd(c:M.J)(h:Rc T M R):(R.o (·.1)).J:=by
 induction h with
 |st=>rw[A2];show c|sn h i h1 b g=>rw[Ć];show fB.v (g,ŧ.v (Ϣ,.kk),λx a y d e=>b ?_);have:y=_:=ġ.Z d;rw[e,ah]at a;show a
def Rc.up(h:Rc T M R):∀e o,⟨e,o⟩∈R->match o with|bp=>e∈M|bb s=>s.2.1=e/\s∈dM T s.1/\s.1∈R.o (·.1)/\(R.o (·.1)).idxOf s.1<(R.o (·.1)).idxOf e:=by
 induction h with
 |st=>intro e o h;let(x,p,i):=Ü.Z h;ext i;show p|@sn R s h n h1 j q=>
  intro e o g;rw[Ć];rcases Ĺ.Z g with g|g
  .have:=q e o g;let k:e∈R.o (·.1):=Ü.v (_,g,?r);cases o with
   |bp=>show ah|bb t=>let(a,b,c,d):=ah;show(a,b,Ĺ.v<|.Q c,?_);rw[OT,OT,ad c,ad k];show d
  .cases ġ.Z g;show(?r,n,Ĺ.v<|.Q h1,?_);rw[OT,OT,ad h1,ac j];have:=Tu.v h1;lia
inductive Wy (T:ab St):Ed->ab St->Ed->Prop
 |fk (e:Ed):Wy T e [] e
 |bm {s:St}{w:ab St}{e:Ed}(hs:s∈dM T s.1)(h:Wy T s.2.1 w e):Wy T s.1 (s::w) e
def jM!(w:ab St):am:=(w.H λs=>!s.2.2.1).f
def sN!(b:av):ae:=if b then 0 else 1
inductive Cn (T:ab St):Ed->Ed->Prop
 |rf (e:Ed):Cn T e e
 |go {e:Ed}{s:St}(h:Cn T e s.1)(hs:s∈dM T s.1):Cn T e s.2.1
def Cn.tr(h:Cn T a b)(g:Cn T b c):Cn T a c:=by
 induction g with
 |rf=>show h|go g d e=>show .go e d
def a3h(h:s∈dM T s.1):jL s∈dM T (jL s).1:=ŀ.v (?r,(ŀ.Z h).2.symm.imp id id)
def Cn.cl{R:ab Ed}(hc:∀e∈R,∀s∈dM T e,s.2.1∈R)(h:Cn T a b)(c:a∈R):b∈R:=by
 induction h with
 |rf=>show c|go h d g=>show hc _ g _ d
def Wy.cn(h:Wy T m w e):Cn T m e:=by
 induction h with
 |fk=>show .rf _|@bm s w e a h b=>show Cn.tr (.go (.rf _) a) b
def cM!(s:St):D:=.L [PP s.1,PP s.2.1,.bl s.2.2.1,PP s.2.2.2]
def a3i ay k k' d:bC (ay.o λp=>if p.1=k then⟨p.1,d⟩else p) k'=if k'=k then(bC ay k').o λ_=>d else bC ay k':=by
 induction ay with
 |fk=>lk<;>rfl|bm x e b=>
  unfold bC at b ⊢;rw[í,Ε,Ε];let c:(if x.1=k then⟨x.1,d⟩else x).1=x.1:=by lk<;>rfl
  rw[c];by_cases h:x.1=k'
  .rw[cc h];by_cases a:x.1=k
   .rw[ad a,ad<|h.R.u a];rfl
   .rw[ac a,ac λz=>a<|h.u z]
  .rw[ba h];show b
def Ez ay k k' d:bC (cK ay k d) k'=if k'=k then a7 d else bC ay k':=by
 ext cK;by_cases h:(bC ay k).qh=b4
 .rw[ad h,a3i];by_cases e:k'=k
  .rw[ad e,ad e,e];let(v,b):=Tf.Z h;rw[b];rfl
  .rw[ac e,ac e]
 .rw[ac h];let a:ay.find? (λp=>ag<|p.1=k)=bp:=by
   unfold bC at h;cases z:ay.find? (λp=>ag<|p.1=k)with
   |bp=>rfl|bb v=>rw[z]at h;show cb ?r h
  ext bC;rw[SM];by_cases e:k'=k
  .rw[ad e,e,a];simp
  .rw[ac e];cases ay.find? (λp=>ag<|p.1=k')with
   |bb v=>rfl|bp=>rw[Ε,ba λz=>e z.R];rfl
def MJ ay k d:(cK ay k d).f<=ay.f+1:=by
 ext cK;lk
 .rw[Ä];lia
 .rw[ô];show Ô _
structure SD(ν:Hm)(κ:am)(μ:Hm)(a:am)(ay:jx)(F:Ed->ab St):Prop where
 np:ν<+:μ
 la:ν.f<=a/\ν.f<=κ/\κ<=μ.f
 dic:μ[a]?=a7 (.dT ay)
 no:∀e,bC ay (a9 e)=b0->F e=[]
 ats:∀e d,bC ay (a9 e)=a7 d->∃l,d=.z l/\κ<=l/\μ[l]?=a7 (.D<|(F e).o cM)
 inj:∀e e' d,bC ay (a9 e)=a7 d->bC ay (a9 e')=a7 d->e=e'
def SD.more{aw:Hm}(h:SD ν κ μ a ay F)(p:μ<+:aw):SD ν κ aw a ay F:=(h.pre.u p,(h.la.1,h.la.2.1,ĥ h.la.2.2 p.ke),aI p h.dic,h.no,λe d z=>(h.ats e d z).imp λl (x,y,g)=>(x,y,aI p g),h.inj)
def lU!(F:Ed->ab St)(s:St):Ed->ab St:=λx=>if x=s.1 then F x++[s]else F x
def SD.ne(h:SD ν κ μ a ay F)(g:μ[l]?=a7 (.D xs)):l≠a:=λz=>by have:=h.dic;rw[<- z,g]at ah;ext ah
def SD.old(h:SD ν κ μ a ay F)(c:bC ay (a9 s.1)=a7 (.z l)):SD ν κ (μ.xl l<|.D<|(F s.1).o cM++[cM s]) a ay (lU F s):=by
 let(p,e,j,g):=h.ats _ _ c;ext e;show(e6 h.pre (ĥ h.la.2.1 j) _,(h.la.1,h.la.2.1,by rw[ĸ];show h.la.2.2),by rw[ć<|h.ne g];show h.dic,λe b=>?_,λe d b=>?_,h.inj)
 .ext lU;rw[ac λz=>by rw[z,c]at b;ext b];show h.no e b
 .ext lU;by_cases z:e=s.1
  .rw[ad z];rw[z,c]at b;ext b;show(l,?r,j,by rw[fG g,z,Ć];rfl)
  .rw[ac z];let(k,i,o,n):=h.ats _ _ b;show(k,i,o,?_);rw[ć λy:l=k=>z<|h.inj _ _ _ (by rw[b,i,y]) c];show n
def SD.new(h:SD ν κ μ a ay F)(u:bC ay (a9 s.1)=b0):SD ν κ (((μ++[C.D []]).xl a<|.dT<|cK ay (a9 s.1)<|.z μ.f).xl μ.f<|.D [cM s]) a (cK ay (a9 s.1)<|.z μ.f) (lU F s):=by
 let i:=aS μ<|C.D [];let lt:a<μ.f:=(ã.Z h.dic).1;let o:=h.pre.ke;let A:=bT μ<|C.D [];show(e6 (e6 (h.pre.u i) h.la.1 _) o _,(h.la.1,h.la.2.1,by rw[ĸ,ĸ];show ĥ h.la.2.2 i.ke),?_,λe b=>?_,λe d b=>?_,λe p d b c=>?_)
 .rw[ć (),fG<|aI i h.dic]
 .rw[Ez]at b;by_cases z:a9 e=a9 s.1
  .rw[ad z]at b;ext b
  .rw[ac z]at b;ext lU;rw[ac λy=>z<|br a9 y];show h.no e b
 .rw[Ez]at b;ext lU;by_cases z:a9 e=a9 s.1
  .rw[ad z]at b;ext b;rw[ad<|j7 z];show(_,?r,h.la.2.2,?_);rw[Ŭ<|by rw[ĸ,ô];show ς _,j7 z,h.no _ u];rfl
  .rw[ac z]at b;rw[ac λy=>z<|br a9 y];let(n,k,q,g):=h.ats _ _ b;show(n,k,q,?_);let w:n<μ.f:=(ã.Z g).1;rw[ć (),ć<|ì<|h.ne g];show aI i g
 .let fresh:∀x,bC ay (a9 x)≠a7 (.z μ.f):=λx v=>by let(n,k,_,g):=h.ats _ _ v;ext k;show cb (ã.Z g).1<|Ϝ _
  rw[Ez]at b c;by_cases z:a9 e=a9 s.1<;>by_cases j:a9 p=a9 s.1
  .show(j7 z).u (j7 j).R
  .rw[ad z]at b;rw[ac j]at c;ext b;show cb c<|fresh _
  .rw[ac z]at b;rw[ad j]at c;ext c;show cb b<|fresh _
  .rw[ac z]at b;rw[ac j]at c;show h.inj _ _ _ b c
def A3{ay:jx}{f:D->ab D->Hm->jk}{Q:jz}(d:c b μ=a7 ⟨.z a,μ⟩)(hc:μ[a]?=a7 (.dT ay))(h:W (ms b μ) λq=>W (f (.z a) q.1 q.2) Q):W (fW f c ms b μ) Q:=by ext fW;rw[d,ě,show qC μ (.z a)=b4 by dsimp[qC,hc]];show Ã.v h
def MK(hi:∀μ,aC i n μ=a7 ⟨.z a,μ⟩)(h1:∀μ,p n μ=a7 ⟨PP s.1,μ⟩)(w:∀μ,q n μ=a7 ⟨cM s,μ⟩)(J:SD ν κ μ a ay F)(z:(F s.1).f<=3000)(A:ay.f<=3000)(H:∀aw h,SD ν κ aw a h (lU F s)->h.f<=ay.f+1->(∀b c,b<κ->b≠a->μ[b]?=a7 c->aw[b]?=a7 c)->R ⟨.nx,n,aw⟩):
  W (dP (eH fT (fW nM (aC i)<|aB p<|aB (cU aD) aD)<|aB q aD) n μ) R:=by
 let j:=aS μ<|C.D [];let lt:a<μ.f:=(ã.Z J.dic).1;show ï.v<|jZ<|A3 (hi μ) J.dic<|aX (_,h1 μ,aX (_,?r,_,?r,?_));let v:=aI j J.dic;cases k:bC ay (a9 s.1)with
 |bb d=>
  let(l,?r,B,g):=J.ats _ _ k;let e:nM (.z a) [PP s.1,.z μ.f] (μ++[C.D []])=a7 ⟨.z l,μ++[C.D []]⟩:=by dsimp[nM,v,dW,ě,k]
  show(_,e,j0<|aI j g,aX (_,w _,_,?r,(oZ (aI j g)<|by rw[Ä,õ];lia).v<|H _ _ ((J.more j).old k) (dj _) λb c y f o=>?_));rw[ć ()];show aI j o
 |bp=>
  let e:nM (.z a) [PP s.1,.z μ.f] (μ++[C.D []])=a7 ⟨.z μ.f,(μ++[C.D []]).xl a<|.dT<|cK ay (a9 s.1)<|.z μ.f⟩:=by dsimp[nM,v,dW,ě,k];rw[ad<|by rw[õ];lia]
  let u:((μ++[C.D []]).xl a<|.dT<|cK ay (a9 s.1)<|.z μ.f)[μ.f]?=a7 (.D []):=by rw[ć ()];show bT _ _
  show(_,e,j0 u,aX (_,w _,_,?r,(oZ u ⋯).v<|H _ _ (J.new k) (MJ _ _ _) λb c y x o=>?_));have:=J.la.2.2;rw[ć (),ć<|ì x];show aI j o
def EA!(l:ab ae):Ed:=⟨l.I 0 0,l.I 1 0⟩
def a3j!(t:Ti):St:=⟨EA t.1,EA t.2.1,t.2.2.1,EA t.2.2.2⟩
def ML{a:Type}{l:ab a}(h:i<l.f)d:l.I i d∈l:=by rw[ϴ,Ċ h];show uz h
open _root_ in
def MN(b:t∈kF m w h):∃p q a c,t=nU p q a c/\m p=b4/\m q=bt:=by
 let(c,_,b):=ji.Z b;let d:∀{i:am},i<(dY m c).f->m ((dY m c).I i ⟨0,0⟩)=bt:=λhi=>(Ĥ.Z<|ML hi ⟨0,0⟩).2;unfold jK at b;split at b
 .rename_i j;rw[ġ.Z b];show(_,_,_,_,?r,d (),d ())
 .let(i,hi,b):=ji.Z b;let hi:=ŏ.Z hi;let g:0<(dY m c).f:=()
  unfold kE at b;split at b
  .unfold qR at b;rcases ē.Z b with rfl|b
   .show(_,_,_,_,?r,d hi,d<|Ϗ _ g)
   .split at b
    .rename_i e;rw[ġ.Z b];show(_,_,_,_,?r,d<|by rw[e];show Ϗ _ ⋯,d<|by rw[e];show Ϗ _ ⋯)
    .ext b
  .ext b
def a3k p q:gE p q=p\/gE p q=q:=by
 ext gE;lk
 .show .X ?r
 .show .Q ?r
def a3l p q:gG p q=p\/gG p q=q:=by
 ext gG;lk
 .show .X ?r
 .show .Q ?r
def A4 p q:HT.xw (dX p) (dX q)=b4↔p.1<q.1\/p.1=q.1/\p.2<q.2:=by
 ext dX;dsimp[HT.xw];by_cases h1:p.1<q.1
 .simp[h1];lia
 .by_cases a:q.1<p.1
  .simp[h1,a];lia
  .have:p.1=q.1:=()
   simp[ah];lia
def MP(h:HT.xw (dX p) (dX q)=b4):HT.xw (dX q) (dX p)=ai:=by
 cases z:HT.xw (dX q) (dX p)with
 |ai=>rfl|bt=>have:=(A4 _ _).Z h;have:=(A4 _ _).Z z;lia
def MQ(h:HT.xw (dX p) (dX q)=b3)(g:HT.xw (dX q) (dX p)=b3):p=q:=by let h:¬ _:=λz=>þ<|h.R.u<|(A4 p q).v z;let g:¬ _:=λz=>þ<|g.R.u<|(A4 q p).v z;show ė () ()
def a3m p q:gE (gE p q) (gG p q)=gE p q/\gG (gE p q) (gG p q)=gG p q/\gE (gG p q) (gE p q)=gE p q/\gG (gG p q) (gE p q)=gG p q:=by
 cases h:HT.xw (dX q) (dX p)with
 |bt=>dsimp[gE,gG,h,MP h,cy,Ī,cm,and_self]|ai=>
  cases g:HT.xw (dX p) (dX q)with
  |bt=>dsimp[gE,gG,h,g,cy,Ī,cm,and_self]|ai=>cases MQ g h;dsimp[gE,gG,h,Ī,cm,and_self]
def TT!(ms:ab ((ae×ae)×cf))(w h:ae):ab St:=(nW<|kF (bO ms) w h).o a3j
def tJ(h:t∈nW ts):t∈ts:=by unfold nW at h;let(i,hi,?r):=Ü.Z h;show ML (ŏ.Z<|(mD _ _).mem_iff.mp hi) _
def a3n ts:(nW ts).f=ts.f:=by ext nW;rw[Ä,(mD _ _).length_eq,ql]
def EB(hw:1<=w/\w<=6)(a:1<=h/\h<=6)ms:(TT ms w h).f<=1000:=by ext TT;rw[Ä,a3n];let h1:=uM (Ej<|bO ms)<|eK w h;let b:=a3c w (LC hw) h<|LC a;ext kF;lia
def a3o ms w h:(nW<|kF (bO ms) w h).o gC=(TT ms w h).o cM:=by ext TT;rw[æ];show Φ λt b=>?_;let(p,q,a,c,?r,_,_):=MN<|tJ b;rfl
def MR(h:bO ms p=b4):p∈ms.o (·.1):=by let(x,a,e):=qj.Z h;rw[<- bg.Z e];show a
def MU(g:t∈TT ms w h):(t.1∈ms.o (·.1)/\t.2.1∈ms.o (·.1))/\(gE t.1 t.2.1=t.1/\gG t.1 t.2.1=t.2.1/\gE t.2.1 t.1=t.1/\gG t.2.1 t.1=t.2.1):=by
 let(u,i,?r):=Ü.Z g;let(p,q,a,c,?r,b,d):=MN<|tJ i;let b:=MR b;let d:=MR d;show((?_,?_),a3m p q)
 .change gE p q∈_;rcases a3k p q with e|e<;>rw[e]<;>assumption
 .change gG p q∈_;rcases a3l p q with e|e<;>rw[e]<;>assumption
def MV k s μ:f (k+1) "walked_back" [cM s] μ=a7 ⟨cM<|jL s,μ⟩:=(Zk k _ μ).u ""
def a3p T t:dM (T++[t])=lU (lU (dM T) t) (jL t):=by
 funext e;ext dM lU;rw[vy,QZ,Sm,Ĭ];change _=if e=t.2.1 then _ else _
 by_cases h1:t.1=e<;>by_cases a:t.2.1=e
 .rw[ad h1,ad a,ad a.R,ad h1.R,Θ]
 .rw[ad h1,ac a,ac<|ì a,ad h1.R,Ĭ]
 .rw[ac h1,ad a,ad a.R,ac<|ì h1,Ζ]
 .rw[ac h1,ac a,ac<|ì a,ac<|ì h1,Ĭ,Ĭ]
def a3q T e:(dM T e).f<=2*T.f:=by show uM (λt=>?_) T;rw[ô];lk<;>lk<;>simp
inductive UZ (d0:af D)(ν:Hm)(κ a b:am)(T:ab St):am->aE->Hm->Prop
 |mk {i:am}{ay:jx}{x:af D}{μ:Hm}(J:SD ν κ μ a ay (dM<|T.ze i))(hk:ay.f<=2*i)(gb:μ[b]?=a7 (.D<|T.o cM)):UZ d0 ν κ a b T i [d0,a7<|.z a,x] μ
def EC{T:ab St}{i:am}(h:(T.o cM)[i]?=a7 d):∃s,T[i]?=a7 s/\cM s=d:=by rw[ĉ]at h;show Ľ.Z h
def MW k(hw:1<=w/\w<=6)(A:1<=h/\h<=6)(M:(eK w h).find? (iR<|bO ms)=b0)(U:oR (kF (bO ms) w h))μ(Q:jz)(H:∀κ aw a ay,SD μ κ aw a ay (dM<|TT ms w h)->Q ⟨.z a,aw⟩):W (f (k+9) "steps_from" [SH w h ms] μ) Q:=by
 let L:=EB hw A ms;show Ó (Zl (k+8) _ μ)<|bN<|û.v<|iO<|Õ.v<|Ú.v<|aY ?r<|a2k (k+1) hw A M U _ _ λb j G s c=>?_;rw[a3o]at c;generalize TT ms w h=T at L c H;let q:=aI G<|bT μ<|C.dT [];let v:b≠μ.f:=λz=>by rw[z,q]at c;ext c
 let s:b<j.f:=(ã.Z c).1;let Z:μ.f<j.f:=(ã.Z q).1;show(fK c).v<|mO (UZ (a7<|SH w h ms) μ j.f μ.f b T) (.mk (ay:=[]) ((aS _ _).u G,(Ô _,(),Ô _),q,λ_ l=>rfl,λ_ l z=>(nomatch z),λ_ l l z=>(nomatch z)) (Ô _) c) (by rintro _ _ _ (_|_|g);show g) ?_ ?_
 .rintro i d _ u hd (J|N|y);let(t,B,?r):=EC hd;let hi:=(ã.Z B).1;let x:∀e,(dM (T.ze i) e).f<=2000:=λe=>by have:=a3q (T.ze i) e;rw[ţ]at ah;lia
  show(_,?r,iO<|MK (i:=1) (s:=t) (λ_=>rfl) (λ_=>rfl) (λ_=>rfl) J (ĥ (x _) ⋯) () λX E I O o=>(?r,MK (i:=1) (s:=jL t) (λ_=>rfl) (λ_=>rfl) (λaw=>a3d ?r<|MV (k+7) t aw) I ?_ () λY n K R p=>.mk (ay:=n) ?_ ()<|p _ _ s v<|o _ _ s v y))
  .change(lU _ t _).f<=_;ext lU;have:=x (jL t).1;lk
   .rw[ô];change _+1<=_;lia
   .lia
  .rw[iP B,a3p];show K
 .rintro _ u (J|N|y);rw[Ä,ź]at J;show(?r,cZ (_,?r,H _ _ _ _ J))
def jN!(s:cf):av:=(lJ wY<|.X s).qh
def ED k s μ:f (k+1) "is_marked" [.jv s] μ=a7 ⟨.bl<|jN s,μ⟩:=(Zm k _ μ).u ""
def iE!(ms:ab ((ae×ae)×cf)):ab Ed:=(ms.H λm=>jN m.2).o (·.1)
def MX k(n:ms.f<=1000)(μ:Hm)(Q:jz)(H:∀a aw,μ<+:aw->aw[a]?=a7 (.D<|(iE ms).o PP)->Q ⟨.z a,aw⟩):W (f (k+2) "marked_creases" [SH w h ms] μ) Q:=by
 show Ó (Zn (k+1) _ μ)<|cZ<|Dz (xs:=ms.o MD) (x:=λd=>match d with|.L [a,b]=>[a7 a,a7 b]|_=>[]) (p:=λd=>match d with|.L [_,.jv s]=>jN s|_=>b3) (v:=λd=>match d with|.L [a,_]=>a|_=>.kf)<|Ú.v<|bG ?r ?r<|ε.v (_,?r,λaw i c=>rfl,?r,by rw[Ä,õ];lia,λd aw hd=>?_,λd aw hd c=>?_,λd aw hd y c=>?_,λaw c j=>H _ _ c ?_)
 .let(e,g,?r):=Ü.Z hd;rfl
 .let(e,g,?r):=Ü.Z hd;show j5<|aY ?r<|fX (ED k e.2 aw) (?r,?r,Ę _)
 .let(e,g,?r):=Ü.Z hd;show(_,?r,?r,Ę _)
 .rw[j,jf,æ];ext iE;rw[æ];rfl
def rD!:af St->D
 |bp=>.kf|bb s=>cM s
def dD!(R:ab (Ed×af St)):jx:=R.o λr=>⟨a9 r.1,rD r.2⟩
def a3r R:(dD R).o (·.1)=(R.o (·.1)).o a9:=by ext dD;rw[æ,æ];rfl
def A5(nd:(R.o (·.1)).J){e:Ed}(h:⟨e,o⟩∈R):bC (dD R) (a9 e)=a7 (rD o):=AB (by rw[a3r];show vq _ (λa b c x=>c<|j7 x) nd)<|Ü.v (_,h,?r)
def EE{e:Ed}(h:e∉R.o (·.1)):bC (dD R) (a9 e)=bp:=by
 ext bC;rw[fc.v]
 .rfl
 .intro x a;let(z,b,?r):=Ü.Z a;rw[cx];show λy=>h<|j7 y▸Ü.v (z,b,?r)
def MY{e:Ed}(h:e∉R.o (·.1)):cK (dD R) (a9 e) (rD o)=dD (R++[⟨e,o⟩]):=by ext cK;rw[EE h,ac ∅];ext dD;rw[Ć];rfl
def EF!:MS:=bB (aP<|aA (dB b4) (aA bE (aC 6)<|mC<|.p 1)<|aC 2) (aL (d8 (aC 2) (aA bE (aC 6)<|mC<|.p 1)<|aC 6)<|dP<|eH fT (aC 4)<|aB (aA bE (aC 6)<|mC<|.p 1) aD) bM
def uO!(st a r:am)(x:af D)(q:am)(h s:af D):aE:=[a7<|.z st,a7<|.z a,a7<|.z r,x,a7<|.z q,h,s]
inductive xr (T:ab St)(M U:ab Ed)(gt:Hm)(r q n:am)(R:ab (Ed×af St))(μ:Hm):Prop
 |mk (rc:Rc T M R)(hC:∀e∈R.o (·.1),e∈U)(p:gt<+:μ)(hr:gt.f<=r)(hq:gt.f<=q)(gr:μ[r]?=a7 (.dT<|dD R))(gq:μ[q]?=a7 (.D<|((R.kw n).o (·.1)).o PP))
def a3s(Z:M.J)(hC:U.f<=600)(I:∀t∈T,t.1∈U/\t.2.1∈U)(hn:n<=R.f)(J:xr T M U gt r q n R μ)(K:s∈dM T s.1)(h1:s.1∈R.o (·.1))(H:∀u d,(∃l,u=R++l)->xr T M U gt r q n u d->s.2.1∈u.o (·.1)->(∀b c,b≠r->b≠q->μ[b]?=a7 c->d[b]?=a7 c)->Q ⟨.nx,uO st O r x q h<|a7<|cM s,d⟩):W (EF (uO st O r x q h<|a7<|cM s) μ) Q:=by
 let(E,B,p,y,w,i,k):=J;let nd:=E.nd Z;let rl:R.f<=600:=by have:=NM nd B;rw[Ä]at ah;lia
 let N:q≠r:=λz=>by rw[z,i]at k;ext k
 show Ð.v<|eB<|bG ?r ?r<|(wX i<|dW s.2.1).v (_,?r,?_);by_cases j:s.2.1∈R.o (·.1)
 .obtain((e|o)|a|L):=Ü.Z j;dsimp at L;subst L;rw[A5 nd a];show(ac þ).v<|Î.v<|H R μ ([],(Ĭ _).R) (E,B,p,y,w,i,k) j λ_ f f f g=>g
 .rw[EE j];show(ad ?r).v (Ì.v<|ď.v (_,?r,_,?r,_,?r,(qL i (dW s.2.1)<|by ext dD;rw[Ä,õ];lia).v ?_));let v:(μ.xl r<|.dT<|cK (dD R) (a9 s.2.1)<|cM s)[q]?=a7 (.D<|((R.kw n).o (·.1)).o PP):=by rw[ć<|ì N];show k
  show ï.v (jZ (_,?r,j0 v,_,?r,(oZ v<|by rw[Ä,Ä,vd,õ];lia).v ?_));let G:=Rc.sn E K h1 j;show H (R++[⟨s.2.1,a7 s⟩]) _ (_,?r) (G,λe a=>?_,e6 (e6 p y _) w _,y,w,?_,?_) (by rw[Ć];show Ĺ.v<|.X<|.head _) λb c X Y g=>?_
  .rw[Ć]at a;rcases Ĺ.Z a with a|a
   .show B e a
   .rw[ġ.Z a];rcases(ŀ.Z K).2 with A|A
    .show(I _ A).2
    .show(I _ A).1
  .rw[ć N,fG i];show br (λz=>a7<|C.dT z)<|MY (o:=a7 s) j
  .rw[fG v,ab.drop_append_of_le_length hn,Ć,Ć];rfl
  .rw[ć<|ì Y,ć<|ì X];show g
inductive Ub (T:ab St)(M U:ab Ed)(gt:Hm)(st ss r q n l:am)(h:af D)(e:Ed)(R:ab (Ed×af St)):am->aE->Hm->Prop
 |mk {i:am}{x s:af D}{R':ab (Ed×af St)}{μ:Hm}(J:xr T M U gt r q (n+1) R' μ)(ex:∃l,R'=R++l)(cl:∀t∈(dM T e).ze i,t.2.1∈R'.o (·.1))(gl:μ[l]?=a7 (.D<|(dM T e).o cM)):Ub T M U gt st ss r q n l h e R i (uO st ss r x q h s) μ
inductive Oj (T:ab St)(M U:ab Ed)(gt:Hm)(st ss r q:am):am->aE->Hm->Prop
 |mk {m n:am}{x h s:af D}{R:ab (Ed×af St)}{μ:Hm}(J:xr T M U gt r q n R μ)(hm:m+n=1700)(hn:n<=R.f)(cl:∀e∈(R.ze n).o (·.1),∀t∈dM T e,t.2.1∈R.o (·.1)):Oj T M U gt st ss r q m (uO st ss r x q h s) μ
def MZ!:MS:=aL (dA 5<|eH pV (aC 4)<|aB (mC<|.p 0) aD)<|cV (dR<|fW fD (aC 0)<|aB (aC 5)<|aB (cU aD) aD) (dE 6) EF
def a3t{Q:jz}(h:μ[a]?=a7 (.D xs))(h0:0<=i/\i<1000)(hi:xs[i.zi]?=a7 d):W (pV (.z a) [.p i] μ) Q↔Q ⟨d,μ.xl a<|.D<|xs.vc i.zi⟩:=by
 let e:pV (.z a) [.p i] μ=a7 ⟨d,μ.xl a<|.D<|xs.vc i.zi⟩:=by dsimp[pV,h];rw[ad (),hi];rfl
 rw[e];show À
def a3u(hM:M.J)(hU:U.f<=600)(hT:∀t∈T,t.1∈U/\t.2.1∈U)(hl:T.f<=1000)(S:SD ν κ gt st ay (dM T))(J:xr T M U gt r q n R μ)(hm:m+n=1700)(O:n<R.f)(cl:∀e∈(R.ze n).o (·.1),∀t∈dM T e,t.2.1∈R.o (·.1)):
  W (MZ (uO st H r x q h s) μ) λp=>p.1=.nx/\∃G,G<m/\Oj T M U gt st H r q G p.2.1 p.2.2:=by
 let(rc,rC,p,hr,hq,gr,o):=J;let nd:=rc.nd hM;let rl:R.f<=600:=by have:=NM nd rC;rw[Ä]at ah;lia
 let rq:q≠r:=λz=>by rw[z,gr]at o;ext o
 rw[OY O,í,í]at o;let B:R[n]∈R:=uz O;let E:R.ze (n+1)=R.ze n++[R[n]]:=by rw[qm,Ċ O];rfl
 generalize R[n]=en at o B E;show bN (jZ (_,?r,j0 o,_,?r,(a3t o () ?r).v ?_));let v:=fG (c':=C.D (((R.kw<|n+1).o (·.1)).o PP)) o;let w:(μ.xl q<|C.D<|((R.kw<|n+1).o (·.1)).o PP)[r]?=a7 (.dT<|dD R):=by rw[ć rq];show gr
 let L:=e6 (c:=C.D (((R.kw<|n+1).o (·.1)).o PP)) p hq;change W (cV _ _ _ _<|μ.xl q<|C.D<|((R.kw<|n+1).o (·.1)).o PP) _;generalize μ.xl q (C.D<|((R.kw<|n+1).o (·.1)).o PP)=ic at v w L ⊢;let I:=S.more L;let he:en.1∈R.o (·.1):=Ü.v (_,B,?r);let k:∀l j,ic<+:j->l≠r->l≠q->j[l]?=a7 (.D<|(dM T en.1).o cM)->W (fQ (eM<|.z l) (dE 6) EF (((dM T en.1).o cM).f+1) 0 (uO st H r x q (a7<|PP en.1) s) j) λp=>p.1=.nx/\∃G,G<m/\Oj T M U gt st H r q G p.2.1 p.2.2:=λl j c l1 l2 gl=>by
  show mO (Ub T M U gt st H r q n l (a7<|PP en.1) en.1 R) (.mk (R':=R) (rc,rC,L.u c,hr,hq,aI c w,aI c v) ([],(Ĭ _).R) (λ_ z=>by rw[zy]at z;ext z) gl) (by rintro _ _ _ (_|_|_|g);show g) ?_ ?_
  .rintro i d _ X hd (J|(l'|rfl)|b|g);let(t,y,?r):=EC hd;let hf:=œ y;let Y:=(ŀ.Z hf).1;show(_,?r,a3s hM hU hT (by rw[ô];lia) J (by rw[Y];show hf) (by rw[Y,Ć];show Ĺ.v<|.Q he) λR' aw (Q,Z) J' hs fr=>.mk J' (l'++Q,by rw[Z,Θ]) (λu A=>?_)<|fr _ _ l1 l2 g);rw[iP y]at A;rcases Ĺ.Z A with A|A
   .rw[Z,Ć];show Ĺ.v<|.Q<|b u A
   .rw[ġ.Z A];show hs
  .rintro _ X (J|(l'|rfl)|b|g);rw[Ä,ź]at b;show(?r,m-1,(),.mk (n:=n+1) J () (by rw[ô];lia) λe a t y=>?_);rw[ab.take_append_of_le_length (),E,Ć]at a;rcases Ĺ.Z a with a|a
   .rw[Ć];show Ĺ.v<|.Q<|cl e a t y
   .rw[ġ.Z a]at y;show b t y
 let lr:=I.dic;show Õ.v<|Ú.v<|A3 (a:=st) ?r I.dic<|aX (_,?r,aX (_,?r,_,?r,?_));let c:=aS ic<|C.D [];cases K:bC ay (a9 en.1)with
 |bb d=>
  let(l,?r,_,g0):=S.ats _ _ K;let l0:l<gt.f:=(ã.Z g0).1;let N:fD (.z st) [PP en.1,.z ic.f] (ic++[C.D []])=a7 ⟨.z l,ic++[C.D []]⟩:=by dsimp[fD,aI c I.dic,dW,ĝ,K,Qd]
  let gl:=aI (L.u c) g0;show(_,N,(fK gl).v<|k l _ c () () gl)
 |bp=>
  let N:fD (.z st) [PP en.1,.z ic.f] (ic++[C.D []])=a7 ⟨.z ic.f,ic++[C.D []]⟩:=by dsimp[fD,aI c I.dic,dW,ĝ,K,NA]
  let gl:(ic++[C.D []])[ic.f]?=a7 (.D<|(dM T en.1).o cM):=by rw[S.no _ K];show bT _ _
  let b1:r<ic.f:=(ã.Z w).1;let b2:q<ic.f:=(ã.Z v).1;show(_,N,(fK gl).v<|k _ _ c () () gl)
inductive Uc (d0 d1:af D)(ν:Hm)(r:am)(M:ab Ed):am->aE->Hm->Prop
 |mk {i:am}{x:af D}{μ:Hm}(p:ν<+:μ)(g:μ[r]?=a7 (.dT<|dD<|(M.ze i).o λe=>⟨e,b0⟩)):Uc d0 d1 ν r M i [d0,d1,a7<|.z r,x,b0,b0,b0] μ
inductive rm (T:ab St)(M U:ab Ed)(R:ab (Ed×af St)):Prop
 |mk (rc:Rc T M R)(hU:∀e∈R.o (·.1),e∈U)(cl:∀e∈R.o (·.1),∀t∈dM T e,t.2.1∈R.o (·.1))
open _root_ in
def EG k(q:M.J)(A:U.f<=600)(I:∀e∈M,e∈U)(Z:∀t∈T,t.1∈U/\t.2.1∈U)(hl:T.f<=1000)(S:SD ν κ μ st ay (dM T))(o:μ[c]?=a7 (.D<|M.o PP))(Q:jz)(H:∀r b R,μ<+:b->μ.f<=r->b[r]?=a7 (.dT<|dD R)->rm T M U R->Q ⟨.z r,b⟩):W (f (k+1) "last_steps" [.z st,.z c] μ) Q:=by
 let ml:M.f<=600:=ĥ (NM q I) A;let K:=aS μ<|C.dT [];show Ó (Zo k _ _ μ)<|bN<|û.v<|iO<|Õ.v<|Ú.v (_,?r,(fK<|aI K o).v ?_);show mO (Uc (a7<|.z st) (a7<|.z c) μ μ.f M) (.mk K<|by rw[zy];show bT _ _) (by rintro _ _ _ (p|_);show aI p o) ?_ ?_
 .rintro i d _ a hd (p|g);let(z,G,?r):=o8 hd;show(_,?r,ď.v (_,?r,_,?r,_,?r,(qL g (dW z)<|by ext dD;rw[Ä,Ä,ţ,õ];lia).v<|.mk (e6 p (Ô _) _) ?_));rw[fG g,iP G,Ć];show br (λy=>a7<|C.dT y)<|MY (o:=b0)<|by rw[A2];show sE q G
 .rintro _ a (p|g);rw[Ä,ź]at g;show(?r,bN<|aY ?r<|(DD<|aI p o).v<|iO ?_);let L:=aS a<|C.D<|M.o PP;let J:xr T M U μ μ.f a.f 0 (M.o λe=>⟨e,b0⟩) (a++[C.D<|M.o PP]):=(.st,by rw[A2];show I,p.u L,Ô _,p.ke,aI L g,by rw[Pe,A2];show bT _ _);show MH (b:=MZ) (Oj T M U μ st c μ.f a.f) 1700 ⋯ (.mk (n:=0) J ?r (Ŝ _) λe B=>by rw[zy]at B;ext B) ?_;rintro m _ u (J|hm|hn|cl);rename_i n x h s R;let(X,O,N,hr,hq,w,v):=J;let Y:nG u (.z a.f)=a7 (!(((R.kw n).o (·.1)).o PP).qk):=by dsimp[nG,v]
  show Ħ.v (_,?r,_,Y,?_);by_cases hd:n<R.f
  .let j:(((R.kw n).o (·.1)).o PP).qk=ai:=by rw[OY hd];rfl
   rw[j];show(ad ?r).v<|bH (a3u q A Z hl S (X,O,N,hr,hq,w,v) hm hd cl) λp E=>?_;rw[E.1];show E.2
  .let j:(((R.kw n).o (·.1)).o PP).qk=bt:=by rw[ab.drop_eq_nil_of_le ()];rfl
   rw[j];rw[NK ()]at cl;show(ac þ).v (?r,cZ (_,?r,H _ _ R N (Ô _) w (X,O,cl)))
def EH!(T:ab St)(q:Ed->ae):Prop:=∀t∈T,(q t.1+q t.2.1+sN t.2.2.1)%2=0
def a3v a b:jM (a++b)=jM a+jM b:=by ext jM;rw[ϣ,ô]
def a3w s:(jM [s]:ae)=sN s.2.2.1:=by ext jM sN;rw[Pw];cases s.2.2.1<;>rfl
def Wy.app(h:Wy T a v b)(g:Wy T b w c):Wy T a (v++w) c:=by
 induction h with
 |fk=>show g|bm d h e=>show .zv d<|e g
def Wy.one(h:s∈dM T s.1):Wy T s.1 [s] s.2.1:=.zv h<|.kk _
def Wy.bk(h:Wy T a w b):Wy T b (w.zd.o jL) a:=by
 induction h with
 |fk=>show .kk _|@bm s w e c h d=>rw[N3,Ć];show d.app<|.one (s:=jL s)<|a3h c
def Rc.m(h:Rc T M R):∀e∈M,⟨e,b0⟩∈R:=by
 induction h with
 |st=>show λe a=>Ü.v (e,a,?r)|sn h d h1 c b=>show λe a=>Ĺ.v<|.Q<|b e a
def EI(h:Dc μ a ay)(b:d7 y=a7 k)(c:bC ay k=a7 d):bE (.z a) y μ=a7 ⟨d,μ⟩:=by rcases h with h|h<;>dsimp[bE,h,b,ě,c,ĝ]
def Dc.set(I:Dc μ a ay)(h:b≠a):Dc (μ.xl b c) a ay:=I.vl (λe=>.Q<|by rw[ć h];show e) λe=>.X<|by rw[ć h];show e
def Dc.lt{μ:Hm}{a:am}{ay:jx}(I:Dc μ a ay):a<μ.f:=I.vl (λe=>(ã.Z e).1) λe=>(ã.Z e).1
inductive RA (T:ab St)(M:ab Ed)(R:ab (Ed×af St))(ν:Hm)(r l:am)(e:Ed):am->aE->Hm->Prop
 |mk {m:am}{x:Ed}{o:af St}{fz:ab St}{μ:Hm}(p:ν<+:μ)(g:μ[l]?=a7 (.D<|fz.o cM))(hx:⟨x,o⟩∈R)(hw:Wy T x fz.zd e)(hm:m=(R.o (·.1)).idxOf x)(ha:fz.f+m<=600):RA T M R ν r l e m [a7<|.z r,a7<|PP e,a7<|.z l,a7<|rD o] μ
open _root_ in
def A6 k(B:M.J)(Y:U.f<=600)(E:rm T M U R)(d:Dc μ r (dD R))(n:e∈R.o (·.1))(Q:jz)(H:∀l a w m,μ<+:a->a[l]?=a7 (.D<|w.o cM)->m∈M->Wy T m w e->w.f<=600->ng->Q ⟨.z l,a⟩):W (f (k+1) "way_by" [.z r,PP e] μ) Q:=by
 let(A,rU,cl):=E;let nd:=A.nd B;let rl:R.f<=600:=by have:=NM nd rU;rw[Ä]at ah;lia
 obtain((x|o)|q|i):=Ü.Z n;dsimp at i;subst i;let v:=aS μ<|C.D [];let ll:r<μ.f:=d.lt;show Ó (Zp k _ _ μ)<|bN (_,?r,bN<|bG ?r ?r (_,EI (d.more v) (dW x)<|A5 nd q,iO ?_));let J:=Tu.v n;rw[Ä]at J;show MH (RA T M R μ r μ.f x) ((R.o (·.1)).idxOf x) () (.mk (fz:=[]) v (bT _ _) q (.kk _) ?r<|by change 0+_<=_;lia) ?_;rintro m _ c (p|g|I|hw|G|Z);rename_i y K b;let up:=A.up _ _ I;cases K with
 |bp=>show eB<|bG ?r ?r<|ę.v (_,?r,(ac þ).v (?r,cZ<|aY ?r<|(J7 g).v ?_));rw[<- OQ];show H _ _ _ y (p.u<|aS _ _) (bT _ _) up hw (by rw[R4];lia) fw|bb s=>
  let(L,N,O,X):=up;obtain((z|oz)|u|j):=Ü.Z O;dsimp at j;subst j;show eB (bG ?r ?r<|Ū.v (_,?r,(ad ?r).v<|Ar<|jZ (_,?r,j0 g,_,?r,(oZ g<|by rw[Ä,õ];lia).v ?_)));let h:Dc (c.xl μ.f<|.D<|b.o cM++[cM s]) r (dD R):=(d.more p).xl ();show ò.v (bD (_,?r,bG ?r ?r (_,?r,_,EI h (dW s.1)<|A5 nd u,_,by rw[G];show X,?_)));let io:RA T M R μ r μ.f x ((R.o (·.1)).idxOf s.1) [a7<|.z r,a7<|PP x,a7<|.z μ.f,a7<|rD oz] (c.xl μ.f<|.D<|(b++[s]).o cM):=by show .mk (e6 p (Ô _) _) (fG g) u ?_ ?r (by rw[ô];change _+1+_<=_;lia);rw[qy];show .zv N<|L▸hw
  rw[Ć]at io;show io
def M0!:D->av
 |.L [_,_,.bl b,_]=>!b|_=>b3
def EJ k(c:w.f<=3000){μ:Hm}(g:μ[l]?=a7 (.D<|w.o cM))(Q:jz)(H:∀aw,μ<+:aw->Q ⟨.bl<|(jM w:ae)%2==0,aw⟩):W (f (k+1) "is_alike" [.z l] μ) Q:=by
 show Ó (Zq k _ μ)<|cZ<|bD<|bD<|eP<|aX<|jH (xs:=w.o cM) (p:=M0) (v:=λd=>d)<|Ú.v (_,?r,(fK g).v (nQ g,?r,by rw[Ä,õ];lia,λd aw hd a=>?_,λd aw hd x a=>(_,?r,?r,Ę _),λaw a b=>(_,?r,(mP b).v (_,?r,(fF ⋯).v (_,?r,ü.v ?_)))))
 .let(s,h,?r):=Ü.Z hd;show w8<|j5<|bG ?r ?r (_,?r,?r,?r,Ę _)
 .let e:(((w.o cM).H M0).o λd=>d).f=jM w:=by rw[Ä,jf,Ä];rfl
  rw[e];show H _ a
def M1:∀l ps,((ps++l).o (·.1)).J->(l.o λm=>⟨a9 m.1,D.jv m.2⟩).foldl (λq p=>cK q p.1 p.2) (dC ps)=dC (ps++l)
 |[],ps,_=>by rw[Ĭ];rfl
 |m::l,ps,h=>by
  rw[í,N7];let a:m.1∉ps.o (·.1):=λz=>by rw[Ć,í]at h;show(fB.Z h).2.2 _ z _ (.head _) ?r
  rw[a3g a,M1 l (ps++[m])<|by rw[Θ];show h,Θ];rfl
def M3 k(nd:(ms.o (·.1)).J)μ:f (k+1) "marks_in" [SH w h ms] μ=a7 ⟨.z μ.f,μ++[.dT<|dC ms]⟩:=a3e (Kc k _ μ)<|fM<|aY ?r<|Ϸ.v<|by
 rw[show(ms.o λm=>⟨a9 m.1,D.jv m.2⟩).foldl (λq p=>cK q p.1 p.2) []=_ from M1 ms [] nd];rfl
def M4(nd:(ms.o (·.1)).J)(h:m∈ms):bC (dC ms) (a9 m.1)=a7 (.jv m.2):=AB (by
 ext dC;rw[æ];have:((ms.o (·.1)).o a9).J:=vq _ (λa b c x=>c<|j7 x) nd;rw[æ]at ah;show ah)<|Ü.v (_,h,?r)
def A7!(s:cf):cf:=if s="h" then "v" else "h"
def uP!(n:am)(s:cf):cf:=if(n:ae)%2==0 then s else A7 s
def a3x{s:cf}(ok:s="o"\/s="h"\/s="v") (h:jN s=b4):s="h"\/s="v":=ok.kb λz=>by rw[z]at h;revert h;decide +de
def a3y{s:cf}(h:s="h"\/s="v"):lJ wY (.X s)=a7 (.jv<|A7 s):=by
 rcases h with rfl|rfl
 .kernel_rfl
 .kernel_rfl
def Wy.hd:Wy T x (s::w) e->x=s.1
 |.zv _ _=>?r
def Wy.nl:Wy T x [] e->x=e
 |.kk _=>?r
def Ĵ:x∈iE ms↔∃m∈ms,jN m.2=b4/\m.1=x:=by
 ext iE;rw[Ü];constructor
 .rintro(m|a|e);show(m,(Ĥ.Z a).1,(Ĥ.Z a).2,e)
 .rintro(m|a|b|e);show(m,Ĥ.v (a,b),e)
def EK(nd:(ms.o (·.1)).J):(iE ms).J:=(fj.o _).nodup nd
def a3z k(I:U.f<=600){ms:ab ((ae×ae)×cf)}(nd:(ms.o (·.1)).J)(ok:∀m∈ms,m.2="o"\/m.2="h"\/m.2="v")(G:rm T (iE ms) U R)(E:Dc μ a (dC ms))(j:μ[r]?=a7 (.dT<|dD R)){c:cf}(h0:e∉R.o (·.1)->c="o")(h1:∀m∈ms,jN m.2=b4->∀w,Wy T m.1 w e->c=uP (jM w) m.2)(Q:jz)(H:∀aw,μ<+:aw->Q ⟨.jv c,aw⟩):W (f (k+2) "carried_mark" [.z a,.z r,PP e] μ) Q:=by
 let(A,rU,cl):=G;let N:=A.nd<|EK nd;by_cases b:e∈R.o (·.1)
 .obtain((y|o)|M|v):=Ü.Z b;dsimp at v;subst v;show Ó (Kd (k+1) _ _ _ μ) (uG<|eB<|bG ?r ?r<|(wX j<|dW y).v (_,?r,by rw[A5 N M];rfl,mQ<|bN<|aY ?r<|A6 k (EK nd) I (A,rU,cl) (.Q j) b _ λl d w x n i L hw J t=>?_));let(m,b,z,?r):=Ĵ.Z L;let g:=h1 m b z w hw;let K:=a3x (ok m b) z;let u:nG d (.z l)=a7 (!(w.o cM).qk):=by dsimp[nG,i]
  let B:gU (c7<|aC 3) (aA bE (aA bE (aC 3)<|mC<|.p 0)<|mC<|.p 0) (aC 2) [a7<|.z a,a7<|.z r,a7<|PP y,a7<|.z l,b0] d=a7 ⟨PP m.1,d⟩:=by
   cases w with
   |fk=>rw[hw.nl];show fM (Ğ.v<|Ħ.v (_,?r,_,u,(ac þ).v (_,?r,?r)))|bm s w=>rw[hw.hd];show fM<|Ğ.v<|Ħ.v (_,?r,_,u,(ad ?r).v<|bD<|bG ?r ?r<|(iY i<|show lv ((s::w).o cM) ((0:am):ae)=a7 (cM s)from AR ?r).v (_,?r,_,?r,?r))
  show bN (_,B,cZ<|Ğ.v<|j5<|aY ?r<|EJ k (ĥ J ⋯) i _ λO p=>(?r,?_));let q:=EI (E.more<|n.u p) (dW m.1)<|M4 nd b;unfold uP at g;cases h:(jM w:ae)%2==0 with
  |bt=>rw[h,ad ?r]at g;rw[g]at H;show(ad ?r).v (bG ?r ?r (_,q,H _<|n.u p))|ai=>rw[h,ac þ]at g;rw[g]at H;show(ac þ).v<|lz.v<|bG ?r ?r (_,q,_,?r,_,a3y K,H _<|n.u p)
 .rw[h0 b]at H;show Ó (Kd (k+1) _ _ _ μ)<|Kk<|eB<|bG ?r ?r<|(wX j<|dW e).v (_,?r,by rw[EE b];rfl,w9 (_,?r,H _<|Ę _))
def M5 ms:fJ (dC ms)=(ms.o (·.1)).o PP:=by ext fJ dC;rw[æ,æ];rfl
def a3A k(hw:1<=w/\w<=6)(i:1<=h/\h<=6)(x:ie ms)(q:(eK w h).find? (iR<|bO ms)=b0)(v:oR (kF (bO ms) w h))(h0:∀μ,aC 0 n μ=a7 ⟨SH w h ms,μ⟩)(μ:Hm)(Q:jz)(H:∀r aw R,μ<+:aw->aw[r]?=a7 (.dT<|dD R)->rm (TT ms w h) (iE ms) (ms.o (·.1)) R->Q ⟨.z r,aw⟩):W (bI (f (k+9) "last_steps") (aB (bI (f (k+9) "steps_from")<|aB (aC 0) aD)<|aB (bI (f (k+9) "marked_creases")<|aB (aC 0) aD) aD) n μ) Q:=by let(G,nd,ok):=x;let E:=EB hw i ms;show eP (aX<|eP<|aX (_,h0 μ,_,?r,MW k hw i q v _ _ λI d a z S=>aX<|eP<|aX (_,h0 d,_,?r,MX (k+7) () _ _ λb B j o=>(_,?r,?_))));show EG (k+8) (EK nd) (by rw[Ä];lia) (λe s=>by let(m,u,_,?r):=Ĵ.Z s;show Ü.v (m,u,?r)) (λt y=>(MU y).1) () (S.more j) o _ λr g R A b p c=>H r g R (S.pre.u<|j.u A) p c
def a3B(a:rm T M U R)(h:e∉R.o (·.1)):∀x∈M,¬ Cn T x e:=λx b hc=>by let(c,_,cl):=a;show h<|hc.cl cl<|Ü.v (_,c.m x b,?r)
def a3C k(hw:1<=w/\w<=6)(E:1<=h/\h<=6)(q:ie ms)(v:(eK w h).find? (iR<|bO ms)=b0)(G:oR (kF (bO ms) w h)){dm:Ed->cf}(h0:∀e,(∀x∈iE ms,¬ Cn (TT ms w h) x e)->e∈ms.o (·.1)->dm e="o")(h1:∀e,∀m∈ms,jN m.2=b4->∀y,Wy (TT ms w h) m.1 y e->dm e=uP (jM y) m.2)(μ:Hm)(Q:jz)(H:∀l aw,μ<+:aw->μ.f<=l->aw[l]?=a7 (.D<|ms.o λm=>MD ⟨m.1,dm m.1⟩)->Q ⟨.z l,aw⟩):W (f (k+10) "carried" [SH w h ms] μ) Q:=by
 show Ó (Zw (k+9) _ μ)<|bN<|a3A k hw E q v G (λ_=>rfl) _ _ λr a R s p g=>?_;let(M,nd,ok):=q;show bN<|aY ?r<|fX (M3 (k+8) nd a)<|cZ<|a2m (a:=a.f) (ay:=dC ms) ?r (bT _ _) ?_;let N:r<a.f:=(ã.Z p).1;let u:(a++[C.dT<|dC ms]).xl a.f (.dF<|dC ms)=a++[.dF<|dC ms]:=AA _ _ _;change W (gK _ _ _ _<|(a++[C.dT<|dC ms]).xl a.f<|.dF<|dC ms) _;rw[u];let j:=bT a<|C.dF<|dC ms;let c:=aI (aS a<|C.dF<|dC ms) p;let o:=s.u<|aS a<|C.dF<|dC ms;let J:(a++[C.dF<|dC ms]).f=a.f+1:=by rw[ô];rfl
 generalize a++[C.dF<|dC ms]=i6 at j c o J ⊢;let n:gX (aC 2) [a7<|SH w h ms,a7<|.z r,a7<|.z a.f] i6=a7 ⟨eM<|.L<|fJ<|dC ms,(dC ms).f+1,i6⟩:=by change(gX (λ_ μ=>a7 ⟨D.z a.f,μ⟩) [] i6)=_;dsimp[gX,ě,j]
 let I:(dC ms).f=ms.f:=Ä ..;show jH (xs:=fJ (dC ms)) (p:=λ_=>b4) (v:=λd=>.L [d,.jv<|dm<|fL d]) (_,n,λaw i b=>rfl,?_,?_,λd aw hd b=>ą.v (?r,Ę _),λd aw hd t b=>?_,λaw b B=>(aI b j,?_))
 .ext fJ;rw[Ä]
 .ext fJ;rw[Ä,I,õ];lia
 .rw[M5]at hd;let(e,A,?r):=Ü.Z hd;show ç.v<|aX (_,?r,aX<|aY ?r<|a3z (k+7) (U:=ms.o (·.1)) (by rw[Ä];lia) nd ok g (.X<|aI b j) (aI b c) (λz=>h0 e (a3B g z) A) (h1 e) _ λL K=>(_,?r,iN,?r,K))
 .show H _ _ (e6 (o.u b) s.ke _) (ĥ o.ke<|Ô _) ?_;rw[ć<|by change a.f≠i6.f;lia,B,M5,N5.v λ_ t=>rfl,æ,æ];rfl
def iF!(s:cf):ae:=if s="v" then 1 else 0
def a3D{a b:cf}(c:a="h"\/a="v") (d:b="h"\/b="v"):(a==b)=((iF a+iF b)%2==0):=by rcases c with rfl|rfl<;>rcases d with rfl|rfl<;>decide +de
def Wy.par(g:EH T q)(h:Wy T a w b):(q a+q b+jM w)%2=0:=by
 induction h with
 |fk e=>change(q e+q e+((0:am):ae))%2=0;lia|@bm s w e i h o=>
  let k:(q s.1+q s.2.1+sN s.2.2.1)%2=0:=by
   rcases(ŀ.Z i).2 with c|c
   .show g s c
   .let j:(q s.2.1+q s.1+sN s.2.2.1)%2=0:=g _ c;lia
  let d:=a3v [s] w;let n:=a3w s;rw[show[s]++w=s::w from ?r]at d;rw[d];lia
def mX!(s:cf):Prop:=s="h"\/s="v"
def a3E(h:mX s):jN s=bt:=by rcases h with rfl|rfl<;>decide +de
def M6(h:mX s):(s="h"/\iF s=0)\/(s="v"/\iF s=1):=by rcases h with rfl|rfl<;>decide +de
def M7(a:mX s)(b:mX t)(e:(iF s+iF t)%2=0):s=t:=by
 rcases M6 a with(rfl|h1)|(rfl|h1)<;>rcases M6 b with(rfl|h2)|(rfl|h2)
 .rfl
 .rw[h1,h2]at e;show cb e ⋯
 .rw[h1,h2]at e;show cb e ⋯
 .rfl
def M8(h:mX s):mX (A7 s)/\iF (A7 s)+iF s=1:=by rcases h with rfl|rfl<;>show(by ext mX;decide +de,by decide +de)
open _root_ in
def a3F(a:mX s)(b:mX t){n:am}(e:(iF s+iF t+n)%2=0):t=uP n s:=by
 ext uP;lk
 .rename_i z;rw[bg]at z;show M7 b a ()
 .rename_i z;rw[bg]at z;have:=(M8 a).2;show M7 b (M8 a).1 ()
def mj F r e:mX (eF F r e):=by
 ext eF;lk
 .show .X ?r
 .show .Q ?r
inductive ů (T:ab St)(ms:ab ((ae×ae)×cf))(v:ae×ae->cf):Prop
 |mk (hv:∀e,mX (v e))(ti:EH T λe=>iF<|v e)(mk:∀m∈ms,m.2="o"\/m.2=v m.1)
def ů.at_(K:ů T ms v)(b:m∈ms)(a:jN m.2=b4):m.2=v m.1:=by let(_,_,mk):=K;show(mk m b).kb λz=>by rw[z]at a;revert a;decide +de
def ů.ok(K:ů T ms v)(a:m∈ms):m.2="o"\/m.2="h"\/m.2="v":=by
 let(b,_,mk):=K;rcases mk m a with h|h
 .show .Q h
 .rw[h];show .X<|b _
def ů.cyc(K:ů T ms v)(h:Wy T a w a):((jM w:ae)%2==0)=bt:=by let(_,b,_):=K;have:=h.par b;rw[bg];lia
def ů.mar(K:ů T ms v)(g:x∈ms)(i:y∈ms)(c:jN x.2=b4)(a:jN y.2=b4)(h:Wy T x.1 w y.1):((jM w:ae)%2==0)=(y.2==x.2):=by let d:=K.at_ g c;let e:=K.at_ i a;let(b,j,_):=K;let k:=h.par j;rw[d,e,a3D (b _)<|b _,Ψ,bg,bg];lia
def nY!(T:ab St)(ms:ab ((ae×ae)×cf))(v:ae×ae->cf)(e:Ed):cf:=@ite _ (∃x∈iE ms,Cn T x e) (Classical.propDecidable _) (v e) "o"
def ů.h0(h:∀x∈iE ms,¬ Cn T x e):nY T ms v e="o":=ac λ(x,a,c)=>h x a c
def ů.h1(K:ů T ms v)e(m)(b:m∈ms)(a:jN m.2=b4)y(h:Wy T m.1 y e):nY T ms v e=uP (jM y) m.2:=by ext nY;rw[ad (m.1,Ĵ.v (m,b,a,?r),h.cn),K.at_ b a];let(c,d,_):=K;show a3F (c _) (c _)<|h.par d
def ů.told(K:ů T ms v)(a:m∈ms):(nY T ms v m.1="o"\/nY T ms v m.1=v m.1)/\(m.2 ≠ "o"->nY T ms v m.1=m.2):=by
 ext nY;by_cases r:∃x∈iE ms,Cn T x m.1
 .rw[ad r];let(_,_,mk):=K;show(.X ?r,λz=>((mk m a).kb z).R)
 .rw[ac r];show(.Q ?r,λz=>cb (m.1,Ĵ.v (m,a,?_,?r),.rf _) r);let(b,_,mk):=K;rw[(mk m a).kb z];show a3E<|b _
def a3G(g:μ[a]?=a7 (.D xs))(h:i<xs.f):nK a xs.f μ i=a7 xs.zd[i]?:=by ext nK;rw[g];dsimp;rw[ad h,Qq h,Ċ ()];rfl
def a3H(g:μ[a]?=a7 (.D xs)):nK a xs.f μ xs.f=a7 bp:=by ext nK;rw[g];dsimp;rw[ac<|Ϝ _,ad ?r]
def a3I k{y:ab St}(h:y.f<=600){μ:Hm}(g:μ[l]?=a7 (.D<|y.o cM))(Q:jz)(H:∀a aw,μ<+:aw->aw[a]?=a7 (.D<|(y.zd.o jL).o cM)->Q ⟨.z a,aw⟩):W (f (k+2) "back_by" [.z l] μ) Q:=by
 show Ó (Zs (k+1) _ μ)<|cZ<|YI<|YQ (_,?r,l,_,?r,g,(y.o cM).f,λi e aw=>μ<+:aw/\e=((y.zd.ze i).o jL).o cM,?r,by rw[Ä,õ];lia,?_,(aS _ _,?r),?_,?_)
 .rintro i _ _ (_|rfl);rw[Ä,Ä,ţ];lia
 .rintro i _ aw hi (p|rfl) b;rw[Ä]at hi;let c:y.zd[i]?=a7 y[y.f-1-i]:=by rw[Qq hi,Ċ]
  let d:nK l (y.o cM).f aw i=a7 (a7<|cM y[y.f-1-i]):=by rw[a3G (aI p g)<|by rw[Ä];show hi,<- OQ,ĉ,c];rfl
  show(cM y[y.f-1-i],[a7<|cM y[y.f-1-i]],d,?r,ą.v ((λz=>nomatch z),λ_=>aY ?r<|fX (MV k _ aw) (b,e6 p (Ô _) _,?_)));rw[iP c,Ć,Ć];rfl
 .rintro _ aw (p|rfl) b;show(a3H<|aI p g,H _ _ p ?_);rw[b,Ä,NK<|by rw[R4];show Ô _]
def M9{c d:Type}{h:c->d}:∀{U:ab c},(U.o h).J->∀x∈U,∀y∈U,h x=h y->x=y
 |[],_,_,a,_,_,_=>nomatch a|u::U,nd,x,a,y,hy,e=>by
  rw[í,ŧ]at nd;rcases ē.Z a with b|a<;>rcases ē.Z hy with ey|hy
  .rw[b,ey]
  .show cb (Ü.v (y,hy,by rw[<- e,b])) nd.1
  .show cb (Ü.v (x,a,by rw[e,ey])) nd.1
  .show M9 nd.2 x a y hy e
def uQ(a:Ed):[a].J:=ŧ.v (Ϣ,.kk)
def a3J k(h:U.f<=600)(g:rm T [a] U R)(e:Dc μ r (dD R))(h1:s.1∈R.o (·.1))(B:s.2.1∈R.o (·.1))(E:s∈dM T s.1)(Q:jz)(H:∀l aw (y:ab St),μ<+:aw->aw[l]?=a7 (.D<|y.o cM)->y.f<=1201->Wy T a y a->Q ⟨.z l,aw⟩):W (f (k+3) "round_by_step" [.z r,cM s] μ) Q:=by
 show Ó (Zt (k+2) _ _ μ)<|cZ<|bD<|bD<|aY ?r<|A6 (k+1) (uQ a) h g e h1 _ λL b o O i w u p G m=>(_,?r,?_);let d:=aS b<|C.D<|[s].o cM;show(uD (aI d w) (bT _ _)<|by rw[Ä,õ];change _+1<=_;lia).v<|eP<|aX<|aY ?r<|A6 (k+1) (uQ a) h g (e.more ?_) B _ λM J I X j x v q c m=>(_,?r,a3I k c x _ λN K n z=>?_)
 .show i.u<|d.u<|aS _ _
 .let A:=aI (j.u n)<|bT (b++[C.D<|[s].o cM])<|C.D<|o.o cM++[s].o cM;rw[ġ.Z u]at p;rw[ġ.Z v]at q;show(uD A z<|by rw[ô,Ä,Ä,Ä,Ä,R4,õ];change _+1+_<=_;lia).v<|H _ _ (o++[s]++I.zd.o jL) ?_ ?_ ?_<|(p.app<|.one E).app q.bk
  .show i.u<|d.u<|(aS _ _).u<|j.u<|n.u<|aS _ _
  .rw[Ć,Ć];show bT _ _
  .rw[ô,ô,Ä,R4];change _+1+_<=_;lia
def Na!(k:am):MS:=aL (dA 7<|bI (f k "round_by_step")<|aB (aC 3)<|aB (aC 6) aD)<|bB (kK<|c7<|bI (f k "is_alike")<|aB (aC 7) aD) (aM<|aC 7) bM
def Nb!(k:am):MT:=kJ (c7<|bI (f k "is_marked")<|aB (aA bE (aC 1)<|aC 4) aD)<|kJ (c7<|bI (f k "is_marked")<|aB (aA bE (aC 1)<|aC 2) aD)<|aP<|aA (aV b4) (bI (f k "is_alike")<|aB (aC 5) aD)<|aA (aV b3) (aA bE (aC 1)<|aC 4)<|aA bE (aC 1)<|aC 2
def Nc!(k:am):MS:=aL (dA 5<|bI (f k "way_by")<|aB (aC 3)<|aB (aC 4) aD)<|aL (bB (Nb k) (aM<|aC 5) bM)<|cV (dR<|fW fD (aC 0)<|aB (aC 4)<|aB (cU aD) aD) (dE 6)<|Na k
def uR!(st mk:am)(s:Ed)(r:am)(a b c d:af D):aE:=[a7<|.z st,a7<|.z mk,a7<|PP s,a7<|.z r,a,b,c,d]
def EL a x y μ:aV a (.jv x) (.jv y) μ=a7 ⟨.bl<|if a then !(x==y)else x==y,μ⟩:=by ext a<;>rfl
def a3K x y μ:aV b4 (.bl x) (.bl y) μ=a7 ⟨.bl<|!(x==y),μ⟩:=?r
def a3L k(K:ů T ms v)(nd:(ms.o (·.1)).J)(d:m∈ms)(e:s∈ms){μ:Hm}(i:μ[mk]?=a7 (.dT<|dC ms))(n:y.f<=3000)(p:Wy T s.1 y m.1)(gl:μ[l]?=a7 (.D<|y.o cM))(H:∀aw,μ<+:aw->Q ⟨b3,aw⟩):W (Nb (k+1) (uR st mk s.1 r (a7<|PP m.1) (a7<|.z l) u w) μ) Q:=by
 let a:∀{z:(ae×ae)×cf},z∈ms->∀{aw},μ<+:aw->bE (.z mk) (PP z.1) aw=a7 ⟨.jv z.2,aw⟩:=λ{z} q {aw} o=>fM<|(J6 (aI o i) (dW z.1)<|M4 nd q).v ?r;let b:=Ę μ;show ĳ.v<|j5<|eP<|aX<|bG ?r ?r (_,a d b,_,?r,fX (ED k m.2 μ) (?r,?_));cases j:jN m.2 with
 |ai=>show(ac þ).v (H _ b)|bt=>
  show(ad ?r).v<|ĳ.v<|j5<|eP<|aX<|bG ?r ?r (_,a e b,_,?r,fX (ED k s.2 μ) (?r,?_));cases c:jN s.2 with
  |ai=>show(ac þ).v (H _ b)|bt=>show(ad ?r).v<|eB<|bD<|aY ?r<|EJ k n gl _ λh g=>bD<|bG ?r ?r (_,a d g,bG ?r ?r (_,a e g,_,EL b3 _ _ _,_,a3K _ _ _,_,?r,?_));rw[K.mar e d c j p];change Q ⟨!((m.2==s.2)==(m.2==s.2)),h⟩;rw[cp];show H _ g
def a3M k(K:ů T ms v)(nd:(ms.o (·.1)).J)(I:ms.f<=600)(A:rm T [s.1] (ms.o (·.1)) R){e:Ed}(q:e∈R.o (·.1))(hs:s∈ms)(S:SD ν κ μ st ay (dM T))(gm:μ[mk]?=a7 (.dT<|dC ms))(X:Dc μ r (dD R))(H:∀L n o h,μ<+:h->Q ⟨.nx,uR st mk s.1 r (a7<|PP e) L n o,h⟩):W (Nc (k+3) (uR st mk s.1 r (a7<|PP e) L n o) μ) Q:=by
 let B:=A;let(rc,rU,cl):=B;let Y:(ms.o (·.1)).f<=600:=by rw[Ä];show I
 let(m,hm,?r):=Ü.Z<|rU e q;show bN<|aY ?r<|A6 (k+2) (uQ _) Y A X q _ λl ic y z p1 g1 hz Z hl f=>?_;rw[ġ.Z hz]at Z;show Ì.v (Ð.v<|a3L (k+2) K nd hm hs (aI p1 gm) (ĥ hl ⋯) Z g1 λb p2=>(ac þ).v<|Î.v ?_);let J:=p1.u p2;let p:=S.more J;let j:∀a c,b<+:c->c[a]?=a7 (.D<|(dM T m.1).o cM)->W (fQ (eM<|.z a) (dE 6) (Na<|k+3) (((dM T m.1).o cM).f+1) 0 (uR st mk s.1 r (a7<|PP m.1) (a7<|.z l) n o) c) Q:=λa c g ga=>by
  show mO (λ_ N h=>c<+:h/\∃n o,N=uR st mk s.1 r (a7<|PP m.1) (a7<|.z l) n o) (Ę _,_,_,?r) (λ_ f f z=>aI z.1 ga) ?_ ?_
  .rintro i d _ M hd (w|n|o|rfl);let(t,ht,?r):=EC hd;let E:=œ ht;let O:=(ŀ.Z E).1;show(_,?r,bN<|aY ?r<|a3J k Y A (X.more<|J.u<|g.u w) (by rw[O];show q) (cl _ q _ E) (by rw[O];show E) _ λa2 μ6 y2 p6 g6 G w6=>?_);show Ð.v<|w8<|j5<|aY ?r<|EJ (k+2) (ĥ G ⋯) g6 _ λμ7 p7=>(br D.bl<|K.cyc w6,(ac þ).v<|Î.v (w.u<|p6.u p7,_,_,?r))
  .rintro _ M (w|n|o|rfl);show H _ _ _ _<|J.u<|g.u w
 show Õ.v<|Ú.v<|A3 (a:=st) ?r p.dic<|aX (_,?r,aX (_,?r,_,?r,?_));let g:=aS b<|C.D [];cases u:bC ay (a9 m.1)with
 |bb d=>
  let(a,?r,_,U):=p.ats _ _ u;let x:fD (.z st) [PP m.1,.z b.f] (b++[C.D []])=a7 ⟨.z a,b++[C.D []]⟩:=by dsimp[fD,aI g p.dic,dW,ĝ,u,Qd]
  show(_,x,(fK<|aI g U).v<|j a _ g<|aI g U)
 |bp=>
  let x:fD (.z st) [PP m.1,.z b.f] (b++[C.D []])=a7 ⟨.z b.f,b++[C.D []]⟩:=by dsimp[fD,aI g p.dic,dW,ĝ,u,NA]
  let gl:(b++[C.D []])[b.f]?=a7 (.D<|(dM T m.1).o cM):=by rw[p.no _ u];show bT _ _
  show(_,x,(fK gl).v<|j _ _ g gl)
def Ϻ{A:MS}(h:W (A a μ) λp=>match p.1 with|.nx=>W (B p.2.1 p.2.2) R|f=>R ⟨f,p.2.1,p.2.2⟩):W (aL A B a μ) R:=Ì.v<|bH h λp q=>by
 let(x,y):=p;ext x<;>show q
def a3N R:fJ (dD R)=(R.o (·.1)).o PP:=by ext fJ dD;rw[æ,æ];rfl
def a3O k(K:ů T ms v)(nd:(ms.o (·.1)).J)(b:ms.f<=600)(J:∀t∈T,t.1∈ms.o (·.1)/\t.2.1∈ms.o (·.1))(M:T.f<=1000)(z:s∈ms)(S:SD X κ μ st ay (dM T))(G:μ[mk]?=a7 (.dT<|dC ms))(Q:jz)(H:∀aw,μ<+:aw->Q ⟨.kf,aw⟩):W (f (k+4) "round_within" [.z st,.z mk,PP s.1] μ) Q:=by
 let L:(ms.o (·.1)).f<=600:=by rw[Ä];show b
 let A:=aS μ<|C.D<|[s.1].o PP;show Ó (Zu (k+3) _ _ _ μ) (bN<|eP<|aX (_,?r,aX<|fX (r:=⟨.z μ.f,μ++[C.D<|[s.1].o PP]⟩) ?r (_,?r,EG (k+2) (M:=[s.1]) (uQ _) L (λe j=>by rw[ġ.Z j];show Ü.v (s,z,?r)) J M (S.more A) (bT _ _) _ λr c R O E y I=>?_)));let U:=A.u O;let B:μ.f<r:=by rw[ô]at E;show E
 show Ϻ<|xD (a:=r) (ay:=dD R) ?r y ?_;let g:=fG (c':=C.dF (dD R)) y;let h:=e6 (c:=C.dF (dD R)) U<|dq B;change W (cV _ _ _ _<|c.xl r<|C.dF<|dD R) _;generalize c.xl r (C.dF<|dD R)=i6 at g h ⊢;let n:gX (aC 3) [a7<|.z st,a7<|.z mk,a7<|PP s.1,a7<|.z r,b0,b0,b0,b0] i6=a7 ⟨eM<|.L<|fJ<|dD R,(dD R).f+1,i6⟩:=by change(gX (λ_ μ=>a7 ⟨D.z r,μ⟩) [] i6)=_;dsimp[gX,ě,g]
 show Õ.v (_,n,?_);rw[show(dD R).f=(fJ<|dD R).f by ext fJ;rw[Ä]];show JT (x:=.L (fJ<|dD R)) (xs:=fJ (dD R)) (b:=Nc (k+3)) (λ_=>rfl) (λ_ x aw=>i6<+:aw/\∃o p q u,x=uR st mk s.1 r o p q u) (Ę _,_,_,_,_,?r) ?_ ?_
 .rintro i d _ w hd (a|o|p|q|u|rfl);rw[a3N]at hd;let(e,j,?r):=o8 hd;show(_,?r,a3M k K nd b I (œ j) z (S.more<|h.u a) (aI (h.u a) G) (.X<|aI a g) λ_ l l aw N=>(a.u N,_,_,_,_,?r))
 .rintro _ w (a|o|p|q|u|rfl);show(aI a g,cZ (_,?r,H _<|e6 (h.u a) (dq B) _))
def Nd{d k:Type}{h:d->k}{U V:ab d}(nd:V.J)(c:∀e∈V,e∈U)(g:(U.o h).J):(V.o h).J:=Qb.v<|b7e (λ{a b} i j ne e=>ne<|M9 g a (c a i) b (c b j) e) nd
def A8!(e:Ed):ae:=Tb.hashT<|a9 e
def a3P:(((iQ 6 6).H pJ).o A8).J:=by decide +de
def a3Q(hw:w<=6)(i:h<=6){es:ab Ed}(nd:es.J)(d:∀e∈es,A1 w h e):(es.o A8).J:=Nd nd (λe g=>by
 let(h1,a):=Ĥ.Z<|d e g;let(b,c):=Ϲ.Z h1;show Ĥ.v (Ϲ.v ((b.1,()),c.1,()),a)) a3P
def a3R{ay ge:jx}{Q:jz}(c:μ[a]?=a7 (.dT ay))(d:μ[b]?=a7 (.dT ge))(hz:ay.f+ge.f<=Ò)(nd:(ge.o λp=>Tb.hashT p.1).J)(ne:a≠b)(H:Q ⟨.kf,μ.xl a<|.dT<|tY ay ge⟩):W (rX (.z a) [.z b] μ) Q:=by show(_,?_,H);dsimp[rX,c,d];rw[ad (hz,nd,ne)]
def Nf:∀ge ay,(tY ay ge).f<=ay.f+ge.f
 |[],ay=>Ô _|p::ge,ay=>by let h1:=Nf ge<|cK ay p.1 p.2;let a:=MJ ay p.1 p.2;change(tY (cK ay p.1 p.2) ge).f<=_;rw[ĩ];lia
def Ng!(k:am):MS:=bB (aP<|aA (dB b4) (aC 4)<|aC 3) (aL (dA 5<|bI (f k "round_within")<|aB (aC 1)<|aB (aC 2)<|aB (aC 4) aD)<|aL (bB (aP<|aA (iJ b4) (aC 5)<|mC .kf) (aM<|aC 5) bM)<|dP<|fW rX (aC 3)<|aB (bI (f k "last_steps")<|aB (aC 1)<|aB (cU<|aB (aC 4) aD) aD) aD) bM
def a3S k(K:ů T ms v)(nd:(ms.o (·.1)).J)(i:ms.f<=600)(L:((ms.o (·.1)).o A8).J)(w:∀t∈T,t.1∈ms.o (·.1)/\t.2.1∈ms.o (·.1))(x:T.f<=1000)(y:s∈ms){a:jx}(S:SD Y κ μ st ay (dM T))(B:μ[mk]?=a7 (.dT<|dC ms))(g:μ[sn]?=a7 (.dT a))(Z:a.f<=1000000)(H:∀c q d,Kp sn μ d->d[sn]?=a7 (.dT c)->c.f<=a.f+600->Q ⟨.nx,[u,a7<|.z st,a7<|.z mk,a7<|.z sn,a7<|PP s.1,q],d⟩):
  W (Ng (k+4) [u,a7<|.z st,a7<|.z mk,a7<|.z sn,a7<|PP s.1,q] μ) Q:=by
 let I:(ms.o (·.1)).f<=600:=by rw[Ä];show i
 show Ð.v<|eB<|bG ?r ?r<|(wX g<|dW s.1).v (_,?r,?_);cases hv:(bC a<|a9 s.1).qh with
 |bt=>show(ac þ).v (Î.v<|H a _ μ (λ_ f f h=>h) g ())|ai=>
  show(ad ?r).v<|bN<|aY ?r<|a3O k K nd i w x y S B _ λb j=>uG<|eB<|bG ?r ?r<|ę.v (_,?r,?r,mQ<|ï.v<|A3 (a:=sn) ?r (aI j g)<|aX<|eP<|aX (_,?r,aX<|fX (r:=⟨.z b.f,b++[C.D<|[s.1].o PP]⟩) ?r (_,?r,?_)));let z:=aS b<|C.D<|[s.1].o PP;show EG (k+3) (M:=[s.1]) (uQ _) I (λe J=>by rw[ġ.Z J];show Ü.v (s,y,?r)) w x (S.more<|j.u z) (bT _ _) _ λr X R N U E G=>?_;let(O,rU,cl):=G;let A:=O.nd<|uQ _;let o:=NM A rU;rw[Ä]at o;let n:=j.u<|z.u N;let ls:sn<b.f:=Ŏ (ã.Z g).1 j.ke;let M:(dD R).f=R.f:=Ä ..;rw[ô]at U;show(_,?r,a3R (aI n g) E (by rw[M,õ];lia) ?_ ()<|H _ _ _ ((Kp.pre n).u .xl) (fG<|aI n g) ?_)
  .let e:((dD R).o λp=>Tb.hashT p.1)=(R.o (·.1)).o A8:=by ext dD;rw[æ,æ];rfl
   rw[e];show Nd A rU L
  .have:=Nf (dD R) a;lia
def a3T k(hw:1<=w/\w<=6)(G:1<=h/\h<=6)(K:ů (TT ms w h) ms v)(hS:ie ms)(hI:∀m∈ms,A1 w h m.1)(hb:(eK w h).find? (iR<|bO ms)=b0)(hn:oR (kF (bO ms) w h))(μ:Hm)(Q:jz)(H:∀aw,μ<+:aw->Q ⟨.kf,aw⟩):W (f (k+10) "round_of" [SH w h ms] μ) Q:=by
 let hT:=EB hw G ms;let(I,nd,ok):=hS;let hs:=a3Q hw.2 G.2 nd (λe g=>by let(m,o,?r):=Ü.Z g;show hI m o);show Ó (Zv (k+9) _ μ)<|bN<|aY ?r<|MW k hw G hb hn _ _ λκ c st ay S=>bN<|aY ?r<|fX (M3 (k+8) nd c)<|bN<|û.v ?_;let U:=aS c<|C.dT<|dC ms;let s:=bT c<|C.dT<|dC ms;let A:=S.more U;generalize hμ2:c++[C.dT<|dC ms]=i6 at U s A ⊢;generalize c.f=mk at s ⊢;let X:=aS i6<|C.dT [];let gn:=bT i6<|C.dT [];let lk:mk<i6.f:=(ã.Z s).1;show Ϻ (Õ.v<|Ú.v<|bD<|aY ?r<|MX (k+7) () _ _ λa n L g4=>?_);let E:=aI (X.u L) s;let ml:(iE ms).f<=600:=by have:=ſ (λm:(ae×ae)×cf=>jN m.2) ms;ext iE;rw[Ä];lia
 show aY ?r<|(DC E).v<|(uD (aI (aS _ _) g4) (bT _ _) ?_).v ?_
 .ext dC;rw[Ä,Ä,Ä,õ];lia
 let ek:(dC ms).o (λk=>D.L<|k.1.o D.p)=(ms.o (·.1)).o PP:=by ext dC;rw[æ,æ];rfl
 rw[ek,<- Ć];let M:=(aS n<|C.D<|(ms.o (·.1)).o PP).u<|aS _<|C.D<|(iE ms++ms.o (·.1)).o PP;let p:=bT (n++[C.D<|(ms.o (·.1)).o PP])<|C.D<|(iE ms++ms.o (·.1)).o PP;generalize(n++[C.D<|(ms.o (·.1)).o PP]).f=b at p ⊢;generalize(n++[C.D<|(ms.o (·.1)).o PP])++[C.D<|(iE ms++ms.o (·.1)).o PP]=μ5 at M p ⊢;let u:=aI (L.u M) gn;let bn:b≠i6.f:=λz=>by rw[z,u]at p;ext p
 let Z:i6<+:μ5:=X.u<|L.u M;let ln:(iE ms++ms.o (·.1)).f<=1200:=by rw[ô,Ä];lia
 let mm:∀e∈iE ms++ms.o (·.1),∃m∈ms,m.1=e:=λe g=>by
  rcases Ĺ.Z g with g|g
  .let(m,o,_,B):=Ĵ.Z g;show(m,o,B)
  .let(m,o,B):=Ü.Z g;show(m,o,B)
 show(fK p).v<|mO (b:=Ng (k+9)) (λi R aw=>∃j N O,Kp i6.f μ5 aw/\aw[i6.f]?=a7 (.dT j)/\j.f<=600*i/\R=[a7<|SH w h ms,a7<|.z st,a7<|.z mk,a7<|.z i6.f,N,O]) ([],_,_,λ_ a a h=>h,u,Ô _,?r) (by rintro _ _ _ (_|_|_|q|_);show q _ _ bn p) ?_ ?_
 .rintro i d _ y hd (j|N|O|q|T|hk|rfl);let(e,g,?r):=o8 hd;let hi:=(ã.Z g).1;let(m,o,?r):=mm e<|œ g;let Y:i6<+:y:=q.all Z<|Ô _;show(_,?r,a3S (k+5) K nd I hs (λt ht=>(MU ht).1) hT o (A.more Y) (aI Y s) T () λx a aw J g' hk'=>(x,_,_,q.u J,g',(),?r))
 .rintro _ y (j|N|O|q|T|hk|rfl);show cZ (_,?r,H _<|A.pre.u<|q.all Z<|Ô _)
def Sd!(e x y:ae×ae):Prop:=(x=sA e/\y=sB e)\/(x=sB e/\y=sA e)
def Sd.sy(h:Sd e x y):Sd e y x:=h.R.imp uf uf
def Sd.l(h:Sd e x y):x=sA e\/x=sB e:=h.imp And.left And.left
def Sd.r(h:Sd e x y):y=sA e\/y=sB e:=h.sy.l
def Sd.of(h:Sd e x y)(k:q=sA e\/q=sB e):q=x\/q=y:=by
 rcases h with(rfl|rfl)|(rfl|rfl)
 .show k
 .show k.R
def a3U(nd:qs.J)(P:Ň qs g G)s:(b8 G s).Pairwise λx y=>aQ G x<aQ G y:=by
 by_cases b:s∈G.o (·.1)
 .let(x,a,?r):=Ü.Z b;rw[kX P.kd a,NG];intro i j hi c d;rw[xJ nd P a<|Ċ hi,xJ nd P a<|Ċ c];lia
 .rw[sD b];show .kk
def EM(c:⟨w,h⟩∈i8)(a:e∈cY w h)(b:q=sA e\/q=sB e):q∈eE w h:=by
 let(_,d,g,_):=(kZ _ c).2.2.2.2.2.2.2 e a;rcases b with rfl|rfl
 .show d
 .show g
def a3V(i:⟨w,h⟩∈i8)(wf:Wf w h F)(d:e∈cY w h)(a:e'∈cY w h)(ne:e≠e')(sp:cS F e=cS F e')(g:q=sA e\/q=sB e)(b:q=sA e'\/q=sB e'):ef:=by
 let k:∀{x:ae×ae},x∈cY w h->(q=sA x\/q=sB x)->aF (F q) x=cS F x:=λ{x} c h1=>by
  rcases h1 with rfl|rfl
  .rfl
  .show Er ((kZ _ i).2.2.2.2.2.2.2 x c).1<|wf.ed x c
 show xN (wf.di q) ne<|by rw[k d g,k a b,sp]
section
variable{w h:Int}{F:Int×Int->Ly}{G:Gr}
def a3W(nd:(eE w h).J)(P:Ň (eE w h) (λq=>aF (F q) q) G){L:jq}(j:L.Pairwise λx y=>aQ G x<aQ G y)(k:∀q,q∈L↔(q∈eE w h/\aF (F q) q=s)/\(eQ e c q).qh=b4):wd e c (b8 G s)=L.vv (eQ e c):=by
 let h1:wd e c (b8 G s)=((b8 G s).H λq=>(eQ e c q).qh).vv (eQ e c):=by ext wd;rw[ab.filterMap_filter];show br (λg=>ab.vv g<|b8 G s)<|m4 λq=>by cases eQ e c q<;>rfl
 let i:=(a3U nd P s).sublist<|fj (p:=λq=>(eQ e c q).qh);let d:∀{l:jq},(l.Pairwise λx y=>aQ G x<aQ G y)->l.J:=λz=>z.imp λ{a b} h e=>by rw[e]at h;lia
 rw[h1];show br _ (ab.Perm.eq_of_pairwise (λa b f f h1 n=>()) i j<|(Te (d i)<|d j).v λq=>?_);rw[Ĥ,k,(P.pm s).mem_iff,Ĥ,cx]
inductive Ϥ (w h:ae)(F:ae×ae->Ly)(G:Gr):Prop
 |mk (hs:⟨w,h⟩∈i8)(wf:Wf w h F)(nd:(eE w h).J)(P:Ň (eE w h) (λq=>aF (F q) q) G)(nc:NC w h F G)
def Sq!(e q:ae×ae):Prop:=q=sA e\/q=sB e
inductive b3F (w h:ae)(F:ae×ae->Ly)(G:Gr)(e e':ae×ae):Prop
 |mk (lt:∀{z:ae×ae},Sq e z->eQ e e' z=a7 b4)(lf:∀{z},Sq e' z->eQ e e' z=a7 b3)(q1:∀{z},Sq e z->z∈eE w h)(q2:∀{z},Sq e' z->z∈eE w h)
  (al:∀{s t:ae×ae}{L0 L1:jq},Sd (cS F e) s t->(L0.Pairwise λx y=>aQ G x<aQ G y)->(L1.Pairwise λx y=>aQ G x<aQ G y)->(∀q,q∈L0↔(Sq e q\/Sq e' q)/\aF (F q) q=s)->(∀q,q∈L1↔(Sq e q\/Sq e' q)/\aF (F q) q=t)->fH (L0.vv (eQ e e')++(L1.vv<|eQ e e').zd)=b3)
variable(E:Ϥ w h F G){e e' q r x y q' r':Int×Int}
include E
def Ϥ.tw(g:e∈cY w h)(d:e'∈cY w h)(ne:e≠e')(sp:cS F e=cS F e'):b3F w h F G e e':=by
 let(i,wf,nd,P,H):=E;let v:∀{z},Sq e z->¬ Sq e' z:=λa b=>a3V i wf g d ne sp a b;let lt:∀{z},Sq e z->eQ e e' z=a7 bt:=λa=>by ext eQ;show ad a
 let j:∀{z},Sq e' z->eQ e e' z=a7 ai:=λa=>by ext eQ;show(ac λb=>v b a).u<|ad a
 let k:∀{z},Sq e z->z∈eE w h:=λa=>EM i g a;let n:∀{z},Sq e' z->z∈eE w h:=λa=>EM i d a;show(lt,j,k,n,λ{s t K M} o I J A B=>?_);let u:∀{s:ae×ae}{L:jq},(L.Pairwise λx y=>aQ G x<aQ G y)->(∀q,q∈L↔(Sq e q\/Sq e' q)/\aF (F q) q=s)->wd e e' (b8 G s)=L.vv (eQ e e'):=λ{s L} p m=>a3W nd P p λq=>by
  rw[m];constructor
  .rintro(a|b);rcases a with a|a
   .show((k a,b),by rw[lt a];rfl)
   .show((n a,b),by rw[j a];rfl)
  .rintro((_|b)|a);cases z:eQ e e' q with
   |bp=>rw[z]at a;ext a|bb c=>
    ext c
    .show(.X<|Mn z,b)
    .show(.Q<|Mm z,b)
 rw[<- u I A,<- u J B];have:=H e g e' d sp;rcases o with(rfl|rfl)|(rfl|rfl)
 .show ah
 .rw[Mp]at ah;show ah
def Ϥ.rk(a:q∈eE w h)(b:r∈eE w h)(e:aF (F q) q=aF (F r) r)(n:q≠r):aQ G q≠aQ G r:=by let(_,_,nd,P,_):=E;show Ma nd P a b n e
def Ϥ.two(a:e∈cY w h)(s:Sd e q r)(f:F q=F r):aF (F q) q≠aF (F r) r/\Sd (cS F e) (aF (F q) q) (aF (F r) r):=by
 let(b,wf,_,_,_):=E;let c:=((kZ _ b).2.2.2.2.2.2.2 e a).1;let n:q≠r:=by
  rcases s with(rfl|rfl)|(rfl|rfl)
  .show pI c
  .show ì<|pI c
 let ne:aF (F q) q≠aF (F r) r:=by rw[f];show xN (wf.di r) n
 show(ne,?_);rcases uN b wf a s.l with h1|h1<;>rcases uN b wf a s.r with h2|h2
 .show cb (h1.u h2.R) ne
 .show .Q (h1,h2)
 .show .X (h1,h2)
 .show cb (h1.u h2.R) ne
def Ϥ.nb(u:e∈cY w h)(d:e'∈cY w h)(ne:e≠e')(sp:cS F e=cS F e')(o:Sd (cS F e) (aF (F q) q) t)(s:Sd e q r)(j:aF (F r) r=t)(b:Sd e' x y)(n:aF (F x) x=aF (F q) q)(py:aF (F y) y=aF (F q) q)(c:aF (F q) q≠t):¬ (aQ G x<aQ G q/\aQ G q<aQ G y):=λ(A,v)=>by
 let(lt,i,_,_,p):=E.tw u d ne sp;let a:=p (L0:=[x,q,y]) (L1:=[r]) o (Qh.v (λz g=>by dsimp[ē,Ϣ,gg]at g;rcases g with rfl|rfl<;>lia,Qj.v v)) (Qu _ _) (λz=>?_) λz=>?_
 .dsimp[bh,TC,lt s.l,lt s.r,i b.l,i b.r]at a;ext a
 .dsimp[ē,Ϣ,gg];constructor
  .rintro⟨rfl|rfl|rfl⟩
   .show(.X b.l,n)
   .show(.Q s.l,?r)
   .show(.X b.r,py)
  .rintro⟨h|h,k⟩
   .rcases s.of h with rfl|rfl
    .show .X<|.Q ?r
    .show cb (k.R.u j) c
   .rcases b.of h with rfl|rfl
    .show .Q ?r
    .show .X<|.X ?r
 .rw[ġ];constructor
  .rintro rfl;show(.Q s.r,j)
  .rintro⟨h|h,k⟩
   .rcases s.of h with rfl|rfl
    .show cb k c
    .rfl
   .rcases b.of h with rfl|rfl
    .show cb (n.R.u k) c
    .show cb (py.R.u k) c
def Ϥ.so(p:e∈cY w h)(d:e'∈cY w h)(ne:e≠e')(sp:cS F e=cS F e')(o:Sd (cS F e) (aF (F q) q) (aF (F r) r))(s:Sd e q r)(b:Sd e' q' r')(j:aF (F q') q'=aF (F q) q)(i:aF (F r') r'=aF (F r) r)(c:aF (F q) q≠aF (F r) r)(l:aQ G q<aQ G q'):aQ G r<aQ G r':=ae.not_le.Z λB=>by
 let(lt,g,v,A,n):=E.tw p d ne sp;let u:aQ G r'<aQ G r:=by
  have:=E.rk (v s.r) (A b.r) i.R λz=>by let h:=lt s.r;rw[z,g b.r]at h;ext h
  lia
 let a:=n (L0:=[q,q']) (L1:=[r',r]) o (Qj.v l) (Qj.v u) (λz=>?_) λz=>?_
 .dsimp[bh,TC,lt s.l,lt s.r,g b.l,g b.r]at a;ext a
 .dsimp[ē,Ϣ,gg];constructor
  .rintro⟨rfl|rfl⟩
   .show(.Q s.l,?r)
   .show(.X b.l,j)
  .rintro⟨h|h,k⟩
   .show .Q<|(s.of h).resolve_right λz=>c<|by rw[z]at k;show k.R
   .show .X<|(b.of h).resolve_right λz=>c<|by rw[z,i]at k;show k.R
 .dsimp[ē,Ϣ,gg];constructor
  .rintro⟨rfl|rfl⟩
   .show(.X b.r,i)
   .show(.Q s.r,?r)
  .rintro⟨h|h,k⟩
   .show .X<|(s.of h).kb λz=>c<|by rw[z]at k;show k
   .show .Q<|(b.of h).kb λz=>c<|by rw[z,j]at k;show k
def Ϥ.nbF(b:e∈cY w h)(a:e'∈cY w h)(ne:e≠e')(sp:cS F e=cS F e')(s:Sd e q r)(f:F q=F r)(g:Sd e' x y)(d:aF (F x) x=aF (F q) q)(py:aF (F y) y=aF (F q) q):¬ (aQ G x<aQ G q/\aQ G q<aQ G y):=by let(c,o):=E.two b s f;show E.nb b a ne sp o s ?r g d py c
def Ϥ.soF(b:e∈cY w h)(a:e'∈cY w h)(ne:e≠e')(sp:cS F e=cS F e')(s:Sd e q r)(f:F q=F r)(i:Sd e' q' r')(j:F q'=F r')(d:aF (F q) q=aF (F q') q'):aF (F r) r=aF (F r') r'/\(aQ G q<aQ G q'->aQ G r<aQ G r'):=by
 let(c,o):=E.two b s f;let(_,k):=E.two a i j;let g:aF (F r) r=aF (F r') r':=by rw[sp]at o;show(k.of o.r).kb λz=>c<|d.u z.R
 show(g,E.so b a ne sp o s i d.R g.R c)
omit E in
omit E in
omit E in
omit E in
end
structure Ĳ(w h:ae)(n:am)(A B:am->ae×ae):Prop where
 n8:n=8\/n=4
 r:∀j,A j∈cY w h
 sd:∀j,Sd (A<|j+1) (B j) (B<|j+1)
 mi:∀i j,c9 (A i) (A j)=A (2*j+(n-1)*i)
 pA:∀i j,i%n=j%n->A i=A j
 pB:∀i j,i%n=j%n->B i=B j
 iA:∀i j,A i=A j->i%n=j%n
 iB:∀i j,B i=B j->i%n=j%n
def cX!(l:jq)(j:am):ae×ae:=l.I (j%l.f) ⟨0,0⟩
def cA!(c:ae×ae):jq:=mv c.1 c.2<|gZ c.1
def jO!(c:ae×ae):jq:=mv c.1 c.2<|a1I c.1
def Nh!(e x y:ae×ae):av:=(x==sA e&&y==sB e)||(x==sB e&&y==sA e)
def Ni!(rs:jq)(c:ae×ae):av:=
 ((cA c).f==8||(cA c).f==4)&&(jO c).f==(cA c).f&&ag (cA c).J&&ag (jO c).J&&(Ĉ (cA c).f).all λj=>rs.zo (cX (cA c) j)&&Nh (cX (cA c)<|j+1) (cX (jO c) j) (cX (jO c)<|j+1)&&(Ĉ (cA c).f).all λi=>c9 (cX (cA c) i) (cX (cA c) j)==cX (cA c) (2*j+((cA c).f-1)*i)
def a3X:∀w∈[(1:ae),2,3],∀h∈[(1:ae),2,3],((eK w h).all<|Ni<|cY w h)=bt:=by decide +de
def Nj(nd:l.J)(h0:0<l.f)(e:cX l i=cX l j):i%l.f=j%l.f:=by let hi:=Ϗ i h0;let a:=Ϗ j h0;unfold cX at e;rw[ϴ,ϴ,Ċ hi,Ċ a]at e;show(Px nd).Z e
def nZ l(e:i%l.f=j%l.f):cX l i=cX l j:=by ext cX;rw[e]
def Nk(hw:1<=w/\w<=3)(g:1<=h/\h<=3)(hc:c∈eK w h):Ĳ w h (cA c).f (cX<|cA c) (cX<|jO c):=by
 let k:=ϐ.Z (a3X w (gY hw) h<|gY g) c hc;unfold Ni at k;unfold Nh at k;dsimp[â,qw,bg,e4,ϐ,ŏ]at k;obtain((((d|a)|n)|nb)|k):=k;let b:0<(cA c).f:=()
 let sm:∀j,j%(cA c).f<(cA c).f:=λj=>Ϗ j b;show(d,λj=>?_,λj=>?_,λi j=>?_,λi j e=>nZ _ e,λi j e=>nZ _<|by rw[a];show e,λi j e=>Nj n b e,λi j e=>?_)
 .rw[nZ _ (uv j _).R];show ϡ.Z (k _<|sm j).1.1
 .have:=(k _<|sm j).1.2;rw[nZ (cA c) (i:=j+1) (j:=j%(cA c).f+1)<|by rw[Rn],nZ (jO c) (i:=j) (j:=j%(cA c).f)<|by rw[a,uv],nZ (jO c) (i:=j+1) (j:=j%(cA c).f+1)<|by rw[a,Rn]];show ah
 .have:=(k _<|sm j).2 _<|sm i;rw[nZ _ (uv j _).R,nZ _ (uv i _).R,ah];show nZ _ ?_;rcases d with e|e<;>rw[e]<;>lia
 .have:=Nj nb (by rw[a];show b) e;rwa [a]at ah
section
variable{w h:Int}{F:Int×Int->Ly}{G:Gr}
def xP!(w h:ae)(F:ae×ae->Ly)(m:ae×ae->av):Prop:=∀e∈cY w h,m e=!ag (F (sA e)=F (sB e))
def hV!(F:ae×ae->Ly)(G:Gr)(x y:ae×ae):av:=ag (aQ G y<aQ G x)==ag (eC (F x)<0)
variable(E:Ϥ w h F G){n:Nat}{A B:Nat->Int×Int}(R:Ĳ w h n A B){m:Int×Int->Bool}(hm:xP w h F m)
omit E hm in
def Ĳ.sq(R:Ĳ w h n A B)(z:i=j+1):Sd (A i) (B j) (B i):=by subst z;show R.sd j
include E R hm
def Ĳ.un(k:m (A i)=b3)(z:i=j+1):F (B j)=F (B i):=by
 subst z;have:=hm _<|R.r<|j+1;rw[k]at ah;let e:F (sA<|A<|j+1)=F (sB<|A<|j+1):=by apply ah.R
 rcases R.sd j with(a|b)|(a|b)<;>rw[a,b]
 .show e
 .show e.R
def Ĳ.cr(k:m (A<|j+1)=b4):F (B j)=c8 (fN<|A<|j+1) (F<|B<|j+1)/\F (B<|j+1)=c8 (fN<|A<|j+1) (F<|B j):=by
 have:=hm _<|R.r<|j+1;rw[k]at ah;let e:¬ F (sA<|A<|j+1)=F (sB<|A<|j+1):=by apply ah.R
 let(g,wf,_,_,_):=E;let c:=(wf.ed _<|R.r<|j+1).kb e;let d:F (sB<|A<|j+1)=c8 (fN<|A<|j+1) (F<|sA<|A<|j+1):=by rw[c,<- Ax];show DL λp=>?_;rw[j6,j6,kW,kW,Z9]
 rcases R.sd j with(a|b)|(a|b)<;>rw[a,b]
 .show(c,d)
 .show(d,c)
def Ĳ.pl(k:m (A i)=b4)(z:i=j+1):aF (F<|B j) (B j)=aF (F<|B i) (B i):=by
 subst z;let e:=(R.cr E hm k).1;let(c,wf,_,_,_):=E;let(d,g):=AW ((kZ _ c).2.2.2.2.2.2.2 _<|R.r<|j+1).1;rw[e,j6,kW];rcases R.sd j with(a|b)|(a|b)<;>rw[a,b]
 .rw[d]
 .rw[g]
omit hm in
def Ĳ.sp0{a i:am}(s:a=i\/a=i+1):aF (F<|B i) (A a)=cS F (A a):=by
 let(d,wf,_,_,_):=E;let two:∀{e q:ae×ae},e∈cY w h->(q=sA e\/q=sB e)->aF (F q) e=cS F e:=λ{e q} b c=>by
  rcases c with rfl|rfl
  .rfl
  .show Er ((kZ _ d).2.2.2.2.2.2.2 _ b).1<|wf.ed _ b
 rcases s with rfl|rfl
 .have:=(R.sd<|a+(n-1)).r;let e:(a+(n-1)+1)%n=a%n:=by rcases R.n8 with e|e<;>rw[e]<;>lia
  rw[R.pA _ _ e,R.pB _ _ e]at ah;show two (R.r a) ah
 .show two (R.r _) (R.sd i).l
def Ĳ.sp(c:m (A<|k+1)=b4)(g:a=i\/a=i+1)(o:b=j\/b=j+1)(d:F (B i)=F (B k))(e:F (B<|k+1)=F (B j))(q:(2*(k+1)+(n-1)*a)%n=b%n):cS F (A a)=cS F (A b):=by rw[<- R.sp0 E g,<- R.sp0 E o,d,(R.cr E hm c).1,j6,kW,R.mi,R.pA _ _ q,e]
omit hm in
def Ĳ.bq(j:am):B j∈eE w h:=by let(a,_,_,_,_):=E;show EM a (R.r<|j+1) (R.sd j).l
omit hm in
def Ĳ.ne{i j:am}(e:aF (F<|B i) (B i)=aF (F<|B j) (B j))(q:i%n≠j%n):aQ G (B i)≠aQ G (B j):=E.rk (R.bq E i) (R.bq E j) e λz=>q<|R.iB _ _ z
def Ĳ.dt(k:m (A i)=b4)(z:i=j+1):ag (eC (F<|B i)<0)=!ag (eC (F<|B j)<0):=by subst z;let e:=(R.cr E hm k).2;let(_,wf,_,_,_):=E;rw[e,Aw,DI];rcases AV (wf.di<|B j)with(a|_)|(a|_)<;>rw[a]<;>rfl
def Ĳ.hi(k:m (A<|j+1)=b4):hV F G (B j) (B<|j+1)=hV F G (B<|j+1) (B j):=by
 let d:=R.dt E hm k ?r;let ne:=R.ne E (R.pl E hm k ?r) (by rcases R.n8 with e|e<;>rw[e]<;>lia);ext hV;rw[d];have:ag (aQ G (B j)<aQ G (B<|j+1))=!ag (aQ G (B<|j+1)<aQ G (B j)):=by
  by_cases z:aQ G (B<|j+1)<aQ G (B j)
  .rw[cc z,ba ()];rfl
  .rw[ba z,cc ()];rfl
 rw[ah];cases ag (aQ G (B<|j+1)<aQ G (B j))<;>cases ag (eC (F<|B j)<0)<;>rfl
def Ĳ.mrk(k:m (A<|j+1)=b4):eF F (aQ G) (A<|j+1)=if hV F G (B j) (B<|j+1)=b4 then("v":cf)else("h":cf):=by
 let e:=R.hi E hm k;ext eF;rcases R.sd j with(a|b)|(a|b)
 .rw[a,b];rfl
 .rw[e,a,b];rfl
end
section
variable{w h:Int}{F:Int×Int->Ly}{G:Gr}(E:Ϥ w h F G){A B:Nat->Int×Int}{m:Int×Int->Bool}(hm:xP w h F m)
include E hm
def Ĳ.un8(R:Ĳ w h 8 A B)(v:m (A<|j+1)=b3)(o:m (A<|j+2)=b4)(u:m (A<|j+3)=b4)(x:m (A<|j+4)=b3):hV F G (B<|j+1) (B<|j+2)=!hV F G (B<|j+2) (B<|j+3):=by let p:=R.un E hm v ?r;let s:=R.un E hm x ?r;let c:=R.pl E hm o ?r;let g:=R.pl E hm u ?r;let i:=R.sp E hm (a:=j+1) (b:=j+3) (i:=j+1) (j:=j+2) o (.Q ?r) (.X ?r) ?r ?r ();let k:=R.sp E hm (a:=j+2) (b:=j+4) (i:=j+2) (j:=j+3) u (.Q ?r) (.X ?r) ?r ?r ();let n:∀{a b:am},a%8≠b%8->A a≠A b:=λq z=>q<|R.iA _ _ z;let J:=E.nbF (R.r _) (R.r _) (n ()) i (R.sq (i:=j+1) ?r).sy p.R (R.sq (i:=j+3) ?r) c.R<|g.R.u c.R;let K:=E.nbF (R.r _) (R.r _) (n ()) i (R.sq (i:=j+1) ?r).sy p.R (R.sq (i:=j+3) ?r).sy (g.R.u c.R) c.R;let L:=E.nbF (R.r _) (R.r _) (n ()) k.R (R.sq (i:=j+4) ?r) s (R.sq (i:=j+2) ?r) (c.u g) g;let M:=E.nbF (R.r _) (R.r _) (n ()) k.R (R.sq (i:=j+4) ?r) s (R.sq (i:=j+2) ?r).sy g<|c.u g;let y:=R.ne E c ();let H:=R.ne E g ();let I:=R.ne E (c.u g) ();let e:ag (aQ G (B<|j+2)<aQ G (B<|j+1))=ag (aQ G (B<|j+3)<aQ G (B<|j+2)):=fx.v ();let d:=R.dt E hm o ?r;ext hV;rw[e,d];cases ag (aQ G (B<|j+3)<aQ G (B<|j+2))<;>cases ag (eC (F<|B<|j+1)<0)<;>rfl
def Ĳ.al8(R:Ĳ w h 8 A B)(N:m (A<|j+1)=b4)(Y:m (A<|j+2)=b3)(H:m (A<|j+3)=b4)(I:m (A<|j+4)=b4)(Z:m (A<|j+5)=b3)(O:m (A<|j+6)=b4)(m7:m (A<|j+7)=b3)(m8:m (A<|j+8)=b3):hV F G (B j) (B<|j+1)=hV F G (B<|j+5) (B<|j+6):=by
 let U:A (j+9)=A (j+1):=R.pA _ _ ();let T:B (j+8)=B j:=R.pB _ _ ();let K:B (j+9)=B (j+1):=R.pB _ _ ();let Q:m (A<|j+9)=bt:=by rw[U];show N
 let x:=R.un E hm Y ?r;let y:=R.un E hm Z ?r;let p:=R.un E hm m7 ?r;let s:=R.un E hm m8 ?r;let p3:=R.pl E hm H ?r;let p4:=R.pl E hm I ?r;let J:=R.pl E hm O ?r;let u:=R.pl E hm Q ?r;let i:∀{a b:am},a%8≠b%8->A a≠A b:=λq z=>q<|R.iA _ _ z;let n:=R.sp E hm (a:=j+2) (b:=j+4) (i:=j+2) (j:=j+3) H (.Q ?r) (.X ?r) ?r ?r ();let g:=R.sp E hm (a:=j+8) (b:=j+2) (i:=j+8) (j:=j+1) Q (.Q ?r) (.X ?r) ?r (br F K) ();let o:=R.sp E hm (a:=j+3) (b:=j+5) (i:=j+3) (j:=j+4) I (.Q ?r) (.X ?r) ?r ?r ();let d:=R.sp E hm (a:=j+5) (b:=j+7) (i:=j+5) (j:=j+6) O (.Q ?r) (.X ?r) ?r ?r ();rw[K]at u;let(v,o1):=E.soF (R.r _) (R.r _) (i ()) g (R.sq (i:=j+8) ?r).sy s.R (R.sq (i:=j+2) ?r) x u;let(_,o2):=E.soF (R.r _) (R.r _) (i ()) g.R (R.sq (i:=j+2) ?r) x (R.sq (i:=j+8) ?r).sy s.R u.R;let(_,o3):=E.soF (R.r _) (R.r _) (i ()) d (R.sq (i:=j+5) ?r).sy y.R (R.sq (i:=j+7) ?r) p J;let(_,o4):=E.soF (R.r _) (R.r _) (i ()) d.R (R.sq (i:=j+7) ?r) p (R.sq (i:=j+5) ?r).sy y.R J.R;let c:=v.u p3;let k:=c.u p4;let x1:=E.nbF (R.r _) (R.r _) (i ()) (g.u n) (R.sq (i:=j+8) ?r) s (R.sq (i:=j+4) ?r) c.R k.R;let x2:=E.nbF (R.r _) (R.r _) (i ()) (g.u n) (R.sq (i:=j+8) ?r) s (R.sq (i:=j+4) ?r).sy k.R c.R;let x3:=E.nbF (R.r _) (R.r _) (i ()) (o.u d).R (R.sq (i:=j+7) ?r).sy p.R (R.sq (i:=j+3) ?r) v.R c.R;let x4:=E.nbF (R.r _) (R.r _) (i ()) (o.u d).R (R.sq (i:=j+7) ?r).sy p.R (R.sq (i:=j+3) ?r).sy c.R v.R;let n2:=R.ne E v ();let n3:=R.ne E c ();let n4:=R.ne E k ();let n1:=R.ne E u ();let n6:=R.ne E J ();let e:ag (aQ G (B<|j+1)<aQ G (B j))=!ag (aQ G (B<|j+6)<aQ G (B<|j+5)):=by rw[<- T,<- ol];show fx.v ()
 let X:=R.dt E hm N ?r;let L:=R.dt E hm H ?r;let M:=R.dt E hm I ?r;rw[<- x]at L;rw[y]at M;ext hV;rw[e,M,L,X];cases ag (aQ G (B<|j+6)<aQ G (B<|j+5))<;>cases ag (eC (F<|B j)<0)<;>rfl
def Ĳ.tw8(R:Ĳ w h 8 A B)(H:m (A<|j+1)=b4)(L:m (A<|j+2)=b3)(M:m (A<|j+3)=b3)(N:m (A<|j+4)=b3)(p:m (A<|j+5)=b4)(O:m (A<|j+6)=b3)(Q:m (A<|j+7)=b3)(T:m (A<|j+8)=b3):hV F G (B j) (B<|j+1)=hV F G (B<|j+4) (B<|j+5):=by
 let K:B (j+8)=B j:=R.pB _ _ ();let s:=R.un E hm L ?r;let n:=R.un E hm M ?r;let d:=R.un E hm N ?r;let o:=R.un E hm O ?r;let u:=R.un E hm Q ?r;let y:=R.un E hm T ?r;let p1:=R.pl E hm H ?r;let v:=R.pl E hm p ?r;let c:∀{a b:am},a%8≠b%8->A a≠A b:=λq z=>q<|R.iA _ _ z;let k:=R.sp E hm (a:=j+4) (b:=j+6) (i:=j+4) (j:=j+5) p (.Q ?r) (.X ?r) ?r ?r ();let i:=R.sp E hm (a:=j+3) (b:=j+7) (i:=j+3) (j:=j+6) p (.Q ?r) (.X ?r) d o ();let g:=R.sp E hm (a:=j+2) (b:=j+8) (i:=j+2) (j:=j+7) p (.Q ?r) (.X ?r) (n.u d) (o.u u) ();let(J,o1):=E.soF (R.r _) (R.r _) (c ()) k (R.sq (i:=j+4) ?r).sy d.R (R.sq (i:=j+6) ?r) o v;let(I,o2):=E.soF (R.r _) (R.r _) (c ()) i (R.sq (i:=j+3) ?r).sy n.R (R.sq (i:=j+7) ?r) u J;let(q1,o3):=E.soF (R.r _) (R.r _) (c ()) g (R.sq (i:=j+2) ?r).sy s.R (R.sq (i:=j+8) ?r) y I;let(_,X):=E.soF (R.r _) (R.r _) (c ()) k.R (R.sq (i:=j+6) ?r) o (R.sq (i:=j+4) ?r).sy d.R v.R;let(_,Y):=E.soF (R.r _) (R.r _) (c ()) i.R (R.sq (i:=j+7) ?r) u (R.sq (i:=j+3) ?r).sy n.R J.R;let(_,Z):=E.soF (R.r _) (R.r _) (c ()) g.R (R.sq (i:=j+8) ?r) y (R.sq (i:=j+2) ?r).sy s.R I.R;let U:=R.ne E v ();let e:ag (aQ G (B<|j+1)<aQ G (B j))=!ag (aQ G (B<|j+5)<aQ G (B<|j+4)):=by rw[<- K,<- ol];show fx.v ()
 let x:=R.dt E hm H ?r;rw[s,n,d]at x;ext hV;rw[e,x];cases ag (aQ G (B<|j+5)<aQ G (B<|j+4))<;>cases ag (eC (F<|B j)<0)<;>rfl
def Ĳ.tw4(R:Ĳ w h 4 A B)(s:m (A<|j+1)=b4)(u:m (A<|j+2)=b3)(n:m (A<|j+3)=b4)(v:m (A<|j+4)=b3):hV F G (B j) (B<|j+1)=hV F G (B<|j+2) (B<|j+3):=by
 let p:B (j+4)=B j:=R.pB _ _ ();let d:=R.un E hm u ?r;let k:=R.un E hm v ?r;let g:=R.pl E hm n ?r;let o:∀{a b:am},a%4≠b%4->A a≠A b:=λq z=>q<|R.iA _ _ z;let c:=R.sp E hm (a:=j+2) (b:=j+4) (i:=j+2) (j:=j+3) n (.Q ?r) (.X ?r) ?r ?r ();let(y,o1):=E.soF (R.r _) (R.r _) (o ()) c (R.sq (i:=j+2) ?r).sy d.R (R.sq (i:=j+4) ?r) k g;let(_,o2):=E.soF (R.r _) (R.r _) (o ()) c.R (R.sq (i:=j+4) ?r) k (R.sq (i:=j+2) ?r).sy d.R g.R;let x:=R.ne E g ();let e:ag (aQ G (B<|j+1)<aQ G (B j))=!ag (aQ G (B<|j+3)<aQ G (B<|j+2)):=by rw[<- p,<- ol];show fx.v ()
 let i:=R.dt E hm s ?r;rw[d]at i;ext hV;rw[e,i];cases ag (aQ G (B<|j+3)<aQ G (B<|j+2))<;>cases ag (eC (F<|B j)<0)<;>rfl
end
def A9!(a:ab ae):am:=if a.f=2 then 1 else((Ĉ a.f).o λi=>if nV a i then(if a.f=4 then 2 else 1)else 0).sum
def a3Y:∀a b c d e g h i,j9 (iD [a,b,c,d,e,g,h,i])=b4->2*A9 (iD [a,b,c,d,e,g,h,i])<=(iD [a,b,c,d,e,g,h,i]).f:=by decide +de
def a3Z:∀a b c d,j9 (iD [a,b,c,d])=b4->2*A9 (iD [a,b,c,d])<=(iD [a,b,c,d]).f:=by decide +de
def a4a m p:(jK m p).f=A9 (i7 m p):=by
 let e:=AS m p;ext jK A9;rw[e];by_cases h:(dY m p).f=2
 .rw[ad h,ad h];rfl
 .rw[ac h,ac h,ab.length_flatMap];congr 1;show Φ λi x=>?_;ext kE qR;cases nV (i7 m p) i with
  |ai=>rfl|bt=>
   by_cases a:(dY m p).f=4
   .rw[ad ?r,ad a,ad ?r,ad a];rfl
   .rw[ad ?r,ac a,ad ?r,ac a];rfl
def a4b(h:iR m p=b3):2*(jK m p).f<=(dY m p).f:=by
 let e:=AS m p;rw[a4a,<- e];replace h:j9 (i7 m p)=bt:=by
  unfold iR at h;cases z:j9 (i7 m p)with
  |bt=>rfl|ai=>rw[z]at h;ext h
 revert h;unfold i7 gZ mv;lk
 .show a3Y _ _ _ _ _ _ _ _
 .show a3Z _ _ _ _
def gP!(bs:ab av):ab am:=(Ĉ bs.f).H λi=>bs.I i b3
def xQ!(bs:ab av)(j:am)(s:ab av):av:=(Ĉ s.f).all λi=>bs.I ((j+1+i)%bs.f) b3==s.I i b3
def gI!(m:am->av)(n:am):am->am->am
 |0,i=>i|j+1,i=>gI m n j<|if m (j+1)then(2*(j+1)+(n-1)*i)%n else i
def EO!(bs:ab av):av:=(Ĉ 2).all λi=>gI (λk=>bs.I (k%bs.f) b3) bs.f bs.f i%bs.f==i
def ER!(bs:ab av):av:=
 if(gP bs).f=2 then(Ĉ 8).any λj=>xQ bs j [b4,b3,b3,b3,b4,b3,b3,b3]&&((gP bs).I 0 0==(j+1)%8&&(gP bs).I 1 0==(j+5)%8)
 else(Ĉ (gP bs).f).all λi=>!nV (iD bs) i ||
  (((Ĉ 8).any λj=>xQ bs j [b3,b4,b4,b3]&&((gP bs).I i 0==(j+2)%8&&(gP bs).I ((i+1)%(gP bs).f) 0==(j+3)%8)) &&
   (ag (¬ (gP bs).f=4)||(Ĉ 8).any λj=>xQ bs j [b4,b3,b4,b4,b3,b4,b3,b3]&&((gP bs).I ((i+2)%4) 0==(j+6)%8&&(gP bs).I ((i+3)%4) 0==(j+1)%8)))
def ES!(bs:ab av):av:=
 if(gP bs).f=2 then(Ĉ 4).any λj=>xQ bs j [b4,b3,b4,b3]&&((gP bs).I 0 0==(j+1)%4&&(gP bs).I 1 0==(j+3)%4)
 else(Ĉ (gP bs).f).all λi=>!nV (iD bs) i
def a4c:∀a b c d e g h i,(!EO [a,b,c,d,e,g,h,i]||(j9 (iD [a,b,c,d,e,g,h,i])&&ER [a,b,c,d,e,g,h,i]))=bt:=by decide +de
def a4d:∀a b c d,(!EO [a,b,c,d]||(j9 (iD [a,b,c,d])&&ES [a,b,c,d]))=bt:=by decide +de
def a4e{bs:ab av}(h:bs.f=8):∃a b c d e g k i,bs=[a,b,c,d,e,g,k,i]:=by
 match bs,h with
 |[a,b,c,d,e,g,k,i],_=>show(_,_,_,_,_,_,_,_,?r)
def a4f{bs:ab av}(h:bs.f=4):∃a b c d,bs=[a,b,c,d]:=by
 match bs,h with
 |[a,b,c,d],_=>show(_,_,_,_,?r)
def Nl m l:l.H m=(gP<|l.o m).o (cX l):=by
 let e:l=(Ĉ l.f).o (cX l):=by show Pu (by rw[Ä,ql]) λi h1 b=>?_;rw[ab.getElem_map,ab.getElem_range];ext cX;rw[N8 h1,ϴ,Ċ h1];rfl
 let a:l.H m=((Ĉ l.f).H<|m∘cX l).o (cX l):=by rw[<- jf,<- e]
 rw[a];ext gP;rw[Ä];congr 1;show QY λi hi=>?_;let hi:=ŏ.Z hi;change m (cX l i)=_;ext cX;rw[N8 hi,ϴ,ϴ,ĉ,Ċ hi];rfl
def ET(h:x=y):y=(x==b4):=by rw[h];ext y<;>rfl
def a4g:∀w∈[(1:ae),2,3],∀h∈[(1:ae),2,3],(eK w h).f<=13:=by decide +de
def Nm b:iF (if b=b4 then("v":cf)else("h":cf))=if b then 1 else 0:=by ext b<;>decide +de
section
variable{w h:Int}{F:Int×Int->Ly}{G:Gr}(E:Ϥ w h F G){m:Int×Int->Bool}(hm:xP w h F m)
include E hm
def Ĳ.walk(R:Ĳ w h n A B):∀j i,aF (F<|B j) (A i)=aF (F<|B 0) (A<|gI (λk=>m<|A k) n j i)
 |0,_=>?r|j+1,i=>by
  ext gI;cases k:m (A<|j+1)with
  |bt=>rw[(R.cr E hm k).2,j6,kW,R.mi,ad ?r,R.pA (2*(j+1)+(n-1)*i) _ (uv _ _).R];show Ĳ.walk R j _|ai=>rw[<- R.un E hm k ?r,ac þ,Ĳ.walk R j]
def Ĳ.lead(R:Ĳ w h n A B)i:gI (λk=>m<|A k) n n i%n=i%n:=by let e:=R.walk E hm n i;let(_,wf,_,_,_):=E;rw[R.pB n 0<|by rw[am.mod_self,am.zero_mod]]at e;show(R.iA _ _<|b2x λz=>xN (wf.di<|B 0) z e).R
variable{c:Int×Int}(hw:1<=w/\w<=3)(hh:1<=h/\h<=3)(hc:c∈eK w h)
include hw hh hc
def EU:j9 (i7 m c)=b4/\(((cA c).f=8/\ER ((cA c).o m)=b4)\/((cA c).f=4/\ES ((cA c).o m)=b4)):=by
 let R:=Nk hw hh hc;let n:EO ((cA c).o m)=bt:=ϐ.v λi hi=>by
  let hi:=ŏ.Z hi;let e:(λk=>((cA c).o m).I (k%((cA c).o m).f) b3)=λk=>m (cX (cA c) k):=m4 λk=>by have:k%(cA c).f<(cA c).f:=Ϗ _ (by rcases R.n8 with e|e<;>lia);rw[Ä];ext cX;rw[ϴ,ϴ,ĉ,Ċ ah];rfl
  rw[e,Ä,R.lead E hm i,bg,N8<|by rcases R.n8 with e|e<;>lia]
 change j9 (iD<|(cA c).o m)=b4/\_;rcases R.n8 with e|e
 .let(b,d,g,j,o,p,q,s,a):=a4e (bs:=(cA c).o m) (by rw[Ä,e]);let t:=a4c b d g j o p q s;rw[<- a,n,ϭ,N1,â]at t;show(t.1,.Q (e,t.2))
 .let(b,d,g,j,a):=a4f (bs:=(cA c).o m) (by rw[Ä,e]);let t:=a4d b d g j;rw[<- a,n,ϭ,N1,â]at t;show(t.1,.X (e,t.2))
def Nn!(F:ae×ae->Ly)(G:Gr)(t:Ti):Prop:=∃p q a c,t=nU p q a c/\(iF (eF F (aQ G) p)+iF (eF F (aQ G) q)+sN a)%2=0
omit E hm hw hh hc in
def a4h{i:am}(hi:i<(dY m c).f):(dY m c).I i ⟨0,0⟩=cX (cA c) ((gP<|(cA c).o m).I i 0):=by let e:dY m c=(gP<|(cA c).o m).o (cX<|cA c):=Nl m<|cA c;rw[e]at hi ⊢;rw[Ä]at hi;rw[ϴ,ϴ,ĉ,Ċ hi];rfl
def a4i(o:t∈jK m c):Nn F G t:=by
 let R:=Nk hw hh hc;let(_,k):=EU E hm hw hh hc;let I:i7 m c=iD ((cA c).o m):=?r;let v:(dY m c).f=(gP<|(cA c).o m).f:=by let e:dY m c=(gP<|(cA c).o m).o (cX<|cA c):=Nl m<|cA c;rw[e,Ä]
 let g:∀{j i:am}{s:ab av},xQ ((cA c).o m) j s=b4->i<s.f->m (cX (cA c)<|j+1+i)=s.I i ai:=λ{j i s} h hi=>by have:=bg.Z<|ϐ.Z h i<|ŏ.v hi;rw[<- ah];let N:(j+1+i)%(cA c).f<(cA c).f:=Ϗ _ (by rcases R.n8 with e|e<;>lia);rw[Ä];ext cX;rw[ϴ,ϴ,ĉ,Ċ N];rfl
 let dr:∀{i j:am}{p q:ae×ae}{a b:av},p=cX (cA c) (i+1)->q=cX (cA c) (j+1)->m (cX (cA c)<|i+1)=b4->m (cX (cA c)<|j+1)=b4->hV F G (cX (jO c) i) (cX (jO c)<|i+1)=b->hV F G (cX (jO c) j) (cX (jO c)<|j+1)=(b==a)->Nn F G (nU p q a c):=λ{i j p q a b} K eq L M h1 u=>by show(p,q,a,c,?r,?_);rw[K,eq,R.mrk E hm L,R.mrk E hm M,Nm,Nm,h1,u];ext a<;>ext b<;>rfl
 let kD:∀{i j n:am},(cA c).f=n->i<(dY m c).f->(gP<|(cA c).o m).I i 0=j%n->(dY m c).I i ⟨0,0⟩=cX (cA c) j:=λ{i j n} e hi h=>by rw[a4h hi,h,<- e];show nZ _<|uv _ _
 rcases k with(e|k)|(e|k)
 .let H:Ĳ w h 8 (cX<|cA c) (cX<|jO c):=e▸R;unfold ER at k;unfold jK at o;by_cases u:(dY m c).f=2
  .rw[ad u,ġ]at o;rw[ad<|v▸u]at k;let(j,_,k):=qj.Z k;dsimp[â,bg]at k;let(d,y,x):=k;rw[o];show dr (i:=j) (j:=j+4) (kD e () y) (kD e () x) (g d (i:=0) ⋯) (g d (i:=4) ⋯) ?r<|ET<|H.tw8 E hm (j:=j) (g d (i:=0) ⋯) (g d (i:=1) ⋯) (g d (i:=2) ⋯) (g d (i:=3) ⋯) (g d (i:=4) ⋯) (g d (i:=5) ⋯) (g d (i:=6) ⋯)<|g d (i:=7) ⋯
  .rw[ac u]at o;rw[ac λz=>u<|v.u z]at k;let(i,hi,o):=ji.Z o;let hi:=ŏ.Z hi;let k:=ϐ.Z k i<|ŏ.v<|v▸hi;unfold kE at o;rw[I]at o;cases A:nV (iD<|(cA c).o m) i with
   |ai=>rw[A]at o;ext o|bt=>
    rw[A,ϭ,N1,â]at k;rw[A,ad ?r]at o;let(k,l):=k;rcases ē.Z o with o|o
    .let(j,_,k):=qj.Z k;dsimp[â,bg]at k;let(d,y,x):=k;rw[<- v]at x;rw[o];show dr (i:=j+1) (j:=j+2) (kD e hi y) (kD e (Ϗ _ ()) x) (g d (i:=1) ⋯) (g d (i:=2) ⋯) (H.un8 E hm (j:=j) (g d (i:=0) ⋯) (g d (i:=1) ⋯) (g d (i:=2) ⋯)<|g d (i:=3) ⋯)<|by cases hV F G (cX (jO c)<|j+2) (cX (jO c)<|j+2+1)<;>rfl
    .by_cases B:(dY m c).f=4
     .rw[ad B,ġ]at o;rw[ba λz=>z<|v▸B,N1]at l;let(j,_,k):=qj.Z l;dsimp[â,bg]at k;let(d,y,x):=k;rw[o];show dr (i:=j+5) (j:=j) (kD e (by rw[B];show Ϗ _ ⋯) y) (kD e (by rw[B];show Ϗ _ ⋯) x) (g d (i:=5) ⋯) (g d (i:=0) ⋯) ?r<|ET (H.al8 E hm (j:=j) (g d (i:=0) ⋯) (g d (i:=1) ⋯) (g d (i:=2) ⋯) (g d (i:=3) ⋯) (g d (i:=4) ⋯) (g d (i:=5) ⋯) (g d (i:=6) ⋯)<|g d (i:=7) ⋯).R
     .rw[ac B]at o;ext o
 .let J:Ĳ w h 4 (cX<|cA c) (cX<|jO c):=e▸R;unfold ES at k;unfold jK at o;by_cases u:(dY m c).f=2
  .rw[ad u,ġ]at o;rw[ad<|v▸u]at k;let(j,_,k):=qj.Z k;dsimp[â,bg]at k;let(d,y,x):=k;rw[o];show dr (i:=j) (j:=j+2) (kD e () y) (kD e () x) (g d (i:=0) ⋯) (g d (i:=2) ⋯) ?r<|ET<|J.tw4 E hm (j:=j) (g d (i:=0) ⋯) (g d (i:=1) ⋯) (g d (i:=2) ⋯)<|g d (i:=3) ⋯
  .rw[ac u]at o;rw[ac λz=>u<|v.u z]at k;let(i,hi,o):=ji.Z o;let k:=ϐ.Z k i<|ŏ.v<|v▸ŏ.Z hi;unfold kE at o;rw[I]at o;cases A:nV (iD<|(cA c).o m) i with
   |ai=>rw[A]at o;ext o|bt=>rw[A]at k;ext k
end
section
variable{w h:Int}{F:Int×Int->Ly}{G:Gr}(E:Ϥ w h F G)(hw:1<=w/\w<=3)(hh:1<=h/\h<=3){ms:List ((Int×Int)×Str)}(hm:xP w h F (bO ms))
include E hw hh hm
def a4j:(eK w h).find? (iR<|bO ms)=bp:=fc.v λc hc=>by ext iR;rw[(EU E hm hw hh hc).1];show þ
def a4k:(kF (bO ms) w h).f<64:=by
 let l:∀a:jq,(∀c∈a,c∈eK w h)->(a.flatMap<|jK<|bO ms).f<=4*a.f:=λa=>by
  induction a with
  |fk=>show λ_=>Ô _|bm c a e=>intro hc;let h1:=e λx d=>hc x<|.tail _ d;let g:=a4b (m:=bO ms) (p:=c) (by ext iR;rw[(EU E hm hw hh<|hc c<|.head _).1];rfl);let i:=AU (bO ms) c;rw[QZ,ô,ĩ];lia
 let b:(eK w h).f<=13:=a4g w (gY hw) h<|gY hh;have:=l _ λ_ h=>h;ext kF;lia
def a4l:EH (TT ms w h) λe=>iF (eF F (aQ G) e):=λs i=>by
 let(t,d,?r):=Ü.Z i;let(c,hc,d):=ji.Z<|tJ d;let(p,q,a,k,?r,b):=a4i E hm hw hh hc d;change(iF (eF F (aQ G)<|gE p q)+iF (eF F (aQ G)<|gG p q)+sN a)%2=0;ext gE gG;cases g:HT.xw (dX q) (dX p)with
 |bt=>rw[MP g,ad ?r,ac þ,RK<|iF _];show b|ai=>
  rw[ac þ];cases j:HT.xw (dX p) (dX q)with
  |bt=>rw[ad ?r];show b|ai=>rw[ac þ];cases MQ j g;show b
end
def a4m k{qs:jq}(nd:qs.J)(O:qs.f<=100)(z:∀q,Ġ (F q))(g:n7.Perm qs){S:ab ((ae×ae)×cf)}(R:S.f<=100)(A:∀p∈S,Ug qs F p.1)(B:μ[a]?=a7 (.dT<|bU (λq=>LD<|F q) n7))(I:HI μ b Z)(E:μ[b]?=a7 (.dT<|bA Z))(P:Ň qs (λq=>aF (F q) q) (GZ Z))(Q:jz)(H:∀c e,μ<+:e->μ.f<=c->e[c]?=a7 (.D<|(S.o λp=>⟨p.1,eF F (aQ<|GZ Z) p.1⟩).o MD)->Q ⟨.z c,e⟩):W (f (k+5) "marks_by" [SH w h S,.z a,.z b] μ) Q:=by
 rw[ZH,å,Ì];dsimp[ò,Ë,Å,cT,bK,cB];show a2v (k+3) nd () I E P _ λc L j x=>?_;dsimp[Ũ,ŭ,Ö];let n:=P.flat nd;show Dz (xs:=S.o MD) (x:=λd=>[a7<|AY d,a7<|L9 d]) (p:=λ_=>b4) (v:=λd=>MD ⟨fL<|AY d,eF F (aQ<|GZ Z)<|fL<|AY d⟩) ?_;dsimp[SH,Ú,Û,bK,cB,eI,ε];show ϵ.v (Ak,?r,by rw[Ä,õ];lia,λd e hd=>?_,λd e hd i=>ą.v (?r,Ę _),λd e hd l i=>?_,λM J y=>?_)
 .let(m,_,?r):=Ü.Z hd;rfl
 .let(m,G,?r):=Ü.Z hd;dsimp[Ź,Ζ,ç,Ë,Å,cT,bK,cB,AY,L9];let(o,s,u,v):=A m G;show a2G k z (g.nodup_iff.v nd) (n.nodup_iff.v nd) (aI i x) (aI (j.u i) B) o (g.mem_iff.v s,g.mem_iff.v u) (n.mem_iff.v s,n.mem_iff.v u) v (Ma nd P s u (pI o)<|EdF.pos o v) _ λN K=>?_;show(iN,?r,K)
 .show H _ _ (j.u J) j.ke ?_;rw[y,N5.v λ_ l=>rfl,æ,æ];rfl
def a4n:∀p∈i8,cY p.1 p.2≠[]:=by decide +de
def a4o(c:⟨w,h⟩∈i8)(wf:Wf w h F)(b:e∈k5 w h F):Ug (eE w h) F e:=by let(h1,a):=Ĥ.Z b;let(i,d,g,_):=(kZ _ c).2.2.2.2.2.2.2 e h1;show(i,d,g,(wf.ed e h1).kb λz=>?_);rw[z]at a;simp at a
def a4p!(k:am):MS:=(aL (dA 5<|bI (f k "sides_of")<|aB (aC 4) aD)<|bB (aP<|aA (aV b4) (aA bE (aC 2)<|aA bE (aC 5)<|mC<|.p 0)<|aA bE (aC 2)<|aA bE (aC 5)<|mC<|.p 1) (dP<|eH fT (aC 3)<|aB (aC 4) aD) bM)
def a4q{μ:Hm}k(G:⟨w,h⟩∈i8)(n:n7.Perm (eE w h))(nd:(eE w h).J)(X:μ[a]?=a7 (.dT<|bU (λq=>LD<|F q) n7))(Q:jz)(H:∀c aw,μ<+:aw->aw[c]?=a7 (.D<|(k5 w h F).o PP)->Q ⟨.z c,aw⟩):W (f (k+3) "creased_edges" [.p w,.p h,.z a] μ) Q:=by
 let(_,_,_,_,_,I,_,U):=kZ _ G;replace I:(cY w h).f<=64:=I;show Ó (ZL (k+2) _ _ _ μ)<|bN<|ā.v (_,?r,Ŝ _,iO<|Õ.v<|Ú.v<|aY ?r<|a2J k G _ _ λl ic J A=>(fK A).v ?_);let Y:μ.f≠l:=λz=>by have:=aI J<|bT μ<|C.D [];rw[z,A]at ah;injection ah with ah;injection ah with ah;show a4n _ G<|Oa.Z ah
 show mO (b:=a4p (k+2)) (λi g aw=>∃x y,g=[a7<|.p w,a7<|.p h,a7<|.z a,a7<|.z μ.f,x,y]/\μ<+:aw/\aw[μ.f]?=a7 (.D<|(((cY w h).ze i).H λe=>!ag (F (sA e)=F (sB e))).o PP)/\aw[l]?=a7 (.D<|(cY w h).o PP)) (b0,b0,?r,(aS _ _).u J,aI J<|bT _ _,A) (by rintro _ _ _ (_|_|_|_|_|h);show h) ?_ ?_
 .rintro i d g K hd (x|y|rfl|o|p|L);let(e,E,?r):=o8 hd;let(Z,O,R,_):=U e<|œ E;let(s,t,T,_,v):=Ep Z;let b:(s∈n7/\t∈n7)/\(!ag (F s=F t))=!ag (F (sA e)=F (sB e)):=by
   rcases v with(rfl|rfl)|(rfl|rfl)
   .show((n.mem_iff.v O,n.mem_iff.v R),?r)
   .show((n.mem_iff.v R,n.mem_iff.v O),by rw[fx.v eq_comm])
  show(_,?r,bN<|aY ?r<|L4 k e _ _ λc μ3 j B=>?_);rw[show(k6 e).H cR=[s,t]from T]at B;let M:=aI (o.u j) X;let u:=aI j p;let N:=n.nodup_iff.v nd;let lt:(((cY w h).ze i).H λe=>!ag (F (sA e)=F (sB e))).f<=64:=ĥ (ſ _ _)<|ĥ (Sw _ _) I;show Ð.v<|eB<|bD<|bD (_,?r,bG ?r ?r<|(iY B<|show lv ([s,t].o PP) 0=a7 (PP s)from ?r).v<|(uH (.Q M) (dW _)<|sF N b.1.1).v<|bD (_,?r,bG ?r ?r<|(iY B<|show lv ([s,t].o PP) 1=a7 (PP t)from ?r).v<|(uH (.Q M) (dW _)<|sF N b.1.2).v<|lu.v (_,?r,?_)));rw[b.2];cases hc:!ag (F (sA e)=F (sB e))with
  |ai=>show pH ?r<|Î.v (_,_,?r,o.u j,?_,aI j L);rw[iP E,ϣ,J5<|by rw[hc];show þ,jg,Ĭ];show u|bt=>show xH ?r (ï.v<|jZ (_,?r,j0 u,_,?r,(oZ u<|by rw[Ä,õ];lia).v (_,_,?r,e6 (o.u j) (Ô _) _,?_,(ć Y).u<|aI j L)));rw[fG u,iP E,ϣ,bu (p:=λe=>!ag (F (sA e)=F (sB e))) hc,jg,Ć];rfl
 .rintro g K (x|y|rfl|o|p|_);rw[Ä,ź]at p;show(?r,cZ (_,?r,H _ _ o p))
def a4r k(n:⟨w,h⟩∈i8)(wf:Wf w h F)(nd:(eE w h).J)(i1:μ[o]?=a7 (.ins "Folding"<|sG w h b))(i2:μ[b]?=a7 (.D<|xs++[.L [.z l,.z p]]))(d:Dr (eE w h) μ l p F n7 Z)(Q:jz)(H:∀aw,μ<+:aw->Q ⟨SH w h<|(k5 w h F).o λe=>⟨e,eF F (aQ<|GZ Z) e⟩,aw⟩):W (f (k+6) "Folding.sheet" [.z o] μ) Q:=by
 let(_,_,y,_,_,s,_,R):=kZ _ n;replace y:(eE w h).f<=48:=y;replace s:(cY w h).f<=64:=s;let T:(k5 w h F).f<=64:=ĥ (ſ _ _) s;let i:∀{aw:Hm}{r:aE},μ<+:aw->hX "Folding" "wide" (aC 0) (a7 (.z o)::r) aw=a7 ⟨.p w,aw⟩/\hX "Folding" "high" (aC 0) (a7 (.z o)::r) aw=a7 ⟨.p h,aw⟩:=λq=>(Mc<|AM (_,?r,o,_,_,?r,aI q i1,?r,?r),Mc<|AM (_,?r,o,_,_,?r,aI q i1,?r,?r));show Ó (Z0 (k+5) _ μ)<|bN<|Ls i1 i2 _<|bN<|Au ?_;show jH (xs:=(k5 w h F).o PP) (p:=λ_=>b4) (v:=λd=>MD ⟨fL d,"o"⟩)<|Ú.v<|eP<|aX (_,(i<|Ę _).1,aX (_,(i<|Ę _).2,aX<|bG ?r ?r<|Ă.v (_,?r,a4q (k+2) n d.hr nd d.hw _ λc L I u=>(fK u).v (nQ u,?r,by rw[Ä,õ];lia,λd aw hd B=>ą.v (?r,Ę _),λz aw G z B=>?_,λM J A=>(DA A).v ?_))))
 .let(e,x,?r):=Ü.Z G;show ç.v (_,?r,iN,?r,Ę _)
 .let a:=I.u J;let j:=d.more a;rw[N5.v λ_ z=>rfl,æ,show(zc ((λd=>MD ⟨fL d,("o":cf)⟩)∘PP)<|k5 w h F)=((k5 w h F).o λe=>⟨e,("o":cf)⟩).o MD by rw[æ];rfl];show bN (eP<|aX<|ç.v<|aX (_,(i a).1,aX (_,(i a).2,_,?r,by change(3:am)<=Ò;decide,aX<|bG ?r ?r<|Ă.v<|aX<|bG ?r ?r<|ċ.v (_,?r,?_))));show a4m (k+0) (w:=w) (h:=h) (S:=(k5 w h F).o λe=>⟨e,("o":cf)⟩) nd () wf.di d.hr (by rw[Ä];lia) (λq E=>?_) j.hw j.hi j.hh j.pl _ λO N K z v=>?_
  .let(e,x,?r):=Ü.Z E;show a4o n wf x
  .let g:=a.u K;rw[æ (f:=λe=>⟨e,("o":cf)⟩)]at v;show cZ<|ç.v<|aX (_,(i g).1,aX (_,(i g).2,aX<|aY ?r<|(DA v).v (_,?r,by change(3:am)<=Ò;decide,H _ g)))
def a4s{b:MS}(I:am->aE->Hm->Prop)(h0:I 0 a μ)(go:∀i d a μ,xs[i]?=a7 d->I i a μ->∃c,g (.L [.p i,d]) a μ=a7 c/\W (b c μ) λp=>match p.1 with|.nx=>I (i+1) p.2.1 p.2.2|.ct=>I (i+1) p.2.1 p.2.2|.bk=>Q ⟨.nx,p.2.1,p.2.2⟩|.rt d=>Q ⟨.rt d,p.2.1,p.2.2⟩)(j:∀a μ,I xs.f a μ->Q ⟨.nx,a,μ⟩):W (fQ (mG<|.L xs) g b (xs.f+1) 0 a μ) Q:=by
 let e:∀μ i,mG (.L xs) μ i=a7 ((xs[i]?).o λd=>.L [.p i,d]):=λ_ x=>rfl;show nP (N:=xs.f) I (λi a μ hi k=>?_) (λa μ k=>(?_,j a μ k)) xs.f 0 a μ () h0
 .let h:xs[i]?=a7 xs[i]:=Ċ hi;let(c,h1,n):=go i xs[i] a μ h k;show(_,c,by rw[e,h];rfl,h1,n)
 .rw[e,ju<|Ô _];rfl
def a4t{b:MS}(q:xs.f=N)(v:j.f=N)(w:k.f=N)(I:am->aE->Hm->Prop)(h0:I 0 c μ)(E:∀i c μ,I i c μ->μ[a]?=a7 (.D xs))(go:∀i x y z c μ,xs[i]?=a7 x->j[i]?=a7 y->k[i]?=a7 z->I i c μ->∃h,g (.L [x,y,z]) c μ=a7 h/\W (b h μ) λp=>match p.1 with|.nx=>I (i+1) p.2.1 p.2.2|.ct=>I (i+1) p.2.1 p.2.2|.bk=>Q ⟨.nx,p.2.1,p.2.2⟩|.rt d=>Q ⟨.rt d,p.2.1,p.2.2⟩)(o:∀c μ,I N c μ->Q ⟨.nx,c,μ⟩):W (fQ (tZ (.z a) (.L j)<|.L k) g b (mx xs.f (mx j.f k.f)+1) 0 c μ) Q:=by
 rw[q,v,w,PH,PH];let e:∀i c μ,I i c μ->tZ (.z a) (.L j) (.L k) μ i=a7 ((xs[i]?).U λd=>(j[i]?).U λe=>(k[i]?).o λf=>.L [d,e,f]):=λi c μ n=>by ext tZ;rw[show bW μ (.z a)=a7 xs by ext bW;dsimp;rw[E i c μ n]];rfl
 show nP (N:=N) I (λi c μ hi n=>?_) (λc μ n=>(?_,o c μ n)) N 0 c μ () h0
 .let h1:xs[i]?=a7 (xs[i]'(q▸hi)):=Ċ _;let s:j[i]?=a7 (j[i]'(v▸hi)):=Ċ _;let u:k[i]?=a7 (k[i]'(w▸hi)):=Ċ _;let(h,A,B):=go i _ _ _ c μ h1 s u n;show(_,h,by rw[e i c μ n,h1,s,u];rfl,A,B)
 .rw[e N c μ n,ju<|qi q];rfl
inductive ϓ (ns:ab ae)(sh:D)(kp:ae)(l0:am)(ν:Hm)(T:ab ((ae×ae)×cf))(i:am):aE->Hm->Prop
 |mk {n:ae}{x5 x6 x7:af D}{μ:Hm}{S:ab ((ae×ae)×cf)}(p:ν<+:μ)(g:μ[l0]?=a7 (.D<|S.o MD))(e:S.o (·.1)=(T.ze i).o (·.1))(ok:∀m∈S,m.2="o"\/m∈T):ϓ ns sh kp l0 ν T i [a7 sh,a7<|.rol<|ns.o D.p,a7<|.z l0,a7<|.p kp,a7<|.p n,x5,x6,x7] μ
def Np{T:ab ((ae×ae)×cf)}{i:am}(h:(T.o MD)[i]?=a7 d):∃m,T[i]?=a7 m/\d=MD m:=by rw[ĉ]at h;let(m,a,?r):=Ľ.Z h;show(m,a,?r)
open _root_ in
def a4u k(ns:ab ae)(lT:T.f<=64)(μ:Hm)(Q:jz)(H:∀(S:ab ((ae×ae)×cf))aw,μ<+:aw->S.o (·.1)=T.o (·.1)->(∀m∈S,m.2="o"\/m∈T)->Q ⟨SH w h S,aw⟩):W (f (k+2) "_law_opened" [SH w h T,.rol<|ns.o D.p] μ) Q:=by
 show Ó (ZW (k+1) _ _ μ)<|bN<|ā.v (_,?r,Ŝ _,bN<|bD<|aY ?r<|o7 k ns 14 ⋯ _ _ λZ N=>(_,?r,(fF ?_).v<|bN<|aY ?r<|o7 k ns 61 ⋯ _ _ λi6 O=>iO<|Õ.v<|YG (_,?r,T.o MD,?r,?_)))
 .change 0<if((T.o MD).f:ae)>1 then((T.o MD).f:ae)else 1
  lk<;>lia
 generalize jI ns 14%_=kp;let E:=(aS μ<|C.D []).u<|N.u O;show a4s (ϓ ns (SH w h T) kp μ.f μ T) (.mk (S:=[]) E (aI (N.u O)<|bT _ _) ?r λ_ z=>nomatch z) ?_ ?_
 .rintro i d J c hd (G|B|g|ok);rename_i n x5 x6 I S;let(m,L,?r):=Np hd;let hl:S.f<=64:=by have:=br ģ g;rw[Ä,Ä,ţ]at ah;lia
  let app:∀{s:cf}{e:Hm}{M:ae}{I:af D},(s="o"\/⟨m.1,s⟩∈T)->c<+:e->W (fT (.z μ.f) [.L [PP m.1,.jv s]] e) λp=>ϓ ns (SH w h T) kp μ.f μ T (i+1) [a7<|SH w h T,a7<|.rol<|ns.o D.p,a7<|.z μ.f,a7<|.p kp,a7<|.p M,a7<|.p i,a7<|MD m,I] p.2:=λ{s e M I} X p=>by
   let j:=aI p B;show(oZ j<|by rw[Ä,õ];lia).v<|.mk (S:=S++[⟨m.1,s⟩]) (e6 (G.u p) (Ô _) _) ?_ ?_ λx o=>?_
   .rw[fG j,Ć];rfl
   .rw[Ć,g,iP L,Ć];rfl
   .rcases Ĺ.Z o with o|o
    .show ok x o
    .rw[ġ.Z o];show X
  let b:∀{R:Fl×aE×Hm->Prop}(A:av)(n4:ae)(a:Hm),c<+:a->(∀U e,ϓ ns (SH w h T) kp μ.f μ T (i+1) U e->R ⟨.nx,U,e⟩)->W ((bB (iG (aP<|aA (aV b3) cW b6)<|c7 dU) (dP<|eH fT aO<|aB dG aD)<|dP<|eH fT aO<|aB (bY<|aB (aH dG a8)<|aB (mC<|.jv "o") aD) aD) [a7<|SH w h T,a7<|.rol<|ns.o D.p,a7<|.z μ.f,a7<|.p kp,a7<|.p n4,a7<|.p i,a7<|MD m,a7<|.bl A] a) R:=λ{R} A n4 a u K=>by
   let j:=aI u B;let y:W ((dP<|eH fT aO<|aB dG aD) [a7<|SH w h T,a7<|.rol<|ns.o D.p,a7<|.z μ.f,a7<|.p kp,a7<|.p n4,a7<|.p i,a7<|MD m,a7<|.bl A] a) R:=ï.v<|jZ (_,?r,j0 j,_,?r,bH (app (.X<|œ L) u) λp q=>K _ _ q);show Ð.v<|Ŀ.v<|eB<|bG ?r ?r<|ü.v (_,?r,?_);cases(i:ae)==kp with
   |bt=>show y|ai=>cases A with
    |bt=>show(_,?r,y)|ai=>show(_,?r,ï.v<|jZ (_,?r,j0 j,aX<|ç.v<|aX<|bG ?r ?r<|Ă.v (_,?r,iN,_,?r,bH (app (.Q ?r) u) λp q=>K _ _ q)))
  show(_,?r,bN<|bD<|bD<|bD<|eP<|aX (_,?r,aX<|bG ?r (fM<|bG ?r ?r<|(fF ⋯).v ?r)<|è.v (_,?r,o7 k ns _ () _ _ λa u=>bG (fM<|bG ?r ?r<|(fF ⋯).v ?r) ?r<|è.v<|(uC () ()).v (_,?r,(fF ⋯).v (_,?r,ü.v ?_)))));show iO (Ð.v<|eB<|bD<|bD<|aY ?r<|o7 k ns 60 ⋯ _ _ λμ5 Y=>(_,?r,(fF ⋯).v (_,?r,ü.v (_,?r,?_))));let v:=u.u Y;cases jI ns 60%2==1 with
  |bt=>show bN (bD<|bG ?r ?r<|(fF ⋯).v (_,?r,ü.v<|ò.v<|bG ?r ?r<|(uC ⋯<|by decide).v (?r,b _ _ _ v λ_ l z=>z)))|ai=>show Î.v (?r,b _ _ _ v λ_ l z=>z)
 .rintro J c (G|B|g|ok);rw[Ä,ź]at g;show(?r,cZ (ç.v<|aX<|bG ?r ?r<|m9.v<|aX<|bG ?r ?r<|m5.v<|aX<|aY ?r<|(DA B).v (_,?r,by change(3:am)<=Ò;decide,H _ _ G g ok)) )
def a4v:∀w∈[(1:ae),2,3],∀h∈[(1:ae),2,3],(cY w h).f<=48/\(eE w h).f<=36:=by decide +de
def a4w(g:μ[a]?=a7 (.D xs)):lY [.z a,.ty "list"] μ=a7 ⟨.bl b4,μ⟩:=by ext lY yK;dsimp;rw[g];kernel_rfl
def a4x p μ:aV b4 (PP p) (PP p) μ=a7 ⟨.bl b3,μ⟩:=by
 let e:aV b4 (PP p) (PP p) μ=a7 ⟨.bl<|!(p.1==p.1&&(p.2==p.2&&b4)),μ⟩:=""
 rw[e,cp,cp];rfl
def a4y(g:μ[a]?=a7 (.D [.jv y,.jv z])):dB b4 (.jv x) (.z a) μ=a7 ⟨.bl<|!(y==x||(z==x||ai)),μ⟩:=by ext dB;dsimp;rw[g];ext oK;dsimp;rw[show bW μ (.z a)=a7 [.jv y,.jv z] by ext bW;dsimp;rw[g]];kernel_rfl
def k7!(v:ae×ae->cf)(S:ab ((ae×ae)×cf)):ab ((ae×ae)×cf):=S.o λm=>⟨m.1,v m.1⟩
def Nq{S:ab ((ae×ae)×cf)}{i:am}(h:S[i]?=a7 m):((k7 v S).o MD)[i]?=a7 (MD ⟨m.1,v m.1⟩):=by ext k7;rw[ĉ,ĉ,h];rfl
def a4z k(ns:ab ae)μ:W (f (k+11) "law" [.rol<|ns.o D.p] μ) λr=>r.1=.bl bt:=by
 show Ó (ZX (k+10) _ μ) (Ì.v<|δ.v<|eP<|aX (_,?r,aX (_,?r,aX<|bD (_,?r,bD<|aY ?r<|o7 (k+9) ns 13 ⋯ _ _ λic p1=>(_,?r,(fF ⋯).v<|è.v (_,?r,?_))))));show a3a (k+4) ns () _ _ λw h o b xs d dl F G i6 hw s J=>(_,?r,?_);let sz:=Me hw s;let L:(1<=w/\w<=6)/\1<=h/\h<=6:=()
 let(R,l36):=a4v w (gY hw) h<|gY s;let(_,_,_,l0,upq,_,upR,fr):=kZ _ sz;let nd:(eE w h).J:=Mb<|Ek upq;let upr:=Ek upR;let wf:=J.jl.wf sz;let qe:=MB w (gY hw) h<|gY s;let(l,p,Z,ed,gl,I,gp,eZ,nb):=J.s1.ex;subst ed;let P:Ň (eE w h) (λq=>aF (F q) q) (GZ Z):=by rw[eZ,<- qe];show J.gd.pl
 let E:Ϥ w h F (GZ Z):=(sz,wf,nd,P,by rw[eZ];show J.nc);show bN (Lo (_,?r,o,_,?r,J.i1,?r,_,?r,a4r (k+4) sz wf nd (n7:=eE w h) J.i1 J.i2 (by rw[<- qe];show gl,.ki _,I,gp,P) _ λμ3 p3=>?_));let cl:(k5 w h F).f<=48:=ĥ (ſ _ _) R;show bN (aY ?r<|a4u (k+8) ns (T:=(k5 w h F).o λe=>⟨e,eF F (aQ<|GZ Z) e⟩) (by rw[Ä];lia) _ _ λS om p4 eS okS=>?_);let H:S.o (·.1)=k5 w h F:=by rw[eS,æ];show Pm _
 let lS:S.f<=48:=by have:=br ģ H;rw[Ä]at ah;lia
 let B:∀m∈S,m.1∈cY w h/\F (sA m.1)≠F (sB m.1):=λm g=>by
  have:m.1∈k5 w h F:=by rw[<- H];show Ü.v (m,g,?r)
  let(h1,Q):=Ĥ.Z ah;show(h1,by apply Q)
 let X:∀m∈S,m.2="o"\/m.2=eF F (aQ<|GZ Z) m.1:=λm g=>(okS m g).imp id λz=>by let(e,_,?r):=Ü.Z z;rfl
 let Y:(S.o (·.1)).J:=Mb (by rw[H];show upr.sublist<|fj.o _);let U:xP w h F (bO S):=λe he=>by
  let e1:bO S e=ag (e∈S.o (·.1)):=by ext bO;rw[Ψ,qj,cx];show(λ(x,h1,Q)=>by rw[<- bg.Z Q];show h1,λh=>(e,h,cp _))
  rw[e1,H,Ψ,cx];show(λh=>(Ĥ.Z h).2,λh=>Ĥ.v (he,h))
 let K:ů (TT S w h) S (eF F<|aQ<|GZ Z):=(mj F _,a4l E hw s U,X);let A:=a4j E hw s U;let hn:oR (kF (bO S) w h):=a4k E hw s U;let hS:ie S:=((),Y,λm g=>K.ok g);let hI:∀m∈S,A1 w h m.1:=λm g=>by ext A1;rw[show(iQ w h).H pJ=cY w h from Mf _ sz];show(B m g).1
 let eT:((k5 w h F).o λe=>⟨e,eF F (aQ<|GZ Z) e⟩)=k7 (eF F<|aQ<|GZ Z) S:=by rw[<- H,æ];rfl
 rw[eT];show uG<|eB<|bD<|aY ?r<|a3T k L.1 L.2 K hS hI A hn _ _ λμ5 p5=>(_,?r,ę.v (_,?r,?r,mQ ?_));show bN<|aY ?r<|a3C k L.1 L.2 hS A hn (dm:=nY (TT S w h) S (eF F<|aQ<|GZ Z)) (λe h V=>ů.h0 h) K.h1 _ _ λq c p6 V n=>?_;replace n:c[q]?=a7 (.D<|(k7 (nY (TT S w h) S<|eF F<|aQ<|GZ Z) S).o MD):=by rw[n];ext k7;rw[æ];rfl
 let N:∀v,((k7 v S).o MD).f=S.f:=λv=>by ext k7;rw[Ä,Ä]
 let ne:∀v v',aV b4 (.p ((k7 v S).o MD).f) (.p ((k7 v' S).o MD).f) c=a7 ⟨.bl b3,c⟩:=λv v'=>by rw[N,N];change a7 ⟨D.bl<|!((S.f:ae)==(S.f:ae)),c⟩=_;rw[cp];rfl
 show uG<|Av<|w8<|j5 (b:=b4)<|aY ?r (_,a4w n,?r,?r,eB<|bD<|aY ?r<|(mP n).v (_,?r,_,ne _ _,_,?r,?r,mQ ?_));show iO<|Õ.v<|YK (⟨[.z q,.L<|(k7 (eF F<|aQ<|GZ Z) S).o MD,.L<|S.o MD],c⟩,?r,q,_,_,_,?r,n,?_);show a4t (N:=S.f) (N _) (N _) (Ä ..) (λi j a=>c<+:a/\∃x7 x8 x9,j=[a7<|.rol<|ns.o D.p,a7<|.p w,a7<|.p h,a7<|.z o,a7<|SH w h<|k7 (eF F<|aQ<|GZ Z) S,a7<|SH w h S,a7<|.z q,x7,x8,x9]) (Ę _,_,_,_,?r) (λ_ V V z=>aI z.1 n) ?_ ?_
 .rintro i x y z j a hx hy hz (p7|x7|x8|x9|rfl);let(m,g,?r):=Np hz;cases hx.R.u<|Nq g;cases hy.R.u<|Nq g;let(M,k2):=K.told<|œ g;generalize nY (TT S w h) S (eF F<|aQ<|GZ Z) m.1=u at M k2;generalize eF F (aQ<|GZ Z) m.1=v at M;show([a7<|.rol<|ns.o D.p,a7<|.p w,a7<|.p h,a7<|.z o,a7<|SH w h<|k7 (eF F<|aQ<|GZ Z) S,a7<|SH w h S,a7<|.z q,a7<|MD ⟨m.1,u⟩,a7<|MD ⟨m.1,v⟩,a7<|MD m],?r,uG<|Av (⟨b3,a⟩,?r,?r,Av (⟨b3,a⟩,?r,?r,eB<|bG (x:=PP m.1) (y:=PP m.1) ?r ?r (_,a4x _ _,_,?r,?r,mQ ?_))));let zt:∀{T:av×Hm->Prop},T ⟨b3,a++[C.D [.jv v,.jv "o"]]⟩->W ((aP<|aA (dB b4) (aH dU aK)<|cU<|aB (aH iC aK)<|aB (mC<|.jv "o") aD) [a7<|.rol<|ns.o D.p,a7<|.p w,a7<|.p h,a7<|.z o,a7<|SH w h<|k7 (eF F<|aQ<|GZ Z) S,a7<|SH w h S,a7<|.z q,a7<|MD ⟨m.1,u⟩,a7<|MD ⟨m.1,v⟩,a7<|MD m] a) T:=λ{T} t=>by
   show eB<|bG (x:=.jv u) ?r (fM<|ā.v (⟨[.jv v,.jv "o"],a⟩,?r,iN,?r)) (_,a4y<|bT _ _,_,?r,?_);let e:(!(v==u||(("o":cf)==u||ai)))=ai:=by
    rcases M with rfl|rfl
    .rw[cp];cases v==("o":cf)<;>rfl
    .rw[cp];rfl
   rw[e];show t
  show Ð.v<|Ŀ.v<|ĳ.v<|eB<|bG (x:=.jv m.2) ?r ?r (_,EL b4 _ _ _,_,?r,?_);cases A:m.2==("o":cf)with
  |bt=>show pH ?r (pH ?r<|zt<|pH ?r<|Î.v (p7.u<|aS _ _,_,_,_,?r))|ai=>
   let ev:u=m.2:=k2<|cv.Z A;let O:u=v:=by
    rcases M with r|r
    .show cb (ev.R.u r)<|cv.Z A
    .show r
   subst O;show xH ?r<|eB<|bG (x:=.jv u) (y:=.jv u) ?r ?r (_,EL b4 _ _ _,_,?r,?_);rw[cp];show pH ?r<|zt<|pH ?r<|Î.v (p7.u<|aS _ _,_,_,_,?r)
 .rintro j a (p7|x7|x8|x9|rfl);show(?r,cZ (_,?r,?r))
def a4A:∀ns:ab ae,ns.f<=63->∃aw,jG S ds 11 "law" [.rol<|ns.o D.p] []=a7 ⟨.bl b4,aw⟩:=λns x=>by obtain((d|aw)|h1|a):=a4z 0 ns [];dsimp at a;subst a;show(aw,?_);unfold f at h1;show h1
def oz Q:∀f x,S.ob.B f=a7 x → ∃C,ő (Kx Q) x C ∧ Ť (Kx Q) C ∧ Č (Kx Q) C f:=Yr ""
def mz Q:∀m x y n,S.mt.B m=a7 ⟨x,y,n⟩ → ∃C g,ő (Kx Q) x C ∧ Ť (Kx Q) C ∧ ũ (Kx Q) C m g ∧ r6 (Kx Q) (lk S ds y) n g:=Ys<|Oc.v (("","Folding.fold",jA 77 1,"",("","","")),Oc.v (("","Folding.sheet",jA 77 6,"",("","","")),λ_ z=>nomatch z))
def yz Q:∀x y n,S.mc.B x=a7 ⟨y,n⟩ → lk S ds x=b0 ∧ ∃C g,ő (Kx Q) x C ∧ Mk (Kx Q) C g ∧ r6 (Kx Q) (lk S ds y) n g:=Yt<|Oc.v (("","","","Folding.__init__",jA 77 0,"",("","","")),λ_ z=>nomatch z)
def dz Q:Ah (Kx Q) ds:=by ext Ah;kernel_rfl
def cz Q:JM (Kx Q) S.con=bt:=""
def nz Q:S.no.o (aq (Kx Q) Ş)=S.no.o λ_=>a7 bp:=""
def a4B{P:Ŧ}{w:ņ}{Q:ϯ}
  {a:ar}{o:cg}{i:cg}{q:cg}{j:cg}{b:am}
  (nS:aq (Kx Q) Ş "TURNED"=a7 (a7<|.x a))
  (hd0:(Kx Q).B a=a7 {cw:=.O "dict",bv:=.dict #[(hashStr w "h",.jv "h" o,.jv "v" i),(hashStr w "v",.jv "v" q,.jv "h" j)] b})
  (zd0:(a==Ļ)=b3)
  {h:ê}{d:cf → af ax}(X:(Kx Q).In h)(G:h.Ns Ş d):Ů P w (Kx Q) d S ds ∧ ∃f g,Ϧ (Kx Q) "law" "law" (aT 89) f g ∧ d "law"=a7 (.x f) ∧ ∀(s:Ø)(u:ax),uc s g ([u],[]) [⟨"_law_script",u⟩]:=by
 show((Yh<|by decide +de,Yi λp n=>(JI X G (dz Q) p n).1,Yj<|Yq X G<|cz Q,λx c e=>?_,Ym<|Yp X G<|nz Q,oz Q,mz Q,yz Q,Yu ""),Yo X G (dz Q) ""<|by kernel_rfl)
 .show Yk ?_ x c e;show Oc.v ((a,[⟨Ϙ "h",(.jv "v")⟩,⟨Ϙ "v",(.jv "h")⟩],[⟨Ϙ "h",jc "v" i⟩,⟨Ϙ "v",jc "h" j⟩],zx X G nS,zd0,λv k=>Yl (ks:=[Ϙ "h",Ϙ "v"]) (k _ _ hd0) (.zv (JE _ _) ?r ?r<|.zv (JE _ _) ?r ?r<|.kk) (by decide +de) ?r,.zv (?r,(_,?r))<|.zv (?r,(_,?r))<|.kk,λ_ y y=>.zv (.jv _)<|.zv (.jv _)<|.kk),λ_ z=>nomatch z)
end _w
open PySem PySem.W PyProof.Rows
set_option maxHeartbeats 0 in
theorem PySem.Challenge.cw_creasecourt_k87_whole_carried_marks_are_holds : PySem.Challenge.rw_creasecourt_k87_whole_carried_marks_are.Holds := by
 w_on
 refine holds_law _w.Qi fun a=>?_
 refine holds_open (q:=_w.Vw) (loose:=["TURNED"]) (Xt:=fun s=>xlAt _w.Vw [] s&&recOk (S3<|SO<|ł ĺ) s) (XP:=XL _w.Vw []) (Yf:=Hook.obs (yp _w.Kx _w.As _w.uZ)) (Ya:=Hook.val (yp _w.Kx _w.As _w.uZ)) (YP:=Hook.says (yp _w.Kx _w.As _w.uZ)) (N:=7508) _w.run (Hook.of _) (Hook.keeps _) (fun s e=>xl_of s (NH.Z e).1) XL.keeps (by rfl) (by rfl) (by rfl) (fun s e=>recFacts_of (NH.Z e).2) (by rfl) (by first|assumption|decide +kernel) (by decide +kernel) (?r,?r,?r,?r,?r,by decide +kernel) ?hw ?hc
 case hw=>w_witness2
 k_fill
 refine _3.walkM (l:=ĺ) (S:=_w.S) (ds:=_w.ds) (k:=11) (st:=_w.aT 89) (x:="_law_script") ?r ?r (?r,⋯,⋯) (fun w h Y=>PySem.W.kIn_of Y) "" "" ?F fun c h _=>_w.a4A c h
 case F=>
  intro w d h b G
  refine' @_w.a4B NN w _ 277 542 543 544 545 2 ?g_TURNED ?hd0 ?zd0 _ _ b G
  (case g_TURNED=>kernel_rfl)
  (case hd0=>kernel_rfl)
  (case zd0=>exact ?r)
