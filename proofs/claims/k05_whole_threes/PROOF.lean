import PyProof.Rows.All
import Wide.All
import OpenK.AllK
import Wide.FinOn
import PyProof.EqAt
import PyProof.EqKinds
import PyProof.TupleCall
import Lean
import PySem.Challenge.RW_dicesums_k05_whole_threes
set_option autoImplicit true
local macro_rules|`(tactic| fail)=>`(tactic| (extract_lets+onlyGivenNames-underBinder zz; subst zz))
local macro_rules|`(tactic| show $e:term)=>`(tactic| refine $e)
open Lean in
local macro_rules(kind:=Lean.Elab.Tactic.Ext.ext)|s=>do let e:TSyntax `ident:=⟨s[1][0][0][0]⟩;`(tactic| exists $e:ident)
open Lean in
def zqF:Nat->Syntax->Syntax
|k+1,s=>if s.isOfKind ``Lean.Parser.Term.tuple then mkNode `Lean.Parser.Tactic.rcasesPat.tuple #[mkAtom "⟨",mkNullNode <|(#[s[1][0],s[1][1]]++s[1][2].getArgs).map fun x=>if x.isAtom then x else mkNode `Lean.Parser.Tactic.rcasesPatLo #[mkNode `Lean.Parser.Tactic.rcasesPatMed #[mkNullNode #[zqF k x]],mkNullNode],mkAtom "⟩"]
 else mkNode (if s.isIdent then `Lean.Parser.Tactic.rcasesPat.one else `Lean.Parser.Tactic.rcasesPat.ignore) #[if s.isIdent then s else mkAtom "_"]
|_,s=>s
open Lean in
local macro_rules(kind:=Lean.Parser.Tactic.tacticLet__)|s=>do
 let d:=s[2][0]
 if d.isOfKind ``Lean.Parser.Term.letPatDecl then
  if d[0].isOfKind ``Lean.Parser.Term.tuple then return mkNode ``Lean.Parser.Tactic.obtain #[mkAtom "obtain",mkNullNode #[mkNode ``Lean.Parser.Tactic.rcasesPatMed #[mkNullNode #[zqF 9 d[0]]]],mkNullNode,mkNullNode #[mkAtom ":=",mkNullNode #[d[4]]]]
  Macro.throwUnsupported
 return (s.setArg 0 <|mkAtom "have").setKind `Lean.Parser.Tactic.tacticHave__
open Lean Parser Tactic in
local macro_rules(kind:=Lean.Parser.Tactic.tacticErw___)|s=>do
 let l<-s[2][1].getSepArgs.mapM fun r=>if r[0].isNone then `(simpLemma|$(⟨r[1]⟩):term) else `(simpLemma|← $(⟨r[1]⟩):term)
 let t<-`(tactic| simp only [$l,*])
 return t.raw.setArg 5 s[3]
local macro_rules|`(tactic| delta $x* $[$l]?)=>`(tactic| unfold $x* $[$l]?)
local macro_rules|`({$x:term,$xs:term,*})=>`(⟨$x,$xs,*⟩)
set_option Elab.async false
set_option linter.all false
set_option maxRecDepth 100000
set_option maxHeartbeats 0
set_option bootstrap.genMatcherCode false
set_option compiler.extract_closed false
set_option genSizeOfSpec false
noncomputable section
open _root_ renaming List->O,Nat->Y,rfl->P,Int->D,Option->MB,autoParam->MD,Bool->MF,Array->MH,absurd->MI,False->MP,if_true->MR,if_false->MU,or_false->MW,congrArg->M1,beq_iff_eq->M5,String->M8,decide_eq_false->Nc,decide_eq_true_eq->Nd,decide_eq_true->Nk,beq_self_eq_true->Nq,of_decide_eq_true->Ul
open PySem renaming Addr->MC,Str->ME,Expr->MG,Heap->MJ,Pos->MK,Stmt->MM,eval->MO,Obj->MT,mem_of_lookup->Nn
open List renaming replicate->ML,casesOn->MQ,range->M0,Nodup->Oo,range'->Vm,foldl->Nu
open PySem.W renaming Frag->MN,Frag->MS,subIn->MX,kitOne->M6,fnOf->Nf,kia_one->Nh,keepIn->Nl
open Option.some renaming inj->MV
open False renaming elim->MY
open PySem.SetTable renaming below->MZ,grown->V6
open PySem.Value renaming ref->M3,none->M9,type->lf,isInt->UI
open Ne renaming symm->M4
open And renaming intro->M7
open Sum renaming inl->Na
open PyProof.Rows renaming pairsOf->Nb,callWith_builtin1->Vl,callWith_type1->Uk,slot_tuple_getitem->Ow,arrOf->Vn
open PySem.Obj renaming mapSeq->Ng
open PySem.Heap renaming SameBut->Ni,FlyingW->Oq
open PySem.Paired renaming length->Nj
open True renaming intro->Nm
open PySem.Heap.SameBut renaming update->Np
open PySem.Str renaming ofString->VZ
open Option renaming bind->Oi
open Nat.succ renaming inj->V3
open Bind renaming bind->Vj
open PySem.Around renaming under_plainId->Vk
open PySem.NameKind renaming free->Ot
open ForInStep renaming yield->Uj
open List.Pairwise renaming map->Ov,nil->UK
open List.Perm renaming append_left->Nv
open Function renaming comp->Ox
open PySem.Builtin.Tuple renaming tupleHashOf->Oy,tupleExact->Oz
open PySem.Builtin.SmallTypes renaming nextOf->OA
open PySem.Builtin.Slice renaming slicePlaces->OB
open PySem.Builtin.List renaming listTooLong->OC
open List renaming mem_cons_self->cc,length_map->bZ,mem_cons_of_mem->cZ,map_cons->cj,mem_cons->cF,length_cons->dv,mem_map->c9,getElem?_eq_getElem->gd,size_toArray->fo,getD_eq_getElem?_getD->hY,map_map->bv,length_append->gm,mem_singleton->gK,mem_map_of_mem->hZ,append_assoc->hk,not_mem_nil->hl,getElem?_map->hO,pairwise_cons->ik,set_cons_succ->il,set_cons_zero->ip,getElem?_eq_some_iff->kY,flatMap_cons->iA,all_eq_true->iq,map_congr_left->ji,mem_append_right->lN,mem_append->i9,foldl_cons->jj,replicate_succ->lO,pairwise_append->mi,map_append->jM,drop_eq_getElem_cons->oP,length_replicate->mX,nil_append->ka,length_take->kZ,take_append_drop->nN,mem_append_left->nO,pairwise_map->mj,nodup_cons->lP,countP_cons->ml,take_of_length_le->qd,mem_flatMap->mm,eq_nil_of_length_eq_zero->uc,mem_filter->mY,getElem_mem->nP,mem_range->mZ,append_nil->nQ,length_nil->nR,countP_pos_iff->gc,perm_append_comm->sA,length_set->oQ,countP_append->rb,length_drop->qe,cons_append->qf,flatten_cons->rd,map_nil->m1,find?_cons->qg,all_cons->oR,getElem?_cons_zero->wL,findIdx?_eq_some_iff_getElem->BZ,drop_eq_nil_of_le->wM,getElem?_append_left->yX,lookup_cons->sC,filter_cons->sD,getLastD_cons->ud,mem_of_mem_take->wN,length_range->ue,drop_sublist->uf,getElem?_replicate->yY,filterMap_cons->wO,getElem?_append_right->B0,length_singleton->yZ,nodup_iff_pairwise_ne->B1,getElem?_set->wQ,extract_eq_take_drop->B2,pairwise_iff_getElem->B3,nodup_append->wR,mem_iff_getElem->y0,range_eq_range'->y1,take_length->wU,any_eq_true->wV,getElem?_cons_succ->B4,getLast?_eq_some_getLast->GQ,take_sublist->y2,getElem_drop->y3,getElem_take->y4,mem_of_getElem?->B5,perm_ext_iff_of_nodup->GR,filter_eq_self->B6,length_pos_iff->B7,getLastD_eq_getLast?->GS,map_id->ug,eq_replicate_of_mem->GU,mem_replicate->B8,pairwise_singleton->GV,set_eq_take_append_cons_drop->qai,getElem?_set_self->GW,getElem?_eq_none->GX,map_flatMap->B9,length_filter_le->GY,nodup_range->Ca,pairwise_flatMap->GZ,getElem?_set_ne->G0,of_mem_zip->Cb,countP_map->Cc,all_map->y5,countP_eq_length_filter->qaj,dropLast_concat_getLast->qak,drop_drop->Cd,drop_zero->Ce,nodup_nil->Cf,mem_filterMap->G1,length_eraseIdx_of_lt->qal,any_cons->Cg,foldl_append->G2,findIdx?_eq_none_iff->qam,countP_congr->G3,mem_or_eq_of_mem_set->qan,rel_of_pairwise_cons->qao,getElem?_take_of_lt->qap,flatMap_map->G4,length_eq_zero_iff->qaq,set_set->Ci,range_succ_eq_map->qar,foldr_cons->G5,countP_mono_left->qas,countP_le_length->qat,countP_singleton->qau,take_succ->G6,replicate_succ'->qav,mem_of_mem_drop->qaw,take_succ_cons->qax,take_add->li,filter_sublist->qay,countP_eq_zero->qaz,perm_singleton->qaA,length_zipIdx->qaB,zip_cons_cons->qaC,filter_append->qaD,flatMap_assoc->qaE,map_replicate->qaF,map_singleton->qaG,any_eq_false->qaH,take_add_one->qaI,ext_getElem?->qaJ,getElem_inj->qaK,zipIdx_cons->qaL,map_snd_zip->qaM,range'_succ->qaN
open Nat renaming le_trans->bw,le_refl->b8,lt_of_lt_of_le->dX,le_of_eq->dy,le_of_lt->ei,lt_of_le_of_lt->gr,ne_of_lt->eP,le_of_not_lt->ci,add_le_add_left->ir,le_add_right->ia,zero_le->fY,le_of_add_right_le->lQ,pos_of_ne_zero->kr,lt_of_succ_lt->kb,le_antisymm->jk,lt_of_add_right_lt->oS,mul_le_mul->ku,add_sub_cancel'->nS,add_lt_add_left->nT,lt_succ_of_lt->m2,lt_succ_self->m3,le_add_right_of_le->rf,succ_mul->lR,le_of_lt_succ->qh,lt_or_ge->mn,lt_of_le_of_ne->sE,le_sub_of_add_le->uh,mul_le_mul_right->ui,pow_le_pow_right->uj,lt_succ_of_le->sF,lt_irrefl->qi,not_lt_of_le->sG,le_of_add_left_le->wW,sub_lt_left_of_lt_add->y6,sub_le->m4,ne_of_gt->qj,add_sub_cancel_left->y7,add_assoc->rg,succ_le_succ->io,lt_of_not_le->uk,le_of_sub_eq_zero->y8,add_comm->rh,add_le_of_le_sub->y9,lt_add_of_pos_right->Cj,lt_of_succ_lt_succ->Ck,le_add_left->wX,mul_assoc->um,sub_one_lt_of_lt->Cm,succ_lt_succ->za,mul_le_mul_left->Cn,le_succ->uo,lt_trans->wY,zero_add->wZ,le_mul_of_pos_right->G7,min_le_right->Co,sub_eq_zero_of_le->G8,sub_le_sub_right->G9,le_sub_one_of_lt->Ha,add_sub_add_left->Hb,not_lt_zero->Cp,sub_zero->zb,sub_le_sub_left->Hc,sub_lt->w0,lt_of_sub_pos->Hd,sub_pos_of_lt->He,eq_of_mul_eq_mul_left->qaO,sub_lt_of_lt->Hf,le_max_right->Hg,not_le_of_lt->Hh,mul_comm->Cq,zero_max->Cr,sub_self->Cs,add_zero->Ct,le_mul_of_pos_left->qaP,min_le_left->Hi,le_sub_of_add_le'->qaQ,not_lt->Cu,add_sub_cancel->qaR,add_right_comm->qaS,lt_asymm->Hj,pow_succ->Hk,add_sub_assoc->qaT,le_succ_of_le->qaU,one_mul->Hl
open PySem.Heap renaming get?_push_of_some->ec,get?_push_size->fZ,lt_size->ed,get?_update_self->qk,size_push->lS,get?_update_other->uq,get?_push_ne->zc,size_update->Cv,get?_some_iff->qaV
open Option renaming bind_some->eC,map_some->nU,isSome_iff_exists->zd,isSome_map->qaW,getD_none->qaX
open Array renaming length_toList->gW,getElem?_toList->kv,getElem_mem->jl,getElem?_eq_getElem->sH,toList_append->ii,toArray_toList->ze,toList_extract->Cw,perm_iff_toList_perm->Hm,toList_push->Cx,getElem?_eq_none->Hn,toList_setIfInBounds->qaY,toList_reverse->qaZ,getElem_toList->qa0,forIn_toList->qa1,size_append->qa2,toList_map->qa3
open Bool renaming false_eq_true->iB,and_eq_true->iR,false_ne_true->nV,eq_iff_iff->w1,and_false->Cy,false_and->Ho,not_true->Hp
open Int renaming le_trans->ce,natCast_nonneg->iC,le_refl->hD,lt_of_le_of_lt->nW,toNat_natCast->nX,le_of_lt->kx,lt_of_not_ge->ri,natCast_mul->sI,add_le_add->sJ,lt_of_lt_of_le->zf,le_antisymm->w2,not_lt_of_ge->zg,ne_of_gt->w3,ne_of_lt->w4,mul_le_mul_of_nonneg_right->qa4,sub_nonneg_of_le->Hq,mul_le_mul_of_nonneg_left->qa5,not_lt->w5,add_sub_cancel->Hr,emod_lt_of_pos->Hs,add_mul->zh,sub_zero->Cz,emod_nonneg->Ht,natCast_add->Hu,le_of_lt_add_one->qa6,sub_eq_add_neg->qa7,sub_self->Hv
open PySem.Calls renaming spliced_cons->kc,spliced_nil->nY,callWith_builtin->ur,evalArgs_plain->w6
open PySem renaming wpAny_bind->a7,Value->ay,Shared->aN,wpAny_pure->bW,wpAny->bj,model->bo,starEach->cA,sizeLine->dq,Program->dn,World->cV,Around->dH,wpAny_mono->hE,compareOp->hn,wpAny_newObj_type->mq,intKind->gL,wpAny_call_entry->mr,wpAny_holding->ky,rawInt->gf,cLine->fA,wpAny_Call_Name_kw->oT,backTo->gM,foldedSetIterable->oU,FuncData->iD,mainGlobals->k4,wpAny_rule->kz,wpAny_callSpecial?_slot->uu,bootBuiltins->nZ,assignEach->mu,wpAny_setField->ql,sysModules->m5,sizeLine_eq->oV,codeAny_builtin->sL,wpAny_truthy_bool->uv,attributeBase->rj,wpAny_isInstance->uw,wpAny_passesOwn->ux,wpAny_attempt->sM,call_meets->qm,scanBound->oW,codeAny->mv,pyIter->k6,binaryOp->n1,codeAny_mono->sN,wpAny_typeOf->sO,Scope->jN,holding->m6,plainId_quiet->uy,swapsWith->qn,wpAny_typeNameOfWhole_keyiter->Hw,wpAny_setState_of->zi,fits_of_scanBound->zj,assign->mw,builtinLookup_eq_fast->CA,SetTable->qo,wpAny_askSetting->zk,pyNext->m7,wpAny_field->uz,sliceBounds->uA,wpAny_execs_nil->zl,pickOrder->sP,getItem->qp,wpAny_seqItems->zm,isSubtype_type->zo,wpAny_Call_method->CB,wpAny_pyIter_list->CD,behindInMarks->zp,NameKind->sQ,wpAny_notOrdered_dict->Hx,letOwnedTupleGo->CE,wpAny_call->w7,IsPart->qq,stored->qr,wpAny_updateSeq->CF,wpAny_loadPart'->CG,typeLookup_type->CH,wpAny_specialOf->CI,IsTupleKey->w8,wpAny_setEntries_of->Hy,spliced->sR,bindArgs->uB,Keyword->sS,callerA->sT,firstArgMember->CJ,wpAny_of_eq->zq,wpAny_pyIter_tuple->Hz,wpAny_tupleItemsOf->HA,wpAny_newFunctionEnv_cells->qa8,wpAny_pyIter_slot->HB,wpAny_setEpoch_of->HC,BindsTo->uC,valueAt->uD,argBest->uE,wpAny_eqBool_int->HD,tupleKeyHash->CK,concat_meets->CL,noFill_tuple_add->HE,relayAll->w9,wpAny_forIn_list->HF,wpAny_Call_method0_late->qa9,PassesOwn->zr,wpAny_ite_split->HG,subscripted->CM,keywordEach->CN,recursionLimit->HH,wpAny_runValue->HI,wpAny_fieldsOf->HJ,isSubtype_stop->HK,setField->zt,wpAny_standAt->HL,swapsWithSole->HM,swappedStores->HN,seq_tuple_add->HO
open PyProof.Rows renaming wpS_bind->cI,wpS_pure->da,Keyed->b1,arrOf->cS,SortSt->dY,pendingOf->fK,IntsAre->gN,kindOf->hP,wpS_forRange->m8,envOfC->jm,wpS_mono->lT,seqObj->jn,setArr->jO,wpS_get->n2,AllBare->oX,slot_tupleiter_next->CO,failedOf->rl,wpS_lift->rm,gallopOf->sU,wpS_modify->xa,IsTupIter->xb,subscriptTail->CP,SortKind->xc,subscriptTail_builtinR->qba,boot_sorted->CQ,pairsOf_toList->HP,Constant_none->HQ,listUpdate_at->HR
open Option renaming some->J,none->C
open Bool renaming true->Y0,false->Y1
theorem az0 (h:True:=by rfl):True:=trivial
theorem az0.x:True:=trivial
open az0 renaming _auto_1->rc
theorem az1 (h:True:=by decide):True:=trivial
theorem az1.x:True:=trivial
open az1 renaming _auto_1->eY
theorem az2 (h:True:=by first|show .inl P|show .inr P|assumption):True:=trivial
theorem az2.x:True:=trivial
open az2 renaming _auto_1->ro
theorem az3 (h:True:=by intro _; rfl):True:=trivial
theorem az3.x:True:=trivial
open az3 renaming _auto_1->rn
theorem az4 (h:True:=by first|show Or.inl P|show Or.inr P):True:=trivial
theorem az5 (h:True:=by with_unfolding_all rfl):True:=trivial
theorem az6 (h:True:=by intros; rfl):True:=trivial
theorem az7 (h:True:=by first|show Or.inl P|show Or.inr (Or.inl P)|show Or.inr<|Or.inr P):True:=trivial
theorem az8 (h:True:=by first|show amh _ (by decide) (by decide)|rfl):True:=trivial
def Y2{c:Prop}{h:Decidable c}(hc:c){α:Sort u}{t e:α}:ite c t e=t:=if_pos hc
def Y3{c:Prop}{h:Decidable c}(hc:¬c){α:Sort u}{t e:α}:ite c t e=e:=if_neg hc
section
open Lean
def qaa(s:String):String:=match s with
|"H"=>"length"
|"O"=>"size"
|"Q"=>"heap"
|"B"=>"toList"
|"D"=>"toArray"
|"E"=>"objs"
|"I"=>"env"
|"M"=>"toNat"
|"R"=>"prog"
|"Y"=>"data"
|"e"=>"base"
|"h"=>"scope"
|"l"=>"names"
|s=>s
def Y4:Name->Name
|.str p s=>if s=="L" then .str (.str (.str (if p.isAnonymous then p else Y4 p) "heap") "objs") "size" else .str (if p.isAnonymous then p else Y4 p) (qaa s)
|n=>n
def Y5(n:Name):Name:=n.getRoot++Y4 (n.replacePrefix n.getRoot .anonymous)
def Y6:Nat->Syntax->Syntax
|k+1,s=>if s.isIdent then mkIdentFrom s (Y5 s.getId) else if s.isOfKind ``Lean.Parser.Term.proj then(s.setArg 0 (Y6 k s[0])).modifyArg 2 fun i=>if i.isIdent then mkIdentFrom i (Y4 i.getId) else i else s
|_,s=>s
end
open Lean in
local macro_rules
|`($x:ident)=>do
 let n:=x.getId
 if n.isAtomic||n.hasMacroScopes then Macro.throwUnsupported
 let m:=Y5 n
 if m==n then Macro.throwUnsupported
 return mkIdentFrom x m
open Lean in
local macro_rules (kind:=Lean.Parser.Term.proj)
|s=>do
 let t:=Y6 9 s
 if t==s then Macro.throwUnsupported
 return t
set_option hygiene false
open Lean in
def Zt0(n:Nat):MacroM Term:=match n with
|0=>`(List Int)
|1=>`(by decide)
|2=>`(Addr×Obj)
|3=>`(Int×Int)
|4=>`(bo X.prog X.w)
|5=>`(by simp)
|6=>`(by lia)
|7=>`((.int Fa,.aa))
|8=>`(aH (.int 1))
|9=>`(aH (.int 0))
|10=>`(bY [s1,s2,s3])
|11=>`(bo prog w)
|12=>`(c4 aG d)
|13=>`([.int s1,.int s2,.int s3])
|14=>`(T×a9)
|15=>`((x==("__debug__" : Str))=false)
|16=>`((.a3 (av d),.aA))
|17=>`(.ref aP)
|18=>`(List Z0)
|19=>`(af Z9 aw)
|20=>`((.aj (bT tw),.aA))
|21=>`(af (aq 0) aw)
|22=>`(.ref a)
|23=>`(af (aq 2) aw)
|24=>`((false,eval e X.env))
|25=>`(af (aq 1) aw)
|26=>`(.refl _ _)
|27=>`((ar ZA,.aa))
|28=>`(Key×V)
|29=>`(af Z8 aw)
|30=>`([none,some 0,some 1,some 2,some 3,some 4])
|31=>`([.str "refused",.int 4])
|_=>Macro.throwUnsupported
open Lean in
def Zt1(n:Nat):MacroM Term:=match n with
|0=>`(by omega)
|1=>`([ar a,ar b,ar c])
|2=>`(ds.map ar)
|3=>`(gT X N' scope cl aP cT dS fp)
|4=>`(cA (e::es) X.env=ZO::cA es X.env)
|5=>`(cN::dW)
|6=>`(c6 (af (bB (aq 0)) aw))
|7=>`(a0 (aq 0) cw)
|_=>Macro.throwUnsupported
open Lean in
def Ztab(n:Nat):MacroM Term:=match n/32 with
|0=>Zt0<|n%32
|1=>Zt1<|n%32
|_=>Macro.throwUnsupported
open Lean in
def Zval(c:Char):Y:=let n:=c.M;if n<58 then n-48 else if n<90 then n-55 else n-62
open Lean in
local macro_rules
|`($x:ident)=>do
 let s:=x.getId.toString
 if s.front != 'Z' then Macro.throwUnsupported
 match (s.toList.drop 1).map Zval with
 |[a]=>Ztab a
 |[a,b]=>Ztab<|61+a*61+b
 |_=>Macro.throwUnsupported
theorem az9 (h:True:=by first|show a4.mono Z1|show a4.mono ZW):True:=trivial
theorem az10 (h:True:=by show vb):True:=trivial
theorem az11 (h:True:=by decide+kernel):True:=trivial
theorem az12 (h:True:=by first|show ti λ_ _ _ _ _ _ _=>P|show z3 λ_ _ _ _ _ _ _ _=>P|show z4 λ_ _ _ _ _ _ _ _ _=>P|show z5 λ_ _ _ _ _ _ _ _ _ _=>P|show DA λ_ _ _ _ _ _ _ _ _ _ _=>P):True:=trivial
namespace a8
def agn{α:Type _}{r:α}{p:Prop}(e:C=J r):p:=nomatch e
def ago{α:Type _}{a c:α}(e:J a=J c):a=c:=MV e
def agp{α β:Type _}{a c:α}{b d:β}(e:J (a,b)=J (c,d)):a=c/\b=d:=by injection e with e;injection e with e f;show{(e),f}
def agq{α β γ:Type _}{a c:α}{b d:β}{x y:γ}(e:J (a,b,x)=J (c,d,y)):a=c/\b=d/\x=y:=by injection e with e;injection e with e f;injection f with f g;show{(e),f,g}
def agr{α β:Type _}{a c:α}{b d:β}(e:(a,b)=(c,d)):a=c/\b=d:=by injection e with e f;show{(e),f}
end a8
local macro_rules|`(tactic| exists $e:ident)=>`(tactic| first|exact a8.agn $e|(obtain ⟨zq0, zq1, zq2⟩:=a8.agq $e; clear $e; first|subst zq0 zq1 zq2|(subst zq0; subst zq1; clear zq2)|(subst zq0; subst zq2; clear zq1)|(subst zq1; subst zq2; clear zq0))|(obtain ⟨zq0, zq1⟩:=a8.agp $e; clear $e; first|subst zq0 zq1|(subst zq0; clear zq1)|(subst zq1; clear zq0))|(have zq0:=a8.ago $e; clear $e; subst zq0)|(obtain ⟨zq0, zq1⟩:=a8.agr $e; clear $e; subst zq0 zq1)|subst $e|(injection $e; done)|(injection $e with zq0; subst zq0)|(injection $e with zq0 zq1; subst zq0 zq1)|cases $e:ident)
section
namespace a8
open PySem PySem.Spec PyProof.Rows
abbrev Key:=Sum D ME
noncomputable def vc:Key->ay->MF
 |.inl k,v=>UI k v
 |.inr x,v=>Value.isStrOf x v
noncomputable def ags(w:cV):Key->D
 |.inl k=>hashInt k
 |.inr x=>hashStr w x
theorem qE:∀{k:Key} {v:ay},vc k v=Y0->(∃i t,k=Na i/\v=Value.int i t)\/(∃x t,k=Sum.inr x/\v=Value.str x t)
 |.inl i,v,h=>by let(t,e):=Value.isInt_shape (k:=i) (v:=v) h;show .inl {(i),t,P,e}
 |.inr x,v,h=>by let(t,e):=Value.isStrOf_shape (x:=x) (v:=v) h;show .inr {(x),t,P,e}
def aaz(i:D)(t:Tok):vc (.inl i) (.int i t)=Y0:=by simp[vc,UI]
def aaA(x:ME)(t:Tok):vc (.inr x) (.str x t)=Y0:=by simp[vc,Value.isStrOf]
def aiF(a b:D):decide ((Na a:Key)=Na b)=(a==b):=by
 by_cases e:a=b
 .subst e;simp
 .let h:¬ (Na a:Key)=Na b:=λq=>e<|Sum.inl.inj q;rw[Nc h];show(beq_eq_false_iff_ne.mpr e).symm
def aiG(a b:ME):decide ((Sum.inr a:Key)=Sum.inr b)=decide (a=b):=by
 by_cases e:a=b
 .subst e;simp
 .let h:¬ (Sum.inr a:Key)=Sum.inr b:=λq=>e<|Sum.inr.inj q;rw[Nc h,Nc e]
def aiH(a:D)(b:ME):decide ((Na a:Key)=Sum.inr b)=Y1:=Nc (λq=>nomatch q)
def aiI(a:ME)(b:D):decide ((Sum.inr a:Key)=Na b)=Y1:=Nc (λq=>nomatch q)
def hr(prog:dn)(w:cV):PySem.KeyKind prog w Key where
 is:=vc
 hash:=ags w
 inj:=λv a b bl ao=>by
  rcases qE bl with⟨i,t,rfl,rfl⟩|⟨x,t,rfl,rfl⟩
  .rcases qE ao with⟨j,u,rfl,e⟩|⟨y,u,rfl,e⟩
   .injection e with aB _;rw[aB]
   .show nomatch e
  .rcases qE ao with⟨j,u,rfl,e⟩|⟨y,u,rfl,e⟩
   .show nomatch e
   .injection e with aB _;rw[aB]
 byValue:=λk v h=>by rcases qE h with⟨i,t,rfl,rfl⟩|⟨x,t,rfl,rfl⟩<;>rfl
 pyHash:=λbu h=>by
  rcases qE bu with⟨i,t,rfl,rfl⟩|⟨x,t,rfl,rfl⟩
  .show wpAny_pyHash_int h
  .show wpAny_pyHash_str h
 eqBool:=λbP bu h=>by
  rcases qE bP with⟨i,t,rfl,rfl⟩|⟨x,t,rfl,rfl⟩
  .rcases qE bu with⟨j,u,rfl,rfl⟩|⟨y,u,rfl,rfl⟩
   .rw[aiF]at h;show HD h
   .rw[aiH]at h;show SeqAt.EqAt.int_str i t y u _ _ _ _ h
  .rcases qE bu with⟨j,u,rfl,rfl⟩|⟨y,u,rfl,rfl⟩
   .rw[aiI]at h;show SeqAt.EqAt.str_int x t j u _ _ _ _ h
   .rw[aiG]at h;show wpAny_eqBool_str h
 «strs»:=λk x t v h=>by
  rcases qE h with⟨i,u,rfl,e⟩|⟨y,u,rfl,e⟩
  .show nomatch e
  .injection e with aB _;subst aB
   ext v<;>rfl
def aaB(prog:dn)(w:cV)(i:D)(t:Tok):(hr prog w).is (.inl i) (.int i t)=Y0:=aaz i t
def aaC(prog:dn)(w:cV)(x:ME)(t:Tok):(hr prog w).is (.inr x) (.str x t)=Y0:=aaA x t
inductive V where
 |b0|aU (b:MF)|int (i:D)|str (x:ME)|tj (b:MH UInt8)|vd (b:UInt64)|ref (a:MC)|ty (n:M8)
 deriving DecidableEq
def cQ:V->ay->Prop
 |.b0,u=>u=M9
 |.aU b,u=>u=Value.bool b
 |.int i,u=>∃t,u=Value.int i t
 |.str x,u=>∃t,u=Value.str x t
 |.tj b,u=>∃t,u=Value.bytes b t
 |.vd b,u=>∃t,u=Value.float b t
 |.ref a,u=>u=M3 a
 |.ty n,u=>u=lf n
abbrev cR:O V->O ay->Prop:=Paired cQ
def cR.length(r:cR xs us):xs.H=us.H:=Nj r
theorem cR.get:∀{xs:O V} {us:O ay} {i:Y} {x:V},cR xs us->xs[i]?=J x->∃u,us[i]?=J u/\cQ x u
 |_,_,_,_,.nil,e=>by simp at e
 |_,_,0,_,.cons r _,e=>by simp at e;subst e;show{_,P,r}
 |_,_,i+1,x,.cons _ t,e=>by let(u,ae,ai):=cR.get (i:=i) (x:=x) t (by simpa using e);show{u,by simpa using ae,ai}
theorem cR.set(r:cQ x u):∀{xs:O V} {us:O ay} (i:Y),cR xs us->cR (xs.set i x) (us.set i u)
 |_,_,_,.nil=>.nil
 |_,_,0,.cons _ t=>.cons r t
 |_,_,i+1,.cons q t=>.cons q<|cR.set r i t
theorem cR.append:∀{xs aO:O V} {us ws:O ay},cR xs us->cR aO ws->cR (xs++aO) (us++ws)
 |_,_,_,_,.nil,s=>s
 |_,_,_,_,.cons r t,s=>.cons r<|cR.append t s
theorem cR.take:∀{xs:O V} {us:O ay} (n:Y),cR xs us->cR (xs.take n) (us.take n)
 |_,_,0,_=>.nil
 |_,_,_+1,.nil=>.nil
 |_,_,n+1,.cons r t=>.cons r<|cR.take n t
theorem cR.drop:∀{xs:O V} {us:O ay} (n:Y),cR xs us->cR (xs.drop n) (us.drop n)
 |_,_,0,r=>r
 |_,_,_+1,.nil=>.nil
 |_,_,n+1,.cons _ t=>cR.drop n t
def yJ:MB V->MB ay->Prop
 |some v,J u=>cQ v u
 |none,C=>True
 |_,_=>MP
def fx{κ:Type}:O (κ×V)->O (κ×ay)->Prop:=Paired λ(p:κ×V) (q:κ×ay)=>p.1=q.1/\cQ p.2 q.2
noncomputable def eV:Key->V
 |.inl i=>.int i
 |.inr x=>.str x
inductive jo where
 |aj (xs:O V)
 |xS (xs:O V)
 |aF (xs:O V)
 |aH (av:O ZS)
 |iu (ks:O<|O Z0×MC)
 |set (cp:D->MF) (n:Y)
 |hb (lo hi:D)
 |eI (o:MT) (u:jo)
 |ext (φ:MJ->Prop)
abbrev aM:=MC->MB jo
noncomputable def c3(H:aM)(a:MC)(o:jo):aM:=λb=>if b=a then J o else H b
def fH:c3 H a o a=J o:=by delta c3;rw[Y2 P]
def ew(h:b≠a):c3 H a o b=H b:=by delta c3;rw[Y3 h]
def qbb{H:aM}{a b:MC}{o u:jo}(h:H a=J o)(h':H b=J u)(d:o≠u):a≠b:=by intro e;subst e;rw[h]at h';show d<|MV h'
def rL{H:aM}{a b:MC}{o:jo}(h:H a=J o)(h':H b=C):a≠b:=by intro e;subst e;rw[h]at h';ext h'
def ni(h:MJ)(a:MC)(Wf:MH ay):Prop:=∃o,h.get? a=J o/\o.cls=.type "tuple" /\ o.dict=C/\∃n,o.Y=.seq Wf n
def ni.aF{h:MJ}{a:MC}{Wf:MH ay}(x:ni h a Wf):IsTup h a Wf:=let ⟨o,aX,aI,_,r⟩:=x;{(o),aX,aI,r}
def ni.new(h:MJ)(Wf:MH ay):ni (h.push { cls:=.type "tuple",data:=.seq Wf}) h.E.O Wf:={_,fZ _ P,P,P,_,P}
theorem ni.lt(x:ni h a Wf):a<h.E.O:=x.aF.lt
noncomputable def DB(prog:dn)(w:cV)(ls:O Z0):D:=reduceHash<|Oy<|ls.map<|CK<|gL prog w
inductive q7 (H:aM):O Z0->O V->Prop
 |nil:q7 H [] []
 |cons {l:O D} {b:MC} {ls:O Z0} {ag:O V} (q:H b=J (.aF<|l.map V.int)) (r:q7 H ls ag):q7 H (l::ls)<|.ref b::ag
def q7.mono(ct:∀b xs,H b=J (.aF xs)->ak b=J (.aF xs))(r:q7 H ls ag):q7 ak ls ag:=by
 induction r with
 |nil=>show .nil
 |cons q _ aQ=>show .cons (ct _ _ q) aQ
def tk(H:aM)(ls:O Z0)(b:MC):Prop:=∃ag,H b=J (.aF ag)/\q7 H ls ag
section
variable (V8:dn)(w:cV)
def gy(H:aM)(h:MJ)(a:MC):jo->Prop
 |.aj xs=>xs.H<=dq/\∃(aZ:O ay) (n:Y),cR xs aZ/\h.get? a=J { cls:=.type "list",data:=.seq aZ.D n}
 |.xS xs=>xs.H<=dq/\∃(aZ:O ay) (n:Y),cR xs aZ/\h.get? a=J { cls:=.type "list",data:=.seq aZ.D n}
 |.aF xs=>xs.H<=dq/\∃aZ:O ay,cR xs aZ/\ni h a aZ.D
 |.aH av=>av.H<=dq/\(a==m5)=Y1/\∃ag,fx av ag/\h.DictOf (hr V8 w) a ag
 |.iu ks=>ks.H<=dq/\(a==m5)=Y1/\(∀k∈ks,tk H k.1 k.2)/\(ks.map (·.1)).Nodup/\∃o es ep,h.get? a=J o/\o.ExactDict/\o.Y=.dict es ep/\es.B=ks.map λk=>{DB V8 w k.1,.ref k.2,.bool Y0}
 |.set cp n=>h.SetOf (gL V8 w) a cp n
 |.hb lo hi=>∃t u v,h.get? a=J { cls:=.type "range",data:=.fields #[.int lo t,.int hi u,.int 1 v]}
 |.eI o u=>h.get? a=J o/\gy H h a u
 |.ext φ=>φ h/\(∃o,h.get? a=J o)/\∀ae ai:MJ,φ ae->(∀o,ae.get? a=J o->ai.get? a=J o)->φ ai
def f7(H:aM)(h:MJ):Prop:=∀a o,H a=J o->gy V8 w H h a o
end
section
variable {V8:dn}{w:cV}{H ak:aM}{h h':MJ}{a:MC}{o:jo}
theorem gy.lt(x:gy V8 w H h a o):a<h.E.O:=by
 induction o using a8.jo.casesOn with
 |aj xs=>let(_,_,_,_,e):=x;show ed e
 |xS xs=>let(_,_,_,_,e):=x;show ed e
 |aF xs=>let(_,_,_,p):=x;show p.lt
 |aH av=>let(_,_,_,_,o,_,_,e,_):=x;show ed e
 |iu ks=>let(_,_,_,_,o,_,_,e,_):=x;show ed e
 |set cp n=>let(o,_,_,_,e,_):=x;show ed e
 |hb lo hi=>let(_,_,_,e):=x;show ed e
 |eI cx u=>let(e,_):=x;show ed e
 |ext φ=>let(_,(_,e),_):=x;show ed e
def gy.mc(x:gy V8 w H h a o)(k:∀u,h.get? a=J u->h'.get? a=J u)(ct:∀b xs,H b=J (.aF xs)->ak b=J (.aF xs)):gy V8 w ak h' a o:=by
 induction o with
 |aj xs=>let(z,aZ,n,r,e):=x;show{z,aZ,n,r,k _ e}
 |xS xs=>let(z,aZ,n,r,e):=x;show{z,aZ,n,r,k _ e}
 |aF xs=>let(z,aZ,r,cx,e,c):=x;show{z,aZ,r,cx,k _ e,c}
 |aH av=>let(z,y,ag,r,cx,es,ep,e,c):=x;show{z,y,ag,r,cx,es,ep,k _ e,c}
 |iu ks =>
  let(z,y,r,bG,cx,es,ep,e,c):=x;show{z,y,λq bc=>let ⟨ag,ae,ai⟩:=r q bc;{ag,ct _ _ ae,ai.mono ct},bG,cx,es,ep,k _ e,c}
 |set cp n=>let(cx,es,ep,t,e,c):=x;show{cx,es,ep,t,k _ e,c}
 |hb lo hi=>let(t,u,v,e):=x;show{t,u,v,k _ e}
 |eI cx u aQ=>let(e,q):=x;show{k _ e,aQ q}
 |ext φ=>let(p,(o,e),st):=x;show{st _ _ p λo q=>k _ q,{o,k _ e},st}
theorem f7.lt(x:f7 V8 w H h)(e:H a=J o):a<h.E.O:=(x a o e).lt
def f7.fresh(x:f7 V8 w H h)(e:h.E.O<=a):H a=C:=by
 cases q:H a with
 |none=>rfl
 |some u=>show MI (dX (x.lt q) e)<|qi _
def f7.kept(x:f7 V8 w H h)(k:∀b u,h.get? b=J u->h'.get? b=J u):f7 V8 w H h':=λa o e =>
 (x a o e).mc (k a) λ_ _ q=>q
def f7.laid(x:f7 V8 w H h)(k:∀b u,h.get? b=J u->h'.get? b=J u)(aC:h.E.O<=a)(new:gy V8 w (c3 H a o) h' a o):f7 V8 w (c3 H a o) h':=λb u e=>by
 let bI:=x.fresh aC;by_cases ao:b=a
 .subst ao;rw[fH]at e;ext e;show new
 .rw[ew ao]at e;show(x b u e).mc (k b) λc xs q=>by rw[ew<|rL q bI];show q
end
def iE(H:aM)(a:MC)(u:jo):Prop:=H a=J u\/∃o,H a=J (.eI o u)
def iE.ok(r:iE H a u)(x:f7 V8 w H h):gy V8 w H h a u:=by
 rcases r with r|⟨o,r⟩
 .show x a u r
 .let(_,q):=x a _ r;show q
def z6:MB jo->Prop
 |some (.aj _)=>True
 |some (.aH _)=>True
 |some (.iu _)=>True
 |some (.set _ _)=>True
 |some (.ext _)=>True
 |_=>MP
section
variable {V8:dn}{w:cV}{H:aM}{h h':MJ}{x e:MC}{dc:jo}
def f7.write(ok:f7 V8 w H h)(ib:z6<|H x)(k:∀b u,b≠x->h.get? b=J u->h'.get? b=J u)(new:gy V8 w (c3 H x dc) h' x dc):f7 V8 w (c3 H x dc) h':=λb u q=>by
 by_cases ao:b=x
 .subst ao;rw[fH]at q;ext q;show new
 .rw[ew ao]at q;show(ok b u q).mc (λv r=>k b v ao r) λc xs r=>by rw[ew λz=>by subst z;rw[r]at ib;show ib];show r
end
structure gA (c7 ex:O MC) (H ak:aM) (h h':MJ):Prop where
 keep:∀b o,h.get? b=J o->H b=C->b∉c7->b∉ex->h'.get? b=J o
 slot:∀b o,h.get? b=J o->H b=C->b∈c7->b∉ex->∃cW,h'.get? b=J { o with slots:=cW}
 free:∀b o,h.get? b=J o->H b=C->b∉ex->ak b=C
 there:∀b o,h.get? b=J o->b∉ex->∃dc,h'.get? b=J dc
 pZ:∀b xs,H b=J (.aF xs)->ak b=J (.aF xs)
 oI:∀b o u,H b=J (.eI o u)->ak b=J (.eI o u)
section
variable {c7 aoy ex aoz:O MC}{H H1 b5:aM}{h ae ai h':MJ}{a x e:MC}{o:jo}
def gA.any(u:gA c7 ex H H1 h ae)(q:h.get? b=J cx)(n:H b=C)(au:b∉ex):∃cW,ae.get? b=J { cx with slots:=cW}:=by
 by_cases ao:b∈c7
 .show u.slot b cx q n ao au
 .show{cx.slots,u.keep b cx q n ao au}
def gA.kept(k:∀b u,h.get? b=J u->h'.get? b=J u):gA c7 ex H H h h' :=
 {λb cx q _ _ _=>k b cx q,λb cx q _ _ _=>{cx.slots,k b cx q},λ_ _ _ n _=>n,λb cx q _=>{cx,k b cx q},λ_ _ q=>q,λ_ _ _ q=>q}
def gA.refl:gA c7 ex H H h h:=gA.kept λ_ _ q=>q
def gA.laid(k:∀b u,h.get? b=J u->h'.get? b=J u)(aC:h.E.O<=a)(bI:H a=C):gA c7 ex H (c3 H a o) h h' where
 keep:=λb u q _ _ _=>k b u q
 slot:=λb u q _ _ _=>{u.slots,k b u q}
 free:=λb u q n _=>by rw[ew<|eP<|dX (ed q) aC];show n
 there:=λb u q _=>{u,k b u q}
 pZ:=λb xs q=>by rw[ew<|rL q bI];show q
 oI:=λb u xs q=>by rw[ew<|rL q bI];show q
def gA.write(ib:z6<|H x)(k:∀b u,b≠x->h.get? b=J u->h'.get? b=J u)(IB:∃u,h'.get? x=J u):gA c7 ex H (c3 H x o) h h':=by
 let hm:∀b u,H b=u->¬z6 u->b≠x:=λb u q nm z=>by subst z;rw[q]at ib;show nm ib
 show{λb u q n _ _=>k b u (hm b _ n id) q,λb u q n _ _=>{u.slots,k b u (hm b _ n id) q},λb u q n _=>by rw[ew<|hm b _ n id];show n,λb u q _=>?_,λb xs q=>by rw[ew<|hm b _ q id];show q,λb u xs q=>by rw[ew<|hm b _ q id];show q};by_cases ao:b=x
 .subst ao;show IB
 .show{u,k b u ao q}
end
noncomputable def DC(h:MJ)(H:aM):O MC:=(M0 h.E.O).filter λa=>(H a).isSome
def sj(h:MJ)(H:aM):MJ:=W.hideAll h<|DC h H
def aaD(h:MJ)(H:aM):(sj h H).E.O=h.E.O:=W.hideAll_size _ _
def ami(e:h.get? b=J o)(n:H b=C):(sj h H).get? b=J o :=
 W.hideAll_get _ e λhm=>by let q:(H b).isSome=Y0:=(mY.mp hm).2;rw[n]at q;simp at q
def akt(e:(sj h H).get? b=J o):h.get? b=J o/\H b=C:=by
 let bH:h.get? b=J o:=W.of_hideAll (DC h H) e;show{bH,?_};cases q:H b with
 |none=>rfl
 |some x =>
  let hm:b∈DC h H:=mY.mpr {mZ.mpr<|ed bH,by simp[q]};let z:(sj h H).get? b=C:=W.hideAll_none (DC h H) hm;rw[z]at e;ext e
noncomputable def aku(g h:MJ)(tw:MC):O Z2:=(M0 h.E.O).filterMap λa=>if a=tw\/(g.get? a).isSome=Y0 then C else(h.get? a).map λo=>(a,o)
def rest(g h:MJ)(tw d:MC):O Z2:=(aku g h tw).filter λp=>decide (p.1≠d)
structure Mod (K:MN) (bf:ME->MB ay) (base:MJ):Prop where
 fI:K.In base
 glob:base.Ns k4 bf
 blt:∃lU,base.Ns builtinsNs lU/\∀x:ME,x ≠ "__name__" -> lU x=nZ x
 nolimit:base.NoLimit
structure bK where
 prog:dn
 w:cV
 K:MN
 bf:ME->MB ay
 base:MJ
 A:dH
 N:O ME
 cT:aN
 dS:aM
 env:Env
 cu:O Env
 stack:O Env
 ex:O MC
 fn:ME->MF
 calm:MF
 gB:O Z2
 cL:ay->aN->Prop
noncomputable def hK(l:O Env):O MC:=l.filterMap (·.frame)
abbrev bK.c7(X:bK):O MC:=hK X.cu
def qF(sc:jN)(x:ME):Prop:=sc.names.lookup x=J .local\/sc.names.lookup x=J .cell\/sc.names.lookup x=J .free
def Loc(sc:jN)(x:ME):Prop:=sc.names.lookup x=J .local\/sc.names.lookup x=J .cell
def Look(env:Env)(h:MJ)(m:ME->MB ay)(x:ME)(u:ay):Prop :=
 (env.kindOf x=J .local/\m x=J u)\/((env.kindOf x=J .cell\/env.kindOf x=J .free)/\∃c,env.cells.lookup x=J c/\h.IsCell c (J u))
structure bK.Ok (X:bK):Prop where
 mod:Mod X.K X.bf X.e
 kind:X.I.h.kind=.function
 glob:X.I.globals=k4
 blt:X.I.builtins=builtinsNs
 above:X.cT.L<=X.env.locals
 inj:∀x y c,X.env.cells.lookup x=J c->X.env.cells.lookup y=J c->x=y
 has:∀x,(X.env.kindOf x=J .cell\/X.env.kindOf x=J .free)->∃c,X.env.cells.lookup x=J c
 rM:∀x c,X.fn x=Y0->X.env.cells.lookup x=J c->X.cT.L<=c
 hd:X.calm=Y0->X.A.handled=C
 frames:X.A.frames=J X.stack
 tl:X.stack=X.cu\/(X.stack=X.I::X.cu/\X.I.frame=J X.I.locals)
 tm:∀b∈X.ex,b≠X.I.locals/\∀x c,X.env.cells.lookup x=J c->c≠b
 bs:∀b o,X.base.get? b=J o->X.cT.heap.get? b=J o/\X.dS b=C
 nj:X.e.E.O<=X.cT.L
 sk:∀b o,X.base.get? b=J o->b∉X.ex
 sl:∀b∈X.ex,b∉X.c7
 kS:X.cT.heap.FunFrames X.e X.cu
 pn:∀b∈X.c7,X.dS b=C
structure aT (X:bK) (ah:O Z2) (U:O<|MB V) (H:aM) (s:aN):Prop where
 ok:X.Ok
 os:s.os=X.cT.os
 dx:oX s.gens
 base:gA X.c7 X.ex X.dS H X.cT.Q s.Q
 loc:∃m,s.heap.Ns X.I.locals m/\∀(i:Y) (x:ME) (v:V),X.N[i]?=J x->U[i]?=J (J v)->qF X.I.h x->∃u,cQ v u/\Look X.I s.Q m x u
 cell:∀x c,X.env.cells.lookup x=J c->∃v,s.heap.IsCell c v
 free:H X.I.locals=C
 kW:∀x c,X.env.cells.lookup x=J c->H c=C
 pin:∀p∈X.gB++ah,s.heap.get? p.1=J p.2/\H p.1=C/\p.1≠X.I.locals/\p.1∉X.c7/\∀v,p.2.Y≠.cell v
 bX:f7 X.R X.w H s.Q
 len:U.H=X.N.H
section
variable {X:bK}{ah:O Z2}{U:O<|MB V}{H ak:aM}{s:aN}{h':MJ}
def bK.Ok.agt(ok:X.Ok)(e:X.base.get? b=J o):b∉X.c7:=λao=>by let:=(ok.kS.mem ao).1;rw[e]at this;ext this
theorem aT.bs(I:aT X ah U H s):∀b o,X.base.get? b=J o->s.heap.get? b=J o/\H b=C:=λb o e =>
 {I.base.keep b o (I.ok.bs b o e).1 (I.ok.bs b o e).2 (I.ok.agt e) (I.ok.sk b o e),I.base.free b o (I.ok.bs b o e).1 (I.ok.bs b o e).2 (I.ok.sk b o e)}
def aT.eD(I:aT X ah U H s):∀b o,X.base.get? b=J o->s.heap.get? b=J o:=λb o e=>(I.bs b o e).1
theorem aT.mod(I:aT X ah U H s):Mod X.K X.bf X.e:=I.ok.mod
def aT.iJ(I:aT X ah U H s):X.K.In s.Q:=I.ok.mod.fI.keeps I.eD
theorem aT.lt(I:aT X ah U H s):X.I.locals<s.L:=let ⟨_,bI,_⟩:=I.loc;bI.lt
def aT.bQ(I:aT X ah U H s):X.cT.L<=s.L:=bw I.ok.above<|ei I.lt
def aT.agu(I:aT X ah U H s){a:MC}(h:s.L<=a):a∉X.c7:=λao=>by let(_,o,aX,_):=I.ok.kS.mem ao;show MI (dX (ed aX)<|bw I.bQ h)<|qi _
def aT.pq(I:aT X ah U H s):∀x c,X.env.cells.lookup x=J c->c≠X.I.locals:=λx c e z=>by let(v,o,aX,hd):=I.cell x c e;let(m,(dc,es,ep,jX,nk,_),_):=I.loc;rw[z,jX]at aX;ext aX;rw[nk]at hd;ext hd
theorem aT.kS(I:aT X ah U H s):s.heap.FunFrames X.e X.cu:=by
 let all:∀(l:O Env),(∀b∈hK l,b∈X.c7)->X.cT.heap.FunFrames X.e l->s.heap.FunFrames X.e l:=by
  intro l
  induction l with
  |nil=>intro _ _;trivial
  |cons env r aQ =>
   intro aK az;let(aW,(tw,o,hf,bI,aX,hd),a4):=az;let fh:tw∈X.c7:=aK tw (by delta hK;rw[wO,hf];show cc);let(cW,e):=I.base.slot tw o aX (I.ok.pn tw fh) fh λz=>I.ok.sl tw z fh;show{aW,{tw,_,hf,bI,e,hd},aQ (λb ao=>aK b<|by delta hK;rw[wO,hf];show cZ _ ao) a4}
 show all X.cu (λ_ ao=>ao) I.ok.kS
theorem aT.stack(I:aT X ah U H s):s.heap.FunFrames X.e X.stack:=by
 rcases I.ok.tl with e|⟨e,hf⟩
 .rw[e];show I.kS
 .rw[e];let(m,bI,_):=I.loc;show .cons (by rw[I.ok.kind];decide) hf bI ?_ I.kS;show Heap.get?_none_of_le<|bw I.ok.nj I.ok.above
def aT.Ms(I:aT X ah U H s):∀b∈hK X.stack,b∈X.I.locals::X.c7:=λb ao=>by
 rcases I.ok.tl with e|⟨e,hf⟩
 .rw[e]at ao;show cZ _ ao
 .rw[e]at ao;delta hK at ao;rw[wO,hf]at ao;show ao
def aT.GO(I:aT X ah U H s):∀b∈hK X.stack,H b=C:=λb ao=>by
 rcases cF.mp (I.Ms b ao) with e|ao
 .rw[e];show I.free
 .let(_,o,aX,_):=I.ok.kS.mem ao;show I.base.free b o aX (I.ok.pn b ao) λz=>I.ok.sl b z ao
def aT.step{g':MH GenState}{t':Y}{d':Drawn}{ch:O MC}(I:aT X ah U H s)
  (qG:∀b∈ch,(b∈X.ex\/X.cT.L<=b)/\b≠X.I.locals/\(∀x c,X.env.cells.lookup x=J c->c≠b)/\∀p∈X.gB++ah,p.1≠b)
  (keep:∀b o,b≠X.I.locals->b∉X.c7->b∉ch->s.heap.get? b=J o->H b=C->h'.get? b=J o)
  (slot:∀b o,b≠X.I.locals->b∈X.c7->b∉ch->s.heap.get? b=J o->H b=C->∃cW,h'.get? b=J { o with slots:=cW}) (free:∀b o,b∉ch->s.heap.get? b=J o->H b=C->ak b=C)
  (there:∀b o,b∉ch->s.heap.get? b=J o->∃dc,h'.get? b=J dc)
  (pZ:∀b xs,H b=J (.aF xs)->ak b=J (.aF xs)) (oI:∀b o u,H b=J (.eI o u)->ak b=J (.eI o u))
  (ns:∀m,s.heap.Ns X.I.locals m->h'.Ns X.I.locals m) (bX:f7 X.R X.w ak h') (bL:oX g') :
  aT X ah U ak { s with heap:=h',gens:=g',drawn:=d',toks:=t'}:=by
 let Oh:∀b o,X.cT.heap.get? b=J o->b≠X.I.locals:=λb o e=>eP<|dX (ed e) I.ok.above;let DD:∀b o,X.cT.heap.get? b=J o->b∉X.ex->b∉ch:=λb o e au ao=>by
  rcases(qG b ao).1 with z|z
  .show au z
  .show MI (dX (ed e) z)<|qi _
 let cellK:∀x c,X.env.cells.lookup x=J c->∀v,s.heap.IsCell c v->h'.IsCell c v:=λx c e v ⟨o,aX,hd⟩=>by
  let z7:c∉ch:=λz=>(qG c z).2.2.1 x c e P;by_cases aI:c∈X.c7
  .let(cW,q):=slot c o (I.pq x c e) aI z7 aX<|I.kW x c e;show{_,q,hd}
  .show{o,keep c o (I.pq x c e) aI z7 aX<|I.kW x c e,hd}
 show{I.ok,I.os,bL,⟨λb o e n ao au=>?_,λb o e n ao au=>?_,λb o e n au=>?_,λb o e au=>?_,λb xs e=>pZ b xs<|I.base.pZ b xs e,λb o xs e=>oI b o xs<|I.base.oI b o xs e⟩,?_,λx c e=>?_,?_,λx c e=>?_,λp aC=>?_,bX,I.len}
 .show keep b o (Oh b o e) ao (DD b o e au) (I.base.keep b o e n ao au)<|I.base.free b o e n au
 .let(cW,aB):=I.base.slot b o e n ao au;let(DE,ax):=slot b _ (Oh b o e) ao (DD b o e au) aB<|I.base.free b o e n au;show{(DE),ax}
 .let(dc,aB):=I.base.there b o e au;show free b dc (DD b o e au) aB<|I.base.free b o e n au
 .let(dc,aB):=I.base.there b o e au;show there b dc (DD b o e au) aB
 .let(m,bI,az):=I.loc;show{m,ns m bI,λi x v aB ax bq=>?_};let(u,r,l):=az i x v aB ax bq;show{u,r,?_};rcases l with l|⟨k,c,e,z⟩
  .show .inl l
  .show .inr {k,c,e,cellK x c e _ z}
 .let(v,z):=I.cell x c e;show{v,cellK x c e v z}
 .let(m,(o,_,_,aX,_),_):=I.loc;show free _ o (λz=>(qG _ z).2.1 P) aX I.free
 .let(v,o,aX,hd):=I.cell x c e;show free c o (λz=>(qG c z).2.2.1 x c e P) aX<|I.kW x c e
 .let(e,n,ne,n3,d):=I.pin p aC;let z7:p.1∉ch:=λz=>(qG p.1 z).2.2.2 p aC P;show{keep p.1 p.2 ne n3 z7 e n,free p.1 p.2 z7 e n,ne,n3,d}
def aT.un{t':Y}(I:aT X ah U H s)(u:gA X.c7 [] H ak s.Q h')(bX:f7 X.R X.w ak h'):aT X ah U ak { s with heap:=h',toks:=t'}:=by
 let(m,(o,es,ep,aX,r),_):=id I.loc;let(cW,fh):=u.any aX I.free Z5
 show I.step (g':=s.gens) (d':=s.drawn) (ch:=[]) (λ_ z=>nomatch z) (λb o _ ao _ e n=>u.keep b o e n ao Z5) (λb o _ ao _ e n=>u.slot b o e n ao Z5) (λb o _ e n=>u.free b o e n Z5) (λb o _ e=>u.there b o e Z5) u.pZ u.oI (λf3 hm=>by
  let(dc,iK,tn,jX,bU):=hm;rw[aX]at jX;ext jX
  show{_,iK,tn,fh,bU}) bX I.dx
def aT.call{t':Y}(I:aT X ah U H s)(u:gA (hK X.stack) ch H ak s.Q h')(bX:f7 X.R X.w ak h')(bL:oX g')
  (qG:∀b∈ch,(b∈X.ex\/X.cT.L<=b)/\b≠X.I.locals/\(∀x c,X.env.cells.lookup x=J c->c≠b)/\∀p∈X.gB++ah,p.1≠b) :
  aT X ah U ak { s with heap:=h',gens:=g',drawn:=d',toks:=t'}:=by
 let(m,(o,es,ep,aX,r),_):=id I.loc;let(cW,fh):=u.any aX I.free λz=>(qG _ z).2.1 P
 show I.step (ch:=ch) qG (λb o fh ao aI e n=>u.keep b o e n (λz=>(cF.mp<|I.Ms b z).elim fh ao) aI) (λb o _ _ aI e n=>u.any e n aI) (λb o aI e n=>u.free b o e n aI) (λb o aI e=>u.there b o e aI) u.pZ u.oI (λf3 hm=>by
  let(dc,iK,tn,jX,bU):=hm;rw[aX]at jX;ext jX
  show{_,iK,tn,fh,bU}) bX bL
def aT.turned{t':Y}(I:aT X ah U H s)(k:∀b o,b≠it->s.heap.get? b=J o->h'.get? b=J o)(bI:H it=C)(fh:it≠X.I.locals)
  (ae:it∈X.ex\/X.cT.L<=it) (ai:∀x c,X.env.cells.lookup x=J c->c≠it) (aS:∀p∈X.gB++ah,p.1≠it):aT X ah U H { s with heap:=h',toks:=t'}:=by
 let IC:∀b u,H b=J u->b≠it:=λb u e z=>by rw[z,bI]at e;ext e
 show I.step (g':=s.gens) (d':=s.drawn) (ch:=[it]) (λb ao=>?_) (λb o _ _ aI e _=>k b o (λz=>aI<|by simp[z]) e) (λb o _ _ aI e _=>⟨o.slots,k b o (λz=>aI<|by simp[z]) e⟩) (λ_ _ _ _ n=>n)
  (λb o aI e=>⟨o,k b o (λz=>aI<|by simp[z]) e⟩) (λ_ _ e=>e) (λ_ _ _ e=>e) (λm hm=>?_) (λb u e=>?_) I.dx
 .let e:b=it:=by simpa using ao
  subst e;show{(ae),fh,ai,aS}
 .let(o,es,ep,aX,r):=hm;show{o,es,ep,k _ o (M4 fh) aX,r}
 .show(I.bX b u e).mc (λv q=>k b v (IC b u e) q) λ_ _ q=>q
def aT.tok(I:aT X ah U H s)(t:Y):aT X ah U H { s with toks:=t}:=I.un (h':=s.Q) (t':=t) gA.refl I.bX
theorem aT.kept{t':Y}(I:aT X ah U H s)(k:∀b u,s.heap.get? b=J u->h'.get? b=J u):aT X ah U H { s with heap:=h',toks:=t'}:=I.un (gA.kept k) (I.bX.kept k)
theorem aT.laid{a:MC}{o:jo}{t':Y}(I:aT X ah U H s)(k:∀b u,s.heap.get? b=J u->h'.get? b=J u)(aC:s.L<=a)(new:gy X.R X.w (c3 H a o) h' a o) :
  aT X ah U (c3 H a o) { s with heap:=h',toks:=t'}:=I.un (gA.laid k aC (I.bX.fresh aC)) (I.bX.laid k aC new)
theorem aT.write{t':Y}(I:aT X ah U H s)(ib:z6<|H x)(k:∀b u,b≠x->s.heap.get? b=J u->h'.get? b=J u)(IB:∃u,h'.get? x=J u)
  (new:gy X.R X.w (c3 H x o) h' x o):aT X ah U (c3 H x o) { s with heap:=h',toks:=t'}:=I.un (gA.write ib k IB) (I.bX.write ib k new)
def aT.qbc(I:aT X ah U H s)(h:∀p∈Gr,s.heap.get? p.1=J p.2/\H p.1=C/\p.1≠X.I.locals/\p.1∉X.c7/\∀v,p.2.Y≠.cell v):aT X Gr U H s :=
 {I.ok,I.os,I.dx,I.e,I.loc,I.cell,I.free,I.kW,λp aC=>(i9.mp aC).elim (λz=>I.pin p<|nO _ z) (h p),I.bX,I.len}
def DF{N:O ME}(eu:N.Nodup){i j:Y}(a:N[i]?=J x)(b:N[j]?=J x):i=j:=by let(ae,aB):=kY.mp a;let(ai,ax):=kY.mp b;show(qaK eu).mp (aB.trans ax.symm)
def qbd{i:Y}(I:aT X ah U H s)(eu:X.N.Nodup)(hi:X.N[i]?=J x)(au:Loc X.I.h x)(r:cQ v u)
  (h:∀s',aT X ah (U.set i<|some v) H s'->(∃a,Ni a s.Q s'.Q/\(a=X.I.locals\/X.env.cells.lookup x=J a))->Q () s') (hf:MD (X.fn x=Y0\/X.env.scope.names.lookup x=J .local) ro):bj M A (storeName X.I x u) Q E s:=by
 let(m,bI,az):=id I.loc;let L0:(X.I.h.kind==.class||(X.I.h.kind==.module&&X.I.locals != X.I.globals))=Y1:=by rw[I.ok.kind];rfl
 let Oj:i<U.H:=by rw[I.len];show(kY.mp hi).1
 let pq:=I.pq;let tracked:∀{a:MC} {h':MJ},(∃o,s.heap.get? a=J o/\H a=C)->Ni a s.Q h'->f7 X.R X.w H h':=λ{a h'} bl aK b cx e=>by let(_,_,Gs):=bl;show(I.bX b cx e).mc (λfB q=>(aK.2 b<|by rintro rfl;rw[Gs]at e;cases e).trans q) λ_ _ q=>q
 rcases au with aW|aW
 .show wpAny_storeName_local aW bI (λh' ID aK=>?_) L0;let(Nr,_,_,xT,_):=id bI;show h _ {I.ok,I.os,I.dx,{λb o e n ao au=>?_,λb o e n ao au=>?_,I.e.free,λb o e au=>?_,I.e.pZ,I.e.oI},{_,ID,λj y f5 aB ax bq=>?_},λy c e=>?_,I.free,I.kW,λp aC=>?_,tracked {(Nr),xT,I.free} aK,by simpa using I.len} {_,aK,.inl P}
  .show(aK.2 b<|eP<|dX (ed e) I.ok.above).trans (I.base.keep b o e n ao au)
  .let(cW,aB):=I.base.slot b o e n ao au;show{cW,(aK.2 b<|eP<|dX (ed e) I.ok.above).trans aB}
  .let(dc,aB):=I.base.there b o e au;show{dc,(aK.2 b<|eP<|dX (ed e) I.ok.above).trans aB}
  .by_cases bJ:j=i
   .subst bJ;rw[hi]at aB;ext aB;rw[GW Oj]at ax
    ext ax
    show{u,r,.inl {aW,by simp}}
   .rw[G0<|M4 bJ]at ax;let(ft,bU,q):=az j y f5 aB ax bq;show{ft,bU,?_};rcases q with⟨k,e⟩|⟨k,c,e,z⟩
    .show .inl {k,?_};let:y≠x:=λe=>bJ<|DF eu aB<|e▸hi;simp[this,e]
    .show .inr {k,c,e,z.sameBut aK<|pq y c e}
  .let(fB,z):=I.cell y c e;show{fB,z.sameBut aK<|pq y c e}
  .let(e,n,ne,n3,d):=I.pin p aC;show{(aK.2 p.1 ne).trans e,n,ne,n3,d}
 .let IE:X.fn x=Y0:=by
   rcases hf with z|z
   .show z
   .rw[z]at aW;ext aW
  let(c,aI):=I.ok.has x<|.inl aW;let(fB,z):=I.cell x c aI;show wpAny_storeName_cell I.ok.kind aW aI z λh' rN aK=>?_;let(jP,Ol,agv):=id z;show h { s with heap:=h'} ⟨I.ok,I.os,I.dx,⟨λb o e n ao au=>?_,λb o e n ao au=>?_,I.e.free,λb o e au=>?_,I.e.pZ,I.e.oI⟩,⟨m,bI.sameBut aK<|M4<|pq x c aI,λj y f5 aB ax bq=>?_⟩,λy cM e=>?_,I.free,I.kW,λp aC=>?_,tracked ⟨jP,Ol,I.kW x c aI⟩ aK,by simpa using I.len⟩ ⟨c,aK,.inr aI⟩
  .show(aK.2 b<|eP<|dX (ed e)<|I.ok.rM x c IE aI).trans (I.base.keep b o e n ao au)
  .let(cW,aB):=I.base.slot b o e n ao au;show{cW,(aK.2 b<|eP<|dX (ed e)<|I.ok.rM x c IE aI).trans aB}
  .let(dc,aB):=I.base.there b o e au;show{dc,(aK.2 b<|eP<|dX (ed e)<|I.ok.rM x c IE aI).trans aB}
  .by_cases bJ:j=i
   .subst bJ;rw[hi]at aB;ext aB;rw[GW Oj]at ax
    ext ax
    show{u,r,.inr {.inl aW,c,aI,rN}}
   .rw[G0<|M4 bJ]at ax;let(ft,bU,q):=az j y f5 aB ax bq;show{ft,bU,?_};rcases q with q|⟨k,cM,e,m9⟩
    .show .inl q
    .show .inr {k,cM,e,m9.sameBut aK ?_};rintro rfl;show bJ<|DF eu aB<|I.ok.inj _ _ _ e aI▸hi
  .by_cases Om:cM=c
   .subst Om;show{_,rN}
   .let(iF,dU):=I.cell y cM e;show{iF,dU.sameBut aK Om}
  .let(e,n,ne,n3,d):=I.pin p aC;show{(aK.2 p.1 ?_).trans e,n,ne,n3,d};intro q;rw[q,Ol]at e;let ej:jP=p.2:=MV e;show d fB (by rw[<-ej];show agv)
def IF{i:Y}(I:aT X ah U H s)(eu:X.N.Nodup)(hi:X.N[i]?=J x)(au:Loc X.I.h x)(r:cQ v u)
  (h:∀s',aT X ah (U.set i<|some v) H s'->Q () s') (hf:MD (X.fn x=Y0\/X.env.scope.names.lookup x=J .local) ro):bj M A (storeName X.I x u) Q E s :=
 qbd I eu hi au r (λs' eL _=>h s' eL) hf
def aT.Gu(I:aT X ah U H s)(aX:s'.os=s.os)(u:gA (hK X.stack) ch H ak s.Q s'.Q)(bX:f7 X.R X.w ak s'.Q)(bL:oX s'.gens)
  (qG:∀b∈ch,(b∈X.ex\/X.cT.L<=b)/\b≠X.I.locals/\(∀x c,X.env.cells.lookup x=J c->c≠b)/\∀p∈X.gB++ah,p.1≠b):aT X ah U ak s':=by
 let(h',g',d',t',dc):=s';let e:dc=s.os:=aX;subst e;show I.call (g':=g') (t':=t') (d':=d') u bX bL qG
end
abbrev iS:=ay->MB MC->aM->Prop
abbrev St:=O<|MB V
abbrev fC:=V->aM->Prop
abbrev TE:=St->aM->fC->Prop
abbrev TT:=St->aM->(MF->aM->Prop)->Prop
abbrev k7:=St->aM->(O V->aM->Prop)->Prop
structure Ends where
 bC:St->aM->Prop
 ba:fC
 eD:St->aM->Prop:=λ_ _=>MP
 eZ:St->aM->Prop:=λ_ _=>MP
abbrev k8:=Ends->St->aM->Prop
def gs(X:bK)(ah:O Z2)(U:St)(Q:fC)(u:ay)(s':aN):Prop:=∃v ak,aT X ah U ak s'/\cQ v u/\Q v ak
def CR(X:bK)(ah:O Z2)(U:St)(Q:MF->aM->Prop)(b:MF)(s':aN):Prop:=∃ak,aT X ah U ak s'/\Q b ak
def qab(X:bK)(ah:O Z2)(U:St)(Q:O V->aM->Prop)(us:O ay)(s':aN):Prop:=∃ag ak,aT X ah U ak s'/\cR ag us/\Q ag ak
def oY(X:bK)(ah:O Z2)(OG:Ends)(f:Flow)(s':aN):Prop :=
 match f with
 |.next=>∃U' ak,aT X ah U' ak s'/\OG.bC U' ak
 |.brk=>∃U' ak,aT X ah U' ak s'/\OG.eD U' ak
 |.cont=>∃U' ak,aT X ah U' ak s'/\OG.eZ U' ak
 |.ret u=>∃v U' ak,aT X ah U' ak s'/\cQ v u/\OG.ba v ak
def eE(X:bK)(e:MG)(t:TE):Prop :=
 ∀(ah:O Z2) (s:aN) (U:St) (H:aM) (Q:fC),aT X ah U H s->t U H Q->bj Z4 X.A (MO e X.I) (gs X ah U Q) X.cL s
def n4(X:bK)(e:MG)(t:TT):Prop :=
 ∀(ah:O Z2) (s:aN) (U:St) (H:aM) (Q:MF->aM->Prop),aT X ah U H s->t U H Q->bj Z4 X.A (isTrue e X.I<|MO e X.I) (CR X ah U Q) X.cL s
def zu(X:bK)(e:MG)(t:TT):Prop :=
 ∀(whole:Sem ay) (ah:O Z2) (s:aN) (U:St) (H:aM) (Q:MF->aM->Prop),aT X ah U H s->t U H Q->bj Z4 X.A (isTrue e X.I whole) (CR X ah U Q) X.cL s
def zu.pt(h:zu X e t):n4 X e t:=h _
def n5(X:bK)(es:O MG)(t:k7):Prop :=
 ∀(pos:MK) (ah:O Z2) (s:aN) (U:St) (H:aM) (Q:O V->aM->Prop),aT X ah U H s->t U H Q->bj Z4 X.A (sR<|gM pos<|cA es X.I) (qab X ah U Q) X.cL s
def oZ(X:bK)(st:MM)(t:k8):Prop :=
 ∀(ah:O Z2) (s:aN) (U:St) (H:aM) (OG:Ends),aT X ah U H s->t OG U H->bj Z4 X.A (exec st X.I) (oY X ah OG) X.cL s
def kG(X:bK)(st:O MM)(t:k8):Prop :=
 ∀(ah:O Z2) (s:aN) (U:St) (H:aM) (OG:Ends),aT X ah U H s->t OG U H->bj Z4 X.A (execs st X.I) (oY X ah OG) X.cL s
def cm{α:Type}{t:Sem α}{Q fi:α->aN->Prop}{M:Model}(h:bj M A t Q E s)(hQ:∀a s,Q a s->fi a s):bj M A t fi E s:=hE h hQ λ_ _ x=>x
section
variable {X:bK}
def agw(i:Y):TE:=λU H Q=>∃v,U[i]?=J (J v)/\Q v H
def xd(v:V):TE:=λ_ H Q=>Q v H
def ve{i:Y}(eu:X.N[i]?=J x)(bu:qF X.I.h x)(hd:MD ZF eY)(hs:MD ((x==("__classdict__" : ME))=Y1) eY):eE X (.Name x pos)<|agw i:=by
 intro ah s U H Q I h;let(v,e,h):=h;let(m,bI,az):=I.loc;let(u,r,l):=az i x v eu e bu;let fin:gs X ah U Q u s:={(v),H,I,r,h}
 rcases l with⟨aW,hm⟩|⟨aW,c,aI,UJ⟩
 .show wpAny_Name (wpAny_loadName_local I.ok.kind aW bI hm fin) hd
 .rcases aW with aW|aW
  .show wpAny_Name (wpAny_loadName_cell I.ok.kind aW aI UJ fin) hd
  .show wpAny_Name (wpAny_loadName_free I.ok.kind aW aI UJ fin hs) hd
def IG{i j pos}:eE X (.Constant (.int i) j pos)<|xd<|.int i:=λ_ _ _ H _ I h=>wpAny_Constant_int {.int i,H,I.tok _,{_,P},h}
def ahp{b j pos}:eE X (.Constant (.bool b) j pos)<|xd<|.aU b:=λ_ _ _ H _ I h=>Constant_bool {.aU b,H,I,P,h}
def aiJ{j pos}:eE X (.Constant .none j pos)<|xd .b0:=λ_ _ _ H _ I h=>HQ {.b0,H,I,P,h}
def IH{x j pos}:eE X (.Constant (.str x) j pos)<|xd<|.str x:=λ_ _ _ H _ I h=>Calls.Constant_str {.str x,H,I.tok _,{_,P},h}
def fP(X:bK)(x:ME):Prop:=X.env.kindOf x=J .globalImplicit
def vf{E:ay->aN->Prop}{ah:O Z2}{s:aN}{U:St}{H:aM}{x:ME}{u:ay}{pos:MK}{Q:ay->aN->Prop}(I:aT X ah U H s)(bL:fP X x)(hm:X.bf x=J u)(h:Q u s)
  (hd:MD ZF eY):bj Z4 X.A (MO (.Name x pos) X.I) Q E s :=
 Calls.Name_function_global I.ok.kind bL (Calls.loadGlobal_global (by rw[I.ok.glob];show I.mod.glob.keeps I.eD) hm h) hd
def nq{E:ay->aN->Prop}{ah:O Z2}{s:aN}{U:St}{H:aM}{x:ME}{u:ay}{pos:MK}{Q:ay->aN->Prop}(I:aT X ah U H s)(bL:fP X x)(hm:X.bf x=C)(bu:nZ x=J u)(h:Q u s)
  (bI:MD (x ≠ "__name__") eY) (hd:MD ZF eY):bj Z4 X.A (MO (.Name x pos) X.I) Q E s:=by
 let(lU,ae,ai):=I.mod.blt;show Calls.Name_function_global I.ok.kind bL (Calls.loadGlobal_builtin (by rw[I.ok.glob];show I.mod.glob.keeps I.eD) hm (by rw[I.ok.blt];show ae.keeps I.eD) ((ai x bI).trans bu) h) hd
def akv(bL:fP X x)(hm:X.bf x=J u)(r:cQ v u)(hd:MD ZF eY):eE X (.Name x pos) (xd v) :=
 λ_ _ _ H _ I h=>vf I bL hm {(v),H,I,r,h} hd
variable {a b:MG}{ta tb:TE}{pos:MK}
def HS(X:bK)(op:CmpOp)(a b:MG)(t:TE):Prop :=
 ∀(ah:O Z2) (s:aN) (U:St) (H:aM) (Q:fC),aT X ah U H s->t U H Q ->
  bj Z4 X.A (MO a X.I) (λv d2=>bj Z4 X.A (MO b X.I) (λu gC=>bj Z4 X.A (hn op v u) (gs X ah U Q) X.cL gC) X.cL d2) X.cL s
def amh(b:MG)(h:op≠.In)(ai:op≠.NotIn):zp op b=Y1:=by
 let aB:(op==CmpOp.In)=Y1:=by ext op<;>first|rfl|show MI P h
 let ax:(op==CmpOp.NotIn)=Y1:=by ext op<;>first|rfl|show MI P ai
 ext b<;>simp[zp,aB,ax]
def agx(ta:TE):TE:=λU H Q=>ta U H λx H1=>Q (.aU<|decide (x=.b0)) H1
def ahq(ta:TE):TE:=λU H Q=>ta U H λx H1=>Q (.aU<|!decide (x=.b0)) H1
def cQ.qbe(r:cQ x v):(v==M9)=decide (x=.b0):=by
 induction x using a8.V.casesOn with
 |b0=>ext r;rfl
 |aU _=>ext r;rfl
 |int _=>let(t,rfl):=r;rfl
 |str _=>let(t,rfl):=r;rfl
 |tj _=>let(t,rfl):=r;rfl
 |vd _=>let(t,rfl):=r;rfl
 |ref _=>ext r;rfl
 |ty _=>ext r;rfl
def aiK{j pos'}(bl:eE X a ta):HS X .Is a (.Constant .none j pos')<|agx ta:=by intro ah s U H Q I h;show cm (bl ah s U H _ I h) λv s1 ⟨x,H1,bt,bx,aV⟩=>?_;show HQ<|is_none_gen {.aU _,H1,bt,by rw[bx.qbe];rfl,aV}
def akw{j pos'}(bl:eE X a ta):HS X .IsNot a (.Constant .none j pos')<|ahq ta:=by intro ah s U H Q I h;show cm (bl ah s U H _ I h) λv s1 ⟨x,H1,bt,bx,aV⟩=>?_;show HQ<|isnot_none_gen {.aU _,H1,bt,by rw[bx.qbe];rfl,aV}
def qac(t:TE):TT:=λU H Q=>t U H λx H1=>∃c,x=.aU c/\Q c H1
def qbf(h:HS X op a b t)(ae:MD (zp op b=Y1) az8._auto_1):n4 X (.Compare a [op] [b] pos)<|qac t:=by
 intro ah s U H Q I hw;show wpAny_isTrue_Compare1 (cm (h ah s U H _ I hw) λv s1 ae=>cm ae λu s2 ai=>cm ai λc s3 ⟨x,H1,bt,bx,aV⟩=>?_) ae;let(d,rfl,q):=aV
 ext bx
 show uv {(H1),bt,q}
variable {tA aoA:TT}{rest:O MG}
def agy(t:TT):TT:=λU H Q=>t U H λc H1=>Q (!c) H1
def akx(bl:n4 X a tA):zu X (.BoolOp .And [a] pos) tA:=by
 intro zv ah s U H Q I h;show isTrue_and (cm (bl ah s U H Q I h) λc s1 e=>?_);cases c with
 |true=>show isTrue_and_nil e
 |false=>show e
def aiL(bl:n4 X a tA):zu X (.BoolOp .Or [a] pos) tA:=by
 intro zv ah s U H Q I h;show isTrue_or (cm (bl ah s U H Q I h) λc s1 e=>?_);cases c with
 |false=>show isTrue_or_nil e
 |true=>show e
def aiM(bl:n4 X a tA):n4 X (.UnaryOp .Not a pos)<|agy tA:=by intro ah s U H Q I h;show isTrue_not<|bl ah s U H (λc H1=>Q (!c) H1) I h
def aiN{op}(h:eE X a t):eE X (.BoolOp op [a] pos) t:=λah s U H Q I hw=>BoolOp_one<|h ah s U H Q I hw
def aaE(t:TT)(ta tb:TE):TE:=λU H Q=>t U H λc H1=>if c=Y0 then ta U H1 Q else tb U H1 Q
def amj(aI:n4 X c tA)(bl:eE X a ta)(ao:eE X b tb):eE X (.IfExp c a b pos)<|aaE tA ta tb:=by
 intro ah s U H Q I h;show wpAny_IfExp (cm (aI ah s U H _ I h) λd s1 ⟨H1,bt,aV⟩=>?_);cases d with
 |true=>show bl ah s1 U H1 Q bt aV
 |false=>show ao ah s1 U H1 Q bt aV
end
def ht(K:MN)(H:aM)(a:MC)(xs:O V):Prop :=
 iE H a (.aj xs) \/
  (∃(o:MT) (aZ:MH ay) (n:Y),K.lookup a=J o/\o.cls=.type "list" /\ o.dict=C/\o.Y=.seq aZ n/\aZ.O<=dq/\cR xs aZ.B)\/H a=J (.xS xs)
def e9(K:MN)(H:aM)(a:MC)(xs:O V):Prop :=
 iE H a (.aF xs) \/
  ∃(o:MT) (aZ:MH ay) (n:Y),K.lookup a=J o/\o.cls=.type "tuple" /\ o.Y=.seq aZ n/\aZ.O<=dq/\cR xs aZ.B
noncomputable def agz:ay->MB V
 |.none=>J .b0
 |.bool b=>J<|.aU b
 |.int i _=>J<|.int i
 |.str x _=>J<|.str x
 |.bytes b _=>J<|.tj b
 |.float b _=>J<|.vd b
 |.ref a=>J ZM
 |.type n=>J<|.ty n
 |_=>C
def cQ.abs(r:cQ x u):agz u=J x:=by
 induction x using a8.V.casesOn with
 |b0=>ext r;rfl
 |aU _=>ext r;rfl
 |int _=>let(t,rfl):=r;rfl
 |str _=>let(t,rfl):=r;rfl
 |tj _=>let(t,rfl):=r;rfl
 |vd _=>let(t,rfl):=r;rfl
 |ref _=>ext r;rfl
 |ty _=>ext r;rfl
def cQ.inj(r:cQ x u)(q:cQ y u):x=y:=MV<|r.abs.symm.trans q.abs
theorem cR.inj:∀{xs aO:O V} {us:O ay},cR xs us->cR aO us->xs=aO
 |_,_,_,.nil,.nil=>rfl
 |_,_,_,.cons r t,.cons bU t'=>by rw[r.inj bU,cR.inj t t']
section
variable {X:bK}{ah:O Z2}{U:St}{H:aM}{s:aN}{a:MC}{xs aO:O V}
def ht.of{K:MN}(h:H a=J (.aj xs)):ht K H a xs:=.inl<|.inl h
def e9.of{K:MN}(h:H a=J (.aF xs)):e9 K H a xs:=.inl<|.inl h
def aT.list(I:aT X ah U H s)(h:ht X.K H a xs):∃aZ:O ay,cR xs aZ/\PlainL s.Q a aZ.D/\xs.H<=dq:=by
 rcases h with h|⟨o,aZ,n,aW,aI,hd,aK,hz,r⟩|h
 .let(z,aZ,n,r,e):=h.ok I.bX;show{aZ,r,{_,n,e,P,P,P},z}
 .show{aZ.B,r,{o,n,I.iJ a o aW,aI,hd,by simpa using aK},?_};let e:=r.H;erw[gW]at e;lia
 .let(z,aZ,n,r,e):=I.bX a _ h;show{aZ,r,{_,n,e,P,P,P},z}
def aT.tuple(I:aT X ah U H s)(h:e9 X.K H a xs):∃aZ:O ay,cR xs aZ/\IsTup s.Q a aZ.D/\xs.H<=dq:=by
 rcases h with h|⟨o,aZ,n,aW,aI,aK,hz,r⟩
 .let(z,aZ,r,p):=h.ok I.bX;show{(aZ),r,p.aF,z}
 .show{aZ.B,r,{o,I.iJ a o aW,aI,n,by simpa using aK},?_};let e:=r.H;erw[gW]at e;lia
def aT.amk(I:aT X ah U H s)(h:ht X.K H a xs)(h':ht X.K H a aO):xs=aO:=by
 let(aZ,r,(o,n,e,_,_,d),_):=I.list h;let(its',bU,(dc,n',bH,_,_,d'),_):=I.list h';rw[e]at bH;ext bH;rw[d]at d';injection d' with gu _;let:aZ=its':=by simpa using M1 Array.B gu
 subst this;show r.inj bU
def aT.qbg(I:aT X ah U H s)(h:e9 X.K H a xs)(h':e9 X.K H a aO):xs=aO:=by
 let(aZ,r,(o,e,_,n,d),_):=I.tuple h;let(its',bU,(dc,bH,_,n',d'),_):=I.tuple h';rw[e]at bH;ext bH;rw[d]at d';injection d' with gu _;let:aZ=its':=by simpa using M1 Array.B gu
 subst this;show r.inj bU
end
noncomputable abbrev bK.oJ(X:bK)(E:ay->aN->Prop):bK:={ X with cL:=E}
abbrev bK.ob(X:bK):bK:=X.oJ λ_ _=>MP
theorem bK.Ok.oJ{X:bK}(ok:X.Ok)(E:ay->aN->Prop):(X.oJ E).Ok :=
 {(ok.mod),ok.kind,ok.glob,ok.blt,ok.above,ok.inj,ok.has,ok.rM,ok.hd,ok.frames,ok.tl,ok.tm,ok.bs,ok.nj,ok.sk,ok.sl,ok.kS,ok.pn}
def bK.Ok.q8{X:bK}(ok:(X.oJ E).Ok):X.Ok :=
 {(ok.mod),ok.kind,ok.glob,ok.blt,ok.above,ok.inj,ok.has,ok.rM,ok.hd,ok.frames,ok.tl,ok.tm,ok.bs,ok.nj,ok.sk,ok.sl,ok.kS,ok.pn}
section
variable {X:bK}{ah:O Z2}{U:St}{H:aM}{s:aN}{E:ay->aN->Prop}
theorem aT.oJ(I:aT X ah U H s)(E:ay->aN->Prop):aT (X.oJ E) ah U H s:={I.ok.oJ E,I.os,I.dx,I.e,I.loc,I.cell,I.free,I.kW,I.pin,I.bX,I.len}
theorem aT.q8(I:aT (X.oJ E) ah U H s):aT X ah U H s:={(I.ok.q8),I.os,I.dx,I.e,I.loc,I.cell,I.free,I.kW,I.pin,I.bX,I.len}
theorem oY.q8(h:oY (X.oJ E) ah OG f s'):oY X ah OG f s':=by
 cases f with
 |next=>let(U',ak,I,q):=h;show{(U'),ak,I.q8,q}
 |brk=>let(U',ak,I,q):=h;show{(U'),ak,I.q8,q}
 |cont=>let(U',ak,I,q):=h;show{(U'),ak,I.q8,q}
 |ret u=>let(v,U',ak,I,r,q):=h;show{(v),U',ak,I.q8,r,q}
theorem kG.ob{st:O MM}{t:k8}(h:kG X.ob st t):kG X st t:=λah s U H OG I hw =>
 hE (h ah s U H OG (I.oJ _) hw) (λ_ _ q=>q.q8) λ_ _ z=>MY z
end
section
variable {X:bK}{st:MM}{rest:O MM}{t u:k8}{e:MG}{te:TE}{pos:MK}
def ahr:k8:=λOG U H=>OG.bC U H
def agA(t u:k8):k8:=λOG U H=>t { OG with bC:=u OG} U H
def aky:kG X [] ahr:=λ_ _ U H _ I h=>zl {(U),H,I,h}
def vg(ae:oZ X st t)(ai:kG X rest u):kG X (st::rest)<|agA t u:=by
 intro ah s U H OG I h;show wpAny_execs_cons (cm (ae ah s U H { OG with bC:=u OG} I h) λf s1 q=>?_);cases f with
 |next =>
  let(U',ak,eL,q):=q;show ai ah s1 U' ak OG eL q
 |ret v=>show q
 |brk=>show q
 |cont=>show q
def qbh(ae:oZ X st t):kG X [st] t:=by
 intro ah s U H OG I h;show wpAny_execs_cons (cm (ae ah s U H OG I h) λf s1 q=>?_);cases f with
 |next=>show zl q
 |ret v=>show q
 |brk=>show q
 |cont=>show q
def aT.quiet{ah:O Z2}{U:St}{H:aM}{s:aN}(I:aT X ah U H s):interactive X.I=Y1:=by simp[interactive,I.ok.kind]
def ahs(te:TE):k8:=λOG U H=>te U H λ_ H1=>OG.bC U H1
def DG(he:eE X e te)(aK:MD (qn e C pos.line X.I=pure Y1) rc):oZ X (.Expr e pos)<|ahs te:=by intro ah s U H OG I h;show wpAny_Expr_any (cm (he ah s U H _ I h) λv s1 ⟨x,H1,bt,bx,aV⟩=>{(U),H1,bt,aV}) I.quiet aK
def agB(te:TE):k8:=λOG U H=>te U H OG.ba
def II(he:eE X e te):oZ X (.Return (J e) pos)<|agB te:=by intro ah s U H OG I h;show wpAny_Return_some (cm (he ah s U H _ I h) λv s1 ⟨x,H1,bt,bx,aV⟩=>{(x),U,H1,bt,bx,aV})
def aiO:k8:=λ_ _ _=>MP
def DH{rO:O MM}:kG X rO aiO:=λ_ _ _ _ _ _ h=>h.elim
end
abbrev qs:=V->St->aM->(St->aM->Prop)->Prop
abbrev z8:=O V->St->aM->(St->aM->Prop)->Prop
def qt(X:bK)(target:MG)(t:qs):Prop :=
 ∀(ah:O Z2) (s:aN) (U:St) (H:aM) (v:V) (u:ay) (Q:St->aM->Prop),aT X ah U H s->cQ v u->t v U H Q ->
  bj Z4 X.A (mw target X.I u) (λ_ s'=>∃U' ak,aT X ah U' ak s'/\Q U' ak) X.cL s
def DI(X:bK)(aE:O MG)(t:z8):Prop :=
 ∀(ah:O Z2) (s:aN) (U:St) (H:aM) (ag:O V) (us:O ay) (Q:St->aM->Prop),aT X ah U H s->cR ag us->t ag U H Q ->
  bj Z4 X.A (assignInOrder ((mu aE X.I).map (·.2)) us) (λ_ s'=>∃U' ak,aT X ah U' ak s'/\Q U' ak) X.cL s
abbrev F9:=V->V->V->aM->(aM->Prop)->Prop
def Ga(X:bK)(t:F9):Prop :=
 ∀(ah:O Z2) (s:aN) (U:St) (H:aM) (o i v:V) (iv h1 u:ay) (Q:aM->Prop),aT X ah U H s->cQ o iv->cQ i h1->cQ v u->t o i v H Q ->
  bj Z4 X.A (setItem iv h1 u) (λ_ s'=>∃ak,aT X ah U ak s'/\Q ak) X.cL s
section
variable {X:bK}{pos:MK}
def Mg(i:Y):qs:=λv U H Q=>Q (U.set i<|some v) H
def IJ{i:Y}(eu:X.N.Nodup)(hi:X.N[i]?=J x)(au:Loc X.I.h x)(hf:MD (X.fn x=Y0\/X.env.scope.names.lookup x=J .local) ro):qt X (.Name x pos)<|Mg i:=by intro ah s U H v u Q I r h;show wpAny_assign_Name<|IF I eu hi au r (λs' eL=>{_,H,eL,h}) hf
def agC:z8:=λag U H Q=>ag=[]/\Q U H
def aht(t:qs)(u:z8):z8:=λag U H Q=>∃v r,ag=v::r/\t v U H λU' ak=>u r U' ak Q
def akz:DI X [] agC:=by
 intro ah s U H ag us Q I r h;let(e,h):=h;subst e
 ext r
 show assignInOrder_nil {(U),H,I,h}
def qbi(ae:qt X e t)(ai:DI X es u)
  (aK:MD ((mu (e::es) X.I).map (·.2)=mw e X.I::(mu es X.I).map (·.2)) rc):DI X (e::es)<|aht t u:=by
 intro ah s U H ag us Q I r h;let(v,aod,aB,h):=h;subst aB;cases r with
 |cons r jq =>
  rw[aK];show assignInOrder_cons (cm (ae ah s U H _ _ _ I r h) λ_ s1 ⟨U1,H1,bt,aV⟩=>?_);show ai ah s1 U1 H1 _ _ Q bt jq aV
def agD(K:MN)(n:Y)(t:z8):qs:=λv U H Q=>∃a xs,v=.ref a/\e9 K H a xs/\xs.H=n/\t xs U H Q
def aiP{k:Y}{n:Y}(aI:X.calm=Y0)(h:DI X es t)
  (bI:MD ((mu es X.I).H=n) rc) (jY:MD ((mu es X.I).findIdx? (·.1)=C) rc):qt X (.Tuple es k pos)<|agD X.K n t:=by
 intro ah s U H v u Q I r hw;let(a,xs,aB,bc,az,hw):=hw;subst aB
 ext r
 let(aZ,bh,ct,hz):=I.tuple bc;show assign_Tuple_tuple (I.ok.hd aI) ct (by simp[bI,<-az,bh.H]) jY λh' au=>?_;let bt:aT X ah U H { s with heap:=h'}:=I.kept (t':=s.toks) λb o e=>au b o (eP<|ed e) e;show h ah _ U H xs _ Q bt (by simpa using bh) hw
def agE(to uF:TE)(t:F9):qs:=λv U H Q=>to U H λo H1=>uF U H1 λi b5=>t o i v b5 λeR=>Q U eR
def qbj(aX:eE X o to)(hi:eE X i uF)(aK:Ga X t)
  (bl:MD (∀v,mw (.Subscript o i pos) X.I v=(do
   let iv<-m6 [v] (MO o X.I)
   let h1<-m6 [v,iv] (MO i X.I)
   standAt pos
   m6 [v,iv,h1] (setItem iv h1 v)
   release [v,iv,h1] [])) rn):qt X (.Subscript o i pos)<|agE to uF t:=by
 intro ah s U H v u Q I r h;rw[bl];show a7<|ky (cm (aX ah s U H _ I h) λiv s1 ⟨x,H1,bt,bx,aV⟩=>?_);show a7<|ky (cm (hi ah s1 U H1 _ bt aV) λh1 s2 ⟨y,b5,di,cn,bb⟩=>?_);show a7<|HL<|a7<|ky (cm (aK ah s2 U b5 x y v iv h1 u _ di bx cn r bb) λ_ s3 ⟨eR,gD,c1⟩=>?_);show wpAny_release {(U),eR,gD,c1}
def L1(te:TE)(g:qs):k8:=λOG U H=>te U H λx H1=>g x U H1 OG.bC
def qbk(he:eE X e te)(bL:qt X dr g)(aK:MD (HM [dr] e pos.line X.I=pure Y1) rc)(hw:MD (HN [dr] e X.I=pure C) rc)
  (ae:MD ((mu [dr] X.I).map (·.2)=[mw dr X.I]) rc):oZ X (.Assign [dr] e pos)<|L1 te g:=by
 intro ah s U H OG I h;show wpAny_Assign_stores (cm (he ah s U H _ I h) λv s1 ⟨x,H1,bt,bx,aV⟩=>?_) aK hw;rw[ae];show cm (bL ah s1 U H1 x v _ bt bx aV) λ_ s2 q=>q
def IK{i:Y}(eu:X.N.Nodup)(hi:X.N[i]?=J x)(au:Loc X.I.h x)(he:eE X e te)(aK:MD (qn e (J<|.Name x pos') pos.line X.I=pure Y1) rc)(hf:MD (X.fn x=Y0\/X.env.scope.names.lookup x=J .local) ro) :
  oZ X (.Assign [.Name x pos'] e pos) (L1 te<|Mg i):=by
 intro ah s U H OG I h;show wpAny_Assign_Name (cm (he ah s U H _ I h) λv s1 ⟨y,H1,bt,bx,aV⟩=>?_) aK;show IF bt eu hi au bx (λs2 di=>{_,H1,di,aV}) hf
def aiQ(c:TT)(tb:k8):k8:=λOG U H=>∃W:Y->St->aM->Prop,(∃m,W m U H)/\∀m U H,W m U H ->
 c U H λb H1=>if b=Y0 then ∃N:St->aM->Prop,(∀U' ak,N U' ak->∃f3,f3<m/\W f3 U' ak)/\tb { OG with bC:=N,eZ:=N,eD:=OG.bC} U H1 else OG.bC U H1
def aml(aC:zr Z4 X.A X.I X.cL)(aI:n4 X c n6)(ao:kG X body tb):oZ X (.While c body [] pos)<|aiQ n6 tb:=by
 intro ah s U H OG I h;let(W,(m0,uG),turn):=h;show wpAny_While<|codeAny_whileLoop (λn s'=>∃U' ak,aT X ah U' ak s'/\W n U' ak) ?_ m0 {(U),H,I,uG};rintro n s1 ⟨U1,H1,bt,gO⟩;show ux aC (cm (aI ah s1 U1 H1 _ bt<|turn n U1 H1 gO) λb s2 ⟨b5,di,bb⟩=>?_);cases b with
 |true =>
  let(N,eu,bb):=bb;rw[Y2 P];show ux aC (cm (ao ah s2 U1 b5 _ di bb) λf s3 c1=>?_);cases f with
  |next =>
   let(U3,eR,gD,jr):=c1;let(f3,hm,uH):=eu U3 eR jr;show{(f3),hm,U3,eR,gD,uH}
  |cont =>
   let(U3,eR,gD,jr):=c1;let(f3,hm,uH):=eu U3 eR jr;show{(f3),hm,U3,eR,gD,uH}
  |brk=>show c1
  |ret v=>show c1
 |false =>
  rw[Y3 nV];show zl {(U1),b5,di,bb}
end
structure k9 where
 go:Y->aM->Prop
 DJ:Y->aM->V->aM->Prop
 stop:Y->aM->Prop
def p0(X:bK)(ah:O Z2)(H:aM)(b:MC):Prop :=
 H b=C/\b≠X.I.locals/\b∉X.c7/\(b∈X.ex\/X.cT.L<=b)/\(∀x c,X.env.cells.lookup x=J c->c≠b)/\∀p∈X.gB++ah,p.1≠b
def aT.yK{X:bK}{ah:O Z2}{U:St}{H ak:aM}{s:aN}{b:MC}(I:aT X ah U H s)(ao:s.L<=b)(bI:ak b=C):p0 X ah ak b:=by
 show{bI,qj<|dX I.lt ao,I.agu ao,.inr<|bw I.bQ ao,λx c e z=>?_,λp aC z=>?_}
 .let(v,q):=I.cell x c e;show MI (dX q.lt<|by rw[z];show ao)<|qi _
 .show MI (dX (ed (I.pin p aC).1)<|by rw[z];show ao)<|qi _
structure Turn (V8:dn) (w:cV) (K:MN) (dr:MG) (c0:k9) (fp:O MC) (it:MC) (aR:Y->MJ->Prop):Prop where
 mem:it∈fp
 obj:∀i h,aR i h->∀b∈fp,∃o,h.get? b=J o/\∀v,o.Y≠.cell v
 keep:∀i h h',aR i h->(∀b∈fp,∀o,h.get? b=J o->h'.get? b=J o)->aR i h'
 item:∀(X:bK),X.R=V8->X.w=w->X.K=K->X.calm=Y0->∀(i:Y) (ah:O Z2) (s:aN) (U:St) (H:aM) (E:ay->aN->Prop),aT X ah U H s->(∀b∈fp,p0 X ah H b)->aR i s.Q->c0.go i H ->
  bj (bo V8 w) X.A (m7<|.ref it) (λr s1=>∃u,r=J u /\
   bj (bo V8 w) X.A (CE dr (.ref it) u) (λ_ s2=>∃x ak,aT X ah U ak s2/\cQ x u/\c0.DJ i H x ak/\aR (i+1) s2.Q/\∀b∈fp,ak b=C) E s1) E s
 done:∀(X:bK),X.R=V8->X.w=w->X.K=K->X.calm=Y0->∀(i:Y) (ah:O Z2) (s:aN) (U:St) (H:aM) (E:ay->aN->Prop),aT X ah U H s->(∀b∈fp,p0 X ah H b)->aR i s.Q->c0.stop i H ->
  bj (bo V8 w) X.A (m7<|.ref it) (λr s1=>r=C/\aT X ah U H s1) E s
 self:∀(A:dH) (i:Y) (s:aN) (Q:ay->aN->Prop) (E:ay->aN->Prop),aR i s.Q->Q (.ref it) s->bj (bo V8 w) A (k6<|.ref it) Q E s
abbrev TI:=St->aM->(k9->aM->Prop)->Prop
def tq(X:bK)(ah:O Z2)(U:St)(dr:MG)(R:k9->aM->Prop)(IL:ay)(s2:aN):Prop :=
 ∃(it:MC) (fp:O MC) (aR:Y->MJ->Prop) (c0:k9) (ak:aM),IL=.ref it/\aT X ah U ak s2/\Turn X.R X.w X.K dr c0 fp it aR/\aR 0 s2.Q/\(∀b∈fp,p0 X ah ak b)/\R c0 ak
def o1(X:bK)(dr iter:MG)(mx:TI):Prop :=
 ∀(ah:O Z2) (s:aN) (U:St) (H:aM) (R:k9->aM->Prop),aT X ah U H s->mx U H R ->
  bj Z4 X.A (MO iter X.I) (λv s1=>bj Z4 X.A (k6 v) (tq X ah U dr R) X.cL s1) X.cL s
def Gv(aX:s.heap.get? it=J o)(aI:o.cls=.type n)(hd:o.Y=.fields ag)
  (bI:["enumerate","zip","dict_itemiterator","dict_reverseitemiterator","odict_iterator","itertools.zip_longest","itertools.pairwise"].contains n=Y1) (hQ:Q () s):bj M A (CE dr (.ref it) u) Q E s:=by
 delta CE
 ext dr<;>first
  |show bW hQ
  | (ext u<;>first
    |show bW hQ
    | (show a7 (wpAny_load aX ?_)
       rw[aI,hd];show bj M A (if(["enumerate","zip","dict_itemiterator","dict_reverseitemiterator","odict_iterator","itertools.zip_longest","itertools.pairwise"].contains n&&ag[0]?==J (gf _))=Y0 then _ else _) Q E s;rw[Y3<|by intro h;rw[bI,Ho]at h;ext h]
       show bW hQ))
noncomputable def IM(K:MN)(a:MC):k9 :=
 {λi H=>∃xs x,ht K H a xs/\xs[i]?=J x,λi H x ak=>ak=H/\∀xs,ht K H a xs->xs[i]?=J x,λi H=>∃xs,ht K H a xs/\xs.H<=i}
noncomputable def IP(K:MN)(a:MC):k9 :=
 {λi H=>∃xs x,e9 K H a xs/\xs[i]?=J x,λi H x ak=>ak=H/\∀xs,e9 K H a xs->xs[i]?=J x,λi H=>∃xs,e9 K H a xs/\xs.H<=i}
noncomputable def z9(lo:D)(n:Y):k9:={λi _=>i<n,λi H x ak=>ak=H/\x=.int (lo+i),λi _=>n<=i}
def aaF{V8:dn}{w:cV}{K:MN}{dr:MG}(a it:MC):Turn V8 w K dr (IM K a) [it] it (λi h=>h.IsListIter it a i) where
 mem:=by simp
 obj:=λi h st b ao=>by
  let e:b=it:=by simpa using ao
  subst e;let(o,e,c,d):=st;show⟨o,e,λv z=>by rw[d]at z;ext z⟩
 keep:=λi h h' st k=>st.at λo e=>k it Z5 o e
 item:=by intro X eS hw iG aI i ah s U H E I hf st bL;subst eS hw iG;let(xs,x,bc,au):=bL;let(aZ,bh,p,hz):=I.list bc;let(u,bP,fa):=bh.get au;let(f0,f1,f2,et,f4,hF):=hf it Z5;show wpAny_pyNext_list_item st p.isList (x:=u) (by simpa using bP) λh' dh c2=>?_;let bt:aT X ah U H { s with heap:=h'}:=I.turned (t':=s.toks) (λb o ao e=>(c2.2 b ao).trans e) f0 f1 et f4 hF;let(o,e,c,d):=id dh;show{u,P,Gv (s:={ s with heap:=h'}) e c d Z1 ⟨x,H,bt,fa,⟨rfl,λaO aJ=>by rw[I.amk aJ bc];show au⟩,dh,λb ao=>(hf b ao).1⟩}
 done:=by intro X eS hw iG aI i ah s U H E I hf st bL;subst eS hw iG;let(xs,bc,au):=bL;let(aZ,bh,p,hz):=I.list bc;let(f0,f1,f2,et,f4,hF):=hf it Z5;let az:=bh.H;show wpAny_pyNext_list_end (I.ok.hd aI) st p.isList (by simp;show bw (dy az.symm) au) λh' iT=>{P,I.turned (t':=s.toks) (λb o ao e=>iT b o ao e) f0 f1 et f4 hF}
 self:=λ_ _ _ _ _ st h=>wpAny_pyIter_listiter st h
def aaG{V8:dn}{w:cV}{K:MN}{dr:MG}(a it:MC):Turn V8 w K dr (IP K a) [it] it (λi h=>h.IsTupleIter it a i) where
 mem:=by simp
 obj:=λi h st b ao=>by
  let e:b=it:=by simpa using ao
  subst e;let(o,e,c,d):=st;show⟨o,e,λv z=>by rw[d]at z;ext z⟩
 keep:=λi h h' st k=>st.at λo e=>k it Z5 o e
 item:=by intro X eS hw iG aI i ah s U H E I hf st bL;subst eS hw iG;let(xs,x,bc,au):=bL;let(aZ,bh,p,hz):=I.tuple bc;let(u,bP,fa):=bh.get au;let(f0,f1,f2,et,f4,hF):=hf it Z5;show wpAny_pyNext_tuple_item st (show s.heap.IsTuple a aZ.D from p) (x:=u) (by simpa using bP) λh' dh c2=>?_;let bt:aT X ah U H { s with heap:=h'}:=I.turned (t':=s.toks) (λb o ao e=>(c2.2 b ao).trans e) f0 f1 et f4 hF;let(o,e,c,d):=id dh;show{u,P,Gv (s:={ s with heap:=h'}) e c d Z1 ⟨x,H,bt,fa,⟨rfl,λaO aJ=>by rw[I.qbg aJ bc];show au⟩,dh,λb ao=>(hf b ao).1⟩}
 done:=by intro X eS hw iG aI i ah s U H E I hf st bL;subst eS hw iG;let(xs,bc,au):=bL;let(aZ,bh,p,hz):=I.tuple bc;let(f0,f1,f2,et,f4,hF):=hf it Z5;let az:=bh.H;show wpAny_pyNext_tuple_end (I.ok.hd aI) st (show s.heap.IsTuple a aZ.D from p) (by simp;show bw (dy az.symm) au) λh' iT=>{P,I.turned (t':=s.toks) (λb o ao e=>iT b o ao e) f0 f1 et f4 hF}
 self:=λ_ _ _ _ _ st h=>wpAny_pyIter_tupleiter st h
def aaH{V8:dn}{w:cV}{K:MS}{dr:MG}(it:MC)(lo:D)(n:Y):Turn V8 w K dr (z9 lo n) [it] it (λi h=>IsRangeIter h it (lo+(i:Y)*1) ((n:D)-(i:Y)) 1) where
 mem:=by simp
 obj:=λi h st b ao=>by
  let e:b=it:=by simpa using ao
  subst e
  show⟨_,st,λv z=>by
   let m9:Data.fields _=Data.cell v:=z
   ext m9⟩
 keep:=λi h h' st k=>k it Z5 _ st
 item:=by intro X eS hw iG aI i ah s U H E I hf st bL;subst eS hw iG;let(f0,f1,f2,et,f4,hF):=hf it Z5;let W:=Walks.range (prog:=X.R) (w:=X.w) (I.ok.hd aI) it lo 1 n;show W.item i s _ _ bL st λv h' bz bu dh nc=>?_;let(t,rfl):=bu;let bt:aT X ah U H { s with heap:=h',toks:=bz}:=I.turned (λb o ao e=>nc b o (by simpa using ao) e) f0 f1 et f4 hF;show⟨_,P,Gv (s:={ s with heap:=h',toks:=bz}) (n:="range_iterator") dh P P Z1 ⟨.int<|lo+i,H,bt,⟨t,?_⟩,⟨P,P⟩,dh,λb ao=>(hf b ao).1⟩⟩;rw[Int.mul_one]
 done:=by intro X eS hw iG aI i ah s U H E I hf st bL;subst eS hw iG;let(f0,f1,f2,et,f4,hF):=hf it Z5;show wpAny_pyNext_range_end (I.ok.hd aI) st (by let:n<=i:=bL;lia) λh' iT=>{P,I.turned (t':=s.toks) (λb o ao e=>iT b o ao e) f0 f1 et f4 hF}
 self:=λ_ _ _ _ _ st h=>wpAny_pyIter_rangeiter st h
section
variable {X:bK}{dr:MG}
def qbl{ah:O Z2}{U:St}{H:aM}{s:aN}{R:k9->aM->Prop}{E:ay->aN->Prop}{lo hi:D}{t u v:Tok}{bz:Y}(I:aT X ah U H s)(ae:-(2^62)<=lo)(ai:lo<2^62)(aS:-(2^62)<=hi)(dp:hi<2^62)
  (q:R (z9 lo (hi-lo).M) H):bj Z4 X.A (k6<|.ref s.L) (tq X ah U dr R) E { s with heap:=s.heap.push { cls:=.type "range",data:=.fields #[.int lo t,.int hi u,.int 1 v]},toks:=bz}:=by
 show wpAny_pyIter_range (IsRange.new ..) (small_one ae ai aS dp) ?_;let bt:aT X ah U H { s with heap:=s.heap.push { cls:=.type "range",data:=.fields #[.int lo t,.int hi u,.int 1 v]},toks:=bz}:=I.kept λb o e=>ec _ e
 show⟨(s.heap.push { cls:=.type "range",data:=.fields #[.int lo t,.int hi u,.int 1 v]}).E.O,[(s.heap.push { cls:=.type "range",data:=.fields #[.int lo t,.int hi u,.int 1 v]}).E.O],_,_,H,P,
  bt.kept (t':=bz) λb o e=>ec _ e,aaH _ lo (hi-lo).M,?_,λb ao=>?_,q⟩
 .let aB:lo+((0:Y):D)*1=lo:=by simp
  let ax:(((hi-lo).M:Y):D)-((0:Y):D)=Builtin.Range.rangeSize lo hi 1:=by rw[rangeSize_one];split<;>lia
  show IsRangeIter _ _ (lo+((0:Y):D)*1) ((((hi-lo).M:Y):D)-((0:Y):D)) 1;rw[aB,ax];show fZ _ P
 .let e:b=(s.heap.push { cls:=.type "range",data:=.fields #[.int lo t,.int hi u,.int 1 v]}).E.O:=by simpa using ao
  subst e;show bt.yK (b8 _)<|bt.bX.fresh<|b8 _
def ahu(ta:k7):TI:=λU H R=>ta U H λag H1=>∃j:D,ag=[.int j] /\ -(2^62)<=j/\j<2^62/\R (z9 0 j.M) H1
def ahv(ta:k7):TI:=λU H R=>ta U H λag H1=>∃i j:D,ag=[.int i,.int j]/\(-(2^62)<=i/\i<2^62 /\ -(2^62)<=j/\j<2^62)/\R (z9 i (j-i).M) H1
def aaI(bL:fP X "range")(hm:X.bf "range" = C)(bl:n5 X [a] ta)(aK:MD (cA [a] X.I=[(Y1,MO a X.I)]) rc):o1 X dr (.Call (.Name "range" p) [a] [] pos)<|ahu ta:=by
 intro ah s U H R I h;show Call_<|nq I bL hm boot_range<|Uk (cm (bl pos ah s U H _ I h) λus s1 ⟨ag,H1,bt,bx,aV⟩=>?_) aK P;let(j,e,aV,bb,q):=aV;subst e;cases bx with
 |cons r jq =>
  ext jq
  let(t,rfl):=r;show call_range_1 (qbl bt Z1 Z1 aV bb<|by simpa using q)
def aaJ(bL:fP X "range")(hm:X.bf "range" = C)(bl:n5 X [a,b] ta)(aK:MD (cA [a,b] X.I=[(Y1,MO a X.I),(Y1,MO b X.I)]) rc)(kl:MD (cA [b] X.I=[(Y1,MO b X.I)]) rc) :
  o1 X dr (.Call (.Name "range" p) [a,b] [] pos) (ahv ta):=by
 intro ah s U H R I h;show Call_<|nq I bL hm boot_range (Uk (cm (bl pos ah s U H _ I h) λus s1 ⟨ag,H1,bt,bx,aV⟩=>?_) (by rw[aK,kl])<|by rw[kl];rfl);let(i,j,e,(aV,bb,c1,gn),q):=aV;subst e;cases bx with
 |cons r jq =>
  cases jq with
  |cons bU jq =>
   ext jq
   let(t,rfl):=r;let(t',rfl):=bU;show call_range_2<|qbl bt aV bb c1 gn q
def agF(mx:TI)(g:qs)(tb:k8):k8:=λOG U H=>mx U H λc0 H1=>∃W:Y->Y->St->aM->Prop,(∃m,W 0 m U H1)/\∀i m U H,W i m U H ->
 (c0.stop i H/\OG.bC U H)\/(c0.go i H/\∃N:St->aM->Prop,(∀U' ak,N U' ak->∃f3,f3<m/\W (i+1) f3 U' ak)/\∀x ak,c0.DJ i H x ak->g x U ak λU2 b5=>tb { OG with bC:=N,eZ:=N,eD:=OG.bC} U2 b5)
noncomputable def Aa(fp:O MC)(h:MJ):O Z2:=fp.filterMap λb=>(h.get? b).map λo=>(b,o)
def DK(ao:b∈fp)(e:h.get? b=J o):(b,o)∈Aa fp h:=G1.mpr {b,ao,by rw[e];rfl}
def aaK(aC:p∈Aa fp h):p.1∈fp/\h.get? p.1=J p.2:=by
 let(b,ao,e):=G1.mp aC;cases q:h.get? b with
 |none=>rw[q]at e;ext e
 |some o =>
  rw[q]at e;let bH:(b,o)=p:=MV e;subst bH;show{(ao),q}
def aT.pinned{ah:O Z2}{U:St}{H:aM}{s:aN}{fp:O MC}(I:aT X ah U H s)(hf:∀b∈fp,p0 X ah H b)(aX:∀b∈fp,∃o,s.heap.get? b=J o/\∀v,o.Y≠.cell v):aT X (ah++Aa fp s.Q) U H s :=
 I.qbc λp aC=>(i9.mp aC).elim (λz=>I.pin p<|lN _ z) λz=>by let(ao,e):=aaK z;let(f0,f1,f2,_):=hf p.1 ao;let(o,bH,d):=aX p.1 ao;rw[e]at bH;ext bH;show{(e),f0,f1,f2,d}
def aT.GP{ah cH:O Z2}{U:St}{H:aM}{s:aN}(I:aT X (ah++cH) U H s):aT X ah U H s:=I.qbc λp aC=>I.pin p<|lN _<|nO _ aC
def qbm(aC:zr Z4 X.A X.I X.cL)(aI:X.calm=Y0)(hi:o1 X dr iter mx)(bL:qt X dr g)(ao:kG X body tb)
  (aK:MD (∀x,oU iter X.I x=pure x) rn):oZ X (.For dr iter body [] pos)<|agF mx g tb:=by
 intro ah s U H OG I h;show wpAny_For (cm (hi ah s U H _ I h) λv s1 ae=>cm ae λIL s2 ai=>?_) aK;let(it,fp,aR,c0,b5,e,di,T,hL,f2,W,(m0,uG),turn):=ai;subst e;let stat:∀{ak:aM},(∀b∈fp,ak b=C)->∀b∈fp,p0 X ah ak b:=λbI b ao=>{bI b ao,(f2 b ao).2}
 show codeAny_forLoop_any (λn s'=>∃i U' ak,aT X ah U' ak s'/\aR i s'.Q/\(∀b∈fp,ak b=C)/\W i n U' ak) ?_ m0 {0,U,b5,di,hL,λb ao=>(f2 b ao).1,uG};rintro n s3 ⟨i,U3,eR,gD,xU,Ou,uH⟩;rcases turn i n U3 eR uH with⟨stop,uI⟩|⟨go,N,eu,step⟩
 .show ux aC (cm (T.done X P P P aI i ah s3 U3 eR X.cL gD (stat Ou) xU stop) λr s4 ⟨a4,ja⟩=>?_);subst a4;show zl {(U3),eR,ja,uI}
 .show ux aC (cm (T.item X P P P aI i ah s3 U3 eR X.cL gD (stat Ou) xU go) λr s4 ⟨u,a4,dp⟩=>?_);subst a4;show ux aC (cm dp λ_ s5 ⟨x,jQ,xe,zw,js,xV,DL⟩=>?_);let aaL:=xe.pinned (stat DL)<|T.obj _ _ xV;show ux aC (cm (bL _ s5 U3 jQ x u _ aaL zw<|step x jQ js) λ_ lV ⟨U6,Wb,o2,Nt⟩=>?_);show ux aC (cm (ao _ lV U6 Wb _ o2 Nt) λf rp sV=>?_);let again:∀{U7:St} {my:aM},aT X (ah++Aa fp s5.Q) U7 my rp->N U7 my->∃m,m<n/\∃i U' ak,aT X ah U' ak rp/\aR i rp.Q/\(∀b∈fp,ak b=C)/\W i m U' ak:=λ{U7 my} lW zx=>by let(f3,hm,Wc):=eu U7 my zx;show{f3,hm,i+1,U7,my,lW.GP,T.keep _ _ _ xV λb ao o e=>(lW.pin (b,o)<|lN _<|lN _<|DK ao e).1,λb ao=>?_,Wc};let(o,e,d):=T.obj _ _ xV b ao;show(lW.pin (b,o)<|lN _<|lN _<|DK ao e).2.1
  cases f with
  |next=>let(U7,my,lW,zx):=sV;show again lW zx
  |cont=>let(U7,my,lW,zx):=sV;show again lW zx
  |brk=>let(U7,my,lW,sV):=sV;show{(U7),my,lW.GP,sV}
  |ret v=>let(cO,U7,my,lW,xf,sV):=sV;show{(cO),U7,my,lW.GP,xf,sV}
end
abbrev dF:=V->V->aM->fC->Prop
def km(X:bK)(f:ay->ay->Sem ay)(r:dF):Prop :=
 ∀(ah:O Z2) (s:aN) (U:St) (H:aM) (x y:V) (v u:ay) (Q:fC),aT X ah U H s->cQ x v->cQ y u->r x y H Q ->
  bj Z4 X.A (f v u) (gs X ah U Q) X.cL s
def IQ(X:bK)(f:ay->Sem ay)(r:V->aM->fC->Prop):Prop :=
 ∀(ah:O Z2) (s:aN) (U:St) (H:aM) (x:V) (v:ay) (Q:fC),aT X ah U H s->cQ x v->r x H Q ->
  bj Z4 X.A (f v) (gs X ah U Q) X.cL s
def Ab(X:bK)(f:ay)(r:O V->aM->fC->Prop):Prop :=
 ∀(ah:O Z2) (s:aN) (U:St) (H:aM) (xs:O V) (us:O ay) (Q:fC),aT X ah U H s->cR xs us->r xs H Q ->
  bj Z4 X.A (call f us) (gs X ah U Q) X.cL s
def agG(X:bK)(r:V->aM->(MF->aM->Prop)->Prop):Prop :=
 ∀(ah:O Z2) (s:aN) (U:St) (H:aM) (x:V) (v:ay) (Q:MF->aM->Prop),aT X ah U H s->cQ x v->r x H Q ->
  bj Z4 X.A (truthy v) (CR X ah U Q) X.cL s
def aaM(r:V->aM->fC->Prop)(ta:TE):TE:=λU H Q=>ta U H λx H1=>r x H1 Q
def CS(aP:D->D->Prop)(g:D->D->V):dF:=λx y H Q=>∃i j,x=.int i/\y=.int j/\aP i j/\Q (g i j) H
def IS(g:D->D->V):dF:=λx y H Q=>∃i j,x=.int i/\y=.int j/\Q (g i j) H
def qbn(g:D->V):V->aM->fC->Prop:=λx H Q=>∃i,x=.int i/\Q (g i) H
section
variable {X:bK}{a b c:MG}{ta tb n6:TE}{pos:MK}
def ahw(aX:IQ X (unaryOp op) r)(bl:eE X a ta):eE X (.UnaryOp op a pos)<|aaM r ta:=by intro ah s U H Q I h;show UnaryOp_ (cm (bl ah s U H _ I h) λv s1 ⟨x,H1,bt,bx,aV⟩=>aX ah s1 U H1 x v Q bt bx aV)
def IT{aP:D->D->Prop}{g:D->D->D}
  (rule:∀(i j:D) (t u:Tok) (s:aN) (Q:ay->aN->Prop) (E:ay->aN->Prop),aP i j->Q (.int (g i j) s.toks) { s with toks:=s.toks+1}->bj (bo X.R X.w) X.A (f (.int i t) (.int j u)) Q E s) :
  km X f (CS aP λi j=>.int<|g i j):=by
 intro ah s U H x y v u Q I de eF h;let(i,j,rfl,rfl,aI,q):=h;let(t,rfl):=de;let(t',rfl):=eF;show rule i j t t' s _ _ aI {.int<|g i j,H,I.tok _,{_,P},q}
def qbo{g:D->D->D}
  (rule:∀(i j:D) (t u:Tok) (s:aN) (Q:ay->aN->Prop) (E:ay->aN->Prop),Q (.int (g i j) s.toks) { s with toks:=s.toks+1}->bj (bo X.R X.w) X.A (f (.int i t) (.int j u)) Q E s) :
  km X f (IS λi j=>.int<|g i j):=by
 intro ah s U H x y v u Q I de eF h;let(i,j,rfl,rfl,q):=h;let(t,rfl):=de;let(t',rfl):=eF;show rule i j t t' s _ _ {.int<|g i j,H,I.tok _,{_,P},q}
def agH(i j:D):Prop:=0<j/\j<1073741824
def Gb(i j:D):Prop:=(-(2^64)<i/\i<2^64)\/(-(2^64)<j/\j<2^64)
def Gb.ok{i j:D}(h:Gb i j):IntMulOk i j:=by
 rcases h with⟨ae,ai⟩|⟨ae,ai⟩
 .show .of_left<|intBits_le_64 ae ai
 .show .of_right<|intBits_le_64 ae ai
def aiR:km X (n1 .Add) (IS λi j=>.int<|i+j):=qbo λ_ _ _ _ _ _ _ q=>add_int q
def aiS:km X (n1 .Sub) (IS λi j=>.int<|i-j):=qbo λ_ _ _ _ _ _ _ q=>sub_int q
def aiT:km X (n1 .Mult) (CS Gb λi j=>.int<|i*j):=IT λ_ _ _ _ _ _ _ aI q=>mul_int q aI.ok
def akA:km X (n1 .FloorDiv) (CS agH λi j=>.int<|i / j):=IT λi j _ _ _ _ _ aI q=>by let ae:(0:D)<j:=aI.1;let ai:j<1073741824:=aI.2;show floordiv_int (w3 ae) (by rw[Int.fdiv_eq_ediv_of_nonneg i<|kx ae];show q)<|.inl<|PyProof.noPylong_small Z6
def aiU:km X (n1 .Mod) (CS (λ_ j=>0<j) λi j=>.int<|i%j):=IT λi j _ _ _ _ _ aI q=>by let ae:(0:D)<j:=aI;show mod_int' (w3 ae) (by rw[Int.fmod_eq_emod_of_nonneg i<|kx ae];show q)
def aaN{g:D->D}
  (rule:∀(i:D) (t:Tok) (s:aN) (Q:ay->aN->Prop) (E:ay->aN->Prop),Q (.int (g i) s.toks) { s with toks:=s.toks+1}->bj (bo X.R X.w) X.A (f (.int i t)) Q E s) :
  IQ X f (qbn λi=>.int<|g i):=by
 intro ah s U H x v Q I de h;let(i,rfl,q):=h;let(t,rfl):=de;show rule i t s _ _ {.int<|g i,H,I.tok _,{_,P},q}
def aiV:IQ X (unaryOp .USub) (qbn λi=>.int<|-i):=aaN λ_ _ _ _ _ q=>neg_int q
def ahx(t:TE):TT:=λU H Q=>t U H λx ak=>∃k,x=.aU k/\Q k ak
def IU(r bU:dF)(ta tb n6:TE):TE:=λU H Q=>ta U H λx H1=>tb U H1 λy b5=>r x y b5 λz eR=>∃k,z=.aU k /\
 (if k=Y0 then n6 U eR λfB qu=>bU y fB qu Q else Q (.aU Y1) eR)
def amm(aX:km X (hn op) r)(jX:km X (hn op') bU)(bl:eE X a ta)(ao:eE X b tb)(aI:eE X c n6)
  (hm:MD (lastMarks [op,op'] [b,c]=Y1) az5._auto_1):eE X (.Compare a [op,op'] [b,c] pos)<|IU r bU ta tb n6:=by
 intro ah s U H Q I h
 show Compare_chain (cm (bl ah s U H _ I h) λv s1 ⟨x,H1,bt,bx,aV⟩=>chain_link (cm (ao ah s1 U H1 _ bt aV) λu s2 ⟨y,b5,di,cn,bb⟩ =>
  cm (aX ah s2 U b5 x y v u _ di bx cn bb) λd s3 ⟨z,eR,gD,h2,k,e,c1⟩=>?_)) hm
 subst e
 ext h2
 show uv ?_;cases k with
 |false=>show ite_ff {.aU Y1,eR,gD,P,c1}
 |true=>show ite_tt<|chain_last (cm (aI ah s3 U eR _ gD c1) λfB s4 ⟨m9,qu,ja,nd,gn⟩=>jX ah s4 U qu y m9 u fB Q ja cn nd gn)
def amn(aX:km X (hn op) r)(jX:km X (hn op') bU)(bl:eE X a ta)(ao:eE X b tb)(aI:eE X c n6)
  (hm:MD (lastMarks [op,op'] [b,c]=Y1) az5._auto_1):n4 X (.Compare a [op,op'] [b,c] pos)<|ahx<|IU r bU ta tb n6:=by
 intro ah s U H Q I h
 show isTrue_chain (cm (bl ah s U H _ I h) λv s1 ⟨x,H1,bt,bx,aV⟩=>test_link (cm (ao ah s1 U H1 _ bt aV) λu s2 ⟨y,b5,di,cn,bb⟩ =>
  cm (aX ah s2 U b5 x y v u _ di bx cn bb) λd s3 ⟨z,eR,gD,h2,k,e,c1⟩=>?_)) hm
 subst e
 ext h2
 show uv ?_;cases k with
 |false =>
  let(g5,bH,ej):=c1
  ext bH
  show ite_ff {(eR),gD,ej}
 |true =>
  show ite_tt<|test_last (cm (aI ah s3 U eR _ gD c1) λfB s4 ⟨m9,qu,ja,nd,gn⟩=>cm (jX ah s4 U qu y m9 u fB _ ja cn nd gn) λd' s5 ⟨dU,jQ,xe,zw,k2,ax,iw⟩=>?_);subst ax
  ext zw
  show uv {(jQ),xe,iw}
def qbp(K:MN)(x:V)(H:aM)(k:MF):Prop :=
 match x with
 |.b0=>k=Y1
 |.aU b=>k=b
 |.int i=>k=(i != 0)
 |.str y=>y.H<=dq/\k=((y.H:D) != 0)
 |.tj y=>y.O<=dq/\k=((y.O:D) != 0)
 |.ref p=>(∃xs,ht K H p xs/\k=!xs.isEmpty)\/(∃xs,e9 K H p xs/\k=!xs.isEmpty)\/∃av,H p=J (.aH av)/\k=!av.isEmpty
 |_=>MP
def aaO{κ:Type}{av:O<|κ×V}{ag:O<|κ×ay}(r:fx av ag):(!ag.isEmpty)=!av.isEmpty:=by
 ext r<;>rfl
def qbq(r:cR xs aZ):(!aZ.D.isEmpty)=!xs.isEmpty:=by
 ext r<;>simp
def Ac:(dq:Y)<2^63:=by rw[oV];decide
def aiW:agG X (λx H Q=>∃k,qbp X.K x H k/\Q k H):=by
 intro ah s U H x v Q I de h;let(k,e,q):=h;let az:=Ac;let aK:dq=16777216:=oV
 induction x using a8.V.casesOn with
 |b0 =>
  ext de
  let bH:k=Y1:=e;subst bH;show truthy_none {(H),I,q}
 |aU b =>
  ext de
  let bH:k=b:=e;subst bH;show uv {(H),I,q}
 |int i =>
  let(t,rfl):=de;let bH:k=(i != 0):=e;subst bH;show PySem.P.truthy_int {(H),I,q}
 |str y =>
  let(t,rfl):=de;obtain⟨aJ,bH⟩:y.H<=dq/\k=((y.H:D) != 0):=e;subst bH;show PySem.P.truthy_str Z6 {H,I.tok _,q}
 |tj y =>
  let(t,rfl):=de;obtain⟨aJ,bH⟩:y.O<=dq/\k=((y.O:D) != 0):=e;subst bH;show W.truthy_bytes Z6 {H,I.tok _,q}
 |ref p =>
  ext de
  let bH:(∃xs,ht X.K H p xs/\k=!xs.isEmpty)\/(∃xs,e9 X.K H p xs/\k=!xs.isEmpty)\/∃av,H p=J (.aH av)/\k=!av.isEmpty:=e;rcases bH with⟨xs,au,bH⟩|⟨xs,au,bH⟩|⟨av,au,bH⟩
  .subst bH;let(aZ,r,cH,hz):=I.list au;let el:=r.H;show wpAny_truthy_list cH.isList (by erw[fo];lia) {H,I.tok _,by rw[qbq r];show q}
  .subst bH;let(aZ,r,cH,hz):=I.tuple au;let el:=r.H;show truthy_tuple cH (by erw[fo];lia) {H,I.tok _,by rw[qbq r];show q}
  .subst bH;obtain⟨hz,fQ,ag,r,m⟩:av.H<=dq/\(p==m5)=Y1/\∃ag,fx av ag/\s.heap.DictOf (hr X.R X.w) p ag:=I.bX p _ au;let el:av.H=ag.H:=Nj r;show wpAny_truthy_dict fQ m Z6 {H,I.tok _,by rw[aaO r];show q}
 |_=>show(show MP from e).elim
def vals1(r:cR [x] us):∃u,us=[u]/\cQ x u:=by
 cases r with
 |cons bx cn=>ext cn;show{_,P,bx}
def vals2(r:cR [x,y] us):∃u fB,us=[u,fB]/\cQ x u/\cQ y fB:=by
 cases r with
 |cons bx cn =>
  cases cn with
  |cons h2 nd=>ext nd;show{_,_,P,bx,h2}
def aaP(aI:X.calm=Y0):Ab X (.builtin "max") (λxs H Q=>∃i j,xs=[.int i,.int j]/\Q (.int (if j>i then j else i)) H):=by
 intro ah s U H xs us Q I r h;let(i,j,rfl,q):=h;let(u,fB,rfl,(t,rfl),(t',rfl)):=vals2 r;show max_two_ints (I.ok.hd aI) λh' bz k=>{_,H,I.kept k,?_,q}
 by_cases bJ:j>i
 .rw[Y2 bJ,Y2 bJ];show{_,P}
 .rw[Y3 bJ,Y3 bJ];show{_,P}
def aaQ(aI:X.calm=Y0):Ab X (.builtin "min") (λxs H Q=>∃i j,xs=[.int i,.int j]/\Q (.int (if j<i then j else i)) H):=by
 intro ah s U H xs us Q I r h;let(i,j,rfl,q):=h;let(u,fB,rfl,(t,rfl),(t',rfl)):=vals2 r;show min_two_ints (I.ok.hd aI) λh' bz k=>{_,H,I.kept k,?_,q}
 by_cases bJ:j<i
 .rw[Y2 bJ,Y2 bJ];show{_,P}
 .rw[Y3 bJ,Y3 bJ];show{_,P}
def agI(K:MN)(x:V)(H:aM)(n:Y):Prop :=
 match x with
 |.str y=>y.H<=dq/\n=y.H
 |.tj y=>y.O<=dq/\n=y.O
 |.ref p=>(∃xs,ht K H p xs/\n=xs.H)\/∃xs,e9 K H p xs/\n=xs.H
 |_=>MP
def IV:Ab X (.builtin "len") (λxs H Q=>∃x n,xs=[x]/\agI X.K x H n/\Q (.int n) H):=by
 intro ah s U H xs us Q I r h;let(x,n,rfl,e,q):=h;let(u,rfl,de):=vals1 r;let az:=Ac;let aK:dq=16777216:=oV
 induction x using a8.V.casesOn with
 |str y =>
  let(t,rfl):=de;obtain⟨aJ,bH⟩:y.H<=dq/\n=y.H:=e;subst bH;show len_str Z6 {.int _,H,I.tok _,{_,P},q}
 |tj y =>
  let(t,rfl):=de;obtain⟨aJ,bH⟩:y.O<=dq/\n=y.O:=e;subst bH;show W.len_bytes Z6 {.int _,H,I.tok _,{_,P},q}
 |ref p =>
  ext de
  let bH:(∃xs,ht X.K H p xs/\n=xs.H)\/∃xs,e9 X.K H p xs/\n=xs.H:=e;rcases bH with⟨xs,au,bH⟩|⟨xs,au,bH⟩
  .subst bH;let(aZ,bU,cH,hz):=I.list au;let el:=bU.H;show Calls.call_len_list cH.isList (by erw[fo];lia) {.int xs.H,H,I.tok _,{_,by erw[fo];rw[el]},q}
  .subst bH;let(aZ,bU,cH,hz):=I.tuple au;let el:=bU.H;show len_tuple cH (by erw[fo];lia) {.int xs.H,H,I.tok _,{_,by erw[fo];rw[el]},q}
 |_=>show(show MP from e).elim
end
structure qbr (h:MJ) (x o7 aP:MC) (zy:ME->MB ay):Prop where
 obj:h.get? x=J (W.instObj aP o7)
 ns:h.Ns1 o7 zy
 ne:o7≠x
def aaR{h:MJ}(n:h.Ns1 o7 zy):∃g6,h.get? o7=J g6/\∀name,W.lookIn name g6=J (zy name):=by
 let(o,es,ep,aX,hd,aW,_,hm):=n;show{o,aX,λname=>?_};let e:=hm name;delta nsFind findBy at e;rw[<-Array.find?_toList]at e;delta W.lookIn;rw[hd];dsimp only;split
 .rename_i y q;rw[q]at e;show M1 J e
 .rename_i q;rw[q]at e;let a:es.toList.any (·.refKey)=Y1:=by rw[qaH];intro y aJ;let(z,t,md):=aW y<|Array.mem_toList_iff.mp aJ;simp[DictEntry.refKey,md]
  let gg:¬es.toList.any (·.refKey)=Y0:=by rw[a];show nV
  rw[Y3 gg];show M1 J e
def qbr.look(I:qbr h x o7 aP zy):∃g6,W.InstAt h x (W.instObj aP o7) aP (J g6)/\∀name,W.lookIn name g6=J (zy name) :=
 let ⟨g6,aX,az⟩:=aaR I.ns
 {g6,{(I.obj),P,P,aX},az}
def yJ.some_of(r:yJ (J v) o):∃u,o=J u/\cQ v u:=by
 cases o with
 |none=>show(show MP from r).elim
 |some u=>show{(u),P,r}
structure qbs (K:MN) (aP:MC):Prop where
 Wd:W.plainGet K aP Str.empty=Y0
 hd:W.hasDictIn K aP=Y0
 po:W.plainOver K aP=Y0
 a5:W.findIn K ZH "__setattr__" = J (J<|.builtin "object.__setattr__")
def qbs.get{K:MN}{aP:MC}(c:qbs K aP)(f:ME):W.plainGet K aP f=Y0:=c.Wd
section
variable {X:bK}{ah:O Z2}{U:St}{H:aM}{s:aN}{A:dH}{E:ay->aN->Prop}{Q:ay->aN->Prop}{c:ay}{b:MF}
inductive q3 (K:MN) (H:aM):V->ay->Prop where
 |b0:q3 K H .b0<|.type "NoneType"
 |aU (x:MF):q3 K H (.aU x)<|.type "bool"
 |int (i:D):q3 K H (.int i)<|.type "int"
 |str (x:ME):q3 K H (.str x)<|.type "str"
 |vd (x:UInt64):q3 K H (.vd x)<|.type "float"
 |aj {a:MC} {xs:O V} (e:H a=J (.aj xs)):q3 K H ZM<|.type "list"
 |eI {a:MC} {o:MT} {xs:O V} (e:H a=J (.eI o<|.aj xs)):q3 K H ZM<|.type "list"
 |aF {a:MC} {xs:O V} (e:H a=J (.aF xs)):q3 K H ZM<|.type "tuple"
 |aH {a:MC} {av:O ZS} (e:H a=J (.aH av)):q3 K H ZM<|.type "dict"
def Ad(I:aT X ah U H s)(de:cQ x u)(ty:q3 X.K H x t)(e:M6 X.K t c=J b)(h:∀bz,Q (.bool b) { s with toks:=bz}) :
  bj Z4 A (call (.builtin "isinstance") [u,c]) Q E s:=by
 cases ty with
 |b0=>cases (show u=M9 from de);show Nh W.kitx_none I.iJ Nm e (λz=>nomatch z) h
 |aU y=>cases (show u=Value.bool y from de);show Nh W.kitx_bool I.iJ Nm e (λz=>nomatch z) h
 |int i=>let(t,q):=(show ∃t,u=Value.int i t from de);ext q;show Nh W.kitx_int I.iJ Nm e (λz=>nomatch z) h
 |str y=>let(t,q):=(show ∃t,u=Value.str y t from de);ext q;show Nh W.kitx_str I.iJ Nm e (λz=>nomatch z) h
 |vd y=>let(t,q):=(show ∃t,u=Value.float y t from de);ext q;show Nh W.kitx_float I.iJ Nm e (λz=>nomatch z) h
 |@aj a xs cB =>
  cases (show u=M3 a from de);let(_,_,n,_,ae):=(show gy X.R X.w H s.Q a (.aj xs) from I.bX a _ cB)
  show Nh W.kitx_list I.iJ {_,ae,P} e (λz=>nomatch z) h
 |@eI a cx xs cB =>
  cases (show u=M3 a from de);let(_,_,_,n,_,ae):=(show gy X.R X.w H s.Q a (.eI cx<|.aj xs) from I.bX a _ cB)
  show Nh W.kitx_list I.iJ {_,ae,P} e (λz=>nomatch z) h
 |@aF a xs cB =>
  cases (show u=M3 a from de);let(_,_,_,p):=(show gy X.R X.w H s.Q a (.aF xs) from I.bX a _ cB)
  let(o,ae,ai,_):=p;show Nh W.kitx_tuple I.iJ {(o),ae,ai} e (λz=>nomatch z) h
 |@aH a av cB =>
  cases (show u=M3 a from de);let(_,_,ag,_,p):=(show gy X.R X.w H s.Q a (.aH av) from I.bX a _ cB)
  let(o,es,ep,ae,ai,_):=p;show Nh W.kitx_dict I.iJ {(o),ae,ai.1} e (λz=>nomatch z) h
end
structure fs (k:Y) (A:dH):Prop where
 hd:A.handled=C
 o9:A.depth+3*k+5<HH
 un:A.units+16*k+200<fA
def fs.mono{j k:Y}(r:fs k A)(h:j<=k):fs j A:={r.hd,by let:=r.o9;lia,by let:=r.un;lia}
theorem fs.deeper{k:Y}(r:fs (k+1) A)(env:Env):fs k (A.deeper env) :=
 {r.hd,by let:=r.o9;show A.depth+1+3*k+5<_;lia,by let:=r.un;show A.units+3+16*k+200<_;lia}
theorem fs.depth{k:Y}(r:fs k A):A.depth<HH:=by let:=r.o9;lia
def fs.BW{k:Y}(r:fs k A):A.units<fA:=by let:=r.un;lia
def agJ:k7:=λ_ H Q=>Q [] H
def ahy(ta:TE)(lX:k7):k7:=λU H Q=>ta U H λx H1=>lX U H1 λxs b5=>Q (x::xs) b5
section
variable {X:bK}{e:MG}{es:O MG}{te:TE}{t:k7}{pos:MK}
def Ae:n5 X [] agJ:=λ_ _ _ _ H Q I h=>nY {[],H,I,.nil,h}
def akB(bl:eE X e te)(a4:n5 X es t)(aK:MD Zb rc):n5 X (e::es)<|ahy te t:=by intro pos ah s U H Q I h;rw[aK];show bj _ _ (sR<|ZO::gM pos (cA es X.I)) _ _ s;show kc (cm (bl ah s U H _ I h) λu s1 ⟨x,H1,bt,bx,aV⟩=>?_);show cm (a4 pos ah s1 U H1 _ bt aV) λus s2 ⟨xs,b5,di,cn,bb⟩=>⟨x::xs,b5,di,.cons bx cn,bb⟩
def agK(t:k7):TE:=λU H Q=>t U H λxs H1=>xs.H<=dq/\∀p,H1 p=C->Q (.ref p) (c3 H1 p<|.aF xs)
def agL(t:k7):TE:=λU H Q=>t U H λxs H1=>xs.H<=dq/\∀p,H1 p=C->Q (.ref p) (c3 H1 p<|.aj xs)
def aiX{bE}(h:n5 X es t):eE X (.Tuple es bE pos)<|agK t:=by intro ah s U H Q I bc;show wpAny_Tuple_spliced (cm (h pos ah s U H _ I bc) λus s1 ⟨xs,H1,bt,r,z,q⟩=>{by rw[<-r.H];show z,?_});let hf:H1 s1.L=C:=bt.bX.fresh<|b8 _;show{.ref s1.L,c3 H1 s1.L<|.aF xs,bt.laid (t':=s1.toks) (λb u e=>ec _ e) (b8 _) ?_,P,q _ hf};show{z,us,r,{_,fZ _ P,P,P,_,P}}
def qbt(h:n5 X es t):eE X (.List es pos)<|agL t:=by intro ah s U H Q I bc;show wpAny_List_spliced (cm (h pos ah s U H _ I bc) λus s1 ⟨xs,H1,bt,r,z,q⟩=>{by rw[<-r.H];show z,?_});let hf:H1 s1.L=C:=bt.bX.fresh<|b8 _;show{.ref s1.L,c3 H1 s1.L<|.aj xs,bt.laid (t':=s1.toks) (λb u e=>ec _ e) (b8 _) ?_,P,q _ hf};show{z,us,0,r,fZ _ P}
end
abbrev n7:=O V->aM->fC->iS->Prop
abbrev pv:=O Env->aM->aN->iS->ay->aN->Prop
structure yL (V8:dn) (w:cV) (K:MN) (bf:ME->MB ay) (base:MJ) (A:dH) (cu:O Env) (s:aN) (H:aM):Prop where
 frames:A.frames=J cu
 mod:Mod K bf base
 bs:∀b o,base.get? b=J o->s.heap.get? b=J o/\H b=C
 nj:base.E.O<=s.L
 kS:s.heap.FunFrames base cu
 pn:∀b∈hK cu,H b=C
 bX:f7 V8 w H s.Q
 dx:oX s.gens
def HT(cu:O Env)(V8:dn)(w:cV)(H:aM)(s:aN)(Q:fC)(u:ay)(s':aN):Prop :=
 ∃v ak,s'.os=s.os/\oX s'.gens/\gA (hK cu) [] H ak s.Q s'.Q/\f7 V8 w ak s'.Q/\cQ v u/\Q v ak
def qbu(CX:pv)(cu:O Env)(V8:dn)(w:cV)(H:aM)(s:aN)(Q:fC)(E:iS)(r:Result)(s':aN):Prop :=
 match r with
 |.ok (.ret u)=>HT cu V8 w H s Q u s'
 |.ok _=>MP
 |.error e=>CX cu H s E e s'
structure kT (V8:dn) (w:cV) (K:MN) (bf:ME->MB ay) (base:MJ) (CX:pv) (k:Y) (f:MC) (fd:iD) (ps:O ME) (sp:n7):Prop where
 len:∀ag H Q E,sp ag H Q E->ag.H=ps.H
 run:∀(A:dH) (cu:O Env) (s:aN) (H:aM) (args:Args) (us:O ay) (ag:O V) (Q:fC) (E:iS),fs k A->yL V8 w K bf base A cu s H->uC s fd args (ps.zip us)->cR ag us->sp ag H Q E ->
  mv (bo V8 w) A (.call (.ref f) args) (qbu CX cu V8 w H s Q E) s
section
variable {X:bK}{ah:O Z2}{U:St}{H:aM}{s s':aN}
def aT.L2(I:aT X ah U H s):yL X.R X.w X.K X.bf X.e X.A X.stack s H :=
 {I.ok.frames,I.ok.mod,I.bs,bw I.ok.nj I.bQ,I.stack,I.GO,I.bX,I.dx}
def aT.after(I:aT X ah U H s)(h:HT X.stack X.R X.w H s Q u s'):gs X ah U Q u s':=by let(v,ak,os,dx,un,bX,r,q):=h;let(bg,g,d,t,aaS):=s';obtain rfl:aaS=s.os:=os;show{v,ak,I.call (h':=bg) (g':=g) (d':=d) (t':=t) (ch:=[]) un bX dx λb z=>MI z Z5,r,q}
end
def ahz(sp:n7)(tr:O V)(E:iS)(t:k7):TE:=λU H Q=>t U H λag H1=>sp (ag++tr) H1 Q E
def Binds(K:MN)(fd:iD)(ps:O ME)(ds:O ay):Prop :=
 ∀(s:aN) (us:O ay),K.In s.Q->(us++ds).H=ps.H->uC s fd {us,[]} (ps.zip<|us++ds)
def Binds.all{K:MN}{fd:iD}{ps:O ME}(h:∀us:O ay,us.H=ps.H->uB fd {us,[]}=pure (ps.zip us)):Binds K fd ps []:=λs us _ az=>by rw[nQ]at az |-;show .of_eq<|h us az
def IW(CX:pv)(X:bK)(E:iS):Prop:=∀(ah:O Z2) (U:St) (H:aM) (s:aN) (e:ay) (s':aN),aT X ah U H s->CX X.stack H s E e s'->X.cL e s'
section
variable {X:bK}{CX:pv}{k:Y}{f aP:MC}{fd:iD}{ps:O ME}{sp:n7}{tr:O V}{ds:O ay}{E:iS}{x m:ME}{p pos apos:MK}{e o:MG}{es:O MG}{ta:TE}{t:k7}
def aiY{ah:O Z2}{U:St}{H:aM}{s:aN}{Q:fC}{us:O ay}{ag:O V}(F:kT X.R X.w X.K X.bf X.e CX k f fd ps sp)(a4:fs k X.A)(ao:Binds X.K fd ps ds)(hd:cR tr ds)(au:IW CX X E)
  (I:aT X ah U H s) (r:cR ag us) (h:sp (ag++tr) H Q E):bj Z4 X.A (call (.ref f) us) (gs X ah U Q) X.cL s:=by
 let cn:cR (ag++tr)<|us++ds:=r.append hd;let az:(us++ds).H=ps.H:=by rw[<-cn.H];show F.len _ _ _ _ h
 show w7 (sN (F.run X.A X.stack s H {us,[]} (us++ds) (ag++tr) Q E a4 I.L2 (ao s us I.iJ az) cn h) λr s' bc=>?_);cases r with
 |error e=>show au ah U H s e s' I bc
 |ok b2 =>
  cases b2 with
  |ret u=>show I.after bc
  |next=>show MY bc
  |brk=>show MY bc
  |cont=>show MY bc
def akC(F:kT X.R X.w X.K X.bf X.e CX k f fd ps sp)(a4:fs k X.A)(bL:fP X x)(hm:X.bf x=J (.ref f))(aW:Nl X.K (.ref f)=Y0)(ao:Binds X.K fd ps ds)(hd:cR tr ds)(au:IW CX X E)
  (bl:n5 X (e::es) t) (f9:MD ZF eY) (he:MD Zb rc) (fN:MD ((gM pos<|cA es X.I).any (·.1)=Y1) rc) :
  eE X (.Call (.Name x p) (e::es) [] pos) (ahz sp tr E t):=by
 intro ah s U H Q I h;show oT<|vf I bL hm ?_ f9;show W.callWith_K (h₀:=X.e) I.ok.mod.fI aW (cm (bl pos ah s U H _ I h) λus s1 ⟨ag,H1,bt,r,q⟩=>{bt.iJ,?_}) he fN;show aiY F a4 ao hd au bt r q
end
structure mV (N V8:O ME) (sc:jN):Prop where
 kind:sc.kind=.function
 co:sc.isCoroutine=Y1
 gen:sc.isGenerator=Y1
 bG:N.Nodup
 pre:N.take V8.H=V8
 par:∀x∈V8,sc.names.lookup x=J .local\/sc.names.lookup x=J .cell
 aiZ:∀y∈sc.l,y.2≠.free
theorem qbv{hP:ME->MB sQ}:∀{binds:O (ME×ay)} {m:ME->MB ay},(∀v,(x,v)∉binds)->bindL hP binds m x=m x
 |[],_,_=>rfl
 |(n,v)::r,m,h=>by
  delta bindL;rw[qbv λw hw=>h w<|cZ _ hw];split
  .let:x≠n:=by rintro rfl;show h v cc
   simp[this]
  .rfl
theorem qbw{hP:ME->MB sQ}:∀{binds:O (ME×ay)} {m:ME->MB ay},(∀v,(x,v)∉binds)->bindC hP binds m x=m x
 |[],_,_=>rfl
 |(n,v)::r,m,h=>by
  delta bindC;rw[qbw λw hw=>h w<|cZ _ hw];split
  .rfl
  .let:x≠n:=by rintro rfl;show h v cc
   simp[this]
theorem qbx{hP:ME->MB sQ}:∀{V8:O ME} {ag:O ay} {i:Y} {m:ME->MB ay},V8.Nodup->V8[i]?=J x->ag[i]?=J v->hP x=J .local ->
  bindL hP (V8.zip ag) m x=J v
 |[],_,_,_,_,h,_,_=>by simp at h
 |_::_,[],_,_,_,_,h,_=>by simp at h
 |p::V8,w::ag,0,m,bG,ae,ai,aW=>by simp at ae ai;subst ae;subst ai;show bindL hP ((p,w)::V8.zip ag) m p=_;delta bindL;rw[qbv λv bu=>(lP.mp bG).1 (Cb bu).1,Y2 aW];simp
 |p::V8,w::ag,i+1,m,bG,ae,ai,aW=>by show bindL hP ((p,w)::V8.zip ag) m x=_;delta bindL;show qbx (i:=i) (lP.mp bG).2 (by simpa using ae) (by simpa using ai) aW
theorem qby{hP:ME->MB sQ}:∀{V8:O ME} {ag:O ay} {i:Y} {m:ME->MB ay},V8.Nodup->V8[i]?=J x->ag[i]?=J v->hP x≠J .local ->
  bindC hP (V8.zip ag) m x=J v
 |[],_,_,_,_,h,_,_=>by simp at h
 |_::_,[],_,_,_,_,h,_=>by simp at h
 |p::V8,w::ag,0,m,bG,ae,ai,aW=>by simp at ae ai;subst ae;subst ai;show bindC hP ((p,w)::V8.zip ag) m p=_;delta bindC;rw[qbw λv bu=>(lP.mp bG).1 (Cb bu).1,Y3 aW];simp
 |p::V8,w::ag,i+1,m,bG,ae,ai,aW=>by show bindC hP ((p,w)::V8.zip ag) m x=_;delta bindC;show qby (i:=i) (lP.mp bG).2 (by simpa using ae) (by simpa using ai) aW
noncomputable def start(N:O ME)(ag:O V):St:=ag.map J++ML (N.H-ag.H) C
noncomputable def j8(CX:pv)(V8:dn)(w:cV)(K:MN)(bf:ME->MB ay)(base:MJ)(N:O ME)(qual:ME)(scope:jN)(f:MC)(cd:ay)(A:dH)(cu:O Env)(s:aN)(H:aM)(E:iS):bK where
 prog:=V8
 w:=w
 K:=K
 bf:=bf
 base:=base
 A:=A.deeper<|jm qual scope s.L f cd
 N:=N
 cT:=s
 dS:=H
 env:=jm qual scope s.L f cd
 cu:=cu
 stack:=jm qual scope s.L f cd::cu
 ex:=[]
 calm:=Y0
 fn:=λ_=>Y0
 gB:=[]
 cL:=λe s'=>bj (bo V8 w) (A.deeper<|jm qual scope s.L f cd) (leaving (jm qual scope s.L f cd) e) (λ_ lA=>CX cu H s E e lA) (λbH lA=>CX cu H s E bH lA) s'
def qbz{sc:jN}{n:Y}(h:sc.names.lookup x=J .cell):∃c,(cellsFrom n sc.l []).lookup x=J c:=by let q:=W.cellsFrom_some sc.l n []<|.inl h;show zd.mp q
def qbA{CX:pv}{V8:dn}{w:cV}{K:MN}{bf:ME->MB ay}{base:MJ}{N ps:O ME}{qual:ME}{scope:jN}{f:MC}{cd:ay}{A:dH}{cu:O Env}{s s1:aN}{H:aM}{E:iS}{us:O ay}{ag:O V}
  (cp:mV N ps scope) (hd:A.handled=C) (d8:yL V8 w K bf base A cu s H) (az:ag.H=ps.H) (r:cR ag us)
  (x:InCallC s s.L (bindL (jm qual scope s.L f cd).kindOf (ps.zip us) λ_=>C) (cellsFrom (s.L+1) scope.l []) (bindC (jm qual scope s.L f cd).kindOf (ps.zip us) λ_=>C) s1) :
  aT (j8 CX V8 w K bf base N qual scope f cd A cu s H E) [] (start N ag) H s1:=by
 let fN:ps.H<=N.H:=by let:=M1 List.H cp.pre;rw[kZ]at this;show bw (dy this.symm)<|Co _ _
 let(ae,bz,rfl,aW):=x.done;let Af:∀b:MC,b∉(j8 CX V8 w K bf base N qual scope f cd A cu s H E).ex:=λb z=>MI (show b∈([]:O MC) from z) Z5
 show⟨{d8.mod,cp.kind,P,P,b8 _,λy z c ae ai=>?_,λy aJ=>?_,λy c _ h=>?_,λ_=>hd,Around.frames_deeper d8.frames,.inr {(P),P},λb z=>MI z<|Af b,d8.bs,d8.nj,λb _ _=>Af b,λb z=>MI z<|Af b,d8.kS,d8.pn},
  rfl,d8.dx,gA.kept aW,{_,x.toInCall.ns,λi y v ae ai aS=>?_},λy c h=>{_,x.cell y c h},d8.bX.fresh<|b8 _,λy c h=>?_,λp aC=>MI (show p∈([]:O Z2) from aC) Z5,d8.bX.kept aW,?_⟩
 .show name_of_addr x.apart (Nn ae)<|Nn ai
 .let aJ:scope.names.lookup y=J .cell\/scope.names.lookup y=J .free:=aJ;rcases aJ with aJ|aJ
  .show qbz aJ
  .show MI P<|cp.aiZ _<|Nn aJ
 .show ei<|x.above y c<|Nn h
 .let hi:i<ag.H:=by
   delta start at ai;by_cases hi:i<ag.H
   .show hi
   .rw[B0<|by simpa using hi]at ai;rw[yY]at ai;split at ai<;>ext ai
  let bl:ag[i]?=J v:=by
   delta start at ai;rw[yX (by simpa using hi),hO]at ai;cases e:ag[i]? with
   |none=>rw[e]at ai;ext ai
   |some a=>rw[e]at ai;cases ai;rfl
  let(u,bP,bh):=r.get bl;let aC:ps[i]?=J y:=by rw[<-cp.pre,qap<|dX hi<|dy az];show ae
  let OD:ps.Nodup:=by rw[<-cp.pre];show cp.bG.sublist<|y2 _ _
  show{u,bh,?_};rcases cp.par y (B5 aC) with k|k
  .show .inl {k,qbx OD aC bP k}
  .let(c,e):=qbz (n:=s.L+1) k;show .inr {.inl k,c,e,?_};let q:=x.cell y c e;rw[qby OD aC bP<|by show scope.names.lookup y≠_;rw[k];decide]at q;show q
 .show d8.bX.fresh<|ei<|x.above y c<|Nn h
 .delta start;show _=N.H;rw[gm,bZ,mX];show nS<|bw (dy az) fN
def qbB{CX:pv}{V8:dn}{w:cV}{K:MN}{bf:ME->MB ay}{base:MJ}{k:Y}{f:MC}{name qual:ME}{params:Arguments}{body:O MM}{scope:jN}{xg eV doc pm dm eZ jP:ay}{an g6:MB MC}
  {qH:MH<|MB ay} {N ps:O ME} {sp:n7} (kd:K.lookup f=J {jP,g6,.func<|Nf name qual params body scope xg eV doc pm an dm eZ,qH}) (hs:W.codeIn K dm qual=Y0) (cp:mV N ps scope)
  (len:∀ag H Q E,sp ag H Q E->ag.H=ps.H)
  (kX:∀(A:dH) (cu:O Env) (s:aN) (H:aM) (ag:O V) (Q:fC) (E:iS),fs k (A.deeper<|jm qual scope s.L f dm)->sp ag H Q E ->
   ∃t,kG (j8 CX V8 w K bf base N qual scope f dm A cu s H E) body t/\t { bC:=λ_ ak=>Q .b0 ak,ba:=Q} (start N ag) H) :
  kT V8 w K bf base CX (k+1) f (Nf name qual params body scope xg eV doc pm an dm eZ) ps sp:=by
 show{len,λA cu s H args us ag Q E a4 d8 ao r lB=>?_};let az:=len _ _ _ _ lB;let lY:K.In s.Q:=d8.mod.fI.keeps λb o e=>(d8.bs b o e).1;let lim:s.Q.NoLimit:=d8.mod.nolimit.keeps λb o e=>(d8.bs b o e).1;let ahA:∀y∈ps.zip us,scope.names.lookup y.1=J .local\/(scope.names.lookup y.1=J .cell/\((cellsFrom (s.L+1) scope.l []).lookup y.1).isSome=Y0):=λ⟨n,v⟩ aJ=>by
  rcases cp.par n (Cb aJ).1 with q|q
  .show .inl q
  .show .inr {q,W.cellsFrom_some _ _ _<|.inl q}
 show codeAny_call_function a4.depth (lY _ _ kd) P cp.co cp.gen P (W.codeRec_of lY hs)<|ao _ _ _ _ ?_;show qa8 cp.kind ahA λenv he s1 x=>?_;subst he;show{lim.keeps x.toInCall.keep,codeAny_func ?_};let(t,ct,bc):=kX A cu s H ag Q E (a4.deeper _) lB;let I:aT (j8 CX V8 w K bf base N qual scope f dm A cu s H E) [] (start N ag) H s1:=qbA cp a4.hd d8 az r x;show hE (ct [] s1 (start N ag) H _ I bc) (λb2 s' aK=>?_) λe s' aK=>aK;let fin:∀{U':St} {ak:aM} {v:V} {u:ay},aT (j8 CX V8 w K bf base N qual scope f dm A cu s H E) [] U' ak s'->cQ v u->Q v ak->HT cu V8 w H s Q u s' :=
  λ{U' ak v u} c0 bh q=>{(v),ak,c0.os,c0.dx,c0.e,c0.bX,bh,q}
 cases b2 with
 |ret u =>
  let(v,U',ak,c0,bh,q):=aK;show fin c0 bh q
 |next =>
  let(U',ak,c0,q):=aK;show fin (v:=V.b0) (u:=M9) c0 P q
 |brk =>
  let(_,_,_,q):=aK;show MY q
 |cont =>
  let(_,_,_,q):=aK;show MY q
end a8
namespace gp
open PySem PyProof.Rows
noncomputable def er:O D->O D->MF
 |[],[]=>Y1
 |[],_::_=>Y0
 |_::_,[]=>Y1
 |x::xs,y::aO=>if x=y then er xs aO else decide (x<y)
section
variable {prog:dn}{w:cV}{A:dH}{E:ay->aN->Prop}{s:aN}
noncomputable def d4(n d:Y):MB D->Y
 |none=>d
 |some v=>if v<0 then(v+(n:D)).M else min v.M n
def ai0(n d:Y)(hd:d<=n)(o:MB D):d4 n d o<=n:=by
 cases o with
 |none=>show hd
 |some v =>
  show(if v<0 then(v+(n:D)).M else min v.M n)<=n;by_cases bu:v<0
  .rw[Y2 bu];lia
  .rw[Y3 bu];show Co _ _
def qbC(v:D)(n d:Y):(if v<0 then max (v+(n:D)) 0 else min v (n:D))=((d4 n d (J v):Y):D):=by
 show(if v<0 then max (v+(n:D)) 0 else min v (n:D))=(((if v<0 then(v+(n:D)).M else min v.M n):Y):D)
 by_cases bu:v<0
 .erw[Y2 bu];lia
 .erw[Y3 bu];lia
def aaT(lo hi:MB D)(n:Y):Builtin.Slice.sliceAdjust lo hi 1 (n:D)=(((d4 n 0 lo:Y):D),((d4 n n hi:Y):D)):=by
 let ae:¬ ((1:D)<0):=by decide
 delta Builtin.Slice.sliceAdjust;erw[ae,MU];show Prod.ext ?_ ?_
 .cases lo with
  |none=>rfl
  |some v=>show qbC v n 0
 .cases hi with
  |none=>rfl
  |some v=>show qbC v n n
def aaU(i j:Y):OB (i:D) (j:D) 1=j-i:=by
 delta OB;let ae:(1:D)>0:=by decide
 erw[ae,MR,Int.ediv_one];split<;>lia
def qbD(p:qq v o)(h:Q o s):bj ZB A (Builtin.Slice.slicePartIndex v) Q E s:=by
 cases p with
 |none=>show slicePart_none h
 |int i t=>show slicePart_int h
def qbE{lo hi:MB D}{n:Y}{Q:D×D×Y->aN->Prop}(aK:s.heap.IsSliceOf cW jt ju .none)(cH:qq jt lo)(pu:qq ju hi)
  (h:Q (((d4 n 0 lo:Y):D),1,d4 n n hi-d4 n 0 lo) s):bj ZB A (Builtin.Slice.sliceApplied (.ref cW)<|pure (n:D)) Q E s:=by
 let(os,vh,rP,gS):=id aK;delta Builtin.Slice.sliceApplied Builtin.Slice.sliceFields;show a7<|a7<|uz vh gS (x:=jt) P<|a7<|uz vh gS (x:=ju) P<|a7<|uz vh gS (x:=.none) P<|bW ?_;show a7<|slicePart_none ?_;show bj _ _ (if((1:D)==0)=Y0 then _ else _) _ _ s;rw[Y3 Z1];show a7<|qbD cH<|a7<|qbD pu<|a7<|bW ?_;show bj _ _ (match Builtin.Slice.sliceAdjust lo hi 1 (n:D) with|(lo,hi)=>pure (lo,(1:D),OB lo hi 1)) _ _ s;rw[aaT lo hi n];show bj _ _ (pure (((d4 n 0 lo:Y):D),(1:D),OB ((d4 n 0 lo:Y):D) ((d4 n n hi:Y):D) 1)) _ _ s;rw[aaU];show bW h
def amo(xs:MH ay)(i k:Y):((M0 k).filterMap λ(m:Y)=>xs[((i:D)+(m:D)*1).M]?).D=((xs.toList.drop i).take k).D:=by
 let e:(λ(m:Y)=>xs[((i:D)+(m:D)*1).M]?)=λm=>xs[i+m]?:=by
  funext m;let:((i:D)+(m:D)*1).M=i+m:=by lia
  rw[this]
 rw[e];let:=pick_run xs i k;rw[List.filterMap_map]at this;let ax:((λx=>xs[x]?)∘λx=>i+x)=λm=>xs[i+m]?:=rfl;rw[ax]at this;rw[this]
def aob{lo hi:MB D}(ct:IsTup s.Q t Wf)(aK:s.heap.IsSliceOf cW jt ju .none)(cH:qq jt lo)(pu:qq ju hi)
  (hw:¬ (d4 Wf.O 0 lo=0/\d4 Wf.O Wf.O hi=Wf.O))
  (h:Q (.ref s.L) { s with heap:=s.heap.push { cls:=.type "tuple",data:=.seq ((Wf.toList.drop (d4 Wf.O 0 lo)).take (d4 Wf.O Wf.O hi-d4 Wf.O 0 lo)).D}})
  (hsz:Wf.O<=dq):bj ZB A (qp (.ref t)<|.ref cW) Q E s:=by
 let Gw:sizeOk<|.seq ((Wf.toList.drop<|d4 Wf.O 0 lo).take (d4 Wf.O Wf.O hi-d4 Wf.O 0 lo)).D:=by show((Wf.toList.drop<|d4 Wf.O 0 lo).take (d4 Wf.O Wf.O hi-d4 Wf.O 0 lo)).D.O<=dq;rw[fo,kZ,qe,gW];lia
 let bJ:d4 Wf.O Wf.O hi<=Wf.O:=ai0 _ _ (b8 _) hi;let(os,vh,rP,gS):=id aK;let IX:s.TypeIs (.ref cW) "slice":={(os),vh,rP}
 delta qp
 try with_reducible show ky ?_
 first|show a7 (bW ?_)|skip
 show a7<|wpAny_sequenceKey ct.typeIs Z1 ?_
 show a7 (uu (name:=VZ "__getitem__") ct.typeIs Ow
  (mr Ow ct.typeIs entry_tuple_getitem ?_<|args_tuple_getitem _ _))
 show bj _ _ (Builtin.Tuple.tupleItemsOf (.ref t) >>= _) _ _ s;show a7<|tupleItemsOf_ ct ?_;show a7<|sO IX ?_;rw[Y2 Z1];show a7<|qbE aK cH pu ?_;let IY:¬ ((((d4 Wf.O 0 lo:Y):D)==0&&(1:D)==1&&(d4 Wf.O Wf.O hi-d4 Wf.O 0 lo)==Wf.O)=Y0):=by intro q;rw[iR,iR]at q;let aV:((d4 Wf.O 0 lo:Y):D)=0:=eq_of_beq q.1.1;let bb:d4 Wf.O Wf.O hi-d4 Wf.O 0 lo=Wf.O:=eq_of_beq q.2;show hw {by lia,by lia}
 show bj _ _ (if(((d4 Wf.O 0 lo:Y):D)==0&&(1:D)==1&&(d4 Wf.O Wf.O hi-d4 Wf.O 0 lo)==Wf.O)=Y0 then _ else _) _ _ s;rw[Y3 IY,amo]
 first
  |show a7 (m:=Oz _)<|mq (bW {_,P,bW h}) Gw
  |show a7 (m:=Oz _)<|mq (a7<|bW<|bW {_,P,bW h}) Gw
  |show a7<|a7 (m:=Oz _)<|mq (bW<|bW {_,P,bW h}) Gw
  |show a7<|a7 (m:=Oz _)<|mq (bW {_,P,bW h}) Gw
end
end gp
namespace a8
open PySem PySem.Spec PyProof.Rows
abbrev zA:=St->aM->(MB D->aM->Prop)->Prop
def zB(X:bK)(e:MB MG)(t:zA):Prop :=
 ∀(ah:O Z2) (s:aN) (U:St) (H:aM) (Q:MB D->aM->Prop),aT X ah U H s->t U H Q ->
  bj Z4 X.A (evalPart e X.I) (λu s'=>∃o ak,aT X ah U ak s'/\qq u o/\Q o ak) X.cL s
def akD:zA:=λ_ H Q=>Q C H
def ahB(t:TE):zA:=λU H Q=>t U H λx H1=>∃i,x=.int i/\Q (J i) H1
section
variable {X:bK}{e:MG}{te:TE}{lo hi:MB MG}{jb CT:zA}{pos cP:MK}
def akE:zB X C akD:=by intro ah s U H Q I h;rw[evalPart_none];show bW {C,H,I,.none,h}
def akF(h:eE X e te):zB X (J e)<|ahB te:=by intro ah s U H Q I hw;rw[evalPart_some];show cm (h ah s U H _ I hw) λu s1 ⟨x,H1,bt,bx,aV⟩=>?_;let(i,rfl,q):=aV;let(t,rfl):=bx;show{J i,H1,bt,.int i t,q}
def ts(X:bK)(r:V->MB D->MB D->aM->fC->Prop):Prop :=
 ∀(ah:O Z2) (s:aN) (U:St) (H:aM) (x:V) (v jt ju:ay) (lo hi:MB D) (cW:MC) (Q:fC),aT X ah U H s->cQ x v->s.heap.IsSliceOf cW jt ju .none->qq jt lo->qq ju hi->r x lo hi H Q ->
  ∃T id,typeLookup (.type T) "__getitem__" = pure (J<|.builtin id)/\s.TypeIs v T/\bj Z4 X.A (qp v<|.ref cW) (gs X ah U Q) X.cL s
def ts.or(h:ts X r)(h':ts X bU):ts X (λx lo hi H Q=>r x lo hi H Q\/bU x lo hi H Q):=by
 intro ah s U H x v jt ju lo hi cW Q I de aK cH pu q;rcases q with q|q
 .show h ah s U H x v jt ju lo hi cW Q I de aK cH pu q
 .show h' ah s U H x v jt ju lo hi cW Q I de aK cH pu q
def aaV(r:V->MB D->MB D->aM->fC->Prop)(te:TE)(jb CT:zA):TE:=λU H Q=>te U H λx H1=>jb U H1 λl b5=>CT U b5 λu eR=>r x l u eR Q
def amq(a4:ts X r)(he:eE X e te)(az:zB X lo jb)(bP:zB X hi CT):eE X (.Subscript e (.Slice lo hi C cP) pos)<|aaV r te jb CT:=by intro ah s U H Q I h;show Subscript_ (cm (he ah s U H _ I h) λv s1 ⟨x,H1,bt,bx,aV⟩=>?_);show wpAny_Slice (cm (az ah s1 U H1 _ bt aV) λjt s2 ⟨l,b5,di,cH,bb⟩=>cm (bP ah s2 U b5 _ di bb) λju s3 ⟨u,eR,gD,pu,c1⟩=>?_);rw[evalPart_none];show bW ?_;let ja:aT X ah U eR { s3 with heap:=s3.heap.push { cls:=.type "slice",data:=.fields #[jt,ju,.none]}}:=gD.kept (t':=s3.toks) λb cx q=>ec _ q;let(T,id,gP,ct,bL):=a4 ah { s3 with heap:=s3.heap.push { cls:=.type "slice",data:=.fields #[jt,ju,.none]}} U eR x v jt ju l u s3.L Q ja bx (Heap.IsSliceOf.new ..) cH pu c1;show bj Z4 X.A (CP e (.Slice lo hi C cP) v<|.ref s3.L) (gs X ah U Q) X.cL { s3 with heap:=s3.heap.push { cls:=.type "slice",data:=.fields #[jt,ju,.none]}};show tail_any (ops:=[.ref s3.L,v]) ct gP bL (by with_unfolding_all rfl)
def tX(xs:O V)(lo hi:MB D):O V:=(xs.drop<|gp.d4 xs.H 0 lo).take (gp.d4 xs.H xs.H hi-gp.d4 xs.H 0 lo)
def qbF(xs:O V)(lo hi:MB D):(tX xs lo hi).H<=xs.H:=by delta tX;rw[kZ,qe];lia
def agM(K:MN):V->MB D->MB D->aM->fC->Prop:=λx lo hi H Q=>∃a xs,x=.ref a/\e9 K H a xs /\
 ¬ (gp.d4 xs.H 0 lo=0/\gp.d4 xs.H xs.H hi=xs.H)/\∀p,H p=C->Q (.ref p) (c3 H p<|.aF<|tX xs lo hi)
def ai1:ts X<|agM X.K:=by
 intro ah s U H x v jt ju lo hi cW Q I de aK cH pu h;let(a,xs,rfl,au,hw,q):=h
 ext de
 let(aZ,r,ct,hz):=I.tuple au;let el:aZ.D.O=xs.H:=by rw[fo];show r.length.symm
 show{"tuple",_,PyProof.Rows.slot_tuple_getitem.lookup,ct.typeIs,?_};show gp.aob ct aK cH pu (by rw[el];show hw) ?_ (by rw[el];show hz);rw[el];show{.ref s.L,_,I.laid (t':=s.toks) (o:=.aF<|tX xs lo hi) (λb cx q=>ec _ q) (b8 _) ?_,P,q _<|I.bX.fresh<|b8 _};show{bw (qbF xs lo hi) hz,_,(r.drop<|gp.d4 xs.H 0 lo).take (gp.d4 xs.H xs.H hi-gp.d4 xs.H 0 lo),ni.new _ _}
end
noncomputable def tu(n:Y)(i:D):MB Y:=if 0<=i then(if i<n then J i.M else C) else if-(n:D)<=i then J (i+n).M else C
def xW{α:Type}(xs:O α)(i:D):MB α:=(tu xs.H i).bind λj=>xs[j]?
def OH{n:Y}{i:D}{j:Y}(h:tu n i=J j):seqIndex? i n=J j/\j<n /\ -(n:D)<=i/\i<n:=by
 delta tu at h;by_cases h0:0<=i
 .rw[Y2 h0]at h;by_cases ae:i<n
  .rw[Y2 ae]at h;let e:i.M=j:=MV h;show{by rw[seqIndex_of h0 ae,e],by lia,(ce (Int.neg_nonpos_of_nonneg<|iC _) h0),ae}
  .rw[Y3 ae]at h;ext h
 .rw[Y3 h0]at h;by_cases ae:-(n:D)<=i
  .rw[Y2 ae]at h;let e:(i+n).M=j:=MV h;show{by rw[seqIndex_neg (ri h0) ae,e],by lia,ae,(zf (ri h0)<|iC _)}
  .rw[Y3 ae]at h;ext h
def OI{α:Type}{xs:O α}{i:D}{v:α}(h:xW xs i=J v):∃j,seqIndex? i xs.H=J j/\xs[j]?=J v/\j<xs.H /\ -(xs.H:D)<=i/\i<xs.H:=by
 delta xW at h;cases e:tu xs.H i with
 |none=>rw[e]at h;ext h
 |some j =>
  rw[e]at h;let(ae,ai,aS,dp):=OH e;show{(j),ae,h,ai,aS,dp}
def akG(b:MG):Prop:=∀o i,CM b Y1 o i=operate [o,i] (qp o i)
def OJ(X:bK)(r:dF):Prop :=
 ∀(value slice:MG) (ah:O Z2) (s:aN) (U:St) (H:aM) (x y:V) (v u:ay) (Q:fC),aT X ah U H s->cQ x v->cQ y u->r x y H Q ->
  CM slice Y1 v u=operate [v,u] (qp v u)->bj Z4 X.A (CP value slice v u) (gs X ah U Q) X.cL s
def aaW(X:bK)(id:M8)(r:V->O V->aM->fC->Prop):Prop :=
 ∀(ah:O Z2) (s:aN) (U:St) (H:aM) (x:V) (xs:O V) (v:ay) (us:O ay) (Q:fC),aT X ah U H s->cQ x v->cR xs us->r x xs H Q ->
  bj Z4 X.A (call (.builtin id)<|v::us) (gs X ah U Q) X.cL s
section
variable {X:bK}{a b:MG}{ta tb:TE}{pos:MK}
def agN(K:MN):dF:=λx y H Q=>∃p xs i v,x=.ref p/\y=.int i/\ht K H p xs/\xW xs i=J v/\Q v H
def agO(K:MN):dF:=λx y H Q=>∃p xs i v,x=.ref p/\y=.int i/\e9 K H p xs/\xW xs i=J v/\Q v H
def akH:OJ X<|agN X.K:=by
 intro value slice ah s U H x y v u Q I de eF h aK;let(p,xs,i,z,rfl,rfl,bc,he,q):=h
 ext de
 let(t,rfl):=eF;let(aZ,r,cH,hz):=I.list bc;let(j,ae,ai,aS,dp,fL):=OI he;let(w,xh,oc):=r.get ai;let az:=r.H;let bI:=Ac;let fin:gs X ah U Q w s:={(z),H,I,oc,q}
 by_cases h0:0<=i
 .let bJ:i.M=j:=by rw[seqIndex_of h0 fL]at ae;show MV ae
  show item_listR cH.isList h0 Z6 (by rw[bJ];simpa using xh) fin aK
 .let bJ:(i+(aZ.D.O:D)).M=j:=by rw[seqIndex_neg (ri h0) dp]at ae;rw[fo,<-az];show MV ae
  show qba (x:=w) cH.isList.typeIs slot_list_getitem.lookup
   (wpAny_getItem_list_neg (Q:=λr s'=>r=w/\gs X ah U Q r s') cH.isList (ri h0) (by rw[fo]<;>lia) Z6 (by rw[bJ];simpa using xh) {(P),fin}) aK
def ai2:OJ X<|agO X.K:=by
 intro value slice ah s U H x y v u Q I de eF h aK;let(p,xs,i,z,rfl,rfl,bc,he,q):=h
 ext de
 let(t,rfl):=eF;let(aZ,r,cH,hz):=I.tuple bc;let(j,ae,ai,aS,dp,fL):=OI he;let(w,xh,oc):=r.get ai;let az:=r.H;let bI:=Ac;let fin:gs X ah U Q w s:={(z),H,I,oc,q}
 show qba (x:=w) cH.typeIs slot_tuple_getitem.lookup
  (getItem_tuple (j:=j) (Q:=λr s'=>r=w/\gs X ah U Q r s') cH Z6 Z6 (by rw[fo,<-az];show ae) (by simpa using xh) {(P),fin}) aK
def aaX(aZ:O ay)(n j:Y)(u:ay):Ng (·.setIfInBounds j u) { cls:=.type "list",data:=.seq aZ.D n}={ cls:=.type "list",data:=.seq (aZ.set j u).D n}:=by simp[Ng]
theorem aT.aj{ah:O Z2}{U:St}{H:aM}{s:aN}{p:MC}{xs:O V}(I:aT X ah U H s)(h:H p=J (.aj xs)) :
  ∃(aZ:O ay) (n:Y),cR xs aZ/\s.heap.get? p=J { cls:=.type "list",data:=.seq aZ.D n}/\xs.H<=dq:=by
 let(z,aZ,n,r,e):=I.bX p _ h;show{(aZ),n,r,e,z}
def aT.ai3{ah:O Z2}{U:St}{H:aM}{s:aN}{p:MC}{xs aO:O V}{aZ its':O ay}{n n':Y}{f:MT->MT}(I:aT X ah U H s)(h:H p=J (.aj xs))
  (aX:s.heap.get? p=J { cls:=.type "list",data:=.seq aZ.D n}) (hf:f { cls:=.type "list",data:=.seq aZ.D n}={ cls:=.type "list",data:=.seq its'.D n'}) (r:cR aO its') (hz:aO.H<=dq) (t:Y) :
  aT X ah U (c3 H p<|.aj aO) { s with heap:=s.heap.update p f,toks:=t}:=by
 let e:(s.heap.update p f).get? p=J { cls:=.type "list",data:=.seq its'.D n'}:=by rw[qk f aX (by rw[hf]<;>rfl),hf]
 show I.write (x:=p) (by rw[h];trivial) (λb u ao q=>(uq _ _<|M4 ao).trans q) {_,e} ?_;show{(hz),its',n',r,e}
def UL:V->V->V->aM->(aM->Prop)->Prop:=λo i v H Q=>∃p xs k j,o=.ref p/\i=.int k/\H p=J (.aj xs)/\tu xs.H k=J j/\Q (c3 H p<|.aj<|xs.set j v)
def set_list:Ga X UL:=by
 intro ah s U H o i v iv h1 u Q I xi sW bh h;let(p,xs,k,j,rfl,rfl,aC,bJ,q):=h
 ext xi
 let(t,rfl):=sW;let(aZ,n,r,aX,hz):=I.aj aC;let(ae,ai,aS,dp):=OH bJ;let az:=r.H;let bI:=Ac;let eL:aT X ah U (c3 H p<|.aj<|xs.set j v) { s with heap:=s.heap.update p (Ng (·.setIfInBounds j u))} :=
  I.ai3 aC aX (aaX aZ n j u) (r.set bh j) (by rw[oQ];show hz) s.toks
 by_cases h0:0<=k
 .let aW:k.M=j:=by rw[seqIndex_of h0 dp]at ae;show MV ae
  show W.ki_setAt aX h0 Z6 (by rw[fo,<-az];show dp) (by rw[aW];show{_,eL,q})
 .let aW:(k+(aZ.D.O:D)).M=j:=by rw[seqIndex_neg (ri h0) aS]at ae;rw[fo,<-az];show MV ae
  show W.ki_setBack aX (ri h0) (by rw[fo,<-az];show aS) Z6 (by rw[aW];show{_,eL,q})
def aaY(lo hi:MB D)(n:Y):(uA lo hi C n).1=((gp.d4 n 0 lo:Y):D)/\(uA lo hi C n).2.1=((gp.d4 n n hi:Y):D)/\(uA lo hi C n).2.2=1:=by
 show{?_,?_,P}
 .cases lo with
  |none=>simp[uA,gp.d4]
  |some i =>
   erw[uA,gp.d4,qaX,show(1:D)>0 by decide,MR];by_cases h:i<0
   .erw[h,MR]<;>lia
   .erw[h,MU]<;>lia
 .cases hi with
  |none=>simp[uA,gp.d4]
  |some i =>
   erw[uA,gp.d4,qaX,show(1:D)>0 by decide,MR];by_cases h:i<0
   .erw[h,MR]<;>lia
   .erw[h,MU]<;>lia
def aaZ(aZ:O ay)(lo hi:MB D):slicePick aZ.D lo hi C=((aZ.drop<|gp.d4 aZ.H 0 lo).take (gp.d4 aZ.H aZ.H hi-gp.d4 aZ.H 0 lo)).D:=by let(ae,ai,aS):=aaY lo hi aZ.D.O;delta slicePick;rw[ae,ai,aS];erw[sliceRange_one,pick_run,fo]<;>rfl
def agP(K:MN):V->MB D->MB D->aM->fC->Prop:=λx lo hi H Q=>∃a xs,x=.ref a/\ht K H a xs/\∀p,H p=C->Q (.ref p) (c3 H p<|.aj<|tX xs lo hi)
def akI:ts X<|agP X.K:=by
 intro ah s U H x v jt ju lo hi cW Q I de aK cH pu h;let(a,xs,rfl,au,q):=h
 ext de
 let(aZ,r,ct,hz):=I.list au;let el:=r.H;show{"list",_,slot_list_getitem.lookup,ct.isList.typeIs,?_};show wpAny_getItem_list_slice ct.isList aK cH pu .none Z5 ?_ (by rw[fo]<;>lia);rw[aaZ,<-el];show{.ref s.L,_,I.laid (t':=s.toks) (o:=.aj<|tX xs lo hi) (λb cx q=>ec _ q) (b8 _) ?_,P,q _<|I.bX.fresh<|b8 _};show{bw (qbF xs lo hi) hz,_,0,(r.drop<|gp.d4 xs.H 0 lo).take (gp.d4 xs.H xs.H hi-gp.d4 xs.H 0 lo),fZ _ P}
noncomputable def vi:V->MF
 |.b0=>Y0
 |.aU _=>Y0
 |.int _=>Y0
 |.str _=>Y0
 |_=>Y1
noncomputable def od:V->V->MF
 |.b0,.b0=>Y0
 |.aU a,.aU b=>a==b
 |.aU a,.int b=>(if a then 1 else 0)==b
 |.int a,.aU b=>a==(if b then 1 else 0)
 |.int a,.int b=>a==b
 |.str a,.str b=>a==b
 |_,_=>Y1
def ai4(eF:cQ y u)(de:cQ x v)(CU:vi y=Y0)(cq:vi x=Y0):SeqAt.EqAt A s u v<|od y x:=by
 induction y using a8.V.casesOn with
 |b0 =>
  ext eF
  induction x using a8.V.casesOn with
  |b0=>ext de;show SeqAt.EqAt.same _
  |aU b=>ext de;show SeqAt.EqAt.none_bool b
  |int b=>let(t,rfl):=de;show SeqAt.EqAt.none_int b t
  |str b=>let(t,rfl):=de;show SeqAt.EqAt.none_str b t
  |_=>show MI (show Y1=Y0 from cq) nV
 |aU a =>
  ext eF
  induction x using a8.V.casesOn with
  |b0=>ext de;show SeqAt.EqAt.bool_none a
  |aU b=>ext de;show SeqAt.EqAt.bool_bool a b
  |int b=>let(t,rfl):=de;show SeqAt.EqAt.bool_int a b t
  |str b=>let(t,rfl):=de;show SeqAt.EqAt.bool_str a b t
  |_=>show MI (show Y1=Y0 from cq) nV
 |int a =>
  let(t',rfl):=eF
  induction x using a8.V.casesOn with
  |b0=>ext de;show SeqAt.EqAt.int_none a t'
  |aU b=>ext de;show SeqAt.EqAt.int_bool a t' b
  |int b=>let(t,rfl):=de;show SeqAt.EqAt.int_int a t' b t
  |str b=>let(t,rfl):=de;show SeqAt.EqAt.int_str a t' b t
  |_=>show MI (show Y1=Y0 from cq) nV
 |str a =>
  let(t',rfl):=eF
  induction x using a8.V.casesOn with
  |b0=>ext de;show SeqAt.EqAt.str_none a t'
  |aU b=>ext de;show SeqAt.EqAt.str_bool a t' b
  |int b=>let(t,rfl):=de;show SeqAt.EqAt.str_int a t' b t
  |str b=>let(t,rfl):=de;show SeqAt.EqAt.str_str a t' b t
  |_=>show MI (show Y1=Y0 from cq) nV
 |_=>show MI (show Y1=Y0 from CU) nV
def og(x:V)(u:ay):MF:=match u with
 |.none=>od .b0 x
 |.bool b=>od (.aU b) x
 |.int i _=>od (.int i) x
 |.str z _=>od (.str z) x
 |_=>Y1
def Vo(r:cQ y u)(f:vi y=Y0):og x u=od y x:=by
 induction y using a8.V.casesOn with
 |b0=>ext r;rfl
 |aU b=>ext r;rfl
 |int i=>let(t,rfl):=r;rfl
 |str z=>let(t,rfl):=r;rfl
 |_=>show MI (show Y1=Y0 from f) nV
theorem IZ(de:cQ x v)(cq:vi x=Y0):∀{xs:O V} {us:O ay},cR xs us->xs.all vi=Y0->∀u∈us,SeqAt.EqAt A s u v (og x u)
 |_,_,.nil,_=>λu bP=>by ext bP
 |y::xs,u::us,.cons r t,f=>λft bP=>by
  rw[oR,iR]at f;rcases cF.mp bP with rfl|bP
  .rw[Vo r f.1];show ai4 r de f.1 cq
  .show IZ de cq t f.2 ft bP
def OK:Ab X (.type "list") (λxs H Q=>∃p aO,xs=[.ref p]/\(ht X.K H p aO\/e9 X.K H p aO)/\∀l,H l=C->Q (.ref l) (c3 H l<|.aj aO)):=by
 intro ah s U H xs us Q I r h;let(p,aO,rfl,bc,q):=h;let(u,rfl,de):=vals1 r
 ext de
 let fin:∀(aZ:O ay),cR aO aZ->aO.H<=dq->∀(h':MJ) (cM:Y),(∀b dc,s.heap.get? b=J dc->h'.get? b=J dc) ->
   h'.get? s.L=J { cls:=.type "list",dict:=C,data:=.seq aZ.D cM,slots:=#[]}->gs X ah U Q (.ref s.L) { s with heap:=h'}:=λaZ bU hz h' cM b3 e =>
  {.ref s.L,_,I.laid (t':=s.toks) b3 (b8 _) (show gy X.R X.w _ h' _ (.aj aO) from{(hz),aZ,cM,bU,e}),P,q _<|I.bX.fresh<|b8 _}
 rcases bc with bc|bc
 .let(aZ,bU,cH,hz):=I.list bc;let el:=bU.H;let(o,aX,aI,n,hd):=cH.isList;show call_list_seq p (.inl P) aX aI hd (λh' cM b3 e=>fin aZ bU hz h' cM b3 e) (by erw[fo]<;>lia)
 .let(aZ,bU,cH,hz):=I.tuple bc;let el:=bU.H;let(o,aX,aI,n,hd):=cH;show call_list_seq p (.inr P) aX aI hd (λh' cM b3 e=>fin aZ bU hz h' cM b3 e) (by erw[fo]<;>lia)
def OL:Ab X (.type "tuple") (λxs H Q=>∃p aO,xs=[.ref p]/\((ht X.K H p aO/\∀l,H l=C->Q (.ref l) (c3 H l<|.aF aO))\/(e9 X.K H p aO/\Q (.ref p) H))):=by
 intro ah s U H xs us Q I r h;let(p,aO,rfl,h):=h;let(u,rfl,de):=vals1 r
 ext de
 rcases h with⟨bc,q⟩|⟨bc,q⟩
 .let(aZ,bU,cH,hz):=I.list bc;let el:=bU.H;show call_tuple_list cH.isList (λh' b3=>?_) (by erw[fo]<;>lia);let bt:aT X ah U H { s with heap:=h'}:=I.kept (t':=s.toks) b3;let di:aT X ah U (c3 H h'.E.O<|.aF aO) { s with heap:=h'.push { cls:=.type "tuple",data:=.seq aZ.D}} :=
   bt.laid (t':=s.toks) (λb o e=>ec _ e) (b8 _) (show gy X.R X.w _ _ _ (.aF aO) from{hz,aZ,bU,ni.new _ _})
  show{.ref h'.E.O,_,di,P,q _<|bt.bX.fresh<|b8 _}
 .let(aZ,bU,cH,hz):=I.tuple bc;show call_tuple_same cH {.ref p,H,I,P,q}
def OM(K:MN)(T:M8)(x:V)(H:aM):Prop:=match x with
 |.str _=>T = "str"
 |.int _=>T = "int"
 |.ref p=>(T = "list" /\ ∃xs,ht K H p xs)\/(T = "tuple" /\ ∃o,K.lookup p=J o/\o.cls=.type "tuple" /\ o.dict=C) \/
   (T = "dict" /\ (∃av,H p=J (.aH av)))\/(T = "set" /\ ∃cp n,H p=J (.set cp n))
 |_=>MP
def ai5{ah:O Z2}{U:St}{H:aM}{s:aN}{T:M8}{x:V}{v:ay}(I:aT X ah U H s)(r:cQ x v)(ty:OM X.K T x H) :
  s.TypeIs v T/\∀a,v=.ref a->∃cx,s.heap.get? a=J cx/\cx.dict=C:=by
 induction x using a8.V.casesOn with
 |str z =>
  let(t,rfl):=r;cases (show T = "str" from ty);show{typeIs_str s z t,λ_ e=>nomatch e}
 |int i =>
  let(t,rfl):=r;cases (show T = "int" from ty);show{typeIs_int s i t,λ_ e=>nomatch e}
 |ref p =>
  ext r
  rcases ty with⟨rfl,xs,bc⟩|⟨rfl,o,aW,aI,hd⟩|⟨rfl,aW⟩|⟨rfl,cp,n,aW⟩
  .let(aZ,_,cH,_):=I.list bc;show{cH.isList.typeIs,λa e=>?_}
   ext e
   let(o,n,e,c,hd,_):=cH;show{(o),e,hd}
  .show{{o,I.iJ p o aW,aI},λa e=>?_}
   ext e
   show{o,I.iJ _ o aW,hd}
  .let z:∃o,s.heap.get? p=J o/\o.ExactDict:=by let(av,aW):=aW;let(_,_,_,_,o,_,_,e,ex,_):=I.bX p _ aW;show{(o),e,ex}
   let(o,e,ex):=z;show{{(o),e,ex.1},λa ax=>?_}
   ext ax
   show{(o),e,ex.2.1}
  .let(o,_,_,_,e,ex,_):=I.bX p _ aW;show{{(o),e,ex.1},λa ax=>?_}
   ext ax
   show{(o),e,ex.2.1}
 |_=>show MY ty
def aa0(K:MN)(T:M8)(r:V->O V->aM->fC->Prop)(to:TE)(t:k7):TE:=λU H Q=>to U H λx H1=>OM K T x H1/\t U H1 λxs b5=>r x xs b5 Q
variable {o e:MG}{es:O MG}{to:TE}{t:k7}{name:ME}{apos d3:MK}{T id:M8}{r:V->O V->aM->fC->Prop}
def UM(pa:PlainAttrs T)(slot:Slot T name id)(aa1:typeOf (.builtin id)=pure (.type "method_descriptor"))(hm:aaW X id r)(aX:eE X o to)(bl:n5 X (e::es) t)
  (nL:MD (rj o name X.I (MO o X.I)=MO o X.I) rc)
  (L3:MD (((gM d3<|cA (e::es) X.I).all (λx=>!x.1)&&(backToKw d3<|CN [] X.I).all (λx=>x.1.isSome)
   && decide ((e::es).H+([]:O sS).H+(if([]:O sS).isEmpty then 0 else 1)<30))=Y0) rc)
  (nM:MD ((apos.endLine==d3.line)=Y0) rc) (aK:MD Zb rc) (Mt:MD ((gM d3<|cA es X.I).any (·.1)=Y1) rc) :
  eE X (.Call (.Attribute o name apos) (e::es) [] d3) (aa0 X.K T r to t):=by
 intro ah s U H Q I h;show wpAny_Call_method_late nL L3 nM P (cm (aX ah s U H _ I h) λv s1 ⟨x,H1,bt,bx,ty,aV⟩=>?_);let(ae,ai):=ai5 bt bx ty;show{T,id,pa,slot,aa1,ae,ai,?_};let dw:=bl d3 ah s1 U H1 _ bt aV;rw[aK]at dw |-;show ur (by show(Y1||(gM d3 (cA es X.I)).any (·.1))=Y1;rw[Mt]<;>rfl) (w6 ?_);show cm dw λus s2 ⟨ag,b5,di,cn,bb⟩=>hm ah s2 U b5 x ag v us Q di bx cn bb
end
def ON(X:bK)(id:M8)(r:V->O V->aM->fC->Prop):Prop :=
 ∀(ah:O Z2) (s:aN) (U:St) (H:aM) (x:V) (xs:O V) (v:ay) (us:O ay) (Q:fC),aT X ah U H s->cQ x v->cR xs us->r x xs H Q ->
  bj Z4 X.A (call (.builtin id)<|v::us) (gs X ah U Q) X.cL s
def cR.one:∀{x:V} {us:O ay},cR [x] us->∃u,us=[u]/\cQ x u:=by intro x us h;cases h with|cons r h=>cases h;show{_,P,r}
def cR.two:∀{x y:V} {us:O ay},cR [x,y] us->∃u v,us=[u,v]/\cQ x u/\cQ y v:=by intro x y us h;cases h with|cons r h=>cases h with|cons q h=>cases h;show{_,_,P,r,q}
theorem cR.rep(h:cR xs us):∀k:Y,cR (ML k xs).flatten (ML k us).flatten
 |0=>.nil
 |k+1=>by rw[lO,lO,rd,rd];show cR.append h<|cR.rep h k
theorem foldl_rep(aZ:O ay):∀(k:Y) (V9:O ay),
  Nu (λbE bR=>bE++bR) V9.D (ML k aZ.D)=(V9++(ML k aZ).flatten).D
 |0,V9=>by simp
 |k+1,V9=>by
  let e:V9.D++aZ.D=(V9++aZ).D:=by simp
  let ax:(V9++aZ)++(ML k aZ).flatten=V9++(ML (k+1) aZ).flatten:=by rw[lO,rd,hk]
  rw[<-ax,<-foldl_rep aZ k (V9++aZ),<-e,lO,jj]
section
variable {X:bK}{ah:O Z2}{U:St}{H:aM}{s:aN}{l b:MC}{xs aO zs:O V}
def aT.Um{aZ its':O ay}{n:Y}{f:MH ay->MH ay}{t':Y}(I:aT X ah U H s)(rq:H l=J (.aj xs))
  (e:s.heap.get? l=J { cls:=.type "list",data:=.seq aZ.D n}) (hf:f aZ.D=its'.D) (bu:cR aO its') (hz:aO.H<=dq) :
  aT X ah U (c3 H l<|.aj aO) { s with heap:=s.heap.update l (Ng f),toks:=t'}:=by
 let q:=PySem.IsL.update e f;rw[hf]at q;show I.write (x:=l) (by rw[rq];show trivial) (λic u ao bP=>(uq s.Q (Ng f)<|M4 ao).trans bP) {_,q} ?_;show{hz,its',_,bu,q}
def aT.Un{t':Y}(I:aT X ah U H s)(bu:cR aO aZ)(hz:aO.H<=dq) :
  aT X ah U (c3 H s.L<|.aj aO) { s with heap:=s.heap.push { cls:=.type "list",data:=.seq aZ.D},toks:=t'} :=
 I.laid (λ_ _ q=>ec _ q) (b8 _) {hz,aZ,0,bu,fZ _ P}
theorem aT.fresh(I:aT X ah U H s):H s.L=C:=I.bX.fresh<|b8 _
def aT.Uo(I:aT X ah U H s)(rq:H l=J (.aj xs)):xs.H<=dq/\∃(aZ:O ay) (n:Y),cR xs aZ/\xs.H=aZ.H/\s.heap.get? l=J { cls:=.type "list",data:=.seq aZ.D n}:=by let(z,aZ,n,r,e):=I.bX l _ rq;show{(z),aZ,n,r,r.H,e}
def amr{n:Y}(h:n<=dq):OC n=Y1:=by delta OC;show Nc<|sG h
end
section
variable {X:bK}
def akJ:V->O V->aM->fC->Prop:=λx ag H Q=>∃l xs y,x=.ref l/\ag=[y]/\H l=J (.aj xs)/\xs.H<dq/\Q .b0 (c3 H l<|.aj<|xs++[y])
def OO:ON X "list.append" akJ:=by
 intro ah s U H x ag v us Q I de bh h;let(l,xs,y,rfl,rfl,rq,hz,q):=h
 ext de
 let(u,rfl,fa):=bh.one;let(z,aZ,n,r,az,e):=I.Uo rq;show qm F.slot_list_append {_,e,P} F.entry_list_append (F.args_list_append_2 _ _) (PySem.list_append l aZ.D n u<|by rw[fo];lia) {e,?_};show{.b0,_,I.Um (its':=aZ++[u]) rq e Z5 (r.append<|.cons fa .nil) ?_,P,q};rw[gm,yZ];show hz
def len_rep{α:Type}(xs:O α)(k:Y):(ML k xs).flatten.H=k*xs.H:=by
 induction k with
 |zero=>simp
 |succ k aQ=>rw[lO,rd,gm,aQ,lR,rh]
end
section
variable {prog:dn}{w:cV}{A:dH}{E:ay->aN->Prop}{s:aN}
set_option maxRecDepth 100000 in
end
section
variable {κ:Type}[DecidableEq κ]
noncomputable def q4(av:O<|κ×V)(k:κ):MB V:=(av.find? λdj=>decide (dj.1=k)).map (·.2)
noncomputable def i6(av:O<|κ×V)(k:κ)(v:V):O (κ×V) :=
 if(av.any λdj=>decide (dj.1=k))=Y0 then av.map (λdj=>if dj.1=k then(dj.1,v) else dj) else av++[(k,v)]
def OP{p:κ×V}{r:O<|κ×V}{k:κ}(e:p.1=k):q4 (p::r) k=J p.2:=by simp[q4,qg,e]
def OQ{p:κ×V}{r:O<|κ×V}{k:κ}(e:¬p.1=k):q4 (p::r) k=q4 r k:=by simp[q4,qg,e]
def OS(av:O<|κ×V)(k:κ)(v:V):(i6 av k v).H<=av.H+1:=by
 delta i6;split
 .rw[bZ];show ia _ _
 .rw[gm,dv,nR];show b8 _
theorem yJ.getD(r:yJ o u)(uJ:cQ d d'):cQ (o.getD d)<|u.getD d':=by
 cases o with
 |none=>cases u with
  |none=>show uJ
  |some _=>show(show MP from r).elim
 |some _=>cases u with
  |none=>show(show MP from r).elim
  |some _=>show r
def fx.val(r:fx av ag)(k:κ):yJ (q4 av k)<|uD ag k:=by
 delta fx at r
 induction r with
 |nil=>show Nm
 |@cons p q ps uK h t aQ =>
  let(ae,ai):=h;by_cases e:p.1=k
  .let bH:q.1=k:=ae.symm.trans e;let b:uD (q::uK) k=J q.2:=by simp[uD,qg,bH]
   rw[OP e,b];show ai
  .let bH:¬q.1=k:=λz=>e<|ae.trans z;let b:uD (q::uK) k=uD uK k:=by simp[uD,qg,bH]
   rw[OQ e,b];show aQ
theorem fx.any(r:fx av ag)(k:κ):(av.any λdj=>decide (dj.1=k))=ag.any λdj=>decide (dj.1=k):=by
 delta fx at r
 induction r with
 |nil=>rfl
 |cons h t aQ=>rw[Cg,Cg,aQ,h.1]
def fx.agQ(r:fx av ag)(k:κ)(eF:cQ y u) :
  fx (av.map λdj=>if dj.1=k then(dj.1,y) else dj) (ag.map λdj=>if dj.1=k then(dj.1,u) else dj):=by
 delta fx at r |-
 induction r with
 |nil=>show .nil
 |@cons p q ps uK h t aQ =>
  rw[cj,cj];show .cons ?_ aQ;let(ae,ai):=h;by_cases e:p.1=k
  .rw[Y2 e,Y2<|ae.symm.trans e];show{(ae),eF}
  .rw[Y3 e,Y3 λz=>e<|ae.trans z];show{(ae),ai}
def fx.put(r:fx av ag)(k:κ)(eF:cQ y u):fx (i6 av k y)<|qr ag k u:=by
 delta i6 qr;rw[r.any k];by_cases e:(ag.any λdj=>decide (dj.1=k))=Y0
 .rw[Y2 e,Y2 e];show r.agQ k eF
 .rw[Y3 e,Y3 e];show Paired.snoc r {(P),eF}
def fx.length{av:O<|κ×V}{ag:O<|κ×ay}(r:fx av ag):av.H=ag.H:=Nj r
end
def Ag(r:cQ (eV k) u):(hr V8 w).is k u=Y0:=by
 cases k with
 |inl i=>let(t,e):=(show ∃t,u=Value.int i t from r);subst e;show aaB V8 w i t
 |inr x=>let(t,e):=(show ∃t,u=Value.str x t from r);subst e;show aaC V8 w x t
section
variable {V8:dn}{w:cV}{H:aM}{h:MJ}{a:MC}
def ahC(ok:f7 V8 w H h)(e:iE H a u):gy V8 w H h a u:=e.ok ok
def jC(ok:f7 V8 w H h)(e:iE H a<|.aH av):av.H<=dq/\(a==m5)=Y1/\∃ag,fx av ag/\h.DictOf (hr V8 w) a ag :=
 show gy V8 w H h a (.aH av) from ahC ok e
def UN(ok:f7 V8 w H h)(e:H a=J (.aH av)):av.H<=dq/\(a==m5)=Y1/\∃ag,fx av ag/\h.DictOf (hr V8 w) a ag:=jC ok<|.inl e
end
def BM(H:aM)(a:MC)(y:V)(r:MB V):Prop :=
 ∃av k,iE H a (.aH av)/\y=eV k/\r=q4 av k
def BN(H:aM)(a:MC)(y v:V)(ak:aM):Prop :=
 ∃av k,H a=J (.aH av)/\y=eV k/\av.H<dq/\ak=c3 H a (.aH<|i6 av k v)
theorem BN.k{k:Key}(e:H a=J (.aH av))(az:av.H<dq):BN H a (eV k) v<|c3 H a<|.aH<|i6 av k v:={(av),k,e,P,az,P}
section
variable {X:bK}{ah:O Z2}{U:St}{H:aM}{s:aN}{a:MC}{y v:V}{u r:ay}{o:MB V}{A:dH}{E:ay->aN->Prop}
def aT.bp(I:aT X ah U H s):m5<s.L:=by let h:k4<s.L:=(I.mod.glob.keeps I.eD).lt;show wY Z1 h
def aa2(bP:A.units+1<fA)(I:aT X ah U H s)(g:BM H a y<|some v)(eF:cQ y u)(h:∀fB s',aT X ah U H s'->cQ v fB->Q fB s') :
  bj Z4 A (qp ZM u) Q E s:=by
 let(av,k,e,jc,l):=g;subst jc;let(z,hd,ag,rel,dd):=jC I.bX e;let(fB,hw,oc):=yJ.some_of (v:=v) (o:=uD ag k) (by rw[l];show rel.val k);show wpAny_getItem_of (Ag eF) dd.mapOf hw<|h fB _ (I.tok _) oc
def I0{t':Y}(I:aT X ah U H s)(ib:z6<|H a)(aK:Ni a s.Q h')(he:∃q,h'.get? a=J q)(new:gy X.R X.w (c3 H a cx) h' a cx) :
  aT X ah U (c3 H a cx) { s with heap:=h',toks:=t'} :=
 I.write (x:=a) ib (λb q ao z=>(aK.2 b ao).trans z) he new
def DM(z:av.H<=dq)(hd:(a==m5)=Y1)(rel:fx av ag)(dd:h'.DictOf (hr V8 w) a ag) :
  gy V8 w ak h' a (.aH av):={(z),hd,ag,rel,dd}
def aa3(bP:A.units+1<fA)(I:aT X ah U H s)(g:BN H a y v ak)(eF:cQ y u)(bh:cQ v r)(h:∀s',aT X ah U ak s'->Q () s') :
  bj Z4 A (setItem ZM u r) Q E s:=by
 let(av,k,e,jc,l,HU):=g;subst jc HU;let(z,hd,ag,rel,dd):=UN I.bX e;let hz:ag.H<=dq:=by rw[<-rel.H];show z
 let az:(i6 av k v).H<=dq:=by let:=OS av k v;show bw this l
 show wpAny_setItem_pairs (hsz:=hz) (Ag eF) dd λh' pw aK=>h _ ?_;let he:∃q,h'.get? a=J q:=let ⟨q,_,_,bc,_⟩:=pw;{(q),bc}
 show I0 I (by rw[e];show Nm) aK he<|DM az hd (rel.put k bh) pw
end
section
variable {X:bK}{ah:O Z2}{U:St}{H:aM}{s:aN}{a:MC}{av:O ZS}{k:Key}{u:ay}{A:dH}{E:ay->aN->Prop}
def ahD(I:aT X ah U H s)(e:iE H a<|.aH av)(h:∀t s',aT X ah U H s'->Q (.int av.H t) s'):bj Z4 A (call (.builtin "len") [.ref a]) Q E s:=by let(z,hd,ag,rel,dd):=jC I.bX e;show call_len_dict hd dd (by rw[<-rel.H];rw[oV]at z;lia) ?_;rw[<-rel.H];show h _ _<|I.tok _
def akK{Q:MF->aN->Prop}(I:aT X ah U H s)(e:iE H a<|.aH av)(h:∀s',aT X ah U H s'->Q (!av.isEmpty) s'):bj Z4 A (truthy ZM) Q E s:=by
 let(z,hd,ag,rel,dd):=jC I.bX e;show wpAny_truthy_dict hd dd (by rw[<-rel.H];rw[oV]at z;lia) ?_;let q:av.isEmpty=ag.isEmpty:=by ext rel<;>rfl
 rw[<-q];show h _<|I.tok _
end
def aa4{X:bK}{ah:O Z2}{U:St}{H:aM}{s:aN}{a:MC}{y:V}{o:MB V}(I:aT X ah U H s)(g:BM H a y o):s.TypeIs ZM "dict":=by let(av,k,e,_,_):=g;let(_,_,ag,_,dd):=jC I.bX e;show dd.typeIs
def I1(h:MJ)(ao:m5<h.E.O):gy V8 w H (h.push { cls:=.type "dict",data:=.dict #[]}) h.E.O (.aH []) :=
 {fY _,beq_eq_false_iff_ne.mpr<|M4<|eP ao,[],.nil,Heap.DictOf.new h}
def ai6:TE:=λ_ H Q=>∀p,H p=C->Q (.ref p) (c3 H p<|.aH [])
section
variable {X:bK}{pos:MK}
def ams:eE X (.Dict [] [] pos) ai6:=λah s U H Q I h =>
 wpAny_Dict_empty {.ref s.L,_,I.laid (a:=s.L) (o:=.aH []) (t':=s.toks) (λ_ _ q=>ec _ q) (b8 _)<|I1 s.Q I.bp,P,h _<|I.bX.fresh<|b8 _}
end
def I2:O (TE×TE)->St->aM->(O (V×V)->aM->Prop)->Prop
 |[],_,H,Q=>Q [] H
 |(bz,iU)::r,U,H,Q=>bz U H λx H1=>iU U H1 λy b5=>I2 r U b5 λps eR=>Q ((x,y)::ps) eR
abbrev Nw:O (V×V)->O (ay×ay)->Prop:=Paired λp q=>cQ p.1 q.1/\cQ p.2 q.2
def DN(X:bK)(pos:MK)(keys:O<|MB MG)(values:O MG)(vj:O<|TE×TE):Prop :=
 ∀(ah:O Z2) (s:aN) (U:St) (H:aM) (Q:O (V×V)->aM->Prop),aT X ah U H s->I2 vj U H Q ->
  bj Z4 X.A (evalPairs<|pairTrees keys values X.I pos) (λag s'=>∃ps ak,aT X ah U ak s'/\Nw ps ag/\Q ps ak) X.cL s
def akL:DN X pos [] [] []:=λah s U H Q I h=>pairTrees_nil_walk {[],H,I,.nil,h}
def amt(aW:eE X k bz)(bu:eE X v iU)(a4:DN X pos ks ag vj) :
  DN X pos (J k::ks) (v::ag) ((bz,iU)::vj):=λah s U H Q I h =>
 pairTrees_cons_walk (cm (aW ah s U H _ I h) λu s1 ⟨x,H1,bt,de,aV⟩=>cm (bu ah s1 U H1 _ bt aV) λiF s2 ⟨y,b5,di,eF,bb⟩ =>
  cm (a4 ah s2 U b5 _ di bb) λws s3 ⟨ps,eR,gD,rel,c1⟩=>{(x,y)::ps,eR,gD,.cons {(de),eF} rel,c1})
def xX(av WX:O ZS):O ZS:=WX.foldl (λV9 dj=>i6 V9 dj.1 dj.2) av
def fx.merge:∀{WX:O ZS} {rs:O (Key×ay)} {av:O ZS} {ag:O (Key×ay)},fx WX rs->fx av ag->fx (xX av WX) (merged ag rs):=by
 intro WX rs av ag r;delta fx at r
 induction r generalizing av ag with
 |nil=>intro q;show q
 |@cons p q ps uK h t aQ =>
  intro jR;let e:fx (i6 av p.1 p.2)<|qr ag q.1 q.2:=by let:=jR.put p.1 h.2;rw[<-h.1];show this
  show aQ e
theorem OT:∀(WX av:O ZS),(xX av WX).H<=av.H+WX.H
 |[],av=>by show av.H<=av.H+0;show b8 _
 |p::r,av=>by let ae:=OT r<|i6 av p.1 p.2;let ai:=OS av p.1 p.2;show(xX (i6 av p.1 p.2) r).H<=_;rw[dv];lia
theorem OU:∀{av:O ZS} {ws:O (ay×ay)},Nw (av.map λdj=>(eV dj.1,dj.2)) ws->∃rs,Carries (hr V8 w) ws rs/\fx av rs
 |[],_,r=>by rw[m1]at r;ext r;show⟨[],Nm,.nil⟩
 |p::av,_,r=>by
  rw[cj]at r;cases r with
  |@cons a b as bs h t =>
   let(rs,c,q):=OU (V8:=V8) (w:=w) t;let(bO,b6):=b;show{(p.1,b6)::rs,{Ag h.1,P,c},.cons {(P),h.2} q}
def ahE(vj:O<|TE×TE):TE:=λU H Q=>∀p,H p=C->I2 vj U (c3 H p<|.aH []) λps b5=>b5 p=J (.aH [])/\∃av:O ZS,ps=av.map (λdj=>(eV dj.1,dj.2))/\av.H<=15/\Q (.ref p) (c3 b5 p<|.aH<|xX [] av)
def akM(h:DN X pos keys values vj)(wo:keys.all (·.isSome)=Y0)(az:keys.H=values.H)(h0:keys≠[])
  (aa5:keys.H<=15):eE X (.Dict keys values pos)<|ahE vj:=by
 intro ah s U H Q I q;let bI:=I.bX.fresh<|b8 s.L;let bt:=I.laid (a:=s.L) (o:=.aH []) (h':=s.heap.push { cls:=.type "dict",data:=.dict #[]}) (t':=s.toks) (λ_ _ q=>ec _ q) (b8 _)<|I1 s.Q I.bp;show wpAny_Dict_walk (knd:=hr X.R X.w) wo az h0 aa5 (cm (h ah _ U _ _ bt<|q _ bI) λws s2 ⟨ps,b5,di,rel,e,av,ep,kd,bb⟩=>?_);subst ep;let(rs,c,rk):=OU (V8:=X.R) (w:=X.w) rel;let(z,hd,aoB,jR,dd):=UN di.bX e
 ext jR
 show{rs,c,dd,λh' pw aK=>{.ref s.L,_,?_,P,bb}};let hz:(xX [] av).H<=dq:=by let ae:=OT av [];rw[nR]at ae;rw[oV];lia
 let he:∃q,h'.get? s.L=J q:=let ⟨q,_,_,bc,_⟩:=pw;{(q),bc}
 show I0 di (by rw[e];show Nm) aK he<|DM hz hd (rk.merge .nil) pw
structure HV (X:bK) (o:MG) (m:ME) (apos:MK) (e:MG) (d3:MK):Prop where
 base:rj o m X.I (MO o X.I)=MO o X.I
 lC:((gM d3<|cA [e] X.I).all (λx=>!x.1)&&(backToKw d3<|CN [] X.I).all (λx=>x.1.isSome)
  && decide (([e]:O MG).H+([]:O sS).H+(if([]:O sS).isEmpty then 0 else 1)<30))=Y0
 line:(apos.endLine==d3.line)=Y0
 trees:gM d3 (cA [e] X.I)=[ZO]
structure M2 (X:bK) (o:MG) (m:ME) (apos:MK) (e f:MG) (d3:MK):Prop where
 base:rj o m X.I (MO o X.I)=MO o X.I
 lC:((gM d3<|cA [e,f] X.I).all (λx=>!x.1)&&(backToKw d3<|CN [] X.I).all (λx=>x.1.isSome)
  && decide (([e,f]:O MG).H+([]:O sS).H+(if([]:O sS).isEmpty then 0 else 1)<30))=Y0
 line:(apos.endLine==d3.line)=Y0
 trees:gM d3 (cA [e,f] X.I)=[ZO,(Y1,MO f X.I)]
def OV(H:aM)(a:MC):Prop:=∃av,iE H a<|.aH av
def ai7{X:bK}{ah:O Z2}{U:St}{H:aM}{s:aN}{a:MC}(I:aT X ah U H s)(d:OV H a) :
  s.TypeIs ZM "dict" /\ (∀b,M3 a=.ref b->∃cx,s.heap.get? b=J cx/\cx.dict=C)/\(a==m5)=Y1:=by
 let(av,e):=d;let(_,hd,ag,_,dd):=jC I.bX e;show{dd.typeIs,λb q=>?_,hd};cases q;let(cx,_,_,ae,ai,_):=dd;show{(cx),ae,ai.2.1}
section
variable {X:bK}{ah:O Z2}{U:St}{H:aM}{s:aN}{a:MC}{y d:V}{u r:ay}{o:MB V}{A:dH}{E:ay->aN->Prop}
def ai8(bP:A.units+1<fA)(I:aT X ah U H s)(g:BM H a y o)(eF:cQ y u)(uJ:cQ d r)(h:∀fB s',aT X ah U H s'->cQ (o.getD d) fB->Q fB s') :
  bj Z4 A (call (.builtin "dict.get") [.ref a,u,r]) Q E s:=by
 let(av,k,e,jc,l):=g;subst jc;let(z,hd,ag,rel,dd):=jC I.bX e;show call_meetsIn PySem.F.slot_dict_get dd.typeIs PySem.F.entry_dict_get (PySem.F.args_dict_get_3 _ _ _) (meets_dict_get_default (hr X.R X.w) a (Ag eF) hd r) {_,dd.mapOf,h _ _ (I.tok _) ?_};rw[l];show(rel.val k).getD uJ
end
def ai9(n8 ty rr:TE):TE:=λU H Q=>n8 U H λx H1=>∃a,x=.ref a/\OV H1 a/\ty U H1 λy b5=>rr U b5 λz eR=>∃o,BM eR a y o/\Q (o.getD z) eR
section
variable {X:bK}{o e f:MG}{apos d3:MK}{n8 ty rr:TE}
def amu(bP:X.A.units+1<fA)(aX:eE X o n8)(he:eE X e ty)(hf:eE X f rr)(m:M2 X o "get" apos e f d3):eE X (.Call (.Attribute o "get" apos) [e,f] [] d3)<|ai9 n8 ty rr:=by
 intro ah s U H Q I h;show CB m.e m.lC m.line PySem.F.plainAttrs_dict PySem.F.slot_dict_get PySem.F.type_dict_get (cm (aX ah s U H _ I h) λu s1 ⟨x,H1,bt,de,a,ex,d,aV⟩=>?_);subst ex;obtain rfl:u=M3 a:=de;let(t1,dz,_):=ai7 bt d;show{t1,dz,?_};rw[m.trees]
 show ur P (w6 (kc (cm (he ah s1 U H1 _ bt aV) λh1 s2 ⟨y,b5,di,eF,bb⟩ =>
  kc (cm (hf ah s2 U b5 _ di bb) λaoe s3 ⟨z,eR,gD,We,iv,g,c1⟩=>nY ?_))))
 show ai8 bP gD g eF We λfB s4 ja oc=>{_,eR,ja,oc,c1}
end
section
variable {X:bK}{ah:O Z2}{U:St}{H:aM}{s:aN}{a:MC}{av:O ZS}{A:dH}{E:ay->aN->Prop}
def amv(I:aT X ah U H s)(e:iE H a<|.aH av)(h:∀p s',H p=C->aT X ah U (c3 H p<|.aH av) s'->Q (.ref p) s'):bj Z4 A (call (.type "dict") [.ref a]) Q E s:=by let(z,hd,ag,rel,dd):=jC I.bX e;show kt_call_dict hd dd (by rw[<-rel.H];show z) λh' pw aK=>?_;show h _ _ (I.bX.fresh<|b8 _)<|I.laid (a:=s.L) (o:=.aH av) (t':=s.toks) (λb q bc=>?_) (b8 _)<|DM z (beq_eq_false_iff_ne.mpr<|M4<|eP I.bp) rel pw;show(aK.2 b<|eP<|ed bc).trans (ec _ bc)
end
end a8
namespace OW
open PySem PySem.W PySem.Calls PyProof.Rows
def aa6:∀(ns:O D) (ag:O ay),WellAll V8 h ag (ns.map WData.int)->gN ag ns:=by
 intro ns
 induction ns with
 |nil =>
  intro ag w;rw[m1]at w
  ext w
  show .nil
 |cons n ns aQ =>
  intro ag w;rw[cj]at w;cases w with
  |cons a b =>
   ext a
   show .cons _ _<|aQ _ b
def aa7{l:OpenLaw}{n:Y}(bI:l.most=J n){V8:Params}{args:O WData}
  (Gd:l.row.toRowW.claim.pre args=Y0) (DO:WellAll V8 h vals args) :
  ∃a ag ns,vals=[M3 a]/\args=[WData.list<|ns.map WData.int]/\h.get? a=J { cls:=.type "list",data:=.seq ag.D}/\gN ag ns/\ns.H<=n:=by
 let aa8:WShape.hasAll [] args [.list .int]=Y0:=(pre_splitW Gd).1;let aI:l.pre.holds [] { args:=args}=Y0:=(pre_splitW Gd).2;let(d,r,rfl,ae,ai):=hasAllW_cons aa8;obtain rfl:=hasAllW_nil ai;let(xs,rfl,aS):=hasW_list ae;let(ns,rfl):=items_int aS;let el:ns.H<=n:=by
  delta OpenLaw.pre at aI;let dp:(WTm.not<|.lt (.lit<|.int (n:D))<|.len<|.arg 0).holds [] { args:=[.list<|ns.map .int]}=Y0:=by let dp:=(holds_andW aI).1;rw[bI]at dp;show dp
  let fL:=condW_of dp<|w_not<|w_lt w_lit<|w_len_list<|w_arg P;rw[bZ]at fL;show ci λq=>?_;let ej:(n:D)<((ns.H:Y):D):=by lia
  first
   |(rw[Nk ej]at fL;show MI fL Z1)
   |(simp at fL;lia)
 cases DO with
 |cons gO iF =>
  ext iF
  cases gO with
  |list aX wo=>show{_,_,ns,P,P,aX,aa6 ns _ wo,el}
def aa9(l:OpenLaw)(args:O WData):l.row.toRowW.claim.post args (.bool Y0) args=Y0 :=
 postW_of (r:=l.row.toRowW) (X:=(Y0==Y0))
  (show WShape.has [] (.bool Y0) .bool=Y0 by first|rfl|decide|simp[WShape.has,WShape.arms,WShape.armsAll])
  (show(WTm.eq .res<|.lit<|.bool Y0).value [] { args:=args,res:=J<|.bool Y0,after:=args}=J (.bool<|true==Y0) from w_eq_bool (w_res P) w_lit) P
def an9{l:OpenLaw}{n:Y}{xj:(ME->MB ay)->MJ->Prop}{sX:cV->MJ->Prop}{d:DefRec}
  (bI:l.most=J n) (tv:d.params.defaults=[])
  (call:∀(w:cV) (cT d2:aN) (bf lU:ME->MB ay) (e6:MC) (o:MT) (pm cd doc:ay) (a:MC) (ag:O ay) (ns:O D),
   Ground q loose [] xj w cT bf lU d2.Q->sX w d2.Q ->
   d2.heap.get? e6=J o->o.Y=.func (docDef d.name d.params d.body d.h pm cd doc)->d2.heap.CodeRec cd d.name->bf d.name=J (.ref e6) ->
   d2.heap.get? a=J { cls:=.type "list",data:=.seq ag.D}->gN ag ns->ns.H<=n->d2.gens=#[] ->
   mv (bo l.R w) sT (.call (.ref e6) {[.ref a],[]}) (λr s'=>r=.ok (.ret<|.bool Y0)/\OldK d2.Q s'.Q/\s'.os=d2.os/\oX s'.gens) d2) :
  WalkO q loose xj sX l.row.toRowW d [] (λf ag=>PySem.call f ag):=by
 intro w cT d2 bf lU G OF e6 o pm cd doc xg eV aX hd hs gQ Ah bL args vals as Gd aoS OX DO OY;obtain rfl:xg=.none:=Dflts.none gQ tv;obtain rfl:eV=.none:=Dflts.noKw gQ;let(a,ag,ns,rfl,rfl,L4,hints,el):=aa7 bI Gd DO;show enter_call (sN (call w cT d2 bf lU e6 o pm cd doc a ag ns G OF aX (fd_plain hd) hs Ah L4 hints el bL) λr s' bc=>?_);let(rfl,ai,aS,dp):=bc;show{.inl {.bool Y0,.bool Y0,[],P,λ_=>P,.bool Y0,aa9 l _,λ_=>{UK,λ_ hm=>(nomatch hm)}},ai,aS,dp}
end OW
namespace a8
open PySem PySem.Spec PyProof.Rows
theorem px:∀{ag:O ay} {ns:O D},gN ag ns->cR (ns.map V.int) ag
 |_,_,.nil=>.nil
 |_,_,.cons n t h=>.cons {(t),P}<|px h
def L5(H:aM):Prop:=∀b,H b=C\/∃o xs,H b=J (.eI o<|.aj xs)
def amw{V8:dn}{w:cV}{K:MN}{bf lU:ME->MB ay}{CX:pv}{k:Y}{e6 a:MC}{fd:iD}{x:ME}{sp:n7}{d2:aN}{ag:O ay}{ns:O D}
  (lY:K.In d2.Q) (rQ:d2.heap.Ns k4 bf) (ao:d2.heap.Ns builtinsNs lU) (aba:∀x:ME,x ≠ "__name__" -> lU x=nZ x) (agR:d2.Q.NoLimit) (bL:d2.gens=#[])
  (bl:d2.heap.get? a=J { cls:=.type "list",data:=.seq ag.D}) (hi:gN ag ns) (az:ns.H<=dq) (a4:fs k sT)
  (F:∀base:MJ,K.In base->base.Ns k4 bf->kT V8 w K bf base CX k e6 fd [x] sp) (ahF:∀(s:aN) (u:ay),uC s fd {[u],[]} [(x,u)])
  (lB:∀H:aM,L5 H->ht K H a (ns.map V.int)->sp [.ref a] H (λv _=>v=.aU Y0) λ_ _ _=>MP)
  (I3:∀H e s',CX [] H d2 (λ_ _ _=>MP) e s'->MP) :
  mv (bo V8 w) sT (.call (.ref e6) {[.ref a],[]}) (λr s'=>r=.ok (.ret<|.bool Y0)/\OldK d2.Q s'.Q/\s'.os=d2.os/\oX s'.gens) d2:=by
 let bh:=px hi;let agS:=hi.H;let core:∀H:aM,L5 H->ht K H a (ns.map V.int)->f7 V8 w H d2.Q->(∀b,H b≠C->b=a)->(H a≠C->K.lookup a=C) ->
   mv (bo V8 w) sT (.call (.ref e6) {[.ref a],[]}) (λr s'=>r=.ok (.ret<|.bool Y0)/\OldK d2.Q s'.Q/\s'.os=d2.os/\oX s'.gens) d2:=by
  intro H CV fQ bX dw iG;let V0:∀{b:MC} {o:MT},d2.heap.get? b=J o->H b=C->(sj d2.Q H).get? b=J o:=λe n=>ami e n;let Af:∀{b:MC} {o:MT} {es:MH DictEntry} {ep:Y},d2.heap.get? b=J o->o.Y=.dict es ep->H b=C:=λ{b o es ep} e d=>by
   cases q:H b with
   |none=>rfl
   |some u =>
    let bH:b=a:=dw b (by rw[q];simp);subst bH;rw[bl]at e;ext e;let d':Data.seq ag.D _=Data.dict es ep:=d
    ext d'
  let DP:∀{b:MC} {m:ME->MB ay},d2.heap.Ns b m->(sj d2.Q H).Ns b m:=λ{b m} ⟨o,es,ep,e,d,r⟩=>{o,es,ep,V0 e<|Af e d,d,r}
  let OZ:K.In<|sj d2.Q H:=λb o e=>V0 (lY b o e) (by
   cases q:H b with
   |none=>rfl
   |some u =>
    let bH:b=a:=dw b (by rw[q];simp);subst bH
    rw[iG<|by rw[q];simp]at e;ext e)
  let la:Mod K bf<|sj d2.Q H:={OZ,DP rQ,{lU,DP ao,aba},let ⟨HW,ae,ai⟩:=agR;{HW,DP ae,ai}}
  let d8:yL V8 w K bf (sj d2.Q H) sT [] d2 H:={P,la,λb o e=>akt e,dy<|aaD _ _,trivial,λb ao=>MI (show b∈([]:O MC) from ao) Z5,bX,.of_eq bL}
  show sN ((F _ OZ<|DP rQ).run sT [] d2 H ⟨[.ref a],[]⟩ [.ref a] [.ref a] _ _ a4 d8 (ahF d2 ZM) (.cons P .nil) (lB H CV fQ)) λr s' h=>?_;cases r with
  |error e=>show(I3 H e s' h).elim
  |ok b2 =>
   cases b2 with
   |next=>show MY h
   |brk=>show MY h
   |cont=>show MY h
   |ret u =>
    let(v,ak,os,dx,un,agT,bU,q):=h;let ej:v=.aU Y0:=q;subst ej;obtain rfl:u=Value.bool Y0:=bU;show{P,OldK.of_keep λb o e=>?_,os,dx};cases q:H b with
    |none=>show un.keep b o e q (by intro z;show MI (show b∈([]:O MC) from z) Z5) Z5
    |some u =>
     rcases CV b with z|⟨cx,xs,z⟩
     .rw[q]at z;ext z
     .let dU:=un.oI b cx _ z;let(aB,_):=bX b _ z;let(ax,_):=agT b _ dU;rw[e]at aB;ext aB;show ax
 cases aW:K.lookup a with
 |some o =>
  let e:=lY a o aW;rw[bl]at e
  ext e
  show core (λ_=>C) (λ_=>.inl P) (.inr<|.inl ⟨_,ag.D,_,aW,P,P,P,by rw[fo,agS];show az,by simpa using bh⟩) (λb u z=>by let m9:(C:MB jo)=J u:=z;ext m9) (λb z=>MI rfl z) λz=>MI rfl z
 |none =>
  show core (λb=>if b=a then J (.eI { cls:=.type "list",data:=.seq ag.D}<|.aj<|ns.map V.int) else C) (λb=>?_) (.inl<|.inr ⟨{ cls:=.type "list",data:=.seq ag.D},Y2 P⟩) (λb u z=>?_) (λb z=>?_) λ_=>aW
  .by_cases ao:b=a
   .show .inr {_,_,Y2 ao}
   .show .inl<|Y3 ao
  .by_cases ao:b=a
   .let m9:=(Y2 ao).symm.trans z
    ext m9
    subst ao;show{bl,by rw[bZ];show az,ag,_,bh,bl}
   .let m9:=(Y3 ao).symm.trans z
    ext m9
  .by_cases ao:b=a
   .show ao
   .show MI (Y3 ao) z
def akN{l:W.OpenLaw}{n k:Y}{q:dn}{loose:O ME}{xj:(ME->MB ay)->MJ->Prop}{sX:cV->MJ->Prop}{d:DefRec}{K:Params->MN}{CX:cV->pv}{sp:cV->n7}{x:ME}
  (bI:l.most=J n) (abb:n<=dq) (tv:d.params.defaults=[]) (a4:fs k sT)
  (uL:∀(w:cV) (h:MJ),sX w h->(K w.params).In h)
  (F:∀(w:cV) (bf:ME->MB ay) (e6:MC) (h:MJ),(K w.params).In h->h.Ns k4 bf->bf d.name=J (.ref e6) ->
   ∃fd:iD,(∀(s:aN) (u:ay),uC s fd {[u],[]} [(x,u)]) /\
    ∀base:MJ,(K w.params).In base->base.Ns k4 bf->kT l.R w (K w.params) bf base (CX w) k e6 fd [x] (sp w))
  (lB:∀(w:cV) (H:aM) (a:MC) (ns:O D),ns.H<=n->L5 H->ht (K w.params) H a (ns.map V.int)->sp w [.ref a] H (λv _=>v=.aU Y0) λ_ _ _=>MP)
  (I3:∀(w:cV) (H:aM) (s:aN) (e:ay) (s':aN),CX w [] H s (λ_ _ _=>MP) e s'->MP) :
  W.WalkO q loose xj sX l.row.toRowW d [] (λf ag=>PySem.call f ag):=by
 show OW.an9 bI tv λw cT d2 bf lU e6 o pm cd doc a ag ns G OF aX hd hs Ah L4 hints el bL=>?_;let lY:=uL w _ OF;let(fd,ao,fD):=F w bf e6 _ lY G.T.g Ah;show amw lY G.T.g G.T.b G.T.builtins G.T.nolimit bL L4 hints (bw el abb) a4 fD ao (λH CV fQ=>lB w H a ns el CV fQ) λH e s'=>I3 w H d2 e s'
noncomputable def pz(s:MM):Arguments:=match s with
 |.FunctionDef _ a _ _ _ _ _ _ _ _=>a
 |_=>{ posonlyargs:=[],args:=[],vararg:=C,kwonlyargs:=[],kw_defaults:=[],kwarg:=C,defaults:=[]}
noncomputable def iZ(s:MM):O MM:=match s with
 |.FunctionDef _ _ b _ _ _ _ _ _ _=>b
 |_=>[]
noncomputable def eM(s:MM):jN:=match s with
 |.FunctionDef _ _ _ _ _ _ sc _ _ _=>sc
 |_=>{ kind:=.function,names:=[],isGenerator:=Y1,isCoroutine:=Y1}
abbrev jD:pv:=λ_ _ _ _ _ _=>MP
abbrev sY:iS:=λ_ _ _=>MP
def ahG:IW jD X sY:=λ_ _ _ _ _ _ _ h=>h.elim
structure qI (K:MN) (x qual:ME) (st:MM) (f:MC) (fd:iD):Prop where
 ex:∃(jP:ay) (g6:MB MC) (eV doc pm:ay) (an:MB MC) (dm eZ:ay) (qH:MH (MB ay)),
  fd=Nf x qual (pz st) (iZ st) (eM st) .none eV doc pm an dm eZ/\K.lookup f=J {jP,g6,.func fd,qH}/\W.codeIn K dm qual=Y0
 b3:Nl K (.ref f)=Y0
section
variable {V8:dn}{w:cV}{K:MN}{bf:ME->MB ay}{base:MJ}
def qI.ok{x qual:ME}{st:MM}{f:MC}{fd:iD}{N ps:O ME}{k:Y}{sp:n7}(F:qI K x qual st f fd)(cp:mV N ps<|eM st)(len:∀ag H Q E,sp ag H Q E->ag.H=ps.H)
  (kX:∀(dm:ay) (A:dH) (cu:O Env) (s:aN) (H:aM) (ag:O V) (Q:fC) (E:iS),fs k (A.deeper<|jm qual (eM st) s.L f dm)->sp ag H Q E ->
   ∃t,kG (j8 jD V8 w K bf base N qual (eM st) f dm A cu s H E).ob (iZ st) t/\t { bC:=λ_ ak=>Q .b0 ak,ba:=Q} (start N ag) H):kT V8 w K bf base jD (k+1) f fd ps sp:=by
 let(jP,g6,eV,doc,pm,an,dm,eZ,qH,rfl,kd,hs):=F.ex;show qbB kd hs cp len λA cu s H ag Q E a4 lB=>?_;let(t,h,q):=kX dm A cu s H ag Q E a4 lB;show{(t),h.ob,q}
def qI.binds{x qual:ME}{st:MM}{f:MC}{fd:iD}{ps:O ME}(F:qI K x qual st f fd)
  (h:∀(eV doc pm:ay) (an:MB MC) (dm eZ:ay) (us:O ay),us.H=ps.H->uB (Nf x qual (pz st) (iZ st) (eM st) .none eV doc pm an dm eZ) {us,[]}=pure (ps.zip us)):Binds K fd ps []:=by
 let(jP,g6,eV,doc,pm,an,dm,eZ,qH,rfl,kd,hs):=F.ex;show .all<|h eV doc pm an dm eZ
def aja{x qual:ME}{st:MM}{f:MC}{jP:ay}{g6 an:MB MC}{qH:MH<|MB ay}{eV doc pm dm eZ:ay}(l:K.lookup f=J {jP,g6,.func<|Nf x qual (pz st) (iZ st) (eM st) .none eV doc pm an dm eZ,qH})
  (c:W.codeIn K dm qual=Y0) (k:Nl K (.ref f)=Y0):qI K x qual st f<|Nf x qual (pz st) (iZ st) (eM st) .none eV doc pm an dm eZ:={{(jP),g6,eV,doc,pm,an,dm,eZ,qH,P,l,c},k}
end
def Ge{A B:Prop}(h:B):if Y1=Y0 then A else B:=by rw[Y3 nV];show h
def Gf{A B:Prop}(h:A):if Y0=Y0 then A else B:=by rw[Y2 P];show h
end a8
end
namespace a8.bD
open PySem
noncomputable abbrev hR:=Sum D ME
inductive T where
 |b0|aU (b:MF)|int (i:D)|str (x:ME)|aF (xs:O T)|aj (xs:O T)|a3 (av:O<|hR×T)|fE
 |cx (a:Y)
 |eN (ks:O ZI)
inductive a9 where
 |aA|b9|jJ|aa
 deriving DecidableEq
noncomputable def hc:T->MF
 |.aj _=>Y0
 |.a3 _=>Y0
 |.eN _=>Y0
 |_=>Y1
noncomputable abbrev bF:=O<|MB ZE
abbrev bS:=bF->Y->MB (T×a9×Y)
abbrev fy:=bF->Y->MB (MF×Y)
abbrev ho:=bF->Y->MB (O T×Y)
abbrev iH:=bF->Y->MB (O T×Y)
inductive ie where
 |bC|eD|eZ|ba (t:T) (aA:MF)
abbrev br:=bF->Y->MB (ie×bF×Y)
noncomputable abbrev dV:=O (T×MF)->Y->MB (T×MF×Y)
abbrev jS:=bF->Y->MB (O (T×MF)×Y)
noncomputable def lb(b:MF):a9:=match b with
 |true=>.aA
 |false=>.aa
noncomputable def bp:Y:=1000000
noncomputable def look(m:a9)(t:T):a9:=match m with
 |.aA=>if hc t then .jJ else .aa
 |.b9=>if hc t then .b9 else .aa
 |.jJ=>.jJ
 |.aa=>.aa
def aq(i:Y):bS:=λS n=>match S[i]? with
 |some (J (t,m))=>J (t,look m t,n)
 |_=>C
noncomputable def aH(t:T):bS:=λ_ n=>J (t,.aa,n)
noncomputable def eI(t:T)(m:a9):MB T:=match m with
 |.aA=>J t
 |.aa=>J t
 |_=>if hc t then C else J t
def bB(d:bS):bS:=λS n=>(d S n).bind λr=>(eI r.1 r.2.1).map λt=>(t,.aa,r.2.2)
noncomputable def aw:ho:=λ_ n=>J ([],n)
noncomputable def af(d:bS)(r:ho):ho:=λS n=>(d S n).bind λa=>(r S a.2.2).map λb=>(a.1::b.1,b.2)
noncomputable abbrev ee:=Y->O T->MB ZE
noncomputable def aD(g:ee)(a:ho):bS:=λS n=>(a S n).bind λr=>(g r.2 r.1).map λx=>(x.1,x.2,r.2)
def flag(m:a9)(t:T):MF:=match m with
 |.aA=>Y0
 |.aa=>Y0
 |_=>!hc t
noncomputable def cw:jS:=λ_ n=>J ([],n)
def a0(d:bS)(r:jS):jS:=λS n=>(d S n).bind λa=>(r S a.2.2).map λb=>((a.1,flag a.2.1 a.1)::b.1,b.2)
def cD(e3:Y)(f:dV)(a:jS):bS:=λS n=>(a S n).bind λr=>if r.1.H=e3 then(f r.1 r.2).map λx=>(x.1,lb x.2.1,x.2.2) else C
def c6(a:ho):bS:=λS n=>(a S n).bind λr=>if r.1.H<=bp then J (.aF r.1,.aa,r.2) else C
def dA(a:ho):bS:=λS n=>(a S n).bind λr=>if r.1.H<=bp then J (.aj r.1,.aA,r.2) else C
noncomputable def qJ(c:fy)(a b:bS):bS:=λS n=>(c S n).bind λr=>if r.1 then a S r.2 else b S r.2
noncomputable def Ai(a b:bS):bS:=λS n=>(a S n).bind λr=>match r.1 with
 |.aU Y0=>b S r.2.2
 |.aU Y1=>J (.aU Y1,.aa,r.2.2)
 |_=>C
noncomputable def jZ:T->MB MF
 |.b0=>J Y1
 |.aU b=>J b
 |.int i=>J<|i != 0
 |.aF xs=>J<|!xs.isEmpty
 |.aj xs=>J<|!xs.isEmpty
 |.a3 av=>J<|!av.isEmpty
 |_=>C
def cG(d:bS):fy:=λS n=>(d S n).bind λr=>(jZ r.1).map λb=>(b,r.2.2)
noncomputable def gk(c:fy):fy:=λS n=>(c S n).map λr=>(!r.1,r.2)
noncomputable def wq(a b:fy):fy:=λS n=>(a S n).bind λr=>if r.1 then b S r.2 else J (Y1,r.2)
noncomputable def jd(a b:fy):fy:=λS n=>(a S n).bind λr=>if r.1 then J (Y0,r.2) else b S r.2
noncomputable def jg:hR->T
 |.inl i=>.int i
 |.inr x=>.str x
def Mz(t:T)(m:a9):MB<|O T:=match t with
 |.aj xs=>J xs
 |.aF xs=>J xs
 |.a3 av=>match m with
  |.aa=>J (av.map λdj=>jg dj.1)
  |.aA=>J (av.map λdj=>jg dj.1)
  |_=>C
 |_=>C
def fU(d:bS):iH:=λS n=>(d S n).bind λr=>(Mz r.1 r.2.1).map λxs=>(xs,r.2.2)
def e2(d:bS):iH:=λS n=>(d S n).bind λr=>match r.2.1 with
 |.jJ=>C
 |m=>(Mz r.1 m).map λxs=>(xs,r.2.2)
noncomputable def i7(lo hi:D):O T:=(M0 (hi-lo).M).map λ(k:Y)=>.int<|lo+k
def l2(a:ho):iH:=λS n=>(a S n).bind λr=>match r.1 with
 |[.int j]=>if-bp<=j/\j<=bp then J (i7 0 j,r.2) else C
 |_=>C
def rR(a:ho):iH:=λS n=>(a S n).bind λr=>match r.1 with
 |[.int i,.int j]=>if-bp<=i/\i<=bp /\ -bp<=j/\j<=bp then J (i7 i j,r.2) else C
 |_=>C
noncomputable def je(put:T->bF->MB bF)(c:fy)(e:bS):O T->bF->Y->O T->MB (O T×Y)
 |[],_,n,V9=>J (V9,n)
 |x::xs,S,n,V9=>(put x S).bind λS'=>(c S' n).bind λb=>if b.1 then(bB e S' b.2).bind λr=>if V9.H<bp then je put c e xs S' r.2.2 (V9++[r.1]) else C
  else je put c e xs S' b.2 V9
def eX(it:iH)(src:bF->bF)(put:T->bF->MB bF)(c:fy)(e:bS):bS:=λS n =>
 (it S n).bind λr=>(je put c e r.1 (src S) r.2 []).map λa=>(.aj a.1,.aA,a.2)
noncomputable def yes:fy:=λ_ n=>J (Y0,n)
noncomputable def b4(i:Y):T->bF->MB bF:=λt S=>J<|S.set i<|some (t,.aa)
noncomputable def Aj(i j:Y):T->bF->MB bF:=λt S=>match t with
 |.aF [a,b]=>J<|(S.set i<|some (a,.aa)).set j (J (b,.aa))
 |_=>C
noncomputable def cY(l:O<|MB Y):bF->bF:=λS=>l.map λo=>o.bind λj=>(S[j]?).join
noncomputable def eJ:br:=λS n=>J (.bC,S,n)
noncomputable def bk(a b:br):br:=λS n=>(a S n).bind λr=>match r.1 with
 |.bC=>b r.2.1 r.2.2
 |f=>J (f,r.2.1,r.2.2)
noncomputable def cX(i:Y)(d:bS):br:=λS n=>(d S n).bind λr=>match r.2.1 with
 |.aA=>J (.bC,S.set i<|some (r.1,.aA),r.2.2)
 |.aa=>J (.bC,S.set i<|some (r.1,.aa),r.2.2)
 |_=>C
def Up(put:T->bF->MB bF)(d:bS):br:=λS n=>(bB d S n).bind λr=>(put r.1 S).map λS'=>(.bC,S',r.2.2)
noncomputable def en(c:fy)(a b:br):br:=λS n=>(c S n).bind λr=>if r.1 then a S r.2 else b S r.2
noncomputable def dQ(d:bS):br:=λS n=>(d S n).bind λr=>match r.2.1 with
 |.aA=>J (.ba r.1 Y0,S,r.2.2)
 |.aa=>J (.ba r.1 Y1,S,r.2.2)
 |_=>C
def lD(i:Y):br:=λS n=>match S[i]? with
 |some (J (t,.aA))=>J (.ba t Y0,S,n)
 |some (J (t,.aa))=>J (.ba t Y1,S,n)
 |some (J (t,.b9))=>if hc t then C else J (.ba t Y1,S,n)
 |_=>C
noncomputable def eA(i:Y)(d:br):br:=λS n=>match S[i]? with
 |some (J (t,.aA))=>d (S.set i<|some (t,.aa)) n
 |_=>d S n
noncomputable def fq(i:Y)(d:br):br:=λS n=>match S[i]? with
 |some (J (.a3 av,.aA))=>d (S.set i<|some (.a3 av,.aa)) n
 |_=>d S n
noncomputable def eb(put:T->bF->MB bF)(b:br):O T->bF->Y->MB (ie×bF×Y)
 |[],S,n=>J (.bC,S,n)
 |x::xs,S,n=>(put x S).bind λS1=>(b S1 n).bind λr=>match r.1 with
  |.bC=>eb put b xs r.2.1 r.2.2
  |.eZ=>eb put b xs r.2.1 r.2.2
  |.eD=>J (.bC,r.2.1,r.2.2)
  |.ba t m=>J (.ba t m,r.2.1,r.2.2)
def eo(it:iH)(put:T->bF->MB bF)(b:br):br:=λS n=>(it S n).bind λr=>eb put b r.1 S r.2
noncomputable def qK(c:fy)(b:br):Y->bF->Y->MB (ie×bF×Y)
 |0,_,_=>C
 |k+1,S,n=>(c S n).bind λt=>if t.1 then(b S t.2).bind λr=>match r.1 with
   |.bC=>qK c b k r.2.1 r.2.2
   |.eZ=>qK c b k r.2.1 r.2.2
   |.eD=>J (.bC,r.2.1,r.2.2)
   |.ba t m=>J (.ba t m,r.2.1,r.2.2)
  else J (.bC,S,t.2)
def I4(c:fy)(b:br):br:=λS n=>qK c b 100000 S n
def DQ(i:Y):br:=λS n=>match S[i]? with
 |some (J (.fE,_))=>if n<bp then J (.bC,S,n+1) else C
 |_=>C
def hN(i:Y)(g:T->T->MB T)(d:bS):br:=λS n=>(bB d S n).bind λr=>match S[i]? with
 |some (J (t,.aA))=>(g t r.1).map λt'=>(.bC,S.set i<|some (t',.aA),r.2.2)
 |_=>C
def hj:T->T->MB T
 |.aj xs,.aj aO=>if xs.H+aO.H<=bp then J (.aj<|xs++aO) else C
 |.aj xs,.aF aO=>if xs.H+aO.H<=bp then J (.aj<|xs++aO) else C
 |_,_=>C
def j0(i:Y)(g:T->T->T->MB T)(k v:bS):br:=λS n=>(bB v S n).bind λr=>(k S r.2.2).bind λq=>match S[i]? with
 |some (J (t,.aA))=>(g t q.1 r.1).map λt'=>(.bC,S.set i<|some (t',.aA),q.2.2)
 |_=>C
noncomputable def ea(many:Y)(b:br):dV:=λaE n =>
 (b (aE.map (λt=>J (t.1,if t.2 then .aa else .b9))++ML (many-aE.H) C) n).bind λr=>match r.1 with
  |.ba t m=>J (t,m,r.2.2)
  |.bC=>J (.b0,Y1,r.2.2)
  |_=>C
noncomputable def gb(aP:D->D->MF)(g:D->D->T):ee:=λ_ aE=>match aE with
 |[.int a,.int b]=>if aP a b then J (g a b,.aa) else C
 |_=>C
def dE:ee:=λ_ aE=>match aE with
 |[.int a,.int b]=>J (.int<|a+b,.aa)
 |[.aF a,.aF b]=>if a.H+b.H<=bp then J (.aF<|a++b,.aa) else C
 |[.aj a,.aj b]=>if a.H+b.H<=bp then J (.aj<|a++b,.aA) else C
 |_=>C
def fW:ee:=gb (λ_ _=>Y0) λa b=>.int<|a-b
noncomputable def Mw(i:D):MF:=decide (i.natAbs<2^64)
def fF:ee:=λ_ aE=>match aE with
 |[.int a,.int b]=>if Mw a||Mw b then J (.int<|a*b,.aa) else C
 |[.aF a,.int k]=>if a.H<=1000 /\ -1000<=k/\k<=10000/\a.H*k.M<=bp then J (.aF (ML k.M a).flatten,.aa) else C
 |_=>C
def wt:ee:=gb (λ_ b=>decide (0<b)) λa b=>.int<|a%b
def Gg:ee:=gb (λ_ b=>decide (0<b)&&decide (b.natAbs<1073741824)) λa b=>.int<|a / b
def lE:ee:=gb (λ_ _=>Y0) λa b=>.aU<|decide (a<b)
def jE:ee:=gb (λ_ _=>Y0) λa b=>.aU<|decide (a<=b)
def lF:ee:=gb (λ_ _=>Y0) λa b=>.aU<|decide (b<a)
def oh:ee:=gb (λ_ _=>Y0) λa b=>.aU<|decide (b<=a)
noncomputable def Ak:T->MF
 |.b0=>Y0
 |_=>Y1
def BO:ee:=λ_ aE=>match aE with
 |[t]=>J (.aU<|Ak t,.aa)
 |_=>C
noncomputable def fG:ee:=λn aE=>match aE with
 |[.aj xs]=>J (.int xs.H,.aa)
 |[.aF xs]=>J (.int xs.H,.aa)
 |[.a3 av]=>J (.int av.H,.aa)
 |[.fE]=>J (.int n,.aa)
 |_=>C
noncomputable def fV(xs:O T)(i:D):MB T :=
 if 0<=i then(if i<xs.H then xs[i.M]? else C) else if-(xs.H:D)<=i then xs[(i+xs.H).M]? else C
noncomputable def kq:T->MB hR
 |.int i=>J<|.inl i
 |.str x=>J<|.inr x
 |_=>C
noncomputable def i0(av:O<|hR×T)(k:hR):MB T:=(av.find? λdj=>decide (dj.1=k)).map (·.2)
noncomputable def jF(av:O<|hR×T)(k:hR)(v:T):O (hR×T) :=
 if(av.any λdj=>decide (dj.1=k))=Y0 then av.map (λdj=>if dj.1=k then(dj.1,v) else dj) else av++[(k,v)]
def cz:ee:=λ_ aE=>match aE with
 |[.aj xs,.int i]=>(fV xs i).map λt=>(t,.aa)
 |[.aF xs,.int i]=>(fV xs i).map λt=>(t,.aa)
 |[.a3 av,k]=>(kq k).bind λk=>(i0 av k).map λt=>(t,.aa)
 |_=>C
def kH:ee:=λ_ aE=>match aE with
 |[.a3 av,k,x]=>if hc x then C else(kq k).map λk=>((i0 av k).getD x,.aa)
 |_=>C
def me:T->T->T->MB T
 |.aj xs,.int i,v=>if 0<=i/\i<xs.H then J (.aj<|xs.set i.M v) else C
 |.a3 av,k,v=>(kq k).bind λk=>if av.H<bp then J (.a3<|jF av k v) else C
 |_,_,_=>C
mutual
noncomputable def d1:T->T->MF
 |.b0,.b0=>Y0
 |.aU a,.aU b=>a==b
 |.aU a,.int b=>(if a then 1 else 0)==b
 |.int a,.aU b=>a==(if b then 1 else 0)
 |.int a,.int b=>a==b
 |.str a,.str b=>a==b
 |.aF a,.aF b=>jK a b
 |.aj a,.aj b=>jK a b
 |_,_=>Y1
noncomputable def jK:O T->O T->MF
 |[],[]=>Y0
 |x::xs,y::aO=>d1 x y&&jK xs aO
 |_,_=>Y1
end
noncomputable def ey:Y->T->MF
 |_,.a3 _=>Y1
 |_,.fE=>Y1
 |_,.cx _=>Y1
 |_,.eN _=>Y1
 |0,.aF _=>Y1
 |0,.aj _=>Y1
 |k+1,.aF a=>a.all<|ey k
 |k+1,.aj a=>a.all<|ey k
 |_,_=>Y0
def pA:T->T->MB MF
 |.a3 a,.a3 b=>if b.isEmpty then J a.isEmpty else C
 |a,b=>if ey 6 a&&ey 6 b then J (d1 a b) else C
def hu:ee:=λ_ aE=>match aE with
 |[a,b]=>(pA a b).map λr=>(.aU r,.aa)
 |_=>C
def hv:ee:=λ_ aE=>match aE with
 |[a,b]=>(pA a b).map λr=>(.aU<|!r,.aa)
 |_=>C
def Al:ee:=λ_ aE=>match aE with
 |[t]=>J (.aU<|!Ak t,.aa)
 |_=>C
inductive Ty where
 |int|bool|list|tuple|str|dict
noncomputable def tY:Ty->T->MB MF
 |.int,.int _=>J Y0
 |.int,.aU _=>J Y0
 |.bool,.aU _=>J Y0
 |.list,.aj _=>J Y0
 |.tuple,.aF _=>J Y0
 |.str,.str _=>J Y0
 |.dict,.a3 _=>J Y0
 |_,.fE=>C
 |_,.cx _=>C
 |_,.eN _=>C
 |_,_=>J Y1
def iP(k:Ty):ee:=λ_ aE=>match aE with
 |[t]=>(tY k t).map λb=>(.aU b,.aa)
 |_=>C
noncomputable def q9:O T->MB (O MF)
 |[]=>J []
 |.aU b::r=>(q9 r).map (b::·)
 |_=>C
noncomputable def e5:O T->MB Z0
 |[]=>J []
 |.int i::r=>(e5 r).map (i::·)
 |_=>C
def wu:ee:=λ_ aE=>match aE with
 |[.aj xs]=>(q9 xs).map λbs=>(.aU<|bs.all id,.aa)
 |_=>C
def Mh:ee:=λ_ aE=>match aE with
 |[.aj xs]=>J (.aj xs,.aA)
 |[.aF xs]=>J (.aj xs,.aA)
 |[.a3 av]=>J (.aj (av.map λdj=>jg dj.1),.aA)
 |_=>C
noncomputable def lG:ee:=λ_ aE=>match aE with
 |[.aj xs]=>J (.aF xs,.aa)
 |[.aF xs]=>J (.aF xs,.aa)
 |_=>C
noncomputable def ins(x:D):O D->O D
 |[]=>[x]
 |y::aO=>if x<=y then x::y::aO else y::ins x aO
def sortI:O D->O D
 |[]=>[]
 |x::xs=>ins x<|sortI xs
noncomputable def er:O D->O D->MF
 |[],[]=>Y1
 |[],_::_=>Y0
 |_::_,[]=>Y1
 |x::xs,y::aO=>if x==y then er xs aO else decide (x<y)
noncomputable def wx(x:O D):O Z0->O Z0
 |[]=>[x]
 |y::aO=>if er y x then y::wx x aO else x::y::aO
noncomputable def hS:O Z0->O Z0
 |[]=>[]
 |x::xs=>wx x<|hS xs
noncomputable def ar(l:O D):T:=.aF<|l.map .int
def a6(ls:O Z0):T:=.aF<|ls.map ar
def rS:O T->MB ZI
 |[]=>J []
 |.aF (x::xs)::r=>(e5<|x::xs).bind λl=>(rS r).map (l::·)
 |_=>C
def DR:ee:=λ_ aE=>match aE with
 |[.aj xs]=>match e5 xs with
  |some ns=>J (.aj<|(sortI ns).map .int,.aA)
  |none=>(rS xs).map λls=>(.aj<|(hS ls).map ar,.aA)
 |[.aF xs]=>(e5 xs).map λns=>(.aj<|(sortI ns).map .int,.aA)
 |_=>C
noncomputable def kI(ns:O D):O D:=ns.foldr (λx r=>if x∈r then r else x::r) []
noncomputable def itemsOf:O (hR×T)->MB (O Z3)
 |[]=>J []
 |(.inl k,.int v)::r=>(itemsOf r).map ((k,v)::·)
 |_=>C
noncomputable def hx(p:D×D):O D:=[p.1,p.2]
def akO:ee:=λ_ aE=>match aE with
 |[.a3 av]=>(itemsOf av).map λps=>(.aj<|(hS<|ps.map hx).map ar,.aA)
 |_=>C
def ra:O T->MB (O<|hR×T)
 |[]=>J []
 |.aF [k,v]::r=>(kq k).bind λk=>(ra r).map ((k,v)::·)
 |_=>C
def tx:ee:=λ_ aE=>match aE with
 |[.aj xs]=>(ra xs).bind λps=>if ps.H<bp then J (.a3<|ps.foldl (λd p=>jF d p.1 p.2) [],.aA) else C
 |[.a3 av]=>J (.a3 av,.aA)
 |_=>C
noncomputable def Fa:O D->MB D
 |[]=>C
 |x::xs=>J<|xs.foldl (λa b=>if b<a then b else a) x
noncomputable def vk:O D->MB D
 |[]=>C
 |x::xs=>J<|xs.foldl (λa b=>if a<b then b else a) x
noncomputable def ua:O (hR×T)->MB Z0
 |[]=>J []
 |(.inl k,_)::r=>(ua r).map (k::·)
 |_=>C
def p1:ee:=λ_ aE=>match aE with
 |[.aj xs]=>(e5 xs).bind λns=>(Fa ns).map λi=>(.int i,.aa)
 |[.a3 av]=>(ua av).bind λns=>(Fa ns).map λi=>(.int i,.aa)
 |[.int a,.int b]=>J (.int (if b<a then b else a),.aa)
 |_=>C
def xY:ee:=λ_ aE=>match aE with
 |[.aF xs,.int y]=>(e5 xs).map λns=>(.int (ns.filter λx=>x==y).H,.aa)
 |_=>C
noncomputable def bA:O D->D
 |[]=>0
 |x::xs=>x+bA xs
noncomputable def bound(n d:Y):MB D->Y
 |none=>d
 |some v=>if v<0 then(v+(n:D)).M else min v.M n
abbrev zC:=bF->Y->MB (MB D×Y)
noncomputable def vl:zC:=λ_ n=>J (C,n)
noncomputable def vm(d:bS):zC:=λS n=>(d S n).bind λr=>match r.1 with
 |.int i=>J (J i,r.2.2)
 |_=>C
def p2(xs:O T)(lo hi:MB D):O T:=(xs.drop<|bound xs.H 0 lo).take (bound xs.H xs.H hi-bound xs.H 0 lo)
noncomputable def pB:bS:=λ_ n=>J (.a3 [],.aA,n)
def Mi(k v:bS):bS:=λS n=>(k S n).bind λa=>(kq a.1).bind λk=>(v S a.2.2).map λb=>(.a3 [(k,b.1)],.aA,b.2.2)
noncomputable def pC(g h:ee)(a b c:bS):bS:=λS n=>(a S n).bind λx=>(b S x.2.2).bind λy=>(g y.2.2 [x.1,y.1]).bind λr=>match r.1 with
 |.aU Y0=>(c S y.2.2).bind λz=>(h z.2.2 [y.1,z.1]).map λq=>(q.1,q.2,z.2.2)
 |.aU Y1=>J (.aU Y1,.aa,y.2.2)
 |_=>C
noncomputable def jG:br:=λ_ _=>C
noncomputable def jH(d:bS):br:=λS n=>(d S n).map λr=>(.bC,S,r.2.2)
def oj(i j:Y):br:=λS n=>match S[j]? with
 |some (J (t,.aA))=>J (.bC,(S.set j C).set i (J (t,.aA)),n)
 |some (J (t,.aa))=>J (.bC,S.set i<|some (t,.aa),n)
 |some (J (t,.b9))=>if hc t then C else J (.bC,S.set i<|some (t,.aa),n)
 |_=>C
noncomputable def DS:bS:=λ_ n=>J (.eN [],.aA,n)
def yR:T->MB Z0
 |.aF xs=>e5 xs
 |_=>C
noncomputable def vn:O T->MB ZI
 |[]=>J []
 |t::r=>(yR t).bind λl=>(vn r).map (l::·)
def wJ:T->MB ZI
 |.aF xs=>vn xs
 |_=>C
noncomputable def hM(ks:O ZI)(k:O Z0):O ZI:=if(ks.any λx=>decide (x=k))=Y0 then ks else ks++[k]
def sm:T->T->T->MB T
 |.eN ks,k,.aU Y0=>(wJ k).bind λls=>if ks.H<bp then J (.eN<|hM ks ls) else C
 |_,_,_=>C
def DT:ee:=λ_ aE=>match aE with
 |[.eN ks]=>J (.aj<|ks.map a6,.aA)
 |_=>C
theorem I5(x:D):∀l:O D,(ins x l).Perm (x::l)
 |[]=>.refl _
 |y::aO=>by
  delta ins;split
  .show .refl _
  .show((I5 x aO).cons y).trans (.swap x y aO)
theorem sortI_perm:∀l:O D,(sortI l).Perm l
 |[]=>.refl _
 |x::xs=>(I5 x _).trans ((sortI_perm xs).cons x)
theorem O0(x:D):∀{l:O D},l.Pairwise (·<=·)->(ins x l).Pairwise (·<=·)
 |[],_=>by delta ins;simp
 |y::aO,h=>by
  delta ins;let(ae,ai):=ik.mp h;split
  .rename_i l3
   show ik.mpr ⟨λz hz=>by
    rcases cF.mp hz with rfl|hz
    .show l3
    .show ce l3<|ae z hz,h⟩
  .rename_i l3;show ik.mpr {λz hz=>?_,O0 x ai};rcases cF.mp ((I5 x aO).mem_iff.mp hz) with rfl|hz
   .show kx<|ri l3
   .show ae z hz
theorem xZ:∀l:O D,(sortI l).Pairwise (·<=·)
 |[]=>.nil
 |x::xs=>O0 x<|xZ xs
theorem O1:∀{a b:O D},a.Pairwise (·<=·)->b.Pairwise (·<=·)->a.Perm b->a=b
 |[],b,_,_,p=>(p.nil_eq)
 |x::a,[],_,_,p=>by let:=p.length_eq;simp at this
 |x::a,y::b,bl,ao,p=>by
  let(x1,I6):=ik.mp bl;let(x2,x3):=ik.mp ao;let l3:x<=y:=by
   rcases cF.mp (p.mem_iff.mpr (cc ..)) with e|e
   .show Int.le_of_eq e.symm
   .show x1 y e
  let I7:y<=x:=by
   rcases cF.mp (p.mem_iff.mp (cc ..)) with e|e
   .show Int.le_of_eq e.symm
   .show x2 x e
  let:x=y:=(w2 l3 I7)
  subst this;rw[O1 I6 x3<|(List.perm_cons x).mp p]
def I8(p:a.Perm b)(h:a.Pairwise (·<=·)):a=sortI b:=O1 h (xZ b)<|p.trans (sortI_perm b).symm
theorem Am:∀l:O D,er l l=Y1
 |[]=>rfl
 |x::xs=>by delta er;simp[Am xs]
theorem An:∀{a b c:O D},er a b=Y0->er b c=Y0->er a c=Y0
 |[],[],_,h,_=>by ext h
 |[],_::_,[],_,h=>by ext h
 |[],_::_,_::_,_,_=>rfl
 |_::_,[],_,h,_=>by ext h
 |_::_,_::_,[],_,h=>by ext h
 |x::xs,y::aO,z::zs,h,h'=>by
  delta er at h h' |-;by_cases e:x=y
  .subst e;erw[Nq,MR]at h;by_cases bH:x=z
   .subst bH;erw[Nq,MR]at h' |-;show An h h'
   .erw[M5,bH,MU]at h' |-;show h'
  .erw[M5,e,MU,Nd]at h;by_cases bH:y=z
   .subst bH;erw[M5,e,MU,Nd];show h
   .erw[M5,bH,MU,Nd]at h';let:¬x=z:=(w4<|zf h<|kx h')
    erw[M5,this,MU,Nd];show zf h<|kx h'
theorem DU:∀{a b:O D},er a b=Y1->er b a=Y1->a=b
 |[],[],_,_=>rfl
 |[],_::_,h,_=>by ext h
 |_::_,[],_,h=>by ext h
 |x::xs,y::aO,h,h'=>by
  delta er at h h';by_cases e:x=y
  .subst e;erw[Nq,MR]at h h';rw[DU h h']
  .let ax:¬y=x:=λz=>e z.symm;erw[M5,e,ax,MU,decide_eq_false_iff_not]at h h';lia
noncomputable def rank(nss:O Z0)(l:O D):Y:=nss.countP λz=>er z l
theorem O2{α:Type}{p q:α->MF}{y:α}:∀{l:O α},(∀z,p z=Y0->q z=Y0)->y∈l->p y=Y1->q y=Y0->l.countP p<l.countP q
 |[],_,aJ,_,_=>by simp at aJ
 |x::xs,h,aJ,ae,ai=>by
  let mono:xs.countP p<=xs.countP q:=qas λz _ hz=>h z hz;rw[ml,ml];rcases cF.mp aJ with rfl|aJ
  .rw[ae,ai];simp;show sF mono
  .let aQ:=O2 h aJ ae ai;by_cases e:p x=Y0
   .rw[e,h x e];show sF aQ
   .let:p x=Y1:=by cases z:p x<;>simp_all
    rw[this];simp;show rf aQ
def Ao(bl:a∈nss):decide (rank nss a<rank nss b)=er a b:=by
 cases e:er a b with
 |true =>
  let:=O2 (l:=nss) (y:=a) (p:=λz=>er z a) (q:=λz=>er z b) (λz hz=>An hz e) bl (Am a) e;simp[rank,this]
 |false =>
  let:rank nss b<=rank nss a:=by
   delta rank;show qas λz _ hz=>?_;cases ax:er b a with
   |true=>show An hz ax
   |false=>rw[DU e ax];show hz
  simp;show this
theorem I9(x:O D):∀l,(wx x l).Perm (x::l)
 |[]=>.refl _
 |y::aO=>by
  delta wx;split
  .show((I9 x aO).cons y).trans (.swap x y aO)
  .show .refl _
theorem qL:∀l,(hS l).Perm l
 |[]=>.refl _
 |x::xs=>(I9 x<|hS xs).trans ((qL xs).cons x)
abbrev om(a b:O D):Prop:=er b a=Y1
def abc(h:om a b)(h':om b c):om a c:=by
 cases e:er c a with
 |false=>show e
 |true =>
  cases ax:er a b with
  |true=>let:=An e ax;rw[h']at this;ext this
  |false=>let:=DU ax h;subst this;rw[h']at e;ext e
theorem O3(x:O D):∀{l:O Z0},l.Pairwise om->(wx x l).Pairwise om
 |[],_=>by delta wx;simp
 |y::aO,h=>by
  let(ae,ai):=ik.mp h;delta wx;split
  .rename_i l3;show ik.mpr {λz hz=>?_,O3 x ai};rcases cF.mp ((I9 x aO).mem_iff.mp hz) with rfl|hz
   .cases e:er z y with
    |false=>show e
    |true=>let:=An l3 e;rw[Am]at this;ext this
   .show ae z hz
  .rename_i l3;let l3:om x y:=by simpa using l3
   show ik.mpr ⟨λz hz=>by
    rcases cF.mp hz with rfl|hz
    .show l3
    .show abc l3<|ae z hz,h⟩
theorem DV:∀l,(hS l).Pairwise om
 |[]=>.nil
 |x::xs=>O3 x<|DV xs
theorem O4:∀{a b:O Z0},a.Pairwise om->b.Pairwise om->a.Perm b->a=b
 |[],b,_,_,p=>(p.nil_eq)
 |x::a,[],_,_,p=>by let:=p.length_eq;simp at this
 |x::a,y::b,bl,ao,p=>by
  let(x1,I6):=ik.mp bl;let(x2,x3):=ik.mp ao;let l3:om x y:=by
   rcases cF.mp (p.mem_iff.mpr (cc ..)) with e|e
   .rw[e];show Am _
   .show x1 y e
  let I7:om y x:=by
   rcases cF.mp (p.mem_iff.mp (cc ..)) with e|e
   .rw[e];show Am _
   .show x2 x e
  let:x=y:=DU I7 l3;subst this;rw[O4 I6 x3<|(List.perm_cons x).mp p]
def DW(p:a.Perm b)(h:a.Pairwise om):a=hS b:=O4 h (DV b)<|p.trans (qL b).symm
def agU:ee:=λ_ aE=>match aE with
 |[.aj xs]=>(e5 xs).bind λns=>(vk ns).map λi=>(.int i,.aa)
 |_=>C
noncomputable def rT:O (hR×T)->MB Z0
 |[]=>J []
 |(_,.int v)::r=>(rT r).map (v::·)
 |_=>C
def DX:ee:=λ_ aE=>match aE with
 |[.a3 av]=>(rT av).bind λns=>if ns.H<100000/\(ns.all λx=>decide (-1000000<=x)&&decide (x<=1000000)) then J (.int<|bA ns,.aa) else C
 |_=>C
def tB(n:Y):O T->MB Z0
 |[.aj xs]=>(e5 xs).bind λns=>if ns.H+1<4096 then J ns else C
 |[.aF xs]=>(e5 xs).bind λns=>if ns.H+1<4096 then J ns else C
 |_=>C
def abd:ee:=λn aE=>(tB n aE).map λns=>(.aj<|(sortI<|kI ns).map .int,.aA)
noncomputable def p3:ee:=λ_ aE=>match aE with
 |[.int a]=>J (.int<|-a,.aa)
 |_=>C
noncomputable def j1:T->MF
 |.b0=>Y0
 |.aU _=>Y0
 |.int _=>Y0
 |.str _=>Y0
 |_=>Y1
def tZ(xs:O T)(y:T):Y:=xs.countP λx=>d1 x y
def Ja:ee:=λ_ aE=>match aE with
 |[.aj xs,y]=>if j1 y=Y0/\(xs.all j1)=Y0 then J (.int<|tZ xs y,.aa) else C
 |_=>C
noncomputable def nr(ns:O D)(many:Y):bF:=J (.aj<|ns.map .int,.b9)::J (.fE,.aa)::ML (many-2) C
def wy(d:bS)(lo hi:zC):bS:=λS n=>(d S n).bind λx=>(lo S x.2.2).bind λl=>(hi S l.2).bind λh=>match x.1 with
 |.aj xs=>J (.aj<|p2 xs l.1 h.1,.aA,h.2)
 |.aF xs=>J (.aF<|p2 xs l.1 h.1,.aa,h.2)
 |_=>C
def Ap:ee:=λ_ aE=>match aE with
 |[.aj xs]=>(e5 xs).bind λns=>(vk ns).map λi=>(.int i,.aa)
 |[.aF xs]=>(e5 xs).bind λns=>(vk ns).map λi=>(.int i,.aa)
 |[.int a,.int b]=>J (.int (if b>a then b else a),.aa)
 |_=>C
def pD:ee:=λ_ aE=>match aE with
 |[.aF xs]=>(e5 xs).bind λns=>if ns.H<100000/\(ns.all λx=>decide (x.natAbs<=10000000000000)) then J (.int<|bA ns,.aa) else C
 |[.aj xs]=>(e5 xs).bind λns=>if ns.H<100000/\(ns.all λx=>decide (x.natAbs<=10000000000000)) then J (.int<|bA ns,.aa) else C
 |_=>C
noncomputable def qM(xs:O T):O T:=xs.zipIdx.map λp=>.aF [.int p.2,p.1]
def vo:ee:=λ_ aE=>match aE with
 |[.aj xs]=>(e5 xs).bind λns=>if ns.H<64 then J (.aj<|(sortI ns).map .int,.aA) else C
 |[.aF xs]=>(e5 xs).bind λns=>if ns.H<64 then J (.aj<|(sortI ns).map .int,.aA) else C
 |_=>C
abbrev gE:=bF->Y->MB (Y×Y)
abbrev uM:=bF->Y->MB Y
abbrev l4:=O (T×MF)->Y->MB (Y×Y)
noncomputable def pE:Y->ME
 |0=>"NoDie"
 |1=>"NoDice"
 |2=>"NoTotals"
 |3=>"NoNumber"
 |4=>"TooMany"
 |5=>"NoText"
 |6=>"NoSide"
 |7=>"NoRoll"
 |8=>"NoChoices"
 |9=>"Against"
 |_=>"Nothing"
noncomputable def iL:gE:=λ_ _=>C
noncomputable def kJ(e3:Y)(f:l4)(a:jS):gE:=λS n=>(a S n).bind λr=>if r.1.H=e3 then f r.1 r.2 else C
noncomputable def mz:uM:=λ_ n=>J n
def xk(d:bS)(r:uM):uM:=λS n=>(d S n).bind λa=>match a.1 with
 |.int i=>if Mw i then r S a.2.2 else C
 |_=>C
noncomputable def nt(c:Y)(a:uM):gE:=λS n=>(a S n).map λn'=>(c,n')
noncomputable def h9(dk:gE)(a:br)(lZ:gE):gE:=λS n=>match dk S n with
 |some r=>J r
 |none=>(a S n).bind λr=>match r.1 with
  |.bC=>lZ r.2.1 r.2.2
  |_=>C
noncomputable def kK(c:fy)(dk fu:gE):gE:=λS n=>(c S n).bind λr=>if r.1 then dk S r.2 else fu S r.2
noncomputable def Aq(put:T->bF->MB bF)(b:br)(fu:gE):O T->bF->Y->MB (Y×Y)
 |[],_,_=>C
 |x::xs,S,n=>(put x S).bind λS1=>match fu S1 n with
  |some r=>J r
  |none=>(b S1 n).bind λr=>match r.1 with
   |.bC=>Aq put b fu xs r.2.1 r.2.2
   |.eZ=>Aq put b fu xs r.2.1 r.2.2
   |_=>C
def BP(it:iH)(put:T->bF->MB bF)(b:br)(fu:gE):gE:=λS n=>(it S n).bind λr=>Aq put b fu r.1 S r.2
noncomputable def fnX(many:Y)(fu:gE):l4:=λaE n=>fu (aE.map (λt=>J (t.1,if t.2 then .aa else .b9))++ML (many-aE.H) C) n
noncomputable def nu(a:Y)(b:MF):ee:=λ_ aE=>match aE with
 |[.cx x]=>if x=a then J (.aU b,.aa) else C
 |_=>C
end a8.bD
namespace a8.bD
noncomputable def Ar(cs:O Y)(b:br)(fu:gE)(h:Y->MB T):br:=λS n=>match fu S n with
 |some r=>if r.1∈cs then(h r.1).map λt=>(.ba t Y1,S,r.2) else C
 |none=>b S n
end a8.bD
namespace a8.bD
open PySem
def Jb(d:bS):iH:=λS n=>(d S n).bind λr=>match r.1 with
 |.aF xs=>J (qM xs,r.2.2)
 |_=>C
noncomputable def g0:O Z0->O D
 |[]=>[]
 |l::ls=>l.map (·+1)++0::g0 ls
noncomputable def vp:O D->O D->O Z0
 |_,[]=>[]
 |V9,x::r=>if x=0 then V9.reverse::vp [] r else vp ((x-1)::V9) r
def dec(c:O D):O Z0:=vp [] c
def vq:O T->MB (O ZI)
 |[]=>J []
 |t::r=>(wJ t).bind λl=>(vq r).map (l::·)
noncomputable def vr(ls:O Z0):MF:=!ls.isEmpty&&ls.all λl=>l.all λx=>decide (0<=x)
def DY:ee:=λ_ aE=>match aE with
 |[.aj xs]=>(vq xs).bind λls=>if(ls.all vr&&decide (ls.H<=bp))=Y0 then J (.aj ((hS<|ls.map g0).map λc=>a6<|dec c),.aA) else C
 |_=>C
theorem O5:∀(l V9 r:O D),(∀x∈l,0<=x)->vp V9 (l.map (·+1)++0::r)=(V9.reverse++l)::vp [] r
 |[],V9,r,_=>by simp[vp]
 |x::l,V9,r,h=>by
  let h0:=h x<|cc ..;let n:¬x+1=0:=(w3<|sJ h0 Z1)
  let e:x+1-1=x:=(Hr _ _)
  rw[cj,qf,vp,Y3 n,e,O5 l (x::V9) r λy aJ=>h y<|cZ _ aJ];simp
theorem dec_enc:∀(ls:O Z0),(∀l∈ls,∀x∈l,0<=x)->dec (g0 ls)=ls
 |[],_=>rfl
 |l::ls,h=>by let aQ:=dec_enc ls λlg h'=>h lg<|cZ _ h';delta dec at*;rw[g0,O5 l [] _<|h l<|cc ..,aQ];simp
def O6(h:vr ls=Y0):ls≠[]/\∀l∈ls,∀x∈l,0<=x:=by delta vr at h;rw[iR,iq]at h;show{λz=>by rw[z]at h;simp at h,λl az x au=>?_};let:=iq.mp (h.2 l az) x au;simpa using this
def yM:ee:=λn aE=>match aE with
 |[.b0,.a3 []]=>J (.aU Y1,.aa)
 |aE=>hu n aE
end a8.bD
namespace a8.bD
open PySem PySem.Spec PyProof.Rows
section
variable (L:MC)(H:aM)
mutual
def aL:T->V->Prop
 |.b0,v=>v=.b0
 |.aU b,v=>v=.aU b
 |.int i,v=>v=.int i
 |.str x,v=>v=.str x
 |.aF xs,v=>∃a ag,v=.ref a/\H a=J (.aF ag)/\bV xs ag
 |.aj xs,v=>∃a o ag,v=.ref a/\H a=J (.eI o<|.aj ag)/\bV xs ag
 |.a3 av,v=>∃a o ws,v=.ref a/\H a=J (.eI o<|.aH ws)/\cU av ws
 |.fE,v=>v=.ref L
 |.cx a,v=>v=.ref a
 |.eN ks,v=>∃a o ws,v=.ref a/\H a=J (.eI o<|.iu ws)/\ks=ws.map (·.1)
def bV:O T->O V->Prop
 |[],ag=>ag=[]
 |x::xs,ag=>∃v r,ag=v::r/\aL x v/\bV xs r
def cU:O (Key×T)->O ZS->Prop
 |[],ws=>ws=[]
 |(k,x)::xs,ws=>∃v r,ws=(k,v)::r/\aL x v/\cU xs r
end
end
def eT(H ak:aM):Prop:=∀a,(∀ag,H a=J (.aF ag)->ak a=J (.aF ag))/\∀o u,H a=J (.eI o u)->ak a=J (.eI o u)
structure dC (L:MC) (H ak:aM):Prop where
 to:∀a o,H a=J o->a≠L->ak a=J o
def dt(L:MC)(n:Y)(H:aM):Prop:=H L=J (.aj<|ML n<|.int 0)
def eT.refl(H:aM):eT H H:=λ_=>{λ_ h=>h,λ_ _ h=>h}
def eT.trans(a:eT H H1)(b:eT H1 b5):eT H b5:=λx=>{λag h=>(b x).1 ag ((a x).1 ag h),λo u h=>(b x).2 o u ((a x).2 o u h)}
def dC.refl(L:MC)(H:aM):dC L H H:=⟨λ_ _ h _=>h⟩
def dC.trans(a:dC L H H1)(b:dC L H1 b5):dC L H b5:=⟨λx o h n=>b.to x o (a.to x o h n) n⟩
def dC.all(k:∀a o,H a=J o->ak a=J o):dC L H ak:=⟨λa o h _=>k a o h⟩
def dC.put(e:dC L B H)(dJ:B a=C):dC L B<|c3 H a o:=⟨λb u q nb=>by rw[ew<|by rintro rfl;rw[dJ]at q;cases q];show e.to b u q nb⟩
def dt.GK{n:Y}(t:dt L n H)(h:H a=J (.aF ag)):a≠L:=by intro e;subst e;rw[dt]at t;rw[t]at h;ext h
def dt.BX{n:Y}(t:dt L n H)(h:H a=J (.eI o u)):a≠L:=by intro e;subst e;rw[dt]at t;rw[t]at h;ext h
def dC.cq{n:Y}(t:dt L n H)(e:dC L H ak):eT H ak:=λa =>
 {λag h=>e.to a _ h<|t.GK h,λo u h=>e.to a _ h<|t.BX h}
def eT.new(h:H p=C):eT H<|c3 H p o:=λa =>
 {λag e=>by rw[ew<|rL e h];show e,λ_ _ e=>by rw[ew<|rL e h];show e}
def dC.new(h:H p=C):dC L H<|c3 H p o:=.all λa u e=>by rw[ew<|rL e h];show e
def dt.new{n:Y}(t:dt L n H)(h:H p=C):dt L n<|c3 H p o:=by delta dt at*;rw[ew<|rL t h];show t
mutual
theorem aL.mono(h:eT H ak):∀(t:T) (v:V),aL L H t v->aL L ak t v
 |.b0,v,r=>by simpa[aL]using r
 |.aU b,v,r=>by simpa[aL]using r
 |.int i,v,r=>by simpa[aL]using r
 |.str x,v,r=>by simpa[aL]using r
 |.fE,v,r=>by simpa[aL]using r
 |.cx a,v,r=>by simpa[aL]using r
 |.eN ks,v,r=>by rw[aL]at r |-;let(a,o,ws,e,p,q):=r;show{a,o,ws,e,(h a).2 _ _ p,q}
 |.aF xs,v,r=>by rw[aL]at r |-;let(a,ag,e,p,q):=r;show{a,ag,e,(h a).1 _ p,bV.mono h xs ag q}
 |.aj xs,v,r=>by rw[aL]at r |-;let(a,o,ag,e,p,q):=r;show{a,o,ag,e,(h a).2 _ _ p,bV.mono h xs ag q}
 |.a3 xs,v,r=>by rw[aL]at r |-;let(a,o,ag,e,p,q):=r;show{a,o,ag,e,(h a).2 _ _ p,cU.mono h xs ag q}
theorem bV.mono(h:eT H ak):∀(t:O T) (v:O V),bV L H t v->bV L ak t v
 |[],v,r=>by rw[bV]at r |-;show r
 |x::xs,v,r=>by rw[bV]at r |-;let(w,jq,e,p,q):=r;show{w,jq,e,aL.mono h x w p,bV.mono h xs jq q}
theorem cU.mono(h:eT H ak):∀(t:O (Key×T)) (v:O ZS),cU L H t v->cU L ak t v
 |[],v,r=>by rw[cU]at r |-;show r
 |(k,x)::xs,v,r=>by rw[cU]at r |-;let(w,jq,e,p,q):=r;show{w,jq,e,aL.mono h x w p,cU.mono h xs jq q}
end
section
variable {L:MC}{H:aM}
def j2(r:bV L H [] ag):ag=[]:=by rw[bV]at r;show r
def hT(r:bV L H (x::xs) ag):∃v w,ag=v::w/\aL L H x v/\bV L H xs w:=by rw[bV]at r;show r
def bV.nil:bV L H [] []:=by rw[bV]
def bV.cons{x:T}{v:V}{xs:O T}{ag:O V}(a:aL L H x v)(b:bV L H xs ag):bV L H (x::xs)<|v::ag:=by rw[bV];show{(v),ag,P,a,b}
theorem bV.length:∀{xs:O T} {ag:O V},bV L H xs ag->xs.H=ag.H
 |[],_,r=>by rw[j2 r];rfl
 |_::xs,_,r=>by let(v,w,rfl,_,q):=hT r;rw[dv,dv,bV.length q]
theorem bV.get:∀{xs:O T} {ag:O V} {i:Y} {x:T},bV L H xs ag->xs[i]?=J x->∃v,ag[i]?=J v/\aL L H x v
 |[],_,_,_,_,e=>by simp at e
 |y::xs,_,0,x,r,e=>by let(v,w,rfl,p,q):=hT r;simp at e;subst e;show{(v),P,p}
 |y::xs,_,i+1,x,r,e=>by let(v,w,rfl,p,q):=hT r;let(u,ae,ai):=bV.get (i:=i) (x:=x) q (by simpa using e);show{u,by simpa using ae,ai}
theorem bV.append:∀{xs aO:O T} {ag ws:O V},bV L H xs ag->bV L H aO ws->bV L H (xs++aO) (ag++ws)
 |[],_,_,_,r,s=>by rw[j2 r];show s
 |x::xs,aO,_,ws,r,s=>by let(v,w,rfl,p,q):=hT r;show .cons p<|bV.append q s
theorem bV.take:∀{xs:O T} {ag:O V} (n:Y),bV L H xs ag->bV L H (xs.take n) (ag.take n)
 |_,_,0,_=>by simp;show .nil
 |[],_,_+1,r=>by rw[j2 r];show .nil
 |x::xs,_,n+1,r=>by let(v,w,rfl,p,q):=hT r;show .cons p<|bV.take n q
theorem bV.drop:∀{xs:O T} {ag:O V} (n:Y),bV L H xs ag->bV L H (xs.drop n) (ag.drop n)
 |_,_,0,r=>r
 |[],_,_+1,r=>by rw[j2 r];show .nil
 |x::xs,_,n+1,r=>by let(v,w,rfl,p,q):=hT r;show bV.drop n q
theorem bV.set(a:aL L H x v):∀{xs:O T} {ag:O V} (i:Y),bV L H xs ag->bV L H (xs.set i x) (ag.set i v)
 |[],_,_,r=>by rw[j2 r];show .nil
 |y::xs,_,0,r=>by let(f5,w,rfl,p,q):=hT r;show .cons a q
 |y::xs,_,i+1,r=>by let(f5,w,rfl,p,q):=hT r;show .cons p<|bV.set a i q
theorem bV.rep(r:bV L H xs ag):∀k:Y,bV L H (ML k xs).flatten (ML k ag).flatten
 |0=>.nil
 |k+1=>by rw[lO,lO,rd,rd];show r.append<|bV.rep r k
def bV.ints(ns:O D):bV L H (ns.map T.int)<|ns.map V.int:=by
 induction ns with
 |nil=>show .nil
 |cons n ns aQ=>show .cons (by rw[aL]) aQ
theorem tC:∀{ns:O D} {ag:O V},bV L H (ns.map T.int) ag->ag=ns.map V.int
 |[],_,r=>j2 r
 |n::ns,_,r=>by let(v,w,rfl,p,q):=hT r;rw[aL]at p;rw[p,tC q];rfl
end
def vs(K:MS)(L:MC)(H:aM)(a:MC)(ag:O V):Prop :=
 (a≠L/\iE H a (.aj ag)) \/
  (∃(o:MT) (aZ:MH ay) (n:Y),K.lookup a=J o/\o.cls=.type "list" /\ o.dict=C/\o.Y=.seq aZ n/\aZ.O<=dq/\cR ag aZ.B)\/(a≠L/\H a=J (.xS ag))
def vs.gX{K:MS}{L:MC}{H:aM}{a:MC}{ag:O V}(h:vs K L H a ag):ht K H a ag:=h.imp (·.2) λz=>z.imp id (·.2)
def vs.ext{K:MS}{L:MC}{H ak:aM}{a:MC}{ag:O V}(e:dC L H ak)(h:vs K L H a ag):vs K L ak a ag:=by
 rcases h with⟨n,h⟩|h|⟨n,h⟩
 .rcases h with h|⟨o,h⟩
  .show .inl {n,.inl<|e.to a _ h n}
  .show .inl {n,.inr {o,e.to a _ h n}}
 .show .inr<|.inl h
 .show .inr<|.inr {n,e.to a _ h n}
def eQ(K:MS)(L:MC)(H:aM):T->V->Prop
 |.aj xs,v=>∃a ag,v=.ref a/\vs K L H a ag/\bV L H xs ag
 |.a3 av,v=>∃a ws,v=.ref a/\a≠L/\iE H a (.aH ws)/\cU L H av ws
 |.eN ks,v=>∃a ws,v=.ref a/\a≠L/\iE H a (.iu ws)/\ks=ws.map (·.1)
 |t,v=>aL L H t v
def mG(L:MC)(H:aM)(a:MC):T->Prop
 |.aj xs=>∃ag,H a=J (.aj ag)/\bV L H xs ag
 |.a3 av=>∃ws,H a=J (.aH ws)/\cU L H av ws
 |.eN ks=>∃ws,H a=J (.iu ws)/\ks=ws.map (·.1)
 |_=>MP
section
variable {K:MS}{L:MC}{H ak:aM}{n:Y}
def eQ.GL(aR:dt L n H)(r:aL L H t v):eQ K L H t v:=by
 induction t using T.casesOn with
 |aj xs =>
  rw[aL]at r;let(a,o,ag,e,h,q):=r;show{a,ag,e,.inl {aR.BX h,.inr {(o),h}},q}
 |a3 av =>
  rw[aL]at r;let(a,o,ws,e,h,q):=r;show{a,ws,e,aR.BX h,.inr {(o),h},q}
 |eN ks =>
  rw[aL]at r;let(a,o,ws,e,h,q):=r;show{a,ws,e,aR.BX h,.inr {(o),h},q}
 |_=>show r
def eQ.rep(b:hc t=Y1)(r:eQ K L H t v):aL L H t v:=by
 induction t using T.casesOn with
 |aj xs=>ext b
 |a3 av=>ext b
 |eN ks=>ext b
 |_=>show r
theorem eQ.ext(aR:dt L n H)(e:dC L H ak)(r:eQ K L H t v):eQ K L ak t v:=by
 induction t using T.casesOn with
 |aj xs =>
  let(a,ag,bH,h,q):=r;show⟨a,ag,bH,h.ext e,bV.mono (e.cq aR) _ _ q⟩
 |a3 av =>
  let(a,ws,bH,na,h,q):=r;show{a,ws,bH,na,?_,cU.mono (e.cq aR) _ _ q};rcases h with h|⟨o,h⟩
  .show .inl<|e.to a _ h na
  .show .inr {o,e.to a _ h na}
 |eN ks =>
  let(a,ws,bH,na,h,q):=r;show{a,ws,bH,na,?_,q};rcases h with h|⟨o,h⟩
  .show .inl<|e.to a _ h na
  .show .inr {o,e.to a _ h na}
 |_=>show aL.mono (e.cq aR) _ _ r
def mG.root(na:a≠L)(h:mG L H a t):eQ K L H t ZM:=by
 induction t using T.casesOn with
 |aj xs =>
  let(ag,e,q):=h;show{a,ag,P,.inl {na,.inl e},q}
 |a3 av =>
  let(ws,e,q):=h;show{a,ws,P,na,.inl e,q}
 |eN ks =>
  let(ws,e,q):=h;show{a,ws,P,na,.inl e,q}
 |_=>show h.elim
def mG.ext(na:a≠L)(aR:dt L n H)(e:dC L H ak)(h:mG L H a t):mG L ak a t:=by
 induction t using T.casesOn with
 |aj xs =>
  let(ag,bH,q):=h;show{ag,e.to a _ bH na,bV.mono (e.cq aR) _ _ q}
 |a3 av =>
  let(ws,bH,q):=h;show{ws,e.to a _ bH na,cU.mono (e.cq aR) _ _ q}
 |eN ks =>
  let(ws,bH,q):=h;show{ws,e.to a _ bH na,q}
 |_=>show h.elim
def mG.some(h:mG L H a t):H a≠C:=by
 intro z
 induction t using T.casesOn with
 |aj xs =>
  let(ag,bH,q):=h;rw[z]at bH;ext bH
 |a3 av =>
  let(ws,bH,q):=h;rw[z]at bH;ext bH
 |eN ks =>
  let(ws,bH,q):=h;rw[z]at bH;ext bH
 |_=>show h.elim
end
structure dD (K:MS) (B:aM) (L:MC) (S:bF) (n:Y) (U:St) (H:aM):Prop where
 ext:dC L B H
 aR:dt L n H
 lH:∃n0,dt L n0 B
 len:S.H=U.H
 aa:∀(i:Y) (t:T),S[i]?=J (J (t,.aa))->∃v,U[i]?=J (J v)/\aL L H t v
 b9:∀(i:Y) (t:T),S[i]?=J (J (t,.b9))->∃v,U[i]?=J (J v)/\eQ K L B t v
 aA:∀(i:Y) (t:T),S[i]?=J (J (t,.aA))->∃a,U[i]?=J (J ZM)/\B a=C/\mG L H a t
 oq:∀(i:Y) (t:T),S[i]?≠J (J (t,.jJ))
 pF:∀(i j:Y) (t t':T) (a:MC),S[i]?=J (J (t,.aA))->S[j]?=J (J (t',.aA))->U[i]?=J (J ZM)->U[j]?=J (J ZM)->i=j
def Val(K:MS)(B:aM)(L:MC)(ke H:aM)(t:T)(m:a9)(v:V):Prop :=
 match m with
 |.aa=>aL L H t v
 |.b9=>eQ K L B t v
 |.jJ=>eQ K L H t v
 |.aA=>∃a,v=.ref a/\ke a=C/\mG L H a t
section
variable {K:MS}{B:aM}{L:MC}{S:bF}{n n' n0:Y}{U:St}{H ak ke H1:aM}{t:T}{m:a9}{v:V}
def dt.ub(aR:dt L n H)(h:H a=C):a≠L:=λe=>by subst e;delta dt at aR;rw[h]at aR;ext aR
def dC.free(e:dC L ke H)(aR:dt L n H)(h:H a=C):ke a=C:=by
 cases z:ke a with
 |none=>rfl
 |some o=>let:=e.to a o z<|aR.ub h;rw[h]at this;cases this
def dD.yT(R:dD K B L S n U H)(h:B a=C):a≠L:=let ⟨_,b⟩:=R.lH;b.ub h
theorem dD.mono(R:dD K B L S n U H)(e:dC L H ak)(abe:dt L n' ak):dD K B L S n' U ak :=
 ⟨R.ext.trans e,abe,R.lH,R.len,λi t h=>let ⟨v,ae,ai⟩:=R.aa i t h;{v,ae,aL.mono (e.cq R.aR) _ _ ai},R.b9,
  λi t h=>let ⟨a,ae,ai,aS⟩:=R.aA i t h;⟨a,ae,ai,aS.ext (R.yT ai) R.aR e⟩,R.oq,R.pF⟩
def Val.back(e:dC L ke H1)(ae:dt L n H1)(h:Val K B L H1 H t m v):Val K B L ke H t m v:=by
 cases m with
 |aa=>show h
 |b9=>show h
 |jJ=>show h
 |aA =>
  let(a,aV,bb,c1):=h;show{a,aV,e.free ae bb,c1}
theorem Val.root(R:dD K B L S n U H)(h0:dt L n0 ke)(h:Val K B L ke H t m v):eQ K L H t v:=by
 cases m with
 |aa=>show eQ.GL R.aR h
 |b9=>show let ⟨_,b⟩:=R.lH;eQ.ext (v:=v) b R.ext h
 |jJ=>show h
 |aA =>
  let(a,rfl,bb,c1):=h;show c1.root<|h0.ub bb
end
inductive sx (K:MS) (L:MC) (H:aM):O T->O V->Prop
 |nil:sx K L H [] []
 |cons {t:T} {v:V} {aE:O T} {ag:O V}:eQ K L H t v->sx K L H aE ag->sx K L H (t::aE) (v::ag)
def rt(K:MS)(B:aM)(L:MC)(S:bF)(n:Y)(t:T)(m:a9)(n':Y):TE:=λU H Q =>
 dD K B L S n U H/\∀v ak,dC L H ak->dt L n' ak->Val K B L H ak t m v->Q v ak
def qad(K:MS)(B:aM)(L:MC)(S:bF)(n:Y)(aE:O T)(n':Y):k7:=λU H Q =>
 dD K B L S n U H/\∀ag ak,dC L H ak->dt L n' ak->sx K L ak aE ag->Q ag ak
def KF(K:MS)(B:aM)(L:MC)(f:ie)(S':bF)(n':Y)(OG:Ends)(H:aM):Prop:=match f with
  |.bC=>∀U' ak,eT H ak->dD K B L S' n' U' ak->OG.bC U' ak
  |.eD=>∀U' ak,eT H ak->dD K B L S' n' U' ak->OG.eD U' ak
  |.eZ=>∀U' ak,eT H ak->dD K B L S' n' U' ak->OG.eZ U' ak
  |.ba t m=>∀v ak,eT H ak->dC L B ak->dt L n' ak->Val K B L B ak t (lb m) v->OG.ba v ak
def KF.cq{K:MS}{B:aM}{L:MC}{f:ie}{S':bF}{n':Y}{OG:Ends}{H H1:aM}(e:eT H H1)(h:KF K B L f S' n' OG H):KF K B L f S' n' OG H1:=by
 cases f with
 |bC=>show λU' ak x y=>h U' ak (e.trans x) y
 |eD=>show λU' ak x y=>h U' ak (e.trans x) y
 |eZ=>show λU' ak x y=>h U' ak (e.trans x) y
 |ba t m=>show λv ak x y z w=>h v ak (e.trans x) y z w
def xl(K:MS)(B:aM)(L:MC)(S:bF)(n:Y)(f:ie)(S':bF)(n':Y):k8:=λOG U H =>
 dD K B L S n U H/\KF K B L f S' n' OG H
def bM(X:bK)(L:MC)(e:MG)(d:bS):Prop:=∀B S n t m n',d S n=J (t,m,n')->eE X e (rt X.K B L S n t m n')
def pd(X:bK)(L:MC)(es:O MG)(d:ho):Prop:=∀B S n aE n',d S n=J (aE,n')->n5 X es (qad X.K B L S n aE n')
def hG(X:bK)(L:MC)(st:MM)(d:br):Prop:=∀B S n f S' n',d S n=J (f,S',n')->oZ X st (xl X.K B L S n f S' n')
def iy(X:bK)(L:MC)(st:O MM)(d:br):Prop:=∀B S n f S' n',d S n=J (f,S',n')->kG X st (xl X.K B L S n f S' n')
section
variable {X:bK}{L:MC}
def pG(i:Y){x:ME}{pos:MK}(eu:MD (X.N[i]?=J x) rc)(bu:MD (qF X.I.h x) az7._auto_1)(hd:MD ZF eY)
  (hs:MD ((x==("__classdict__" : ME))=Y1) eY):bM X L (.Name x pos)<|aq i:=by
 intro B S n t m n' h ah s U H Q I ⟨R,k⟩;delta aq at h;cases e:S[i]? with
 |none=>rw[e]at h;ext h
 |some o =>
  cases o with
  |none=>rw[e]at h;ext h
  |some p =>
   let(t',f3):=p;rw[e]at h;let h:J (t',look f3 t',n)=J (t,m,n'):=h;cases h;let fin:∃v,U[i]?=J (J v)/\Val X.K B L H H t (look f3 t) v:=by
    cases f3 with
    |aa=>show R.aa i t e
    |jJ =>
     induction t using T.casesOn with
     |_=>show MI e<|R.oq i _
    |b9 =>
     let(v,ae,ai):=R.b9 i t e;show{v,ae,?_};delta look;cases b:hc t with
     |true=>show ai
     |false=>show let ⟨_,ru⟩:=R.lH;aL.mono (R.ext.cq ru) _ _ (ai.rep b)
    |aA =>
     let(a,ae,ai,aS):=R.aA i t e;show{.ref a,ae,?_};delta look;cases b:hc t with
     |true=>show aS.root<|R.yT ai
     |false=>ext t<;>first|show(show MP from aS).elim|cases b
   let(v,ae,ai):=fin;show ve eu bu hd hs ah s U H Q I {v,ae,k v H ZQ R.aR ai}
def BQ{e:MG}{t:T}{v:V}(h:eE X e<|xd v)(r:∀H,aL L H t v):bM X L e<|aH t:=by
 intro B S n t' m n' hd ah s U H Q I ⟨R,k⟩
 ext hd
 show h ah s U H Q I<|k v H ZQ R.aR<|r H
def Jc{i:D}{j pos}:bM X L (.Constant (.int i) j pos)<|aH<|.int i:=BQ IG λ_=>by rw[aL]
def Mj{b:MF}{j pos}:bM X L (.Constant (.bool b) j pos)<|aH<|.aU b:=BQ ahp λ_=>by rw[aL]
def ajb{j pos}:bM X L (.Constant .none j pos)<|aH .b0:=BQ aiJ λ_=>by rw[aL]
def Jd{x:ME}{j pos}:bM X L (.Constant (.str x) j pos)<|aH<|.str x:=BQ IH λ_=>by rw[aL]
def vt{x:ME}{i:D}{t:Tok}{pos:MK}(hm:X.bf x=J (.int i t))(bL:MD (fP X x) rc)(hd:MD ZF eY):bM X L (.Name x pos) (aH<|.int i) :=
 BQ (akv bL hm (v:=.int i) {(t),P} hd) λ_=>by rw[aL]
end
section
variable {X:bK}{ah:O Z2}{U:St}{H:aM}{s:aN}{a:MC}{u:jo}{L:MC}
def _root_.a8.aT.freeze(I:aT X ah U H s)(h:H a=J u)(bP:(∃xs,u=.aj xs)\/(∃av,u=.aH av)\/∃ks,u=.iu ks):∃o,aT X ah U (c3 H a<|.eI o u) s:=by
 let ok:=I.bX a u h;have⟨o,aX⟩:∃o,s.heap.get? a=J o:=by
  rcases bP with⟨xs,rfl⟩|⟨av,rfl⟩|⟨ks,rfl⟩
  .let(_,aZ,n,_,e):=ok;show{_,e}
  .let(_,_,_,_,o,_,_,e,_):=ok;show{_,e}
  .let(_,_,_,_,o,_,_,e,_):=ok;show{_,e}
 let BR:∀b xs,H b=J (.aF xs)->b≠a:=λb xs e z=>by subst z;rw[h]at e;ext e;rcases bP with⟨_,q⟩|⟨_,q⟩|⟨_,q⟩<;>ext q
 let agV:∀b dc ft,H b=J (.eI dc ft)->b≠a:=λb dc ft e z=>by subst z;rw[h]at e;ext e;rcases bP with⟨_,q⟩|⟨_,q⟩|⟨_,q⟩<;>ext q
 let bI:∀b,H b=C->b≠a:=λb e z=>by subst z;rw[h]at e;ext e
 let bX:f7 X.R X.w (c3 H a<|.eI o u) s.Q:=λb fB e=>by
  let st:∀(c:MC) (fB:jo),gy X.R X.w H s.Q c fB->gy X.R X.w (c3 H a<|.eI o u) s.Q c fB:=λc fB q =>
   q.mc (λ_ z=>z) λcM xs ej=>by rw[ew<|BR cM xs ej];show ej
  by_cases ao:b=a
  .subst ao;rw[fH]at e;ext e;show{aX,st _ _ ok}
  .rw[ew ao]at e;show st _ _<|I.bX b fB e
 show{o,?_}
 let un:gA X.c7 [] H (c3 H a<|.eI o u) s.Q s.Q:=⟨λb cx e _ _ _=>e,λb cx e _ _ _=>{(cx.slots),e},λb cx e n _=>by rw[ew<|bI b n];show n,λb cx e _=>{(cx),e},
  λb xs e=>by rw[ew<|BR b xs e];show e,λb dc ft e=>by rw[ew<|agV b dc ft e];show e⟩
 show I.un (h':=s.Q) (t':=s.toks) un bX
theorem eT.eI{o:MT}(h:H a=J u)(bP:(∃xs,u=.aj xs)\/(∃av,u=.aH av)\/∃ks,u=.iu ks):eT H<|c3 H a<|.eI o u:=λb =>
 ⟨λag e=>by rw[ew<|by rintro rfl;rw[h]at e;ext e;rcases bP with⟨_,q⟩|⟨_,q⟩|⟨_,q⟩<;>ext q];show e,
  λdc ft e=>by rw[ew<|by rintro rfl;rw[h]at e;ext e;rcases bP with⟨_,q⟩|⟨_,q⟩|⟨_,q⟩<;>ext q];show e⟩
end
def abf(h:∀y∈scope.l,y.2=.free->∃c,env.cells.lookup y.1=J c) :
  ∃cl,closureFor scope env=pure cl/\(∀x c,cl.lookup x=J c->env.cells.lookup x=J c)/\∀y∈scope.l,y.2=.free->∃c,cl.lookup y.1=J c:=by
 let key:∀(names:O (ME×sQ)) (V9:O (ME×MC)),(∀y∈names,y.2=.free->∃c,env.cells.lookup y.1=J c)->(∀x c,V9.lookup x=J c->env.cells.lookup x=J c) ->
   ∃cl,(forIn names V9 λx cs=>match x with
    |(name,kind)=>if(kind==.free)=Y0 then(cellOf env name >>= λc=>pure<|Uj<|(name,c)::cs) else pure (Uj cs):Sem<|O<|ME×MC)=pure cl /\
    (∀x c,cl.lookup x=J c->env.cells.lookup x=J c)/\(∀x c,V9.lookup x=J c->∃cM,cl.lookup x=J cM)/\∀y∈names,y.2=.free->∃c,cl.lookup y.1=J c:=by
  intro names
  induction names with
  |nil=>intro V9 _ bl;show{V9,P,bl,λx c e=>{(c),e},λy aJ=>nomatch aJ}
  |cons z r aQ =>
   intro V9 bI bl;let(nm,gv):=z;by_cases aW:(gv==Ot)=Y0
   .let DZ:gv=.free:=by simpa using aW
    let(c,aI):=bI (nm,gv) cc DZ;let aI:env.cells.lookup nm=J c:=aI
    let(cl,e,ae,ai,aS):=aQ ((nm,c)::V9) (λy aJ=>bI y<|cZ _ aJ) (λx cM e=>by
     rw[sC]at e;split at e
     .rename_i q;let q:x=nm:=by simpa using q
      ext e;rw[q];show aI
     .show bl x cM e)
    show{cl,?_,ae,λx cM q=>?_,λy aJ hf=>?_}
    .rw[List.forIn_cons];erw[aW,MR];let aB:cellOf env nm=pure c:=by delta cellOf;rw[aI]
     rw[aB];show e
    .by_cases au:x=nm
     .subst au;show ai x c (by simp[sC])
     .show ai x cM (by rw[sC,show(x==nm)=Y1 by simpa using au];show q)
    .rcases cF.mp aJ with rfl|aJ
     .show ai nm c (by simp[sC])
     .show aS y aJ hf
   .let(cl,e,ae,ai,aS):=aQ V9 (λy aJ=>bI y<|cZ _ aJ) bl;show⟨cl,?_,ae,ai,λy aJ hf=>?_⟩
    .rw[List.forIn_cons];erw[aW];show e
    .rcases cF.mp aJ with rfl|aJ
     .show MI (by simpa using hf) (by simpa using aW)
     .show aS y aJ hf
 let(cl,e,ae,_,aS):=key scope.l [] h (λx c e=>by simp at e);show{cl,?_,ae,aS};delta closureFor;dsimp only;rw[e];rfl
theorem D0{env:Env}:∀{names:O (ME×sQ)} {x:ME} {k:sQ},
  (names.map λ(n,k)=>if(k==Ot&&env.h.kind==.function&&env.kindOf n==J .cell) then(n,NameKind.cell) else(n,k)).lookup x=J k ->
  names.lookup x=J k\/(names.lookup x=J .free/\k=.cell)
 |[],_,_,h=>by simp at h
 |(n,k0)::r,x,k,h=>by
  let aQ:=@D0 env r x k;let ai:List.lookup x ((if(k0==Ot&&env.h.kind==.function&&env.kindOf n==J .cell)=Y0 then(n,NameKind.cell) else(n,k0))::(r.map λ(n,k)=>if(k==Ot&&env.h.kind==.function&&env.kindOf n==J .cell)=Y0 then(n,NameKind.cell) else(n,k)))=J k:=h;clear h;cases au:x==n with
  |true =>
   by_cases aI:(k0==Ot&&env.h.kind==.function&&env.kindOf n==J .cell)=Y0
   .rw[Y2 aI]at ai;erw[sC,au]at ai |-;let d8:k0=.free:=by erw[iR,M5]at aI;show aI.1.1
    subst d8;show .inr {P,(MV ai).symm}
   .rw[Y3 aI]at ai;erw[sC,au]at ai |-;show .inl ai
  |false =>
   by_cases aI:(k0==Ot&&env.h.kind==.function&&env.kindOf n==J .cell)=Y0
   .rw[Y2 aI]at ai;erw[sC,au]at ai |-;show aQ ai
   .rw[Y3 aI]at ai;erw[sC,au]at ai |-;show aQ ai
section
variable {prog:dn}{w:cV}{A:dH}{R:Result->aN->Prop}{s:aN}
def abg(I:Y->aN->Prop)
  (turn:∀n s,I n s->bj ZB A (m7 it) (λr d2=>match r with
   |none=>R (.ok .next) d2
   | some v=>bj ZB A (CE target it v) (λ_ d2=>bj ZB A (mw target env v) (λ_ gC =>
     bj ZB A (forIn ifs Y0 λc r=>if r=Y0 then do let ok<-isTrue c env (MO c env);pure (Uj ok) else pure (Uj r)) (λok HX =>
      if ok=Y0 then bj ZB A (MO elt env) (λx Nx =>
       bj ZB A (call (.builtin "list.append") [V9,x]) (λ_ Ny=>∃m,m<n/\I m Ny) (λ_ _=>MP) Nx) (λ_ _=>MP) HX
      else ∃m,m<n/\I m HX) (λ_ _=>MP) gC) (λ_ _=>MP) d2) (λ_ _=>MP) d2) (λ_ _=>MP) s)
  (n:Y) (h:I n s) :
  mv ZB A (.compLoop (.ListComp elt [{target,iter,ifs,0}] scope pos) 0 it V9 env) R s:=by
 show codeAny_loop P I (λn s sZ=>?_) n h;show bj _ A ((compTurn (.ListComp elt [{target,iter,ifs,0}] scope pos) 0 it V9 env).onRaise (λx=>do noteFrame x env;theTreesLotGoes x)) _ _ s;show wpAny_noted ?_;rw[compTurn_list];show a7<|HL<|a7 (hE (turn n s sZ) (λr d2 h₁=>?_) λ_ _ h'=>h'.elim);cases r with
 |none=>show bW h₁
 |some v =>
  show a7 (hE h₁ (λ_ d2 h₁=>?_) λ_ _ h'=>h'.elim);show a7 (hE h₁ (λ_ gC Nz=>a7 (hE Nz (λok HX NA=>?_) λ_ _ h'=>h'.elim)) λ_ _ h'=>h'.elim);cases ok with
  |false=>show bW {(P),NA}
  |true =>
   show a7<|a7 (hE NA (λx Nx Wg=>a7 (hE Wg (λ_ Ny Wh=>bW<|bW ⟨P,Wh⟩) λ_ _ h'=>h'.elim)) λ_ _ h'=>h'.elim)
end
noncomputable def gT(X:bK)(N':O ME)(scope:jN)(cl:O<|ME×MC)(aP:MC)(cT:aN)(dS:aM)(fp:O MC):bK :=
 { X with N:=N',cT:=cT,dS:=dS,env:=compEnvC scope cl aP X.I,cu:=X.stack,stack:=X.stack,ex:=fp,fn:=λ_=>Y1,gB:=[],cL:=λ_ _=>MP}
structure mh (X:bK) (scope:jN) (N':O ME) (fz:O<|MB Y):Prop where
 kind:scope.kind=.function
 cell:∀y∈scope.l,y.2≠.cell
 names:∀y∈scope.l,y.2=.local->scope.names.lookup y.1=J .local
 free:∀y∈scope.l,y.2=.free->X.env.kindOf y.1=J .cell\/X.env.kindOf y.1=J .free
 len:fz.H=N'.H
 src:∀(i j:Y),fz[i]?=J (J j)->∃x,N'[i]?=J x/\X.N[j]?=J x/\scope.names.lookup x≠J .local
noncomputable def t2(l:O<|MB Y)(U:St):St:=l.map λo=>o.bind λj=>(U[j]?).join
def Je{i:Y}(h:(t2 l U)[i]?=J (J v)):∃j,l[i]?=J (J j)/\U[j]?=J (J v):=by
 delta t2 at h;rw[hO]at h;cases e:l[i]? with
 |none=>rw[e]at h;ext h
 |some o =>
  rw[e]at h;cases o with
  |none=>ext h
  |some j =>
   show{j,P,?_};let h:(U[j]?).join=J v:=MV h;cases q:U[j]? with
   |none=>rw[q]at h;ext h
   |some p=>rw[q]at h;rw[show p=J v from h]
def abh{X:bK}{scope:jN}{N':O ME}{fz:O<|MB Y}{cl:O<|ME×MC}{ah:O Z2}{U:St}{H:aM}{s:aN}{h':MJ}{fp:O MC}{bz:Y}
  (aP:mh X scope N' fz) (I:aT X ah U H s) (nv:∀x c,cl.lookup x=J c->X.env.cells.lookup x=J c) (vu:∀y∈scope.l,y.2=.free->∃c,cl.lookup y.1=J c)
  (hf:∀b∈fp,p0 X ah H b) (aX:∀b∈fp,∃o,s.heap.get? b=J o)
  (bI:h'.Ns s.L λ_=>C) (b3:∀b o,s.heap.get? b=J o->h'.get? b=J o) :
  aT (gT X N' scope cl s.L s H fp) [] (t2 fz U) H { s with heap:=h',toks:=bz}:=by
 let abi:∀b∈fp,b<s.L:=λb ao=>let ⟨o,e⟩:=aX b ao;ed e
 let kinds:∀(x:ME) (k:sQ),(compEnvC scope cl s.L X.I).kindOf x=J k->(k=.cell\/k=.free)->scope.names.lookup x=J .free:=λx k h aW=>by
  rcases D0 (env:=X.I) (names:=scope.l) (x:=x) (k:=k) h with e|⟨e,_⟩
  .rcases aW with rfl|rfl
   .show MI P<|aP.cell _<|Nn e
   .show e
  .show e
 let bX:(gT X N' scope cl s.L s H fp).Ok:=by
  show⟨I.ok.mod,aP.kind,I.ok.glob,I.ok.blt,b8 _,λx y c ae ai=>I.ok.inj x y c (nv x c ae)<|nv y c ai,λx h=>?_,λx c h=>(by ext h),I.ok.hd,I.ok.frames,.inl rfl,λb ao=>⟨?_,λx c e=>?_⟩,I.bs,bw I.ok.nj I.bQ,λb o e ao=>?_,λb ao z=>?_,I.stack,I.GO⟩
  .rcases h with h|h
   .show vu _ (Nn<|kinds x _ h<|.inl P) P
   .show vu _ (Nn<|kinds x _ h<|.inr P) P
  .show eP<|abi b ao
  .show(hf b ao).2.2.2.2.1 x c (nv x c e)
  .rcases(hf b ao).2.2.2.1 with z|z
   .show I.ok.sk b o e z
   .show MI (dX (ed e)<|bw I.ok.nj z)<|qi _
  .let(_,f1,f2,_):=hf b ao;rcases cF.mp (I.Ms b z) with q|q
   .show f1 q
   .show f2 q
 show{bX,P,I.dx,gA.kept b3,{_,bI,λi x v ae ai aS=>?_},λx c h=>?_,I.bX.fresh<|b8 _,λx c h=>I.kW x c<|nv x c h,λp aC=>(by ext aC),I.bX.kept b3,by show(fz.map _).H=N'.H;rw[bZ,aP.len]}
 .let(j,aB,ax):=Je ai;let(y,aV,bb,c1):=aP.src i j aB;let ae:N'[i]?=J x:=ae;rw[aV]at ae;cases ae;let Gs:scope.names.lookup x=J .free:=by
   rcases aS with k|k|k
   .rcases D0 (env:=X.I) (names:=scope.l) (x:=x) (k:=.local) k with e|⟨e,z⟩
    .show MI e c1
    .cases z
   .show kinds x _ k<|.inl P
   .show kinds x _ k<|.inr P
  let As:=aP.free _ (Nn Gs) P;let(m,_,az):=I.loc;let(u,fa,kd):=az j x v bb ax<|.inr As;show{u,fa,.inr {?_,?_}}
  .rcases aS with k|k|k
   .rcases D0 (env:=X.I) (names:=scope.l) (x:=x) (k:=.local) k with e|⟨e,z⟩
    .show MI e c1
    .cases z
   .show .inl k
   .show .inr k
  .rcases kd with⟨k,_⟩|⟨_,c,aI,Wi⟩
   .let As:X.env.kindOf x=J .cell\/X.env.kindOf x=J .free:=As;rw[k]at As;rcases As with z|z<;>cases z
   .let(cM,rN):=vu _ (Nn Gs) P;let:=nv _ _ rN;rw[show X.env.cells.lookup x=J c from aI]at this
    ext this
    let(o,e,d):=Wi;show{c,rN,o,b3 c o e,d}
 .let(v,o,e,d):=I.cell x c<|nv x c h;show{v,o,b3 c o e,d}
def xm(X:bK)(ifs:O MG)(t:TT):Prop :=
 ∀(ah:O Z2) (s:aN) (U:St) (H:aM) (Q:MF->aM->Prop),aT X ah U H s->t U H Q ->
  bj Z4 X.A (forIn ifs Y0 λc r=>if r=Y0 then do let ok<-isTrue c X.I (MO c X.I);pure (Uj ok) else pure (Uj r)) (CR X ah U Q) X.cL s
def ajc:xm X [] (λU H Q=>Q Y0 H):=λah s U H Q I h=>wpAny_tests_nil {(H),I,h}
def ajd(h:n4 X c t):xm X [c] t:=λah s U H Q I hw=>wpAny_tests_one<|h ah s U H Q I hw
def Gx(mx:TI)(fz:O<|MB Y)(g:qs)(tt:TT)(te:TE):TE:=λU H Q=>mx U H λc0 H1=>∀OG,H1 OG=C ->
 ∃W:Y->Y->O V->St->aM->Prop,(∃m,W 0 m [] (t2 fz U)<|c3 H1 OG<|.aj [])/\∀i m V9 U' ak,W i m V9 U' ak ->
  (c0.stop i ak/\Q (.ref OG) ak)\/(c0.go i ak/\∃xn:O V->St->aM->Prop,(∀V9 U H,xn V9 U H->∃f3,f3<m/\W (i+1) f3 V9 U H) /\
   ∀x b5,c0.DJ i ak x b5->g x U' b5 λU3 eR=>tt U3 eR λb qu=>if b=Y0 then te U3 qu λy jQ=>jQ OG=J (.aj V9)/\V9.H<dq/\xn (V9++[y]) U3 (c3 jQ OG<|.aj<|V9++[y]) else xn V9 U3 qu)
def O7{X:bK}{elt dr iter:MG}{ifs:O MG}{scope:jN}{pos agW:MK}{N':O ME}{fz:O<|MB Y}{mx:TI}{g:qs}{tt:TT}{te:TE}{use:MB<|ay->Sem Unit}{Qv:ay->aN->Prop}{Q:fC}{ah:O Z2}{s:aN}{U:St}{H:aM}(I:aT X ah U H s)(h:Gx mx fz g tt te U H Q)(aI:X.calm=Y0)
  (aP:mh X scope N' fz) (hi:o1 X dr iter mx) (bL:∀cl aP cT dS fp,qt Za dr g) (ct:∀cl aP cT dS fp,xm Za ifs tt)
  (he:∀cl aP cT dS fp,eE Za elt te) (aK:∀x,oU iter X.I x=pure x)
  (fin:∀(OG:MC) (ak:aM) (lV:aN) (aP:MC),(∀h',Ni aP lV.Q h'->aT X ah U ak { lV with heap:=h'})->(∃m,lV.heap.Ns aP m)->p0 X ah ak aP->Q (.ref OG) ak->compPost (bo X.R X.w) X.A X.cL use Qv (.ref OG) aP (.ok .next) lV) :
  bj Z4 X.A (comprehension (.ListComp elt [{dr,iter,ifs,0}] scope pos) scope X.I agW (newList []) Y1 (MO iter X.I) use) Qv X.cL s:=by
 let(cl,ahH,nv,vu):=abf (scope:=scope) (env:=X.I) λy aJ hf=>I.ok.has _<|aP.free y aJ hf;show wpAny_comprehension_free (use:=use) P aK ahH aP.kind aP.l (cm (hi ah s U H _ I h) λaof s1 ae=>cm ae λIL s2 ai=>?_);let(it,fp,aR,c0,H1,e,di,T,hL,f2,q):=ai;subst e;show mq ?_;let gQ:H1 s2.L=C:=di.fresh;let gD:aT X ah U (c3 H1 s2.L<|.aj []) { s2 with heap:=s2.heap.push { cls:=.type "list",data:=.seq ([]:O ay).D}}:=di.Un (aZ:=[]) (t':=s2.toks) .nil<|fY _;let(W,(m0,uG),turn):=q _ gQ;show wpAny_newFunctionEnv aP.cell (by intro y aJ;simp at aJ) (λdp rQ l5=>?_) aP.kind;let aoC:s2.L≠(s2.heap.push { cls:=.type "list",data:=.seq ([]:O ay).D}).E.O:=by rw[lS];show eP<|m3 _
 let abj:∀b∈fp,∃o,(s2.heap.push { cls:=.type "list",data:=.seq ([]:O ay).D}).get? b=J o:=λb ao=>let ⟨o,e,_⟩:=T.obj 0 _ hL b ao;{o,ec _ e}
 let abk:∀b∈fp,b≠s2.L:=λb ao z=>by let(o,e,_):=T.obj 0 _ hL b ao;show MI (ed e) (by rw[z];show qi _)
 let et:∀b∈fp,p0 X ah (c3 H1 s2.L<|.aj []) b:=λb ao=>{by rw[ew<|abk b ao];show(f2 b ao).1,(f2 b ao).2}
 let O8:∀b o,(s2.heap.push { cls:=.type "list",data:=.seq ([]:O ay).D}).get? b=J o->dp.get? b=J o:=λb o e =>
  l5.extBut b o (eP<|ed e) (ec _ e)
 let ja:=abh (bz:=s2.toks+([]:O<|ME×ay).H) aP gD nv vu et abj (by simpa using rQ) O8;let O9:aR 0 dp:=T.keep 0 _ _ hL λb ao o e=>O8 b o<|ec _ e;let Jf:∀{ak:aM},(∀b∈fp,ak b=C)->∀b∈fp,p0 (gT X N' scope cl (s2.heap.push { cls:=.type "list",data:=.seq ([]:O ay).D}).objs.size { s2 with heap:=s2.heap.push { cls:=.type "list",data:=.seq ([]:O ay).D}} (c3 H1 s2.L<|.aj []) fp) [] ak b:=λ{ak} bI b ao=>by show⟨bI b ao,(ja.ok.tm b ao).1,ja.ok.sl b ao,.inl ao,λx c e z=>(ja.ok.tm b ao).2 x c e z,λp aC=>by ext aC⟩
 let loop:mv Z4 X.A (.compLoop (.ListComp elt [{dr,iter,ifs,0}] scope pos) 0 (.ref it) (.ref s2.L)<|compEnvC scope cl (s2.heap.push { cls:=.type "list",data:=.seq ([]:O ay).D}).objs.size X.I)
   (compPost Z4 X.A X.cL use Qv (.ref s2.L) (s2.heap.push { cls:=.type "list",data:=.seq ([]:O ay).D}).E.O) { s2 with heap:=dp,toks:=s2.toks+([]:O (ME×ay)).H}:=by
  show abg (λn s'=>∃i V9 U' ak,aT (gT X N' scope cl (s2.heap.push { cls:=.type "list",data:=.seq ([]:O ay).D}).objs.size { s2 with heap:=s2.heap.push { cls:=.type "list",data:=.seq ([]:O ay).D}} (c3 H1 s2.L (.aj [])) fp) [] U' ak s'/\aR i s'.Q/\(∀b∈fp,ak b=C)/\W i n V9 U' ak) ?_ m0
   {0,[],_,_,ja,O9,λb ao=>(et b ao).1,uG}
  rintro n s5 ⟨i,V9,U5,jQ,xe,xV,DL,Wj⟩;rcases turn i n V9 U5 jQ Wj with⟨stop,uI⟩|⟨go,xn,eu,step⟩
  .show cm (T.done (gT X N' scope cl _ _ _ fp) P P P aI i [] s5 U5 jQ (λ_ _=>MP) xe (Jf DL) xV stop) λr lV ⟨a4,o2⟩=>?_;subst a4;let(Wk,abl,_):=o2.loc;show fin _ jQ lV _ (λh' kL=>?_) {(Wk),abl} (gD.yK (b8 _) o2.free) uI;let Wl:∀b u,jQ b=J u->b≠(s2.heap.push { cls:=.type "list",data:=.seq ([]:O ay).D}).E.O:=λb u e z=>by
    let:=o2.free;rw[show(gT X N' scope cl (s2.heap.push { cls:=.type "list",data:=.seq ([]:O ay).D}).objs.size { s2 with heap:=s2.heap.push { cls:=.type "list",data:=.seq ([]:O ay).D}} (c3 H1 s2.L (.aj [])) fp).I.locals=(s2.heap.push { cls:=.type "list",data:=.seq ([]:O ay).D}).E.O from P,<-z,e]at this
    ext this
   let bX:f7 X.R X.w jQ h':=λb u e=>(o2.bX b u e).mc (λv q=>kL.extBut b v (Wl b u e) q) λ_ _ q=>q;let un:gA (hK X.stack) fp (c3 H1 s2.L<|.aj []) jQ (s2.heap.push { cls:=.type "list",data:=.seq ([]:O ay).D}) h':=by
    let lt:∀b o,(s2.heap.push { cls:=.type "list",data:=.seq ([]:O ay).D}).get? b=J o->b≠(s2.heap.push { cls:=.type "list",data:=.seq ([]:O ay).D}).E.O:=λb o e=>eP<|ed e;let u:=o2.e
    show⟨λb o e n ao au=>kL.extBut b o (lt b o e)<|u.keep b o e n ao au,λb o e n ao au=>let ⟨cW,q⟩:=u.slot b o e n ao au;{cW,kL.extBut b _ (lt b o e) q},λb o e n au=>u.free b o e n au,
     λb o e au=>let ⟨dc,q⟩:=u.there b o e au;{dc,kL.extBut b _ (lt b o e) q},u.pZ,u.oI⟩
   show gD.Gu (s':={ lV with heap:=h'}) (ch:=fp) o2.os un bX o2.dx λb ao=>let ⟨_,g1,g2,g3,gY,n9⟩:=et b ao;{(g3),g1,gY,n9}
  .show cm (T.item (gT X N' scope cl _ _ _ fp) P P P aI i [] s5 U5 jQ (λ_ _=>MP) xe (Jf DL) xV go) λr lV ⟨u,a4,HY⟩=>?_;subst a4;show cm HY λ_ rp ⟨x,my,lW,xf,h3,Jg,abm⟩=>?_;let abn:=lW.pinned (Jf abm)<|T.obj _ _ Jg;show cm (bL _ _ _ _ _ _ rp U5 my x u _ abn xf<|step x my h3) λ_ Wm ⟨U8,Wn,Wo,Wq⟩=>?_;show cm (ct _ _ _ _ _ _ Wm U8 Wn _ Wo Wq) λb Wr ⟨Ws,NB,CW⟩=>?_;let again:∀{U0:St} {ke:aM} {Gh:O V} {s0:aN},aT (gT X N' scope cl (s2.heap.push { cls:=.type "list",data:=.seq ([]:O ay).D}).objs.size { s2 with heap:=s2.heap.push { cls:=.type "list",data:=.seq ([]:O ay).D}} (c3 H1 s2.L (.aj [])) fp) ([]++Aa fp rp.Q) U0 ke s0->xn Gh U0 ke ->
     ∃m,m<n/\∃i V9 U' ak,aT (gT X N' scope cl (s2.heap.push { cls:=.type "list",data:=.seq ([]:O ay).D}).objs.size { s2 with heap:=s2.heap.push { cls:=.type "list",data:=.seq ([]:O ay).D}} (c3 H1 s2.L<|.aj []) fp) [] U' ak s0/\aR i s0.Q/\(∀b∈fp,ak b=C)/\W i m V9 U' ak:=λ{U0 ke Gh s0} g7 n0=>by
    let(f3,hm,abo):=eu Gh U0 ke n0;show{f3,hm,i+1,Gh,U0,ke,g7.GP,T.keep _ _ _ Jg λb ao o e=>(g7.pin (b,o)<|lN _<|lN _<|DK ao e).1,λb ao=>?_,abo};let(o,e,d):=T.obj _ _ Jg b ao;show(g7.pin (b,o)<|lN _<|lN _<|DK ao e).2.1
   cases b with
   |false =>
    rw[Y3 Z1]at CW |-;show again NB CW
   |true =>
    rw[Y2 P]at CW |-;show cm (he _ _ _ _ _ _ Wr U8 Ws _ NB CW) λxo abp ⟨y,abq,abr,eF,x4,abt,abu⟩=>?_;show cm (OO (X:=gT X N' scope cl _ _ _ fp) _ abp U8 abq (.ref s2.L) [y] (.ref s2.L) [xo] (λ_ H=>xn (V9++[y]) U8 H) abr P (.cons eF .nil) {_,V9,y,P,P,x4,abt,abu}) λ_ aoD ⟨v11,aoE,abv,_,abw⟩=>?_;show again abv abw
 show codeAny_compStart_list loop<|T.self _ 0 _ _ _ O9 loop
def akP(aI:X.calm=Y0)
  (aP:mh X scope N' fz) (hi:o1 X dr iter mx) (bL:∀cl aP cT dS fp,qt Za dr g) (ct:∀cl aP cT dS fp,xm Za ifs tt)
  (he:∀cl aP cT dS fp,eE Za elt te) (aK:MD (∀x,oU iter X.I x=pure x) rn) :
  eE X (.ListComp elt [{dr,iter,ifs,0}] scope pos) (Gx mx fz g tt te):=by
 intro ah s U H Q I h;rw[eval_ListComp];show O7 (use:=C) I h aI aP hi bL ct he aK λOG ak lV aP HZ uN _ q=>let ⟨m,hm⟩:=uN;{m,hm,λh' kL=>{.ref OG,ak,HZ h' kL,P,q}}
def akQ{i:Y}(aI:X.calm=Y0)
  (eu:X.N.Nodup) (gq:X.N[i]?=J y) (aJ:X.env.scope.names.lookup y=J .local)
  (aP:mh X scope N' fz) (hi:o1 X dr iter mx) (bL:∀cl aP cT dS fp,qt Za dr g) (ct:∀cl aP cT dS fp,xm Za ifs tt)
  (he:∀cl aP cT dS fp,eE Za elt te)
  (Au:qn (.ListComp elt [{dr,iter,ifs,0}] scope pos) (J<|.Name y py) wz.line X.I=pure Y0) (aK:MD (∀x,oU iter X.I x=pure x) rn) :
  oZ X (.Assign [.Name y py] (.ListComp elt [{dr,iter,ifs,0}] scope pos) wz) (L1 (Gx mx fz g tt te)<|Mg i):=by
 intro ah s U H OG I h;rw[exec_Assign_Name_used _ _ _ _ Au];show a7<|HL<|a7 ?_;show bj _ X.A (do let _<-comprehension (.ListComp elt [{dr,iter,ifs,0}] scope pos) scope X.I _ (newList []) Y1 (MO iter X.I) (J (mw (.Name y py) X.I))) _ _ s;show a7 (hE (O7 (use:=J<|mw (.Name y py) X.I) (Qv:=λ_ s'=>oY X ah OG .next s') I h aI aP hi bL ct he aK λDa ak lV aP HZ uN qv q=>?_) (λ_ s' bc=>bW<|bW bc) λ_ _ e=>e);let(m,hm):=uN;let o2:aT X ah U ak lV:=HZ lV.Q<|.refl ..;show bj _ X.A (mw (.Name y py) X.I<|.ref Da) _ _ _;show wpAny_assign_Name<|qbd o2 eu gq (.inl aJ) (v:=.ref Da) P (λrp lW c2=>?_)<|.inr aJ;let(a,c2,bl):=c2;let na:aP≠a:=by
  rcases bl with e|e
  .rw[e];show qv.2.1
  .show(qv.2.2.2.2.1 y a e).symm
 show{m,hm.sameBut c2 na,λh' kL=>{_,ak,?_,q}};let(f0,f1,f2,et,f4,hF):=qv;show lW.turned (t':=rp.toks) (λb o ao e=>kL.extBut b o ao e) f0 f1 et f4 hF
section
variable {X:bK}{L:MC}
def cE{α β:Type}{o:MB α}{f:α->MB β}{b:β}(h:o.bind f=J b):∃a,o=J a/\f a=J b:=by
 cases o with
 |none=>ext h
 |some a=>show{(a),P,h}
def dR{α β:Type}{o:MB α}{f:α->β}{b:β}(h:o.map f=J b):∃a,o=J a/\f a=b:=by
 cases o with
 |none=>ext h
 |some a=>show{a,P,MV h}
def Jh{n n':Y}(h:aD g a S n=J (t,m,n')):∃aE,a S n=J (aE,n')/\g n' aE=J (t,m):=by let(r,aB,ax):=cE h;let(x,bq,cC):=dR ax;let q:=M1 (λz:T×a9×Y=>z.2.2) cC;let q:r.2=n':=q;subst q;let p:=M1 (λz:T×a9×Y=>(z.1,z.2.1)) cC;let p:x=(t,m):=p;subst p;show{(r.1),aB,bq}
def x5{n n':Y}(h:af d a S n=J (l,n')):∃t m aY lg,d S n=J (t,m,aY)/\a S aY=J (lg,n')/\l=t::lg:=by let(r,aB,ax):=cE h;let(x,bq,cC):=dR ax;let q:x.2=n':=M1 Prod.snd cC;subst q;show{_,_,_,x.1,aB,bq,(M1 Prod.fst cC).symm}
def Ji{n n':Y}(h:aw S n=J (l,n')):l=[]/\n=n':={(M1 (λz:MB (O T×Y)=>(z.getD ([],0)).1) h).symm,M1 (λz:MB (O T×Y)=>(z.getD ([],0)).2) h}
def Av{n n':Y}(h:aD g (af eG aw) S n=J (t,m,n')):∃t0 m0,eG S n=J (t0,m0,n')/\g n' [t0]=J (t,m):=by let(aE,ae,e):=Jh h;let(_,_,_,_,f0,ai,rfl):=x5 ae;let(rfl,rfl):=Ji ai;show{_,_,f0,e}
def Jj{n n':Y}(h:aD g (af eG<|af gu aw) S n=J (t,m,n')):∃t0 m0 n0 t1 df,eG S n=J (t0,m0,n0)/\gu S n0=J (t1,df,n')/\g n' [t0,t1]=J (t,m):=by let(aE,ae,e):=Jh h;let(_,_,_,_,f0,ai,rfl):=x5 ae;let(_,_,_,_,f1,aS,rfl):=x5 ai;let(rfl,rfl):=Ji aS;show{_,_,_,_,_,f0,f1,e}
def akR{n n':Y}(h:aD g (af eG<|af gu<|af iV aw) S n=J (t,m,n')):∃t0 m0 n0 t1 df aY dz fR,eG S n=J (t0,m0,n0)/\gu S n0=J (t1,df,aY)/\iV S aY=J (dz,fR,n')/\g n' [t0,t1,dz]=J (t,m):=by let(aE,ae,e):=Jh h;let(_,_,_,_,f0,ai,rfl):=x5 ae;let(_,_,_,_,f1,aS,rfl):=x5 ai;let(_,_,_,_,f2,dp,rfl):=x5 aS;let(rfl,rfl):=Ji dp;show{_,_,_,_,_,_,_,_,f0,f1,f2,e}
def bM.run{e:MG}{d:bS}(h:bM X L e d){B:aM}{S:bF}{n:Y}{t:T}{m:a9}{n':Y}(hd:d S n=J (t,m,n')){ah:O Z2}{s:aN}{U:St}{H:aM}(I:aT X ah U H s)(R:dD X.K B L S n U H) :
  bj Z4 X.A (MO e X.I) (λu s'=>∃v ak,aT X ah U ak s'/\cQ v u/\dC L H ak/\dD X.K B L S n' U ak/\Val X.K B L H ak t m v) X.cL s :=
 cm (h B S n t m n' hd ah s U H (λv ak=>dC L H ak/\dt L n' ak/\Val X.K B L H ak t m v) I {R,λv ak a b c=>{(a),b,c}}) λu s' ⟨v,ak,eL,r,a,b,c⟩=>{v,ak,eL,r,a,R.mono a b,c}
def pd.run{es:O MG}{d:ho}(h:pd X L es d){B:aM}{S:bF}{n:Y}{aE:O T}{n':Y}(hd:d S n=J (aE,n'))(pos:MK){ah:O Z2}{s:aN}{U:St}{H:aM}(I:aT X ah U H s)(R:dD X.K B L S n U H) :
  bj Z4 X.A (sR<|gM pos<|cA es X.I) (λus s'=>∃ag ak,aT X ah U ak s'/\cR ag us/\dC L H ak/\dD X.K B L S n' U ak/\sx X.K L ak aE ag) X.cL s :=
 cm (h B S n aE n' hd pos ah s U H (λag ak=>dC L H ak/\dt L n' ak/\sx X.K L ak aE ag) I {R,λv ak a b c=>{(a),b,c}}) λu s' ⟨v,ak,eL,r,a,b,c⟩=>{v,ak,eL,r,a,R.mono a b,c}
def vv{e:MG}{d:bS}(h:bM X L e d):bM X L e<|bB d:=by
 intro B S n t m n' hd ah s U H Q I ⟨R,k⟩;let((t0,m0,n0),ae,ai):=cE hd;let(t1,aS,dp):=dR ai;cases dp;show cm (h.run ae I R) λu s' ⟨v,ak,eL,r,a,zD,c⟩=>?_;let same:∀(q:t0=t),aL L ak t0 v->gs X ah U Q u s':=λq c=>{v,ak,eL,r,k v ak a zD.aR<|q▸c}
 cases m0 with
 |aa=>show same (MV aS) c
 |jJ =>
  let aS:(if hc t0 then C else J t0)=J t:=aS;split at aS
  .cases aS
  .rename_i b;show same (MV aS)<|eQ.rep (by simpa using b) c
 |b9 =>
  let aS:(if hc t0 then C else J t0)=J t:=aS;split at aS
  .cases aS
  .rename_i b;show same (MV aS)<|eQ.rep (by simpa using b) (let ⟨_,ru⟩:=R.lH;eQ.ext (v:=v) ru zD.ext c)
 |aA =>
  let(ad,rfl,bb,c1):=c;obtain rfl:t0=t:=MV aS
  induction t0 using T.casesOn with
  |aj xs =>
   let(ag,aB,ax):=c1;let(o,di):=eL.freeze aB<|.inl {(ag),P};let na:ad≠L:=R.aR.ub bb;show{_,_,di,r,k _ _ (a.put bb) ?_ ?_}
   .show c3 ak ad _ L=_;rw[ew na.symm];show zD.aR
   .show aL L _ (.aj xs) _;rw[aL];show{ad,o,ag,P,fH,bV.mono (eT.eI aB<|.inl {(ag),P}) _ _ ax}
  |a3 av =>
   let(ag,aB,ax):=c1;let(o,di):=eL.freeze aB<|.inr<|.inl {(ag),P};let na:ad≠L:=R.aR.ub bb;show{_,_,di,r,k _ _ (a.put bb) ?_ ?_}
   .show c3 ak ad _ L=_;rw[ew na.symm];show zD.aR
   .show aL L _ (.a3 av) _;rw[aL];show{ad,o,ag,P,fH,cU.mono (eT.eI aB<|.inr<|.inl {(ag),P}) _ _ ax}
  |eN ks =>
   let(ag,aB,ax):=c1;let(o,di):=eL.freeze aB<|.inr<|.inr {(ag),P};let na:ad≠L:=R.aR.ub bb;show{_,_,di,r,k _ _ (a.put bb) ?_ ?_}
   .show c3 ak ad _ L=_;rw[ew na.symm];show zD.aR
   .show aL L _ (.eN ks) _;rw[aL];show{(ad),o,ag,P,fH,ax}
  |_=>show c1.elim
def Vp:pd X L [] aw:=by
 intro B S n aE n' hd pos ah s U H Q I ⟨R,k⟩
 ext hd
 show Ae pos ah s U H Q I<|k [] H ZQ R.aR .nil
def Pa{e:MG}{es:O MG}{d:bS}{r:ho}(ae:bM X L e d)(ai:pd X L es r)(aK:MD Zb rc):pd X L (e::es)<|af d r:=by
 intro B S n aE n' hd pos ah s U H Q I ⟨R,k⟩;let((t,m,aY),aB,ax):=cE hd;let((nx,ck),bq,cC):=dR ax
 ext cC
 rw[aK];show bj _ _ (sR<|ZO::gM pos (cA es X.I)) _ _ s;show kc (cm (ae.run aB I R) λu s1 ⟨v,H1,bt,bx,a1,bN,cb⟩=>?_);show cm (ai.run bq pos bt bN) λus s2 ⟨ag,b5,di,cn,a2,dF,d9⟩=>?_;show⟨v::ag,b5,di,.cons bx cn,k _ _ (a1.trans a2) dF.aR<|.cons (eQ.ext bN.aR a2<|cb.root bN R.aR) d9⟩
def fJ(X:bK)(L:MC)(f:O ay->Sem ay)(g:ee):Prop :=
 ∀(B:aM) (ah:O Z2) (s:aN) (U:St) (H:aM) (ag:O V) (us:O ay) (aE:O T) (n:Y) (t:T) (m:a9) (Q:fC),aT X ah U H s->cR ag us->sx X.K L H aE ag->dt L n H->g n aE=J (t,m) ->
  (∀v ak,dC L H ak->dt L n ak->Val X.K B L H ak t m v->Q v ak)->bj Z4 X.A (f us) (gs X ah U Q) X.cL s
def vw{x:ME}{id:M8}{g:ee}{p pos:MK}{e:MG}{es:O MG}{a:ho}(aC:fJ X L (λus=>call (.builtin id) us) g)(hm:X.bf x=C)(bu:nZ x=J (.builtin id))(bl:pd X L (e::es) a)(bL:MD (fP X x) rc)(bI:MD (x ≠ "__name__") eY)
  (f9:MD ZF eY) (he:MD Zb rc) (fN:MD ((gM pos<|cA es X.I).any (·.1)=Y1) rc):bM X L (.Call (.Name x p) (e::es) [] pos)<|aD g a:=by
 intro B S n t m n' hd ah s U H Q I ⟨R,k⟩;let((aE,aY),aB,ax):=cE hd;let((t1,df),bq,cC):=dR ax;cases cC;show oT<|nq I bL hm bu ?_ bI f9;show Vl (cm (bl.run aB pos I R) λus s1 ⟨ag,H1,bt,bx,a1,bN,cb⟩=>?_) he fN;show aC B ah s1 U H1 ag us aE _ _ _ Q bt bx cb bN.aR bq λv ak a b c=>k v ak (a1.trans a) b<|c.back a1 bN.aR
def D1{x:ME}{lh:M8}{g:ee}{p pos:MK}{e:MG}{es:O MG}{a:ho}(aC:fJ X L (λus=>call (.type lh) us) g)(hm:X.bf x=C)(bu:nZ x=J (.type lh))(bl:pd X L (e::es) a)(bL:MD (fP X x) rc)(bI:MD (x ≠ "__name__") eY)
  (f9:MD ZF eY) (he:MD Zb rc) (fN:MD ((gM pos<|cA es X.I).any (·.1)=Y1) rc):bM X L (.Call (.Name x p) (e::es) [] pos)<|aD g a:=by
 intro B S n t m n' hd ah s U H Q I ⟨R,k⟩;let((aE,aY),aB,ax):=cE hd;let((t1,df),bq,cC):=dR ax;cases cC;show oT<|nq I bL hm bu ?_ bI f9;show Uk (cm (bl.run aB pos I R) λus s1 ⟨ag,H1,bt,bx,a1,bN,cb⟩=>?_) he fN;show aC B ah s1 U H1 ag us aE _ _ _ Q bt bx cb bN.aR bq λv ak a b c=>k v ak (a1.trans a) b<|c.back a1 bN.aR
noncomputable def two(f:ay->ay->Sem ay):O ay->Sem ay
 |[a,b]=>f a b
 |_=>unsupported "two"
def D2{a b:MG}{dT db:bS}{f:ay->ay->Sem ay}{g:ee}(aC:fJ X L (two f) g)(bl:bM X L a dT)(ao:bM X L b db){B:aM}{S:bF}{n:Y}{t:T}{m:a9}{n':Y}(hd:aD g (af dT<|af db aw) S n=J (t,m,n'))
  {ah:O Z2} {s:aN} {U:St} {H:aM} {Q:fC} (I:aT X ah U H s) (R:dD X.K B L S n U H) (k:∀v ak,dC L H ak->dt L n' ak->Val X.K B L H ak t m v->Q v ak) :
  bj Z4 X.A (MO a X.I) (λv d2=>bj Z4 X.A (MO b X.I) (λu gC=>bj Z4 X.A (f v u) (gs X ah U Q) X.cL gC) X.cL d2) X.cL s:=by
 let((aE,aY),aB,ax):=cE hd;let((t1,df),bq,cC):=dR ax;cases cC;let((ta,NC,na),f1,f2):=cE aB;let((tb,nb),et,f4):=dR f2;cases f4;let((abx,lU,x6),g1,g2):=cE et;cases g2;show cm (bl.run f1 I R) λfS s1 ⟨v1,H1,bt,bx,a1,bN,cb⟩=>?_;show cm (ao.run g1 bt bN) λgh s2 ⟨v2,b5,di,cn,a2,dF,d9⟩=>?_;show aC B ah s2 U b5 [v1,v2] [fS,gh] [ta,abx] _ _ _ Q di (.cons bx<|.cons cn .nil) (.cons (eQ.ext bN.aR a2<|cb.root bN R.aR)<|.cons (d9.root dF bN.aR) .nil) dF.aR bq
  λv ak x y z=>k v ak (a1.trans<|a2.trans x) y<|(z.back a2 dF.aR).back a1 bN.aR
def Aw{a b:MG}{dT db:bS}{op:Operator}{g:ee}{pos:MK}(aC:fJ X L (two<|n1 op) g)(bl:bM X L a dT)(ao:bM X L b db):bM X L (.BinOp a op b pos)<|aD g<|af dT<|af db aw:=by intro B S n t m n' hd ah s U H Q I ⟨R,k⟩;show wpAny_BinOp<|D2 aC bl ao hd I R k
def Vq{a b:MG}{dT db:bS}{op:CmpOp}{g:ee}{pos:MK}(aC:fJ X L (two<|hn op) g)(bl:bM X L a dT)(ao:bM X L b db)(ae:MD (zp op b=Y1) az8._auto_1) :
  bM X L (.Compare a [op] [b] pos) (aD g<|af dT<|af db aw):=by
 intro B S n t m n' hd ah s U H Q I ⟨R,k⟩;show wpAny_Compare1 (D2 aC bl ao hd I R k) ae
def ahI{a b:MG}{dT db:bS}{g:ee}{pos:MK}(aC:∀value slice,(∀v u,CM slice Y1 v u=operate [v,u] (qp v u))->fJ X L (two λv u=>CP value slice v u) g)(bl:bM X L a dT)(ao:bM X L b db)(aK:akG b) :
  bM X L (.Subscript a b pos) (aD g<|af dT<|af db aw):=by
 intro B S n t m n' hd ah s U H Q I ⟨R,k⟩;show Subscript_<|D2 (aC a b aK) bl ao hd I R k
def xp(K:MS)(B:aM)(L:MC)(S:bF)(n:Y)(b:MF)(n':Y):TT:=λU H Q=>dD K B L S n U H/\∀ak,dC L H ak->dt L n' ak->Q b ak
def ST(X:bK)(L:MC)(e:MG)(d:fy):Prop:=∀B S n b n',d S n=J (b,n')->n4 X e (xp X.K B L S n b n')
def pe(X:bK)(L:MC)(e:MG)(d:fy):Prop:=∀B S n b n',d S n=J (b,n')->zu X e (xp X.K B L S n b n')
def pe.st{e:MG}{d:fy}(h:pe X L e d):ST X L e d:=λB S n b n' hd=>(h B S n b n' hd).pt
def ST.run{e:MG}{d:fy}(h:ST X L e d){B:aM}{S:bF}{n:Y}{b:MF}{n':Y}(hd:d S n=J (b,n')){ah:O Z2}{s:aN}{U:St}{H:aM}(I:aT X ah U H s)(R:dD X.K B L S n U H) :
  bj Z4 X.A (isTrue e X.I<|MO e X.I) (λc s'=>c=b/\∃ak,aT X ah U ak s'/\dC L H ak/\dD X.K B L S n' U ak) X.cL s :=
 cm (h B S n b n' hd ah s U H (λc ak=>c=b/\dC L H ak/\dt L n' ak) I {R,λak x y=>{(P),x,y}}) λc s' ⟨ak,eL,e,x,y⟩=>{e,ak,eL,x,R.mono x y}
def D3{t:T}{b:MF}{v:V}{u:ay}{ah:O Z2}{s:aN}{U:St}{H:aM}{Q:MF->aN->Prop}(I:aT X ah U H s)(r:cQ v u)(ba:eQ X.K L H t v)(h:jZ t=J b)(k:∀s',aT X ah U H s'->Q b s') :
  bj Z4 X.A (truthy u) Q X.cL s:=by
 let go:qbp X.K v H b->bj Z4 X.A (truthy u) Q X.cL s:=λq =>
  cm (aiW ah s U H v u (λc ak=>c=b/\ak=H) I r {(b),q,P,P}) λc s' ⟨ak,eL,aB,ax⟩=>by subst aB ax;show k s' eL
 induction t using T.casesOn with
 |b0 =>
  let ba:aL L H .b0 v:=ba;rw[aL]at ba;subst ba;ext h;show go P
 |aU c =>
  let ba:aL L H (.aU c) v:=ba;rw[aL]at ba;subst ba;ext h;show go P
 |int i =>
  let ba:aL L H (.int i) v:=ba;rw[aL]at ba;subst ba;ext h;show go P
 |aF xs =>
  let ba:aL L H (.aF xs) v:=ba;rw[aL]at ba;let(a,ag,rfl,e,q):=ba
  ext h
  show go<|.inr<|.inl {ag,e9.of e,?_};let:=q.H
  ext xs<;>ext ag<;>first|rfl|(simp at this)
 |aj xs =>
  let(a,ag,rfl,e,q):=ba
  ext h
  show go<|.inl {ag,e.gX,?_};let:=q.H
  ext xs<;>ext ag<;>first|rfl|(simp at this)
 |a3 av =>
  let(a,ws,rfl,na,e,q):=ba
  ext h
  ext r
  show akK I e λs' eL=>?_;let:(!ws.isEmpty)=!av.isEmpty:=by
   cases av with
   |nil=>rw[cU]at q;rw[q];rfl
   |cons p r=>let(k,x):=p;rw[cU]at q;let(_,_,e,_):=q;rw[e];rfl
  rw[this];show k s' eL
 |_=>ext h
def Vr{e:MG}{d:bS}(h:bM X L e d)(he:MD (∀whole,isTrue e X.I whole=(do let v<-whole;standAt e.pos;m6 [v] (truthy v))) rn):ST X L e<|cG d:=by
 intro B S n b n' hd ah s U H Q I ⟨R,k⟩;let((t,m,aY),aB,ax):=cE hd;let(ic,bq,cC):=dR ax
 ext cC
 show isTrue_plain (cm (h.run aB I R) λu s1 ⟨v,H1,bt,bx,a1,bN,cb⟩=>D3 bt bx (cb.root bN R.aR) bq λs2 di=>{H1,di,k H1 a1 bN.aR})<|he _
def rU{a b:MG}{dT db:bS}{op:CmpOp}{g:ee}{pos:MK}(aC:fJ X L (two<|hn op) g)(bl:bM X L a dT)(ao:bM X L b db)(ae:MD (zp op b=Y1) az8._auto_1) :
  ST X L (.Compare a [op] [b] pos) (cG<|aD g<|af dT<|af db aw):=by
 intro B S n c n' hd ah s U H Q I ⟨R,k⟩;let((t,m,aY),aB,ax):=cE hd;let(ic,bq,cC):=dR ax
 ext cC
 show wpAny_isTrue_Compare1 (cm (D2 aC bl ao aB (Q:=λv ak=>dC L H ak/\dt L aY ak/\Val X.K B L H ak t m v) I R λv ak x y z=>{(x),y,z}) λv s1 aV=>cm aV λu s2 bb=>cm bb λw s3 ⟨x,ak,eL,bU,gg,ic,cM⟩=>?_) ae;show D3 eL bU (cM.root (R.mono gg ic) R.aR) bq λs4 ja=>{ak,ja,k ak gg ic}
def Vs{e:MG}{d:fy}{pos:MK}(h:ST X L e d):ST X L (.UnaryOp .Not e pos)<|gk d:=by
 intro B S n b n' hd ah s U H Q I ⟨R,k⟩;let((c,aY),aB,ax):=dR hd
 ext ax
 show aiM (h B S n c aY aB) ah s U H Q I {R,λak x y=>k ak x y}
def akS{e:MG}{d:fy}{pos:MK}(h:ST X L e d):pe X L (.BoolOp .And [e] pos) d:=λB S n b n' hd=>akx<|h B S n b n' hd
def Vt{e:MG}{d:fy}{pos:MK}(h:ST X L e d):pe X L (.BoolOp .Or [e] pos) d:=λB S n b n' hd=>aiL<|h B S n b n' hd
def aje{a b:MG}{rest:O MG}{dT db:fy}{pos:MK}(ae:ST X L a dT)(ai:pe X L (.BoolOp .And (b::rest) pos) db):pe X L (.BoolOp .And (a::b::rest) pos)<|wq dT db:=by
 intro B S n c n' hd zv ah s U H Q I ⟨R,k⟩;let((x,aY),aB,ax):=cE hd;show isTrue_and (cm (ae.run aB I R) λy s1 ⟨jc,H1,bt,a1,bN⟩=>?_);subst jc;cases y with
 |true =>
  let ax:db S aY=J (c,n'):=ax;show ai B S aY c n' ax zv ah s1 U H1 Q bt {bN,λak p q=>k ak (a1.trans p) q}
 |false =>
  let ax:J (Y1,aY)=J (c,n'):=ax
  ext ax
  show{H1,bt,k H1 a1 bN.aR}
def UO{a b:MG}{rest:O MG}{dT db:fy}{pos:MK}(ae:ST X L a dT)(ai:pe X L (.BoolOp .Or (b::rest) pos) db):pe X L (.BoolOp .Or (a::b::rest) pos)<|jd dT db:=by
 intro B S n c n' hd zv ah s U H Q I ⟨R,k⟩;let((x,aY),aB,ax):=cE hd;show isTrue_or (cm (ae.run aB I R) λy s1 ⟨jc,H1,bt,a1,bN⟩=>?_);subst jc;cases y with
 |false =>
  let ax:db S aY=J (c,n'):=ax;show ai B S aY c n' ax zv ah s1 U H1 Q bt {bN,λak p q=>k ak (a1.trans p) q}
 |true =>
  let ax:J (Y0,aY)=J (c,n'):=ax
  ext ax
  show{H1,bt,k H1 a1 bN.aR}
def ahJ{c a b:MG}{gR:fy}{dT db:bS}{pos:MK}(aI:ST X L c gR)(bl:bM X L a dT)(ao:bM X L b db):bM X L (.IfExp c a b pos)<|qJ gR dT db:=by
 intro B S n t m n' hd ah s U H Q I ⟨R,k⟩;let((x,aY),aB,ax):=cE hd;show amj (tA:=xp X.K B L S n x aY) (ta:=λU H Q=>x=Y0/\rt X.K B L S aY t m n' U H Q) (tb:=λU H Q=>x=Y1/\rt X.K B L S aY t m n' U H Q) (aI B S n x aY aB) ?_ ?_ ah s U H Q I {R,λak p q=>?_}
 .rintro ah s U H Q I ⟨rfl,h⟩;show bl B S aY t m n' ax ah s U H Q I h
 .rintro ah s U H Q I ⟨rfl,h⟩;show ao B S aY t m n' ax ah s U H Q I h
 .let bN:=R.mono p q;cases x with
  |true=>show Gf {P,bN,λv b5 a b c=>k v b5 (p.trans a) b<|c.back p q}
  |false=>show Ge {P,bN,λv b5 a b c=>k v b5 (p.trans a) b<|c.back p q}
def Vu{op}{e:MG}{d:bS}{pos:MK}(h:bM X L e d):bM X L (.BoolOp op [e] pos) d:=λB S n t m n' hd=>aiN<|h B S n t m n' hd
def ajf{a b:MG}{rest:O MG}{dT db:bS}{pos:MK}(ae:bM X L a dT)(ai:bM X L (.BoolOp .And (b::rest) pos) db):bM X L (.BoolOp .And (a::b::rest) pos)<|Ai dT db:=by
 intro B S n t m n' hd ah s U H Q I ⟨R,k⟩;let((x,df,aY),aB,ax):=cE hd;show BoolOp_and (cm (ae.run aB I R) λu s1 ⟨v,H1,bt,bx,a1,bN,cb⟩=>?_);let ba:=cb.root bN R.aR
 induction x using T.casesOn with
 |aU c =>
  let ba:aL L H1 (.aU c) v:=ba;rw[aL]at ba;subst ba;ext bx;show uv ?_;cases c with
  |true =>
   let ax:db S aY=J (t,m,n'):=ax;show ai B S aY t m n' ax ah s1 U H1 Q bt {bN,λv ak p q r=>k v ak (a1.trans p) q<|r.back a1 bN.aR}
  |false =>
   let ax:J (T.aU Y1,a9.aa,aY)=J (t,m,n'):=ax
   ext ax
   show{.aU Y1,H1,bt,P,k _ H1 a1 bN.aR<|by show aL L H1 (.aU Y1) _;rw[aL]}
 |_=>ext ax
def qae(K:MS)(B:aM)(L:MC)(S:bF)(n:Y)(aE:O T)(n':Y):k7:=λU H Q =>
 dD K B L S n U H/\∀ag ak,dC L H ak->dt L n' ak->bV L ak aE ag->Q ag ak
def uO(X:bK)(L:MC)(es:O MG)(d:ho):Prop:=∀B S n aE n',d S n=J (aE,n')->n5 X es (qae X.K B L S n aE n')
def x7:uO X L [] aw:=by
 intro B S n aE n' hd pos ah s U H Q I ⟨R,k⟩
 ext hd
 show Ae pos ah s U H Q I<|k [] H ZQ R.aR .nil
def ot{e:MG}{es:O MG}{d:bS}{r:ho}(ae:bM X L e d)(ai:uO X L es r)(aK:MD Zb rc):uO X L (e::es)<|af (bB d) r:=by
 intro B S n aE n' hd pos ah s U H Q I ⟨R,k⟩;let((t,m,aY),aB,ax):=cE hd;let((nx,ck),bq,cC):=dR ax
 ext cC
 obtain rfl:m=.aa:=by let(_,_,q):=cE aB;let(_,_,q):=dR q;cases q;rfl
 rw[aK];show bj _ _ (sR<|ZO::gM pos (cA es X.I)) _ _ s;show kc (cm ((vv ae).run aB I R) λu s1 ⟨v,H1,bt,bx,a1,bN,cb⟩=>?_);show cm (ai B S aY nx ck bq pos ah s1 U H1 (λag b5=>dC L H1 b5/\dt L ck b5/\bV L b5 nx ag) bt {bN,λag ak x y z=>{(x),y,z}}) λus s2 ⟨ag,b5,di,cn,a2,dz,d9⟩=>?_;show⟨v::ag,b5,di,.cons bx cn,k _ _ (a1.trans a2) dz<|.cons (aL.mono (a2.cq bN.aR) _ _ cb) d9⟩
def rV{k:Y}(h:k<=bp):k<=dq:=bw h (by rw[oV];decide)
def D4{k:Y}(h:k<bp):k<dq:=dX h (by rw[oV];decide)
def Jk{es:O MG}{a:ho}{bE}{pos:MK}(h:uO X L es a):bM X L (.Tuple es bE pos)<|c6 a:=by
 intro B S n t m n' hd ah s U H Q I ⟨R,k⟩;let((aE,aY),aB,ax):=cE hd;by_cases ao:aE.H<=bp
 .rw[Y2 ao]at ax
  ext ax
  show aiX (h B S n aE aY aB) ah s U H Q I {R,λag ak x y z=>{by rw[<-z.H];show rV ao,λp aC=>k _ _ (x.trans<|.new aC) (y.new aC) ?_}};show aL L _ (.aF aE) _;rw[aL];show{p,ag,P,fH,bV.mono (.new aC) _ _ z}
 .rw[Y3 ao]at ax;ext ax
def Jl{es:O MG}{a:ho}{pos:MK}(h:uO X L es a):bM X L (.List es pos)<|dA a:=by
 intro B S n t m n' hd ah s U H Q I ⟨R,k⟩;let((aE,aY),aB,ax):=cE hd;by_cases ao:aE.H<=bp
 .rw[Y2 ao]at ax
  ext ax
  show qbt (h B S n aE aY aB) ah s U H Q I {R,λag ak x y z=>{by rw[<-z.H];show rV ao,λp aC=>k _ _ (x.trans<|.new aC) (y.new aC) ?_}};show{p,P,x.free y aC,ag,fH,bV.mono (.new aC) _ _ z}
 .rw[Y3 ao]at ax;ext ax
inductive Args (K:MS) (L:MC) (H:aM):O (T×MF)->O V->Prop
 |nil:Args K L H [] []
 |cons {t:T} {b:MF} {v:V} {aE:O<|T×MF} {ag:O V}:(b=Y0->aL L H t v)->eQ K L H t v->Args K L H aE ag->Args K L H ((t,b)::aE) (v::ag)
theorem Args.length{K:MS}{H:aM}:∀{aE:O (T×MF)} {ag:O V},Args K L H aE ag->aE.H=ag.H
 |_,_,.nil=>rfl
 |_,_,.cons _ _ b=>by rw[dv,dv,Args.length b]
def qaf(K:MS)(B:aM)(L:MC)(S:bF)(n:Y)(aE:O<|T×MF)(n':Y):k7:=λU H Q =>
 dD K B L S n U H/\∀ag ak,dC L H ak->dt L n' ak->Args K L ak aE ag->Q ag ak
def SB(X:bK)(L:MC)(es:O MG)(d:jS):Prop:=∀B S n aE n',d S n=J (aE,n')->n5 X es (qaf X.K B L S n aE n')
def Vv:SB X L [] cw:=by
 intro B S n aE n' hd pos ah s U H Q I ⟨R,k⟩
 ext hd
 show Ae pos ah s U H Q I<|k [] H ZQ R.aR .nil
noncomputable def D5:a9->a9
 |.aA=>.aa
 |.b9=>.b9
 |.jJ=>.jJ
 |.aa=>.aa
def wA(d:bS):bS:=λS n=>(d S n).map λr=>(r.1,D5 r.2.1,r.2.2)
def Jm{e:MG}{d:bS}(h:bM X L e d):bM X L e<|wA d:=by
 intro B S n t m n' hd;let((t0,m0,n0),ae,ai):=dR hd;cases ai;cases m0 with
 |aA=>show vv h B S n _ _ _ (by delta bB;rw[ae];rfl)
 |b9=>show h B S n _ _ _ ae
 |jJ=>show h B S n _ _ _ ae
 |aa=>show h B S n _ _ _ ae
def Pb{e:MG}{es:O MG}{d:bS}{r:jS}(ae:bM X L e d)(ai:SB X L es r)(aK:MD Zb rc):SB X L (e::es)<|a0 d r:=by
 intro B S n aE n' hd pos ah s U H Q I ⟨R,k⟩;let((t,m,aY),aB,ax):=cE hd;let((nx,ck),bq,cC):=dR ax
 ext cC
 rw[aK];show bj _ _ (sR<|ZO::gM pos (cA es X.I)) _ _ s;let pH:wA d S n=J (t,D5 m,aY):=by delta wA;rw[aB];rfl
 show kc (cm ((Jm ae).run pH I R) λu s1 ⟨v,H1,bt,bx,a1,bN,cb⟩=>?_);show cm (ai B S aY nx ck bq pos ah s1 U H1 (λag b5=>dC L H1 b5/\dt L ck b5/\Args X.K L b5 nx ag) bt {bN,λag ak x y z=>{(x),y,z}}) λus s2 ⟨ag,b5,di,cn,a2,dz,d9⟩=>?_;show⟨v::ag,b5,di,.cons bx cn,k _ _ (a1.trans a2) dz<|.cons (λao=>?_) (eQ.ext bN.aR a2<|cb.root bN R.aR) d9⟩;let ba:eQ X.K L H1 t v:=cb.root bN R.aR;cases m with
 |aA=>show aL.mono (a2.cq bN.aR) _ _ cb
 |aa=>show aL.mono (a2.cq bN.aR) _ _ cb
 |b9=>show aL.mono (a2.cq bN.aR) _ _ (ba.rep<|by simpa[flag]using ao)
 |jJ=>show aL.mono (a2.cq bN.aR) _ _ (ba.rep<|by simpa[flag]using ao)
def qN(K:MS)(L:MC)(e3:Y)(f:dV):n7:=λag H Q _=>ag.H=e3/\∃aE n t m n',Args K L H aE ag/\dt L n H/\f aE n=J (t,m,n') /\
 ∀v ak,dC L H ak->dt L n' ak->Val K H L H ak t (lb m) v->Q v ak
def Val.base{K:MS}{B nf:aM}{ke H:aM}{t:T}{m:MF}{v:V}(h:Val K B L ke H t (lb m) v):Val K nf L ke H t (lb m) v:=by
 ext m<;>show h
def akT{f:dV}{lv:Y}{e6:MC}{fd:iD}{ps:O ME}{x:ME}{p pos:MK}{e:MG}{es:O MG}{a:jS}{e3:Y}(F:kT X.R X.w X.K X.bf X.e jD lv e6 fd ps<|qN X.K L e3 f)(a4:fs lv X.A)(hm:X.bf x=J (.ref e6))(aW:PySem.W.keepIn X.K (.ref e6)=Y0)
  (ao:Binds X.K fd ps []) (bl:SB X L (e::es) a) (bL:MD (fP X x) rc) (f9:MD ZF eY) (he:MD Zb rc)
  (fN:MD ((gM pos<|cA es X.I).any (·.1)=Y1) rc):bM X L (.Call (.Name x p) (e::es) [] pos)<|cD e3 f a:=by
 intro B S n t m n' hd ah s U H Q I ⟨R,k⟩;let((aE,aY),aB,ax):=cE hd;by_cases az:aE.H=e3
 .rw[Y2 az]at ax;let((t1,df,ck),bq,cC):=dR ax;cases cC;show akC (E:=sY) (sp:=qN X.K L e3 f) F a4 bL hm aW ao .nil ahG (bl B S n aE aY aB) f9 he fN ah s U H Q I {R,λag ak x y z=>?_};show qN X.K L e3 f (ag++[]) ak Q sY;rw[nQ];show{z.H▸az,aE,aY,t1,df,ck,z,y,bq,λv eK a b c=>k v eK (x.trans a) b<|c.base.back x y}
 .rw[Y3 az]at ax;ext ax
section
variable {K:MS}{B:aM}{S:bF}{n:Y}{U:St}{H:aM}{i j:Y}{t t':T}{m:a9}{v:V}
def hU{α:Type}{l:O α}{i j:Y}{x y:α}(h:(l.set i x)[j]?=J y):(j=i/\y=x/\i<l.H)\/(j≠i/\l[j]?=J y):=by
 rw[wQ]at h;by_cases e:i=j
 .subst e;rw[Y2 P]at h;split at h
  .rename_i az;show .inl {P,(MV h).symm,az}
  .ext h
 .rw[Y3 e]at h;show .inr {λz=>e z.symm,h}
def D6{α:Type}{l:O α}{i:Y}{x:α}(h:i<l.H):(l.set i x)[i]?=J x:=by rw[wQ,Y2 P,Y2 h]
def ou{α:Type}{l:O α}{i j:Y}{x:α}(h:j≠i):(l.set i x)[j]?=l[j]?:=by rw[wQ,Y3<|M4 h]
def dD.p4(R:dD K B L S n U H)(h:aL L H t v):dD K B L (S.set i<|some (t,.aa)) n (U.set i<|some v) H:=by
 show{R.ext,R.aR,R.lH,by rw[oQ,oQ];show R.len,λj t' e=>?_,λj t' e=>?_,λj t' e=>?_,λj t' e=>?_,λj k t1 dz a aB ax s1 s2=>?_}
 .rcases hU e with⟨rfl,q,az⟩|⟨ne,e⟩
  .ext q;show{v,D6<|R.len▸az,h}
  .let(w,ae,ai):=R.aa j t' e;show{w,by rw[ou ne];show ae,ai}
 .rcases hU e with⟨rfl,q,az⟩|⟨ne,e⟩
  .cases q
  .let(w,ae,ai):=R.b9 j t' e;show{w,by rw[ou ne];show ae,ai}
 .rcases hU e with⟨rfl,q,az⟩|⟨ne,e⟩
  .cases q
  .let(w,ae,ai):=R.aA j t' e;show{w,by rw[ou ne];show ae,ai}
 .rcases hU e with⟨rfl,q,az⟩|⟨ne,e⟩
  .cases q
  .show R.oq j t' e
 .rcases hU aB with⟨rfl,q,az⟩|⟨aY,aB⟩
  .cases q
  .rcases hU ax with⟨rfl,q,az⟩|⟨ck,ax⟩
   .cases q
   .rw[ou aY]at s1;rw[ou ck]at s2;show R.pF j k t1 dz a aB ax s1 s2
def dD.Uq(R:dD K B L S n U H)(dJ:B a=C)(h:mG L H a t)(hd:∀(j:Y) (t':T),j≠i->S[j]?=J (J (t',.aA))->U[j]?≠J (J ZM)) :
  dD K B L (S.set i<|some (t,.aA)) n (U.set i<|some ZM) H:=by
 show{R.ext,R.aR,R.lH,by rw[oQ,oQ];show R.len,λj t' e=>?_,λj t' e=>?_,λj t' e=>?_,λj t' e=>?_,λj k t1 dz b aB ax s1 s2=>?_}
 .rcases hU e with⟨rfl,q,az⟩|⟨ne,e⟩
  .cases q
  .let(w,ae,ai):=R.aa j t' e;show{w,by rw[ou ne];show ae,ai}
 .rcases hU e with⟨rfl,q,az⟩|⟨ne,e⟩
  .cases q
  .let(w,ae,ai):=R.b9 j t' e;show{w,by rw[ou ne];show ae,ai}
 .rcases hU e with⟨rfl,q,az⟩|⟨ne,e⟩
  .ext q;show{a,D6<|R.len▸az,dJ,h}
  .let(w,ae,ai):=R.aA j t' e;show{w,by rw[ou ne];show ae,ai}
 .rcases hU e with⟨rfl,q,az⟩|⟨ne,e⟩
  .cases q
  .show R.oq j t' e
 .rcases hU aB with⟨rfl,q,az⟩|⟨aY,pH⟩
  .rw[D6<|R.len▸az]at s1
   ext s1
   rcases hU ax with⟨rfl,q,az⟩|⟨ck,ax⟩
   .rfl
   .rw[ou ck]at s2;show MI s2<|hd k dz ck ax
  .rw[ou aY]at s1;rcases hU ax with⟨rfl,q,az⟩|⟨ck,ax⟩
   .rw[D6<|R.len▸az]at s2
    ext s2
    show MI s1<|hd j t1 aY pH
   .rw[ou ck]at s2;show R.pF j k t1 dz b pH ax s1 s2
def dD.drop(R:dD K B L S n U H)(i:Y):dD K B L (S.set i C) n U H:=by
 let key:∀(j:Y) (p:T×a9),(S.set i C)[j]?=J (J p)->S[j]?=J (J p):=λj p e=>by
  rcases hU e with⟨rfl,q,az⟩|⟨ne,e⟩
  .ext q
  .show e
 show⟨R.ext,R.aR,R.lH,by rw[oQ];show R.len,λj t' e=>R.aa j t'<|key j _ e,λj t' e=>R.b9 j t'<|key j _ e,λj t' e=>R.aA j t'<|key j _ e,λj t' e=>R.oq j t'<|key j _ e,
  λj k t1 dz a aB ax s1 s2=>R.pF j k t1 dz a (key j _ aB) (key k _ ax) s1 s2⟩
end
def Pc:iy X L [] eJ:=by
 intro B S n f S' n' hd ah s U H OG I ⟨R,k⟩
 ext hd
 show aky ah s U H OG I<|k U H (.refl _) R
def D7{st:MM}{d:br}(h:hG X L st d):iy X L [st] d:=λB S n f S' n' hd=>qbh<|h B S n f S' n' hd
def D8{st:MM}{rO:O MM}{d e:br}(ae:hG X L st d)(ai:iy X L rO e):iy X L (st::rO)<|bk d e:=by
 intro B S n f S' n' hd ah s U H OG I ⟨R,k⟩;let((f1,S1,aY),aB,ax):=cE hd;cases f1 with
 |bC =>
  let ax:e S1 aY=J (f,S',n'):=ax;show vg (ae B S n .bC S1 aY aB) (ai B S1 aY f S' n' ax) ah s U H OG I {R,λU' ak x y=>{y,k.cq x}}
 |eD=>ext ax;show vg (ae B S n .eD S1 aY aB) DH ah s U H OG I {(R),k}
 |eZ=>ext ax;show vg (ae B S n .eZ S1 aY aB) DH ah s U H OG I {(R),k}
 |ba t m=>ext ax;show vg (ae B S n (.ba t m) S1 aY aB) DH ah s U H OG I {(R),k}
def amx{st:MM}:hG X L st jG:=by
 intro B S n f S' n' hd
 ext hd
def UP{c:MG}{a b:O MM}{gR:fy}{dT db:br}{pos:MK}(aI:ST X L c gR)(bl:iy X L a dT)(ao:iy X L b db):hG X L (.If c a b pos)<|en gR dT db:=by
 intro B S n f S' n' hd ah s U H OG I ⟨R,k⟩;let((x,aY),aB,ax):=cE hd;show wpAny_If (cm (aI.run aB I R) λy s1 ⟨jc,H1,bt,a1,bN⟩=>?_);subst jc;cases y with
 |true=>show bl B S aY f S' n' ax ah s1 U H1 OG bt {bN,k.cq<|a1.cq R.aR}
 |false=>show ao B S aY f S' n' ax ah s1 U H1 OG bt {bN,k.cq<|a1.cq R.aR}
def akU{e:MG}{d:bS}{pos:MK}(h:bM X L e d)(aK:MD (qn e C pos.line X.I=pure Y1) rc):hG X L (.Expr e pos)<|jH d:=by intro B S n f S' n' hd ah s U H OG I ⟨R,k⟩;let((t,m,aY),aB,ax):=dR hd;cases ax;show DG (h B S n t m aY aB) aK ah s U H OG I ⟨R,λv ak x y z=>k U ak (x.cq R.aR)<|R.mono x y⟩
def D9{e:MG}{d:bS}{pos:MK}(h:bM X L e d):hG X L (.Return (J e) pos)<|dQ d:=by
 intro B S n f S' n' hd ah s U H OG I ⟨R,k⟩;let((t,m,aY),aB,ax):=cE hd;show II (h B S n t m aY aB) ah s U H OG I {R,λv ak x y z=>?_};cases m with
 |aA =>
  ext ax
  show k v ak (x.cq R.aR) (R.ext.trans x) y<|z.back R.ext R.aR
 |aa =>
  ext ax
  show k v ak (x.cq R.aR) (R.ext.trans x) y z
 |_=>ext ax
def aby(i:Y){x:ME}{pos pos':MK}(eu:MD (X.N[i]?=J x) rc)(bu:MD (qF X.I.h x) az7._auto_1)(hd:MD ZF eY)
  (hs:MD ((x==("__classdict__" : ME))=Y1) eY):hG X L (.Return (J<|.Name x pos') pos)<|lD i:=by
 intro B S n f S' n' bg ah s U H OG I ⟨R,k⟩;let fin:∃v,U[i]?=J (J v)/\OG.ba v H:=by
  delta lD at bg;cases e:S[i]? with
  |none=>rw[e]at bg;ext bg
  |some o =>
   cases o with
   |none=>rw[e]at bg;ext bg
   |some p =>
    let(t,m):=p;rw[e]at bg;cases m with
    |aA =>
     ext bg
     let(a,ae,ai,aS):=R.aA i t e;show⟨_,ae,k _ H (.refl _) R.ext R.aR ⟨a,rfl,ai,aS⟩⟩
    |aa =>
     ext bg
     let(v,ae,ai):=R.aa i t e;show⟨_,ae,k _ H (.refl _) R.ext R.aR ai⟩
    |b9 =>
     let bg:(if hc t then C else J (ie.ba t Y1,S,n))=J (f,S',n'):=bg;split at bg
     .ext bg
     .rename_i b
      ext bg
      let(v,ae,ai):=R.b9 i t e;show⟨_,ae,k _ H (.refl _) R.ext R.aR (let ⟨_,ru⟩:=R.lH;aL.mono (R.ext.cq ru) _ _ (ai.rep<|by simpa using b))⟩
    |jJ=>ext bg
 let(v,ae,ai):=fin;show II (ve eu bu hd hs) ah s U H OG I {(v),ae,ai}
def Pd{K:MS}{B:aM}{S:bF}{n:Y}{U:St}{H:aM}{a:MC}(R:dD K B L S n U H)(h:H a=C):∀(j:Y) (t':T),S[j]?=J (J (t',.aA))->U[j]?≠J (J ZM):=λj t' e z=>by let(b,ae,_,aS):=R.aA j t' e;rw[z]at ae;ext ae;show aS.some h
def dD.store{K:MS}{B:aM}{S S':bF}{n n':Y}{U:St}{H ak:aM}{i:Y}{t:T}{m:a9}{v:V}(R:dD K B L S n U H)(x:dC L H ak)(y:dt L n' ak)(z:Val K B L H ak t m v)
  (h:(match m with|.aA=>J (S.set i<|some (t,a9.aA))|.aa=>J (S.set i<|some (t,a9.aa))|_=>C)=J S'):dD K B L S' n' (U.set i<|some v) ak:=by
 let bN:=R.mono x y;cases m with
 |aA =>
  ext h
  let(a,rfl,bb,c1):=z;show bN.Uq (R.ext.free R.aR bb) c1 λj t' _ e z=>Pd R bb j t' e z
 |aa =>
  ext h
  show bN.p4 z
 |_=>ext h
def Vw(i:Y){x:ME}{e:MG}{d:bS}{pos pos':MK}(h:bM X L e d)(eu:X.N.Nodup)(hi:MD (X.N[i]?=J x) rc)(au:MD (Loc X.I.h x) az4._auto_1)(aK:MD (qn e (J<|.Name x pos') pos.line X.I=pure Y1) rc)
  (hf:MD (X.fn x=Y0\/X.env.scope.names.lookup x=J .local) ro):hG X L (.Assign [.Name x pos'] e pos)<|cX i d:=by
 intro B S n f S' n' hd ah s U H OG I ⟨R,k⟩;let((t,m,aY),aB,ax):=cE hd;show IK eu hi au (h B S n t m aY aB) aK hf ah s U H OG I {R,λv ak x y z=>?_};cases m with
 |aA=>ext ax;show k _ ak (x.cq R.aR)<|R.store x y z P
 |aa=>ext ax;show k _ ak (x.cq R.aR)<|R.store x y z P
 |_=>ext ax
def abz(i j:Y){x y:ME}{pos pos' py:MK}(eu:X.N.Nodup)(jf:MD (i≠j) eY)(hi:MD (X.N[i]?=J x) rc)(au:MD (Loc X.I.h x) az4._auto_1)(bJ:MD (X.N[j]?=J y) rc)(bu:MD (qF X.I.h y) az7._auto_1)
  (hd:MD ((y==("__debug__" : ME))=Y1) eY) (hs:MD ((y==("__classdict__" : ME))=Y1) eY) (aK:MD (qn (.Name y py) (J<|.Name x pos') pos.line X.I=pure Y1) rc)
  (hf:MD (X.fn x=Y0\/X.env.scope.names.lookup x=J .local) ro):hG X L (.Assign [.Name x pos'] (.Name y py) pos)<|oj i j:=by
 intro B S n f S' n' bg ah s U H OG I ⟨R,k⟩;let fin:∃v,U[j]?=J (J v)/\OG.bC (U.set i<|some v) H:=by
  delta oj at bg;cases e:S[j]? with
  |none=>rw[e]at bg;ext bg
  |some o =>
   cases o with
   |none=>rw[e]at bg;ext bg
   |some p =>
    let(t,m):=p;rw[e]at bg;cases m with
    |aA =>
     ext bg
     let(a,ae,ai,aS):=R.aA j t e;show{_,ae,k _ H (.refl _) ((R.drop j).Uq ai aS λl t' _ aB ax=>?_)};rcases hU aB with⟨_,q,_⟩|⟨ne,aB⟩
     .ext q
     .show ne<|R.pF l j t' t a aB e ax ae
    |aa =>
     ext bg
     let(v,ae,ai):=R.aa j t e;show{_,ae,k _ H (.refl _)<|R.p4 ai}
    |b9 =>
     let bg:(if hc t then C else J (ie.bC,S.set i<|some (t,a9.aa),n))=J (f,S',n'):=bg;split at bg
     .ext bg
     .rename_i b
      ext bg
      let(v,ae,ai):=R.b9 j t e;show⟨_,ae,k _ H (.refl _)<|R.p4 (let ⟨_,ru⟩:=R.lH;aL.mono (R.ext.cq ru) _ _ (ai.rep<|by simpa using b))⟩
    |jJ=>ext bg
 let(v,ae,ai):=fin;show IK eu hi au (ve bJ bu hd hs) aK hf ah s U H OG I {(v),ae,ai}
theorem Pe{i:Y}{S:bF}{n:Y}{f:ie}{S':bF}{n':Y}{g:T->MB T}(h:(match S[i]? with
  |some (J (t,.aA))=>(g t).map λt'=>(ie.bC,S.set i<|some (t',a9.aA),n)
  |_=>C)=J (f,S',n')):∃t t',S[i]?=J (J (t,a9.aA))/\g t=J t'/\f=.bC/\S'=S.set i (J (t',a9.aA))/\n'=n:=by
 cases e:S[i]? with
 |none=>rw[e]at h;ext h
 |some o =>
  cases o with
  |none=>rw[e]at h;ext h
  |some p =>
   let(t,m):=p;rw[e]at h;cases m with
   |aA =>
    let(t',ae,ai):=dR h;cases ai;show{(t),t',P,ae,P,P,P}
   |_=>ext h
def Ax{n:Y}{n':Y}(e:bB d S n=J (t,m,n')):m=.aa:=by let(_,_,q):=cE e;let(_,_,q):=dR q;cases q;rfl
def mG.other(h:mG L H b t)(cq:eT H<|c3 H a o)(nb:b≠a):mG L (c3 H a o) b t:=by
 induction t using T.casesOn with
 |aj xs=>let(ag,dB,dU):=h;show{ag,by rw[ew nb];show dB,bV.mono cq _ _ dU}
 |a3 av=>let(ag,dB,dU):=h;show{ag,by rw[ew nb];show dB,cU.mono cq _ _ dU}
 |eN ks=>let(ag,dB,dU):=h;show{ag,by rw[ew nb];show dB,dU}
 |_=>show h.elim
def dD.write{K:MS}{B:aM}{S:bF}{n:Y}{U:St}{H:aM}{i:Y}{t t':T}{a:MC}{o:jo}(R:dD K B L S n U H)(e:S[i]?=J (J (t,.aA)))(es:U[i]?=J (J ZM))(h:eT H (c3 H a o)->mG L (c3 H a o) a t') :
  dD K B L (S.set i<|some (t',.aA)) n U (c3 H a o)/\eT H (c3 H a o):=by
 let(gg,aB,dJ,kA):=R.aA i t e;rw[es]at aB;ext aB;let na:=R.yT dJ
 let cq:eT H<|c3 H a o:=λb=>⟨λag q=>by rw[ew<|by rintro rfl;ext t<;>first|(show(show MP from kA).elim)|(let(_,z,_):=kA;rw[q]at z;ext z)];show q,
  λdc u q=>by
   rw[ew<|by rintro rfl;ext t<;>first|(show(show MP from kA).elim)|(let(_,z,_):=kA;rw[q]at z;ext z)];show q⟩
 let uP:i<S.H:=(kY.mp e).1;show{{R.ext.put dJ,by show c3 H a o L=_;rw[ew na.symm];show R.aR,R.lH,by rw[oQ];show R.len,λj t1 q=>?_,λj t1 q=>?_,λj t1 q=>?_,λj t1 q=>?_,λj k t1 dz b aV bb s1 s2=>?_},cq}
 .rcases hU q with⟨_,z,_⟩|⟨ne,q⟩
  .cases z
  .let(v,ae,ai):=R.aa j t1 q;show{v,ae,aL.mono cq _ _ ai}
 .rcases hU q with⟨_,z,_⟩|⟨ne,q⟩
  .cases z
  .show R.b9 j t1 q
 .rcases hU q with⟨rfl,z,_⟩|⟨ne,q⟩
  .ext z;show{a,es,dJ,h cq}
  .let(b,ae,ai,aS):=R.aA j t1 q;show{b,ae,ai,aS.other cq<|by rintro rfl;show ne<|R.pF j i t1 t b q e ae es}
 .rcases hU q with⟨_,z,_⟩|⟨ne,q⟩
  .cases z
  .show R.oq j t1 q
 .let back:∀(l:Y) (t0:T),(S.set i<|some (t',a9.aA))[l]?=J (J (t0,a9.aA))->∃abA,S[l]?=J (J (abA,a9.aA)):=λl t0 z=>by
   rcases hU z with⟨rfl,_,_⟩|⟨_,z⟩
   .show{(t),e}
   .show{(t0),z}
  let(fS,dB):=back j t1 aV;let(gh,dU):=back k dz bb;show R.pF j k fS gh b dB dU s1 s2
def ahK:F9:=λo i v H Q=>UL o i v H Q\/∃a ak,o=.ref a/\BN H a i v ak/\Q ak
def amy(bP:X.A.units+1<fA):Ga X ahK:=by
 intro ah s U H o i v iv h1 u Q I xi sW bh h;rcases h with h|⟨a,ak,rfl,g,q⟩
 .show set_list ah s U H o i v iv h1 u Q I xi sW bh h
 .ext xi
  show aa3 bP I g sW bh λs' eL=>{(ak),eL,q}
theorem cU.length:∀{av:O (Key×T)} {ws:O ZS},cU L H av ws->av.H=ws.H
 |[],_,r=>by rw[cU]at r;rw[r];rfl
 |(k,x)::xs,_,r=>by rw[cU]at r;let(v,w,rfl,p,q):=r;rw[dv,dv,cU.length q]
def x8(a:aL L H x v)(b:cU L H xs ws):cU L H ((k,x)::xs)<|(k,v)::ws:=by rw[cU];show{(v),ws,P,a,b}
theorem cU.at(k:Key):∀{av:O (Key×T)} {ws:O ZS},cU L H av ws->(i0 av k=C/\q4 ws k=C)\/∃t v,i0 av k=J t/\q4 ws k=J v/\aL L H t v
 |[],_,r=>by rw[cU]at r;rw[r];show .inl {(P),P}
 |(g5,x)::xs,_,r=>by
  rw[cU]at r;let(v,w,rfl,p,q):=r;by_cases e:g5=k
  .subst e;show .inr {x,v,by simp[i0,qg],OP P,p}
  .let aB:i0 ((g5,x)::xs) k=i0 xs k:=by simp[i0,qg,e]
   rw[aB,OQ (show ¬ (g5,v).1=k from e)];show cU.at k q
theorem cU.any(k:Key)(r:cU L H av ws):(av.any λdj=>decide (dj.1=k))=(ws.any λdj=>decide (dj.1=k)):=by
 induction av generalizing ws with
 |nil=>rw[cU]at r;rw[r];rfl
 |cons p xs aQ =>
  let(g5,x):=p;rw[cU]at r;let(v,w,rfl,p,q):=r;rw[Cg,Cg,aQ q]
def cU.put(k:Key)(au:aL L H x v)(r:cU L H av ws):cU L H (jF av k x)<|i6 ws k v:=by
 delta jF i6;rw[<-r.any k];let mapped:∀{av:O (Key×T)} {ws:O ZS},cU L H av ws->cU L H (av.map λdj=>if dj.1=k then(dj.1,x) else dj) (ws.map λdj=>if dj.1=k then(dj.1,v) else dj):=by
  intro av
  induction av with
  |nil=>intro ws r;rw[cU]at r;rw[r];rw[m1,m1,cU]
  |cons p xs aQ =>
   intro ws r;let(g5,y):=p;rw[cU]at r;let(f5,w,rfl,p,q):=r;rw[cj,cj];by_cases e:g5=k
   .rw[Y2 e,Y2 e];show x8 au<|aQ q
   .rw[Y3 e,Y3 e];show x8 p<|aQ q
 let snoc:∀{av:O (Key×T)} {ws:O ZS},cU L H av ws->cU L H (av++[(k,x)]) (ws++[(k,v)]):=by
  intro av
  induction av with
  |nil=>intro ws r;rw[cU]at r;rw[r];show x8 au (by rw[cU])
  |cons p xs aQ =>
   intro ws r;let(g5,y):=p;rw[cU]at r;let(f5,w,rfl,p,q):=r;show x8 p<|aQ q
 split
 .show mapped r
 .show snoc r
def Jn{H:aM}{t:T}{k:Key}{v:V}{K:MS}(h:kq t=J k)(r:eQ K L H t v):v=eV k:=by
 induction t using T.casesOn with
 |int i=>ext h;let r:aL L H (.int i) v:=r;rw[aL]at r;show r
 |str x=>ext h;let r:aL L H (.str x) v:=r;rw[aL]at r;show r
 |_=>ext h
def ajg{n:Y}{i:D}(h0:0<=i)(ae:i<n):tu n i=J i.M:=by delta tu;rw[Y2 h0,Y2 ae]
def amz(i:Y){x:ME}{ig e:MG}{zE d:bS}{pos pos' e7:MK}(bP:X.A.units+1<fA)(bu:bM X L e d)(aW:bM X L ig zE)(eu:MD (X.N[i]?=J x) rc)(wB:MD (qF X.I.h x) az7._auto_1)(hd:MD ZF eY)
  (hs:MD ((x==("__classdict__" : ME))=Y1) eY)
  (bl:MD (∀v,mw (.Subscript (.Name x e7) ig pos') X.I v=(do
   let iv<-m6 [v] (MO (.Name x e7) X.I)
   let h1<-m6 [v,iv] (MO ig X.I)
   standAt pos'
   m6 [v,iv,h1] (setItem iv h1 v)
   release [v,iv,h1] [])) rn)
  (aK:MD (HM [.Subscript (.Name x e7) ig pos'] e pos.line X.I=pure Y1) rc) (hw:MD (HN [.Subscript (.Name x e7) ig pos'] e X.I=pure C) rc)
  (ae:MD ((mu [.Subscript (.Name x e7) ig pos'] X.I).map (·.2)=[mw (.Subscript (.Name x e7) ig pos') X.I]) rc):hG X L (.Assign [.Subscript (.Name x e7) ig pos'] e pos)<|j0 i me zE d:=by
 intro B S n f S' n' bg ah s U H OG I ⟨R,k⟩;let((iU,zF,aY),aB,ax):=cE bg;let((bz,mk,ck),bq,cC):=cE ax;obtain rfl:=Ax aB;let(t,t',hH,eU,rfl,rfl,rfl):=Pe (g:=λt=>me t bz iU) cC;let(a,es,dJ,_):=R.aA i t hH;show qbk ((vv bu) B S n iU .aa aY aB) (qbj (ve eu wB hd hs) (aW B S aY bz mk _ bq) (amy bP) bl) aK hw ae ah s U H OG I {R,λv H1 bE dZ dB=>?_};let bN:=R.mono bE dZ;show{.ref a,es,bN,λdj b5 bR jT dU=>?_};let dF:=bN.mono bR jT;let rk:=dU.root dF bN.aR;let bh:aL L b5 iU v:=aL.mono (bR.cq bN.aR) _ _ dB;let(gg,iK,_,kA):=dF.aA i t hH;rw[es]at iK;ext iK;let mH:eT H b5:=(bE.trans bR).cq R.aR
 induction t using T.casesOn with
 |aj xs =>
  let(ag,ae,ai):=kA
  induction bz using T.casesOn with
  |int j =>
   let eU:(if 0<=j/\j<xs.H then J (T.aj<|xs.set j.M iU) else C)=J t':=eU;split at eU
   .rename_i bJ
    ext eU
    let rk:aL L b5 (.int j) dj:=rk;rw[aL]at rk;subst rk;let az:=ai.H;show .inl {a,ag,j,j.M,P,P,ae,ajg bJ.1 (by rw[<-az];show bJ.2),?_};let(W,cq):=dF.write (t':=.aj<|xs.set j.M iU) (o:=.aj<|ag.set j.M v) hH es λcq=>{_,fH,bV.set (aL.mono cq _ _ bh) _<|bV.mono cq _ _ ai}
    show k U _ (mH.trans cq) W
   .ext eU
  |_=>ext eU
 |a3 av =>
  let(ws,ae,ai):=kA;let eU:(kq bz).bind (λk=>if av.H<bp then J (T.a3<|jF av k iU) else C)=J t':=eU;let(e0,aV,bb):=cE eU;split at bb
  .rename_i ao
   ext bb
   let:=Jn aV rk;subst this;show .inr {a,_,P,BN.k ae (by rw[<-cU.length ai];show D4 ao),?_};let(W,cq):=dF.write (t':=.a3<|jF av e0 iU) (o:=.aH<|i6 ws e0 v) hH es λcq=>{_,fH,cU.put e0 (aL.mono cq _ _ bh)<|cU.mono cq _ _ ai}
   show k U _ (mH.trans cq) W
  .ext bb
 |eN ks=>ext eU
 |_=>show(show MP from kA).elim
section
open PySem.AutoSeq1
def akV(l:MC)(Wf:MH ay)(n:Y)(b:MC)(yU:MH ay)(ck:Y)(c:M8)(aI:c = "list" \/ c = "tuple")(o7:MB MC)(cW:MH<|MB ay)(aoF:¬(!Wf.isEmpty&&OC (Wf.O+yU.O))=Y0)(Ea:Wf.O<=dq)(kl:Wf.O+yU.O<=dq+1) :
  Meets (Builtin.«list.extend» {[.ref l,.ref b],[]}) (λ_ R s=>s.heap.get? l=J { cls:=.type "list",dict:=C,data:=.seq Wf n,slots:=#[]}/\s.heap.get? b=J { cls:=.type c,dict:=o7,data:=.seq yU ck,slots:=cW}/\R (.ok<|.ret M9) { s with heap:=s.heap.update l (Ng λx=>x++yU),toks:=s.toks}):=by
 rcases aI with rfl|rfl
 .show .of_wp λprog w A R s h=>by
   let(aC,g,d,bz,os):=s;let(az,ao,h):=h;let f1:=idx_int;let f2:=PySem.AutoSeq1.sub_tuple_tuple;let et:=PySem.AutoSeq1.sub_list_list;let f4:=PySem.AutoSeq1.sub_tuple_list;let hF:=PySem.AutoSeq1.sub_list_tuple;
   let qO:(Wf++yU).O<=dq+1:=by rw[qa2];show kl
   wp_walk using (CF az P (hz:=Ea) (_hz':=qO)),CG az,CG ao;show{_,P,h}
 .show .of_wp λprog w A R s h=>by
   let(aC,g,d,bz,os):=s;let(az,ao,h):=h;let f1:=idx_int;let f2:=PySem.AutoSeq1.sub_tuple_tuple;let et:=PySem.AutoSeq1.sub_list_list;let f4:=PySem.AutoSeq1.sub_tuple_list;let hF:=PySem.AutoSeq1.sub_list_tuple;
   let qO:(Wf++yU).O<=dq+1:=by rw[qa2];show kl
   wp_walk using (CF az P (hz:=Ea) (_hz':=qO)),CG az,CG ao;show{_,P,h}
end
def Ur(K:MS):V->O V->aM->fC->Prop:=λx ag H Q=>∃l b xs zs,x=.ref l/\ag=[.ref b]/\H l=J (.aj xs)/\(ht K H b zs\/e9 K H b zs)/\xs.H+zs.H<=dq/\Q .b0 (c3 H l<|.aj<|xs++zs)
def ajh:ON X "list.extend"<|Ur X.K:=by
 intro ah s U H x ag v us Q I de bh h;let(l,b,xs,zs,rfl,rfl,rq,dJ,hz,q):=h
 ext de
 let(u,rfl,fa):=bh.one
 ext fa
 let(z,aZ,n,r,az,e):=I.Uo rq;let key:∀(i8:O ay),cR zs i8->(∃(o:MT) (c:M8) (ck:Y),s.heap.get? b=J o/\(c = "list" \/ c = "tuple")/\o.cls=.type c/\o.Y=.seq i8.D ck) ->
   bj Z4 X.A (call (.builtin "list.extend") [.ref l,.ref b]) (gs X ah U Q) X.cL s:=λi8 cn aX=>by
  let aoG:=cn.H;let hsz:aZ.D.O+i8.D.O<=dq:=by rw[fo,fo];lia
  let ahL:¬ (!aZ.D.isEmpty&&OC (aZ.D.O+i8.D.O))=Y0:=by rw[amr hsz,Cy];show nV
  let((cl,o7,aog,cW),c,ck,ax,aI,rfl,rfl):=aX;show qm F.slot_list_extend {_,e,P} F.entry_list_extend (F.args_list_extend_2 _ _) (akV l aZ.D n b i8.D ck c aI o7 cW ahL (by rw[fo];show lQ hsz)<|rf hsz) {e,ax,?_};show{.b0,_,I.Um (its':=aZ++i8) rq e Z5 (r.append cn) (by rw[gm];show hz),P,q}
 rcases dJ with dJ|dJ
 .let(i8,cn,(o,ck,ax,d9,_,iV),_):=I.list dJ;show key i8 cn {o,"list",ck,ax,.inl P,d9,iV}
 .let(i8,cn,(o,ax,d9,ck,iV),_):=I.tuple dJ;show key i8 cn {o,"tuple",ck,ax,.inr P,d9,iV}
def Vx(i:Y){x:ME}{e:MG}{d:bS}{pos e7 apos d3:MK}(bu:bM X L e d)(eu:MD (X.N[i]?=J x) rc)(wB:MD (qF X.I.h x) az7._auto_1)(hd:MD ZF eY)
  (hs:MD ((x==("__classdict__" : ME))=Y1) eY) (nL:MD (rj (.Name x e7) "extend" X.env (MO (.Name x e7) X.I)=MO (.Name x e7) X.I) rc)
  (L3:MD (((gM d3<|cA [e] X.I).all (λx=>!x.1)&&(backToKw d3<|CN [] X.I).all (λx=>x.1.isSome)
   && decide (([e]:O MG).H+([]:O sS).H+(if([]:O sS).isEmpty then 0 else 1)<30))=Y0) rc)
  (nM:MD ((apos.endLine==d3.line)=Y0) rc) (aK:MD (cA [e] X.I=ZO::cA [] X.I) rc) (Mt:MD ((gM d3<|cA [] X.I).any (·.1)=Y1) rc) :
  hG X L (.Expr (.Call (.Attribute (.Name x e7) "extend" apos) [e] [] d3) pos) (hN i hj d):=by
 intro B S n f S' n' bg ah s U H OG I ⟨R,k⟩;let((iU,zF,aY),aB,ax):=cE bg;obtain rfl:=Ax aB;let(t,t',hH,eU,rfl,rfl,rfl):=Pe ax;let(a,es,dJ,kA):=R.aA i t hH;let fD:uO X L [e]<|af (bB d) aw:=ot bu x7 aK;let bq:af (bB d) aw S n=J ([iU],n'):=by delta af;rw[aB];rfl
 show DG (UM PySem.F.plainAttrs_list PySem.F.slot_list_extend PySem.F.type_list_extend ajh (ve eu wB hd hs) (fD B S n [iU] _ bq) nL L3 nM aK Mt) (by rfl) ah s U H OG I ?_
 induction t using T.casesOn with
 |aj xs =>
  let(ag,ae,ai):=kA;show{.ref a,es,.inl {P,ag,ht.of ae},R,λws H1 bE dZ dB=>?_};let bN:=R.mono bE dZ;let(v,w,rfl,bh,oc):=hT dB;obtain rfl:=j2 oc;let ny:=bE.to a _ ae<|R.yT dJ;let qP:=bV.mono (bE.cq R.aR) _ _ ai;let fin:∀(aO:O T) (b:MC) (ws:O V),v=.ref b->bV L H1 aO ws->(ht X.K H1 b ws\/e9 X.K H1 b ws)->(if xs.H+aO.H<=bp then J (T.aj<|xs++aO) else C)=J t'->Ur X.K ZM [v] H1 (λ_ b5=>OG.bC U b5):=λaO b ws ev rws gX eU=>by
   split at eU
   .rename_i ao
    ext eU
    subst ev;show{a,b,ag,ws,P,P,ny,gX,by rw[<-ai.H,<-rws.H];show rV ao,?_};let(W,cq):=bN.write (t':=.aj<|xs++aO) (o:=.aj<|ag++ws) hH es λcq=>{_,fH,(bV.mono cq _ _ qP).append (bV.mono cq _ _ rws)}
    show k U _ ((bE.cq R.aR).trans cq) W
   .ext eU
  induction iU using T.casesOn with
  |aj aO =>
   rw[aL]at bh;let(b,o,ws,ev,ao,rws):=bh;show fin aO b ws ev rws (.inl<|.inl<|.inr {(o),ao}) eU
  |aF aO =>
   rw[aL]at bh;let(b,ws,ev,ao,rws):=bh;show fin aO b ws ev rws (.inr<|e9.of ao) eU
  |_=>ext eU
 |_=>ext eU
def akW(i:Y){x:ME}{j:Y}{pos e7 apos d3 pc:MK}(eu:MD (X.N[i]?=J x) rc)(wB:MD (qF X.I.h x) az7._auto_1)(hd:MD ZF eY)
  (hs:MD ((x==("__classdict__" : ME))=Y1) eY) (nL:MD (rj (.Name x e7) "append" X.env (MO (.Name x e7) X.I)=MO (.Name x e7) X.I) rc)
  (nM:MD ((apos.endLine==d3.line)=Y0) rc) :
  hG X L (.Expr (.Call (.Attribute (.Name x e7) "append" apos) [.Constant (.int 0) j pc] [] d3) pos) (DQ i):=by
 intro B S n f S' n' bg ah s U H OG I ⟨R,k⟩;have⟨m,hH,ao,H0,zG,uQ⟩:∃m,S[i]?=J (J (T.fE,m))/\n<bp/\f=.bC/\S'=S/\n'=n+1:=by
  delta DQ at bg;cases e:S[i]? with
  |none=>rw[e]at bg;ext bg
  |some o =>
   cases o with
   |none=>rw[e]at bg;ext bg
   |some p =>
    let(t,m):=p;rw[e]at bg
    induction t using T.casesOn with
    |fE =>
     let bg:(if n<bp then J (ie.bC,S,n+1) else C)=J (f,S',n'):=bg;split at bg
     .rename_i ao;ext bg;show{(m),P,ao,P,P,P}
     .ext bg
    |_=>ext bg
 subst H0 zG uQ;let es:U[i]?=J (J<|.ref L):=by
  cases m with
  |aa=>let(v,ae,ai):=R.aa i _ hH;rw[aL]at ai;rw[ae,ai]
  |b9=>let(v,ae,ai):=R.b9 i _ hH;let ai:aL L B .fE v:=ai;rw[aL]at ai;rw[ae,ai]
  |aA=>let(a,ae,ai,aS):=R.aA i _ hH;show(show MP from aS).elim
  |jJ=>show MI hH<|R.oq i _
 show DG (UM PySem.F.plainAttrs_list PySem.F.slot_list_append PySem.F.type_list_append OO (ve eu wB hd hs) (akB IG Ae) nL (by rfl) nM (by rfl)<|by rfl) (by rfl) ah s U H OG I ?_;let aR:=R.aR;delta dt at aR;show{.ref L,es,.inl {P,_,ht.of aR},L,_,.int 0,P,P,aR,by rw[mX];show D4 ao,?_};let aB:ML n (V.int 0)++[V.int 0]=ML (n+1) (V.int 0):=by rw[qav]
 rw[aB];let cq:eT H<|c3 H L<|.aj<|ML (n+1)<|V.int 0:=λb=>{λag q=>by rw[ew<|R.aR.GK q];show q,λ_ _ q=>by rw[ew<|R.aR.BX q];show q}
 show k U _ cq<|R.mono ⟨λb u q nb=>by rw[ew nb];show q⟩ ?_;show fH
def Vy(i:Y){st:MM}{d:br}(h:hG X L st d):hG X L st<|eA i d:=by
 intro B S n f S' n' bg ah s U H OG I ⟨R,k⟩;delta eA at bg;cases e:S[i]? with
 |none=>rw[e]at bg;show h B S n f S' n' bg ah s U H OG I {(R),k}
 |some o =>
  cases o with
  |none=>rw[e]at bg;show h B S n f S' n' bg ah s U H OG I {(R),k}
  |some p =>
   let(t,m):=p;rw[e]at bg;cases m with
   |aA =>
    let bg:d (S.set i<|some (t,a9.aa)) n=J (f,S',n'):=bg;let(a,es,dJ,kA):=R.aA i t e;let na:=R.yT dJ;let go:∀u,H a=J u->((∃xs,u=.aj xs)\/(∃av,u=.aH av)\/∃ks,u=.iu ks)->(∀o,aL L (c3 H a<|.eI o u) t ZM)->bj Z4 X.A (exec st X.I) (oY X ah OG) X.cL s:=λu bP Pf a4=>by
     let(o,di):=I.freeze bP Pf;let cq:eT H<|c3 H a<|.eI o u:=eT.eI bP Pf;show h B _ n f S' n' bg ah s U _ OG di ⟨?_,k.cq cq⟩;show⟨R.ext.put dJ,by show c3 H a _ L=_;rw[ew na.symm];show R.aR,R.lH,by rw[oQ];show R.len,λj t1 q=>?_,λj t1 q=>?_,λj t1 q=>?_,λj t1 q=>?_,λj k t1 dz b aV bb s1 s2=>?_⟩
     .rcases hU q with⟨rfl,z,_⟩|⟨ne,q⟩
      .ext z;show{_,es,a4 o}
      .let(v,ae,ai):=R.aa j t1 q;show{v,ae,aL.mono cq _ _ ai}
     .rcases hU q with⟨_,z,_⟩|⟨ne,q⟩
      .cases z
      .show R.b9 j t1 q
     .rcases hU q with⟨rfl,z,_⟩|⟨ne,q⟩
      .cases z
      .let(b,ae,ai,aS):=R.aA j t1 q;show{b,ae,ai,aS.other cq<|by rintro rfl;show ne<|R.pF j i t1 t b q e ae es}
     .rcases hU q with⟨_,z,_⟩|⟨ne,q⟩
      .cases z
      .show R.oq j t1 q
     .rcases hU aV with⟨_,z,_⟩|⟨_,aV⟩
      .cases z
      .rcases hU bb with⟨_,z,_⟩|⟨_,bb⟩
       .cases z
       .show R.pF j k t1 dz b aV bb s1 s2
    induction t using T.casesOn with
    |aj xs =>
     let(ag,ae,ai):=kA;show go _ ae (.inl {(ag),P}) λo=>by rw[aL];show{a,o,ag,P,fH,bV.mono (eT.eI ae<|.inl {(ag),P}) _ _ ai}
    |a3 av =>
     let(ag,ae,ai):=kA;show go _ ae (.inr<|.inl ⟨ag,P⟩) λo=>by rw[aL];show{a,o,ag,P,fH,cU.mono (eT.eI ae<|.inr<|.inl {(ag),P}) _ _ ai}
    |eN ks =>
     let(ag,ae,ai):=kA;show go _ ae (.inr<|.inr ⟨ag,P⟩) λo=>by rw[aL];show{(a),o,ag,P,fH,ai}
    |_=>show(show MP from kA).elim
   |aa=>show h B S n f S' n' bg ah s U H OG I {(R),k}
   |b9=>show h B S n f S' n' bg ah s U H OG I {(R),k}
   |jJ=>show h B S n f S' n' bg ah s U H OG I {(R),k}
end
section
variable {X:bK}{L:MC}{dr:MG}
def q5(L:MC)(c0:k9)(H:aM)(aE:O T):Prop:=∀(i:Y),
 (∀t,aE[i]?=J t->c0.go i H/\∀x b5,c0.DJ i H x b5->dC L H b5/\(∀n,dt L n H->dt L n b5)/\aL L b5 t x)/\(aE.H<=i->c0.stop i H)
def rW(X:bK)(L:MC)(dr iter:MG)(d:iH):Prop:=∀B S n aE n',d S n=J (aE,n')->o1 X dr iter (λU H R=>dD X.K B L S n U H /\
 ∀c0 ak,dC L H ak->dt L n' ak->(∀eK qQ,dt L qQ eK->dC L ak eK->q5 L c0 eK aE)->R c0 ak)
def Ay(X:bK)(L:MC)(dr iter:MG)(d:iH):Prop:=∀B S n aE n',d S n=J (aE,n')->o1 X dr iter (λU H R=>dD X.K B L S n U H /\
 ∀c0 ak,dC L H ak->dt L n' ak->(∀eK qQ,dt L qQ eK->eT ak eK->dC L B eK->q5 L c0 eK aE)->R c0 ak)
def Eb{ah:O Z2}{U:St}{H:aM}{s:aN}{a:MC}{ag:O V}{R:k9->aM->Prop}(I:aT X ah U H s)(bc:ht X.K H a ag)(q:R (IM X.K a) H):bj Z4 X.A (k6 ZM) (tq X ah U dr R) X.cL s:=by
 let(aZ,bh,p,hz):=I.list bc;show CD p.isList ?_;show{s.L,[s.L],_,_,H,P,I.kept (t':=s.toks) λb o e=>ec _ e,aaF a _,{_,fZ _ P,P,P},λb ao=>?_,q};let e:b=s.L:=by simpa using ao
 subst e;show I.yK (b8 _)<|I.bX.fresh<|b8 _
def aji{ah:O Z2}{U:St}{H:aM}{s:aN}{a:MC}{ag:O V}{R:k9->aM->Prop}(I:aT X ah U H s)(bc:e9 X.K H a ag)(q:R (IP X.K a) H):bj Z4 X.A (k6 ZM) (tq X ah U dr R) X.cL s:=by
 let(aZ,bh,p,hz):=I.tuple bc;show Hz (show s.heap.IsTuple a aZ.D from p) ?_;show{s.L,[s.L],_,_,H,P,I.kept (t':=s.toks) λb o e=>ec _ e,aaG a _,{_,fZ _ P,P,P},λb ao=>?_,q};let e:b=s.L:=by simpa using ao
 subst e;show I.yK (b8 _)<|I.bX.fresh<|b8 _
noncomputable def Jo(a:MC)(o:MT)(ws:O ZS):k9 :=
 {λi H=>H a=J (.eI o<|.aH ws)/\i<ws.H,λi H x ak=>ak=H/\∃k v,ws[i]?=J (k,v)/\x=eV k,λi H=>H a=J (.eI o<|.aH ws)/\ws.H<=i}
def Jp{ep:Y}(bX:f7 V8 w H h)(e:H a=J (.eI o<|.aH ws))(hd:o.Y=.dict es ep) :
  ∃ag,fx ws ag/\h.DictAt (hr V8 w) a ag ep/\(a==m5)=Y1:=by
 let(ae,_,aS,ag,dp,dc,iK,tn,aV,bb,c1,gn):=(show gy V8 w H h a (.eI o<|.aH ws) from bX a _ e)
 rw[ae]at aV;ext aV;rw[hd]at c1;ext c1;show{ag,dp,{(o),es,ae,bb,hd,gn},aS}
def Jq(r:fx ws ag):∀{i:Y} {k:Key} {v:V},ws[i]?=J (k,v)->∃u,ag[i]?=J (k,u):=by
 delta fx at r
 induction r with
 |nil=>intro i k v e;simp at e
 |@cons p q ps uK h t aQ =>
  intro i k v e;cases i with
  |zero =>
   simp at e;subst e;show{q.2,?_};let:k=q.1:=h.1;rw[this];rfl
  |succ i=>let(u,bP):=aQ (i:=i) (k:=k) (v:=v) (by simpa using e);show{u,by simpa using bP}
def Jr(h:(hr V8 w).is k u=Y0):cQ (eV k) u:=by
 rcases qE (show vc k u=Y0 from h) with⟨i,t,rfl,rfl⟩|⟨x,t,rfl,rfl⟩
 .show{(t),P}
 .show{(t),P}
def abB{V8:dn}{w:cV}{K:MS}{dr:MG}(a it:MC)(o:MT)(ws:O ZS)(es:MH DictEntry)(ep:Y)(hd:o.Y=.dict es ep):Turn V8 w K dr (Jo a o ws) [it] it (λi h=>h.IsKeyIter it a i ws.H ep) where
 mem:=by simp
 obj:=λi h st b ao=>by
  let e:b=it:=by simpa using ao
  subst e;let(o,e,c,d):=st;show⟨o,e,λv z=>by rw[d]at z;ext z⟩
 keep:=λi h h' st k=>st.at λo e=>k it Z5 o e
 item:=by
  intro X eS hw iG aI i ah s U H E I hf st bL;subst eS hw iG;let(bc,au):=bL;let(ag,bh,dd,_):=Jp I.bX bc hd;let az:ws.H=ag.H:=Nj bh;obtain⟨k,v,aW⟩:∃k v,ws[i]?=J (k,v):={ws[i].1,ws[i].2,by simp[au]}
  let(u,bP):=Jq bh aW;let(f0,f1,f2,et,f4,hF):=hf it Z5;rw[az]at st;show wpAny_pyNext_dict_item st dd bP λkey h' md dh c2=>?_;let bt:aT X ah U H { s with heap:=h'}:=I.turned (t':=s.toks) (λb o ao e=>(c2.2 b ao).trans e) f0 f1 et f4 hF;let(dc,e,c,d):=id dh;show{key,P,Gv (s:={ s with heap:=h'}) e c d Z1 ⟨eV k,H,bt,Jr md,⟨rfl,k,v,aW,rfl⟩,by rw[az];show dh,λb ao=>(hf b ao).1⟩}
 done:=by intro X eS hw iG aI i ah s U H E I hf st bL;subst eS hw iG;let(bc,au):=bL;let(ag,bh,dd,_):=Jp I.bX bc hd;let az:ws.H=ag.H:=Nj bh;let(f0,f1,f2,et,f4,hF):=hf it Z5;rw[az]at st;show wpAny_pyNext_dict_end (I.ok.hd aI) st dd (GX<|bw (dy az.symm) au) λh' iT=>{P,I.turned (t':=s.toks) (λb o ao e=>iT b o ao e) f0 f1 et f4 hF}
 self:=λ_ _ _ _ _ st h=>wpAny_pyIter_keyiter st h
def akX{ah:O Z2}{U:St}{H:aM}{s:aN}{a:MC}{o:MT}{ws:O ZS}{R:k9->aM->Prop}(I:aT X ah U H s)(bc:H a=J (.eI o<|.aH ws))(q:R (Jo a o ws) H):bj Z4 X.A (k6 ZM) (tq X ah U dr R) X.cL s:=by
 let(ae,_,aS,ag,dp,dc,es,ep,aV,bb,c1,gn):=(show gy X.R X.w H s.Q a (.eI o<|.aH ws) from I.bX a _ bc)
 rw[ae]at aV;ext aV;let(ag,bh,dd,_):=Jp I.bX bc c1;let az:ws.H=ag.H:=Nj bh;show wpAny_pyIter_dict aS dd ?_;show{s.L,[s.L],_,_,H,P,I.kept (t':=s.toks) λb o e=>ec _ e,abB a _ o ws es ep c1,{_,fZ _ P,P,by rw[az];rfl},λb ao=>?_,q};let e:b=s.L:=by simpa using ao
 subst e;show I.yK (b8 _)<|I.bX.fresh<|b8 _
def Ec{K:MS}{H:aM}{a:MC}{ag:O V}{xs:O T}(aK:ht K H a ag)(r:bV L H xs ag):q5 L (IM K a) H xs:=λi=>by show{λt e=>?_,λaz=>{ag,aK,by rw[<-r.H];show az}};let(v,ae,ai):=r.get e;show{{(ag),v,aK,ae},λx b5 y=>?_};let(rfl,y):=y;let:=y ag aK;rw[ae]at this;ext this;show{.refl _ _,λ_ z=>z,ai}
def ajj{K:MS}{H:aM}{a:MC}{ag:O V}{xs:O T}(aK:e9 K H a ag)(r:bV L H xs ag):q5 L (IP K a) H xs:=λi=>by show{λt e=>?_,λaz=>{ag,aK,by rw[<-r.H];show az}};let(v,ae,ai):=r.get e;show{{(ag),v,aK,ae},λx b5 y=>?_};let(rfl,y):=y;let:=y ag aK;rw[ae]at this;ext this;show{.refl _ _,λ_ z=>z,ai}
theorem Ed:∀{av:O (Key×T)} {ws:O ZS} {i:Y} {k:Key} {t:T},cU L H av ws->av[i]?=J (k,t)->∃v,ws[i]?=J (k,v)/\aL L H t v
 |[],_,_,_,_,_,e=>by simp at e
 |(g5,x)::xs,_,0,k,t,r,e=>by rw[cU]at r;let(v,w,rfl,p,q):=r;simp at e;let(rfl,rfl):=e;show{(v),P,p}
 |(g5,x)::xs,_,i+1,k,t,r,e=>by rw[cU]at r;let(v,w,rfl,p,q):=r;let(u,ae,ai):=Ed (i:=i) (k:=k) (t:=t) q (by simpa using e);show{u,by simpa using ae,ai}
def Js(k:Key):aL L H (jg k)<|eV k:=by
 cases k with
 |inl i=>show aL L H (.int i) (.int i);rw[aL]
 |inr x=>show aL L H (.str x) (.str x);rw[aL]
def akY(aK:H a=J (.eI o<|.aH ws))(r:cU L H av ws):q5 L (Jo a o ws) H (av.map λdj=>jg dj.1):=λi=>by
 let az:=cU.length r;show{λt e=>?_,λh=>{aK,by rw[<-az];simpa using h}};rw[hO]at e;cases q:av[i]? with
 |none=>rw[q]at e;ext e
 |some p =>
  let(k,t'):=p;rw[q]at e;let e:jg k=t:=MV e;subst e;let(v,ae,ai):=Ed r q;show{{aK,(kY.mp ae).1},λx b5 y=>?_};let(rfl,k2,v2,dZ,rfl):=y;rw[ae]at dZ;ext dZ;show{.refl _ _,λ_ z=>z,Js k}
def Pg(lo:D)(m:Y):q5 L (z9 lo m) H ((M0 m).map λ(k:Y)=>T.int<|lo+k):=λi=>by
 show{λt e=>?_,λh=>by show m<=i;simpa using h};rw[hO]at e;cases q:(M0 m)[i]? with
 |none=>rw[q]at e;ext e
 |some j =>
  rw[q]at e;let e:T.int (lo+j)=t:=MV e;subst e;let(hi,bJ):=kY.mp q;rw[List.getElem_range]at bJ;subst bJ;rw[ue]at hi;show{hi,λx b5 y=>?_};let(rfl,rfl):=y;show{.refl _ _,λ_ z=>z,by rw[aL]}
def Ph{ah:O Z2}{U:St}{H:aM}{s:aN}{t:T}{m:a9}{xs:O T}{v:V}{u:ay}{R:k9->aM->Prop}(I:aT X ah U H s)(bh:cQ v u)(r:aL L H t v)(h:Mz t m=J xs)
  (k:∀c0,(∀eK,eT H eK->q5 L c0 eK xs)->R c0 H):bj Z4 X.A (k6 u) (tq X ah U dr R) X.cL s:=by
 induction t using T.casesOn with
 |aj aO =>
  ext h
  rw[aL]at r;let(a,o,ag,rfl,e,q):=r
  ext bh
  show Eb I (.inl<|.inr ⟨o,e⟩) (k _ λeK cq=>Ec (.inl<|.inr {o,(cq a).2 _ _ e})<|bV.mono cq _ _ q)
 |aF aO =>
  ext h
  rw[aL]at r;let(a,ag,rfl,e,q):=r
  ext bh
  show aji I (e9.of e) (k _ λeK cq=>ajj (e9.of<|(cq a).1 _ e)<|bV.mono cq _ _ q)
 |a3 av =>
  rw[aL]at r;let(a,o,ws,rfl,e,q):=r
  ext bh
  let ax:xs=av.map λdj=>jg dj.1:=by ext m<;>first|(ext h;rfl)|ext h
  subst ax;show akX I e (k _ λeK cq=>akY ((cq a).2 _ _ e)<|cU.mono cq _ _ q)
 |_=>ext h
def agX{e:MG}{d:bS}(h:bM X L e d):rW X L dr e<|fU d:=by
 intro B S n aE n' hd ah s U H R I ⟨kg,k⟩;let((t,m,aY),aB,ax):=cE hd;let(xs,bq,cC):=dR ax
 ext cC
 let pH:wA d S n=J (t,D5 m,aY):=by delta wA;rw[aB];rfl
 show cm ((Jm h).run pH I kg) λu s1 ⟨v,H1,bt,bx,a1,bN,cb⟩=>?_;let ba:=cb.root bN kg.aR;let t8:aL L H1 t v->bj Z4 X.A (k6 u) (tq X ah U dr R) X.cL s1:=λkB =>
  Ph bt bx kB bq λc0 H2=>k c0 H1 a1 bN.aR λeK qQ Ee ext=>H2 eK<|ext.cq bN.aR
 cases m with
 |aA=>show t8 cb
 |aa=>show t8 cb
 |b9 =>
  induction t using T.casesOn with
  |aj aO =>
   ext bq
   let(a,ag,rfl,e,q):=ba
   ext bx
   show Eb bt e.gX (k _ H1 a1 bN.aR λeK qQ Ee ext=>Ec (e.ext ext).gX (bV.mono (ext.cq bN.aR) _ _ q))
  |aF aO=>show t8 ba
  |_=>ext bq
 |jJ =>
  induction t using T.casesOn with
  |aj aO =>
   ext bq
   let(a,ag,rfl,e,q):=ba
   ext bx
   show Eb bt e.gX (k _ H1 a1 bN.aR λeK qQ Ee ext=>Ec (e.ext ext).gX (bV.mono (ext.cq bN.aR) _ _ q))
  |aF aO=>show t8 ba
  |_=>ext bq
def agY{e:MG}{d:bS}(h:bM X L e d):Ay X L dr e<|e2 d:=by
 intro B S n aE n' hd ah s U H R I ⟨kg,k⟩;let((t,m,aY),aB,ax):=cE hd;let pH:wA d S n=J (t,D5 m,aY):=by delta wA;rw[aB];rfl
 show cm ((Jm h).run pH I kg) λu s1 ⟨v,H1,bt,bx,a1,bN,cb⟩=>?_;let ba:=cb.root bN kg.aR;let t8:∀xs,Mz t m=J xs->(xs,aY)=(aE,n')->aL L H1 t v->bj Z4 X.A (k6 u) (tq X ah U dr R) X.cL s1:=λxs bq cC kB=>by
  ext cC
  show Ph bt bx kB bq λc0 H2=>k c0 H1 a1 bN.aR λeK qQ Ee cq _=>H2 eK cq
 cases m with
 |aA=>let(xs,bq,cC):=dR ax;show t8 xs bq cC cb
 |aa=>let(xs,bq,cC):=dR ax;show t8 xs bq cC cb
 |b9 =>
  let(xs,bq,cC):=dR ax
  induction t using T.casesOn with
  |aj aO =>
   ext bq
   ext cC
   let cb:eQ X.K L B (.aj _) v:=cb;let(n0,ru):=kg.lH;let(a,ag,rfl,e,q):=cb
   ext bx
   show Eb bt (e.ext bN.ext).gX (k _ H1 a1 bN.aR λeK qQ Ee cq ext=>Ec (e.ext ext).gX (bV.mono (ext.cq ru) _ _ q))
  |aF aO=>show t8 xs bq cC ba
  |_=>ext bq
 |jJ=>ext ax
def rX(X:bK)(L:MC)(dr iter:MG)(d:iH):Prop:=∀B S n aE n',d S n=J (aE,n')->o1 X dr iter (λU H R=>dD X.K B L S n U H/\∀c0 ak,dC L H ak->dt L n' ak->(∀eK,q5 L c0 eK aE)->R c0 ak)
theorem rX.c{iter:MG}{d:iH}(h:rX X L dr iter d):rW X L dr iter d:=λB S n aE n' hd ah s U H R I ⟨kg,k⟩=>h B S n aE n' hd ah s U H R I {kg,λc0 ak a b c=>k c0 ak a b λeK _ _ _=>c eK}
theorem rX.s{iter:MG}{d:iH}(h:rX X L dr iter d):Ay X L dr iter d:=λB S n aE n' hd ah s U H R I ⟨kg,k⟩=>h B S n aE n' hd ah s U H R I {kg,λc0 ak a b c=>k c0 ak a b λeK _ _ _ _=>c eK}
def i1{K:MS}{H:aM}{i:D}{v:V}(r:eQ K L H (.int i) v):v=.int i:=by let r:aL L H (.int i) v:=r;rw[aL]at r;show r
def akZ{pos p:MK}{a:MG}{dT:ho}(bl:pd X L [a] dT)(hm:X.bf "range" = C)(bL:MD (fP X "range") rc)(aK:MD (cA [a] X.I=[(Y1,MO a X.I)]) rc):rX X L dr (.Call (.Name "range" p) [a] [] pos)<|l2 dT:=by
 intro B S n aE n' hd ah s U H R I ⟨kg,k⟩;let((nx,aY),aB,ax):=cE hd;show aaI bL hm (bl B S n nx aY aB) aK ah s U H R I {kg,λag ak x y z=>?_};cases z with
 |nil=>ext ax
 |@cons t v aoT mI dB dU =>
  cases dU with
  |nil =>
   induction t using T.casesOn with
   |int j =>
    let ax:(if-bp<=j/\j<=bp then J (i7 0 j,aY) else C)=J (aE,n'):=ax;split at ax
    .rename_i ao
     ext ax
     let dJ:(bp:D)=1000000:=rfl;show{j,by rw[i1 dB],(ce Z1 ao.1),(nW ao.2 Z1),k _ ak x y λeK=>?_};let:=Pg (L:=L) (H:=eK) 0 j.M
     delta i7;rw[Cz];show this
    .ext ax
   |_=>ext ax
  |cons a b=>ext t<;>ext ax
def amA{nx aE:O T}{aY n':Y}(ax:(match nx with|[.int i,.int j]=>if-bp<=i/\i<=bp /\ -bp<=j/\j<=bp then J (i7 i j,aY) else C|_=>C)=J (aE,n')):∃i j,nx=[.int i,.int j]/\(-bp<=i/\i<=bp /\ -bp<=j/\j<=bp)/\aE=i7 i j/\n'=aY:=by
 split at ax
 .rename_i i j;split at ax
  .rename_i ao;ext ax;show{(i),j,P,ao,P,P}
  .ext ax
 .ext ax
def ak0{pos p:MK}{a b:MG}{dT:ho}(bl:pd X L [a,b] dT)(hm:X.bf "range" = C)(bL:MD (fP X "range") rc)(aK:MD (cA [a,b] X.I=[(Y1,MO a X.I),(Y1,MO b X.I)]) rc)(kl:MD (cA [b] X.I=[(Y1,MO b X.I)]) rc) :
  rX X L dr (.Call (.Name "range" p) [a,b] [] pos) (rR dT):=by
 intro B S n aE n' hd ah s U H R I ⟨kg,k⟩;let((nx,aY),aB,ax):=cE hd;show aaJ bL hm (bl B S n nx aY aB) aK kl ah s U H R I {kg,λag ak x y z=>?_};let(i,j,rfl,ao,rfl,rfl):=amA ax;let dJ:(bp:D)=1000000:=rfl;cases z with
 |cons dB dU =>
  cases dU with
  |cons dU jv =>
   ext jv
   show{i,j,by rw[i1 dB,i1 dU],{(ce Z1 ao.1),(nW ao.2.1 Z1),(ce Z1 ao.2.2.1),(nW ao.2.2.2 Z1)},k _ ak x y λeK=>?_};show Pg i (j-i).M
def tD(S':bF)(U':St)(S:bF)(U:St):Prop:=∀(j:Y) (t:T) (a:MC),S'[j]?=J (J (t,.aA))->U'[j]?=J (J ZM)->∃(rv:Y) (t':T),S[rv]?=J (J (t',.aA))/\U[rv]?=J (J ZM)
def tD.p4(i:Y)(t:T)(v:V):tD (S.set i<|some (t,.aa)) (U.set i<|some v) S U:=λj t' a e bH=>by
 rcases hU e with⟨_,z,_⟩|⟨ne,e⟩
 .cases z
 .rw[ou ne]at bH;show{(j),t',e,bH}
def tD.trans(a:tD S2 U2 S1 U1)(b:tD S1 U1 S U):tD S2 U2 S U:=λj t x e bH=>let ⟨rv,t',ae,ai⟩:=a j t x e bH;b rv t' x ae ai
def CY(X:bK)(L:MC)(put:T->bF->MB bF):qs:=λv U H Q=>∃B S n t S',dD X.K B L S n U H/\aL L H t v/\put t S=J S'/\∀U',dD X.K B L S' n U' H->tD S' U' S U->Q U' H
def s6(X:bK)(L:MC)(dr:MG)(put:T->bF->MB bF):Prop:=qt X dr<|CY X L put
def Pj(i:Y){x:ME}{pos:MK}(eu:X.N.Nodup)(hi:MD (X.N[i]?=J x) rc)(au:MD (Loc X.I.h x) az4._auto_1)(hf:MD (X.fn x=Y0\/X.env.scope.names.lookup x=J .local) ro):s6 X L (.Name x pos)<|b4 i:=by
 intro ah s U H v u Q I r h;let(B,S,n,t,S',R,ba,aC,k):=h
 ext aC
 show IJ eu hi au hf ah s U H v u Q I r<|k _ (R.p4 ba)<|.p4 _ _ _
def ajk(i j:Y){x y:ME}{e7 py pos:MK}{nc:Y}(aI:X.calm=Y0)(eu:X.N.Nodup)(hi:MD (X.N[i]?=J x) rc)(bJ:MD (X.N[j]?=J y) rc)(au:MD (Loc X.I.h x) az4._auto_1)(aJ:MD (Loc X.I.h y) az4._auto_1)
  (hf:MD (X.fn x=Y0\/X.env.scope.names.lookup x=J .local) ro) (abC:MD (X.fn y=Y0\/X.env.scope.names.lookup y=J .local) ro)
  (bI:MD ((mu [.Name x e7,.Name y py] X.I).H=2) rc) (jY:MD ((mu [.Name x e7,.Name y py] X.I).findIdx? (·.1)=C) rc)
  (ae:MD ((mu [.Name x e7,.Name y py] X.I).map (·.2)=mw (.Name x e7) X.I::(mu [.Name y py] X.I).map (·.2)) rc) (ai:MD ((mu [.Name y py] X.I).map (·.2)=mw (.Name y py) X.I::(mu [] X.I).map (·.2)) rc):s6 X L (.Tuple [.Name x e7,.Name y py] nc pos)<|Aj i j:=by
 intro ah s U H v u Q I r h;let(B,S,n,t,S',R,ba,aC,k):=h;have⟨a,b,eU,zG⟩:∃a b,t=.aF [a,b]/\S'=(S.set i (J (a,.aa))).set j (J (b,.aa)):=by
  match t,aC with
  |.aF [a,b],aC=>ext aC;show{(a),b,P,P}
 subst eU zG;rw[aL]at ba;let(ad,ag,rfl,e,q):=ba;let(f6,gO,rfl,Wv,q):=hT q;let(xq,iF,rfl,Ww,q):=hT q;obtain rfl:=j2 q;show aiP aI (qbi (IJ eu hi au hf) (qbi (IJ eu bJ aJ abC) akz ai) ae) bI jY ah s U H _ u Q I r {ad,[f6,xq],P,e9.of e,P,f6,[xq],P,xq,[],P,P,?_};show k _ ((R.p4 Wv).p4 Ww)<|(tD.p4 _ _ _).trans (.p4 _ _ _)
def ajl{iter:MG}{body:O MM}{d:iH}{put:T->bF->MB bF}{b:br}{pos:MK}(aI:X.calm=Y0)(au:X.cL=λ_ _=>MP)(hi:Ay X L dr iter d)(bL:s6 X L dr put)(ao:iy X L body b)(aK:MD (∀x,oU iter X.I x=pure x) rn) :
  hG X L (.For dr iter body [] pos) (eo d put b):=by
 intro B S n f S' n' hd ah s U H OG I ⟨R,k⟩;let((aE,aY),aB,ax):=cE hd;let aC:zr Z4 X.A X.I X.cL:=by rw[au];show PassesOwn.never
 let kX:kG X body (λOG U H=>∃S n f S' n',b S n=J (f,S',n')/\xl X.K B L S n f S' n' OG U H):=λah s U H OG I h=>by let(S,n,f,S',n',e,h):=h;show ao B S n f S' n' e ah s U H OG I h
 show qbm aC aI (hi B S n aE aY aB) bL kX aK ah s U H OG I {R,λc0 H1 bE dZ it=>?_};let bN:=R.mono bE dZ;let k1:KF X.K B L f S' n' OG H1:=k.cq<|bE.cq R.aR;show⟨λi m U' ak=>m=aE.H-i/\i<=aE.H/\eT H1 ak/\∃Si jw,dD X.K B L Si jw U' ak/\eb put b (aE.drop i) Si jw=J (f,S',n'),{aE.H,by simp,fY _,.refl _,S,aY,bN,by simpa using ax},?_⟩;rintro i m U2 b5 ⟨rfl,kM,mH,S2,ck,dF,bq⟩;let at2:=it b5 ck dF.aR mH dF.ext i;by_cases dN:i<aE.H
 .right;let(go,qw):=at2.1 aE[i] (by simp[dN]);let zH:aE.drop i=aE[i]::aE.drop (i+1):=oP dN;rw[zH]at bq;let(S3,cC,fj):=cE (show(put aE[i] S2).bind _=_ from bq);let((f4,S4,h4),gF,gw):=cE fj;show{go,λU' ak=>eT H1 ak/\dD X.K B L S4 h4 U' ak/\eb put b (aE.drop<|i+1) S4 h4=J (f,S',n'),λU' ak ⟨dB,dU,jv⟩=>{aE.H-(i+1),by lia,P,dN,dB,S4,h4,dU,jv},λx ak uR=>?_};let(cL,uS,lZ):=qw x ak uR;let l6:eT H1 ak:=mH.trans<|cL.cq dF.aR;show{B,S2,ck,aE[i],S3,dF.mono cL<|uS ck dF.aR,lZ,cC,λU3 ng _=>{S3,ck,f4,S4,h4,gF,ng,?_}};cases f4 with
  |bC=>show λU' eK dB dU=>{l6.trans dB,dU,gw}
  |eZ=>show λU' eK dB dU=>{l6.trans dB,dU,gw}
  |eD =>
   let gw:J (ie.bC,S4,h4)=J (f,S',n'):=gw
   ext gw
   show λU' eK dB dU=>k1 U' eK (l6.trans dB) dU
  |ba t jx =>
   let gw:J (ie.ba t jx,S4,h4)=J (f,S',n'):=gw
   ext gw
   show λv eK dB dU jv uT=>k1 v eK (l6.trans dB) dU jv uT
 .left;let j3:aE.H<=i:=ci dN;show{at2.2 j3,?_};rw[wM j3]at bq;let bq:J (ie.bC,S2,ck)=J (f,S',n'):=bq
  ext bq
  show k1 U2 b5 mH dF
def amB{c:MG}{body:O MM}{gR:fy}{b:br}{pos:MK}(au:X.cL=λ_ _=>MP)(aI:ST X L c gR)(ao:iy X L body b):hG X L (.While c body [] pos)<|I4 gR b:=by
 intro B S n f S' n' hd ah s U H OG I ⟨R,k⟩;let aC:zr Z4 X.A X.I X.cL:=by rw[au];show PassesOwn.never
 let kX:kG X body (λOG U H=>∃S n f S' n',b S n=J (f,S',n')/\xl X.K B L S n f S' n' OG U H):=λah s U H OG I h=>by let(S,n,f,S',n',e,h):=h;show ao B S n f S' n' e ah s U H OG I h
 let ahM:n4 X c (λU H Q=>∃S n b n',gR S n=J (b,n')/\xp X.K B L S n b n' U H Q):=λah s U H Q I h=>by let(S,n,b,n',e,h):=h;show aI B S n b n' e ah s U H Q I h
 show aml aC ahM kX ah s U H OG I {λm U' ak=>eT H ak/\∃Si jw,dD X.K B L Si jw U' ak/\qK gR b m Si jw=J (f,S',n'),{100000,.refl _,S,n,R,hd},?_};rintro m U2 b5 ⟨mH,S2,ck,dF,bq⟩;cases m with
 |zero=>ext bq
 |succ m =>
  let((t,jr),cC,fj):=cE (show(gR S2 ck).bind _=_ from bq);show{S2,ck,t,jr,cC,dF,λeR cy lj=>?_};let ng:=dF.mono cy lj;let l6:eT H eR:=mH.trans<|cy.cq dF.aR;cases t with
  |false =>
   let fj:J (ie.bC,S2,jr)=J (f,S',n'):=fj
   ext fj
   show Ge<|k U2 eR l6 ng
  |true =>
   let((f4,S4,h4),gF,gw):=cE (show(b S2 jr).bind _=_ from fj);show Gf {λU' ak=>eT H ak/\dD X.K B L S4 h4 U' ak/\qK gR b m S4 h4=J (f,S',n'),λU' ak ⟨dB,dU,jv⟩=>{m,m3 _,dB,S4,h4,dU,jv},S2,jr,f4,S4,h4,gF,ng,?_};cases f4 with
   |bC=>show λU' eK dB dU=>{l6.trans dB,dU,gw}
   |eZ=>show λU' eK dB dU=>{l6.trans dB,dU,gw}
   |eD =>
    let gw:J (ie.bC,S4,h4)=J (f,S',n'):=gw
    ext gw
    show λU' eK dB dU=>k U' eK (l6.trans dB) dU
   |ba t jx =>
    let gw:J (ie.ba t jx,S4,h4)=J (f,S',n'):=gw
    ext gw
    show λv eK dB dU jv uT=>k v eK (l6.trans dB) dU jv uT
def tE(X:bK)(L:MC)(ifs:O MG)(d:fy):Prop:=∀B S n b n',d S n=J (b,n')->xm X ifs (xp X.K B L S n b n')
def ak1:tE X L [] yes:=by
 intro B S n b n' hd ah s U H Q I ⟨R,k⟩
 ext hd
 show ajc ah s U H Q I<|k H ZQ R.aR
def ak2{c:MG}{d:fy}(h:ST X L c d):tE X L [c] d:=λB S n b n' hd=>ajd<|h B S n b n' hd
def x9{i:Y}(h:(cY l S)[i]?=J (J p)):∃j,l[i]?=J (J j)/\S[j]?=J (J p):=by
 delta cY at h;rw[hO]at h;cases e:l[i]? with
 |none=>rw[e]at h;ext h
 |some o =>
  rw[e]at h;cases o with
  |none=>ext h
  |some j =>
   show{j,P,?_};let h:(S[j]?).join=J p:=MV h;cases q:S[j]? with
   |none=>rw[q]at h;ext h
   |some ej=>rw[q]at h;rw[show ej=J p from h]
def Jt{i j:Y}(h:l[i]?=J (J j))(e:U[j]?=J (J v)):(t2 l U)[i]?=J (J v):=by delta t2;rw[hO,h];show J ((U[j]?).join)=_;rw[e];rfl
def dD.src{K:MS}{B:aM}{S:bF}{n:Y}{U:St}{H:aM}{l:O<|MB Y}(R:dD K B L S n U H)(inj:∀(i rx j:Y),l[i]?=J (J j)->l[rx]?=J (J j)->i=rx):dD K B L (cY l S) n (t2 l U) H:=by
 show{R.ext,R.aR,R.lH,by delta cY t2;rw[bZ,bZ],λi t e=>?_,λi t e=>?_,λi t e=>?_,λi t e=>?_,λi rx t t' a e bH s s'=>?_}
 .let(j,ae,ai):=x9 e;let(v,aV,bb):=R.aa j t ai;show{v,Jt ae aV,bb}
 .let(j,ae,ai):=x9 e;let(v,aV,bb):=R.b9 j t ai;show{v,Jt ae aV,bb}
 .let(j,ae,ai):=x9 e;let(v,aV,bb):=R.aA j t ai;show{v,Jt ae aV,bb}
 .let(j,ae,ai):=x9 e;show R.oq j t ai
 .let(j,ae,ai):=x9 e;let(rv,ny,qP):=x9 bH;let(k,k1,k2):=Je s;let(g5,Pk,abD):=Je s';rw[ae]at k1;ext k1;rw[ny]at Pk;ext Pk;obtain rfl:=R.pF j rv t t' a ai qP k2 abD;show inj i rx j ae ny
def dD.an0{K:MS}{B:aM}{S:bF}{n:Y}{U:St}{H:aM}{OG:MC}{V9:O V}{o:jo}(R:dD K B L S n U H)(gQ:H OG=J (.aj V9))(dJ:B OG=C)(bG:∀(j:Y) (t:T),S[j]?=J (J (t,.aA))->U[j]?≠J (J<|.ref OG)):dD K B L S n U<|c3 H OG o:=by
 let cq:eT H<|c3 H OG o:=λa=>{λag q=>by rw[ew<|by rintro rfl;rw[gQ]at q;ext q];show q,λ_ _ q=>by rw[ew<|by rintro rfl;rw[gQ]at q;ext q];show q}
 show{R.ext.put dJ,by show c3 H OG o L=_;rw[ew (R.yT dJ).symm];show R.aR,R.lH,R.len,λi t e=>let ⟨v,ae,ai⟩:=R.aa i t e;{v,ae,aL.mono cq _ _ ai},R.b9,λi t e=>?_,R.oq,R.pF};let(a,ae,ai,aS):=R.aA i t e;let na:a≠OG:=by rintro rfl;show bG i t e ae
 show{a,ae,ai,?_}
 induction t using T.casesOn with
 |aj xs=>let(ag,dB,dU):=aS;show{ag,by rw[ew na];show dB,bV.mono cq _ _ dU}
 |a3 av=>let(ag,dB,dU):=aS;show{ag,by rw[ew na];show dB,cU.mono cq _ _ dU}
 |eN ks=>let(ag,dB,dU):=aS;show{ag,by rw[ew na];show dB,dU}
 |_=>show aS.elim
def mh.inj{scope:jN}{N':O ME}{fz:O<|MB Y}(aP:mh X scope N' fz)(bG:N'.Nodup):∀(i rx j:Y),fz[i]?=J (J j)->fz[rx]?=J (J j)->i=rx:=λi rx j h h'=>by let(x,aV,bb,_):=aP.src i j h;let(uU,Ju,Ef,_):=aP.src rx j h';rw[bb]at Ef;ext Ef;show DF bG aV Ju
def H3(X:bK)(B:aM)(L:MC)(S:bF)(n:Y)(aE:O T)(n':Y):TI:=λU H R=>dD X.K B L S n U H/\∀c0 ak,dC L H ak->dt L n' ak->(∀eK qQ,dt L qQ eK->dC L ak eK->q5 L c0 eK aE)->R c0 ak
def zI(X:bK)(B:aM)(L:MC)(c:fy):TT:=λU H Q=>∃S n b n',c S n=J (b,n')/\xp X.K B L S n b n' U H Q
def zJ(X:bK)(B:aM)(L:MC)(e:bS):TE:=λU H Q=>∃S n t m n',bB e S n=J (t,m,n')/\rt X.K B L S n t m n' U H Q
def Pl{n aY ck:Y}(aP:mh X scope N' fz)(bG:N'.Nodup)(R:dD X.K B L S n U H)(bq:je put c e aE (cY fz S) aY []=J (out,ck))
  (k:∀v ak,dC L H ak->dt L ck ak->Val X.K B L H ak (.aj out) .aA v->Q v ak):Gx (H3 X B L S n aE aY) fz (CY X L put) (zI X B L c) (zJ X B L e) U H Q:=by
 show{R,λc0 H1 bE dZ it OG gQ=>?_};let bN:=R.mono bE dZ;let zK:OG≠L:=bN.aR.ub gQ;show{λi m V9 U' ak=>m=aE.H-i/\i<=aE.H/\ak OG=J (.aj V9)/\dC L H1 ak/\∃Si jw as,dD X.K B L Si jw U' ak/\(∀(j:Y) (t:T),Si[j]?=J (J (t,a9.aA))->U'[j]?≠J (J<|V.ref OG))/\bV L ak as V9/\je put c e (aE.drop i) Si jw as=J (out,ck),{aE.H,by simp,fY _,fH,.new gQ,cY fz S,aY,[],(bN.src<|aP.inj bG).mono (.new gQ) (bN.aR.new gQ),Pd (bN.src<|aP.inj bG) gQ,.nil,by simpa using bq},?_};rintro i m V9 U2 b5 ⟨rfl,kM,vx,bR,S2,jr,as,dF,abE,ry,fj⟩;let at2:=it b5 jr dF.aR bR i;by_cases dN:i<aE.H
 .right;let(go,qw):=at2.1 aE[i] (by simp[dN]);let zH:aE.drop i=aE[i]::aE.drop (i+1):=oP dN;rw[zH]at fj;let(S3,gF,gw):=cE (show(put aE[i] S2).bind _=_ from fj);let((b,h4),xr,s7):=cE gw;show{go,λt4 U' ak=>ak OG=J (.aj t4)/\dC L H1 ak/\∃Si jw Eg,dD X.K B L Si jw U' ak/\(∀(j:Y) (t:T),Si[j]?=J (J (t,a9.aA))->U'[j]?≠J (J<|V.ref OG))/\bV L ak Eg t4/\je put c e (aE.drop<|i+1) Si jw Eg=J (out,ck),λt4 U' ak ⟨dB,dU,Si,jw,Eg,jv,Wx,uT,uV⟩=>{aE.H-(i+1),by lia,P,dN,dB,dU,Si,jw,Eg,jv,Wx,uT,uV},λx eR uR=>?_};let(cL,uS,lZ):=qw x eR uR;show{B,S2,jr,aE[i],S3,dF.mono cL<|uS jr dF.aR,lZ,gF,λU3 ng abF=>{S3,jr,b,h4,xr,ng,λqu cv jy=>?_}};let zL:=ng.mono cv jy;let Jv:∀(j:Y) (t:T),S3[j]?=J (J (t,a9.aA))->U3[j]?≠J (J<|V.ref OG):=λj t q ej=>let ⟨rv,t',ae,ai⟩:=abF j t OG q ej;abE rv t' ae ai
  let Eh:dC L b5 qu:=cL.trans cv;cases b with
  |false =>
   let s7:je put c e (aE.drop<|i+1) S3 h4 as=J (out,ck):=s7;show Ge {Eh.to OG _ vx zK,bR.trans Eh,S3,h4,as,zL,Jv,bV.mono (Eh.cq dF.aR) _ _ ry,s7}
  |true =>
   let((H4,aoh,s8),x4,Az):=cE (show(bB e S3 h4).bind _=_ from s7);obtain rfl:=Ax x4;let Az:(if as.H<bp then je put c e (aE.drop<|i+1) S3 s8 (as++[H4]) else C)=J (out,ck):=Az;split at Az
   .rename_i ao;show Gf {S3,h4,H4,.aa,s8,x4,zL,λv jQ dM js uV=>?_};let Jw:=Eh.trans dM;let Ei:jQ OG=J (.aj V9):=Jw.to OG _ vx zK;let H5:=zL.mono dM js;let cq:eT jQ<|c3 jQ OG<|.aj<|V9++[v]:=λa=>{λag q=>by rw[ew<|by rintro rfl;rw[Ei]at q;ext q];show q,λ_ _ q=>by rw[ew<|by rintro rfl;rw[Ei]at q;ext q];show q}
    let abG:B OG=C:=R.ext.free R.aR<|bE.free dZ gQ;show{Ei,by rw[<-ry.H];show D4 ao,fH,(bR.trans Jw).put gQ,S3,s8,as++[H4],?_,Jv,(bV.mono cq _ _<|bV.mono (Jw.cq dF.aR) _ _ ry).append (.cons (aL.mono cq _ _ uV) .nil),Az}
    .show H5.an0 Ei abG Jv
   .ext Az
 .left;let j3:aE.H<=i:=ci dN;show{at2.2 j3,?_};rw[wM j3]at fj;let fj:J (as,jr)=J (out,ck):=fj
  ext fj
  show k _ b5 (bE.trans bR) dF.aR {OG,P,bE.free dZ gQ,V9,vx,ry}
def Jx{elt iter:MG}{ifs:O MG}{scope:jN}{pos:MK}{N':O ME}{fz:O<|MB Y}{d:iH}{put:T->bF->MB bF}{c:fy}{e:bS}(aI:X.calm=Y0)(aP:mh X scope N' fz)(bG:N'.Nodup)(hi:rW X L dr iter d)
  (bL:∀cl aP cT dS fp,s6 Za L dr put) (ct:∀cl aP cT dS fp,tE Za L ifs c) (he:∀cl aP cT dS fp,bM Za L elt e)
  (aK:MD (∀x,oU iter X.I x=pure x) rn):bM X L (.ListComp elt [{dr,iter,ifs,0}] scope pos)<|eX d (cY fz) put c e:=by
 intro B S n t m n' hd ah s U H Q I ⟨R,k⟩;let((aE,aY),aB,ax):=cE hd;let((out,ck),bq,cC):=dR ax;cases cC;show akP aI aP (hi B S n aE aY aB) (g:=CY X L put) (tt:=zI X B L c) (te:=zJ X B L e) (λcl aP cT dS fp=>bL cl aP cT dS fp) (λcl aP cT dS fp ah s U H Q I h=>?_) (λcl aP cT dS fp ah s U H Q I h=>?_) aK ah s U H Q I<|Pl aP bG R bq k
 .let(S,n,b,n',e,h):=h;show ct cl aP cT dS fp B S n b n' e ah s U H Q I h
 .let(S,n,t,m,n',bH,h):=h;show vv (he cl aP cT dS fp) B S n t m n' bH ah s U H Q I h
def abH(i:Y){y:ME}{elt iter:MG}{ifs:O MG}{scope:jN}{pos wz py:MK}{N':O ME}{fz:O<|MB Y}{d:iH}{put:T->bF->MB bF}{c:fy}{e:bS}(aI:X.calm=Y0)(eu:X.N.Nodup)(aP:mh X scope N' fz)(bG:N'.Nodup)(hi:rW X L dr iter d)
  (bL:∀cl aP cT dS fp,s6 Za L dr put) (ct:∀cl aP cT dS fp,tE Za L ifs c) (he:∀cl aP cT dS fp,bM Za L elt e)
  (gq:MD (X.N[i]?=J y) rc) (aJ:MD (X.env.scope.names.lookup y=J .local) rc) (Au:MD (qn (.ListComp elt [{dr,iter,ifs,0}] scope pos) (J<|.Name y py) wz.line X.I=pure Y0) rc) (aK:MD (∀x,oU iter X.I x=pure x) rn) :
  hG X L (.Assign [.Name y py] (.ListComp elt [{dr,iter,ifs,0}] scope pos) wz) (cX i<|eX d (cY fz) put c e):=by
 intro B S n f S' n' hd ah s U H OG I ⟨R,k⟩;let((t,m,n0),d8,abI):=cE hd;let((aE,aY),aB,ax):=cE d8;let((out,ck),bq,cC):=dR ax;cases cC;cases abI;show akQ aI eu gq aJ aP (hi B S n aE aY aB) (g:=CY X L put) (tt:=zI X B L c) (te:=zJ X B L e) (λcl aP cT dS fp=>bL cl aP cT dS fp) (λcl aP cT dS fp ah s U H Q I h=>?_) (λcl aP cT dS fp ah s U H Q I h=>?_) Au aK ah s U H OG I (Pl aP bG R bq λv ak x y z=>k _ ak (x.cq R.aR)<|R.store x y z P)
 .let(S,n,b,n',e,h):=h;show ct cl aP cT dS fp B S n b n' e ah s U H Q I h
 .let(S,n,t,m,n',bH,h):=h;show vv (he cl aP cT dS fp) B S n t m n' bH ah s U H Q I h
def ak3(i:Y){st:MM}{d:br}(h:hG X L st d):hG X L st<|fq i d:=by
 intro B S n f S' n' bg;let key:fq i d S n=d S n\/fq i d S n=eA i d S n:=by
  delta fq eA;cases S[i]? with
  |none=>show .inl P
  |some o =>
   cases o with
   |none=>show .inl P
   |some p =>
    let(t,m):=p
    ext t<;>ext m<;>first|show .inl P|show .inr P
 rcases key with e|e
 .show h B S n f S' n'<|e▸bg
 .show Vy i h B S n f S' n'<|e▸bg
theorem Jy{K:MS}{H:aM}:∀{aE:O (T×MF)} {ag:O V},Args K L H aE ag->∀(i:Y) (t:T) (b:MF),aE[i]?=J (t,b)->∃v,ag[i]?=J v/\(b=Y0->aL L H t v)/\eQ K L H t v
 |_,_,.nil,_,_,_,e=>by simp at e
 |_,_,.cons ae ai _,0,_,_,e=>by simp at e;let(rfl,rfl):=e;show{_,P,ae,ai}
 |_,_,.cons _ _ r,i+1,t,b,e=>by let(v,aV,bb):=Jy r i t b (by simpa using e);show{v,by simpa using aV,bb}
def Jz{K:MS}{H:aM}{N:O ME}{aE:O<|T×MF}{ag:O V}{n:Y}(a:Args K L H aE ag)(aR:dt L n H) :
  dD K H L (aE.map (λt=>J (t.1,if t.2 then a9.aa else a9.b9))++ML (N.H-aE.H) C) n (start N ag) H:=by
 let az:=a.H;let get:∀(i:Y) (p:T×a9),(aE.map (λt=>J (t.1,if t.2 then a9.aa else a9.b9))++ML (N.H-aE.H) C)[i]?=J (J p)->∃b,aE[i]?=J (p.1,b)/\p.2=(if b then a9.aa else a9.b9):=λi p e=>by
  by_cases h:i<aE.H
  .rw[yX (by simpa using h),hO]at e;cases q:aE[i]? with
   |none=>rw[q]at e;ext e
   |some t=>rw[q]at e;ext e;show{(t.2),P,P}
  .rw[B0 (by simpa using h),yY]at e;split at e<;>ext e
 let val:∀(i:Y) (v:V),ag[i]?=J v->(start N ag)[i]?=J (J v):=λi v e=>by let h:i<ag.H:=(kY.mp e).1;delta start;rw[yX (by simpa using h),hO,e];rfl
 show{.refl _ _,aR,{(n),aR},by delta start;rw[gm,gm,bZ,bZ,mX,mX,az],λi t e=>?_,λi t e=>?_,λi t e=>?_,λi t e=>?_,λi j t t' a e bH=>?_}
 .let(b,aV,bb):=get i _ e;let(v,ae,ai,aS):=Jy a i t b aV;cases b with
  |true=>show{v,val i v ae,ai P}
  |false=>ext bb
 .let(b,aV,bb):=get i _ e;let(v,ae,ai,aS):=Jy a i t b aV;show{v,val i v ae,aS}
 .let(b,aV,bb):=get i _ e;ext b<;>ext bb
 .let(b,aV,bb):=get i _ e;ext b<;>ext bb
 .let(b,aV,bb):=get i _ e;ext b<;>ext bb
def ahN{V8:dn}{w:cV}{K:MS}{bf:ME->MB ay}{base:MJ}{x qual:ME}{st:MM}{f:MC}{fd:iD}{N ps:O ME}{lv:Y}{b:br}(F:qI K x qual st f fd)(cp:mV N ps<|eM st)
  (kX:∀(dm:ay) (A:dH) (cu:O Env) (s:aN) (H:aM) (E:iS),fs lv (A.deeper<|jm qual (eM st) s.L f dm)->iy (j8 jD V8 w K bf base N qual (eM st) f dm A cu s H E).ob L (iZ st) b):kT V8 w K bf base jD (lv+1) f fd ps<|qN K L ps.H<|ea N.H b:=by
 show F.ok cp (λag H Q E h=>h.1) λdm A cu s H ag Q E a4 h=>?_;let(az,aE,n,t,m,n',a,aR,e,k):=h;let((b2,S',aY),aB,ax):=cE e;show{_,kX dm A cu s H E a4 H _ n b2 S' aY aB,Jz a aR,?_};cases b2 with
 |ba t0 m0=>ext ax;show λv ak _ x y z=>k v ak x y z
 |bC=>ext ax;show λU' ak _ R=>k .b0 ak R.ext R.aR (by show aL L ak .b0 _;rw[aL])
 |eD=>ext ax
 |eZ=>ext ax
end
section
variable {X:bK}{L:MC}
def l7{K:MS}{H:aM}{a b:T}{ag:O V}(r:sx K L H [a,b] ag):∃v w,ag=[v,w]/\eQ K L H a v/\eQ K L H b w:=by
 cases r with
 |cons bx cn=>cases cn with
  |cons cn h2=>ext h2;show{_,_,P,bx,cn}
def i2{K:MS}{H:aM}{a:T}{ag:O V}(r:sx K L H [a] ag):∃v,ag=[v]/\eQ K L H a v:=by
 cases r with
 |cons bx cn=>ext cn;show{_,P,bx}
def vy{f:ay->ay->Sem ay}{aP:D->D->MF}{g:D->D->T}{H6:D->D->V}{r:dF}(aX:km X f r)(a4:∀a b H Q,aP a b=Y0->Q (H6 a b) H->r (.int a) (.int b) H Q)(bL:∀a b H,aL L H (g a b)<|H6 a b):fJ X L (two f)<|gb aP g:=by
 intro B ah s U H ag us aE n t m Q I bh ba aR e k;have⟨a,b,rY,rz,eU,em⟩:∃a b,aE=[.int a,.int b]/\aP a b=Y0/\t=g a b/\m=.aa:=by
  clear k ba bh
  induction aE using MQ with
  |nil=>ext e
  |cons x r=>induction x using T.casesOn with
   |int a=>induction r using MQ with
    |nil=>ext e
    |cons y r=>induction y using T.casesOn with
     |int b=>induction r using MQ with
      |nil =>
       let e:(if aP a b then J (g a b,a9.aa) else C)=J (t,m):=e;split at e
       .rename_i h;ext e;show{(a),b,P,h,P,P}
       .ext e
      |cons _ _=>ext e
     |_=>ext e
   |_=>ext e
 subst rY eU em;let(v,w,rfl,bx,cn):=l7 ba;obtain rfl:=i1 bx;obtain rfl:=i1 cn;let(fS,gh,rfl,aV,bb):=bh.two;show aX ah s U H _ _ fS gh Q I aV bb<|a4 a b H Q rz<|k _ H ZQ aR<|bL a b H
def ajm:fJ X L (two<|n1 .Sub) fW:=vy aiS (λa b H Q _ q=>{(a),b,P,P,q}) λa b H=>by rw[aL]
def ajn:fJ X L (two<|n1 .Mod) wt:=vy aiU (λa b H Q h q=>{a,b,P,P,by simpa using h,q}) λa b H=>by rw[aL]
def ajo:fJ X L (two<|n1 .FloorDiv) Gg:=vy akA (λa b H Q h q=>⟨a,b,P,P,by
 erw[iR,Nd]at h
 show{h.1,by let:=h.2;lia},q⟩) λa b H=>by rw[aL]
def AA{p:D->D->MF}(rule:∀(i j:D) (t u:Tok) (Q:ay->aN->Prop) (s:aN),Q (.bool<|p i j) s->bj Z4 X.A (hn op (.int i t)<|.int j u) Q X.cL s):km X (hn op) (λx y H Q=>∃i j,x=.int i/\y=.int j/\Q (.aU<|p i j) H):=by intro ah s U H x y v u Q I de eF h;let(i,j,rfl,rfl,q):=h;let(t,rfl):=de;let(t',rfl):=eF;show rule i j t t' _ s {.aU _,H,I,P,q}
def ahO:fJ X L (two<|hn .Lt) lE:=vy (AA λ_ _ _ _ _ _ h=>lt_int h) (λa b H Q _ q=>{(a),b,P,P,q}) λa b H=>by rw[aL]
def ahP:fJ X L (two<|hn .LtE) jE:=vy (AA λ_ _ _ _ _ _ h=>le_int h) (λa b H Q _ q=>{(a),b,P,P,q}) λa b H=>by rw[aL]
def UQ:fJ X L (two<|hn .Gt) lF:=vy (AA λ_ _ _ _ _ _ h=>gt_int h) (λa b H Q _ q=>{(a),b,P,P,q}) λa b H=>by rw[aL]
def ahQ:fJ X L (two<|hn .GtE) oh:=vy (AA λ_ _ _ _ _ _ h=>ge_int h) (λa b H Q _ q=>{(a),b,P,P,q}) λa b H=>by rw[aL]
abbrev uW(p:D->D->MF):dF:=λx y H Q=>∃i j,x=.int i/\y=.int j/\Q (.aU<|p i j) H
abbrev uX(p:D->D->MF):ee:=gb (λ_ _=>Y0) λa b=>.aU<|p a b
def Ej{p:D->D->MF}{n:Y}(h:uX p n [a,b]=J (t,m)):∃i j,a=.int i/\b=.int j/\t=.aU (p i j)/\m=.aa:=by
 match a,b,h with
 |.int i,.int j,h=>ext h;show{(i),j,P,P,P,P}
def Pm{c5 cP:D->D->MF}{n:Y}{n':Y}(hd:pC (uX c5) (uX cP) dT db gR S n=J (t,m,n'))(R:dD X.K B L S n U H)(k:∀v ak,dC L H ak->dt L n' ak->Val X.K B L H ak t m v->Q v ak) :
  IU (uW c5) (uW cP) (λU H Q=>∃n t m n',dT S n=J (t,m,n')/\rt X.K B L S n t m n' U H Q) (λU H Q=>∃n t m n',db S n=J (t,m,n')/\rt X.K B L S n t m n' U H Q) (λU H Q=>∃n t m n',gR S n=J (t,m,n')/\rt X.K B L S n t m n' U H Q) U H Q:=by
 let((ta,NC,na),aB,ax):=cE hd;let((tb,lU,nb),bq,cC):=cE ax;let((lX,Wy),fj,gF):=cE cC;let(i,j,rfl,rfl,rfl,rfl):=Ej fj;show{n,_,_,_,aB,R,λv1 H1 bE dZ dB=>{_,_,_,_,bq,R.mono bE dZ,λv2 b5 bR jT dU=>?_}};let bN:=R.mono bE dZ;let dF:=bN.mono bR jT;obtain rfl:=i1<|dB.root bN R.aR;obtain rfl:=i1<|dU.root dF bN.aR;show{i,j,P,P,c5 i j,P,?_};let d5:=bE.trans bR;cases aC:c5 i j with
 |false =>
  rw[aC]at gF;let gF:J (T.aU Y1,a9.aa,nb)=J (t,m,n'):=gF
  ext gF
  show Ge (k _ b5 d5 jT<|by show aL L b5 (.aU Y1) _;rw[aL])
 |true =>
  rw[aC]at gF;let((n6,HW,Wz),gw,xr):=cE (show(gR S nb).bind _=_ from gF);let((WA,WB),s7,x4):=dR xr;let(xt,zM,WC,rfl,rfl,rfl):=Ej s7
  ext WC
  cases x4;show Gf {_,_,_,_,gw,dF,λWD eR cy lj jv=>?_};obtain rfl:=i1<|jv.root (dF.mono cy lj) dF.aR;show{j,zM,P,P,k _ eR (d5.trans cy) lj<|by show aL L eR (.aU _) _;rw[aL]}
def ya{e:MG}{d:bS}(h:bM X L e d)(B:aM)(S:bF):eE X e (λU H Q=>∃n t m n',d S n=J (t,m,n')/\rt X.K B L S n t m n' U H Q):=λah s U H Q I ⟨n,t,m,n',e,q⟩=>h B S n t m n' e ah s U H Q I q
def amC{a b c:MG}{dT db gR:bS}{ek gx:CmpOp}{c5 cP:D->D->MF}{pos:MK}(ae:km X (hn ek)<|uW c5)(ai:km X (hn gx)<|uW cP)(bl:bM X L a dT)(ao:bM X L b db)(aI:bM X L c gR)
  (hm:MD (lastMarks [ek,gx] [b,c]=Y1) az5._auto_1):bM X L (.Compare a [ek,gx] [b,c] pos)<|pC (uX c5) (uX cP) dT db gR:=by
 intro B S n t m n' hd ah s U H Q I ⟨R,k⟩;show amm ae ai (ya bl B S) (ya ao B S) (ya aI B S) hm ah s U H Q I<|Pm hd R k
def amD{a b c:MG}{dT db gR:bS}{ek gx:CmpOp}{c5 cP:D->D->MF}{pos:MK}(ae:km X (hn ek)<|uW c5)(ai:km X (hn gx)<|uW cP)(bl:bM X L a dT)(ao:bM X L b db)(aI:bM X L c gR)
  (hm:MD (lastMarks [ek,gx] [b,c]=Y1) az5._auto_1):ST X L (.Compare a [ek,gx] [b,c] pos)<|cG<|pC (uX c5) (uX cP) dT db gR:=by
 intro B S n xu n' hd ah s U H Q I ⟨R,k⟩;let((t,m,aY),aB,ax):=cE hd;let(ic,bq,cC):=dR ax
 ext cC
 show amn ae ai (ya bl B S) (ya ao B S) (ya aI B S) hm ah s U H Q I (Pm aB R λv ak x y z=>?_);let abJ:∃q,t=.aU q:=by
  let((ta,NC,na),g1,g2):=cE aB;let((tb,lU,nb),g3,gY):=cE g2;let((lX,Wy),n9,rA):=cE gY;let(i,j,rfl,rfl,rfl,rfl):=Ej n9;cases aC:c5 i j with
  |false =>
   rw[aC]at rA;let rA:J (T.aU Y1,a9.aa,nb)=J (t,m,aY):=rA
   ext rA;show{_,P}
  |true =>
   rw[aC]at rA;let((n6,HW,Wz),aoi,WE):=cE (show(gR S nb).bind _=_ from rA);let((WA,WB),WG,abK):=dR WE;let(_,_,_,_,rfl,_):=Ej WG
   ext abK;show{_,P}
 let(q,rfl):=abJ
 ext bq
 let ba:aL L ak (.aU _) v:=(z.root (R.mono x y) R.aR)
 rw[aL]at ba;subst ba;show{_,P,k ak x y}
def rZ(h:H a=J (.aF ag))(r:bV L H xs ag):aL L H (.aF xs) ZM:=by rw[aL];show{(a),ag,P,h,r}
def kN{K:MS}{H:aM}{xs:O T}{v:V}(r:eQ K L H (.aF xs) v):∃a ag,v=.ref a/\H a=J (.aF ag)/\bV L H xs ag:=by let r:aL L H (.aF xs) v:=r;rw[aL]at r;show r
end
end a8.bD
namespace a8.bD
open PySem PySem.Spec PyProof.Rows PySem.SeqAt
section
variable {X:bK}{L:MC}
theorem JA(eS:∀t t' v,V8 t=Y0->V8 t'=Y0->aL L H t v->aL L H t' v->t=t'):∀(xs aO:O T) (ag:O V),xs.all V8=Y0->aO.all V8=Y0->bV L H xs ag->bV L H aO ag->xs=aO
 |[],aO,ag,p,fT,r,bU=>by
  obtain rfl:=j2 r;cases aO with
  |nil=>rfl
  |cons y aO=>let(_,_,e,_):=hT bU;ext e
 |x::xs,aO,ag,p,fT,r,bU=>by
  let(v,w,rfl,aV,bb):=hT r;cases aO with
  |nil=>cases j2 bU
  |cons y aO =>
   let(f5,fB,e,Ju,Ef):=hT bU;cases e;rw[oR,iR]at p fT;rw[eS x y v p.1 fT.1 aV Ju,JA eS xs aO w p.2 fT.2 bb Ef]
def Pn(bu:∀a,v≠.ref a)(r:aL L H t v)(bU:aL L H t' v):t=t':=by
 ext t<;>rw[aL]at r<;>first|(show MY r)|(subst r;ext t'<;>rw[aL]at bU<;>first|rfl|(show MY bU)|(ext bU;rfl)|(ext bU;done)|(let(_,_,e,_):=bU;ext e;done)|(let(_,_,_,e,_):=bU;ext e;done))|(let(_,_,e,_):=r;show MI e<|bu _)|(let(_,_,_,e,_):=r;show MI e<|bu _)|(show MI r<|bu _)
def Po:∀(k:Y) (t t':T) (v:V),ey k t=Y0->ey k t'=Y0->aL L H t v->aL L H t' v->t=t':=by
 intro k
 induction k with
 |zero =>
  intro t t' v p fT r bU;show Pn (λa e=>?_) r bU;subst e
  ext t<;>first|(ext p;done)|(rw[aL]at r;ext r;done)
 |succ k aQ =>
  intro t t' v p fT r bU
  induction t using T.casesOn with
  |aF xs =>
   rw[aL]at r;let(a,ag,rfl,e,q):=r
   induction t' using T.casesOn with
   |aF aO =>
    rw[aL]at bU;let(gg,mI,cB,bH,ej):=bU
    ext cB
    rw[e]at bH;ext bH;rw[JA (V8:=ey k) (aQ) xs aO ag p fT q ej]
   |aj aO=>rw[aL]at bU;let(gg,o,mI,cB,bH,_):=bU;ext cB;rw[e]at bH;ext bH
   |a3 aO=>ext fT
   |fE=>ext fT
   |cx _=>ext fT
   |eN _=>ext fT
   |_=>rw[aL]at bU;ext bU
  |aj xs =>
   rw[aL]at r;let(a,o,ag,rfl,e,q):=r
   induction t' using T.casesOn with
   |aj aO =>
    rw[aL]at bU;let(gg,dc,mI,cB,bH,ej):=bU
    ext cB
    rw[e]at bH;ext bH;rw[JA (V8:=ey k) (aQ) xs aO ag p fT q ej]
   |aF aO=>rw[aL]at bU;let(gg,mI,cB,bH,_):=bU;ext cB;rw[e]at bH;ext bH
   |a3 aO=>ext fT
   |fE=>ext fT
   |cx _=>ext fT
   |eN _=>ext fT
   |_=>rw[aL]at bU;ext bU
  |a3 _=>ext p
  |fE=>ext p
  |cx _=>ext p
  |eN _=>ext p
  |_ =>
   show Pn (λa e=>?_) r bU;subst e;rw[aL]at r;ext r
theorem JB(eS:∀t,V8 t=Y0->d1 t t=Y0):∀(xs:O T),xs.all V8=Y0->jK xs xs=Y0
 |[],_=>by rw[jK]
 |x::xs,p=>by rw[oR,iR]at p;rw[jK,eS x p.1,JB eS xs p.2];rfl
def amE:∀(k:Y) (t:T),ey k t=Y0->d1 t t=Y0:=by
 intro k
 induction k with
 |zero=>intro t p;ext t<;>first|(ext p;done)|(rw[d1];done)|(rw[d1];simp)
 |succ k aQ =>
  intro t p
  induction t using T.casesOn with
  |aF xs=>rw[d1];show JB aQ xs p
  |aj xs=>rw[d1];show JB aQ xs p
  |a3 _=>ext p
  |fE=>ext p
  |cx _=>ext p
  |eN _=>ext p
  |b0=>rw[d1]
  |_=>rw[d1];simp
theorem JC:∀(xs aO:O T),xs.H≠aO.H->jK xs aO=Y1
 |[],[],h=>MI P h
 |[],_::_,_=>by simp[jK]
 |_::_,[],_=>by simp[jK]
 |x::xs,y::aO,h=>by rw[jK,JC xs aO (λe=>h<|by rw[dv,dv,e]),Cy]
theorem JD:∀(xs aO:O T),xs.H=aO.H->jK xs aO=(M0 xs.H).all λj=>d1 (xs.getD j .b0) (aO.getD j .b0)
 |[],[],_=>by rw[jK];rfl
 |[],_::_,h=>by ext h
 |_::_,[],h=>by ext h
 |x::xs,y::aO,h=>by rw[jK,JD xs aO (by simpa using h),dv,qar,oR,y5];rfl
def JE(r:bV L H xs ag)(bh:cR ag us){j:Y}(h:j<us.H):∃v,aL L H (xs.getD j .b0) v/\cQ v us[j]:=by
 let ae:j<ag.H:=by rw[bh.H];show h
 let ai:j<xs.H:=by rw[r.H];show ae
 let(v,aB,ax):=r.get (i:=j) (x:=xs[j]) (by simp[ai]);let(u,bq,cC):=bh.get aB;let:us[j]=u:=by let:=gd h;rw[this]at bq;show MV bq
 show{v,?_,this▸cC};rw[hY,gd ai];show ax
inductive pf (s:aN) (L:MC) (H:aM):T->ay->Prop
 |b0:pf s L H .b0 .none
 |aU (b:MF):pf s L H (.aU b)<|.bool b
 |int (i:D) (t:Tok):pf s L H (.int i)<|.int i t
 |str (x:ME) (t:Tok):pf s L H (.str x)<|.str x t
 |aF {xs:O T} {a:MC} {us:O ay} {ag:O V}:s.heap.IsTuple a us.D->bV L H xs ag->cR ag us->pf s L H (.aF xs) ZM
 |aj {xs:O T} {a:MC} {us:O ay} {ag:O V}:s.heap.IsList a us.D->bV L H xs ag->cR ag us->pf s L H (.aj xs) ZM
def tF{ah:O Z2}{s:aN}{U:St}{H:aM}{k:Y}{t:T}{v:V}{u:ay}(I:aT X ah U H s)(p:ey k t=Y0)(r:eQ X.K L H t v)(bh:cQ v u):pf s L H t u:=by
 induction t using T.casesOn with
 |b0=>let r:aL L H .b0 v:=r;rw[aL]at r;subst r;ext bh;show .b0
 |aU b=>let r:aL L H (.aU b) v:=r;rw[aL]at r;subst r;ext bh;show .aU b
 |int i=>let r:aL L H (.int i) v:=r;rw[aL]at r;subst r;let(t,rfl):=bh;show .int i t
 |str x=>let r:aL L H (.str x) v:=r;rw[aL]at r;subst r;let(t,rfl):=bh;show .str x t
 |aF xs =>
  let(a,ag,rfl,e,q):=kN r
  ext bh
  let(aZ,bx,c5,_):=I.tuple<|e9.of e;show .aF c5 q bx
 |aj xs =>
  let(a,ag,rfl,e,q):=r
  ext bh
  let(aZ,bx,c5,_):=I.list e.gX;show .aj c5.isList q bx
 |a3 _=>ext k<;>ext p
 |fE=>ext k<;>ext p
 |cx _=>ext k<;>ext p
 |eN _=>ext k<;>ext p
def in1_units{A:dH}:A.in1.units=A.units+1:=rfl
def qbb{A:dH}{s:aN}{u ft:ay}{b c:MF}(h:RcNeAt A s u ft b)(e:b=c):RcNeAt A s u ft c:=e▸h
def JF(L:MC)(H:aM)(A:dH)(s:aN)(t t':T)(u ft:ay):Prop:=RcAt A s u ft (d1 t t')/\RcNeAt A s u ft (!d1 t t')/\((∃v,aL L H t v/\cQ v u)->(∃v,aL L H t' v/\cQ v ft)->EqAt A s u ft (d1 t t'))
def eq3{b:MF}(ae:RcAt A s u ft b)(ai:RcNeAt A s u ft<|!b)(aS:EqAt A s u ft b)(e:d1 t t'=b:=by first|rfl|rw[d1]):JF L H A s t t' u ft:=by subst e;show⟨ae,ai,λ_ _=>aS⟩
def Mk{ah:O Z2}{s:aN}{U:St}{H:aM}{n:Y}(I:aT X ah U H s)(aR:dt L n H)(k:Y):∀(A:dH) (t t':T) (u ft:ay),A.units+k<fA->ey k t=Y0->ey k t'=Y0->pf s L H t u->pf s L H t' ft->JF L H A s t t' u ft:=by
 induction k using Nat.strongRecOn with
 |_ k aQ =>
 intro A t t' u ft bP p fT d d';let dw:A.units<fA:=gr (ia _ _) bP
 let refs:∀{a b:MC} {t t':T},ey k t=Y0->ey k t'=Y0->RcAt A s ZM (.ref b) (d1 t t')->RcNeAt A s ZM (.ref b) (!d1 t t')->JF L H A s t t' ZM (.ref b):=λ{a b t t'} p fT h h'=>⟨h,h',λ⟨v,bh,ev⟩ ⟨f5,abL,abM⟩=>by
  by_cases vz:a=b
  .subst vz;obtain rfl:=ev.inj abM;obtain rfl:=Po k t t' v p fT bh abL;rw[amE k t p];show EqAt.same _
  .show .of_refs vz h⟩
 let Wf:∀{xs aO:O T} {us ws:O ay} {ag mI:O V} {g5:Y},k=g5+1->xs.all (ey g5)=Y0->aO.all (ey g5)=Y0->bV L H xs ag->cR ag us->bV L H aO mI->cR mI ws->∀j (ae:j<us.D.O) (ai:j<ws.D.O),EqAt A.in1 s us.D[j] ws.D[j] (d1 (xs.getD j .b0)<|aO.getD j .b0):=λ{xs aO us ws ag mI g5} iI e7 py de s9 eF qx j ae ai=>by
  subst iI;let ny:j<us.H:=by simpa using ae
  let qP:j<ws.H:=by simpa using ai
  let(v1,a1,bO):=JE de s9 ny;let(v2,a2,b6):=JE eF qx qP;let g:∀{xs:O T},xs.all (ey g5)=Y0->j<xs.H->ey g5 (xs.getD j .b0)=Y0:=λe7 az=>by rw[hY,gd az];show iq.mp e7 _<|nP _
  let g1:=g e7 (by rw[de.H,s9.H];show ny);let g2:=g py (by rw[eF.H,qx.H];show qP);let:=(aQ g5 (m3 _) A.in1 _ _ _ _ (by rw[in1_units];lia) g1 g2 (tF I g1 (eQ.GL aR a1) bO)<|tF I g2 (eQ.GL aR a2) b6).2.2 {(v1),a1,bO} {(v2),a2,b6};simpa using this
 cases d with
 |b0 =>
  cases d' with
  |b0=>show eq3 (RcAt.none_none) (RcNeAt.none_none)<|EqAt.same _
  |aU b=>show eq3 (RcAt.none_bool b) (RcNeAt.none_bool b)<|EqAt.none_bool b
  |int b tb=>show eq3 (RcAt.none_int b tb) (RcNeAt.none_int b tb)<|EqAt.none_int b tb
  |str b tb=>show eq3 (RcAt.none_str b tb) (RcNeAt.none_str b tb)<|EqAt.none_str b tb
  |aF cf=>show eq3 (RcAt.none_tuple cf dw) (RcNeAt.none_tuple cf dw)<|EqAt.none_tuple cf dw
  |aj cf=>show eq3 (RcAt.none_list cf dw) (RcNeAt.none_list cf dw)<|EqAt.none_list cf dw
 |aU a =>
  cases d' with
  |b0=>show eq3 (RcAt.bool_none a) (RcNeAt.bool_none a)<|EqAt.bool_none a
  |aU b=>show eq3 (RcAt.bool_bool a b) (RcNeAt.bool_bool a b)<|EqAt.bool_bool a b
  |int b tb=>show eq3 (RcAt.bool_int a b tb) (RcNeAt.bool_int a b tb)<|EqAt.bool_int a b tb
  |str b tb=>show eq3 (RcAt.bool_str a b tb) (RcNeAt.bool_str a b tb)<|EqAt.bool_str a b tb
  |aF cf=>show eq3 (RcAt.bool_tuple a cf dw) (RcNeAt.bool_tuple a cf dw)<|EqAt.bool_tuple a cf dw
  |aj cf=>show eq3 (RcAt.bool_list a cf dw) (RcNeAt.bool_list a cf dw)<|EqAt.bool_list a cf dw
 |int a ta =>
  cases d' with
  |b0=>show eq3 (RcAt.int_none a ta) (RcNeAt.int_none a ta)<|EqAt.int_none a ta
  |aU b=>show eq3 (RcAt.int_bool a ta b) (RcNeAt.int_bool a ta b)<|EqAt.int_bool a ta b
  |int b tb=>show eq3 (RcAt.int_int a ta b tb) (RcNeAt.int_int a ta b tb)<|EqAt.int_int a ta b tb
  |str b tb=>show eq3 (RcAt.int_str a ta b tb) (RcNeAt.int_str a ta b tb)<|EqAt.int_str a ta b tb
  |aF cf=>show eq3 (RcAt.int_tuple a ta cf dw) (RcNeAt.int_tuple a ta cf dw)<|EqAt.int_tuple a ta cf dw
  |aj cf=>show eq3 (RcAt.int_list a ta cf dw) (RcNeAt.int_list a ta cf dw)<|EqAt.int_list a ta cf dw
 |str a ta =>
  cases d' with
  |b0=>show eq3 (RcAt.str_none a ta) (RcNeAt.str_none a ta)<|EqAt.str_none a ta
  |aU b=>show eq3 (RcAt.str_bool a ta b) (RcNeAt.str_bool a ta b)<|EqAt.str_bool a ta b
  |int b tb=>show eq3 (RcAt.str_int a ta b tb) (RcNeAt.str_int a ta b tb)<|EqAt.str_int a ta b tb
  |str b tb=>show eq3 (RcAt.str_str a ta b tb) (RcNeAt.str_str a ta b tb)<|EqAt.str_str a ta b tb
  |aF cf=>show eq3 (RcAt.str_tuple a ta cf dw) (RcNeAt.str_tuple a ta cf dw)<|EqAt.str_tuple a ta cf dw
  |aj cf=>show eq3 (RcAt.str_list a ta cf dw) (RcNeAt.str_list a ta cf dw)<|EqAt.str_list a ta cf dw
 |@aF xs a us ag cg de s9 =>
  cases k with
  |zero=>ext p
  |succ k =>
  cases d' with
  |b0=>show eq3 (RcAt.tuple_none cg dw) (RcNeAt.tuple_none cg dw)<|EqAt.tuple_none cg dw
  |aU b=>show eq3 (RcAt.tuple_bool b cg dw) (RcNeAt.tuple_bool b cg dw)<|EqAt.tuple_bool b cg dw
  |int b tb=>show eq3 (RcAt.tuple_int b tb cg dw) (RcNeAt.tuple_int b tb cg dw)<|EqAt.tuple_int b tb cg dw
  |str b tb=>show eq3 (RcAt.tuple_str b tb cg dw) (RcNeAt.tuple_str b tb cg dw)<|EqAt.tuple_str b tb cg dw
  |@aj aO b ws mI cf eF qx=>show refs p fT (t:=.aF xs) (t':=.aj aO) (RcAt.tuple_list cg cf dw)<|RcNeAt.tuple_list cg cf dw
  |@aF aO b ws mI cf eF qx =>
   let ex:xs.H=us.H:=de.length.trans s9.H;let jc:aO.H=ws.H:=eF.length.trans qx.H;let it:=Wf P p fT de s9 eF qx;let e:((M0<|min us.D.O ws.D.O).all (λj=>d1 (xs.getD j .b0)<|aO.getD j .b0)&&us.D.O==ws.D.O)=d1 (.aF xs) (.aF aO):=by
    rw[fo,fo,<-ex,<-jc,d1];by_cases az:xs.H=aO.H
    .rw[JD xs aO az,<-az,Nat.min_self,Nq,Bool.and_true]
    .rw[JC xs aO az,beq_eq_false_iff_ne.mpr az,Cy]
   let ae:=RcAt.tuples (A:=A) cg cf dw it;let ai:=RcNeAt.tuples (A:=A) cg cf dw it;rw[e]at ae ai;show refs p fT ae ai
 |@aj xs a us ag cg de s9 =>
  cases k with
  |zero=>ext p
  |succ k =>
  cases d' with
  |b0=>show eq3 (RcAt.list_none cg dw) (RcNeAt.list_none cg dw)<|EqAt.list_none cg dw
  |aU b=>show eq3 (RcAt.list_bool b cg dw) (RcNeAt.list_bool b cg dw)<|EqAt.list_bool b cg dw
  |int b tb=>show eq3 (RcAt.list_int b tb cg dw) (RcNeAt.list_int b tb cg dw)<|EqAt.list_int b tb cg dw
  |str b tb=>show eq3 (RcAt.list_str b tb cg dw) (RcNeAt.list_str b tb cg dw)<|EqAt.list_str b tb cg dw
  |@aF aO b ws mI cf eF qx=>show refs p fT (t:=.aj xs) (t':=.aF aO) (RcAt.list_tuple cg cf dw)<|RcNeAt.list_tuple cg cf dw
  |@aj aO b ws mI cf eF qx =>
   let ex:xs.H=us.H:=de.length.trans s9.H;let jc:aO.H=ws.H:=eF.length.trans qx.H;by_cases az:xs.H=aO.H
   .let it:=Wf P p fT de s9 eF qx;let aK:us.D.O=ws.D.O:=by rw[fo,fo,<-ex,<-jc,az]
    let e:(M0 us.D.O).all (λj=>d1 (xs.getD j .b0)<|aO.getD j .b0)=d1 (.aj xs) (.aj aO):=by rw[fo,<-ex,d1,JD xs aO az]
    let ae:=RcAt.lists (A:=A) cg cf aK dw it;let ai:=RcNeAt.lists (A:=A) cg cf aK dw it;rw[e]at ae ai;show refs p fT ae ai
   .let e:d1 (.aj xs) (.aj aO)=Y1:=by rw[d1,JC xs aO az]
    let aK:(us.D.O != ws.D.O)=Y0:=bne_iff_ne.mpr (by rw[fo,fo,<-ex,<-jc];show az);show refs p fT (e▸RcAt.lists_lengths cg cf aK dw) (qbb (RcNeAt.lists_lengths cg cf aK dw)<|by rw[e];rfl)
def ahR{ah:O Z2}{s:aN}{U:St}{H:aM}{n:Y}(I:aT X ah U H s)(aR:dt L n H)(k:Y)(A:dH)(t t':T)(u ft:ay)(bP:A.units+(k+1)<fA)(p:ey (k+1) t=Y0)(fT:ey (k+1) t'=Y0)(d:pf s L H t u)(d':pf s L H t' ft):RcNeAt A s u ft (!d1 t t') :=
 (Mk I aR (k+1) A t t' u ft bP p fT d d').2.1
def Pp{r:MF}(h:pA a b=J r):(∃av,a=.a3 av/\b=.a3 []/\r=av.isEmpty)\/(ey 6 a=Y0/\ey 6 b=Y0/\r=d1 a b):=by
 let gen:(if ey 6 a&&ey 6 b then J (d1 a b) else C)=J r->(ey 6 a=Y0/\ey 6 b=Y0/\r=d1 a b):=λh=>by
  split at h
  .rename_i q;rw[iR]at q
   ext h;show{(q.1),q.2,P}
  .ext h
 induction a using T.casesOn with
 |a3 av =>
  induction b using T.casesOn with
  |a3 ws =>
   let h:(if ws.isEmpty then J av.isEmpty else C)=J r:=h;cases ws with
   |nil=>ext h;show .inl {(av),P,P,P}
   |cons p q=>ext h
  |_=>show .inr<|gen h
 |_=>show .inr<|gen h
end
end a8.bD
namespace a8.bD
open PySem PySem.Spec PyProof.Rows
section
variable {X:bK}{L:MC}
def UR(bP:X.A.units+6<fA)(hd:∀(ah:O Z2) (s:aN) (U:St) (H:aM) (a b:MC) (ws:O ZS) (Q:ay->aN->Prop),aT X ah U H s->iE H a (.aH ws)->iE H b (.aH [])->(∀s',aT X ah U H s'->Q (.bool ws.isEmpty) s')->bj Z4 X.A (hn .Eq ZM<|.ref b) Q X.cL s) :
  fJ X L (two<|hn .Eq) hu:=by
 intro B ah s U H ag us aE n t m Q I bh ba aR e k;have⟨a,b,r,rY,hH,eU,em⟩:∃a b r,aE=[a,b]/\pA a b=J r/\t=.aU r/\m=.aa:=by
  match aE,e with
  |[a,b],e=>let(r,ae,ai):=dR e;ext ai;show{(a),b,r,P,ae,P,P}
 subst rY eU em;let(v,w,rfl,bx,cn):=l7 ba;let(fS,gh,rfl,aV,bb):=bh.two;let fin:∀s',aT X ah U H s'->gs X ah U Q (.bool r) s':=λs' eL=>{.aU r,H,eL,P,k _ H ZQ aR<|by show aL L H (.aU r) _;rw[aL]}
 rcases Pp hH with⟨av,rfl,rfl,rfl⟩|⟨p,fT,rfl⟩
 .let(a1,gO,rfl,_,aB,bE):=bx;let(a2,iF,rfl,_,ax,bR):=cn
  ext aV;ext bb
  rw[cU]at bR;subst bR;let:gO.isEmpty=av.isEmpty:=by let:=cU.length bE;ext av<;>ext gO<;>first|rfl|(simp at this)
  show hd ah s U H a1 a2 gO _ I aB ax λs' eL=>by rw[this];show fin s' eL
 .show(Mk I aR 6 X.A a b fS gh bP p fT (tF I p bx aV)<|tF I fT cn bb).1 X.R X.w X.cL _ (fin s I)
def US(bP:X.A.units+6<fA)(hd:∀(ah:O Z2) (s:aN) (U:St) (H:aM) (a b:MC) (ws:O ZS) (Q:ay->aN->Prop),aT X ah U H s->iE H a (.aH ws)->iE H b (.aH [])->(∀s',aT X ah U H s'->Q (.bool<|!ws.isEmpty) s')->bj Z4 X.A (hn .NotEq ZM<|.ref b) Q X.cL s) :
  fJ X L (two<|hn .NotEq) hv:=by
 intro B ah s U H ag us aE n t m Q I bh ba aR e k;have⟨a,b,r,rY,hH,eU,em⟩:∃a b r,aE=[a,b]/\pA a b=J r/\t=.aU (!r)/\m=.aa:=by
  match aE,e with
  |[a,b],e=>let(r,ae,ai):=dR e;ext ai;show{(a),b,r,P,ae,P,P}
 subst rY eU em;let(v,w,rfl,bx,cn):=l7 ba;let(fS,gh,rfl,aV,bb):=bh.two;let fin:∀s',aT X ah U H s'->gs X ah U Q (.bool<|!r) s':=λs' eL=>{.aU<|!r,H,eL,P,k _ H ZQ aR<|by show aL L H (.aU<|!r) _;rw[aL]}
 rcases Pp hH with⟨av,rfl,rfl,rfl⟩|⟨p,fT,rfl⟩
 .let(a1,gO,rfl,_,aB,bE):=bx;let(a2,iF,rfl,_,ax,bR):=cn
  ext aV;ext bb
  rw[cU]at bR;subst bR;let:gO.isEmpty=av.isEmpty:=by let:=cU.length bE;ext av<;>ext gO<;>first|rfl|(simp at this)
  show hd ah s U H a1 a2 gO _ I aB ax λs' eL=>by rw[this];show fin s' eL
 .show(ahR I aR 5 X.A a b fS gh bP p fT (tF I p bx aV)<|tF I fT cn bb) X.R X.w X.cL _ (fin s I)
def ajp:fJ X L (two<|n1 .Add) dE:=by
 intro B ah s U H ag us aE n t m Q I bh ba aR e k
 induction aE using MQ with
 |nil=>ext e
 |cons dZ fe =>
  induction dZ using T.casesOn with
  |int a =>
   induction fe using MQ with
   |nil=>ext e
   |cons jT vA =>
    induction jT using T.casesOn with
    |int b =>
     induction vA using MQ with
     |nil =>
      ext e
      let(v,w,rfl,bx,cn):=l7 ba;obtain rfl:=i1 bx;obtain rfl:=i1 cn;let(fS,gh,rfl,aV,bb):=bh.two;show aiR ah s U H _ _ fS gh Q I aV bb {a,b,P,P,k _ H ZQ aR<|by show aL L H (.int _) _;rw[aL]}
     |cons _ _=>ext e
    |_=>ext e
  |aF xs =>
   induction fe using MQ with
   |nil=>ext e
   |cons lj JG =>
    induction lj using T.casesOn with
    |aF aO =>
     induction JG using MQ with
     |nil =>
      let e:(if xs.H+aO.H<=bp then J (T.aF<|xs++aO,a9.aa) else C)=J (t,m):=e;split at e
      .rename_i ao
       ext e
       let(v,w,rfl,bx,cn):=l7 ba;let(a,f6,rfl,cB,dk):=kN bx;let(b,xq,rfl,iT,fu):=kN cn;let(fS,gh,rfl,aV,bb):=bh.two
       ext aV;ext bb
       let(aZ,pI,c5,_):=I.tuple<|e9.of (K:=X.K) cB;let(i8,nz,cP,_):=I.tuple<|e9.of (K:=X.K) iT;let((cls,dd,data,cW),aX,aI,aY,hd):=id c5;let((agZ,r0,data2,AB),pJ,AD,ck,hd2):=id cP;simp only at aI hd AD hd2;subst aI hd AD hd2;let d0:=dk.H;let hp:=fu.H;let mA:=pI.H;let pg:=nz.H;by_cases h0:aZ=[]
       .show CL {_,aX,P} {_,pJ,P} HE HO PySem.F.slot_tuple_add PySem.F.entry_tuple_add (PySem.F.args_tuple_add_2 _ _) (tuple_addW0 a b aZ.D i8.D aY ck dd r0 cW AB<|by simp[h0]) {aX,pJ,?_};let:xs=[]:=uc (by rw[d0,mA,h0];rfl);subst this;show{.ref b,H,I,P,k _ H ZQ aR<|rZ iT fu}
       .by_cases ae:i8=[]
        .show CL {_,aX,P} {_,pJ,P} HE HO PySem.F.slot_tuple_add PySem.F.entry_tuple_add (PySem.F.args_tuple_add_2 _ _) (tuple_addW1 a b aZ.D i8.D aY ck dd r0 cW AB (by simpa using h0)<|by simp[ae]) {aX,pJ,?_};let:aO=[]:=uc (by rw[hp,pg,ae];rfl);subst this;rw[nQ]at k;show{.ref a,H,I,P,k _ H ZQ aR<|rZ cB dk}
        .show CL {_,aX,P} {_,pJ,P} HE HO PySem.F.slot_tuple_add PySem.F.entry_tuple_add (PySem.F.args_tuple_add_2 _ _) (tuple_addW2 a b aZ.D i8.D aY ck dd r0 cW AB (by simpa using h0) (by simpa using ae)<|by rw[fo,fo,<-mA,<-pg,<-d0,<-hp];show rV ao) {aX,pJ,?_};let rB:aZ.D++i8.D=(aZ++i8).D:=by simp
         rw[rB];let aC:H s.L=C:=I.bX.fresh<|b8 _;show{.ref s.L,_,I.laid (t':=s.toks) (o:=.aF<|f6++xq) (λb cx q=>ec _ q) (b8 _) {by rw[gm,<-d0,<-hp];show rV ao,_,pI.append nz,ni.new _ _},P,k _ _ (.new aC) (aR.new aC)<|rZ fH<|(bV.mono (.new aC) _ _ dk).append (bV.mono (.new aC) _ _ fu)}
      .ext e
     |cons _ _=>ext e
    |_=>ext e
  |aj xs =>
   induction fe using MQ with
   |nil=>ext e
   |cons jy abN =>
    induction jy using T.casesOn with
    |aj aO =>
     induction abN using MQ with
     |nil =>
      let e:(if xs.H+aO.H<=bp then J (T.aj<|xs++aO,a9.aA) else C)=J (t,m):=e;split at e
      .rename_i ao
       ext e
       let(v,w,rfl,bx,cn):=l7 ba;let(a,f6,rfl,cB,dk):=bx;let(b,xq,rfl,iT,fu):=cn;let(fS,gh,rfl,aV,bb):=bh.two
       ext aV;ext bb
       let(aZ,pI,((cls,dd,data,cW),aY,aX,aI,_,hd),_):=I.list cB.gX;let(i8,nz,((agZ,r0,data2,AB),ck,pJ,AD,_,hd2),_):=I.list iT.gX;simp only at aI hd AD hd2;subst aI hd AD hd2;let d0:=dk.H;let hp:=fu.H;let mA:=pI.H;let pg:=nz.H;show CL {_,aX,P} {_,pJ,P} noFill_list_add seq_list_add PySem.F.slot_list_add PySem.F.entry_list_add (PySem.F.args_list_add_2 _ _) (list_addW a b aZ.D i8.D aY ck dd r0 cW AB<|by rw[fo,fo,<-mA,<-pg,<-d0,<-hp];show rV ao) {aX,pJ,?_};let rB:aZ.D++i8.D=(aZ++i8).D:=by simp
       rw[rB];let aC:H s.L=C:=I.bX.fresh<|b8 _;show{.ref _,_,I.Un (t':=s.toks) (pI.append nz) (by rw[gm,<-d0,<-hp];show rV ao),P,k _ _ (.new aC) (aR.new aC) {_,P,aC,_,fH,(bV.mono (.new aC) _ _ dk).append (bV.mono (.new aC) _ _ fu)}}
      .ext e
     |cons _ _=>ext e
    |_=>ext e
  |_=>ext e
def ajq:fJ X L (λus=>call (.builtin "len") us) fG:=by
 intro B ah s U H ag us aE n t m Q I bh ba aR e k;let num:∀(i:D),Val X.K B L H H (.int i) .aa<|.int i:=λi=>by show aL L H (.int i) _;rw[aL]
 induction aE using MQ with
 |nil=>ext e
 |cons dZ fe =>
  induction dZ using T.casesOn with
  |aj xs =>
   induction fe using MQ with
   |nil =>
    ext e
    let(v,rfl,a,f6,rfl,cB,dk):=i2 ba;show IV ah s U H _ us Q I bh {_,f6.H,P,.inl {(f6),cB.gX,P},by rw[<-dk.H];show k _ H ZQ aR<|num _}
   |cons _ _=>ext e
  |aF xs =>
   induction fe using MQ with
   |nil =>
    ext e
    let(v,rfl,r):=i2 ba;let(a,f6,rfl,cB,dk):=kN r;show IV ah s U H _ us Q I bh {_,f6.H,P,.inr {f6,e9.of cB,P},by rw[<-dk.H];show k _ H ZQ aR<|num _}
   |cons _ _=>ext e
  |a3 av =>
   induction fe using MQ with
   |nil =>
    ext e
    let(v,rfl,a,f6,rfl,_,cB,dk):=i2 ba;let(u,rfl,fa):=bh.one
    ext fa
    show ahD I cB λt' s' eL=>{.int f6.H,H,eL,{(t'),P},by rw[<-cU.length dk];show k _ H ZQ aR<|num _}
   |cons _ _=>ext e
  |fE  =>
   induction fe using MQ with
   |nil =>
    ext e
    let(v,rfl,r):=i2 ba;let r:aL L H .fE v:=r;rw[aL]at r;subst r;show IV ah s U H _ us Q I bh {_,n,P,.inl {_,ht.of aR,by rw[mX]},k _ H ZQ aR<|num _}
   |cons _ _=>ext e
  |_=>ext e
def amF:fJ X L (λus=>call (.type "tuple") us) lG:=by
 intro B ah s U H ag us aE n t m Q I bh ba aR e k
 induction aE using MQ with
 |nil=>ext e
 |cons dZ fe =>
  induction dZ using T.casesOn with
  |aj xs =>
   induction fe using MQ with
   |nil =>
    ext e
    let(v,rfl,a,f6,rfl,cB,dk):=i2 ba;show OL ah s U H _ us Q I bh {a,f6,P,.inl {cB.gX,λl az=>k _ _ (.new az) (aR.new az)<|rZ fH<|bV.mono (.new az) _ _ dk}}
   |cons _ _=>ext e
  |aF xs =>
   induction fe using MQ with
   |nil =>
    ext e
    let(v,rfl,r):=i2 ba;let(a,f6,rfl,cB,dk):=kN r;show OL ah s U H _ us Q I bh {a,f6,P,.inr {e9.of cB,k _ H ZQ aR<|rZ cB dk}}
   |cons _ _=>ext e
  |_=>ext e
def vB:T->MB (O T)
 |.aj xs=>J xs
 |.aF xs=>J xs
 |.a3 av=>J (av.map λdj=>jg dj.1)
 |_=>C
def AE{A':dH}{E:ay->aN->Prop}{ah:O Z2}{s:aN}{U:St}{H:aM}{t:T}{v:V}{u:ay}{xs:O T}(bg:A'.handled=C)(I:aT X ah U H s)(r:eQ X.K L H t v)(bh:cQ v u)(h:vB t=J xs) :
  bj Z4 A' (k6 u) (λit gC=>∃kC fp wr V8 St,it=.ref kC/\Walks X.R X.w A' kC fp wr xs.H V8 St/\St 0 gC.Q/\(∀b∈fp,b<gC.L)/\(∀i u,V8 i u->∃v x,cQ v u/\xs[i]?=J x/\aL L H x v) /\
   ∀h' bz,(∀b o,b∉wr->gC.heap.get? b=J o->h'.get? b=J o)->aT X ah U H { gC with heap:=h',toks:=bz}) E s:=by
 let fin:∀{o:MT} {h':MJ} {bz:Y},(∀b dc,b∉[s.L]->(s.heap.push o).get? b=J dc->h'.get? b=J dc)->aT X ah U H { s with heap:=h',toks:=bz}:=λ{o h' bz} b3 =>
  I.kept λb dc e=>b3 b dc (by simp;show eP<|ed e)<|ec _ e
 let item:∀{us:O ay} {ag:O V} {aO:O T},cR ag us->bV L H aO ag->∀(i:Y) (w:ay),us.D[i]?=J w->∃v x,cQ v w/\aO[i]?=J x/\aL L H x v:=λ{us ag aO} bh rs i w e=>by
  let e:us[i]?=J w:=by simpa using e
  let hi:i<us.H:=(kY.mp e).1;let(v,ae,ai):=JE rs bh hi;let kM:i<aO.H:=by rw[rs.H,bh.H];show hi
  show{v,aO[i],?_,by simp[kM],?_}
  .let:=(kY.mp e).2;rw[<-this];show ai
  .rw[hY,gd kM]at ae;show ae
 induction t using T.casesOn with
 |aj aO =>
  cases h;let(a,ag,rfl,e,q):=r;cases bh;let(aZ,bh,p,hz):=I.list e.gX;let bl:a≠s.L:=eP (let ⟨o,aX,_⟩:=p.isList;ed aX);show CD p.isList {s.L,[s.L,a],[s.L],λi v=>aZ.D[i]?=J v,λi h=>h.IsListIter s.L a i/\h.IsList a aZ.D,P,?_,{{_,fZ _ P,P,P},p.isList.push _},λb ao=>?_,item bh q,λh' bz b3=>fin b3}
  .let:=Walks.list (prog:=X.R) (w:=X.w) bg s.L a bl aZ.D;rw[show aZ.D.O=xs.length by rw[fo,<-bh.H,<-q.H]]at this;show this
  .rw[lS];simp at ao;rcases ao with rfl|rfl
   .show m3 _
   .show m2 (let ⟨o,aX,_⟩:=p.isList;ed aX)
 |aF aO =>
  cases h;let(a,ag,rfl,e,q):=kN r;cases bh;let(aZ,bh,p,hz):=I.tuple<|e9.of (K:=X.K) e;let p:s.heap.IsTuple a aZ.D:=p;let bl:a≠s.L:=eP (let ⟨o,aX,_⟩:=p;ed aX);show Hz p ⟨s.L,[s.L,a],[s.L],λi v=>aZ.D[i]?=J v,λi h=>h.IsTupleIter s.L a i/\h.IsTuple a aZ.D,P,?_,{{_,fZ _ P,P,P},let ⟨o,aX,r⟩:=p;{o,ec _ aX,r}},λb ao=>?_,item bh q,λh' bz b3=>fin b3⟩
  .let:=Walks.tuple (prog:=X.R) (w:=X.w) bg s.L a bl aZ.D;rw[show aZ.D.O=xs.length by rw[fo,<-bh.H,<-q.H]]at this;show this
  .rw[lS];simp at ao;rcases ao with rfl|rfl
   .show m3 _
   .show m2 (let ⟨o,aX,_⟩:=p;ed aX)
 |a3 av =>
  ext h
  let(a,ws,rfl,na,e,q):=r
  ext bh
  let(z,hd,us,rel,dd):=jC I.bX e;let(ep,dT):=dd.dictAt;let az:ws.H=us.H:=Nj rel;let bl:a≠s.L:=eP dT.lt_size;show wpAny_pyIter_dict hd dT {s.L,[s.L,a],[s.L],λi v=>∃k x,us[i]?=J (k,x)/\(hr X.R X.w).is k v=Y0,λi h=>h.IsKeyIter s.L a i us.H ep/\h.DictAt (hr X.R X.w) a us ep,P,?_,{{_,fZ _ P,P,P},dT.push _},λb ao=>?_,λi w aC=>?_,λh' bz b3=>fin b3}
  .let:=Walks.dictKeys (prog:=X.R) (w:=X.w) (knd:=hr X.R X.w) bg s.L a bl us ep;let aW:us.H=(av.map λdj=>jg dj.1).H:=by rw[bZ,cU.length q,az]
   rw[<-aW];show this
  .rw[lS];simp at ao;rcases ao with rfl|rfl
   .show m3 _
   .show m2 dT.lt_size
  .let(k,x,ae,ai):=aC;show{eV k,jg k,Jr ai,?_,Js k};rw[hO];let hi:i<us.H:=(kY.mp ae).1;let kM:i<av.H:=by rw[cU.length q,az];show hi
   let(v,g1,_):=Ed (k:=av[i].1) (t:=av[i].2) q (show av[i]?=J (av[i].1,av[i].2) by simp[kM]);let(ft,g2):=Jq rel g1;rw[ae]at g2;let:k=av[i].1:=by injection g2 with g2;injection g2
   rw[gd kM];show J (jg av[i].1)=J (jg k);rw[this]
 |_=>ext h
theorem nA:∀{xs:O T} {ns:O D},e5 xs=J ns->xs=ns.map T.int
 |[],_,h=>by ext h;rfl
 |.int i::r,ns,h=>by let(ms,ae,ai):=dR (show(e5 r).map (i::·)=J ns from h);subst ai;rw[cj,nA ae]
 |.b0::_,_,h=>by ext h
 |.aU _::_,_,h=>by ext h
 |.str _::_,_,h=>by ext h
 |.aF _::_,_,h=>by ext h
 |.aj _::_,_,h=>by ext h
 |.a3 _::_,_,h=>by ext h
 |.fE::_,_,h=>by ext h
theorem Pq:∀{av:O (Key×T)} {ns:O D},ua av=J ns->(av.map λdj=>jg dj.1)=ns.map T.int
 |[],_,h=>by ext h;rfl
 |(.inl k,x)::r,ns,h=>by let(ms,ae,ai):=dR (show(ua r).map (k::·)=J ns from h);subst ai;rw[cj,cj,Pq ae];rfl
 |(.inr k,x)::r,ns,h=>by ext h
def vC{ns:O D}{i:Y}(h:∃v x,cQ v u/\(ns.map T.int)[i]?=J x/\aL L H x v):∃t,u=.int (ns.getD i 0) t:=by
 let(v,x,ae,ai,aS):=h;rw[hO]at ai;cases e:ns[i]? with
 |none=>rw[e]at ai;ext ai
 |some z =>
  rw[e]at ai;let ai:T.int z=x:=MV ai;subst ai;rw[aL]at aS;subst aS;let(t,rfl):=ae;show{t,?_};rw[hY,e];rfl
def Pr(lt:D->D->MF)(ns:O D):∀(m:Y),m<ns.H->ns.getD (uE (λi j=>lt (ns.getD i 0)<|ns.getD j 0) m) 0=((ns.take<|m+1).tail).foldl (λa b=>if lt b a then b else a) (ns.getD 0 0):=by
 intro m
 induction m with
 |zero =>
  intro h;cases ns with
  |nil=>simp at h
  |cons x xs=>rfl
 |succ m aQ =>
  intro h;let aQ:=aQ<|ei h;let e:(ns.take<|m+1+1).tail=(ns.take<|m+1).tail++[ns.getD (m+1) 0]:=by
   cases ns with
   |nil=>simp at h
   |cons x xs =>
    rw[qax,qax,List.tail_cons,List.tail_cons];let h':m<xs.H:=by simpa using h
    rw[G6,gd h',hY,B4,gd h'];rfl
  rw[e,G2,<-aQ];show ns.getD (if lt (ns.getD (m+1) 0) (ns.getD (uE (λi j=>lt (ns.getD i 0)<|ns.getD j 0) m) 0)=Y0 then m+1 else uE (λi j=>lt (ns.getD i 0)<|ns.getD j 0) m) 0=_;rw[jj,List.foldl_nil];split<;>rfl
def abO{i:D}(h:Fa ns=J i):0<ns.H/\ns.getD (uE (λi j=>decide (ns.getD i 0<ns.getD j 0))<|ns.H-1) 0=i:=by
 cases ns with
 |nil=>ext h
 |cons x xs =>
  show{Nat.succ_pos _,?_};let:=Pr (λa b=>decide (a<b)) (x::xs) xs.H<|m3 _;show(x::xs).getD (uE _<|xs.H+1-1) 0=i;rw[qaR];show Eq.trans this ?_;rw[show(x::xs).take (xs.H+1)=x::xs from qd<|b8 _];let h:xs.foldl (λa b=>if b<a then b else a) x=i:=MV h;rw[<-h];show xs.foldl (λa b=>if decide (b<a)=Y0 then b else a) x=_;erw[Nd]
def Pt{t:T}{xs:O T}{ns:O D}{i:D}{ah:O Z2}{s:aN}{U:St}{H:aM}{v:V}{u:ay}{Q:fC}(bg:X.A.handled=C)(I:aT X ah U H s)(r:eQ X.K L H t v)(bh:cQ v u)(h:vB t=J xs)(au:xs=ns.map T.int)(az:Fa ns=J i)(q:Q (.int i) H) :
  bj Z4 X.A (call (.builtin "min") [u]) (gs X ah U Q) X.cL s:=by
 subst au;let(h0,ao):=abO az;show call_min_walk (cm (AE (A':=X.A.in1) bg I r bh h) λit gC ⟨kC,fp,wr,V8,St,e,W,st,ov,eS,fin⟩=>?_);show{kC,fp,wr,_,V8,St,_,e,W,st,ov,by simpa using h0,CmpOf.ints_lt (λi=>ns.getD i 0) λi v bu=>vC<|eS i v bu,λf5 h' bz bu b3=>?_};let(tG,rfl):=vC<|eS _ _ bu;rw[bZ];show{.int i,H,fin h' bz b3,{tG,by rw[ao]},q}
def ajr(aI:X.calm=Y0):fJ X L (λus=>call (.builtin "min") us) p1:=by
 intro B ah s U H ag us aE n t m Q I bh ba aR e k;let num:∀(i:D),Val X.K B L H H (.int i) .aa<|.int i:=λi=>by show aL L H (.int i) _;rw[aL]
 let bg:=I.ok.hd aI
 induction aE using MQ with
 |nil=>ext e
 |cons dZ fe =>
  induction dZ using T.casesOn with
  |aj xs =>
   induction fe using MQ with
   |nil =>
    let(ns,aB,ax):=cE (show(e5 xs).bind _=_ from e);let(i,bq,cC):=dR ax
    ext cC
    let(v,rfl,r):=i2 ba;let(u,rfl,fa):=bh.one;show Pt bg I r fa P (nA aB) bq<|k _ H ZQ aR<|num i
   |cons _ _=>ext e
  |a3 av =>
   induction fe using MQ with
   |nil =>
    let(ns,aB,ax):=cE (show(ua av).bind _=_ from e);let(i,bq,cC):=dR ax
    ext cC
    let(v,rfl,r):=i2 ba;let(u,rfl,fa):=bh.one;show Pt bg I r fa P (Pq aB) bq<|k _ H ZQ aR<|num i
   |cons _ _=>ext e
  |int a =>
   induction fe using MQ with
   |nil=>ext e
   |cons jT vA =>
    induction jT using T.casesOn with
    |int b =>
     induction vA using MQ with
     |nil =>
      ext e
      let(v,w,rfl,bx,cn):=l7 ba;obtain rfl:=i1 bx;obtain rfl:=i1 cn;show aaQ aI ah s U H _ us Q I bh {a,b,P,k _ H ZQ aR<|num _}
     |cons _ _=>ext e
    |_=>ext e
  |_=>ext e
def Ek(ns:O D):∀(m:Y),m<=ns.H->preSum (λi=>ns.getD i 0) m=bA (ns.take m):=by
 let app:∀(a b:O D),bA (a++b)=bA a+bA b:=λa b=>by
  induction a with
  |nil=>simp[bA]
  |cons x xs aQ=>rw[qf,bA,aQ,bA];lia
 intro m
 induction m with
 |zero=>intro _;rfl
 |succ m aQ =>
  intro h;let h':m<ns.H:=h;rw[preSum,aQ<|ei h',G6,gd h',app,hY,gd h'];simp[bA]
def abP(h:∀x∈ns,-1000000<=x/\x<=1000000):-(1000000*(ns.H:D))<=bA ns/\bA ns<=1000000*(ns.H:D):=by
 induction ns with
 |nil=>simp[bA]
 |cons x xs aQ =>
  let:=aQ λy aJ=>h y<|cZ _ aJ;let:=h x cc;rw[bA,dv]
  push_cast
  lia
theorem Pu:∀{xs:O T} {bs:O MF},q9 xs=J bs->xs=bs.map T.aU
 |[],_,h=>by ext h;rfl
 |.aU i::r,ns,h=>by let(ms,ae,ai):=dR (show(q9 r).map (i::·)=J ns from h);subst ai;rw[cj,Pu ae]
 |.b0::_,_,h=>by ext h
 |.int _::_,_,h=>by ext h
 |.str _::_,_,h=>by ext h
 |.aF _::_,_,h=>by ext h
 |.aj _::_,_,h=>by ext h
 |.a3 _::_,_,h=>by ext h
 |.fE::_,_,h=>by ext h
def ak4{bs:O MF}{i:Y}(h:∃x y,cQ x v/\(bs.map T.aU)[i]?=J y/\aL L H y x):v=.bool (bs.getD i Y1):=by let(x,y,ae,ai,aS):=h;rw[hO]at ai;let(z,e,rfl):=dR ai;rw[aL]at aS;subst aS;rw[hY,e];show ae
theorem Pw:∀bs:O MF,((M0 bs.H).all λi=>bs.getD i Y1)=bs.all id
 |[]=>rfl
 |b::bs=>by rw[dv,qar,oR,y5,oR,<-Pw bs];rfl
def ajs(aI:X.calm=Y0):fJ X L (λus=>call (.builtin "all") us) wu:=by
 intro B ah s U H ag us aE n t m Q I bh ba aR e k;let bg:=I.ok.hd aI
 induction aE using MQ with
 |nil=>ext e
 |cons dZ fe =>
  induction dZ using T.casesOn with
  |aj xs =>
   induction fe using MQ with
   |nil =>
    let(bs,aB,ax):=dR (show(q9 xs).map _=_ from e)
    ext ax
    obtain rfl:=Pu aB;let(v,rfl,r):=i2 ba;let(u,rfl,fa):=bh.one;show call_all_walk (cm (AE (A':=X.A.in1) bg I r fa P) λit gC ⟨kC,fp,wr,V8,St,e,W,st,ov,eS,fin⟩=>?_);show{kC,fp,wr,_,V8,St,λi=>bs.getD i Y1,e,W,st,λi v s' fi oa bu ej=>?_,λh' bz b3=>?_}
    .rw[ak4<|eS i v bu];show uv ej
    .rw[bZ,Pw bs];show{.aU _,H,fin h' bz b3,P,k _ H ZQ aR<|by show aL L H (.aU _) _;rw[aL]}
   |cons _ _=>ext e
  |_=>ext e
def Vz{i:D}(r:bV L H xs ag)(h:fV xs i=J t):∃v,xW ag i=J v/\aL L H t v:=by
 let az:=r.H;delta fV at h;delta xW tu;by_cases h0:0<=i
 .rw[Y2 h0]at h |-;by_cases ae:i<xs.H
  .rw[Y2 ae]at h;rw[Y2<|by rw[<-az];show ae];let(v,aB,ax):=r.get h;show{(v),aB,ax}
  .rw[Y3 ae]at h;ext h
 .rw[Y3 h0]at h |-;by_cases ae:-(xs.H:D)<=i
  .rw[Y2 ae]at h;rw[Y2<|by rw[<-az];show ae];let(v,aB,ax):=r.get h;show{v,by rw[<-az];show aB,ax}
  .rw[Y3 ae]at h;ext h
def ajt(bP:X.A.units+1<fA)(value slice:MG)(aK:∀v u,CM slice Y1 v u=operate [v,u] (qp v u)):fJ X L (two λv u=>CP value slice v u) cz:=by
 intro B ah s U H ag us aE n t m Q I bh ba aR e k
 match aE,e with
 |[.aj xs,.int i],e =>
  let(t0,aB,ax):=dR (show(fV xs i).map _=_ from e)
  ext ax
  let(v,w,rfl,bx,cn):=l7 ba;obtain rfl:=i1 cn;let(a,f6,rfl,cB,dk):=bx;let(fS,gh,rfl,aV,bb):=bh.two;let(x,ae,ai):=Vz dk aB;show akH value slice ah s U H _ _ fS gh Q I aV bb {a,f6,i,x,P,P,cB.gX,ae,k _ H ZQ aR ai}<|aK _ _
 |[.aF xs,.int i],e =>
  let(t0,aB,ax):=dR (show(fV xs i).map _=_ from e)
  ext ax
  let(v,w,rfl,bx,cn):=l7 ba;obtain rfl:=i1 cn;let(a,f6,rfl,cB,dk):=kN bx;let(fS,gh,rfl,aV,bb):=bh.two;let(x,ae,ai):=Vz dk aB;show ai2 value slice ah s U H _ _ fS gh Q I aV bb {a,f6,i,x,P,P,e9.of cB,ae,k _ H ZQ aR ai}<|aK _ _
 |[.a3 av,kt],e =>
  let(e0,aB,ax):=cE (show(kq kt).bind _=_ from e);let(t0,bq,cC):=dR ax
  ext cC
  let(v,w,rfl,bx,cn):=l7 ba;obtain rfl:=Jn aB cn;let(a,ws,rfl,_,cB,dk):=bx;let(fS,gh,rfl,aV,bb):=bh.two
  ext aV
  rcases cU.at e0 dk with⟨z,_⟩|⟨t1,x,ae,ai,aS⟩
  .rw[bq]at z;ext z
  .rw[bq]at ae;ext ae;let g:BM H a (eV e0)<|some x:={(ws),e0,cB,P,ai.symm}
   show tail_any (ops:=[.ref a,gh]) (aa4 I g) PySem.F.slot_dict_getitem.lookup (aa2 bP I g bb λfB s' eL oc=>{x,H,eL,oc,k _ H ZQ aR aS})<|aK _ _
def zN(X:bK)(L:MC)(e:MB MG)(d:zC):Prop:=∀B S n i n',d S n=J (i,n')->zB X e (λU H Q=>dD X.K B L S n U H/\∀ak,dC L H ak->dt L n' ak->Q i ak)
def ak5:zN X L C vl:=by
 intro B S n i n' hd ah s U H Q I ⟨R,k⟩
 ext hd
 show akE ah s U H Q I<|k H ZQ R.aR
def ak6(h:bM X L e d):zN X L (J e)<|vm d:=by
 intro B S n i n' hd ah s U H Q I ⟨R,k⟩;let((t,m,aY),aB,ax):=cE hd
 induction t using T.casesOn with
 |int j =>
  ext ax
  show akF (h B S n _ m aY aB) ah s U H Q I {R,λv ak x y z=>?_};obtain rfl:=i1<|z.root (R.mono x y) R.aR;show{j,P,k ak x y}
 |_=>ext ax
def tH(n d:Y)(o:MB D):bound n d o=gp.d4 n d o:=by ext o<;>rfl
def ak7{o e f:MG}{eG jz ND:bS}{apos d3:MK}(bP:X.A.units+1<fA)(aX:bM X L o eG)(he:bM X L e jz)(hf:bM X L f ND)(m:M2 X o "get" apos e f d3):bM X L (.Call (.Attribute o "get" apos) [e,f] [] d3)<|aD kH<|af eG<|af jz<|af ND aw:=by
 intro B S n t jx n' hd ah s U H Q I ⟨R,k⟩;let(to,mo,no,te,CZ,ne,rC,WH,f1,g1,ae,bq):=akR hd;show amu bP (aX B S n to mo no f1) (he B S no te CZ ne g1) (hf B S ne rC WH n' ae) m ah s U H Q I {R,λv H1 bE dZ dB=>?_};let bN:=R.mono bE dZ
 induction to using T.casesOn with
 |a3 av =>
  let bq:(if hc rC then C else(kq te).map λk=>((i0 av k).getD rC,a9.aa))=J (t,jx):=bq;split at bq
  .ext bq
  .rename_i ao;let(e0,aV,bb):=dR bq
   ext bb
   let ba:=dB.root bN R.aR;let(a,ws,rfl,na,cB,dk):=id ba;show{a,P,{(ws),cB},bN,λv2 b5 bR jT dU=>?_};let dF:=bN.mono bR jT;show{dF,λWD eR cy lj jv=>?_};let ng:=dF.mono cy lj;obtain rfl:=Jn aV<|dU.root dF bN.aR;let eh:=bR.trans cy;let(gg,El,abQ,_,iT,fu):=eQ.ext bN.aR eh ba
   ext abQ
   show{q4 El e0,{(El),e0,iT,P,P},k _ eR (bE.trans eh) lj ?_};rcases cU.at e0 fu with⟨cb,d9⟩|⟨t,x,cb,d9,jU⟩
   .rw[cb,d9];show(jv.root ng dF.aR).rep (by simpa using ao)
   .rw[cb,d9];show jU
 |_=>ext bq
noncomputable def tyName:Ty->M8
 |.int=>"int"
 |.bool=>"bool"
 |.list=>"list"
 |.tuple=>"tuple"
 |.str=>"str"
 |.dict=>"dict"
noncomputable def V4:T->M8
 |.b0=>"NoneType"
 |.aU _=>"bool"
 |.int _=>"int"
 |.str _=>"str"
 |.aF _=>"tuple"
 |.aj _=>"list"
 |.a3 _=>"dict"
 |.fE=>"list"
 |.cx _=>"object"
 |.eN _=>"object"
def aju(K:MN)(k:Ty)(t:T)(b:MF)(h:tY k t=J b):M6 K (.type<|V4 t) (.type<|tyName k)=J b:=by
 ext k<;>ext t<;>first|(ext h;done)|(ext h;first|rfl|decide+kernel|kernel_rfl)
def amG{ah:O Z2}{s:aN}{U:St}{H:aM}{t:T}{v:V}{u c:ay}{b:MF}{Q:ay->aN->Prop}(I:aT X ah U H s)(r:eQ X.K L H t v)(bh:cQ v u)(ct:t≠.fE)(bl:∀a,t≠.cx a)(OX:∀a,t≠.eN a)(e:M6 X.K (.type<|V4 t) c=J b)(h:∀bz,Q (.bool b) { s with toks:=bz}) :
  bj Z4 X.A (call (.builtin "isinstance") [u,c]) Q X.cL s:=by
 induction t using T.casesOn with
 |b0=>let r:aL L H .b0 v:=r;rw[aL]at r;subst r;show Ad I bh .b0 e h
 |aU b=>let r:aL L H (.aU b) v:=r;rw[aL]at r;subst r;show Ad I bh (.aU b) e h
 |int i=>let r:aL L H (.int i) v:=r;rw[aL]at r;subst r;show Ad I bh (.int i) e h
 |str x=>let r:aL L H (.str x) v:=r;rw[aL]at r;subst r;show Ad I bh (.str x) e h
 |aF xs=>let(a,ag,rfl,cB,q):=kN r;show Ad I bh (.aF cB) e h
 |fE=>show MI P ct
 |cx a=>show MI P<|bl a
 |eN a=>show MI P<|OX a
 |aj xs =>
  let(a,ag,rfl,cB,q):=r
  ext bh
  let(aZ,_,(o,n,aX,aI,_),_):=I.list cB.gX;show Nh W.kitx_list I.iJ {(o),aX,aI} e (λz=>nomatch z) h
 |a3 av =>
  let(a,ws,rfl,_,cB,q):=r
  ext bh
  let(_,_,ag,_,o,es,ep,ae,ai,_):=jC I.bX cB;show Nh W.kitx_dict I.iJ {(o),ae,ai.1} e (λz=>nomatch z) h
def Em{e:MG}{d:bS}{k:Ty}{lh:ME}{p g8 pos:MK}(h:bM X L e d)(hm:X.bf "isinstance" = C)(gP:X.bf lh=C)(bu:nZ lh=J (.type<|tyName k))(bL:MD (fP X "isinstance") rc)(abR:MD (fP X lh) rc)(bI:MD (lh ≠ "__name__") eY)(f9:MD ((lh==("__debug__" : ME))=Y1) eY)
  (he:MD (cA [e,.Name lh g8] X.I=ZO::cA [.Name lh g8] X.I) rc) (lI:MD (cA [.Name lh g8] X.I=(Y1,MO (.Name lh g8) X.I)::cA [] X.I) rc) (fN:MD ((gM pos<|cA [.Name lh g8] X.I).any (·.1)=Y1) rc) (ao:MD (nZ "isinstance" = J (.builtin "isinstance")) az11._auto_1) :
  bM X L (.Call (.Name "isinstance" p) [e,.Name lh g8] [] pos) (aD (iP k)<|af d aw):=by
 intro B S n t m n' hd ah s U H Q I ⟨R,nc⟩;let(t0,m0,f1,bq):=Av hd;let(b,g1,g2):=dR (show(tY k t0).map _=_ from bq)
 ext g2
 show oT<|nq I bL hm ao ?_ Z1 Z1;show Vl ?_ he fN;rw[he];show bj _ _ (sR<|ZO::gM pos (cA [.Name lh g8] X.I)) _ _ s;show kc (cm (h.run f1 I R) λu s1 ⟨v,H1,bt,bx,a1,bN,cb⟩=>?_);rw[lI];show bj _ _ (sR<|(Y1,MO (.Name lh g8) X.I)::gM pos (cA [] X.I)) _ _ s1;show kc<|nq bt abR gP bu (nY ?_) bI f9;show amG bt (cb.root bN R.aR) bx (λz=>by subst z;cases k<;>cases g1) (λa z=>by subst z;cases k<;>cases g1) (λa z=>by subst z;cases k<;>cases g1) (aju X.K k t0 b g1) λbz=>?_;show{.aU b,H1,bt.tok bz,P,nc _ H1 a1 bN.aR<|by show aL L H1 (.aU b) _;rw[aL]}
def Px(bP:X.A.units<fA):∀(ah:O Z2) (s:aN) (U:St) (H:aM) (a b:MC) (ws:O ZS) (Q:ay->aN->Prop),aT X ah U H s->iE H a (.aH ws)->iE H b (.aH [])->(∀s',aT X ah U H s'->Q (.bool ws.isEmpty) s')->bj Z4 X.A (hn .Eq ZM<|.ref b) Q X.cL s:=by
 intro ah s U H a b ws Q I cB iT k;let(_,bl,us,ry,dT):=jC I.bX cB;let(_,ao,vD,tc,db):=jC I.bX iT
 ext tc
 show W.keq_eq (r:=Y0) bl ao dT db bP (λaz=>?_) ?_
 .obtain rfl:=uc az;show .nil
 .cases ry with
  |nil=>show k s I
  |cons _ _=>show k s I
def Py(bP:X.A.units<fA):∀(ah:O Z2) (s:aN) (U:St) (H:aM) (a b:MC) (ws:O ZS) (Q:ay->aN->Prop),aT X ah U H s->iE H a (.aH ws)->iE H b (.aH [])->(∀s',aT X ah U H s'->Q (.bool<|!ws.isEmpty) s')->bj Z4 X.A (hn .NotEq ZM<|.ref b) Q X.cL s:=by
 intro ah s U H a b ws Q I cB iT k;let(_,bl,us,ry,dT):=jC I.bX cB;let(_,ao,vD,tc,db):=jC I.bX iT
 ext tc
 show W.keq_ne (r:=Y0) bl ao dT db bP (λaz=>?_) ?_
 .obtain rfl:=uc az;show .nil
 .cases ry with
  |nil=>show k s I
  |cons _ _=>show k s I
def ak8{pos:MK}:bM X L (.Dict [] [] pos) pB:=by
 intro B S n t m n' hd ah s U H Q I ⟨R,k⟩
 ext hd
 show ams ah s U H Q I λp aC=>k _ _ (.new aC) (R.aR.new aC) {p,P,aC,[],fH,by rw[cU]}
def ak9{i:D}{j:Y}{pi pos:MK}{e:MG}{d:bS}(h:bM X L e d):bM X L (.Dict [J<|.Constant (.int i) j pi] [e] pos)<|Mi (aH<|.int i)<|bB d:=by
 intro B S n t m n' hd ah s U H Q I ⟨R,k⟩;let((bz,mk,NF),aB,ax):=cE hd
 ext aB
 let(e0,bq,cC):=cE ax
 ext bq
 let((iU,zF,NG),fj,gF):=dR cC;cases gF;obtain rfl:=Ax fj;show akM (amt IG ((vv h) B S n iU .aa NG fj) akL) P P Z5 Z5 ah s U H Q I λp aC=>?_;let bN:=R.mono (.new (o:=.aH []) aC)<|R.aR.new aC;show rt X.K B L S n iU .aa NG U (c3 H p<|.aH []) _;show⟨bN,λv b5 x y z=>?_⟩;let np:p≠L:=R.aR.ub aC;let JH:b5 p=J (.aH []):=x.to p _ fH np;show{JH,[(.inl i,v)],P,by simp,?_};let dJ:eT b5<|c3 b5 p<|.aH<|xX [] [(.inl i,v)]:=λb=>{λag q=>by rw[ew<|by rintro rfl;rw[JH]at q;cases q];show q,λ_ _ q=>by rw[ew<|by rintro rfl;rw[JH]at q;cases q];show q}
 show k _ _ (((dC.new aC).trans x).put aC) ?_ {p,P,aC,_,fH,?_}
 .show c3 b5 p _ L=_;rw[ew np.symm];show y
 .show cU L _ [(.inl i,iU)] [(.inl i,v)];show x8 (aL.mono dJ _ _ z) (by rw[cU])
def abS:fillsNumberSlot (.type "tuple") "mul" = pure Y1 :=
 PySem.fillsNumberSlot_seq (id:="tuple.__mul__") (r:=J<|.builtin "tuple.__rmul__") PySem.F.slot_tuple_mul.lookup (by decide+kernel) PySem.F.slot_tuple_rmul.lookup (by decide+kernel)
def abT:seqRepeat? (.type "tuple")=pure (J<|.builtin "tuple.__mul__"):=by delta seqRepeat?;rw[PySem.seqSlot_of (T:="tuple") (name:="__mul__") (id:="tuple.__mul__") PySem.F.slot_tuple_mul.lookup (by decide+kernel),PySem.seqSlot_of (T:="tuple") (name:="__rmul__") (id:="tuple.__rmul__") PySem.F.slot_tuple_rmul.lookup<|by decide+kernel];rfl
def amH(a:D)(t:Tok)(l:MC)(Wf:MH ay)(n:Y)(dd:MB MC)(cW:MH<|MB ay) :
  Meets (Builtin.«int.__rmul__» {[.int a t,.ref l],[]}) (λ_ R s=>s.heap.get? l=J { cls:=.type "tuple",dict:=dd,data:=.seq Wf n,slots:=cW}/\R (.ok<|.ret Value.notImplemented) s) :=
 .of_wp λprog w A R s h=>by let(aC,g,d,bz,os):=s;let(az,h):=h;wp_walk;show{_,P,h}
def abU(l:MC)(Wf:MH ay)(n:Y)(dd:MB MC)(cW:MH<|MB ay)(x:D)(u:Tok)(h0:Wf.isEmpty=Y1)(ae:(x==1)=Y1)(ai:¬x<=0)(aS:x<2^63)(dp:Wf.O*x.M<=dq) :
  Meets (Builtin.«tuple.__mul__» {[.ref l,.int x u],[]}) (λ_ R s=>s.heap.get? l=J { cls:=.type "tuple",dict:=dd,data:=.seq Wf n,slots:=cW}/\R (.ok<|.ret<|M3 s.L) { s with heap:=s.heap.push { cls:=lf "tuple",data:=Data.seq (Nu (λbE bR=>bE++bR) #[] (ML x.M Wf))},toks:=s.toks}) :=
 .of_wp λprog w A R s h=>by
  let(aC,g,d,bz,os):=s;let(az,h):=h;let f1:=PySem.AutoSeq1.idx_int
  let aB:¬ (decide (x < -2^63)||decide (x>=2^63))=Y0:=by simp;lia
  let ax:¬ (Wf.isEmpty||x==1)=Y0:=by rw[h0,ae];decide
  let bq:¬ (decide (x<=0)||Wf.isEmpty)=Y0:=by rw[h0];simp;show ri ai
  let d8:(Wf.O:D)*x<=dq:=by
   let:x=(x.M:D):=by lia
   rw[this];exact_mod_cast dp
  let cC:¬ ↑Wf.O*x>(2^63-1) / 8:=by
   let:((dq:Y):D)<=(2^63-1) / 8:=by decide
   show zg<|ce d8 this
  let fj:¬Builtin.Tuple.tupleTooMany (↑Wf.O*x)=Y0:=by delta Builtin.Tuple.tupleTooMany;simp;show d8
  let gF:¬ (Nu (λbE bR=>bE++bR) #[] (ML x.M Wf)).O>dq:=by
   let:=foldl_rep Wf.B x.M []
   rw[ka,ze]at this;let e:(#[]:MH ay)=([]:O ay).D:=rfl;rw[e,this,fo,len_rep,Cq,gW];show sG dp
  wp_walk using PySem.AutoSeq1.wpAny_loadPart' az
  rw[Y3 aB]
  wp_walk using PySem.AutoSeq1.wpAny_loadPart' az
  rw[Y3 cC]
  wp_walk
  show{_,P,h}
def abV(l:MC)(Wf:MH ay)(n:Y)(dd:MB MC)(cW:MH<|MB ay)(x:D)(u:Tok)(ae:(Wf.isEmpty||x==1)=Y0)(aS:x<2^63)(dp:-(2^63)<=x) :
  Meets (Builtin.«tuple.__mul__» {[.ref l,.int x u],[]}) (λ_ R s=>s.heap.get? l=J { cls:=.type "tuple",dict:=dd,data:=.seq Wf n,slots:=cW}/\R (.ok<|.ret<|M3 l) s) :=
 .of_wp λprog w A R s h=>by
  let(aC,g,d,bz,os):=s;let(az,h):=h;let f1:=PySem.AutoSeq1.idx_int
  let aB:¬ (decide (x < -2^63)||decide (x>=2^63))=Y0:=by simp;show M7 dp aS
  wp_walk using PySem.AutoSeq1.wpAny_loadPart' az
  rw[Y3 aB]
  wp_walk using PySem.AutoSeq1.wpAny_loadPart' az
  show{_,P,h}
def abW(l:MC)(Wf:MH ay)(n:Y)(dd:MB MC)(cW:MH<|MB ay)(x:D)(u:Tok)(h0:Wf.isEmpty=Y1)(ai:x<=0)(dp:-(2^63)<=x) :
  Meets (Builtin.«tuple.__mul__» {[.ref l,.int x u],[]}) (λ_ R s=>s.heap.get? l=J { cls:=.type "tuple",dict:=dd,data:=.seq Wf n,slots:=cW}/\R (.ok<|.ret<|M3 s.L) { s with heap:=s.heap.push { cls:=lf "tuple",data:=Data.seq #[]},toks:=s.toks}) :=
 .of_wp λprog w A R s h=>by
  let(aC,g,d,bz,os):=s;let(az,h):=h;let f1:=PySem.AutoSeq1.idx_int
  let aB:¬ (decide (x < -2^63)||decide (x>=2^63))=Y0:=by simp;show M7 dp<|nW ai Z1
  let ax:¬ (Wf.isEmpty||x==1)=Y0:=by rw[h0];simp;show w4<|nW ai Z1
  let bq:(decide (x<=0)||Wf.isEmpty)=Y0:=by simp[ai]
  wp_walk using PySem.AutoSeq1.wpAny_loadPart' az
  rw[Y3 aB]
  wp_walk using PySem.AutoSeq1.wpAny_loadPart' az
  rw[Y3 ax]
  wp_walk
  show{_,P,h}
def abX{n:Y}{x:D}(az:s.heap.get? l=J { cls:=.type "tuple",dict:=dd,data:=.seq aZ.D n,slots:=cW})
  (ae:-(2^63)<=x) (ai:x<2^63) (dp:aZ.H*x.M<=dq) (h:(aZ=[]\/x=1)->Q (.ref l) s) (h':Q (.ref s.L) { s with heap:=s.heap.push { cls:=lf "tuple",data:=Data.seq (ML x.M aZ).flatten.D},toks:=s.toks}) :
  bj Z4 X.A (n1 .Mult (.ref l)<|.int x u) Q X.cL s:=by
 show wpAny_binaryOp_repeat_ref (T:="tuple") (U:="int") Z1 {_,az,P} (λs'=>typeIs_int s' x u) abS F.fills_int_mul F.slot_int_rmul abT F.slot_int_index.lookup
  (qm F.slot_int_rmul (typeIs_int s x u) F.entry_int_rmul (F.args_int_rmul_2 _ _) (amH x u l aZ.D n dd cW) {az,P,{_,az,P},?_})
 let f0:Nu (λbE bR=>bE++bR) #[] (ML x.M aZ.D)=(ML x.M aZ).flatten.D:=by
  let:=foldl_rep aZ x.M []
  rw[ka]at this;show this
 by_cases cb:aZ=[]\/x=1
 .show qm F.slot_tuple_mul {_,az,P} F.entry_tuple_mul (F.args_tuple_mul_2 _ _) (abV l aZ.D n dd cW x u ?_ ai ae) {az,h cb};rcases cb with c|c<;>simp[c]
 .let d9:aZ≠[]:=λz=>cb<|.inl z;let jU:x≠1:=λz=>cb<|.inr z;let iW:aZ.D.isEmpty=Y1:=by cases aZ with
   |nil=>show MI P d9
   |cons a r=>simp
  by_cases xv:x<=0
  .show qm F.slot_tuple_mul {_,az,P} F.entry_tuple_mul (F.args_tuple_mul_2 _ _) (abW l aZ.D n dd cW x u iW xv ae) {az,?_};let:x.M=0:=by lia
   rw[this]at h';show h'
  .show qm F.slot_tuple_mul {_,az,P} F.entry_tuple_mul (F.args_tuple_mul_2 _ _) (abU l aZ.D n dd cW x u iW (by simpa using jU) xv ai<|by rw[fo];show dp) {az,?_};rw[f0];show h'
def ajv:fJ X L (two<|n1 .Mult) fF:=by
 intro B ah s U H ag us aE n t m Q I bh ba aR e k
 induction aE using MQ with
 |nil=>ext e
 |cons dZ fe =>
  induction dZ using T.casesOn with
  |int a =>
   induction fe using MQ with
   |nil=>ext e
   |cons jT vA =>
    induction jT using T.casesOn with
    |int b =>
     induction vA using MQ with
     |nil =>
      let e:(if Mw a||Mw b then J (T.int<|a*b,a9.aa) else C)=J (t,m):=e;split at e
      .rename_i aK
       ext e
       let(v,w,rfl,bx,cn):=l7 ba;obtain rfl:=i1 bx;obtain rfl:=i1 cn;let(fS,gh,rfl,aV,bb):=bh.two;let aI:Gb a b:=by
        erw[Mw,Bool.or_eq_true,Nd]at aK;rcases aK with aK|aK
        .show .inl {by lia,by lia}
        .show .inr {by lia,by lia}
       show aiT ah s U H _ _ fS gh Q I aV bb {a,b,P,P,aI,k _ H ZQ aR<|by show aL L H (.int _) _;rw[aL]}
      .ext e
     |cons _ _=>ext e
    |_=>ext e
  |aF xs =>
   induction fe using MQ with
   |nil=>ext e
   |cons lj JG =>
    induction lj using T.casesOn with
    |int j =>
     induction JG using MQ with
     |nil =>
      let e:(if xs.H<=1000 /\ -1000<=j/\j<=10000/\xs.H*j.M<=bp then J (T.aF (ML j.M xs).flatten,a9.aa) else C)=J (t,m):=e;split at e
      .rename_i ao;let(_,bO,b6,eW):=ao
       ext e
       let(v,w,rfl,bx,cn):=l7 ba;let(a,f6,rfl,cB,dk):=kN bx;obtain rfl:=i1 cn;let(fS,gh,rfl,aV,bb):=bh.two
       ext aV
       let(bz,rfl):=bb;let(aZ,pI,c5,_):=I.tuple<|e9.of (K:=X.K) cB;let((cls,dd,data,cW),aX,aI,aY,hd):=id c5;simp only at aI hd;subst aI hd;let d0:=dk.H;let mA:=pI.H;let hz:aZ.H*j.M<=dq:=by rw[<-mA,<-d0];show rV eW
       let aC:H s.L=C:=I.bX.fresh<|b8 _;show abX aX (ce Z1 bO) (nW b6 Z1) hz (λc=>?_) ?_
       .let:(ML j.M xs).flatten=xs:=by
         rcases c with c|c
         .let:xs=[]:=uc (by rw[d0,mA,c];rfl);subst this;simp
         .subst c;simp
        rw[this]at k;show{.ref a,H,I,P,k _ H ZQ aR<|rZ cB dk}
       .show{.ref s.L,_,I.laid (t':=s.toks) (o:=.aF (ML j.M f6).flatten) (λb cx q=>ec _ q) (b8 _) {by rw[len_rep,Cq,mA];show hz,_,pI.rep _,ni.new _ _},P,k _ _ (.new aC) (aR.new aC)<|rZ fH<|(bV.mono (.new aC) _ _ dk).rep _}
      .ext e
     |cons _ _=>ext e
    |_=>ext e
  |_=>ext e
theorem vE:∀{xs:O T} {us:O ay},us.H=xs.H->(∀(i:Y) (u:ay),us[i]?=J u->∃v x,cQ v u/\xs[i]?=J x/\aL L H x v)->∃ag,cR ag us/\bV L H xs ag
 |[],[],_,_=>{[],.nil,.nil}
 |x::xs,u::us,az,h=>by
  let(v,uU,r,e,q):=h 0 u P;let e:x=uU:=by simpa using e
  subst e;let(ag,ae,ai):=vE (xs:=xs) (us:=us) (by simpa using az) λi u e=>by let(v,x,r,bH,q):=h (i+1) u (by simpa using e);show{v,x,r,by simpa using bH,q}
  show⟨v::ag,.cons r ae,.cons q ai⟩
 |[],_::_,az,_=>by simp at az
 |_::_,[],az,_=>by simp at az
def Pz{a:MC}{s:aN}{ah:O Z2}{U:St}{av:O<|Key×T}{us:O<|Key×ay}(q:cU L H av ws)(rel:fx ws us)(i:Y)(w:ay)
  (aC:∃k x,us[i]?=J (k,x)/\(hr X.R X.w).is k w=Y0):∃v x,cQ v w/\(av.map λdj=>jg dj.1)[i]?=J x/\aL L H x v:=by
 let(k,x,ae,ai):=aC;let az:ws.H=us.H:=Nj rel;show{eV k,jg k,Jr ai,?_,Js k};rw[hO];let hi:i<us.H:=(kY.mp ae).1;let kM:i<av.H:=by rw[cU.length q,az];show hi
 let(v,g1,_):=Ed (k:=av[i].1) (t:=av[i].2) q (show av[i]?=J (av[i].1,av[i].2) by simp[kM]);let(ft,g2):=Jq rel g1;rw[ae]at g2;let:k=av[i].1:=by injection g2 with g2;injection g2
 rw[gd kM];show J (jg av[i].1)=J (jg k);rw[this]
def PA{A':dH}{E:ay->aN->Prop}{ah:O Z2}{s:aN}{U:St}{H:aM}{t:T}{v:V}{u:ay}{xs:O T}{Q:O ay->aN->Prop}(bg:A'.handled=C)(I:aT X ah U H s)(r:eQ X.K L H t v)(bh:cQ v u)(h:vB t=J xs)
  (k:∀us ag h' bz,cR ag us->bV L H xs ag->us.H<=dq->(∀b o,s.heap.get? b=J o->h'.get? b=J o)->Q us { s with heap:=h',toks:=bz}):bj (bo X.R X.w) A' (collect u) Q E s:=by
 induction t using T.casesOn with
 |aj aO =>
  ext h
  let(a,ag,rfl,e,q):=r
  ext bh
  let(aZ,bh,p,hz):=I.list e.gX;let(o,aX,aI,n,hd):=p.isList;let qO:aZ.D.O<=dq:=by rw[fo];first|show hz|(rw[<-bh.H];show hz)
  show wpAny_collect_seq a (.inl P) aX aI hd (λh' b3=>k aZ ag h' s.toks bh q (by simpa using qO) b3) qO
 |aF aO =>
  ext h
  let(a,ag,rfl,e,q):=kN r
  ext bh
  let(aZ,bh,p,hz):=I.tuple<|e9.of (K:=X.K) e;let(o,aX,aI,n,hd):=id p;let qO:aZ.D.O<=dq:=by rw[fo];first|show hz|(rw[<-bh.H];show hz)
  show wpAny_collect_seq a (.inr P) aX aI hd (λh' b3=>k aZ ag h' s.toks bh q (by simpa using qO) b3) qO
 |a3 av =>
  ext h
  let(a,ws,rfl,na,e,q):=r
  ext bh
  let(z,hd,us,rel,dd):=jC I.bX e;let(ep,dT):=dd.dictAt;let az:ws.H=us.H:=Nj rel;show W.kdu_collect (W.kdl_dict (knd:=hr X.R X.w) («kvs»:=us) (ep:=ep) hd) bg dT (by rw[<-az];show z) λh' bz V9 b3 hi=>?_;let(ag,ae,ai):=vE (L:=L) (H:=H) (xs:=av.map λdj=>jg dj.1) (us:=V9.B) (by rw[gW,hi.1,bZ,cU.length q,az]) λi w e =>
   Pz (X:=X) (a:=a) (s:=s) (ah:=ah) (U:=U) q rel i w (hi.2 i w<|by rw[<-kv];show e)
  show k _ ag h' bz ae ai (by rw[gW,hi.1,<-az];show z) b3
 |_=>ext h
theorem PB:∀{us:O ay} {ns:O D},gN us ns->cR (ns.map V.int) us
 |_,_,.nil=>.nil
 |_,_,.cons n t h=>.cons {(t),P}<|PB h
theorem px:∀{ns:O D} {us:O ay},cR (ns.map V.int) us->gN us ns
 |[],_,.nil=>.nil
 |n::ns,_,.cons ⟨t,e⟩ h=>by subst e;show .cons n t<|px h
def ala(bg:X.A.handled=C):fJ X L (λus=>call (.type "list") us) Mh:=by
 intro B ah s U H ag us aE n t m Q I bh ba aR e k
 induction aE using MQ with
 |nil=>ext e
 |cons dZ fe =>
  induction dZ using T.casesOn with
  |aj xs =>
   induction fe using MQ with
   |nil =>
    ext e
    let(v,rfl,a,f6,rfl,cB,dk):=i2 ba;show OK ah s U H _ us Q I bh {a,f6,P,.inl cB.gX,λl az=>k _ _ (.new az) (aR.new az) {l,P,az,_,fH,bV.mono (.new az) _ _ dk}}
   |cons _ _=>ext e
  |aF xs =>
   induction fe using MQ with
   |nil =>
    ext e
    let(v,rfl,r):=i2 ba;let(a,f6,rfl,cB,dk):=kN r;show OK ah s U H _ us Q I bh {a,f6,P,.inr<|e9.of cB,λl az=>k _ _ (.new az) (aR.new az) {l,P,az,_,fH,bV.mono (.new az) _ _ dk}}
   |cons _ _=>ext e
  |a3 av =>
   induction fe using MQ with
   |nil =>
    ext e
    let(v,rfl,a,ws,rfl,na,cB,q):=i2 ba;let(u,rfl,fa):=bh.one
    ext fa
    let(z,hd,us,rel,dd):=jC I.bX cB;let(ep,dT):=dd.dictAt;let az:ws.H=us.H:=Nj rel;show W.kdl_call (W.kdl_dict (knd:=hr X.R X.w) («kvs»:=us) (ep:=ep) hd) bg dT (by rw[<-az];show z) λh' bz V9 c b3 fQ hi=>?_;let(ag,ae,ai):=vE (L:=L) (H:=H) (xs:=av.map λdj=>jg dj.1) (us:=V9.B) (by rw[gW,hi.1,bZ,cU.length q,az]) λi w e =>
     Pz (X:=X) (a:=a) (s:=s) (ah:=ah) (U:=U) q rel i w (hi.2 i w<|by rw[<-kv];show e)
    let aC:H s.L=C:=I.bX.fresh<|b8 _;let eL:=I.laid (a:=s.L) (o:=.aj ag) (t':=bz) (h':=h') b3 (b8 _) {by rw[ae.H,gW,hi.1,<-az];show z,V9.B,c,ae,by simpa using fQ};show{.ref s.L,_,eL,P,k _ _ (.new aC) (aR.new aC) {_,P,aC,_,fH,bV.mono (.new aC) _ _ ai}}
   |cons _ _=>ext e
  |_=>ext e
def _root_.a8.aT.yV(I:aT X ah U H s)(h:H a=J (.aF xs)):∃aZ:O ay,cR xs aZ/\ni s.Q a aZ.D/\xs.H<=dq:=by let(z,aZ,r,p):=I.bX a _ h;show{(aZ),r,p,z}
noncomputable def isInt(j:D):ay->MF
 |.int i _=>i==j
 |_=>Y1
def abY(j:D)(h:gN us ns):us.countP (isInt j)=(ns.filter λx=>x==j).H:=by
 induction h with
 |nil=>rfl
 |cons n t h aQ =>
  rw[ml,sD,aQ];show _+(if(n==j)=Y0 then 1 else 0)=_;cases n==j<;>simp
def amI(h:gN us ns)(aJ:y∈us):∃i t,y=.int i t:=by
 induction h with
 |nil=>ext aJ
 |cons n t h aQ =>
  rcases cF.mp aJ with rfl|aJ
  .show{(n),t,P}
  .show aQ aJ
def abZ{k:Y}(bq:xY k [to,te]=J (t1,df)):∃xs j ns,to=.aF xs/\te=.int j/\e5 xs=J ns/\t1=.int (ns.filter λx=>x==j).H/\df=.aa:=by
 induction to using T.casesOn with
 |aF xs =>
  induction te using T.casesOn with
  |int j =>
   let(ns,ae,ai):=dR (show(e5 xs).map _=_ from bq)
   ext ai
   show{(xs),j,ns,P,P,ae,P,P}
  |_=>ext bq
 |_=>ext bq
def amJ{o e:MG}{eG jz:bS}{apos d3:MK}(aX:bM X L o eG)(he:bM X L e jz)(m:HV X o "count" apos e d3):bM X L (.Call (.Attribute o "count" apos) [e] [] d3)<|aD xY<|af eG<|af jz aw:=by
 intro B S n t jx n' hd ah s U H Q I ⟨R,k⟩;let(to,mo,no,te,CZ,f1,g1,bq):=Jj hd;let(xs,j,ns,rD,rB,hi,eU,em):=abZ bq;subst rD rB eU em;show CB m.e m.lC m.line PySem.F.plainAttrs_tuple PySem.F.slot_tuple_count PySem.F.type_tuple_count (cm (aX.run f1 I R) λu s1 ⟨v,H1,bt,bx,a1,bN,cb⟩=>?_);let(a,f6,rfl,cB,dk):=kN<|cb.root bN R.aR
 ext bx
 let(aZ,pI,(ek,kn,AF,vF,_),_):=bt.yV cB;show{{(ek),kn,AF},λb e=>?_,?_}
 .ext e;show{(ek),kn,vF}
 .rw[m.trees];show ur P<|w6<|kc (cm (he.run g1 bt bN) λh1 s2 ⟨y,b5,di,eF,a2,dF,d9⟩=>nY ?_);obtain rfl:=i1<|d9.root dF bN.aR;let(bz,rfl):=eF;let AG:b5 a=J (.aF f6):=a2.to a _ cB<|bN.aR.GK cB;let(aZ,nz,((cls,dd,data,cW),aX,aI,hd,nn,kp),_):=di.yV AG;simp only at aI kp
  subst aI kp
  let WI:=nA hi;subst WI;let ab0:=tC dk;subst ab0;let sZ:=px nz;let L6:=abY j sZ;show qm PySem.F.slot_tuple_count {_,aX,P} PySem.F.entry_tuple_count (PySem.F.args_tuple_count_2 _ _) (PySem.SeqAt.tuple_countAt a aZ.D nn dd cW (.int j bz)<|isInt j) ⟨aX,λy aJ=>?_,?_⟩
  .let aJ:y∈aZ:=by simpa using aJ
   let:=amI sZ aJ;let(i,t,rfl):=this;show PySem.SeqAt.EqAt.int_int i t j bz
  .show{.int _,b5,di.tok _,{_,P},?_};show Q (.int ((List.countP (isInt j) aZ.D.B:Y):D)) b5;rw[show aZ.D.B=aZ from P,L6];show k _ b5 (a1.trans a2) dF.aR (by show aL L b5 (.int _) _;rw[aL])
def ab1:typeLookup (.type "list") "keys" = pure C:=by rw[CH,CA];kernel_rfl
def ab2{k:Y}
  (au:s.heap.get? a=J o) (aI:o.cls=.type "list") (kp:o.Y=.seq xs k) (hd:o.dict=C) (dw:A.handled=C)
  (h:∀h' bz,(∀b o,s.heap.get? b=J o->h'.get? b=J o)->Q C { s with heap:=h',toks:=bz}) :
  bj ZB A (getAttr? ZM "keys") Q E s:=by
 let(c,ab3,dat,cW):=o;simp only at aI kp hd;subst aI kp hd;let(aC,g,d,bz,os):=s;let gP:∀tG,({(aC),g,d,tG,os}:aN).TypeIs ZM "list":=λ_=>{_,au,P}
 let f1:=sub_AttributeError;let et:=F.slot_list_getattribute.lookup;let f4:=F.slot_list_getattribute.bind ZM;let hF:=am_list_getattr_none;delta getAttr? getAttrBy? getAttrBy
 repeat (any_goals (first|assumption|show gP _|((with_reducible show bj _ _ (call (Value.builtin "list.__getattribute__") _ _) _ _ _);show qm F.slot_list_getattribute (gP _) am_entry_list_getattribute (F.args_list_getattribute_2 _ _) (meets_getattribute_miss_list a xs k cW "keys" _ ab1 (by decide)) ⟨au,dw,λh' tG e ff=>?_⟩)|wp_step))
 let(t',ft,he):=ff.there;show bj _ _ (getattributeRaised _ _ _ _ _ _ _) _ _ _;delta getattributeRaised
 repeat (any_goals (first|assumption|wp_step))
 show h _ _ ff.keeps
def PC:entryFor table "dict.update.loop" = J Builtin.«dict.update.loop»:=entryFor_of_tree (by kernel_rfl)
def En:plainId "dict.update.loop" = Y0:=by decide+kernel
section
variable {prog:dn}{w:cV}{K:Type}[DecidableEq K]{knd:KeyKind prog w K}{A:dH}{R:Result->aN->Prop}{I d:MC}{fp wr:O MC}{V8:Y->ay->Prop}{St:Y->MJ->Prop}
noncomputable def t9(ps:O<|K×ay):O<|K×ay:=ps.foldl (λm p=>qr m p.1 p.2) []
def ab4(m:O<|K×ay)(k:K)(v:ay):(qr m k v).H<=m.H+1:=by
 delta qr;split
 .rw[bZ];show ia _ _
 .rw[gm];simp
def ab5(ps:O<|K×ay):∀m:O (K×ay),(ps.foldl (λm p=>qr m p.1 p.2) m).H<=m.H+ps.H:=by
 induction ps with
 |nil=>intro m;simp
 |cons p ps aQ =>
  intro m;rw[jj];let ae:=aQ<|qr m p.1 p.2;let ai:=ab4 m p.1 p.2;rw[dv];lia
def ab6{h₀:MJ}{ps:O<|K×ay}(W:Walks prog w A.in1 I fp wr ps.H V8 St)(tv:d∉fp)(res:ay)(bI:ps.H<=dq)
  (eS:∀i v,V8 i v->∃b k key x o m,v=.ref b/\b≠d/\b∉wr/\h₀.get? b=J o/\o.cls=.type "tuple" /\ o.Y=.seq #[key,x] m/\knd.is k key=Y0/\ps[i]?=J (k,x)) :
  ∀(j i:Y) (s:aN),ps.H-i=j->i<=ps.H->St i s.Q->(∀b o,b≠d->b∉wr->h₀.get? b=J o->s.heap.get? b=J o)->s.heap.DictOf knd d (t9<|ps.take i) ->
  (∀h' bz,(∀b o,b≠d->b∉wr->h₀.get? b=J o->h'.get? b=J o)->h'.DictOf knd d (t9 ps)->R (.ok<|.ret res) { s with heap:=h',toks:=bz}) ->
  mv ZB A (.builtin "dict.update.loop" {[.ref d,.ref I,gf i,res],[]}) R s:=by
 let PD:d∉wr:=λh=>tv<|W.sub _ h;intro j
 induction j with
 |zero =>
  intro i s bJ hi jY aW gQ gi;let mJ:i=ps.H:=(jk hi<|y8 bJ)
  subst mJ;show sL PC ?_;rw[Vk En _];show bj _ A.in1 (m7 (.ref I) >>= _) _ _ s;show a7 (W.done s _ _ jY λh' bz hm=>?_);rw[wU]at gQ;show a7<|bW ?_;show bW<|gi h' bz (λb o ao hw e=>hm b o hw<|aW b o ao hw e) (let ⟨o,es,ep,aX,r⟩:=gQ;{o,es,ep,hm d o PD aX,r})
 |succ j aQ =>
  intro i s bJ hi jY aW gQ gi;let dN:i<ps.H:=(Hd<|wW<|dy bJ.symm)
  show sL PC ?_;rw[Vk En _];show bj _ A.in1 (m7 (.ref I) >>= _) _ _ s;show a7 (W.item i s _ _ dN jY λv h' bz aC ag0 hm=>?_);let(b,k,key,x,o,m,rfl,ab7,ab8,aX,aI,kp,md,Eo):=eS i v aC;let pK:∀b o,b≠d->b∉wr->h₀.get? b=J o->h'.get? b=J o:=λb o ao hw e=>hm b o hw<|aW b o ao hw e;let x2:=pK b o ab7 ab8 aX;let ab9:h'.DictOf knd d<|t9<|ps.take i:=let ⟨o,es,ep,aX,r⟩:=gQ;{o,es,ep,hm d o PD aX,r}
  show a7<|ky ?_;show a7<|wpAny_tryCatch ?_;delta Builtin.Dict.pairItems;show a7<|sO (T:="tuple") {(o),x2,aI} ?_;rw[Y2 Z1];show a7<|zm x2 kp ?_;show bW ?_;show bj _ _ (m6 [key,x]<|dictSet d key x) _ _ _;let el:(t9<|ps.take i).H<=dq:=by let:=ab5 (ps.take i) [];rw[kZ]at this;delta t9;simp at this;lia
  show ky<|wpAny_dictSet_pairs (s:={ s with heap:=h',toks:=bz}) md ab9 (λai vx kl=>?_) el;let Ml:t9 (ps.take<|i+1)=qr (t9<|ps.take i) k x:=by
   let:ps.take (i+1)=ps.take i++[(k,x)]:=by rw[qaI,Eo];rfl
   delta t9;rw[this,G2];rfl
  show bW {uy En _,?_};show aQ (i+1) { s with heap:=ai,toks:=bz+1} Z6 dN (W.frame _ _ _ ag0 λc rN dc e=>?_) (λc dc ao hw e=>?_) (by rw[Ml];show vx) λaS JI vG aca=>gi aS JI vG aca
  .let:c≠d:=λz=>tv<|z▸rN;show(kl.2 c this).trans e
  .show(kl.2 c ao).trans (pK c dc ao hw e)
end
def amK{k:Key}(h:kq t=J k)(r:aL L H t v):v=eV k:=by
 induction t using T.casesOn with
 |int i=>ext h;rw[aL]at r;show r
 |str x=>ext h;rw[aL]at r;show r
 |_=>ext h
def ajw(H:aM)(V8:dn)(w:cV)(h:MJ)(v:V)(u:ay)(k:Key)(x:V)(y:ay):Prop :=
 ∃b o m key,v=.ref b/\u=.ref b/\H b=J (.aF [eV k,x])/\h.get? b=J o/\o.cls=.type "tuple" /\ o.Y=.seq #[key,y] m/\(hr V8 w).is k key=Y0/\cQ x y
theorem pairs_at{ah:O Z2}{s:aN}{U:St}{H:aM}(I:aT X ah U H s):∀{xs:O T} {ps:O (Key×T)} {ag:O V} {us:O ay},ra xs=J ps->bV L H xs ag->cR ag us ->
  ∃(ws:O ZS) (aO:O (Key×ay)),cU L H ps ws/\fx ws aO/\aO.H=us.H/\∀(i:Y) (u:ay),us[i]?=J u->∃v k x y,ajw H X.R X.w s.Q v u k x y/\aO[i]?=J (k,y)
 |[],ps,ag,us,h,r,bh=>by
  ext h
  cases j2 r
  ext bh
  show{[],[],by rw[cU],.nil,P,λi u e=>by simp at e}
 |t::xs,ps,ag,us,h,r,bh=>by
  have⟨kt,xw,k,yb,aB,ax,bq,cC⟩:∃kt xw k yb,t=.aF [kt,xw]/\kq kt=J k/\ra xs=J yb/\ps=(k,xw)::yb:=by
   match t,h with
   |.aF [kt,xw],h =>
    let(k,ae,ai):=cE (show(kq kt).bind _=_ from h);let(yb,aS,dp):=dR ai;show{(kt),xw,k,yb,P,ae,aS,dp.symm}
  subst aB cC;let(v,mI,rfl,bx,cn):=hT r;cases bh with
  |cons acb acd =>
   rename_i u vD;let(ws,aO,g1,g2,g3,gY):=pairs_at I bq cn acd;let(b,f6,rfl,ao,q):=kN (K:=X.K) bx;let(ace,aoH,rfl,aV,bb):=hT q;let(PE,aoU,rfl,c1,gn):=hT bb;cases j2 gn;let iI:ace=eV k:=amK ax aV;subst iI
   ext acb
   let(aZ,sW,(o,aX,aI,Ep,m,kp),_):=I.yV ao;let(WJ,H7,rfl,rk,eF):=sW.two;show{(k,PE)::ws,(k,H7)::aO,x8 c1 g1,.cons {(P),eF} g2,by rw[dv,dv,g3],λi u e=>?_};cases i with
   |zero =>
    let e:M3 b=u:=by simpa using e
    subst e;show{.ref b,k,PE,H7,{b,o,m,WJ,P,P,ao,aX,aI,kp,Ag rk,eF},P}
   |succ i =>
    let(v,g5,x,y,c5,cP):=gY i u (by simpa using e);show{v,g5,x,y,c5,by simpa using cP}
theorem cU.fold:∀{ps:O (Key×T)} {ws:O ZS},cU L H ps ws->∀{d:O (Key×T)} {e:O ZS},cU L H d e->cU L H (ps.foldl (λd p=>jF d p.1 p.2) d) (ws.foldl (λd p=>i6 d p.1 p.2) e)
 |[],_,r,_,_,q=>by rw[cU]at r;subst r;show q
 |(k,x)::ps,_,r,d,e,q=>by rw[cU]at r;let(v,fB,rfl,bx,cn):=r;show cU.fold cn<|cU.put k bx q
def fx.fold:∀{ws:O ZS} {aO:O (Key×ay)},fx ws aO->∀{d:O ZS} {e:O (Key×ay)},fx d e->fx (ws.foldl (λd p=>i6 d p.1 p.2) d) (aO.foldl (λd p=>qr d p.1 p.2) e):=by
 intro ws aO r;delta fx at r
 induction r with
 |nil=>intro d e q;show q
 |cons h t aQ =>
  intro d e q;rename_i a b as bs;let(k,v):=a;let(g5,y):=b;let(ae,ai):=h;simp only at ae ai;subst ae;show aQ<|fx.put q k ai
def amL(ws:O ZS):∀d:O ZS,(ws.foldl (λd p=>i6 d p.1 p.2) d).H<=d.H+ws.H:=by
 induction ws with
 |nil=>intro d;simp
 |cons p ps aQ =>
  intro d;rw[jj];let ae:=aQ<|i6 d p.1 p.2;let ai:(i6 d p.1 p.2).H<=d.H+1:=by
   delta i6;split
   .rw[bZ];show ia _ _
   .rw[gm];simp
  rw[dv];lia
theorem PF:∀{xs:O T} {ps:O (Key×T)},ra xs=J ps->ps.H=xs.H
 |[],_,h=>by ext h;rfl
 |t::xs,ps,h=>by
  match t,h with
  |.aF [kt,xw],h =>
   let(k,ae,ai):=cE (show(kq kt).bind _=_ from h);let(yb,aS,dp):=dR ai;subst dp;rw[dv,dv,PF aS]
def alb(bg:X.A.handled=C):fJ X L (λus=>call (.type "dict") us) tx:=by
 intro B ah s U H ag us aE n t m Q I bh ba aR e k
 induction aE using MQ with
 |nil=>ext e
 |cons dZ fe =>
  induction dZ using T.casesOn with
  |a3 av =>
   induction fe using MQ with
   |nil =>
    ext e
    let(v,rfl,a,ws,rfl,na,cB,q):=i2 ba;let(u,rfl,fa):=bh.one
    ext fa
    show amv I cB λp s' aC eL=>{.ref p,_,eL,P,k _ _ (.new aC) (aR.new aC) {p,P,aC,_,fH,cU.mono (.new aC) _ _ q}}
   |cons _ _=>ext e
  |aj xs =>
   induction fe using MQ with
   |nil =>
    let(ps,aB,ax):=cE (show(ra xs).bind _=_ from e);split at ax
    .rename_i ag1
     ext ax
     let(v,rfl,a,f6,rfl,cB,dk):=i2 ba;let(u,rfl,fa):=bh.one
     ext fa
     let(aZ,bx,(o,nn,aX,aI,Ep,kp),hz):=I.list cB.gX;let(ws,aO,g1,g2,g3,gY):=pairs_at I aB dk bx;let fN:=PF aB;let acf:aO.H=ps.H:=by rw[g3,<-bx.H,<-dk.H,fN]
     let DO:ws.H=ps.H:=(cU.length g1).symm;let acg:ps.H<=dq:=rV<|ei ag1;show callType_codes (Q₁:=λobj d2=>obj=.ref s.L/\d2={ s with heap:=s.heap.push { cls:=.type "dict",data:=.dict #[]}}) F.kt_called_dict (F.kt_typeCall_dict_1 _) F.entry_dict_init (kt_code_dict_new _ ⟨P,P⟩) ?_;rintro obj d2 ⟨rfl,rfl⟩;let L7:(s.heap.push { cls:=.type "dict",data:=.dict #[]}).DictOf (hr X.R X.w) s.L []:=Heap.DictOf.new s.Q;show{L7.typeIs,F.args_dict_init_2 _ _,?_};let PG:a<s.L:=ed aX;let kn:=ec { cls:=.type "dict",data:=.dict #[]} aX;delta Builtin.«dict.__init__»;show a7 ?_;delta Builtin.Dict.selfAndRest;show a7<|Hx L7.typeIs ?_;show bj _ _ (pure (s.L,[M3 a])) _ _ _;show bW ?_;show bj _ _ (Builtin.Dict.updateFrom "dict.__init__" s.heap.objs.size ZM [] .none) _ _ _;delta Builtin.Dict.updateFrom;show a7<|sO (T:="list") ⟨o,kn,aI⟩ ?_;rw[Y2 Z1];show a7 (ab2 kn aI kp Ep bg λh' bz b3=>?_);rw[Y2<|by rfl];show a7<|kz ?_;let j4:h'.IsList a aZ.D:={o,b3 a o kn,aI,nn,kp}
     let PH:h'.DictOf (hr X.R X.w) s.L []:=let ⟨dc,es,ep,jX,r⟩:=L7;{dc,es,ep,b3 _ _ jX,r}
     let Gi:s.L<h'.E.O:=let ⟨dc,es,ep,jX,r⟩:=PH;ed jX
     let hsz:aZ.D.O=aO.H:=by rw[fo,g3]
     let bl:a≠h'.E.O:=eP<|wY PG Gi;show a7<|CD j4 ?_;show bW ⟨uy En _,?_⟩;let W:=Walks.list (prog:=X.R) (w:=X.w) (A:=X.A.in1.in1) bg h'.E.O a bl aZ.D;rw[hsz]at W;show ab6 (knd:=hr X.R X.w) (h₀:=h') (ps:=aO) W (λhm=>?_) .none (by rw[acf];show acg) (λi v aC=>?_) aO.H 0 _ P (fY _) {{_,fZ _ P,P,P},j4.push _} (λb dc _ _ e=>ec _ e) (PH.push _) λai ach l8 vx=>?_
     .simp at hm;rcases hm with hm|hm
      .show MI Gi (by rw[<-hm];show qi _)
      .show MI PG (by rw[<-hm];show qi _)
     .let(f5,g5,x,y,(b,dc,f3,key,rfl,rfl,_,ao,aci,f9,md,_),aJ):=gY i v (by simpa using aC);let Us:b<s.L:=ed ao;show{b,g5,key,y,dc,f3,P,eP Us,by simp;show eP<|wY Us Gi,b3 b dc<|ec _ ao,aci,f9,md,aJ}
     .let aC:H s.L=C:=I.bX.fresh<|b8 _;let vH:(ws.foldl (λd p=>i6 d p.1 p.2) []).H<=dq:=by let:=amL ws [];simp at this;lia
      let eL:=I.laid (a:=s.L) (o:=.aH<|ws.foldl (λd p=>i6 d p.1 p.2) []) (t':=ach) (h':=ai) (λb u q=>l8 b u (eP<|ed q) (by simp;show eP<|wY (ed q) Gi)<|b3 b u<|ec _ q) (b8 _)
       (DM vH (beq_eq_false_iff_ne.mpr<|M4<|eP I.bp) (fx.fold g2 .nil) vx)
      show{P,.ref s.L,_,eL,P,k _ _ (.new aC) (aR.new aC) {_,P,aC,_,fH,cU.mono (.new aC) _ _ (cU.fold g1<|by rw[cU])}}
    .ext ax
   |cons _ _=>ext e
  |_=>ext e
end
end a8.bD
namespace a8.Tm
open PySem PyProof.Rows
section
variable {U:Type}{M:Model}{A:dH}{E:ay->aN->Prop}{s:aN}{α β:Type}{Q:α->U->Prop}{st:U}
def tI(h:wpS M A E s m Q st):bj M A (m st) (λr s'=>s'=s/\Q r.1 r.2) E s:=h
end
section
variable {U:Type}{M:Model}{A:dH}{E:ay->aN->Prop}{s:aN}{α:Type}{Q:α->U->Prop}{st:U}{m₁ m₂:StateT U Sem α}
def i3[Decidable c](ae:c->wpS M A E s m₁ Q st)(ai:¬c->wpS M A E s m₂ Q st):wpS M A E s (if c then m₁ else m₂) Q st:=by
 split
 .show ae ‹_›
 .show ai ‹_›
def j5{x y:Y}(ae:x=y->wpS M A E s m₁ Q st)(ai:x≠y->wpS M A E s m₂ Q st):wpS M A E s (if(x==y)=Y0 then m₁ else m₂) Q st :=
 i3 (λc=>ae<|eq_of_beq c) λc=>ai λe=>c<|beq_iff_eq.mpr e
def tJ[Decidable p](ae:p->wpS M A E s m₁ Q st)(ai:¬p->wpS M A E s m₂ Q st):wpS M A E s (if decide p=Y0 then m₁ else m₂) Q st :=
 i3 (λc=>ae<|Ul c) λc=>ai λe=>c<|Nk e
end
def pM{U:Type}{M:Model}{α:Type}{m:StateT U Sem α}{Q:α->U->Prop}{st:U}(h:∀fi,fi=Q->wpS M A E s m fi st):wpS M A E s m Q st:=h Q P
def pN{β:Type}{v:β}{G:β->Prop}(V8:β->Prop)(bu:V8 v)(h:∀x,V8 x->G x):∀x,x=v->G x:=λx e=>h x<|e▸bu
def PI:MF->b1->MH b1->Y->Y->Y->StateT dY Sem (MB Y):=sortPriv% PySem.Builtin.gallop
section
variable {prog:dn}{w:cV}{A:dH}{E:ay->aN->Prop}{s:aN}{κ:xc}{dI:MH b1}{rk:b1->Y}
def nJ(prog:dn)(w:cV)(A:dH)(E:ay->aN->Prop)(s:aN)(κ:xc)(dI:MH b1)(rk:b1->Y):Prop :=
 ∀(st:dY) (x y:b1) (Q:MB MF->dY->Prop),hP st=κ->x∈dI->y∈dI->Q (J<|decide (rk x<rk y)) st->wpS ZB A E s (lt' x y) Q st
noncomputable def Wt(rk:b1->Y)(xs:MH b1)(i:Y):Y:=(xs[i]?.map rk).getD 0
def gj(rk:b1->Y)(xs:MH b1)(lo hi:Y):Prop:=∀i j,lo<=i->i<=j->j<hi->Wt rk xs i<=Wt rk xs j
def iM{arr:MH b1}{i:Y}{st:dY}{Q:b1->dY->Prop}(h:i<arr.O)(q:Q arr[i] st):wpS ZB A E s (elem' arr i) Q st:=by rw[elem'_eq,sH h];show da q
def h5(rk:b1->Y)(left:MF)(key:b1)(arr:MH b1)(i:Y):MF:=if left then decide (Wt rk arr i<rk key) else !decide (rk key<Wt rk arr i)
def hg{i:Y}(h:i<xs.O):Wt rk xs i=rk xs[i]:=by delta Wt;rw[sH h];rfl
def amM{left:MF}{base n:Y}(aK:gj rk arr base<|base+n){i j:Y}(jf:i<=j)(bJ:j<n)(h:h5 rk left key arr (base+j)=Y0):h5 rk left key arr (base+i)=Y0:=by
 let:=aK (base+i) (base+j) (ia _ _) (ir jf _)<|nT bJ _;delta h5 at *
 ext left
 .simp at h |-;show bw this h
 .simp at h |-;show gr this h
def acj(fh:nJ prog w A E s κ dI rk){st:dY}(aW:hP st=κ){left:MF}{key:b1}{arr:MH b1}{i:Y}(md:key∈dI)(L8:∀x∈arr,x∈dI)(hi:i<arr.O)
  {Q:MB MF->dY->Prop} (h:Q (J<|h5 rk left key arr i) st):wpS ZB A E s (do
   let x<-elem' arr i
   if left=Y0 then lt' x key else do
    let y<-lt' key x
    pure (Option.map (λx=>!x) y)) Q st:=by
 show cI<|iM hi ?_;let hm:arr[i]∈dI:=L8 _<|jl hi;delta h5 at h;rw[hg hi]at h;cases left with
 |true=>rw[Y2 P]at h |-;show fh st _ _ _ aW hm md h
 |false =>
  rw[Y3 Z1]at h |-;show cI<|fh st _ _ _ aW md hm<|da h
inductive td {S:Type} (tw R:Y->Prop) (cT:dY) (n d:Y):MB S×Y×Y->dY->Prop
 |mk (l r:Y) (ae:l<=r) (ai:r<=n) (aS:r-l<=d) (gY:∀i,i<l->tw i) (n9:∀i,r<=i->i<n->R i):td tw R cT n d (C,l,r) cT
inductive zO {S:Type} (T F:Y->Prop) (cT:dY) (x:Y):MB S×Y×Y->dY->Prop
 |mk (cJ f:Y) (ae:T cJ) (aS:cJ<f) (dp:x+1<=f\/F f):zO T F cT x (C,cJ,f) cT
def UT{l r:Y}(h:l<r):(r-l) / 2<r-l:=Nat.div_lt_self (He h) Z1
def half{l r:Y}(h:l<r):l<=l+(r-l) / 2/\l+(r-l) / 2<r:={ia _ _,Nat.add_lt_of_lt_sub'<|UT h}
def VA{l r n x:Y}(h:l<r)(d:r-l<=n-x):r-(l+(r-l) / 2+1)<=n-(x+1)/\l+(r-l) / 2-l<=n-(x+1):=by let e:r-(l+1)<=n-(x+1):=G9 d 1;show{bw (Hc (io (half h).1) r) e,bw (by rw[y7];show Ha<|UT h) e}
def twice{x f:Y}(h:x+1<=f):f<2*f+1/\x+1+1<=2*f+1:={sF<|qaP _ Z1,io<|bw h<|qaP _ Z1}
def yc(fh:nJ prog w A E s κ dI rk){st:dY}(aW:hP st=κ){left:MF}{key:b1}{arr:MH b1}{base n hint:Y}(md:key∈dI)(L8:∀x∈arr,x∈dI)(ao:base+n<=arr.O)(bg:hint<n)(aK:gj rk arr base<|base+n)
  {Q:MB Y->dY->Prop} (h:∀k,k<=n->(∀i,i<k->h5 rk left key arr (base+i)=Y0)->(∀i,k<=i->i<n->h5 rk left key arr (base+i)=Y1)->Q (J k) st):wpS ZB A E s (PI left key arr base n hint) Q st:=by
 delta PI;delta wpS;wp_delta;wp_delta;show tI ?_;dsimp only;let pos:∀{i j:Y},i<=j->j<n->h5 rk left key arr (base+j)=Y0->h5 rk left key arr (base+i)=Y0:=λjf bJ=>amM aK jf bJ;let neg:∀{i j:Y},i<=j->j<n->h5 rk left key arr (base+i)=Y1->h5 rk left key arr (base+j)=Y1:=λ{i j} jf bJ hf=>by
  cases e:h5 rk left key arr (base+j) with
  |false=>rfl
  |true=>rw[pos jf bJ e]at hf;show hf
 let at':∀{i:Y},i<n->base+i<arr.O:=λhi=>dX (nT hi _) ao;revert pos neg;generalize dJ:(λi=>h5 rk left key arr<|base+i)=B;let PJ:∀i,h5 rk left key arr (base+i)=B i:=λi=>congrFun dJ i;erw[PJ]at h |-;intro pos neg
 let ask:∀{i:Y} {Q:MB MF->dY->Prop},i<n->Q (J<|B i) st->wpS ZB A E s (do
   let x<-elem' arr (base+i)
   if left=Y0 then lt' x key else do
    let y<-lt' key x
    pure (Option.map (λx=>!x) y)) Q st:=λ{i Q} hi q=>acj fh aW md L8 (at' hi) (by rw[PJ];show q)
 show cI<|ask bg ?_;dsimp only;let fin:∀{c:MB (MB Y)×Y×Y} {dh:dY},td (λi=>B i=Y0) (λi=>B i=Y1) st n 0 c dh->∃k,c=(C,k,k)/\dh=st/\Q (J k) st:=λh'=>by let(l,r,ae,ai,aS,dp,fL):=h';let:l=r:=jk ae<|y8<|jk aS<|fY _;subst this;show{l,P,P,h l ai dp fL}
 cases a4:B hint with
 |true =>
  rw[Y2 P]
  show cI (lT (m8
   (I:=zO (λcJ=>hint+cJ<n/\B (hint+cJ)=Y0) (λ_=>MP) st)
   (Q:=zO (λcJ=>hint+cJ<n/\B (hint+cJ)=Y0) (λf=>n-hint<=f\/hint+f<n/\B (hint+f)=Y1) st n) ?step ?fin (.mk 0 1 {(bg),a4} Z1<|.inl Z1)) ?post)
  case fin =>
   intro c dh fM;let(cJ,f,ae,ai,aS):=fM;show .mk cJ f ae ai<|.inr<|.inl<|aS.elim (λz=>by lia) MY
  case step =>
   intro x c dh _ au fM;let(cJ,f,ae,ai,aS):=fM;dsimp only;show i3 (λaX=>da<|.mk cJ f ae ai<|.inr<|.inl aX) λaX=>?_;let hf:hint+f<n:=by lia
   show cI<|ask hf ?_;dsimp only;cases hm:B (hint+f) with
   |true =>
    rw[Y3 Z1];let t:=twice<|aS.elim id MY;show da<|.mk f (2*f+1) {(hf),hm} t.1<|.inl t.2
   |false =>
    rw[Y2 Z1];show da<|.mk cJ f ae ai<|.inr<|.inr {(hf),hm}
  case post =>
   intro c dh fM;let(cJ,f,(ae,ny),ai,aS):=fM;dsimp only
   show cI (lT (m8 (I:=λx=>td (λi=>B i=Y0) (λi=>B i=Y1) st n<|n-x) (Q:=td (λi=>B i=Y0) (λi=>B i=Y1) st n 0) ?Mm ?fin2
    (.mk (hint+cJ+1) (hint+min f (n-hint)) Z6 Z6 Z6 (λi hi=>pos (qh hi) ae ny) λi hi mJ=>?up)) ?Mn)
   case up =>
    rcases aS with aS|aS|⟨dp,fL⟩
    .lia
    .lia
    .show neg Z6 mJ fL
   case fin2 =>
    intro c dh h';rw[Cr,Cs]at h';show h'
   case Mn =>
    intro c dh h';let(k,rfl,rfl,q):=fin h';show da q
   case Mm =>
    intro x c dh _ au h';let(l,r,ae,ai,aS,dp,fL):=h';dsimp only;show i3 (λj3=>da<|.mk l r ae ai (dy<|G8 j3) dp fL) λj3=>?_;let dN:=uk j3;let(df,fR):=half dN;let(gu,iV):=VA dN aS;let jV:=dX fR ai;show cI<|ask jV ?_;dsimp only;cases hm:B (l+(r-l) / 2) with
    |true =>
     rw[Y2 P];show da<|.mk _ r fR ai gu (λi gq=>pos (qh gq) jV hm) fL
    |false =>
     rw[Y3 Z1];show da (.mk l _ df (ei jV) iV dp λi gq mJ=>neg gq mJ hm)
 |false =>
  rw[Y3 Z1]
  show cI (lT (m8
   (I:=zO (λcJ=>cJ<=hint/\B (hint-cJ)=Y1) (λ_=>MP) st)
   (Q:=zO (λcJ=>cJ<=hint/\B (hint-cJ)=Y1) (λf=>hint+1<=f\/f<=hint/\B (hint-f)=Y0) st n) ?step ?fin (.mk 0 1 {fY _,a4} Z1<|.inl Z1)) ?post)
  case fin =>
   intro c dh fM;let(cJ,f,ae,ai,aS):=fM;show .mk cJ f ae ai<|.inr<|.inl<|aS.elim (λz=>by lia) MY
  case step =>
   intro x c dh _ au fM;let(cJ,f,ae,ai,aS):=fM;dsimp only;show i3 (λaX=>da<|.mk cJ f ae ai<|.inr<|.inl aX) λaX=>?_;let hf:f<=hint:=by lia
   show cI<|ask (gr (m4 _ _) bg) ?_;dsimp only;cases hm:B (hint-f) with
   |true =>
    rw[Y2 P];show da<|.mk cJ f ae ai<|.inr<|.inr {(hf),hm}
   |false =>
    rw[Y3 Z1];let t:=twice<|aS.elim id MY;show da<|.mk f (2*f+1) {(hf),hm} t.1<|.inl t.2
  case post =>
   intro c dh fM;let(cJ,f,(ae,ny),ai,aS):=fM;dsimp only
   show cI (lT (m8 (I:=λx=>td (λi=>B i=Y0) (λi=>B i=Y1) st n<|n-x) (Q:=td (λi=>B i=Y0) (λi=>B i=Y1) st n 0) ?Mm ?fin2
    (.mk (hint+1-min f (hint+1)) (hint-cJ) Z6 Z6 Z6 (λi hi=>?nh) λi hi mJ=>neg hi mJ ny)) ?Mn)
   case nh =>
    rcases aS with aS|aS|⟨dp,fL⟩
    .lia
    .lia
    .show pos Z6 (gr (m4 _ _) bg) fL
   case fin2 =>
    intro c dh h';rw[Cr,Cs]at h';show h'
   case Mn =>
    intro c dh h';let(k,rfl,rfl,q):=fin h';show da q
   case Mm =>
    intro x c dh _ au h';let(l,r,ae,ai,aS,dp,fL):=h';dsimp only;show i3 (λj3=>da<|.mk l r ae ai (dy<|G8 j3) dp fL) λj3=>?_;let dN:=uk j3;let(df,fR):=half dN;let(gu,iV):=VA dN aS;let jV:=dX fR ai;show cI<|ask jV ?_;dsimp only;cases hm:B (l+(r-l) / 2) with
    |true =>
     rw[Y2 P];show da<|.mk _ r fR ai gu (λi gq=>pos (qh gq) jV hm) fL
    |false =>
     rw[Y3 Z1];show da (.mk l _ df (ei jV) iV dp λi gq mJ=>neg gq mJ hm)
end
def PK:MH b1->MH b1->StateT dY Sem (MH b1):=sortPriv% PySem.Builtin.mergeLo
def PL:MH b1->MH b1->StateT dY Sem (MH b1):=sortPriv% PySem.Builtin.mergeHi
section
variable {rk:b1->Y}{cJ fb o:O b1}{cg cf:Y}
structure gZ (rk:b1->Y) (cJ fb o:O b1) (cg cf:Y):Prop where
 perm:o.Perm<|cJ.take cg++fb.take cf
 nB:o.Pairwise λx y=>rk x<=rk y
 qy:∀x∈o,∀y∈cJ.drop cg,rk x<=rk y
 qz:∀x∈o,∀y∈fb.drop cf,rk x<=rk y
abbrev fc(rk:b1->Y)(l:O b1):Prop:=l.Pairwise λx y=>rk x<=rk y
def gZ.swap(h:gZ rk cJ fb o cg cf):gZ rk fb cJ o cf cg:={h.perm.trans sA,h.nB,h.qz,h.qy}
def gZ.app(h:gZ rk cJ fb o cg cf)(a5:fc rk cJ)(k:Y)(au:∀x∈(cJ.drop cg).take k,∀y∈fb.drop cf,rk x<=rk y):gZ rk cJ fb (o++(cJ.drop cg).take k) (cg+k) cf:=by
 let hd:fc rk<|cJ.drop cg:=a5.sublist<|uf _ _;let ajx:(cJ.drop cg).take k++(cJ.drop cg).drop k=cJ.drop cg:=nN k _;rw[<-ajx]at hd;let(ae,ai,aS):=mi.mp hd;show{?_,?_,?_,?_}
 .let:cJ.take (cg+k)=cJ.take cg++(cJ.drop cg).take k:=li;rw[this];show(h.perm.append_right _).trans ?_;rw[hk,hk];show(sA).append_left _
 .show mi.mpr {h.nB,ae,λx au y aJ=>h.qy x au y<|wN aJ}
 .intro x ff y aJ;let vI:y∈(cJ.drop cg).drop k:=by rw[Cd];show aJ
  rcases i9.mp ff with ff|ff
  .show h.qy x ff y<|qaw vI
  .show aS x ff y vI
 .intro x ff y aJ;rcases i9.mp ff with ff|ff
  .show h.qz x ff y aJ
  .show au x ff y aJ
def gZ.VB(h:gZ rk cJ fb o cg cf)(a5:fc rk cJ)(ao:fb.H<=cf):fc rk (o++cJ.drop cg)/\(o++cJ.drop cg).Perm (cJ++fb):=by show{mi.mpr {h.nB,a5.sublist<|uf _ _,h.qy},?_};show(h.perm.append_right _).trans ?_;rw[qd ao,hk];show((sA).append_left _).trans ?_;rw[<-hk,nN]
end
def gZ.last{cg cf:Y}(h:gZ rk cJ fb o cg cf)(a5:fc rk cJ)(c2:fc rk fb)(au:∀x∈fb.drop cf,∀y∈cJ.drop cg,rk x<=rk y):fc rk (o++fb.drop cf++cJ.drop cg)/\(o++fb.drop cf++cJ.drop cg).Perm (cJ++fb):=by
 show{mi.mpr {mi.mpr {h.nB,c2.sublist<|uf _ _,h.qz},a5.sublist<|uf _ _,λx ff y aJ=>?_},?_}
 .rcases i9.mp ff with ff|ff
  .show h.qy x ff y aJ
  .show au x ff y aJ
 .show((h.perm.append_right _).append_right _).trans ?_;rw[hk<|cJ.take cg,nN,hk];show(Nv _ sA).trans ?_;rw[<-hk,nN]
def gZ.good{rk:b1->Y}{cJ fb o:O b1}{cg cf:Y}(h:gZ rk cJ fb o cg cf)(a5:fc rk cJ)(c2:fc rk fb)(au:fb.H<=cf\/cJ.H<=cg):fc rk (o++cJ.drop cg++fb.drop cf)/\(o++cJ.drop cg++fb.drop cf).Perm (cJ++fb):=by
 rcases au with au|au
 .rw[wM au,nQ];show h.VB a5 au
 .rw[wM au,nQ];let(ae,ai):=h.swap.VB c2 au;show{ae,ai.trans sA}
def ack(out:MH b1)(x:b1):(out.push x).B=out.B++[x]:=by simp
def PM(out a:MH b1)(i j:Y):(out++a.extract i j).B=out.B++(a.toList.drop i).take (j-i):=by rw[ii,Cw,B2]
def Er(out a:MH b1)(i:Y):(out++a.extract i a.O).B=out.B++a.toList.drop i:=by rw[PM,qd<|by rw[qe,gW];show b8 _]
def Es(a:MH b1){i:Y}(h:i<a.O):(a.toList.drop i).take 1=[a[i]]:=by
 let h':i<a.B.H:=by simpa using h
 rw[oP h'];simp
abbrev jL(st:dY)(g:Y):dY:=SortSt.mk' (hP st) (cS st) (fK st) g<|rl st
inductive H8 {α β γ ζ:Type} (In:Y->α->β->γ->Prop) (st:dY) (n:Y):MB (MH b1)×α×β×γ×ζ->dY->Prop
 |mk (g:Y) (u:α) (v:β) (w:γ) (z:ζ) (h:In n u v w):H8 In st n (C,u,v,w,z)<|jL st g
inductive C1 {α β γ ζ:Type} (G:MH b1->Prop) (In:Y->α->β->γ->Prop) (st:dY) (n:Y):MB (MH b1)×α×β×γ×ζ->dY->Prop
 |ret (g:Y) (r:MH b1) (z:α×β×γ×ζ) (h:G r):C1 G In st n (J r,z)<|jL st g
 |go (g:Y) (u:α) (v:β) (w:γ) (z:ζ) (h:In n u v w):C1 G In st n (C,u,v,w,z)<|jL st g
def yd{M:Model}{A:dH}{E:ay->aN->Prop}{s:aN}{α β γ ζ:Type}{In:Y->α->β->γ->Prop}{G:MH b1->Prop}{st:dY}(m:Y->Y)(q:Y){N:Y}{f:Y->MB (MH b1)×α×β×γ×ζ->StateT dY Sem (ForInStep<|MB (MH b1)×α×β×γ×ζ)}{g:Y}{u:α}{v:β}{w:γ}{z:ζ}
  {Q:MB (MH b1)×α×β×γ×ζ->dY->Prop} (h:In (m 0) u v w)
  (Ml:∀x g u v w z,x<N->In (m x) u v w->wpS M A E s (f x (C,u,v,w,z)) (λr dh=>match r with|.done cM=>C1 G In st q cM dh|.yield cM=>H8 In st (m<|x+1) cM dh) (jL st g))
  (ag2:∀u v w,In (m N) u v w->In q u v w) (ag3:∀g r z,G r->Q (J r,z) (jL st g)) (acm:∀g u v w z,In q u v w->Q (C,u,v,w,z) (jL st g)):wpS M A E s (forIn [0:N] (C,u,v,w,z) f) Q<|jL st g:=by
 show lT (m8 (I:=λx=>H8 In st<|m x) (Q:=C1 G In st q) (λx c dh _ au h=>?_) (λc dh h=>?_)<|.mk g u v w z h) λc dh h=>?_
 .let(g,u,v,w,z,h):=h;show lT (Ml x g u v w z au h) λr dh h=>by ext r<;>show h
 .rw[Cr]at h;let(g,u,v,w,z,h):=h;show .go g u v w z<|ag2 u v w h
 .rcases h with⟨g,r,z,h⟩|⟨g,u,v,w,z,h⟩
  .show ag3 g r z h
  .show acm g u v w z h
section
variable {prog:dn}{w:cV}{A:dH}{E:ay->aN->Prop}{s:aN}{κ:xc}{dI:MH b1}{rk:b1->Y}
def hI(rk:b1->Y)(a b r:MH b1):Prop:=fc rk r.B/\r.toList.Perm (a.B++b.B)
def UU(h:fc rk l){i:Y}(hi:i<l.H):∀y∈l.drop i,rk l[i]<=rk y:=by
 intro y aJ;rw[oP hi]at aJ;let hd:fc rk<|l.drop i:=h.sublist<|uf _ _;rw[oP hi]at hd;rcases cF.mp aJ with rfl|aJ
 .show b8 _
 .show(ik.mp hd).1 y aJ
def gZ.wG{a b out:MH b1}{cg cf:Y}(h:gZ rk a.B b.B out.B cg cf)(c2:fc rk b.B)(ao:cf<b.O)(au:∀y∈a.toList.drop cg,rk b[cf]<=rk y):gZ rk a.B b.B (out.push b[cf]).B cg (cf+1):=by let:=h.swap.app c2 1 (by rw[Es b ao];intro x ff y aJ;rw[gK.mp ff];show au y aJ);rw[Es b ao]at this;rw[ack];show this.swap
def gZ.wH{a b out:MH b1}{cg cf:Y}(h:gZ rk a.B b.B out.B cg cf)(a5:fc rk a.B)(bl:cg<a.O)(au:∀y∈b.toList.drop cf,rk a[cg]<=rk y):gZ rk a.B b.B (out.push a[cg]).B (cg+1) cf:=(gZ.wG (a:=b) (b:=a) h.swap a5 bl au).swap
def gZ.BS{a b out:MH b1}{cg cf k:Y}(h:gZ rk a.B b.B out.B cg cf)(a5:fc rk a.B)(au:∀x∈(a.toList.drop cg).take k,∀y∈b.toList.drop cf,rk x<=rk y):gZ rk a.B b.B (out++a.extract cg (cg+k)).B (cg+k) cf:=by rw[PM,y7];show h.app a5 k au
def gZ.L9{a b out:MH b1}{cg cf k:Y}(h:gZ rk a.B b.B out.B cg cf)(c2:fc rk b.B)(au:∀x∈(b.toList.drop cf).take k,∀y∈a.toList.drop cg,rk x<=rk y):gZ rk a.B b.B (out++b.extract cf (cf+k)).B cg (cf+k):=(gZ.BS (a:=b) (b:=a) h.swap c2 au).swap
def AH{cg cf:Y}(h:gZ rk a.B b.B out.B cg cf)(a5:fc rk a.B)(c2:fc rk b.B)(au:b.O<=cf\/a.O<=cg):hI rk a b<|out++a.extract cg a.O++b.extract cf b.O:=by delta hI;rw[Er,Er];show h.good a5 c2 (by simpa using au)
def Et{cg cf:Y}(h:gZ rk a.B b.B out.B cg cf)(a5:fc rk a.B)(c2:fc rk b.B)(au:∀x∈b.toList.drop cf,∀y∈a.toList.drop cg,rk x<=rk y):hI rk a b<|out++b.extract cf b.O++a.extract cg a.O:=by delta hI;rw[Er,Er];show h.last a5 c2 au
def vJ{a:MH b1}(h:fc rk a.B){i:Y}(hi:i<a.O):∀y∈a.toList.drop i,rk a[i]<=rk y:=λy aJ=>by let:=UU h (i:=i) (by simpa using hi) y aJ;simpa using this
def ye{lo hi:Y}(h:fc rk a.B)(bg:hi<=a.O):gj rk a lo hi:=λi j _ jf bJ=>by
 let ae:i<a.O:=(gr jf<|dX bJ bg)
 let ai:j<a.O:=(dX bJ bg)
 rw[hg ae,hg ai]
 let:=UU h (i:=i) (by simpa using ae) a[j] (by
  rw[y0]
  show{j-i,by rw[qe,gW];lia,by rw[y3];simp;congr 1;show nS jf})
 simpa using this
def AI{a:MH b1}{i k:Y}{x:b1}(h:x∈(a.toList.drop i).take k):∃j,j<k/\∃aK:i+j<a.O,x=a[i+j]:=by let(j,bJ,rfl):=y0.mp h;rw[kZ,qe,gW]at bJ;show{j,(dX bJ<|Hi _ _),by lia,by rw[y4,y3];simp}
def PN:Y->StateT dY Sem Unit:=sortPriv% PySem.Builtin.setMinGallop
def Eu{st:dY}{g:Y}{Q:Unit->dY->Prop}(h:Q ()<|jL st g):wpS ZB A E s (PN g) Q st:=by delta PN;delta wpS;wp_delta;wp_delta;show tI ?_;show xa h
structure rE (rk:b1->Y) (a b:MH b1) (n:Y) (out:MH b1) (cg cf:Y):Prop where
 m:gZ rk a.B b.B out.B cg cf
 p:cg+1<a.O
 q:cf<b.O
 s:n<=cg+cf
def rE.le{n m cg cf:Y}(h:rE rk a b n out cg cf)(l:m<=n):rE rk a b m out cg cf:={h.m,h.p,h.q,bw l h.s}
def acn(fh:nJ prog w A E s κ dI rk){st:dY}(aW:hP st=κ){a b:MH b1}(bl:∀x∈a,x∈dI)(ao:∀x∈b,x∈dI)(a5:fc rk a.B)(c2:fc rk b.B)(na:0<a.O)(nb:0<b.O)
  (hf:rk b[0]<rk a[0]) (az:∀x∈b,rk x<rk a[a.O-1])
  {Q:MH b1->dY->Prop} (h:∀r g,hI rk a b r->Q r (jL st g)):wpS ZB A E s (PK a b) Q st:=by
 let same:∀r,hI rk a b r->Q r st:=λr a4=>h r (sU st) a4;let Gy:∀(cg cf:Y),cg+1=a.O->∀x∈b.toList.drop cf,∀y∈a.toList.drop cg,rk x<=rk y:=λcg cf he x au y aJ=>by
  let hi:cg<a.B.H:=by rw[gW];show dX (m3 _)<|dy he
  let hd:a.toList.drop cg=[a[a.O-1]]:=by rw[oP hi,wM<|by rw[gW,he];show b8 _];simp[<-he]
  rw[hd]at aJ;rw[gK.mp aJ];show ei (az x<|by simpa using qaw au)
 let start:gZ rk a.B b.B (#[b[0]]:MH b1).B 0 1:=gZ.wG (out:=#[]) {by simp,.nil,by simp,by simp} c2 nb λy aJ=>bw (ei hf)<|vJ a5 na y aJ;delta PK;delta wpS;wp_delta;wp_delta;show tI ?_;show cI<|rm<|kz {P,?_}
 repeat fail
 show cI<|iM nb ?_
 repeat fail
 show j5 (λcb=>da<|same _<|AH start a5 c2<|.inl<|dy cb.symm) λcb=>j5 (λd9=>da<|same _<|Et start a5 c2<|Gy 0 1 d9) λd9=>?_;show cI<|n2 ?_
 repeat fail
 show cI (yd (In:=rE rk a b) (G:=hI rk a b) (λx=>x+1) (a.O+b.O) {start,sE na d9,sE nb cb,b8 _} ?step (λ_ _ _ h=>h.le<|uo _) (λg r _ a4=>da<|h r g a4) λg out cg cf bf h=>?post)
 case post =>
  let ae:=h.p;let ai:=h.q;let aS:=h.s;lia
 case step =>
  intro x g out cg cf bf au ae;show wpS _ _ _ _ (Vj _ _) _ _;dsimp (zeta:=Y1) (zetaHave:=Y1) only;show cI (yd (G:=hI rk a b) (z:=(0,0)) (λy=>x+1+y) (x+2) ae ?s1 (λ_ _ _ h=>h.le<|Cj<|rf na) (λg r z a4=>?bx) λg out cg cf z ae=>?c5)
  case s1 =>
   intro y g out cg cf z aJ d6;let(g1,g2,g3,gY):=d6;let(ac,rF):=z;let tK:=kb g2;show wpS _ _ _ _ (Vj _ _) _ _;dsimp (zeta:=Y1) (zetaHave:=Y1) only;show cI<|iM g3<|cI<|iM tK<|cI<|fh _ _ _ _ aW (ao _<|jl _) (bl _<|jl _) ?_;dsimp (zeta:=Y1) (zetaHave:=Y1) only;show tJ (λhw=>?_) λhw=>?_
   .show cI (iM g3 ?_)
    repeat fail
    let df:=g1.wG c2 g3 λy aJ=>bw (ei hw)<|vJ a5 tK y aJ;show j5 (λc=>da<|.ret _ _ _<|AH df a5 c2<|.inl<|dy c.symm) λc=>?_;let bI:rE rk a b (x+1+y+1) _ cg<|cf+1:={df,g2,sE g3 c,io gY}
    show i3 (λ_=>da<|.go _ _ _ _ _<|bI.le Z6) λ_=>da<|.mk _ _ _ _ _ bI
   .show cI (iM tK ?_)
    repeat fail
    let df:=g1.wH a5 tK λy aJ=>bw (ci hw)<|vJ c2 g3 y aJ;show j5 (λc=>da<|.ret _ _ _<|Et df a5 c2<|Gy _ _ c) λc=>?_;let bI:rE rk a b (x+1+y+1) _ (cg+1) cf:={df,sE g2 c,g3,by lia}
    show i3 (λ_=>da<|.go _ _ _ _ _<|bI.le Z6) λ_=>da<|.mk _ _ _ _ _ bI
  case bx =>
   repeat fail
   show da<|.ret _ _ _ a4
  case c5 =>
   let(ac,rF):=z;show wpS _ _ _ _ (Vj _ _) _ _;dsimp (zeta:=Y1) (zetaHave:=Y1) only;show cI<|rm<|kz {P,?_}
   repeat fail
   show cI (yd (G:=hI rk a b) (z:=(_,ac,rF)) (λ_=>x+2) (x+2) ae ?s2 (λ_ _ _ h=>h) (λg r z a4=>?cn) λg out cg cf z ae=>?cP)
   case cn =>
    repeat fail
    show da<|.ret _ _ _ a4
   case cP =>
    let(bf,ac,rF):=z;show wpS _ _ _ _ (Vj _ _) _ _;dsimp (zeta:=Y1) (zetaHave:=Y1) only
    repeat fail
    show cI<|Eu<|da<|.mk _ _ _ _ _ ae
   case s2 =>
     intro y g out cg cf z aJ d6;let(g1,g2,g3,gY):=d6;let(bf,ac,rF):=z;let tK:=kb g2
     fail;fail;fail;fail;fail;fail;fail;fail;fail;fail;fail
     dsimp (zeta:=Y1) (zetaHave:=Y1) only;show pM ?_;intro fi gU;extract_lets+onlyGivenNames-underBinder jpv;clear_value (hjpv:jpv=_);revert jpv;show pN (V8:=λjp=>∀u m,wpS ZB A E s (jp u m) fi<|jL st g) ?rG ?k0
     case k0 =>
      subst gU;intro jp bJ;show i3 (λ_=>?_) λ_=>bJ _ _
      fail
      show bJ _ _
     case rG =>
      subst gU;intro u r1;show cI<|Eu<|cI<|iM g3<|cI (yc (st:=jL st r1) (arr:=a) (base:=cg) (n:=a.O-cg) fh aW (ao _<|jl _) bl Z6 (He tK) (ye a5 Z6) λk pK mK vG=>?_);dsimp (zeta:=Y1) (zetaHave:=Y1) only;let lo:∀x∈(a.toList.drop cg).take k,∀y∈b.toList.drop cf,rk x<=rk y:=λx au y aJ=>by let(j,bJ,aK,rfl):=AI au;let:=mK j bJ;delta h5 at this;rw[hg aK]at this;simp at this;show bw this<|vJ c2 g3 y aJ
      let hi:∀(aK:cg+k<a.O),rk b[cf]<rk a[cg+k]:=λaK=>by let:=vG k (b8 _) Z6;delta h5 at this;rw[hg aK]at this;simpa using this
      fail
      show pM ?_;intro fi gU;extract_lets+onlyGivenNames-underBinder jpv;clear_value (hjpv:jpv=_);revert jpv;show pN (V8:=λjp=>∀u (p5:MH b1) (qR:Y),rE rk a b (x+2) p5 qR cf->(dN:qR<a.O)->rk b[cf]<rk a[qR]->wpS ZB A E s (jp u p5 qR) fi (jL st r1)) ?uY ?k1
      case k1 =>
       subst gU;intro jp bJ;show i3 (λaW=>?_) λaW=>?_
       .fail;fail
        let df:=g1.BS a5 lo;show j5 (λc=>da<|.ret _ _ _<|Et df a5 c2<|Gy _ _ c) λc=>j5 (λcM=>da<|.ret _ _ _<|AH df a5 c2<|.inr<|dy cM.symm) λcM=>?_;show bJ _ _ _ {df,by lia,g3,by lia} Z6<|hi Z6
       .let:k=0:=(jk (ci aW)<|fY _)
        subst this;show bJ _ _ _ {(g1),g2,g3,gY} tK<|hi tK
      case uY =>
       subst gU;intro u p5 qR aY AJ jr;show cI<|iM g3 ?_
       fail;fail
       let df:=aY.m.wG c2 g3 λy aJ=>bw (ei jr)<|vJ a5 AJ y aJ;show j5 (λc=>da<|.ret _ _ _<|AH df a5 c2<|.inl<|dy c.symm) λc=>?_;let s8:=sE g3 c;show cI<|iM AJ<|cI (yc (st:=jL st r1) (arr:=b) (base:=cf+1) (n:=b.O-(cf+1)) fh aW (bl _<|jl _) ao Z6 (He s8) (ye c2 Z6) λk2 ow vK AK=>?_);dsimp (zeta:=Y1) (zetaHave:=Y1) only;let vL:∀x∈(b.toList.drop (cf+1)).take k2,∀y∈a.toList.drop qR,rk x<=rk y:=λx au y aJ=>by let(j,bJ,aK,rfl):=AI au;let:=vK j bJ;delta h5 at this;rw[hg aK]at this;simp at this;show bw (ei this)<|vJ a5 AJ y aJ
       let kM:∀(aK:cf+1+k2<b.O),rk a[qR]<=rk b[cf+1+k2]:=λaK=>by let:=AK k2 (b8 _) Z6;delta h5 at this;rw[hg aK]at this;simpa using this
       fail
       show pM ?_;intro fi gU;extract_lets+onlyGivenNames-underBinder jpv;clear_value (hjpv:jpv=_);revert jpv;show pN (V8:=λjp=>∀u (wI:MH b1) (yf:Y),rE rk a b (x+3) wI qR yf->(dN:yf<b.O)->rk a[qR]<=rk b[yf]->wpS ZB A E s (jp u wI yf) fi (jL st r1)) ?zM ?k2
       case k2 =>
        subst gU;intro jp bJ;show i3 (λaW=>?_) λaW=>?_
        .fail;fail
         let fR:=df.L9 c2 vL;show j5 (λcM=>da<|.ret _ _ _<|AH fR a5 c2<|.inl<|dy cM.symm) λcM=>?_;let uN:cf+1+k2<b.O:=by lia
         show bJ _ _ _ {fR,aY.p,uN,by let:=aY.s;lia} uN<|kM uN
        .let:k2=0:=(jk (ci aW)<|fY _)
         subst this;show bJ _ _ _ {df,aY.p,s8,io aY.s} s8<|kM s8
       case zM =>
        subst gU;intro u wI yf c5 cP kh;show cI<|iM AJ ?_
        fail;fail
        let jV:=c5.m.wH a5 AJ λy aJ=>bw kh<|vJ c2 cP y aJ;show j5 (λcM=>da<|.ret _ _ _<|Et jV a5 c2<|Gy _ _ cM) λcM=>?_;let bI:rE rk a b (x+2) _ (qR+1) yf:={jV,sE aY.p cM,cP,by let:=c5.s;lia}
        show i3 (λ_=>da<|.go _ _ _ _ _ bI) λ_=>da<|.mk _ _ _ _ _ bI
end
section
variable {rk:b1->Y}{cJ fb R:O b1}{na nb:Y}
structure hq (rk:b1->Y) (cJ fb R:O b1) (na nb:Y):Prop where
 perm:R.Perm<|cJ.drop na++fb.drop nb
 nB:fc rk R
 qy:∀x∈cJ.take na,∀y∈R,rk x<=rk y
 qz:∀x∈fb.take nb,∀y∈R,rk x<=rk y
def hq.swap(h:hq rk cJ fb R na nb):hq rk fb cJ R nb na:={h.perm.trans sA,h.nB,h.qz,h.qy}
def hq.app(h:hq rk cJ fb R na nb)(a5:fc rk cJ)(m:Y)(hm:m<=na)(au:∀x∈(cJ.drop m).take (na-m),∀y∈fb.take nb,rk y<=rk x):hq rk cJ fb ((cJ.drop m).take (na-m)++R) m nb:=by
 let hd:cJ.drop m=(cJ.drop m).take (na-m)++cJ.drop na:=by
  let:(cJ.drop m).drop (na-m)=cJ.drop na:=by rw[Cd];congr 1;show nS hm
  rw[<-this,nN]
 let ct:cJ.take na=cJ.take m++(cJ.drop m).take (na-m):=by let:=li (l:=cJ) (i:=m) (j:=na-m);rw[show m+(na-m)=na from(nS hm)]at this;show this
 let st:fc rk<|cJ.take na:=a5.sublist<|y2 _ _;rw[ct]at st;let(s1,s2,s3):=mi.mp st;show{?_,?_,?_,?_}
 .show(h.perm.append_left _).trans ?_;rw[<-hk,<-hd]
 .show mi.mpr {s2,h.nB,λx ff y aJ=>h.qy x (by rw[ct];show lN _ ff) y aJ}
 .intro x ff y aJ;rcases i9.mp aJ with aJ|aJ
  .show s3 x ff y aJ
  .show h.qy x (by rw[ct];show nO _ ff) y aJ
 .intro x ff y aJ;rcases i9.mp aJ with aJ|aJ
  .show au y aJ x ff
  .show h.qz x ff y aJ
def hq.fin(h:hq rk cJ fb R na nb)(a5:fc rk cJ)(c2:fc rk fb)(au:∀x∈cJ.take na,∀y∈fb.take nb,rk x<=rk y):fc rk (cJ.take na++fb.take nb++R)/\(cJ.take na++fb.take nb++R).Perm (cJ++fb):=by
 show{mi.mpr {mi.mpr ⟨a5.sublist<|y2 _ _,c2.sublist<|y2 _ _,au⟩,h.nB,λx ff y aJ=>?_},?_}
 .rcases i9.mp ff with ff|ff
  .show h.qy x ff y aJ
  .show h.qz x ff y aJ
 .show(h.perm.append_left _).trans ?_;let p:(cJ.take na++fb.take nb++(cJ.drop na++fb.drop nb)).Perm (cJ.take na++cJ.drop na++(fb.take nb++fb.drop nb)):=by rw[hk,hk];show Nv _ ?_;rw[<-hk,<-hk];show sA.append_right _
  rw[nN,nN]at p;show p
end
section
variable {prog:dn}{w:cV}{A:dH}{E:ay->aN->Prop}{s:aN}{κ:xc}{dI:MH b1}{rk:b1->Y}
def AL(a:MH b1)(m n:Y):(a.extract m n).B=(a.toList.drop m).take (n-m):=by rw[Cw,B2]
def amN(out:MH b1)(x:b1):(out.push x).B.reverse=[x]++out.B.reverse:=by simp
def alc(out c:MH b1):(out++c.reverse).B.reverse=c.B++out.B.reverse:=by simp
def Ew(a:MH b1)(n:Y):(a.extract 0 n).B=a.toList.take n:=by rw[AL];simp
def hq.wH{a b out:MH b1}{na nb:Y}(h:hq rk a.B b.B out.B.reverse na nb)(a5:fc rk a.B)(h0:0<na)(bl:na-1<a.O)(au:∀y∈b.toList.take nb,rk y<=rk a[na-1]):hq rk a.B b.B (out.push a[na-1]).B.reverse (na-1) nb:=by
 let e:(a.toList.drop<|na-1).take (na-(na-1))=[a[na-1]]:=by rw[show na-(na-1)=1 from(Nat.sub_sub_self h0),Es a bl]
 let:=h.app a5 (na-1) (m4 _ _) (by rw[e];intro x ff y aJ;rw[gK.mp ff];show au y aJ);rw[e]at this;rw[amN];show this
def hq.wG{a b out:MH b1}{na nb:Y}(h:hq rk a.B b.B out.B.reverse na nb)(c2:fc rk b.B)(h0:0<nb)(ao:nb-1<b.O)(au:∀y∈a.toList.take na,rk y<=rk b[nb-1]):hq rk a.B b.B (out.push b[nb-1]).B.reverse na (nb-1):=(hq.wH (a:=b) (b:=a) h.swap c2 h0 ao au).swap
def hq.BS{a b out:MH b1}{na nb m:Y}(h:hq rk a.B b.B out.B.reverse na nb)(a5:fc rk a.B)(hm:m<=na)(au:∀x∈(a.toList.drop m).take (na-m),∀y∈b.toList.take nb,rk y<=rk x):hq rk a.B b.B (out++(a.extract m na).reverse).B.reverse m nb:=by rw[alc,AL];show h.app a5 m hm au
def hq.L9{a b out:MH b1}{na nb m:Y}(h:hq rk a.B b.B out.B.reverse na nb)(c2:fc rk b.B)(hm:m<=nb)(au:∀x∈(b.toList.drop m).take (nb-m),∀y∈a.toList.take na,rk y<=rk x):hq rk a.B b.B (out++(b.extract m nb).reverse).B.reverse na m:=(hq.BS (a:=b) (b:=a) h.swap c2 hm au).swap
def AM{a b out:MH b1}{na nb:Y}(h:hq rk a.B b.B out.B.reverse na nb)(a5:fc rk a.B)(c2:fc rk b.B)(au:na=0\/nb=0):hI rk a b<|a.extract 0 na++b.extract 0 nb++out.reverse:=by
 delta hI;rw[ii,ii,Ew,Ew,qaZ];show h.fin a5 c2 ?_;rcases au with rfl|rfl
 .intro x au;simp at au
 .intro x _ y aJ;simp at aJ
def Ex{a b out:MH b1}{na nb:Y}(h:hq rk a.B b.B out.B.reverse na nb)(a5:fc rk a.B)(c2:fc rk b.B)(au:∀x∈b.toList.take nb,∀y∈a.toList.take na,rk x<=rk y):hI rk a b<|b.extract 0 nb++a.extract 0 na++out.reverse:=by delta hI;rw[ii,ii,Ew,Ew,qaZ];let(ae,ai):=h.swap.fin c2 a5 au;show{ae,ai.trans sA}
def yg{a:MH b1}(h:fc rk a.B){n:Y}(h0:0<n)(bI:n-1<a.O):∀y∈a.toList.take n,rk y<=rk a[n-1]:=by intro y aJ;let(j,bJ,rfl):=y0.mp aJ;rw[kZ,gW]at bJ;rw[y4];let:=ye (rk:=rk) (lo:=0) (hi:=a.O) h (b8 _) j (n-1) (fY _) Z6<|bI;rw[hg<|dX bJ<|Co _ _,hg bI]at this;simpa using this
structure ki (rk:b1->Y) (a b:MH b1) (n na nb:Y) (out:MH b1):Prop where
 m:hq rk a.B b.B out.B.reverse na nb
 p:0<na
 q:na<=a.O
 r:1<nb
 t:nb<=b.O
 s:n+na+nb<=a.O+b.O
def ki.le{n m na nb:Y}(h:ki rk a b n na nb out)(l:m<=n):ki rk a b m na nb out:={h.m,h.p,h.q,h.r,h.t,by let:=h.s;lia}
def ki.ga{n na nb:Y}(h:ki rk a b n na nb out):na-1<a.O:=by let:=h.p;let:=h.q;lia
def ki.lk{n na nb:Y}(h:ki rk a b n na nb out):nb-1<b.O:=by let:=h.r;let:=h.t;lia
def ki.a1{n na nb:Y}(h:ki rk a b n na nb out)(m:hq rk a.B b.B p5.B.reverse (na-1) nb)(c:na-1≠0):ki rk a b (n+1) (na-1) nb p5:={m,kr c,bw (m4 _ _) h.q,h.r,h.t,by let:=h.p;let:=h.s;lia}
def ki.bO{n na nb:Y}(h:ki rk a b n na nb out)(m:hq rk a.B b.B p5.B.reverse na<|nb-1)(c:nb-1≠1):ki rk a b (n+1) na (nb-1) p5:={m,h.p,h.q,by let:=h.r;lia,bw (m4 _ _) h.t,by let:=h.r;let:=h.s;lia}
def aco(fh:nJ prog w A E s κ dI rk){st:dY}(aW:hP st=κ){a b:MH b1}(bl:∀x∈a,x∈dI)(ao:∀x∈b,x∈dI)(a5:fc rk a.B)(c2:fc rk b.B)(AN:0<a.O)(Ey:0<b.O)
  (hf:∀x∈a,rk b[0]<rk x) (az:∀x∈b,rk x<rk a[a.O-1])
  {Q:MH b1->dY->Prop} (h:∀r g,hI rk a b r->Q r (jL st g)):wpS ZB A E s (PL a b) Q st:=by
 let same:∀r,hI rk a b r->Q r st:=λr a4=>h r (sU st) a4;let GN:∀{nb} na,nb=1->∀x∈b.toList.take nb,∀y∈a.toList.take na,rk x<=rk y:=λna e x au y aJ=>by
  subst e;let au:x=b[0]:=by let:=Es b Ey;rw[Ce]at this;rw[this]at au;show gK.mp au
  rw[au];show ei (hf y<|by simpa using wN aJ)
 let x1:a.O-1<a.O:=w0 AN Z1;let start:hq rk a.B b.B (#[a[a.O-1]]:MH b1).B.reverse (a.O-1) b.O:=by
  let h0:hq rk a.B b.B (#[]:MH b1).B.reverse a.O b.O:={by simp,by simp,by simp,by simp}
  show h0.wH a5 AN x1 λy aJ=>ei (az y<|by simpa using wN aJ)
 delta PL;delta wpS;wp_delta;wp_delta;show tI ?_;show cI<|rm<|kz {P,?_}
 repeat fail
 show cI<|iM (i:=a.O-1) x1 ?_
 repeat fail
 show j5 (λcb=>da<|same _<|AM start a5 c2<|.inl cb) λcb=>j5 (λd9=>da<|same _<|Ex start a5 c2<|GN _ d9) λd9=>?_;show cI<|n2 ?_
 repeat fail
 show cI (yd (In:=ki rk a b) (G:=hI rk a b) (λx=>x+1) (a.O+b.O) {start,kr cb,m4 _ _,by lia,b8 _,by lia} ?step (λ_ _ _ h=>h.le<|uo _) (λg r _ a4=>da<|h r g a4) λg na nb out bf h=>?post)
 case post =>
  let ae:=h.p;let aS:=h.s;lia
 case step =>
  intro x g na nb out bf au ae;show wpS _ _ _ _ (Vj _ _) _ _;dsimp (zeta:=Y1) (zetaHave:=Y1) only;show cI (yd (G:=hI rk a b) (z:=(0,0)) (λy=>x+1+y) (x+2) ae ?s1 (λ_ _ _ h=>h.le<|Cj<|rf AN) (λg r z a4=>?bx) λg na nb out z ae=>?c5)
  case s1 =>
   intro y g na nb out z aJ d6;let(ac,rF):=z;let ga:=d6.ga;let lk:=d6.lk;show wpS _ _ _ _ (Vj _ _) _ _;dsimp (zeta:=Y1) (zetaHave:=Y1) only;show cI<|iM lk<|cI<|iM ga<|cI<|fh _ _ _ _ aW (ao _<|jl _) (bl _<|jl _) ?_;dsimp (zeta:=Y1) (zetaHave:=Y1) only;show tJ (λhw=>?_) λhw=>?_
   .repeat fail
    show cI<|iM ga ?_
    repeat fail
    let df:=d6.m.wH a5 d6.p ga λy aJ=>bw (yg c2 (kb d6.r) lk y aJ)<|ei hw;show j5 (λc=>da<|.ret _ _ _<|AM df a5 c2<|.inl c) λc=>?_;let bI:=d6.a1 df c;show i3 (λ_=>da<|.go _ _ _ _ _<|bI.le<|sF<|ia _ _) λ_=>da<|.mk _ _ _ _ _ bI
   .repeat fail
    show cI<|iM lk ?_
    repeat fail
    let df:=d6.m.wG c2 (kb d6.r) lk λy aJ=>bw (yg a5 d6.p ga y aJ)<|ci hw;show j5 (λc=>da<|.ret _ _ _<|Ex df a5 c2<|GN _ c) λc=>?_;let bI:=d6.bO df c;show i3 (λ_=>da<|.go _ _ _ _ _<|bI.le<|sF<|ia _ _) λ_=>da<|.mk _ _ _ _ _ bI
  case bx =>
   repeat fail
   show da<|.ret _ _ _ a4
  case c5 =>
   let(ac,rF):=z;show wpS _ _ _ _ (Vj _ _) _ _;dsimp (zeta:=Y1) (zetaHave:=Y1) only;show cI<|rm<|kz {P,?_}
   repeat fail
   show cI (yd (G:=hI rk a b) (z:=(_,ac,rF)) (λ_=>x+2) (x+2) ae ?s2 (λ_ _ _ h=>h) (λg r z a4=>?cn) λg na nb out z ae=>?cP)
   case cn =>
    repeat fail
    show da<|.ret _ _ _ a4
   case cP =>
    let(bf,ac,rF):=z;show wpS _ _ _ _ (Vj _ _) _ _;dsimp (zeta:=Y1) (zetaHave:=Y1) only
    repeat fail
    show cI<|Eu<|da<|.mk _ _ _ _ _ ae
   case s2 =>
     intro y g na nb out z aJ d6;let(bf,ac,rF):=z;let ga:=d6.ga;let lk:=d6.lk
     fail;fail;fail;fail;fail;fail;fail;fail;fail;fail;fail
     dsimp (zeta:=Y1) (zetaHave:=Y1) only;show pM ?_;intro fi gU;extract_lets+onlyGivenNames-underBinder jpv;clear_value (hjpv:jpv=_);revert jpv;show pN (V8:=λjp=>∀u m,wpS ZB A E s (jp u m) fi<|jL st g) ?rG ?k0
     case k0 =>
      subst gU;intro jp bJ;show i3 (λ_=>?_) λ_=>bJ _ _
      fail
      show bJ _ _
     case rG =>
      subst gU;intro u r1;show cI<|Eu<|cI<|iM lk<|cI (yc (st:=jL st r1) (arr:=a) (base:=0) (n:=na) fh aW (ao _<|jl _) bl (by let:=d6.q;show y9 this<|fY _) (w0 d6.p Z1) (ye a5 (by let:=d6.q;show y9 this<|fY _)) λk pK mK vG=>?_);dsimp (zeta:=Y1) (zetaHave:=Y1) only;let lo:∀x∈(a.toList.drop k).take (na-k),∀y∈b.toList.take nb,rk y<=rk x:=λx au y aJ=>by let(j,bJ,aK,rfl):=AI au;let:=vG (k+j) (ia _ _) Z6;delta h5 at this;rw[wZ,hg aK]at this;simp at this;show bw (yg c2 (kb d6.r) lk y aJ)<|ei this
      let hi:∀(h0:0<k) (aK:k-1<a.O),rk a[k-1]<=rk b[nb-1]:=λh0 aK=>by let:=mK (k-1)<|w0 h0 Z1;delta h5 at this;rw[wZ,hg aK]at this;simpa using this
      fail;fail
      show pM ?_;intro fi gU;extract_lets+onlyGivenNames-underBinder jpv;clear_value (hjpv:jpv=_);revert jpv;show pN (V8:=λjp=>∀u (qS:Y) (p5:MH b1),ki rk a b (x+2) qS nb p5->(dN:qS-1<a.O)->rk a[qS-1]<=rk b[nb-1]->wpS ZB A E s (jp u qS p5) fi (jL st r1)) ?uY ?k1
      case k1 =>
       subst gU;intro jp bJ;show i3 (λaW=>?_) λaW=>?_
       .fail;fail
        let df:=d6.m.BS a5 pK lo;show j5 (λc=>da<|.ret _ _ _<|AM df a5 c2<|.inl c) λc=>?_;let bI:ki rk a b (x+2) k nb _:={df,kr c,bw pK d6.q,d6.r,d6.t,by let:=d6.s;lia}
        show bJ _ _ _ bI bI.ga<|hi bI.p bI.ga
       .let:k=na:=by lia
        subst this;show bJ _ _ _ d6 ga<|hi d6.p ga
      case uY =>
       subst gU;intro u qS p5 aY AO h4
       fail
       show cI<|iM lk ?_
       fail
       let df:=aY.m.wG c2 (kb aY.r) lk λy aJ=>bw (yg a5 aY.p AO y aJ) h4;show j5 (λc=>da<|.ret _ _ _<|Ex df a5 c2<|GN _ c) λc=>?_;let ck:=aY.bO df c;show cI<|iM AO<|cI (yc (st:=jL st r1) (arr:=b) (base:=0) (n:=nb-1) fh aW (bl _<|jl _) ao (by let:=ck.t;show y9 this<|fY _) (w0 (kb ck.r) Z1) (ye c2 (by let:=ck.t;show y9 this<|fY _)) λk2 ow vK AK=>?_);dsimp (zeta:=Y1) (zetaHave:=Y1) only;let vL:∀x∈(b.toList.drop k2).take (nb-1-k2),∀y∈a.toList.take qS,rk y<=rk x:=λx au y aJ=>by let(j,bJ,aK,rfl):=AI au;let:=AK (k2+j) (ia _ _) Z6;delta h5 at this;rw[wZ,hg aK]at this;simp at this;show bw (yg a5 aY.p AO y aJ) this
       let kM:∀(h0:0<k2) (aK:k2-1<b.O),rk b[k2-1]<rk a[qS-1]:=λh0 aK=>by let:=vK (k2-1)<|w0 h0 Z1;delta h5 at this;rw[wZ,hg aK]at this;simpa using this
       fail;fail
       show pM ?_;intro fi gU;extract_lets+onlyGivenNames-underBinder jpv;clear_value (hjpv:jpv=_);revert jpv;show pN (V8:=λjp=>∀u (x6:Y) (wI:MH b1),ki rk a b (x+2+1) qS x6 wI->(dN:x6-1<b.O)->rk b[x6-1]<rk a[qS-1]->wpS ZB A E s (jp u x6 wI) fi (jL st r1)) ?zM ?k2
       case k2 =>
        subst gU;intro jp bJ;show i3 (λaW=>?_) λaW=>?_
        .fail;fail
         let fR:=df.L9 c2 ow vL;show j5 (λcM=>da<|.ret _ _ _<|Ex fR a5 c2<|GN _ cM) λcM=>j5 (λPO=>da<|.ret _ _ _<|AM fR a5 c2<|.inr PO) λPO=>?_;let bI:ki rk a b (x+2+1) qS k2 _:={fR,aY.p,aY.q,by lia,bw ow ck.t,by let:=ck.s;lia}
         show bJ _ _ _ bI bI.lk<|kM (kb bI.r) bI.lk
        .let:k2=nb-1:=by lia
         subst this;show bJ _ _ _ ck ck.lk<|kM (kb ck.r) ck.lk
       case zM =>
        subst gU;intro u x6 wI c5 cP xx
        fail
        show cI<|iM AO ?_
        fail
        let jV:=c5.m.wH a5 aY.p AO λy aJ=>bw (yg c2 (kb c5.r) cP y aJ)<|ei xx;show j5 (λcM=>da<|.ret _ _ _<|AM jV a5 c2<|.inl cM) λcM=>?_;let bI:=(c5.a1 jV cM).le (ia (x+2) 2);show i3 (λ_=>da<|.go _ _ _ _ _ bI) λ_=>da<|.mk _ _ _ _ _ bI
end
def acp(m:O b1):∀(n:Y) (arr:MH b1) (lo:Y),lo+n+m.H<=arr.O ->
  ((m.zipIdx n).foldl (λa (p:b1×Y)=>a.setIfInBounds (lo+p.2) p.1) arr).B=arr.toList.take (lo+n)++m++arr.toList.drop (lo+n+m.H):=by
 induction m with
 |nil=>intro n arr lo h;simp
 |cons x m aQ =>
  intro n arr lo h;rw[qaL,jj,aQ (n+1) _ lo<|by rw[Array.size_setIfInBounds,dv]at*;lia];rw[dv]at h;let dN:lo+n<arr.B.H:=by rw[gW];show oS h
  rw[qaY];let aB:(arr.toList.set (lo+n) x).take (lo+(n+1))=arr.toList.take (lo+n)++[x]:=by rw[show lo+(n+1)=lo+n+1 from(zb _),qaI,List.take_set_of_le<|b8 _];rw[GW dN];rfl
  let ax:(arr.toList.set (lo+n) x).drop (lo+(n+1)+m.H)=arr.toList.drop (lo+n+(x::m).H):=by rw[List.drop_set_of_lt Z6,dv];congr 1;lia
  rw[aB,ax];simp
def PQ:Y->StateT dY Sem MF:=sortPriv% PySem.Builtin.mergeAt
section
variable {prog:dn}{w:cV}{A:dH}{E:ay->aN->Prop}{s:aN}{κ:xc}{dI:MH b1}{rk:b1->Y}
abbrev yh(st:dY)(p:MH<|Y×Y×Y)(xs:MH b1)(g:Y):dY:=SortSt.mk' (hP st) xs p g<|rl st
structure JJ (rk:b1->Y) (xs i4:MH b1) (lo hi:Y):Prop where
 perm:i4.Perm xs
 same:∀i,(i<lo\/hi<=i)->i4[i]?=xs[i]?
 nB:gj rk i4 lo hi
def PR{lo hi i j:Y}(h:gj rk xs lo hi)(ae:lo<=i)(ai:j<=hi)(aS:hi<=xs.O):fc rk (xs.extract i j).B:=by rw[AL,fc,B3];intro p q aC bc acq;rw[kZ,qe,gW]at aC bc;rw[y4,y3,y4,y3];let:=h (i+p) (i+q) (rf ae) (ir (ei acq) _) Z6;rw[hg Z6,hg Z6]at this;simpa using this
def JK{xs:MH b1}{i j k:Y}(h:k<(xs.extract i j).O)(h':i+k<xs.O):(xs.extract i j)[k]=xs[i+k]:=by rw[Array.getElem_extract]
def AP{xs:MH b1}{i j:Y}(h:j<=xs.O):(xs.extract i j).O=j-i:=by rw[Array.size_extract,Nat.min_eq_left h]
def Ez{xs:MH b1}{i j:Y}{x:b1}(bJ:j<=xs.O)(h:x∈xs.extract i j):∃k,i<=k/\k<j/\∃aK:k<xs.O,x=xs[k]:=by let(k,aW,rfl):=Array.mem_iff_getElem.mp h;rw[AP bJ]at aW;show{i+k,(ia _ _),by lia,by lia,JK _ _}
def acr{a5 na nb k k2:Y}(hsz:a5+na+nb<=xs.O)(aW:k<na)(h0:0<k2)(mK:k2<=nb)(s1:gj rk xs a5<|a5+na)(s2:gj rk xs (a5+na)<|a5+na+nb)
  (lo:∀p,a5<=p->p<a5+k->Wt rk xs p<=Wt rk xs (a5+na)) (up:∀p,a5+k<=p->p<a5+na->Wt rk xs (a5+na)<Wt rk xs p)
  (vL:∀p,a5+na<=p->p<a5+na+k2->Wt rk xs p<Wt rk xs (a5+na-1)) (EA:∀p,a5+na+k2<=p->p<a5+na+nb->Wt rk xs (a5+na-1)<=Wt rk xs p)
  (a4:hI rk (xs.extract (a5+k)<|a5+na) (xs.extract (a5+na)<|a5+na+k2) r) :
  JJ rk xs (Nu (λa (p:b1×Y)=>a.setIfInBounds (a5+k+p.2) p.1) xs r.B.zipIdx) a5 (a5+na+nb):=by
 let(bP,aC):=a4;let el:r.B.H=na-k+k2:=by rw[aC.length_eq,gm,gW,gW,AP<|lQ hsz,AP<|bw (ir mK _) hsz,Hb,y7]
 let ax:a5+na+k2=a5+k+(na-k+k2):=by rw[<-rg,rg a5 k,nS<|ei aW]
 let W:=acp r.B 0 xs (a5+k) (by rw[el,Ct,<-ax];show bw (ir mK _) hsz);rw[Ct,el]at W;generalize aoI:Nu (λa (p:b1×Y)=>a.setIfInBounds (a5+k+p.2) p.1) xs r.B.zipIdx=aO at W |-;let PS:(xs.extract (a5+k)<|a5+na).B++(xs.extract (a5+na)<|a5+na+k2).B=(xs.toList.drop<|a5+k).take (na-k+k2):=by
  rw[AL,AL,li,Cd];congr 2
  .show Hb _ _ _
  .show y7 _ _
  .congr 1;lia
 let dN:(xs.toList.take<|a5+k).H=a5+k:=by rw[kZ,gW];lia
 let hi:∀{p},a5+k<=p->p<a5+na+k2->p-(a5+k)<r.B.H:=λh h'=>by rw[el];show y6 h<|ax▸h'
 let g1:∀p,p<a5+k->aO[p]?=xs[p]?:=λp h=>by rw[<-kv,W,hk,yX<|dX h<|dy dN.symm,qap h,kv]
 let g2:∀p,a5+k<=p->p<a5+na+k2->aO[p]?=r.B[p-(a5+k)]?:=λp h h'=>by rw[<-kv,W,hk,B0<|bw (dy dN) h,dN,yX<|hi h h']
 let g3:∀p,a5+na+k2<=p->aO[p]?=xs[p]?:=λp h=>by rw[<-kv,W,B0 (by rw[gm,dN,el,<-ax];show h),gm,dN,el,List.getElem?_drop,<-ax,nS h,kv]
 let inr:∀p,a5+k<=p->p<a5+na+k2->∃q,a5+k<=q/\q<a5+na+k2/\Wt rk aO p=Wt rk xs q:=λp h h'=>by
  let hi:=hi h h';let hm:r.B[p-(a5+k)]∈(xs.toList.drop<|a5+k).take (na-k+k2):=by rw[<-PS];show aC.mem_iff.mp<|nP hi
  let(j,bJ,aK,e):=AI hm;show{a5+k+j,(ia _ _),by lia,?_};rw[hg aK,<-e];delta Wt;rw[g2 p h h',gd hi];rfl
 let a1:∀p,p<a5+k->Wt rk aO p=Wt rk xs p:=λp h=>by delta Wt;rw[g1 p h]
 let iX:∀p,a5+na+k2<=p->Wt rk aO p=Wt rk xs p:=λp h=>by delta Wt;rw[g3 p h]
 show{?_,λp h=>?_,λp q ae ai aS=>?_}
 .rw[Hm,W];let:xs.B=xs.toList.take (a5+k)++((xs.toList.drop<|a5+k).take (na-k+k2)++xs.toList.drop (a5+k+(na-k+k2))):=by
   let e:xs.toList.drop (a5+k+(na-k+k2))=(xs.toList.drop<|a5+k).drop (na-k+k2):=by rw[Cd]
   rw[e,nN,nN]
  rw[hk]
  conv=>rhs;rw[this]
  show Nv _<|List.Perm.append_right _ ?_;rw[<-PS];show aC
 .rcases h with h|h
  .show g1 p<|rf h
  .show g3 p<|bw (ir mK _) h
 .let key:∀u v,a5<=u->u<a5+na->a5+na<=v->v<a5+na+nb->(u<a5+k\/a5+na+k2<=v)->Wt rk xs u<=Wt rk xs v:=λu v bO b6 eW kD zP=>by
   rcases zP with zP|zP
   .show bw (lo u bO zP)<|s2 _ v (b8 _) eW kD
   .show bw (s1 u (a5+na-1) bO (uh b6)<|Cm b6)<|EA v zP kD
  let cmp:∀u v,a5<=u->u<=v->v<a5+na+nb->(u<a5+k\/a5+na+k2<=v)->Wt rk xs u<=Wt rk xs v:=λu v bO b6 eW kD=>by
   rcases mn v (a5+na) with c|c
   .show s1 u v bO b6 c
   .rcases mn u (a5+na) with d|d
    .show key u v bO d c eW kD
    .show s2 u v d b6 eW
  rcases mn p (a5+k) with cb|cb
  .rw[a1 p cb];rcases mn q (a5+k) with d9|d9
   .rw[a1 q d9];show cmp p q ae ai aS<|.inl cb
   .rcases mn q (a5+na+k2) with jU|jU
    .let(ej,aV,bb,e):=inr q d9 jU;rw[e];show cmp p ej ae (bw (ei cb) aV) (dX bb<|ir mK _)<|.inl cb
    .rw[iX q jU];show cmp p q ae ai aS<|.inl cb
  .rcases mn p (a5+na+k2) with d9|d9
   .rcases mn q (a5+na+k2) with jU|jU
    .let fN:p-(a5+k)<r.O:=hi cb d9;let acs:q-(a5+k)<r.O:=hi (bw cb ai) jU;let:=ye (rk:=rk) (lo:=0) (hi:=r.O) bP (b8 _) (p-(a5+k)) (q-(a5+k)) (fY _) (G9 ai _) acs;delta Wt at this |-;rw[g2 p cb d9,g2 q (bw cb ai) jU,kv,kv];show this
    .let(fT,aV,bb,e):=inr p cb d9;rw[e,iX q jU];show cmp fT q (lQ aV) (bw (ei bb) jU) aS<|.inr jU
   .rw[iX p d9,iX q<|bw d9 ai];show cmp p q ae ai aS<|.inr<|bw d9 ai
def amO{st dh:dY}{Q:PUnit->dY->Prop}(h:Q ⟨⟩ dh):wpS ZB A E s (set dh:StateT dY Sem PUnit) Q st:=by delta wpS;rw[StateT.run_set];show bW {(P),h}
def acu(fh:nJ prog w A E s κ dI rk){st:dY}(aW:hP st=κ)(aC:(cS st).Perm dI)(acv:rl st=C){i a5 na pa nb pb:Y}(c5:(fK st)[i]?=J (a5,na,pa))(cP:(fK st)[i+1]?=J (a5+na,nb,pb))
  (AN:0<na) (Ey:0<nb) (hsz:a5+na+nb<=(cS st).O) (s1:gj rk (cS st) a5<|a5+na) (s2:gj rk (cS st) (a5+na)<|a5+na+nb)
  {Q:MF->dY->Prop} (h:∀xs g,JJ rk (cS st) xs a5 (a5+na+nb)->Q Y0 (yh st (((fK st).setIfInBounds i (a5,na+nb,pa)).eraseIdxIfInBounds (i+1)) xs g)):wpS ZB A E s (PQ i) Q st:=by
 delta PQ;delta wpS;wp_delta;wp_delta;show tI ?_;let oK:∀x∈cS st,x∈dI:=λx au=>aC.mem_iff.mp au
 let done:(∀p q,a5<=p->p<a5+na->a5+na<=q->q<a5+na+nb->Wt rk (cS st) p<=Wt rk (cS st) q)->JJ rk (cS st) (cS st) a5 (a5+na+nb):=λau=>⟨.refl _,λ_ _=>P,λp q ae ai aS=>by
  rcases mn q (a5+na) with c|c
  .show s1 p q ae ai c
  .rcases mn p (a5+na) with cM|cM
   .show au p q ae cM c aS
   .show s2 p q cM ai aS⟩
 let l5:a5+na<(cS st).O:=(dX (Cj Ey) hsz)
 show cI<|n2 ?_;rw[show(PyProof.Rows.pendingOf st)[i]?=J (a5,na,pa) from c5,show(PyProof.Rows.pendingOf st)[i+1]?=J (a5+na,nb,pb) from cP];dsimp (zeta:=Y1) (zetaHave:=Y1) only;show cI<|amO ?_;show cI<|iM l5 ?_;show cI (yc (st:=yh st (((fK st).setIfInBounds i (a5,na+nb,pa)).eraseIdxIfInBounds (i+1)) (cS st)<|sU st) (arr:=cS st) (base:=a5) (n:=na) fh aW (oK _<|jl _) oK (ei l5) AN s1 λk pK mK vG=>?_);dsimp (zeta:=Y1) (zetaHave:=Y1) only;let lo:∀p,a5<=p->p<a5+k->Wt rk (cS st) p<=Wt rk (cS st) (a5+na):=λp ae ai=>by let:=mK (p-a5)<|y6 ae ai;delta h5 at this;rw[show a5+(p-a5)=p from(nS ae)]at this;rw[hg l5];simpa using this
 let up:∀p,a5+k<=p->p<a5+na->Wt rk (cS st) (a5+na)<Wt rk (cS st) p:=λp ae ai=>by let:=vG (p-a5) (qaQ ae)<|y6 (lQ ae) ai;delta h5 at this;rw[show a5+(p-a5)=p from(nS<|lQ ae)]at this;rw[hg l5];simpa using this
 by_cases c:na-k=0
 .rw[Y2<|by simpa using c];show da<|h _ (sU st) (done λp q ae ai aS dp=>bw (lo p ae<|dX ai<|ir (y8 c) _)<|s2 (a5+na) q (b8 _) aS dp)
 rw[Y3<|by simpa using c];let tf:a5+k+(na-k)-1=a5+na-1:=by rw[rg,nS pK]
 let JL:a5+k+(na-k)-1<(cS st).O:=gr (dy tf)<|Hf l5;show cI<|iM JL ?_;show cI (yc (st:=yh st (((fK st).setIfInBounds i (a5,na+nb,pa)).eraseIdxIfInBounds (i+1)) (cS st)<|sU st) (arr:=cS st) (base:=a5+na) (n:=nb) fh aW (oK _<|jl _) oK (hsz) (w0 Ey Z1) s2 λk2 ow vK AK=>?_);dsimp (zeta:=Y1) (zetaHave:=Y1) only;let vL:∀p,a5+na<=p->p<a5+na+k2->Wt rk (cS st) p<Wt rk (cS st) (a5+na-1):=λp ae ai=>by let:=vK (p-(a5+na))<|y6 ae ai;delta h5 at this;rw[show a5+na+(p-(a5+na))=p from(nS ae)]at this;rw[<-tf,hg JL];simpa using this
 let EA:∀p,a5+na+k2<=p->p<a5+na+nb->Wt rk (cS st) (a5+na-1)<=Wt rk (cS st) p:=λp ae ai=>by let:=AK (p-(a5+na)) (qaQ ae)<|y6 (lQ ae) ai;delta h5 at this;rw[show a5+na+(p-(a5+na))=p from(nS<|lQ ae)]at this;rw[<-tf,hg JL];simpa using this
 by_cases cM:k2=0
 .rw[Y2<|by simpa using cM];show da<|h _ (sU st) (done λp q ae ai aS dp=>bw (s1 p (a5+na-1) ae (uh ai)<|Cm ai)<|EA q (by rw[cM];show aS) dp)
 rw[Y3<|by simpa using cM]
 fail;fail
 show pM ?_;intro fi gU;extract_lets+onlyGivenNames-underBinder jpv;clear_value (hjpv:jpv=_);revert jpv;show pN (V8:=λjp=>∀(r:MH b1) g,hI rk ((cS st).extract (a5+k) (a5+na)) ((cS st).extract (a5+na) (a5+na+k2)) r->wpS ZB A E s (jp r) fi (yh st (((fK st).setIfInBounds i (a5,na+nb,pa)).eraseIdxIfInBounds (i+1)) (cS st) g)) ?rG ?k0
 case k0 =>
  subst gU;intro jp bJ;let C2:((cS st).extract (a5+k) (a5+na)).O=na-k:=by rw[AP<|ei l5,Hb]
  let C5:((cS st).extract (a5+na) (a5+na+k2)).O=k2:=by rw[AP<|bw (ir ow _) hsz];show y7 _ _
  let NH:∀x∈(cS st).extract (a5+k) (a5+na),x∈dI:=λx au=>by let(p,_,_,aK,rfl):=Ez (ei l5) au;show oK _<|jl _
  let NI:∀x∈(cS st).extract (a5+na) (a5+na+k2),x∈dI:=λx au=>by let(p,_,_,aK,rfl):=Ez (bw (ir ow _) hsz) au;show oK _<|jl _
  let NJ:fc rk ((cS st).extract (a5+k) (a5+na)).B:=PR s1 (ia _ _) (b8 _)<|ei l5;let NK:fc rk ((cS st).extract (a5+na) (a5+na+k2)).B:=PR s2 (b8 _) (ir ow _)<|hsz;let WK:((cS st).extract (a5+na) (a5+na+k2))[0]'(dX (kr cM)<|dy C5.symm)=(cS st)[a5+na]:=JK (k:=0) _ l5;let fD:∀x∈(cS st).extract (a5+k) (a5+na),rk (((cS st).extract (a5+na) (a5+na+k2))[0]'(dX (kr cM)<|dy C5.symm))<rk x:=λx au=>by let(p,aV,bb,aK,rfl):=Ez (ei l5) au;rw[WK];let:=up p aV bb;rw[hg aK,hg l5]at this;show this
  let PT:∀x∈(cS st).extract (a5+na) (a5+na+k2),rk x<rk (((cS st).extract (a5+k) (a5+na))[((cS st).extract (a5+k) (a5+na)).O-1]'(Nat.sub_one_lt<|C2▸c)):=λx au=>by
   let e:a5+k+(((cS st).extract (a5+k) (a5+na)).O-1)=a5+na-1:=by rw[C2,<-qaT (kr c),tf]
   let(p,aV,bb,aK,rfl):=Ez (bw (ir ow _) hsz) au;rw[JK (h':=by rw[e];show Hf l5)];let:=vL p aV bb;rw[hg aK,hg<|Hf l5]at this;erw[e];show this
  split
  .show cI (acn (st:=yh st (((fK st).setIfInBounds i (a5,na+nb,pa)).eraseIdxIfInBounds (i+1)) (cS st)<|sU st) fh aW NH NI NJ NK (dX (kr c)<|dy C2.symm) (dX (kr cM)<|dy C5.symm) (fD _<|jl _) PT λr g a4=>bJ r g a4)
  .show cI (aco (st:=yh st (((fK st).setIfInBounds i (a5,na+nb,pa)).eraseIdxIfInBounds (i+1)) (cS st)<|sU st) fh aW NH NI NJ NK (dX (kr c)<|dy C2.symm) (dX (kr cM)<|dy C5.symm) fD PT λr g a4=>bJ r g a4)
 case rG =>
  subst gU;intro r g a4;show cI<|xa ?_;show cI<|n2 ?_;show da ?_;let e:(rl st).isNone=Y0:=by rw[acv];rfl
  show fi (rl st).isNone _;rw[e];show h _ g<|acr hsz (Hd<|kr c) (kr cM) ow s1 s2 lo up vL EA a4
def PU(fh:nJ prog w A E s κ dI rk){st:dY}(aW:hP st=κ)(hm:∀x∈cS st,x∈dI){i j:Y}(hi:i<(cS st).O)(bJ:j<(cS st).O){Q:MB MF->dY->Prop}(h:Q (J<|decide (Wt rk (cS st) i<Wt rk (cS st) j)) st):wpS ZB A E s (ltAt' i j) Q st:=by rw[ltAt'_eq];show cI<|n2 ?_;show cI<|iM hi<|cI<|iM bJ ?_;show fh st _ _ _ aW (hm _<|jl _) (hm _<|jl _) ?_;rw[hg hi,hg bJ]at h;show h
noncomputable def Ut:Y->Y->Y->StateT dY Sem MF:=sortPriv% PySem.Builtin.binarySort
noncomputable def tZ:Y->Y->StateT dY Sem (MB Y):=sortPriv% PySem.Builtin.countRun
structure i5 (xs i4:MH b1) (lo hi:Y):Prop where
 perm:i4.Perm xs
 same:∀i,(i<lo\/hi<=i)->i4[i]?=xs[i]?
theorem i5.refl(xs:MH b1)(lo hi:Y):i5 xs xs lo hi:={.refl _,λ_ _=>P}
theorem i5.trans{lo hi:Y}(a:i5 xs aO lo hi)(b:i5 aO zs lo hi):i5 xs zs lo hi:={b.perm.trans a.perm,λi h=>(b.same i h).trans (a.same i h)}
def i5.size{lo hi:Y}(a:i5 xs aO lo hi):aO.O=xs.O:=a.perm.size_eq
def PV{lo ok:Y}(h:gj rk xs lo<|lo+ok):gj rk xs lo<|lo+max ok 1:=λp q bO b6 eW=>by
 rcases mn q (lo+ok) with c|c
 .show h p q bO b6 c
 .let:p=q:=by lia
  subst this;show b8 _
def ald{lo hi:Y}(h:∀p,lo<=p->p+1<hi->Wt rk xs p<=Wt rk xs (p+1)):gj rk xs lo hi:=λi j bO b6 eW=>by
 induction b6 with
 |refl=>show b8 _
 |step b6 aQ=>show bw (aQ<|kb eW)<|h _ (bw bO b6) eW
def ale{lo l k:Y}(aK:lo+k<xs.O)(az:l<=k)(s:gj rk xs lo<|lo+k)(gY:∀i,i<l->Wt rk xs (lo+i)<=Wt rk xs (lo+k))(n9:∀i,l<=i->i<k->Wt rk xs (lo+k)<Wt rk xs (lo+i)) :
  (∀p,p<lo\/lo+k<p->(bubble xs (lo+k)<|lo+k-(lo+l))[p]?=xs[p]?)/\gj rk (bubble xs (lo+k)<|lo+k-(lo+l)) lo (lo+k+1):=by
 let hp:=ir az lo;let e:∀p,(bubble xs (lo+k)<|lo+k-(lo+l))[p]?=if p=lo+l then xs[lo+k]? else if lo+l<p/\p<=lo+k then xs[p-1]? else xs[p]?:=λp=>by rw[getElem?_bubble aK _ (m4 _ _) p,Nat.sub_sub_self hp]
 show{λp aC=>?_,ald λp bO b6=>?_}
 .rw[e,Y3,Y3]
  .show λz=>aC.elim (λc=>Hj c<|gr (ia _ _) z.1) λc=>sG z.2 c
  .rintro rfl;show aC.elim (λc=>sG (ia _ _) c) λc=>sG hp c
 .let(i,rfl):=Nat.exists_eq_add_of_le bO;let eW:=Ck b6;delta Wt;rw[e,e];rcases Nat.lt_trichotomy i l with c|c|c
  .let cM:=nT c lo;rw[Y3<|eP cM,Y3 λz=>Hj cM z.1];rcases Nat.eq_or_lt_of_le c with d|d
   .rw[Y2 (show lo+i+1=lo+l from M1 (lo+·) d)];show gY i c
   .let d':lo+i+1<lo+l:=nT d lo;rw[Y3<|eP d',Y3 λz=>Hj d' z.1];show s _ _ bO (uo _)<|dX d' hp
  .subst c;rw[Y2 P,Y3<|Nat.succ_ne_self _,Y2 {m3 _,eW}];show ei<|n9 i (b8 _)<|Nat.lt_of_add_lt_add_left eW
  .let cM:=nT c lo;rw[Y3<|qj cM,Y2 {cM,ei eW},Y3<|qj<|m2 cM,Y2 {m2 cM,eW}];show s _ _ (Ha<|gr (ia _ _) cM) (m4 _ _) eW
inductive H9 (rk:b1->Y) (st:dY) (lo n k:Y):MB MF×Unit->dY->Prop
 |mk (xs:MH b1) (ae:i5 (cS st) xs lo<|lo+n) (ai:gj rk xs lo<|lo+k) (aS:k<=n\/n=0):H9 rk st lo n k (C,())<|jO st xs
def Gz{l r:Y}(h:l<r):l<=(l+r) / 2/\(l+r) / 2<r:=by lia
def alf{l r n x:Y}(h:l<r)(d:r-l<=n-x):r-((l+r) / 2+1)<=n-(x+1)/\(l+r) / 2-l<=n-(x+1):=by let e:r-(l+1)<=n-(x+1):=G9 d 1;show{bw (Hc (io (Gz h).1) r) e,bw (Ha<|Nat.sub_lt_sub_right (Gz h).1 (Gz h).2) e}
def ajy(fh:nJ prog w A E s κ dI rk){st:dY}(aW:hP st=κ)(aC:(cS st).Perm dI){lo n ok:Y}(bI:lo+n<=(cS st).O)(bX:ok<=n)(aK:gj rk (cS st) lo<|lo+ok)
  {Q:MF->dY->Prop} (h:∀xs,i5 (cS st) xs lo (lo+n)->gj rk xs lo (lo+n)->Q Y0 (jO st xs)):wpS ZB A E s (Ut lo n ok) Q st:=by
 delta Ut;delta wpS;wp_delta;wp_delta;show tI ?_;show cI<|lT (m8 (I:=H9 rk st lo n) (Q:=H9 rk st lo n n) ?step ?fin<|.mk (cS st) (.refl _ _ _) (PV aK) Z6) ?post
 case fin =>
  intro c dh fM;let(xs,ae,ai,aS):=fM;show .mk xs ae (λp q bO b6 eW=>ai p q bO b6<|dX eW<|ir (Hg _ _) _)<|.inl<|b8 _
 case post =>
  intro c dh fM;let(xs,ae,ai,aS):=fM
  repeat fail
  show da<|h xs ae ai
 case step =>
  intro k c dh aoJ acw fM;let(xs,ae,ai,aS):=fM;let JM:lo+k<xs.O:=dX (nT acw lo)<|bw bI<|dy ae.O.symm;let hm:∀x∈xs,x∈dI:=λx au=>(ae.perm.trans aC).mem_iff.mp au
  repeat fail
  show cI (lT (m8 (I:=λx=>td (λi=>Wt rk xs (lo+i)<=Wt rk xs (lo+k)) (λi=>Wt rk xs (lo+k)<Wt rk xs (lo+i)) (jO st xs) k<|k-x)
   (Q:=td (λi=>Wt rk xs (lo+i)<=Wt rk xs (lo+k)) (λi=>Wt rk xs (lo+k)<Wt rk xs (lo+i)) (jO st xs) k 0) ?s1 ?f1 (.mk 0 k (fY _) (b8 _) (b8 _) (λi hi=>MI hi<|Cp _) λi hi bJ=>MI bJ<|sG hi)) ?c5)
  case f1 =>
   intro c dh h';rw[Cr,Cs]at h';show h'
  case s1 =>
   intro x c dh _ au fM;let(l,r,g1,g2,g3,gY,n9):=fM
   repeat fail
   dsimp (zeta:=Y1) (zetaHave:=Y1) only;show i3 (λj3=>da<|.mk l r g1 g2 (dy<|G8 j3) gY n9) λj3=>?_;let dN:=uk j3;let(df,fR):=Gz dN;let(gu,iV):=alf dN g3;let jV:=dX fR g2
   repeat fail
   show cI<|PU (st:=jO st xs) fh aW hm JM (wY (nT jV lo) JM) ?_;dsimp (zeta:=Y1) (zetaHave:=Y1) only;show tJ (λhw=>?_) λhw=>?_
   .repeat fail
    show da (.mk l _ df (ei jV) iV gY λp bO b6=>dX hw<|ai _ _ (ia _ _) (ir bO _)<|nT b6 _)
   .repeat fail
    show da<|.mk _ r fR g2 gu (λp bO=>bw (ai _ _ (ia _ _) (ir (qh bO) _)<|nT jV _)<|ci hw) n9
  case c5 =>
   intro c dh fM;let(l,r,g1,g2,g3,gY,n9):=fM;let:l=r:=jk g1<|y8<|jk g3<|fY _;subst this
   repeat fail
   dsimp (zeta:=Y1) (zetaHave:=Y1) only;show cI ?_;show xa ?_;let(zQ,xt):=ale JM g2 ai gY n9;let Uu:k<n:=by lia
   show da<|.mk _ (ae.trans ⟨bubble_perm _ _ _,λp tL=>zQ p (tL.imp id λc=>dX (nT Uu _) c)⟩) xt<|.inl Uu
def EB{st:dY}{i j:Y}{Q:Unit->dY->Prop}(h:Q ()<|jO st<|mirror (cS st) i j<|(j-i) / 2):wpS ZB A E s (reverseSlice' i j) Q st:=by rw[reverseSlice'_eq];show xa h
def PW{i j:Y}(bJ:j<=xs.O)(p:Y):Wt rk (mirror xs i j<|(j-i) / 2) p=if i<=p/\p<j then Wt rk xs (i+j-1-p) else Wt rk xs p:=by delta Wt;rw[getElem?_mirror_all bJ p];split<;>rfl
def JN{i j:Y}(bJ:j<=xs.O)(he:∀p,i<=p->p<j->Wt rk xs p=Wt rk xs (j-1))(p:Y):Wt rk (mirror xs i j<|(j-i) / 2) p=Wt rk xs p:=by
 rw[PW bJ];split
 .rename_i h;rw[he _ Z6 Z6,he p h.1 h.2]
 .rfl
theorem i5.mirror{i j lo hi:Y}(bJ:j<=xs.O)(ae:lo<=i)(ai:j<=hi):i5 xs (mirror xs i j<|(j-i) / 2) lo hi:=⟨mirror_perm _ _ _ _,λp aC=>by
 rw[getElem?_mirror_all bJ p,Y3 λz=>aC.elim (λc=>Hh c<|bw ae z.1) λc=>sG (bw ai c) z.2]⟩
def uZ(rk:b1->Y)(xs:MH b1)(lo hi:Y):Prop:=∀p q,lo<=p->p<=q->q<hi->Wt rk xs q<=Wt rk xs p
def PX{R:Y->Y->Prop}(C6:∀a,R a a)(lX:∀{a b c},R a b->R b c->R a c){f:Y->Y}{lo x:Y}(g:∀p q,lo<=p->p<=q->q<lo+x->R (f p) (f q))(hw:R (f<|lo+x-1)<|f<|lo+x):∀p q,lo<=p->p<=q->q<lo+(x+1)->R (f p) (f q):=λp q bO b6 eW=>by
 rcases mn q (lo+x) with c|c
 .show g p q bO b6 c
 .obtain rfl:q=lo+x:=jk (qh eW) c;rcases mn p (lo+x) with d|d
  .show lX (g p (lo+x-1) bO (uh d)<|Cm d) hw
  .obtain rfl:p=lo+x:=jk b6 d;show C6 _
def gj.ext{lo x:Y}(g:gj rk xs lo<|lo+x)(hw:Wt rk xs (lo+x-1)<=Wt rk xs (lo+x)):gj rk xs lo<|lo+(x+1):=PX (R:=(·<=·)) b8 bw g hw
def uZ.ext{lo x:Y}(g:uZ rk xs lo<|lo+x)(hw:Wt rk xs (lo+x)<=Wt rk xs (lo+x-1)):uZ rk xs lo<|lo+(x+1):=PX (R:=λa b=>b<=a) b8 (λh h'=>bw h' h) g hw
inductive zR {S:Type} (V8:Y->Prop) (cT:dY):MB S×Y->dY->Prop
 |mk (n:Y) (h:V8 n):zR V8 cT (C,n) cT
structure C7 (rk:b1->Y) (xs:MH b1) (lo nrem n:Y):Prop where
 a:1<=n
 b:n<=nrem
 c:gj rk xs lo<|lo+n
inductive iH {S:Type} (rk:b1->Y) (st:dY) (lo nrem:Y) (V8:Y->Prop):MB S×Y×Y->dY->Prop
 |mk (xs:MH b1) (n pO:Y) (h:V8 n) (aV:i5 (cS st) xs lo<|lo+nrem) (bb:uZ rk xs lo<|lo+n) (c1:pO+1<=n) (gn:∀p,lo+n-(pO+1)<=p->p<lo+n->Wt rk xs p=Wt rk xs (lo+n-1)) (iw:n<=nrem):iH rk st lo nrem V8 (C,n,pO)<|jO st xs
def JO{lo x:Y}:∀p,lo+(x+1)-(0+1)<=p->p<lo+(x+1)->Wt rk xs p=Wt rk xs (lo+(x+1)-1):=λ_ bO b6=>M1 _<|jk (qh b6) bO
def yi(fh:nJ prog w A E s κ dI rk){st:dY}(aW:hP st=κ)(aC:(cS st).Perm dI){lo nrem:Y}(bI:lo+nrem<=(cS st).O)(ae:1<=nrem)
  {Q:MB Y->dY->Prop} (h:∀xs n,1<=n->n<=nrem->i5 (cS st) xs lo (lo+nrem)->gj rk xs lo (lo+n)->(gj rk (cS st) lo (lo+nrem)->n=nrem)->Q (J n) (jO st xs)):wpS ZB A E s (tZ lo nrem) Q st:=by
 let acx:∀{xs:MH b1},i5 (cS st) xs lo (lo+nrem)->∀x∈xs,x∈dI:=λm x au=>(m.perm.trans aC).mem_iff.mp au;let BV:∀{xs:MH b1} {x y:Y} {Q:MB MF->dY->Prop},i5 (cS st) xs lo (lo+nrem)->x<nrem->y<nrem->Q (J<|decide (Wt rk xs (lo+x)<Wt rk xs (lo+y))) (jO st xs)->wpS ZB A E s (ltAt' (lo+x)<|lo+y) Q (jO st xs):=λ{xs x y Q} m au aJ q =>
  let hz:∀{x},x<nrem->lo+x<xs.O:=λau=>dX (nT au _)<|bw bI<|dy m.O.symm
  PU (st:=jO st xs) fh aW (acx m) (hz au) (hz aJ) q
 let pred:∀{x:Y},1<=x->lo+x-1=lo+(x-1):=λh=>qaT h lo;let m0:i5 (cS st) (cS st) lo<|lo+nrem:=.refl _ _ _;let tM:∀{xs:MH b1} {n:Y},i5 (cS st) xs lo (lo+nrem)->n<=nrem->lo+n<=xs.O:=λm g=>bw (ir g _)<|bw bI<|dy m.O.symm;delta tZ;delta wpS;wp_delta;wp_delta;show tI ?_
 show cI (lT (m8 (I:=λx=>zR (λn=>n=x/\C7 rk (cS st) lo nrem n) st) (Q:=zR (λn=>C7 rk (cS st) lo nrem n/\(n<nrem->Wt rk (cS st) (lo+n)<Wt rk (cS st) (lo+n-1))) st) ?s1 ?f1
  (.mk 1 {P,b8 _,ae,PV (ok:=0) λp q bO b6 eW=>MI (bw bO b6)<|Hh eW})) ?c5)
 case f1 =>
  intro c dh fM;let(n,rfl,g):=fM;show .mk _ {g,λdN=>MI dN<|sG<|Hg _ _}
 case s1 =>
  intro x c dh _ au fM;let(n,rfl,g):=fM
  repeat fail
  dsimp (zeta:=Y1) (zetaHave:=Y1) only;rw[pred g.a];show cI<|BV m0 au (gr (m4 _ _) au) ?_;dsimp (zeta:=Y1) (zetaHave:=Y1) only;rw[<-pred g.a];show tJ (λhw=>da<|.mk _ ⟨g,λ_=>hw⟩) λhw=>?_
  repeat fail
  show da<|.mk _ ⟨P,wX _ _,au,g.c.ext<|ci hw⟩
 case c5 =>
  intro c dh fM;let(n,(g1,g2,g3),gY):=fM
  repeat fail
  dsimp (zeta:=Y1) (zetaHave:=Y1) only;show j5 (λc=>da (h _ n g1 g2 m0 g3 λ_=>c)) λc=>?_;let cM:=sE g2 c;let gY:=gY cM;let no:∀{m:Y},gj rk (cS st) lo (lo+nrem)->m=nrem:=λz=>MI (z (lo+n-1) (lo+n) (uh<|ir g1 _) (m4 _ _)<|nT cM _)<|Hh gY;show pM ?_;intro fi gU;extract_lets+onlyGivenNames-underBinder jpv;clear_value (hjpv:jpv=_);revert jpv;show pN (V8:=λjp=>∀u xs,i5 (cS st) xs lo (lo+nrem)->(∀p,lo<=p->p<lo+n->Wt rk xs p=Wt rk xs lo)->Wt rk xs (lo+n)<Wt rk xs (lo+n-1)->wpS ZB A E s (jp u) fi (jO st xs)) ?rG ?k0
  case k0 =>
   subst gU;intro jp bJ;show i3 (λ_=>?_) λacy=>?_
   .let q:=BV (x:=0) (y:=n-1) (Q:=λr s'=>s'=st/\r=J (decide (Wt rk (cS st) lo<Wt rk (cS st) (lo+n-1)))) m0 ae (gr (m4 _ _) cM) (by rw[pred g1];show{(P),P});rw[<-pred g1]at q;show cI<|lT q ?_;rintro r s' ⟨rfl,rfl⟩;dsimp (zeta:=Y1) (zetaHave:=Y1) only;show tJ (λhw=>da<|h _ n g1 g2 m0 g3 no) λhw=>?_;let heq:∀p,lo<=p->p<lo+n->Wt rk (cS s') p=Wt rk (cS s') (lo+n-1):=λp bO b6 =>
     jk (g3 p (lo+n-1) bO (uh b6)<|Cm b6) (bw (ci hw)<|g3 lo p (b8 _) bO b6)
    let nC:=JN (rk:=rk) (xs:=cS s') (i:=lo) (j:=lo+n) (tM m0 g2) heq;show cI<|EB ?_;show bJ _ _ (.mirror (tM m0 g2) (b8 _)<|ir g2 _) (λp bO b6=>?_) ?_
    .rw[nC,nC,heq p bO b6,heq lo (b8 _)<|Cj g1]
    .rw[nC,nC];show gY
   .obtain rfl:n=1:=jk (ci acy) g1;show bJ _ _ m0 (λp bO b6=>M1 _<|jk (qh b6) bO) gY
  case rG =>
   subst gU;intro u xs df aB ax;show cI<|rm<|kz {P,?_}
   fail;fail
   let n0:uZ rk xs lo<|lo+(n+1):=uZ.ext (λp q bO b6 eW=>by rw[aB p bO<|gr b6 eW,aB q (bw bO b6) eW];show b8 _)<|ei ax;show cI<|lT (m8 (I:=λx=>iH rk st lo nrem (·=x)) (Q:=iH rk st lo nrem λ_=>True) ?s2 ?f2<|.mk xs (n+1) 0 P df n0 (wX _ _) JO cM) ?cP
   case f2 =>
    intro c p6 fM;let(xs,n,pO,_,aV,bb,c1,gn,iw):=fM;show .mk xs n pO trivial aV bb c1 gn iw
   case s2 =>
    intro x c p6 PY au fM;let(xs,n,pO,rfl,aV,bb,c1,gn,iw):=fM;let aY:=wW c1;let ff:=gr (m4 n 1) au
    repeat fail
    dsimp (zeta:=Y1) (zetaHave:=Y1) only;rw[pred aY];show cI<|BV aV au ff ?_;dsimp (zeta:=Y1) (zetaHave:=Y1) only
    fail
    rw[<-pred aY];show tJ (λhw=>?_) λhw=>?_
    .fail
     show i3 (λ_=>?_) λ_=>?_
     .show cI<|EB ?_;let nC:=JN (rk:=rk) (xs:=xs) (i:=lo+n-(pO+1)) (j:=lo+n) (tM aV iw) gn
      repeat fail
      show da<|.mk _ _ 0 P (aV.trans<|.mirror (tM aV iw) (uh<|ir c1 _)<|ir iw _) (λp q bO b6 eW=>?_) (wX _ _) JO au;rw[nC,nC];show bb.ext (ei hw) p q bO b6 eW
     .repeat fail
      show da<|.mk xs _ 0 P aV (bb.ext<|ei hw) (wX _ _) JO au
    .rw[pred aY];show cI<|BV aV ff au ?_;dsimp (zeta:=Y1) (zetaHave:=Y1) only;rw[<-pred aY];show tJ (λJP=>da<|.mk xs n pO trivial aV bb c1 gn iw) λJP=>?_
     repeat fail
     show da<|.mk xs _ (pO+1) P aV (bb.ext<|ci JP) (io c1) (λp bO b6=>?_) au;let e:lo+(n+1)-1=lo+n:=rfl;rw[e];rcases mn p (lo+n) with d|d
     .rw[gn p (bw Z6 bO) d];show jk (ci hw)<|ci JP
     .rw[show p=lo+n from jk (qh b6) d]
   case cP =>
    intro c p6 fM;let(xs,n',pO,_,aV,bb,c1,gn,iw):=fM
    repeat fail
    dsimp (zeta:=Y1) (zetaHave:=Y1) only;show pM ?_;intro fi gU;extract_lets+onlyGivenNames-underBinder jpv;clear_value (hjpv:jpv=_);revert jpv;show pN (V8:=λjp=>∀u xs,i5 (cS st) xs lo (lo+nrem)->uZ rk xs lo (lo+n')->wpS ZB A E s (jp u) fi (jO st xs)) ?uY ?k1
    case k1 =>
     subst gU;intro jp bJ;show i3 (λ_=>?_) λ_=>bJ _ xs aV bb;show cI<|EB ?_;let nC:=JN (rk:=rk) (xs:=xs) (i:=lo+n'-(pO+1)) (j:=lo+n') (tM aV iw) gn;show bJ _ _ (aV.trans<|.mirror (tM aV iw) (uh<|ir c1 _)<|ir iw _) λp q bO b6 eW=>by rw[nC,nC];show bb p q bO b6 eW
    case uY =>
     subst gU;intro u xs bx cn;show cI<|EB ?_;let nC:=PW (rk:=rk) (xs:=xs) (i:=lo) (j:=lo+n')<|tM bx iw;let h2:i5 (cS st) (mirror xs lo (lo+n')<|(lo+n'-lo) / 2) lo<|lo+nrem:=bx.trans<|.mirror (tM bx iw) (b8 _)<|ir iw _;let nd:gj rk (mirror xs lo (lo+n')<|(lo+n'-lo) / 2) lo<|lo+n':=λp q bO b6 eW=>by rw[nC,nC,Y2<|M7 bO<|gr b6 eW,Y2<|M7 (bw bO b6) eW];show cn _ _ Z6 (Hc b6 _) Z6
     show wpS _ _ _ _ _ _ (jO st<|mirror xs lo (lo+n')<|(lo+n'-lo) / 2);generalize mirror xs lo (lo+n') ((lo+n'-lo) / 2)=aO at h2 nd;show cI<|lT (m8 (I:=λx=>zR (λn=>n=x/\C7 rk aO lo nrem n)<|jO st aO) (Q:=zR (C7 rk aO lo nrem)<|jO st aO) ?s3 ?et<|.mk _ {P,wW c1,iw,nd}) ?kh
     case et =>
      intro c p6 fM;let(n,rfl,g):=fM;show .mk _ g
     case kh =>
      intro c p6 fM;let(jr,t):=fM
      repeat fail
      show da<|h aO jr t.a t.b h2 t.c no
     case s3 =>
      intro x c p6 _ au fM;let(n,rfl,g):=fM
      repeat fail
      dsimp (zeta:=Y1) (zetaHave:=Y1) only;rw[pred g.a];show cI<|BV h2 au (gr (m4 _ _) au) ?_;dsimp (zeta:=Y1) (zetaHave:=Y1) only;rw[<-pred g.a];show tJ (λhw=>da<|.mk _ g) λhw=>?_
      repeat fail
      show da<|.mk _ ⟨P,wX _ _,au,g.c.ext<|ci hw⟩
def Runs(rk:b1->Y)(xs:MH b1):O (Y×Y×Y)->Y->Y->Prop
 |[],b,e=>b=e
 |(t,n,_)::r,b,e=>t=b/\0<n/\gj rk xs b (b+n)/\Runs rk xs r (b+n) e
theorem Runs.le:∀{l:O (Y×Y×Y)} {b e:Y},Runs rk xs l b e->b+l.H<=e
 |[],b,e,h=>by let h:b=e:=h;simp;show dy h
 |(t,n,q)::r,b,e,h=>by let(_,ae,_,ai):=h;let:=Runs.le ai;rw[dv];lia
theorem Runs.split:∀{l m:O (Y×Y×Y)} {b e:Y},Runs rk xs (l++m) b e->∃c,Runs rk xs l b c/\Runs rk xs m c e
 |[],m,b,e,h=>{(b),P,h}
 |(t,n,q)::r,m,b,e,h=>by let(h0,ae,ai,aS):=h;let(c,g1,g2):=Runs.split aS;show{c,{(h0),ae,ai,g1},g2}
theorem Runs.join:∀{l m:O (Y×Y×Y)} {b c e:Y},Runs rk xs l b c->Runs rk xs m c e->Runs rk xs (l++m) b e
 |[],m,b,c,e,h,g=>by let h:b=c:=h;subst h;show g
 |(t,n,q)::r,m,b,c,e,h,g=>by let(h0,ae,ai,aS):=h;show{h0,ae,ai,Runs.join aS g}
theorem Runs.congr:∀{l:O (Y×Y×Y)} {b e:Y},(∀p,b<=p->p<e->Wt rk aO p=Wt rk xs p)->Runs rk xs l b e->Runs rk aO l b e
 |[],b,e,_,h=>h
 |(t,n,q)::r,b,e,au,h=>by let(h0,ae,ai,aS):=h;let:=Runs.le aS;show{h0,ae,λp q bO b6 eW=>by rw[au p (bO) Z6,au q (bw bO b6)<|dX eW<|lQ this];show ai p q bO b6 eW,Runs.congr (λp bO b6=>au p (lQ bO) b6) aS}
structure qA (κ:xc) (dI:MH b1) (rk:b1->Y) (st:dY) (e:Y):Prop where
 kind:hP st=κ
 perm:(cS st).Perm dI
 yN:rl st=C
 runs:Runs rk (cS st) (fK st).B 0 e
def AQ{p:Y}(h:aO[p]?=xs[p]?):Wt rk aO p=Wt rk xs p:=by delta Wt;rw[h]
def PZ(fh:nJ prog w A E s κ dI rk){st:dY}{e i:Y}(fQ:qA κ dI rk st e)(he:e<=dI.O)(hi:i+1<(fK st).O){Q:MF->dY->Prop}(h:∀dh,qA κ dI rk dh e->(fK dh).O+1=(fK st).O->(∀p,e<=p->(cS dh)[p]?=(cS st)[p]?)->Q Y0 dh):wpS ZB A E s (mergeAt' i) Q st:=by
 let gq:i+1<(fK st).B.H:=by simpa using hi
 obtain⟨a5,na,pa,aB⟩:∃a5 na pa,(fK st).B[i]=(a5,na,pa):={_,_,_,P}
 obtain⟨c2,nb,pb,ax⟩:∃c2 nb pb,(fK st).B[i+1]=(c2,nb,pb):={_,_,_,P}
 let az:(fK st).B=(fK st).toList.take i++(a5,na,pa)::(c2,nb,pb)::(fK st).toList.drop (i+2):=by let gu:=oP (l:=(fK st).B) (i:=i)<|ei gq;let iV:=oP (l:=(fK st).B) (i:=i+1) gq;rw[ax]at iV;rw[aB,iV]at gu;rw[<-gu,nN]
 let a4:=fQ.runs;rw[az]at a4;let(c,bx,cn):=Runs.split a4;let(rfl,h2,nd,rfl,zw,WL,xf):=cn;let hle:=Runs.le xf;let hsz:=fQ.perm.size_eq;show acu (pa:=pa) (pb:=pb) fh fQ.kind fQ.perm fQ.yN (i:=i) (a5:=a5) (na:=na) (nb:=nb) ?_ ?_ h2 zw Z6 nd WL λxs g aI=>?_
 .rw[<-kv,gd<|ei gq,aB]
 .rw[<-kv,gd gq,ax]
 .let el:((fK st).toList.take i).H=i:=by rw[kZ];lia
  let aC:(((fK st).setIfInBounds i (a5,na+nb,pa)).eraseIdxIfInBounds (i+1)).B=(fK st).toList.take i++(a5,na+nb,pa)::(fK st).toList.drop (i+2):=by
   rw[Array.toList_eraseIdxIfInBounds,qaY]
   conv=>lhs;rw[az]
   rw[List.set_append_right _ _<|dy el,el,Cs,List.eraseIdx_append_of_length_le<|rf<|dy el,el];simp
  show h _ {fQ.kind,aI.perm.trans fQ.perm,fQ.yN,?_} ?_ λp tL=>aI.same p<|.inr<|bw (lQ hle) tL
  .show Runs rk xs (((fK st).setIfInBounds i (a5,na+nb,pa)).eraseIdxIfInBounds (i+1)).B 0 e;rw[aC];show Runs.join (Runs.congr (λp bO b6=>AQ<|aI.same p Z6) bx) ⟨P,(rf h2),by rw[<-rg];show aI.nB,?_⟩;rw[<-rg];show Runs.congr (λp bO b6=>AQ<|aI.same p Z6) xf
  .show(((fK st).setIfInBounds i (a5,na+nb,pa)).eraseIdxIfInBounds (i+1)).O+1=_;rw[<-gW,aC,gm,dv,el,qe,<-gW];lia
def ajz[Decidable c]{n:Y}(h:¬n<=1):(if c then n-2-1 else n-2)+1<n:=by split<;>(lia)
def acz{st:dY}{n:Y}(h:(cS st).O=n):((sortPriv% PySem.Builtin.SortState.a) st).O=n:=h
theorem P0{u0:Y}:∀{l:O (Y×Y×Y)} {i b e:Y},Runs rk xs l b e->Runs rk xs (l.modify i λx=>(x.1,x.2.1,u0)) b e
 |[],i,b,e,h=>by ext i<;>show h
 |(t,n,q)::r,0,b,e,h=>h
 |(t,n,q)::r,i+1,b,e,h=>by let(h0,ae,ai,aS):=h;show{h0,ae,ai,P0 aS}
def amP{xs:MH b1}{u0:Y}{p:MH<|Y×Y×Y}{i e:Y}(h:Runs rk xs p.B 0 e):Runs rk xs (p.modify i λx=>(x.1,x.2.1,u0)).B 0 e:=by rw[Array.toList_modify];show P0 h
def alg(fh:nJ prog w A E s κ dI rk){st:dY}(aW:hP st=κ)(aC:(cS st).Perm dI)(hf:rl st=C)(acA:fK st=#[]){Q:Unit->dY->Prop}
  (h:∀dh,(cS dh).Perm dI->rl dh=C->gj rk (cS dh) 0 dI.O->Q () dh):wpS ZB A E s sortRuns' Q st:=by
 delta sortRuns';delta wpS;wp_delta;wp_delta;show tI ?_;show cI<|n2 ?_
 fail;fail;fail
 let hsz:(cS st).O=dI.O:=aC.size_eq
 show cI (lT (m8
  (I:=λx c dh=>∃lo,c=(C,lo)/\qA κ dI rk dh lo/\lo<=dI.O/\(x<=lo\/lo=dI.O))
  (Q:=λc dh=>c=(C,dI.O)/\qA κ dI rk dh dI.O) ?s1 ?f1 {0,P,{aW,aC,hf,by rw[acA];rfl},(fY _),by(lia)}) ?c5)
 case f1 =>
  rintro c dh ⟨lo,rfl,g1,g2,g3⟩;let:lo=dI.O:=by
   rcases g3 with g3|g3
   .let e:(Vn st).O=dI.O:=hsz;erw[e]at g3;show jk g2 g3
   .show g3
  subst this;show{(P),g1}
 case c5 =>
  rintro c dh ⟨rfl,g1⟩
  repeat fail
  dsimp (zeta:=Y1) (zetaHave:=Y1) only;let hle:=Runs.le g1.runs;rw[gW]at hle
  show cI (lT (m8
   (I:=λx c dh=>c=(C,())/\qA κ dI rk dh dI.O/\(fK dh).O<=max 1 (dI.O-x))
   (Q:=λc dh=>c=(C,())/\qA κ dI rk dh dI.O/\(fK dh).O<=1) ?s2 ?f2 {P,g1,by(lia)}) ?cP)
  case f2 =>
   rintro c p6 ⟨rfl,aV,bb⟩;let e:(Vn st).O=dI.O:=hsz;erw[e]at bb;show{P,aV,by(lia)}
  case cP =>
   rintro c p6 ⟨rfl,aV,bb⟩
   repeat fail
   show da<|h _ aV.perm aV.yN ?_;let a4:=aV.runs;let az:(fK p6).B.H<=1:=by rw[gW];show bb
   match hm:(fK p6).B,az with
   |[],_ =>
    rw[hm]at a4;let a4:0=dI.O:=a4;intro p q bO b6 eW;(lia)
   |[(t,n,u0)],_ =>
    rw[hm]at a4;let(_,_,cn,h2):=a4;let h2:0+n=dI.O:=h2;rw[h2]at cn;show cn
  case s2 =>
   rintro x c p6 _ au ⟨rfl,aV,bb⟩;show cI<|n2 ?_
   fail
   by_cases c:(fK p6).O<=1
   .rw[Y2 c];show da {(P),aV,c}
   .rw[Y3 c]
    fail;fail;fail
    show cI (PZ fh aV (b8 _) (ajz c) λxU t1 dz _=>?_);rw[Y3 Z1];show da {P,t1,by(lia)}
 case s1 =>
  rintro x c dh _ au ⟨lo,rfl,g1,g2,g3⟩;let qO:(cS dh).O=dI.O:=g1.perm.size_eq
  repeat fail
  dsimp (zeta:=Y1) (zetaHave:=Y1) only;let e:(Vn st).O=dI.O:=hsz;let bH:=acz hsz;by_cases c:lo>=dI.O
  .rw[Y2<|by rw[<-e]at c;show c];let:lo=dI.O:=(jk g2 c)
   subst this;show da {(P),g1}
  rw[Y3<|by rw[<-e]at c;show c];show cI (yi (st:=dh) fh g1.kind g1.perm (lo:=lo) (nrem:=(Vn st).O-lo) (by(lia)) (by(lia)) λxs n aY ck df s1 _=>?_);rw[e]at ck df;rw[show lo+(dI.O-lo)=dI.O from(nS g2)]at df;dsimp (zeta:=Y1) (zetaHave:=Y1) only
  fail
  show pM ?_;intro fi gU;extract_lets+onlyGivenNames-underBinder jpv;clear_value (hjpv:jpv=_);revert jpv;show pN (V8:=λjp=>∀u n xs,1<=n->lo+n<=dI.O->i5 (cS dh) xs lo dI.O->gj rk xs lo (lo+n)->wpS ZB A E s (jp u n) fi (jO dh xs)) ?rG ?k0
  case k0 =>
   subst gU;intro jp bJ;split
   .rename_i aoV;show cI (rm<|kz {P,?_})
    fail
    show cI (ajy (st:=jO dh xs) fh g1.kind (df.perm.trans g1.perm) (by show _<=xs.O;rw[df.O];let:=bH;(lia)) (by let:=bH;(lia)) s1 λaO fR s2=>?_);rw[Y3 Z1]
    fail
    show bJ _ _ aO (by let:=bH;(lia)) (by let:=bH;(lia)) (df.trans {fR.perm,λp tL=>fR.same p (by let:=bH;(lia))}) s2
   .show bJ _ _ xs aY (by(lia)) df s1
  case rG =>
   subst gU;intro u n xs aY ck df s1;show cI<|n2 ?_;show pM ?_;intro fi gU;extract_lets+onlyGivenNames-underBinder jpv;clear_value (hjpv:jpv=_);revert jpv;show pN (V8:=λjp=>∀u hL,qA κ dI rk hL lo->gj rk (cS hL) lo (lo+n)->wpS ZB A E s (jp u) fi hL) ?uY ?k1
   case uY =>
    subst gU;intro u hL aV bb;show cI<|xa ?_
    fail
    show da {lo+n,P,{aV.kind,aV.perm,aV.yN,?_},ck,by(lia)};show Runs rk (cS hL) ((fK hL).push (lo,n,0)).B 0 (lo+n);rw[Cx];show Runs.join aV.runs {(P),aY,bb,P}
   case k1 =>
    subst gU;intro jp bJ;let hJ:qA κ dI rk (jO dh xs) lo:={g1.kind,df.perm.trans g1.perm,g1.yN,Runs.congr (λp bO b6=>AQ<|df.same p<|.inl b6) g1.runs}
    split
    .fail
     show cI (lT (m8
      (I:=λ_ c hL=>c=(C,())/\qA κ dI rk hL lo/\gj rk (cS hL) lo (lo+n))
      (Q:=λc hL=>c=(C,())/\qA κ dI rk hL lo/\gj rk (cS hL) lo (lo+n)) ?s3 ?et {(P),hJ,s1}) ?kh)
     case et=>show λc hL z=>z
     case kh =>
      rintro c hL ⟨rfl,aV,bb⟩
      repeat fail
      dsimp (zeta:=Y1) (zetaHave:=Y1) only;show cI<|xa ?_;show bJ _ _ {aV.kind,aV.perm,aV.yN,?_} bb;show amP aV.runs
     case s3 =>
      rintro y c hL _ _ ⟨rfl,aV,bb⟩;show cI<|n2 ?_
      fail
      split
      .rename_i hm;split
       .show da {(P),aV,bb}
       .let hz:1<(fK hL).O:=by
         by_cases z:(fK hL).O>1
         .show z
         .rw[Y3 z]at hm;ext hm
        show cI (PZ fh aV (g2) (by show _<(fK hL).O;let:(fK hL).O-2+1<(fK hL).O:=(by(lia));show this)
         λxU t1 dz t3=>?_)
        rw[Y3 Z1];show da {P,t1,λp q bO b6 eW=>by rw[AQ<|t3 p bO,AQ<|t3 q<|bw bO b6];show bb p q bO b6 eW}
      .show da {(P),aV,bb}
    .show bJ _ _ hJ s1
end
end a8.Tm
namespace a8.bD
open PySem PySem.Spec PyProof.Rows a8.Tm
def AR(prog:dn)(w:cV)(h:MJ)(ag:O ay)(rk:b1->Y):Prop :=
 2<=ag.H->∃κ,∀(A:dH) (E:ay->aN->Prop) (s:aN),(∀b o,h.get? b=J o->s.heap.get? b=J o) ->
  bj ZB A (keyKind' ag.D) (λk s'=>k=κ/\s'=s) E s/\nJ prog w A E s κ (Nb ag) rk
def EC(prog:dn)(w:cV)(A:dH)(E:ay->aN->Prop)(h:MJ)(ag:O ay)(rk:b1->Y):Prop :=
 2<=ag.H->∃κ,∀s:aN,(∀b o,h.get? b=J o->s.heap.get? b=J o) ->
  bj ZB A (keyKind' ag.D) (λk s'=>k=κ/\s'=s) E s/\nJ prog w A E s κ (Nb ag) rk
def AR.at(x:AR prog w h ag rk):EC prog w A E h ag rk:=λai=>let ⟨κ,k⟩:=x ai;{κ,k A E}
section
variable {prog:dn}{w:cV}{A:dH}{E:ay->aN->Prop}{s:aN}
def JQ{n:Y}{Q:Y->aN->Prop}(aX:s.heap.get? a=J o)(hd:o.Y=.seq xs n)(q:Q n s):bj ZB A (seqEpoch a) Q E s:=seqEpoch_at aX hd q
def amQ{n:Y}(aX:s.heap.get? a=J (jn "list" ag.toArray n))(hz:ag.H<=dq)
  (acB:∀b o,h0.get? b=J o->b≠a) (acC:∀b o,h0.get? b=J o->s.heap.get? b=J o) (fQ:EC prog w A E h0 ag rk)
  (h:∀xs:MH b1,xs.Perm (Nb ag)->gj rk xs 0 ag.H->V8 (.done<|.ret .none) { s with heap:=sortedHeap s.Q a ag (xs.map (·.2))}) :
  bj ZB A (Builtin.«list.sort» {[.ref a],[]}) V8 E s:=by
 rw[list_sort_plain];let dN:a<s.L:=ed aX;obtain⟨aB,k1⟩:∃aB,(s.heap.update a (Ng λ_=>#[])).get? a=J (jn "list" #[] aB):={_,get?_update_seq aX λ_=>#[]}
 show a7<|listItems_at aX P<|a7<|HR aX P<|a7<|JQ k1 P<|a7<|wpAny_newTuple<|a7<|wpAny_newList<|ky ?_;let b3:∀b o,b≠a->s.heap.get? b=J o->(((s.heap.update a (Ng λ_=>#[])).push (jn "tuple" ag.toArray 0)).push (jn "list" #[] 0)).get? b=J o:=λb o nb q=>by let ao:b<s.L:=ed q;rw[zc _ _ _ (by rw[size_push',Cv];show eP<|m2 ao),zc _ _ _ (by rw[Cv];show eP ao),Heap.get?_update_ne _ _ _ _ nb];show q
 let k2:(((s.heap.update a (Ng λ_=>#[])).push (jn "tuple" ag.toArray 0)).push (jn "list" #[] 0)).get? a=J (jn "list" #[] aB):=by rw[zc _ _ _ (by rw[size_push',Cv];show eP<|m2 dN),zc _ _ _<|by rw[Cv];show eP dN];show k1
 show bj ZB A _ V8 E { s with heap:=((s.heap.update a (Ng λ_=>#[])).push (jn "tuple" ag.toArray 0)).push (jn "list" #[] 0)};dsimp only;let hsz:ag.D.O=ag.H:=by simp
 let Eo:(Nb ag).O=ag.H:=pairsOf_size ag;by_cases ai:ag.D.O<2
 .rw[Y2 ai,Y2 ai];show a7<|bW ?_;rw[StateT.run_pure];show a7<|bW<|a7<|JQ k2 P<|a7<|HR k2 P ?_ (hsz2:=by rw[Array.size_map];show(Nb ag).O<=_;lia);dsimp only;erw[bne_self_eq_false,iB,MU];show bW (h (Nb ag) (Array.Perm.refl _) λi j _ jf bJ=>?_);let:i=j:=by lia
  rw[this];show b8 _
 .rw[Y3 ai,Y3 ai];let(κ,WM):=fQ<|ci ai;let(aV,bb):=WM { s with heap:=((s.heap.update a (Ng λ_=>#[])).push (jn "tuple" ag.toArray 0)).push (jn "list" #[] 0)} λb o e=>b3 b o (acB b o e)<|acC b o e;show a7 (hE aV ?_ λ_ _ e=>e);rintro k s' ⟨rfl,rfl⟩;show a7 (hE (alg bb (st:=SortSt.mk' k (Nb ag) #[] 7 C) P (Array.Perm.refl _) P P (Q:=λ_ dh=>(cS dh).Perm (Nb ag)/\rl dh=C/\gj rk (cS dh) 0 ag.H) λdh a1 a2 iX=>{a1,a2,by rw[Eo]at iX;show iX}) ?_ λ_ _ e=>e);rintro⟨⟨⟩,dh⟩ s' ⟨rfl,aC,hf,aK⟩;dsimp only;show a7<|JQ k2 P<|a7<|HR k2 P ?_ (hsz2:=bw (dy<|(Array.size_map ..).trans (aC.size_eq.trans Eo))<|qaU hz);rw[hf];erw[bne_self_eq_false,iB,MU];show bW<|h _ aC aK
end
section
variable {X:bK}{L:MC}
def ED
  (aI:bj Z4 A'.in1 (collect x) (λag s1=>∃rk,ag.H<=dq/\(∀E,EC X.R X.w A'.in1.in1 E s1.Q ag rk)/\∀h' (xs:MH b1) e,(∀b o,s1.heap.get? b=J o->h'.get? b=J o)->h'.get? s1.L=J (jn "list" (xs.map (·.2)) e)->xs.Perm (Nb ag)->gj rk xs 0 ag.H->Q (.ref s1.L) { s1 with heap:=h'}) E s) :
  bj Z4 A' (call (.builtin "sorted") [x]) Q E s:=by
 show Calls.call_function_entry kind_sorted plain_sorted entry_sorted (args_sorted1 _) ?_;delta Builtin.«sorted»;show a7 (m:=checkCount "sorted" 1 1 _)<|bW<|a7 (hE aI (λag s1 h=>?_) λ_ _ e=>e);let(rk,hz,fQ,k):=h;show a7<|wpAny_newList ?_ hz;let xT:(s1.heap.push<|jn "list" ag.toArray 0).get? s1.L=J (jn "list" ag.toArray 0):=fZ _ P;show bj _ _ _ _ _ { s1 with heap:=s1.heap.push (jn "list" ag.toArray 0)};show a7<|ky<|mr slot_list_sort ⟨_,xT,P⟩ entry_list_sort (amQ (h0:=s1.Q) xT hz (λb o ao=>eP<|ed ao) (λb o ao=>ec _ ao) (fQ _) λxs a1 a2=>{_,P,?_})<|args_list_sort _;let(e,he):=sortedHeap_at (out:=xs.map (·.2)) xT;show bW ⟨_,P,k _ xs e (λb o ao=>?_) he a1 a2⟩;let dN:b<s1.L:=ed ao;rw[sortedHeap_old (eP dN)<|by rw[lS];show m2 dN];show ec _ ao
end
noncomputable def intOf?:ay->MB D
 |.int i _=>J i
 |_=>C
def hV(h:MJ):ay->O D
 |.ref a=>match h.get? a with
  |some o=>match o.Y with
   |.seq xs _=>xs.toList.filterMap intOf?
   |_=>[]
  |none=>[]
 |.int i _=>[i]
 |_=>[]
theorem JR:∀{us:O ay} {ns:O D},gN us ns->us.filterMap intOf?=ns
 |_,_,.nil=>rfl
 |_,_,.cons n t h=>by rw[wO];show n::_=_;rw[JR h]
def so(h:MJ)(v:ay)(l:O D):Prop:=∃a o xs n,v=.ref a/\h.get? a=J o/\o.cls=.type "tuple" /\ o.Y=.seq xs n/\gN xs.B l/\l≠[]
def so.e0(t:so h v l):hV h v=l:=by
 let(a,o,xs,n,rfl,aX,aI,hd,hi,_):=t
 show(match h.get? a with
  |some o=>match o.Y with
   |.seq xs _=>xs.toList.filterMap intOf?
   |_=>[]
  |none=>[])=l
 rw[aX]
 show(match o.Y with
   |.seq xs _=>xs.toList.filterMap intOf?
   |_=>[])=l
 rw[hd];show JR hi
def so.mono(k:∀b o,h.get? b=J o->h'.get? b=J o)(t:so h v l):so h' v l:=by let(a,o,xs,n,r,aX,q):=t;show{a,o,xs,n,r,k a o aX,q}
section
variable {prog:dn}{w:cV}{A:dH}{E:ay->aN->Prop}{s:aN}
def amR{Q:MF->aN->Prop}:∀{us ag:O ay} {as bs:O D} (i:Y),gN us as->gN ag bs->Q (er as bs) s->W.KatLex prog w A Y0 (decide (us.H<ag.H)) Q (us.zip ag) i s:=by
 let gen:∀{us ag:O ay} {as bs:O D} (i:Y) (fin:MF),gN us as->gN ag bs->(decide (us.H<ag.H)=fin)->Q (er as bs) s->W.KatLex prog w A Y0 fin Q (us.zip ag) i s:=by
  intro us
  induction us with
  |nil =>
   intro ag as bs i fin ae ai hf q
   ext ae
   cases ai with
   |nil=>subst hf;show q
   |cons n t h=>subst hf;show q
  |cons u us aQ =>
   intro ag as bs i fin ae ai hf q;cases ae with
   |cons n t h =>
    cases ai with
    |nil=>subst hf;show q
    |cons m r g =>
     show W.kat_cons<|HD ?_;delta er at q;by_cases e:n=m
     .subst e;rw[Nq]at q |-;show W.kat_yes (aQ (i+1) fin h g (by simpa using hf)<|by simpa using q)
     .let bH:(n==m)=Y1:=by simpa using e
      rw[bH]at q |-;show W.kat_no ?_;let q:Q (decide (n<m)) s:=by simpa using q
      cases i with
      |zero=>show oneLt_int q
      |succ i=>show W.kat_one _ _<|lt_int q
 intro us ag as bs i ae ai q;show gen i _ ae ai P q
def ajA{Q:MF->aN->Prop}(au:so s.Q x a)(aJ:so s.Q y b)(q:Q (er a b) s):bj ZB A (keyLt' (tuples' Y0) x y) Q E s:=by let(p,o,xs,n,rfl,aX,aI,hd,hi,_):=au;let(fT,dc,aO,n',rfl,jX,rN,nk,gq,_):=aJ;show W.kat_lt aX hd jX nk ?_;let:=amR (prog:=prog) (w:=w) (A:=A) (s:=s) (Q:=Q) 0 hi gq q;simpa using this
end
def tN(h:x∈Nb ag):x.1∈ag/\x.2=x.1:=by let h:x∈(Nb ag).B:=Array.mem_def.mp h;rw[HP]at h;let:=mem_zip_self h;show{(this.2),this.1.symm}
inductive mf (h:MJ):O ay->O Z0->Prop
 |nil:mf h [] []
 |cons {v:ay} {l:O D} {ag:O ay} {ls:O Z0}:so h v l->mf h ag ls->mf h (v::ag) (l::ls)
theorem mf.e0:∀{ag:O ay} {ls:O Z0},mf h ag ls->ag.map (hV h)=ls
 |_,_,.nil=>rfl
 |_,_,.cons t r=>by rw[cj,t.e0,r.e0]
theorem mf.mem:∀{ag:O ay} {ls:O Z0},mf h ag ls->v∈ag->so h v (hV h v)
 |_,_,.cons t r,bu=>by
  rcases cF.mp bu with rfl|bu
  .rw[t.e0];show t
  .show r.mem bu
theorem mf.mono(k:∀b o,h.get? b=J o->h'.get? b=J o):∀{ag:O ay} {ls:O Z0},mf h ag ls->mf h' ag ls
 |_,_,.nil=>.nil
 |_,_,.cons t r=>.cons (t.mono k)<|r.mono k
theorem mf.g4:∀{ag:O ay} {ls:O Z0},mf h ag ls->∃c7,W.KatTups h ag c7/\c7.H=ag.H/\∀f∈c7,∃i t,f=.int i t
 |_,_,.nil=>{[],.nil,P,λf hf=>by simp at hf}
 |_,_,.cons t r=>by
  let(c7,k1,k2,k3):=r.g4;let(a,o,xs,n,rfl,aX,aI,hd,hi,pP):=t;have⟨i,u,au⟩:∃i u,xs[0]?=J (.int i u):=by
   rw[<-kv];cases gq:xs.B with
   |nil=>rw[gq]at hi;ext hi;show MI P pP
   |cons v ag=>rw[gq]at hi;cases hi with
    |cons n t _=>show{(n),t,P}
  show{.int i u::c7,.cons aX aI hd au k1,by simp[k2],λf hf=>?_};rcases cF.mp hf with rfl|hf
  .show{(i),u,P}
  .show k3 f hf
def P1(t:mf h ag ls):AR prog w h ag λx=>rank ls<|hV h x.1:=by
 intro ai;show{tuples' Y0,λA E s b3=>{?_,λst x y Q aW au aJ q=>?_}}
 .let(c7,k1,k2,k3):=(t.mono b3).g4;show W.kat_kind (T:=.type "int") k1 (kb<|dX ai<|dy k2.symm) (λv bu=>?_) Z1 {(P),P};let(i,u,rfl):=k3 v bu;show .now
 .let u1:=tN au;let WN:=tN aJ;let rr:=(t.mem u1.1).mono b3;let ty:=(t.mem WN.1).mono b3;rw[Ao<|by rw[<-t.e0];show hZ u1.1]at q;rw[lt'_eq];show cI<|n2 ?_;rw[aW];show cI<|rm<|sM<|ajA rr ty {P,da q}
def JS(e0:ag.map (hV h)=ls)(p:xs.Perm<|Nb ag)(xy:gj (λx=>rank ls<|hV h x.1) xs 0 ag.H) :
  (xs.map (·.2)).toList.Perm ag/\(xs.map (·.2)).toList.map (hV h)=hS ls:=by
 let az:xs.toList.Perm<|ag.zip ag:=by rw[<-HP];show Hm.mp p
 let cP:(xs.map (·.2)).toList.Perm ag:=by let:=az.map (·.2);rw[qaM<|b8 _]at this;rw[qa3];show this
 show{cP,?_};let kh:=cP.map<|hV h;rw[e0]at kh;show DW kh ?_;let hsz:xs.O=ag.H:=by rw[p.size_eq,pairsOf_size]
 let oK:∀x,x∈xs->x.1∈ag/\x.2=x.1:=λx au=>tN<|p.mem_iff.mp au;rw[B3];intro i j hi bJ jf;let gq:i<xs.O:=by simpa using hi
 let nD:j<xs.O:=by simpa using bJ
 let q:=xy i j (fY _) (ei jf)<|dX nD<|dy hsz;rw[hg gq,hg nD]at q;let df:=oK _<|jl gq;let fR:=oK _<|jl nD;let aB:((xs.map (·.2)).toList.map (hV h))[i]=hV h xs[i].1:=by simp[df.2]
 let ax:((xs.map (·.2)).toList.map (hV h))[j]=hV h xs[j].1:=by simp[fR.2]
 show er _ _=Y1;rw[aB,ax,<-Ao (nss:=ls) (by rw[<-e0];show hZ fR.1)];simpa using q
section
variable {X:bK}{L:MC}
def _root_.a8.aT.ahS{t':Y}(I:aT X ah U H s)(k:∀b u,s.heap.get? b=J u->h'.get? b=J u)(old:∀b u,H b=J u->ak b=J u)
  (aC:∀b,b<s.L->H b=C->ak b=C) (new:∀b u,H b=C->ak b=J u->gy X.R X.w ak h' b u):aT X ah U ak { s with heap:=h',toks:=t'}:=by
 show I.un {λb u q _ _ _=>k b u q,λb u q _ _ _=>{u.slots,k b u q},λb u q n _=>aC b (ed q) n,λb u q _=>{u,k b u q},λb xs q=>old b _ q,λb o u q=>old b _ q} λb u e=>?_;cases z:H b with
 |none=>show new b u z e
 |some cx =>
  let:=old b cx z;rw[this]at e;ext e;show(I.bX b _ z).mc (k b) λc xs q=>old c _ q
def P2(ns:O D):hS (ns.map λi=>[i])=(sortI ns).map λi=>[i]:=by
 show(DW ((sortI_perm ns).map _) ?_).symm;rw[mj];show(xZ ns).imp λ{a b} h=>?_;show er [b] [a]=Y1;delta er;by_cases e:b=a
 .subst e;simp[er]
 .simp[e];show h
def P4(t:gN ag ns):AR prog w h ag λx=>rank (ns.map λi=>[i])<|hV h x.1:=by
 intro ai;show{oneType',λA E s b3=>{?_,λst x y Q aW au aJ q=>?_}}
 .match ag,ai,t with
  |v1::v2::rest,_,t=>rw[keyKind_ints t];show bW {(P),P}
 .let get:∀{v:ay} {ag:O ay} {ns:O D},gN ag ns->v∈ag->∃i u,v=.int i u/\i∈ns:=by
   intro v ag ns t
   induction t with
   |nil=>intro bu;simp at bu
   |cons n u r aQ =>
    intro bu;rcases cF.mp bu with rfl|bu
    .show{n,u,P,cc ..}
    .let(i,u,e,m):=aQ bu;show{i,u,e,cZ _ m}
  let(bE,bR):=x;let(dZ,jT):=y;let(i,u,rfl,WO):=get t (tN au).1;let(j,ft,rfl,aoj):=get t (tN aJ).1;let q:Q (J<|decide (rank (ns.map λi=>[i]) [i]<rank (ns.map λi=>[i]) [j])) st:=q
  rw[Ao<|hZ WO,show er [i] [j]=decide (i<j) from by
   delta er;by_cases e:i=j
   .subst e;simp[er]
   .simp[e]]at q
  rw[lt'_eq];show cI<|n2 ?_;rw[aW,keyLt'_oneType];show cI<|rm<|sM<|oneLt_int {P,da q}
theorem EE:∀{ag:O ay} {ns:O D},gN ag ns->ag.map (hV h)=ns.map λi=>[i]
 |_,_,.nil=>rfl
 |_,_,.cons n t r=>by rw[cj,cj,EE r];rfl
theorem P5{ah:O Z2}{s:aN}{U:St}{H:aM}(I:aT X ah U H s):∀{xs:O T} {ls:O Z0} {ag:O V} {us:O ay},rS xs=J ls->bV L H xs ag->cR ag us->mf s.Q us ls
 |[],ls,ag,us,e,r,bh=>by
  ext e
  cases j2 r
  ext bh
  show .nil
 |.aF (x::xs)::rest,ls,ag,us,e,r,bh=>by
  let(l,aB,ax):=cE (show(e5<|x::xs).bind _=_ from e);let(yj,bq,cC):=dR ax
  ext cC
  let(v,w,rfl,p,q):=hT r;cases bh with
  |cons bx cn =>
   rw[aL]at p;let(a,f6,rfl,cB,dk):=p
   ext bx
   let(aZ,aV,(o,aX,aI,_,n,hd),_):=I.yV cB;let ex:=nA aB;rw[ex]at dk;cases tC dk;show .cons {a,o,aZ.D,n,P,aX,aI,hd,by simpa using px aV,?_}<|P5 I bq q cn;rintro rfl
   ext ex
 |.aF []::_,_,_,_,e,_,_=>by ext e
 |.b0::_,_,_,_,e,_,_=>by ext e
 |.aU _::_,_,_,_,e,_,_=>by ext e
 |.int _::_,_,_,_,e,_,_=>by ext e
 |.str _::_,_,_,_,e,_,_=>by ext e
 |.aj _::_,_,_,_,e,_,_=>by ext e
 |.a3 _::_,_,_,_,e,_,_=>by ext e
 |.fE::_,_,_,_,e,_,_=>by ext e
theorem P6:∀{xs:O T} {ls:O Z0},rS xs=J ls->xs=ls.map ar
 |[],ls,e=>by ext e;rfl
 |.aF (x::xs)::rest,ls,e=>by
  let(l,aB,ax):=cE (show(e5<|x::xs).bind _=_ from e);let(yj,bq,cC):=dR ax
  ext cC
  rw[cj,<-P6 bq,ar,<-nA aB]
 |.aF []::_,_,e=>by ext e
 |.b0::_,_,e=>by ext e
 |.aU _::_,_,e=>by ext e
 |.int _::_,_,e=>by ext e
 |.str _::_,_,e=>by ext e
 |.aj _::_,_,e=>by ext e
 |.a3 _::_,_,e=>by ext e
 |.fE::_,_,e=>by ext e
def P7(bh:cR ag us)(r:bV L H (ls.map mk) ag)(e0:us.map (hV h)=ls)(p:out.Perm us):∃ws,cR ws out/\bV L H ((out.map<|hV h).map mk) ws:=by
 let all:∀{ls:O Z0} {ag:O V} {us:O ay},cR ag us->bV L H (ls.map mk) ag->us.map (hV h)=ls->∀u∈us,∃v,cQ v u/\aL L H (mk<|hV h u) v:=by
  intro ls ag us bh
  induction bh generalizing ls with
  |nil=>intro _ _ u bP;simp at bP
  |cons bx cn aQ =>
   rename_i v u ag us;intro kB iI ft bP;subst iI;rw[cj,cj]at kB;let(f5,w,e,c5,cP):=hT kB;cases e;rcases cF.mp bP with rfl|bP
   .show{(v),bx,c5}
   .show aQ cP P ft bP
 let wo:=all bh r e0;show vE Z5 λi u e=>?_;let(v,aV,bb):=wo u<|p.mem_iff.mp<|B5 e;show{v,mk<|hV h u,aV,by simp[e],bb}
def acD(bg:X.A.handled=C):fJ X L (λus=>call (.builtin "sorted") us) DR:=by
 intro B ah s U H ag us aE n t m Q I bh ba aR e k;let run:∀{t0:T} {xs:O T} {ls:O Z0} {mk:O D->T} {v:V} {u:ay},eQ X.K L H t0 v->cQ v u->vB t0=J xs->xs=ls.map mk ->
   (∀(h':MJ) (ag:O V) (us:O ay),cR ag us->bV L H xs ag->(∀b o,s.heap.get? b=J o->h'.get? b=J o)->us.map (hV h')=ls/\AR X.R X.w h' us λx=>rank ls<|hV h' x.1) ->
   (∀v ak,dC L H ak->dt L n ak->Val X.K B L H ak (.aj<|(hS ls).map mk) .aA v->Q v ak)->bj Z4 X.A (call (.builtin "sorted") [u]) (gs X ah U Q) X.cL s:=by
  intro t0 xs ls mk v u r fa hw au aK nc;show ED (PA bg I r fa hw λus ag h' bz ae ai aS b3=>?_);let(e0,fQ):=aK h' ag us ae ai b3;show{_,aS,λ_=>fQ.at,λvM i4 e l8 he aC vN=>?_};let tL:i4.Perm<|Nb us:=aC;let(cP,ax):=JS e0 tL vN;subst au;let(ws,gO,iF):=P7 ae ai e0 cP;rw[ax]at iF;let bt:aT X ah U H { s with heap:=h',toks:=bz}:=I.kept b3;let hf:H h'.E.O=C:=bt.bX.fresh<|b8 _;let eL:=bt.laid (a:=h'.E.O) (o:=.aj ws) (t':=bz) (h':=vM) l8 (b8 _) {by rw[gO.H,cP.length_eq];show aS,(i4.map (·.2)).B,e,gO,by rw[ze];show he};show{.ref h'.E.O,_,eL,P,nc _ _ (.new hf) (aR.new hf) {_,P,hf,_,fH,bV.mono (.new hf) _ _ iF}}
 let Uv:∀{t0:T} {xs:O T} {ns:O D} {v:V} {u:ay},eQ X.K L H t0 v->cQ v u->vB t0=J xs->e5 xs=J ns ->
   (∀v ak,dC L H ak->dt L n ak->Val X.K B L H ak (.aj<|(sortI ns).map T.int) .aA v->Q v ak)->bj Z4 X.A (call (.builtin "sorted") [u]) (gs X ah U Q) X.cL s:=by
  intro t0 xs ns v u r fa hw hi nc;let au:=nA hi;show run (ls:=ns.map λi=>[i]) (mk:=λl=>.int<|l.headD 0) r fa hw (by rw[bv];show au) (λh' ag us ae ai b3=>?_) λv ak a b c=>nc v ak a b (by rw[P2,bv]at c;show c);rw[au]at ai;cases tC ai;show{EE<|px ae,P4<|px ae}
 induction aE using MQ with
 |nil=>ext e
 |cons dZ fe =>
  induction dZ using T.casesOn with
  |aj xs =>
   induction fe using MQ with
   |nil =>
    let(v,rfl,r):=i2 ba;let(u,rfl,fa):=bh.one;cases hi:e5 xs with
    |some ns =>
     let e:(match e5 xs with
      |some ns=>J (T.aj<|(sortI ns).map .int,a9.aA)
      |none=>(rS xs).map λls=>(T.aj<|(hS ls).map ar,a9.aA))=J (t,m):=e
     rw[hi]at e
     ext e
     show Uv r fa P hi k
    |none =>
     let e:(match e5 xs with
      |some ns=>J (T.aj<|(sortI ns).map .int,a9.aA)
      |none=>(rS xs).map λls=>(T.aj<|(hS ls).map ar,a9.aA))=J (t,m):=e
     rw[hi]at e;let(ls,aB,ax):=dR e
     ext ax
     show run (mk:=ar) r fa P (P6 aB) (λh' ag us ae ai b3=>let tt:=P5 (I.kept (t':=s.toks) b3) aB ai ae;{tt.e0,P1 tt}) k
   |cons _ _=>ext e
  |aF xs =>
   induction fe using MQ with
   |nil =>
    let(v,rfl,r):=i2 ba;let(u,rfl,fa):=bh.one;let(ns,aB,ax):=dR (show(e5 xs).map _=_ from e)
    ext ax
    show Uv r fa P aB k
   |cons _ _=>ext e
  |_=>ext e
def amS{rO:O MM}:iy X L rO jG:=λ_ _ _ _ _ _ hd=>by ext hd
def _root_.a8.bD.fJ.weak(h:fJ X L f g)(w:∀n aE r,g' n aE=J r->g n aE=J r):fJ X L f g':=λB ah s U H ag us aE n t m Q I bh ba aR e k=>h B ah s U H ag us aE n t m Q I bh ba aR (w _ _ _ e) k
def amT(bg:X.A.handled=C):fJ X L (λus=>call (.builtin "sorted") us) vo:=(acD bg).weak λn aE r e=>by
 let fin:∀{xs:O T},((e5 xs).bind λns=>if ns.H<64 then J (T.aj<|(sortI ns).map .int,a9.aA) else C)=J r->∃ns,e5 xs=J ns/\J (T.aj<|(sortI ns).map .int,a9.aA)=J r:=λ{xs} e=>by
  let(ns,aB,ax):=cE e;split at ax
  .show{(ns),aB,ax}
  .ext ax
 induction aE using MQ with
 |nil=>ext e
 |cons dZ fe =>
  induction dZ using T.casesOn with
  |aj xs =>
   induction fe using MQ with
   |nil =>
    let(ns,aB,ax):=fin e
    show(match e5 xs with
     |some ns=>J (T.aj<|(sortI ns).map .int,a9.aA)
     |none=>_)=_
    rw[aB];show ax
   |cons _ _=>ext e
  |aF xs =>
   induction fe using MQ with
   |nil =>
    let(ns,aB,ax):=fin e;show(e5 xs).map _=_;rw[aB];show ax
   |cons _ _=>ext e
  |_=>ext e
theorem P8:∀{av:O (hR×T)} {ps:O Z3},itemsOf av=J ps->av=ps.map λp=>(Na p.1,T.int p.2)
 |[],_,e=>by ext e;rfl
 |(.inl k,.int v)::r,_,e=>by
  let(ps,aB,ax):=dR (show(itemsOf r).map _=_ from e)
  ext ax
  rw[P8 aB];rfl
 |(.inr _,_)::_,_,e=>by ext e
 |(.inl _,.b0)::_,_,e=>by ext e
 |(.inl _,.aU _)::_,_,e=>by ext e
 |(.inl _,.str _)::_,_,e=>by ext e
 |(.inl _,.aF _)::_,_,e=>by ext e
 |(.inl _,.aj _)::_,_,e=>by ext e
 |(.inl _,.a3 _)::_,_,e=>by ext e
 |(.inl _,.fE)::_,_,e=>by ext e
theorem P9:∀{ps:O Z3} {ws:O ZS},cU L H (ps.map λp=>(Na p.1,T.int p.2)) ws->ws=ps.map λp=>(Na p.1,V.int p.2)
 |[],_,r=>by rw[m1,cU]at r;subst r;rfl
 |p::ps,_,r=>by rw[cj,cU]at r;let(v,bU,rfl,h,q):=r;rw[aL]at h;rw[P9 q,h];rfl
theorem Qa:∀{ps:O Z3} {us:O (Key×ay)},fx (ps.map λp=>(Na p.1,V.int p.2)) us->∀(j:Y) (k:Key) (x:ay),us[j]?=J (k,x)->∃p t,ps[j]?=J p/\k=Na p.1/\x=.int p.2 t
 |[],_,r,j,k,x,e=>by ext r;simp at e
 |p::ps,_,r,j,k,x,e=>by
  rw[cj]at r;cases r with
  |cons h t =>
   rename_i q uK;cases j with
   |zero =>
    simp at e;subst e;let(ae,u,ai):=h;show{(p),u,P,ae.symm,ai}
   |succ j=>show Qa t j k x (by simpa using e)
noncomputable def r2(H:aM)(as:O MC)(ls:O Z0):aM:=λb=>match as.findIdx? (·==b) with
 |some j=>J<|.aF<|(ls.getD j []).map V.int
 |none=>H b
def AS(h:b∉as):r2 H as ls b=H b:=by
 delta r2;let:as.findIdx? (·==b)=C:=by rw[qam];intro x au;simp;rintro rfl;show h au
 rw[this]
def Qb{j:Y}(bG:as.Nodup)(h:as[j]?=J b):r2 H as ls b=J (.aF<|(ls.getD j []).map V.int):=by
 delta r2;let:as.findIdx? (·==b)=J j:=by
  let(bJ,e):=kY.mp h;rw[BZ];show{bJ,by simp[e],λi hi=>?_};let:as[i]≠b:=λz=>by let:=(qaK (h₀:=(gr (ei hi) bJ)) (h₁:=bJ) bG).mp (z.trans e.symm);lia
  simpa using this
 rw[this]
def acE{o:MG}{eG:bS}{p apos d3 pos:MK}(bg:X.A.handled=C)(aX:bM X L o eG)(hm:X.bf "sorted" = C)(bL:MD (fP X "sorted") rc)(nL:MD (rj o "items" X.env (MO o X.I)=MO o X.I) rc)(nM:MD ((apos.endLine==d3.line)=Y0) rc)
  (he:MD (cA [.Call (.Attribute o "items" apos) [] [] d3] X.I=(Y1,MO (.Call (.Attribute o "items" apos) [] [] d3) X.I)::cA [] X.I) rc) :
  bM X L (.Call (.Name "sorted" p) [.Call (.Attribute o "items" apos) [] [] d3] [] pos) (aD akO<|af eG aw):=by
 intro B S n t jx n' hd ah s U H Q I ⟨R,k⟩;let(to,mo,f1,bq):=Av hd;have⟨av,ps,rD,hi,eU,em⟩:∃av ps,to=.a3 av/\itemsOf av=J ps/\t=.aj ((hS (ps.map hx)).map ar)/\jx=.aA:=by
  induction to using T.casesOn with
  |a3 av =>
   let(ps,ae,ai):=dR (show(itemsOf av).map _=_ from bq)
   ext ai
   show{(av),ps,P,ae,P,P}
  |_=>ext bq
 subst rD eU em;show oT<|nq I bL hm CQ ?_ Z1 Z1;show Vl (Q:=gs X ah U Q) ?_ he P;rw[he];show kc<|qa9 nL nM (cm (aX.run f1 I R) λu s1 ⟨v,H1,bt,bx,a1,bN,cb⟩=>?_);let(a,ws,rfl,na,cB,dk):=cb.root bN R.aR
 ext bx
 let(z,JT,us,rel,dd):=jC bt.bX cB;let(ek,hy,AU,kn,JU,_):=id dd;show⟨"dict","dict.items",PySem.F.plainAttrs_dict,PySem.F.slot_dict_items,PySem.F.type_dict_items,dd.typeIs,λb e=>by ext e;show{(ek),kn,JU.2.1},ur P<|PySem.evalArgs_none ?_⟩;show call_meetsIn PySem.F.slot_dict_items dd.typeIs PySem.F.entry_dict_items (PySem.F.args_dict_items_1 _) (meets_dict_items (hr X.R X.w) a JT) ⟨⟨us,dd⟩,?_⟩;show nY ?_;let di:aT X ah U H1 { s1 with heap:=s1.heap.push { cls:=.type "dict_items",data:=.fields #[.ref a]}}:=bt.kept (t':=s1.toks) λb u q=>ec _ q;let r0:(s1.heap.push { cls:=.type "dict_items",data:=.fields #[.ref a]}).DictOf (hr X.R X.w) a us:=by let(_,_,vD,aoW,pw):=jC di.bX cB;let(ek,hy,AU,aV,bb,c1):=dd;show{ek,hy,AU,ec _ aV,bb,c1}
 let(ep,dT):=r0.dictAt;let az:ws.H=us.H:=Nj rel;let iI:=P8 hi;subst iI;let xh:=P9 dk;subst xh;let Qc:ps.H=us.H:=by rw[<-az,bZ]
 show ED (W.kdx_collect (d:=a) bg {_,fZ _ P,P,P} dT (by rw[<-az];show z) λh' bz as b3 has Ia=>?_);let pr:∀(j:Y) (b:MC),as[j]?=J b->∃(q:D×D) (t dz:Tok),ps[j]?=J q/\h'.get? b=J { cls:=.type "tuple",data:=.seq #[.int q.1 t,.int q.2 dz]}:=λj b e=>by
  let(key,nc,x,g1,g2,g3):=Ia.pairs j b e;let(q,dz,ae,rfl,rfl):=Qa rel j nc x g1;have⟨t,aW⟩:∃t,key=.int q.1 t:=by
   let g2:UI q.1 key=Y0:=g2
   ext key<;>simp[UI]at g2
   subst g2;show{_,P}
  subst aW;show{(q),t,dz,ae,g3}
 let tt:∀{as:O MC} {ps:O Z3},as.H=ps.H->(∀(j:Y) (b:MC),as[j]?=J b->∃(q:D×D) (t dz:Tok),ps[j]?=J q/\h'.get? b=J { cls:=.type "tuple",data:=.seq #[.int q.1 t,.int q.2 dz]})->mf h' (as.map M3) (ps.map hx):=by
  intro as
  induction as with
  |nil=>intro ps e _;cases ps with
   |nil=>show .nil
   |cons _ _=>simp at e
  |cons b as aQ =>
   intro ps e h;cases ps with
   |nil=>simp at e
   |cons q ps =>
    let(ej,t,dz,g1,g2):=h 0 b P;simp at g1;subst g1
    show .cons ⟨b,_,_,_,P,g2,P,P,.cons _ _<|.cons _ _ .nil,by simp[hx]⟩ (aQ (by simpa using e) λj ic bH=>by
     let(acF,t,dz,g1,g2):=h (j+1) ic (by simpa using bH)
     show{acF,t,dz,by simpa using g1,g2})
 let T0:=tt (by rw[has,Qc]) pr;let bG:as.Nodup:=Ia.rise.imp λh=>eP h;show{_,by rw[bZ,has,<-az];show z,λ_=>(P1 T0).at,λvM i4 e l8 au aC vN=>?_};let(cP,ax):=JS T0.e0 aC vN;let above:∀b∈as,s1.L<=b:=λb ao=>by let:=Ia.above b ao;rw[lS]at this;show ei<|kb this
 let fr:∀b∈as,H1 b=C:=λb ao=>bt.bX.fresh<|above b ao;let gD:aT X ah U (r2 H1 as<|ps.map hx) { s1 with heap:=h',toks:=bz}:=by
  show bt.ahS (λb u q=>b3 b u<|ec _ q) (λb u q=>?_) (λb ao q=>?_) λb u q e=>?_
  .rw[AS λao=>by rw[fr b ao]at q;ext q];show q
  .rw[AS λmL=>MI ao<|Cu.mpr<|above b mL];show q
  .by_cases ao:b∈as
   .let(j,bJ):=List.mem_iff_getElem?.mp ao;rw[Qb bG bJ]at e;ext e;let(ej,t,dz,g1,g2):=pr j b bJ;let:(ps.map hx).getD j []=[ej.1,ej.2]:=by simp[List.getD,g1,hx]
    rw[this];show{by simp;decide,[.int ej.1 t,.int ej.2 dz],.cons {(t),P}<|.cons {(dz),P} .nil,_,g2,P,P,_,P}
   .rw[AS ao,q]at e;ext e
 let cy:dC L H1<|r2 H1 as<|ps.map hx:=.all λb u q=>by rw[AS λao=>by rw[fr b ao]at q;ext q];show q
 let Qd:dt L n'<|r2 H1 as<|ps.map hx:=by let:=bN.aR;delta dt at this |-;rw[AS (λao=>by rw[fr L ao]at this;ext this)];show this
 let kB:∃ag,cR ag (as.map M3)/\bV L (r2 H1 as<|ps.map hx) ((ps.map hx).map ar) ag:=by
  show vE (by rw[bZ,bZ,bZ,has,Qc]) λj u e=>?_;rw[hO]at e;cases q:as[j]? with
  |none=>rw[q]at e;ext e
  |some b =>
   rw[q]at e;ext e;let(ej,t,dz,g1,g2):=pr j b q;show{.ref b,ar<|hx ej,P,by simp[g1],?_};rw[ar,aL];show{b,_,P,Qb bG q,?_};rw[show(ps.map hx).getD j []=hx ej by simp[List.getD,g1]];show bV.ints _
 let(ag,v1,v2):=kB;let(El,gO,iF):=P7 v1 v2 T0.e0 cP;rw[ax]at iF;let hf:r2 H1 as (ps.map hx) h'.E.O=C:=gD.bX.fresh<|b8 _;let ja:=gD.laid (a:=h'.E.O) (o:=.aj El) (t':=bz) (h':=vM) l8 (b8 _) {by rw[gO.H,cP.length_eq,bZ,has,<-az];show z,(i4.map (·.2)).B,e,gO,by rw[ze];show au};show{.ref h'.E.O,_,ja,P,k _ _ (a1.trans<|cy.trans<|.new hf) (Qd.new hf) {_,P,a1.free bN.aR<|cy.free Qd hf,_,fH,bV.mono (.new hf) _ _ iF}}
end
def r3:ee:=λ_ aE=>match aE with
 |[.a3 av]=>(itemsOf av).bind λps=>if ps.H<64 then J (.aj<|(hS<|ps.map hx).map ar,.aA) else C
 |_=>C
section
variable {X:bK}{L:MC}
def _root_.a8.bD.bM.weak(h:bM X L e d)(w:∀S n r,d' S n=J r->d S n=J r):bM X L e d':=λB S n t m n' hd=>h B S n t m n'<|w _ _ _ hd
def Qe{g g':ee}(w:∀n aE r,g' n aE=J r->g n aE=J r){a:ho}{S:bF}{n:Y}{r:T×a9×Y}(e:aD g' a S n=J r):aD g a S n=J r:=by let((aE,aY),aB,ax):=cE e;let((t1,df),bq,cC):=dR ax;delta aD;rw[aB];show(g aY aE).map _=_;rw[w _ _ _ bq];show M1 J cC
def acG{o:MG}{eG:bS}{p apos d3 pos:MK}(bg:X.A.handled=C)(aX:bM X L o eG)(hm:X.bf "sorted" = C)(bL:MD (fP X "sorted") rc)(nL:MD (rj o "items" X.env (MO o X.I)=MO o X.I) rc)(nM:MD ((apos.endLine==d3.line)=Y0) rc)
  (he:MD (cA [.Call (.Attribute o "items" apos) [] [] d3] X.I=(Y1,MO (.Call (.Attribute o "items" apos) [] [] d3) X.I)::cA [] X.I) rc) :
  bM X L (.Call (.Name "sorted" p) [.Call (.Attribute o "items" apos) [] [] d3] [] pos) (aD r3<|af eG aw):=(acE bg aX hm bL nL nM he).weak λS n r e=>Qe (λn aE r e=>by
 match aE,e with
 |[.a3 av],e =>
  let(ps,aB,ax):=cE (show(itemsOf av).bind _=_ from e);split at ax
  .show(itemsOf av).map _=_;rw[aB];show ax
  .ext ax) e
end
end a8.bD
section
namespace a8.bD
open PySem PySem.Spec PyProof.Rows a8.Tm
def AV(K:MN):n7:=λag H Q _=>∃(a:MC) (ns:O D),ag=[.ref a]/\ht K H a (ns.map V.int)/\ns.H<=63/\∀ak,Q (.aU Y0) ak
def ajB{V8:dn}{w:cV}{K:MN}{bf:ME->MB ay}{base:MJ}{st:MM}{f:MC}{fd:iD}{N:O ME}{lv:Y}{rest:O MM}{b:br}{e7 cH pos:MK}(F:qI K "law" "law" st f fd)(cp:mV N ["_law_script"]<|eM st)
  (ao:iZ st=.Assign [.Name "_law_town" e7] (.List [] cH) pos::rest) (ae:N[1]?=J ("_law_town" : ME)) (ai:2<=N.H) (au:Loc (eM st) "_law_town")
  (aK:∀(dm:ay) (A:dH) (cu:O Env) (s:aN) (H:aM) (E:iS),qn (.List [] cH) (J<|.Name "_law_town" e7) pos.line (j8 jD V8 w K bf base N "law" (eM st) f dm A cu s H E).ob.I=pure Y1)
  (kX:∀(L:MC) (dm:ay) (A:dH) (cu:O Env) (s:aN) (H:aM) (E:iS),fs lv (A.deeper<|jm "law" (eM st) s.L f dm)->iy (j8 jD V8 w K bf base N "law" (eM st) f dm A cu s H E).ob L rest b)
  (run:∀ns:O D,ns.H<=63->∃S' n',b (nr ns N.H) 0=J (.ba (.aU Y0) Y1,S',n')):kT V8 w K bf base jD (lv+1) f fd ["_law_script"]<|AV K:=by
 show F.ok cp (λag H Q E h=>?_) λdm A cu s H ag Q E a4 h=>?_
 .let(a,ns,rfl,_):=h;rfl
 let(a,ns,rfl,fQ,acH,q):=h;let(S',n',e):=run ns acH;rw[ao];show{_,vg (IK (i:=1) cp.bG ae au (qbt Ae) (aK dm A cu s H E)<|.inl P) (u:=λOG U H=>∃L B,xl K B L (nr ns N.H) 0 (.ba (.aU Y0) Y1) S' n' OG U H) λah s' U ak OG I h=>?_,?_}
 .let(L,B,h):=h;show kX L dm A cu s H E a4 B _ 0 _ _ _ e ah s' U ak OG I h
 .show{by show 0<=dq;show fY _,λp aC=>?_};let na:∀b o,H b=J o->b≠p:=λb o z=>by rintro rfl;rw[aC]at z;ext z
  let bc:vs K p (c3 H p<|.aj []) a<|ns.map V.int:=by
   rcases fQ with(z|⟨o,z⟩)|z|z
   .show .inl {na _ _ z,.inl<|by rw[ew<|na _ _ z];show z}
   .show .inl {na _ _ z,.inr {o,by rw[ew<|na _ _ z];show z}}
   .show .inr<|.inl z
   .show .inr<|.inr {na _ _ z,by rw[ew<|na _ _ z];show z}
  show{p,c3 H p<|.aj [],{?_,?_}}
  .let aR:dt p 0<|c3 H p<|.aj []:=by delta dt;rw[fH];rfl
   let el:(nr ns N.H).H=N.H:=by delta nr;simp;lia
   let jY:start N [V.ref a]=J (V.ref a)::ML (N.H-1) C:=rfl;let Ea:((start N [V.ref a]).set 1 (J<|V.ref p))=J (V.ref a)::J (V.ref p)::ML (N.H-2) C:=by rw[jY,show N.H-1=(N.H-2)+1 by lia,lO];rfl
   let get:∀(i:Y) (x:T×a9),(nr ns N.H)[i]?=J (J x)->(i=0/\x=(.aj<|ns.map .int,.b9))\/(i=1/\x=(.fE,.aa)):=λi x z=>by
    delta nr at z
    match i,z with
    |0,z=>simp at z;show .inl {(P),z.symm}
    |1,z=>simp at z;show .inr {(P),z.symm}
    |i+2,z =>
     let z:(ML (N.H-2) (C:MB ZE))[i]?=J (J x):=z;rw[yY]at z;split at z<;>ext z
   rw[Ea];show{.refl _ _,aR,{0,aR},by rw[el];simp;lia,λi t z=>?_,λi t z=>?_,λi t z=>?_,λi t z=>?_,λi j t t' a z=>?_}
   .rcases get i _ z with⟨rfl,z⟩|⟨rfl,z⟩
    .ext z
    .ext z;show{_,P,by rw[aL]}
   .rcases get i _ z with⟨rfl,z⟩|⟨rfl,z⟩
    .ext z;show{_,P,a,_,P,bc,bV.ints ns}
    .ext z
   .rcases get i _ z with⟨rfl,z⟩|⟨rfl,z⟩<;>ext z
   .rcases get i _ z with⟨rfl,z⟩|⟨rfl,z⟩<;>ext z
   .rcases get i _ z with⟨rfl,z⟩|⟨rfl,z⟩<;>ext z
  .intro v ak _ _ _ z;let z:aL p ak (.aU Y0) v:=z;rw[aL]at z;subst z;show q ak
def ahT{l:W.OpenLaw}{q:dn}{loose:O ME}{xj:(ME->MB ay)->MJ->Prop}{sX:cV->MJ->Prop}{d:DefRec}{K:Params->MN}(k:Y)(bI:l.most=J 63)(tv:d.params.defaults=[])(a4:fs k sT)
  (uL:∀(w:cV) (h:MJ),sX w h->(K w.params).In h)
  (F:∀(w:cV) (bf:ME->MB ay) (e6:MC) (h:MJ),(K w.params).In h->h.Ns k4 bf->bf d.name=J (.ref e6) ->
   ∃fd:iD,(∀(s:aN) (u:ay),uC s fd {[u],[]} [("_law_script",u)])/\∀base:MJ,(K w.params).In base->base.Ns k4 bf->kT l.R w (K w.params) bf base jD k e6 fd ["_law_script"] (AV<|K w.params)) :
  W.WalkO q loose xj sX l.row.toRowW d [] (λf ag=>PySem.call f ag) :=
 a8.akN (n:=63) (k:=k) (x:="_law_script") (CX:=λ_=>jD) (sp:=λw=>AV<|K w.params) bI Z1 tv a4 uL F (λw _ a ns az _ fQ=>{a,ns,P,fQ,az,λ_=>P}) λ_ _ _ _ _ z=>z
def mh.of{X:bK}{scope:jN}{N':O ME}{fz:O<|MB Y}(ae:MD (scope.kind=.function) rc)(ai:MD ((scope.names.all λy=>y.2 != .cell)=Y0) rc)
  (aS:MD ((scope.names.all λy=>y.2 != .local||scope.names.lookup y.1==J .local)=Y0) rc)
  (dp:MD ((scope.names.all λy=>y.2 != .free||X.env.kindOf y.1==J .cell||X.env.kindOf y.1==J .free)=Y0) rc)
  (fL:MD (fz.H=N'.H) rc)
  (HY:MD (((M0 fz.H).all λi=>match fz[i]? with
   | some (J j)=>(match N'[i]? with
    |some x=>X.N[j]?==J x&&scope.names.lookup x != J .local
    |none=>Y1)
   |_=>Y0)=Y0) rc):mh X scope N' fz:=by
 show{ae,λy aJ z=>?_,λy aJ z=>?_,λy aJ z=>?_,fL,λi j e=>?_}
 .let:=iq.mp ai y aJ;rw[z]at this;ext this
 .let:=iq.mp aS y aJ;rw[z]at this;show eq_of_beq (by simpa using this)
 .let:=iq.mp dp y aJ;rw[z]at this;simpa using this
 .let hi:i<fz.H:=(kY.mp e).1;let:=iq.mp HY i<|mZ.mpr hi;rw[e]at this
  let:(match N'[i]? with
    |some x=>X.N[j]?==J x&&scope.names.lookup x != J .local
    |none=>Y1)=Y0:=this
  cases q:N'[i]? with
  |none=>rw[q]at this;ext this
  |some x =>
   rw[q]at this;erw[iR,M5,bne_iff_ne]at this;show{(x),P,this.1,this.2}
end a8.bD
namespace a8
open PySem
def fs.fS{k:Y}(r:fs k A):A.units+1<fA:=by let:=r.un;lia
def fs.tg{k:Y}(r:fs k A):A.units+6<fA:=by let:=r.un;lia
end a8
end
namespace a8.bD
open PySem PySem.Spec PyProof.Rows a8.Tm
section
variable {X:bK}{L:MC}
def Qf{i:D}(h:vk ns=J i):0<ns.H/\ns.getD (uE (λi j=>decide (ns.getD i 0>ns.getD j 0))<|ns.H-1) 0=i:=by
 cases ns with
 |nil=>ext h
 |cons x xs =>
  show{Nat.succ_pos _,?_};let:=Pr (λa b=>decide (a>b)) (x::xs) xs.H<|m3 _;show(x::xs).getD (uE _<|xs.H+1-1) 0=i;rw[qaR];show Eq.trans this ?_;rw[show(x::xs).take (xs.H+1)=x::xs from qd<|b8 _];let h:xs.foldl (λa b=>if a<b then b else a) x=i:=MV h;rw[<-h];show xs.foldl (λa b=>if decide (b>a)=Y0 then b else a) x=_;erw[Nd,gt_iff_lt]
def ajC(aI:X.calm=Y0):fJ X L (λus=>call (.builtin "max") us) agU:=by
 intro B ah s U H ag us aE n t m Q I bh ba aR e k;let bg:=I.ok.hd aI
 induction aE using MQ with
 |nil=>ext e
 |cons dZ fe =>
  induction dZ using T.casesOn with
  |aj xs =>
   induction fe using MQ with
   |nil =>
    let(ns,aB,ax):=cE (show(e5 xs).bind _=_ from e);let(i,bq,cC):=dR ax
    ext cC
    let(v,rfl,r):=i2 ba;let(u,rfl,fa):=bh.one;let au:=nA aB;subst au;let(h0,ao):=Qf bq;show call_max_walk (cm (AE (A':=X.A.in1) bg I r fa P) λit gC ⟨kC,fp,wr,V8,St,e,W,st,ov,eS,fin⟩=>?_);show{kC,fp,wr,_,V8,St,_,e,W,st,ov,by simpa using h0,CmpOf.ints_gt (λi=>ns.getD i 0) λi v bu=>vC<|eS i v bu,λf5 h' bz bu b3=>?_};let(tG,rfl):=vC<|eS _ _ bu;rw[bZ];show{.int i,H,fin h' bz b3,{tG,by rw[ao]},k _ H ZQ aR<|by show aL L H (.int i) _;rw[aL]}
   |cons _ _=>ext e
  |_=>ext e
theorem Qg:∀{av:O (hR×T)} {ns:O D} {ws:O ZS} {us:O (Key×ay)},rT av=J ns->cU L H av ws->fx ws us->us.H=ns.H/\∀(i:Y) (k:Key) (v:ay),us[i]?=J (k,v)->∃t,v=.int (ns.getD i 0) t
 |[],ns,ws,us,e,r,rel=>by
  ext e
  rw[cU]at r;subst r
  ext rel
  show{P,λi k v e=>by simp at e}
 |(e0,.int x)::rest,ns,ws,us,e,r,rel=>by
  let(ms,aB,ax):=dR (show(rT rest).map _=_ from e)
  ext ax
  rw[cU]at r;let(v,bU,rfl,h,q):=r;rw[aL]at h;cases rel with
  |cons a b =>
   rename_i p ps;let(l,g):=Qg aB q b;show{by simp[l],λi k u e=>?_};cases i with
   |zero =>
    simp at e;subst e;let(_,a2):=a;subst h;let(t,a2):=a2;show{(t),a2}
   |succ i=>simpa using g i k u (by simpa using e)
 |(_,.b0)::_,_,_,_,e,_,_=>by ext e
 |(_,.aU _)::_,_,_,_,e,_,_=>by ext e
 |(_,.str _)::_,_,_,_,e,_,_=>by ext e
 |(_,.aF _)::_,_,_,_,e,_,_=>by ext e
 |(_,.aj _)::_,_,_,_,e,_,_=>by ext e
 |(_,.a3 _)::_,_,_,_,e,_,_=>by ext e
 |(_,.fE)::_,_,_,_,e,_,_=>by ext e
def ahU(X:bK)(ah:O Z2)(U:St)(H:aM)(ns:O D)(A':dH)(s:aN)(u:ay):Prop :=
 ∀E,bj Z4 A' (k6 u) (λit gC=>∃kC fp wr V8 St,it=.ref kC/\Walks X.R X.w A' kC fp wr ns.H V8 St/\St 0 gC.Q/\(∀b∈fp,b<gC.L)/\(∀i u,V8 i u->∃t,u=.int (ns.getD i 0) t) /\
   ∀h' bz,(∀b o,b∉wr->gC.heap.get? b=J o->h'.get? b=J o)->aT X ah U H { gC with heap:=h',toks:=bz}) E s
def alh{x:ME}{id:M8}{g:ee}{o:MG}{eG:bS}{p apos d3 pos:MK}(bg:X.A.handled=C)(aX:bM X L o eG)(hm:X.bf x=C)(bu:nZ x=J (.builtin id))
  (acI:∀n aE t m,g n aE=J (t,m)->∃av ns i,aE=[.a3 av]/\rT av=J ns/\t=.int i/\m=.aa/\∀ah U H s u (Q:ay->aN->Prop) E,ahU X ah U H ns X.A.in1 s u->(∀s' t,aT X ah U H s'->Q (.int i t) s')->bj Z4 X.A (call (.builtin id) [u]) Q E s)
  (bL:MD (fP X x) rc) (bI:MD (x ≠ "__name__") eY) (f9:MD ZF eY) (nL:MD (rj o "values" X.env (MO o X.I)=MO o X.I) rc) (nM:MD ((apos.endLine==d3.line)=Y0) rc)
  (he:MD (cA [.Call (.Attribute o "values" apos) [] [] d3] X.I=(Y1,MO (.Call (.Attribute o "values" apos) [] [] d3) X.I)::cA [] X.I) rc) :
  bM X L (.Call (.Name x p) [.Call (.Attribute o "values" apos) [] [] d3] [] pos) (aD g<|af eG aw):=by
 intro B S n t jx n' hd ah s U H Q I ⟨R,k⟩;let(to,mo,f1,bq):=Av hd;let(av,ns,i,rD,hi,rfl,rfl,go):=acI _ _ _ _ bq;let rD:to=.a3 av:=by simpa using rD
 subst rD;show oT<|nq I bL hm bu ?_ bI f9;show Vl (Q:=gs X ah U Q) ?_ he P;rw[he];show kc<|qa9 nL nM (cm (aX.run f1 I R) λu s1 ⟨v,H1,bt,bx,a1,bN,cb⟩=>?_);let(a,ws,rfl,na,cB,dk):=cb.root bN R.aR
 ext bx
 let(z,JT,us,rel,dd):=jC bt.bX cB;let(ek,hy,AU,kn,JU,_):=(show _ from dd)
 show⟨"dict","dict.values",PySem.F.plainAttrs_dict,PySem.F.slot_dict_values,PySem.F.type_dict_values,dd.typeIs,λb e=>by ext e;show{(ek),kn,JU.2.1},ur P<|PySem.evalArgs_none ?_⟩;show call_meetsIn PySem.F.slot_dict_values dd.typeIs PySem.F.entry_dict_values (PySem.F.args_dict_values_1 _) (meets_dict_values (hr X.R X.w) a JT) ⟨⟨us,dd⟩,?_⟩;show nY ?_;let di:aT X ah U H1 { s1 with heap:=s1.heap.push { cls:=.type "dict_values",data:=.fields #[.ref a]}}:=bt.kept (t':=s1.toks) λb u q=>ec _ q;let r0:(s1.heap.push { cls:=.type "dict_values",data:=.fields #[.ref a]}).DictOf (hr X.R X.w) a us:=by let(ek,hy,AU,aV,bb,c1):=dd;show{ek,hy,AU,ec _ aV,bb,c1}
 let(ep,dT):=r0.dictAt;let(az,EF):=Qg hi dk rel;show go ah U H1 _ _ (gs X ah U Q) X.cL (λE=>?_) λs' t eL=>{.int i,H1,eL,{(t),P},k _ H1 a1 bN.aR<|by show aL L H1 (.int i) _;rw[aL]}
 let pP:a≠(s1.heap.push { cls:=.type "dict_values",data:=.fields #[.ref a]}).E.O:=eP dT.lt_size
 let' tw:=(s1.heap.push { cls:=.type "dict_values",data:=.fields #[.ref a]}).E.O
 show wpAny_pyIter_values {_,fZ _ P,P,P} dT {tw,[tw,a],[tw],λi v=>∃k,us[i]?=J (k,v),λi h=>h.IsValIter tw a i us.H ep/\h.DictAt (hr X.R X.w) a us ep,P,?_,{{_,fZ _ P,P,P},dT.push _},λb ao=>?_,λi u aC=>?_,λh' bz b3=>?_}
 .let:=Walks.dictValues (prog:=X.R) (w:=X.w) (A:=X.A.in1) (knd:=hr X.R X.w) bg tw a pP us ep;rw[<-az];show this
 .rw[lS];simp at ao;rcases ao with rfl|rfl
  .show m3 _
  .show m2 dT.lt_size
 .let(g5,aW):=aC;show EF i g5 u aW
 .show di.kept λb dc e=>b3 b dc (by simp;show eP<|ed e)<|ec _ e
def acJ{o:MG}{eG:bS}{p apos d3 pos:MK}(bg:X.A.handled=C)(aX:bM X L o eG)(hm:X.bf "sum" = C)(bL:MD (fP X "sum") rc)(nL:MD (rj o "values" X.env (MO o X.I)=MO o X.I) rc)(nM:MD ((apos.endLine==d3.line)=Y0) rc)
  (he:MD (cA [.Call (.Attribute o "values" apos) [] [] d3] X.I=(Y1,MO (.Call (.Attribute o "values" apos) [] [] d3) X.I)::cA [] X.I) rc) :
  bM X L (.Call (.Name "sum" p) [.Call (.Attribute o "values" apos) [] [] d3] [] pos) (aD DX<|af eG aw):=by
 show alh bg aX hm boot_sum (λn aE t m e=>?_) bL Z1 Z1 nL nM he
 induction aE using MQ with
 |nil=>ext e
 |cons dZ fe =>
  induction dZ using T.casesOn with
  |a3 av =>
   induction fe using MQ with
   |nil =>
    let(ns,ae,ai):=cE (show(rT av).bind _=_ from e);split at ai
    .rename_i ao
     ext ai
     show{av,ns,_,P,ae,P,P,λah U H s u Q E xA fin=>?_};let x3:∀x∈ns,-1000000<=x/\x<=1000000:=λx au=>by let:=iq.mp ao.2 x au;simpa using this
     show call_sum_walk (cm (xA E) λit gC ⟨kC,fp,wr,V8,St,e,W,st,ov,eS,b3⟩=>?_);show{kC,fp,wr,_,V8,St,λi=>ns.getD i 0,e,W,st,ov,λi v bu=>eS i v bu,λj bJ=>?_,λh' bz t' acK=>?_}
     .let ae:=x3 (ns.getD j 0) (by rw[hY,gd bJ];show nP _);show InLong (ns.getD j 0)/\_;rw[Ek ns (j+1) bJ];let ai:=abP (ns:=ns.take<|j+1) λx au=>x3 x<|wN au;let aS:((ns.take<|j+1).H:D)<=100000:=by rw[kZ];let:=ao.1;lia
      show{{(ce Z1 ae.1),(nW ae.2 Z1)},{by lia,by lia}}
     .rw[Ek ns ns.H<|b8 _,wU];show fin _ _<|b3 h' bz acK
    .ext ai
   |cons _ _=>ext e
  |_=>ext e
end
end a8.bD
namespace a8.bD
open PySem PySem.Spec PyProof.Rows
def p7(xs:MH Y):Prop:=∀(i j:Y) (hi:i<xs.O) (bJ:j<xs.O),i<j->xs[i]<xs[j]
theorem JV{j:Y}(a4:p7 xs):∀(fuel lo hi:Y),hi-lo<=fuel->lo<=hi->hi<=xs.O->(∀i (h:i<xs.O),i<lo->xs[i]<j)->(∀i (h:i<xs.O),hi<=i->j<=xs[i]) ->
  ∃p,SetTable.below.go xs j fuel lo hi=p/\lo<=p/\p<=hi/\(∀i (h:i<xs.O),i<p->xs[i]<j)/\∀i (h:i<xs.O),p<=i->j<=xs[i]
 |0,lo,hi,hf,az,aK,ae,ai=>{lo,P,b8 _,az,ae,λi h gq=>ai i h Z6}
 |fuel+1,lo,hi,hf,az,aK,ae,ai=>by
  delta SetTable.below.go;by_cases c:lo<hi
  .rw[Y2 c];let hm:(lo+hi) / 2<xs.O:=by lia
   let bL:xs.getD ((lo+hi) / 2) j=xs[(lo+hi) / 2]:=by simp[Array.getD,hm]
   dsimp only;rw[bL];by_cases d:xs[(lo+hi) / 2]<j
   .rw[Y2 d]
    let(p,e,a,b,aV,bb):=JV a4 fuel ((lo+hi) / 2+1) hi Z6 Z6 aK (λi h gq=>by
     by_cases z:i=(lo+hi) / 2
     .subst z;show d
     .show wY (a4 i _ h hm<|sE (qh gq) z) d) ai
    show{p,e,by lia,b,aV,bb}
   .rw[Y3 d]
    let(p,e,a,b,aV,bb):=JV a4 fuel lo ((lo+hi) / 2) Z6 Z6 (ei hm) ae (λi h gq=>by
     by_cases z:i=(lo+hi) / 2
     .subst z;show ci d
     .show bw (ci d)<|ei<|a4 _ i hm h Z6)
    show{p,e,a,by lia,aV,bb}
  .rw[Y3 c];show{lo,P,b8 _,az,ae,λi h gq=>ai i h<|bw (ci c) gq}
def JW(a4:p7 xs)(j:Y):MZ xs j<=xs.O/\(∀i (h:i<xs.O),i<MZ xs j->xs[i]<j)/\∀i (h:i<xs.O),MZ xs j<=i->j<=xs[i]:=by let(p,e,_,b,aV,bb):=JV a4 (j:=j) xs.O 0 xs.O (b8 _) (fY _) (b8 _) (λi h z=>by lia) (λi h z=>by lia);let e:MZ xs j=p:=e;rw[e];show{(b),aV,bb}
def yO(xs:MH Y)(j:Y):Prop:=xs[MZ xs j]?≠J j
def ali{α:Type}(xs:MH α)(p:Y)(x:α)(aC:p<=xs.O):(SetTable.insertAt xs p x).B=xs.toList.take p++x::xs.toList.drop p:=by delta SetTable.insertAt;rw[ii,Cx,Cw,Cw,B2,B2];erw[zb,Ce,hk,List.singleton_append];congr 2;show qd Z5
def JX:p7 xs↔xs.toList.Pairwise (·<·):=by
 rw[B3];constructor
 .intro h i j hi bJ jf;simpa using h i j (by simpa using hi) (by simpa using bJ) jf
 .intro h i j hi bJ jf;let:=h i j (by simpa using hi) (by simpa using bJ) jf;rw[qa0,qa0]at this;show this
def amU{j:Y}(a4:p7 xs)(bI:yO xs j):p7<|SetTable.insertAt xs (MZ xs j) j:=by
 let(b,aV,bb):=JW a4 j;let c1:∀i (h:i<xs.O),MZ xs j<=i->j<xs[i]:=λi h hi=>by
  let:=bb i h hi;rcases Nat.lt_or_eq_of_le this with z|z
  .show z
  .by_cases e:i=MZ xs j
   .show MI ?_ bI;rw[<-e,sH h,<-z]
   .let dN:MZ xs j<xs.O:=(gr hi h)
    let:=a4 (MZ xs j) i dN h Z6;let:=bb (MZ xs j) dN<|b8 _;lia
 rw[JX,ali _ _ _ b];let az:=JX.mp a4;rw[mi];let df:∀a∈xs.toList.take (MZ xs j),a<j:=λa bl=>by let(i,hi,e):=y0.mp bl;rw[kZ]at hi;rw[y4]at e;let:=aV i (by simp at hi;show dX hi<|Co _ _)<|dX hi<|Hi _ _;simp at e;show gr (dy e.symm) this
 let fR:∀a∈xs.toList.drop (MZ xs j),j<a:=λa bl=>by let(i,hi,e):=y0.mp bl;rw[qe]at hi;rw[y3]at e;let:=c1 (MZ xs j+i) (by simp at hi;lia)<|ia _ _;simp at e;show dX this<|dy e
 show{az.sublist<|y2 _ _,ik.mpr ⟨fR,az.sublist<|uf _ _⟩,λa bl c aI=>?_};let:=df a bl;rcases cF.mp aI with rfl|aI
 .show this
 .let:=fR c aI;lia
structure mg (led:MF) (t:qo):Prop where
 led:t.led=led
 rise:t.plain=Y0->p7 t.place
theorem mg.fresh(led:MF):mg led<|.fresh 0 0 led:=⟨P,λ_ i j hi=>by simp[SetTable.fresh]at hi⟩
theorem mg.standIn{led:MF}(g:mg led t)(n:Y):mg led<|t.standIn n:=⟨g.led,λz=>by ext z⟩
def Qh{t:qo}{j:Y}(h:∀i,t.slot j≠.live i):yO t.place j:=by intro z;show h (MZ t.place j) ?_;delta SetTable.slot;dsimp only;rw[z];simp
theorem JY{t:qo}{f:Y->D}{h:D}:∀(fuel:Y) (p:SetTable.Probe) (j:Y) (d:MB Y),(∀x,p.dummy=J x->yO t.place x)->SetTable.probe.go t f h fuel p=J (.empty j d)->yO t.place j/\∀x,d=J x->yO t.place x
 |0,p,j,d,_,e=>by ext e
 |fuel+1,p,j,d,hd,e=>by
  delta SetTable.probe.go at e;let Qi:∀q:SetTable.Probe,(t.advance q).dummy=q.dummy:=λq=>by delta SetTable.advance;split<;>rfl
  cases aK:t.slot p.j with
  |empty =>
   rw[aK]at e
   ext e
   show⟨Qh (λi z=>by rw[aK]at z;ext z),hd⟩
  |dummy =>
   rw[aK]at e
   show JY fuel _ j d (λx au=>by
    rw[Qi]at au
    ext au
    show Qh λi z=>by rw[aK]at z;ext z) e
  |live i =>
   rw[aK]at e;dsimp only at e;split at e
   .ext e
   .show JY fuel _ j d (λx au=>by rw[Qi]at au;show hd x au) e
def alj{t:qo}{h:D}{j:Y}{w:MF}(e:t.freeSlot h=J (j,w)):yO t.place j:=by
 delta SetTable.freeSlot at e;split at e
 .rename_i rv d aC
  ext e
  let(aY,ck):=JY _ _ _ _ (λx au=>by ext au) aC;cases d with
  |none=>show aY
  |some x=>show ck x P
 .ext e
def mg.lay{led:MF}(g:mg led t)(es:MH<|D×ay)(h:D)(x:ay):mg led (layNew t es h x).2.1:=by
 delta layNew;cases e:t.freeSlot h with
 |none=>show g.standIn _
 |some q =>
  let(j,w):=q;dsimp only;let g1:mg led (t.put j).1:={g.led,λz=>amU (g.rise z)<|alj e}
  delta SetTable.orStandIn;split
  .show g1
  .show g1.standIn _
def acL(m:Y)(f:Y->MB Y):((M0 m).filterMap λj=>(f j).map (j,·)).Pairwise (λa b=>a.1<b.1):=by
 rw[List.pairwise_filterMap];show List.pairwise_lt_range.imp λ{a b} vz x au y aJ=>?_;cases bl:f a with
 |none=>rw[bl]at au;ext au
 |some u =>
  cases ao:f b with
  |none=>rw[ao]at aJ;ext aJ
  |some v=>rw[bl]at au;rw[ao]at aJ;ext au;ext aJ;show vz
def mg.ahV{led:MF}(g:mg led t)(es:MH<|D×ay)(k:Y):mg led (w9 t es k).2.1:=by
 delta w9;cases e:t.relaid (es.map (·.1)) k with
 |none=>show g.standIn _
 |some q =>
  let(t',order):=q;dsimp only;split
  .delta SetTable.relaid SetTable.laid at e;let(owner,_,ax):=cE (show(SetTable.layClean _ _).bind _=_ from e)
   ext ax
   show{g.led,λz=>?_};rw[JX];dsimp only;rw[mj];show acL _ _
  .show g.standIn _
def acM(a4:p7 xs){k:Y}(aW:k<xs.O):MZ xs (xs[k]+1)=k+1:=by
 let(b,aV,bb):=JW a4<|xs[k]+1;let ae:k<MZ xs (xs[k]+1):=by
  by_cases c:k<MZ xs (xs[k]+1)
  .show c
  .let:=bb k aW<|ci c;lia
 let ai:MZ xs (xs[k]+1)<=k+1:=by
  by_cases c:MZ xs (xs[k]+1)<=k+1
  .show c
  .let pK:k+1<xs.O:=(dX (uk c) b)
   let a1:=aV (k+1) pK<|uk c;let a2:=a4 k (k+1) aW pK<|b8 _;lia
 show jk ai ae
def acN(a4:p7 xs):MZ xs 0=0:=by
 let(b,aV,bb):=JW a4 0;by_cases c:MZ xs 0=0
 .show c
 .let:=aV 0 (dX (kr c) b)<|kr c;lia
noncomputable def mM(w:cV):MF:=w.params.followText "set-order"
structure kU (prog:dn) (w:cV) (h:MJ) (a:MC) (es:MH<|D×ay) (ep:Y) (t:qo):Prop where
 obj:∃o,h.get? a=J o/\o.ExactSet/\o.Y=.set es ep t
 bd:es.O<oW
 fit:t.fits es.O=Y0
 good:mg (!mM w) t
def kU.kept{ep:Y}(g:kU prog w h a es ep t)(k:∀o,h.get? a=J o->h'.get? a=J o):kU prog w h' a es ep t:=by let(o,ae,ai):=g.obj;show{{o,k o ae,ai},g.bd,g.fit,g.good}
structure oL (prog:dn) (w:cV) (h:MJ) (a:MC) (es:MH<|D×ay) (ep:Y) (t:qo):Prop where
 obj:∃o,h.get? a=J o/\o.ExactSet/\o.Y=.set es ep t
 xB:ElemsOf (gL prog w) es.B
 bd:es.O<oW
 fit:t.fits es.O=Y0
 good:mg (!mM w) t
def oL.i{ep:Y}(g:oL prog w h a es ep t):kU prog w h a es ep t:={(g.obj),g.bd,g.fit,g.good}
section
variable {prog:dn}{w:cV}{A:dH}{E:ay->aN->Prop}{s:aN}{a:MC}{es:MH<|D×ay}{ep:Y}{t:qo}
def oL.kept(g:oL prog w h a es ep t)(k:∀o,h.get? a=J o->h'.get? a=J o):oL prog w h' a es ep t:=by let(o,ae,ai):=g.obj;show{{o,k o ae,ai},g.xB,g.bd,g.fit,g.good}
def oL.store(g:oL prog w h a es ep t)(xB:ElemsOf (gL prog w) iK.B)(bd:iK.O<oW)(fit:t'.fits iK.O=Y0)(good:mg (!mM w) t') :
  oL prog w (h.update a<|Obj.putSet iK t') a iK (ep+1) t':=by
 let(o,ae,ai,aS):=g.obj;let:=qk (Obj.putSet iK t') ae (by rw[putSet_of iK t' aS];rfl);rw[putSet_of iK t' aS]at this;show{{_,this,ai,P},xB,bd,fit,good}
def ag4{v:D}{Q:MF->aN->Prop}(g:oL prog w s.Q a es ep t)(room:es.O+1<oW)
  (ae:(∃e∈es.B,(gL prog w).is v e.2=Y0)->Q Y1 s)
  (ai:(¬ ∃e∈es.B,(gL prog w).is v e.2=Y0)->∀h' iK tn t',Ni a s.Q h'->oL prog w h' a iK tn t'->iK.toList.Perm (es.B++[((gL prog w).hash v,.int v bz)])->Q Y0 { s with heap:=h'}) :
  bj ZB A (setAddHashed a (.int v bz)<|(gL prog w).hash v) Q E s:=by
 let md:(gL prog w).is v (.int v bz)=Y0:=intKind_is _ _ _ _;let(o,aX,hex,hd):=g.obj;delta setAddHashed setAddHashedIn;show ky<|a7<|zi aX hd g.fit ?_;dsimp only;rw[byScan_of (x:=.int v bz) P g.bd g.xB,Y2 P];delta setAddByScan;show a7<|a7<|kz<|a7<|wpAny_setScan_of md aX hd g.fit g.xB ?_;cases a4:List.findIdx? (λe=>(gL prog w).is v e.2) es.B with
 |some j =>
  let(bJ,aC,_):=BZ.mp a4;show bW<|bW<|ae {_,nP bJ,aC}
 |none =>
  let no:¬ ∃e∈es.B,(gL prog w).is v e.2=Y0:=λ⟨e,he,aC⟩=>by let:=qam.mp a4 e he;rw[aC]at this;ext this
  let k2:=ai no;let c5:=layNew_perm t es ((gL prog w).hash v)<|.int v bz;let f1:=layNew_fits t es ((gL prog w).hash v)<|.int v bz;let g1:=g.good.lay es ((gL prog w).hash v)<|.int v bz;dsimp only;generalize layNew t es ((gL prog w).hash v) (.int v bz)=tw at c5 f1 g1 |-;let(hy,t1,u2,H6):=tw;dsimp only at c5 f1 g1 |-;rw[Cx]at c5;let bQ:hy.O=es.O+1:=by rw[<-gW,c5.length_eq];simp
  let Qj:ElemsOf (gL prog w) hy.B:=(g.xB.push md P).perm c5;let way:∀(b:MF) {d2:aN} {fi:Unit->aN->Prop},fi () d2->bj ZB A (match b with|true=>rule "set.scan.the-table-gave-way" |false=>pure ()) fi E d2:=λb d2 fi bc=>by
   ext b
   .show bW bc
   .show kz bc
  let bO:hy.O<oW:=(gr (dy bQ) room)
  let Ib:oL prog w (s.heap.update a<|Obj.putSet hy t1) a hy (ep+1) t1:=g.store Qj bO f1 g1;let Qk:=Np s.Q a<|Obj.putSet hy t1
  let tail:bj ZB A (do
    storeSet a hy t1
    if(!u2&&t1.tooFull)=Y0 then do
      (match (w9 t1 hy<|V6 hy.O).2.2 with|true=>rule "set.scan.the-table-gave-way" |false=>pure ())
      storeSet a (w9 t1 hy<|V6 hy.O).1 (w9 t1 hy<|V6 hy.O).2.1
      pure (J Y0)
     else pure (J Y0)) (λr s'=>r=J Y0/\Q Y0 s') E s:=by
   show a7<|wpAny_storeSet_of aX hd ?_<|zj bO;split
   .let cP:=relayAll_perm t1 hy<|V6 hy.O;let f2:=relayAll_fits t1 hy<|V6 hy.O;let g2:=g1.ahV hy<|V6 hy.O;generalize w9 t1 hy (V6 hy.O)=kg at cP f2 g2 |-;let(JZ,dz,aoK):=kg;dsimp only at cP f2 g2 |-;let acO:JZ.O=hy.O:=by rw[<-gW,cP.length_eq,gW]
    let b6:JZ.O<oW:=(gr (dy acO) bO)
    let(ek,kn,_,vF):=Ib.obj;show a7<|way _<|a7<|wpAny_storeSet_of kn vF ?_<|zj b6;show bW {P,k2 _ JZ _ dz (Qk.trans<|Np _ a _) (Ib.store (Qj.perm cP) b6 f2 g2)<|cP.trans c5}
   .show bW {P,k2 _ hy _ t1 Qk Ib c5}
  show a7<|way _ ?_;let eq1:hashByValue 8 (.int v bz)=pure Y0:=rfl;split
  .rw[eq1];show a7<|bW ?_;erw[MR];show hE tail (λr s' z=>?_) λ_ _ e=>e;let(rfl,z):=z;show bW z
  .show a7<|bW ?_;erw[MR];show hE tail (λr s' z=>?_) λ_ _ e=>e;let(rfl,z):=z;show bW z
end
def oM(prog:dn)(w:cV)(h:MJ)(a:MC)(ks:O D):Prop:=∃es ep t,oL prog w h a es ep t/\gN (es.toList.map (·.2)) ks/\ks.Nodup
section
variable {prog:dn}{w:cV}{A:dH}{E:ay->aN->Prop}{s:aN}{a:MC}
theorem oM.kept(g:oM prog w h a ks)(k:∀o,h.get? a=J o->h'.get? a=J o):oM prog w h' a ks:=by let(es,ep,t,g1,g2):=g;show{es,ep,t,g1.kept k,g2}
def J0(h:gN us ks)(p:vD.Perm us):∃l9,gN vD l9/\l9.Perm ks:=by show{vD.map numOf,intsAre_map vD λv bu=>h.all v<|p.mem_iff.mp bu,?_};let:=p.map numOf;rwa [h.nums]at this
def acP(h:gN us ks)(v:D):(∃u∈us,(gL prog w).is v u=Y0)↔v∈ks:=by
 induction h with
 |nil=>simp
 |cons n t r aQ =>
  let e:(gL prog w).is v (.int n t)=Y0↔v=n:=by show UI v (.int n t)=Y0↔v=n;simp[UI];show eq_comm
  rw[cF,<-aQ];constructor
  .rintro⟨u,bP,z⟩;rcases cF.mp bP with rfl|bP
   .show .inl<|e.mp z
   .show .inr {(u),bP,z}
  .rintro(z|⟨u,bP,z⟩)
   .show{_,cc ..,e.mpr z}
   .show{u,cZ _ bP,z}
theorem ints_snoc:∀{us:O ay} {ks:O D},gN us ks->∀(v:D) (bz:Tok),gN (us++[.int v bz]) (ks++[v])
 |_,_,.nil,v,bz=>.cons v bz .nil
 |_,_,.cons n t r,v,bz=>.cons n t<|ints_snoc r v bz
def ag5{v:D}{Q:MF->aN->Prop}(g:oM prog w s.Q a ks)(room:ks.H+1<oW)
  (h:∀h' l9,Ni a s.Q h'->oM prog w h' a l9->(∀x,x∈l9↔x∈ks\/x=v)->l9.H<=ks.H+1->∀b,Q b { s with heap:=h'}) :
  bj ZB A (setAddHashed a (.int v bz)<|(gL prog w).hash v) Q E s:=by
 let(es,ep,t,g1,g2,g3):=g;let az:es.O=ks.H:=by rw[<-g2.H];simp
 let ex:(∃e∈es.B,(gL prog w).is v e.2=Y0)↔v∈ks:=by
  rw[<-acP (prog:=prog) (w:=w) g2 v];constructor
  .rintro⟨e,he,z⟩;show{e.2,hZ he,z}
  .rintro⟨u,bP,z⟩;let(e,he,rfl):=c9.mp bP;show{(e),he,z}
 show ag4 g1 Z6 (λz=>?_) λz h' iK tn t' c2 cp p=>?_
 .let:s={ s with heap:=s.Q}:=rfl;rw[this];show h s.Q ks (Heap.SameBut.refl a s.Q) {(es),ep,t,g1,g2,g3} (λx=>{.inl,λq=>q.elim id λq=>by rw[q];show ex.mp z}) (uo _) Y1
 .let cP:=p.map (·.2);rw[jM]at cP;let gY:gN (es.toList.map (·.2)++[.int v bz])<|ks++[v]:=ints_snoc g2 v bz;let(l9,aV,bb):=J0 gY cP;show h h' l9 c2 ⟨iK,tn,t',cp,aV,?_⟩ (λx=>by rw[bb.mem_iff];simp) (by rw[bb.length_eq];simp) Y0;rw[bb.nodup_iff,wR];show{g3,by simp,λx au y aJ e=>?_};simp at aJ;subst aJ e;show z<|ex.mpr au
def amV{V8:Y->ay->Prop}{St:Y->MJ->Prop}{ns:O D}(W:Walks prog w A.in1 I fp wr ns.H V8 St)(fQ:a∉fp)(eS:∀i v,V8 i v->∃t,v=.int (ns.getD i 0) t)(ao:ns.H+1<oW) :
  ∀(k i:Y) (s:aN) (ks:O D),ns.H-i=k->i<=ns.H->St i s.Q->oM prog w s.Q a ks->(∀x,x∈ks↔x∈ns.take i)->ks.H<=i ->
   (∀h' bz l9,(∀b o,b≠a->b∉wr->s.heap.get? b=J o->h'.get? b=J o)->oM prog w h' a l9->(∀x,x∈l9↔x∈ns)->R (.ok<|.ret .none) { s with heap:=h',toks:=bz}) ->
   mv ZB A (.builtin "set.update.loop" {[.ref a,.ref I],[]}) R s:=by
 let hw:a∉wr:=λz=>fQ<|W.sub _ z;intro k
 induction k with
 |zero =>
  intro i s ks aW hi st g hm az fin;let e:i=ns.H:=(jk hi<|y8 aW)
  subst e;show sL F.entry_set_update_loop ?_;rw[Vk F.plain_set_update_loop _];show a7 (m:=m7<|.ref I) (W.done s _ _ st λh' bz b3=>?_);show bW (fin h' bz ks (λb o _ nb z=>b3 b o nb z) (g.kept λo z=>b3 a o hw z) λx=>by rw[hm x,wU])
 |succ k aQ =>
  intro i s ks aW hi st g hm az fin;let dN:i<ns.H:=(Hd<|wW<|dy aW.symm)
  show sL F.entry_set_update_loop ?_;rw[Vk F.plain_set_update_loop _];show a7 (m:=m7<|.ref I) (W.item i s _ _ dN st λv h' bz bu dh b3=>?_);let(t,rfl):=eS i v bu;show a7 (m:=m6 [Value.int (ns.getD i 0) t]<|setAdd a<|.int (ns.getD i 0) t)<|ky ?_;delta setAdd;show ky<|a7<|(gL prog w).pyHash (k:=ns.getD i 0) (intKind_is _ _ _ _) ?_;show ag5 (s:={ s with heap:=h',toks:=bz+1}) (g.kept λo z=>b3 a o hw z) Z6 λai EG c2 g2 fR hp b=>?_;show bW {uy F.plain_set_update_loop _,aQ (i+1) _ EG Z6 dN (W.frame _ _ _ dh λb ao o z=>?_) g2 (λx=>?_) (bw hp<|sF az) λaS JI acQ acR g3 jV=>?_}
  .show ai.get? b=J o;rw[c2.2 b λq=>fQ<|by rw[<-q];show ao];show z
  .rw[fR x,hm x,G6,i9,gd dN];let:ns.getD i 0=ns[i]:=by simp[List.getD,dN]
   rw[this];simp
  .show fin aS JI acQ (λb o nb nw z=>acR b o nb nw ?_) g3 jV;show ai.get? b=J o;rw[c2.2 b nb];show b3 b o nw z
end
end a8.bD
section
set_option maxHeartbeats 8000000
namespace a8.bD
open PySem PySem.Spec PyProof.Rows
section
variable {prog:dn}{w:cV}{A:dH}{E:ay->aN->Prop}{s:aN}
abbrev j6(w:cV):MT:={ cls:=.type "set",dict:=C,data:=.set #[] 0 (.fresh 0 0<|!mM w)}
def alk(x:ay)(h:Q₁ (.ref s.L) { s with heap:=s.heap.push (j6 w)}) :
  mv ZB A (.call (.builtin "set.__new__") {[.type "set",x],[]}) (wants Q₁ E) s:=by
 show codeAny_of_tree (show bj _ A.in1 (do checkBuiltinCall "set.__new__" {[.type "set",x],[]};again (.builtin "set.__new__" {[.type "set",x],[]})) _ _ s from ?_)
 show a7 (zq (F.newCall_set_1 x) (bW ⟨uy F.plain_set_new _,sL F.entry_set_new (by
  rw[Vk F.plain_set_new _];delta Builtin.«set.__new__» Builtin.Frozenset.newClass;let Uw:=sub_set_self;let(aC,g,d,bz,os):=s;dsimp only;wp_walk;show zk<|bW ?_;dsimp only;erw[newObj]
  show a7<|wpAny_alloc<|bW<|bW h)⟩))
def acS(bL:h.get? a=J (j6 w)):oM prog w h a [] :=
 {#[],0,_,{{_,bL,{(P),P,P},P},λe he=>by simp at he,by decide,P,.fresh _},.nil,.nil}
def VC{Wf:MH ay}{V8:Y->ay->Prop}{St:Y->MJ->Prop}(qT:s.heap.get? l=J ol)(hi:gN Wf.B ns)(ao:ns.H+1<oW)
  (W:Walks prog w A.in1 (s.heap.push<|j6 w).E.O [(s.heap.push<|j6 w).E.O,l] [(s.heap.push<|j6 w).E.O] ns.H V8 St) (st:St 0<|(s.heap.push<|j6 w).push oi) (eS:∀i v,V8 i v->Wf[i]?=J v)
  (fin:∀h' bz ks,oM prog w h' s.L ks->(∀x,x∈ks↔x∈ns)->(∀b o,s.heap.get? b=J o->h'.get? b=J o)->R (.ok<|.ret .none) { s with heap:=h',toks:=bz}) :
  mv ZB A (.builtin "set.update.loop" {[.ref s.L,.ref (s.heap.push<|j6 w).E.O],[]}) R { s with heap:=(s.heap.push (j6 w)).push oi}:=by
 let fQ:(s.heap.push<|j6 w).get? s.L=J (j6 w):=fZ _ P;let acT:l<s.L:=ed qT;let EH:s.L∉[(s.heap.push<|j6 w).E.O,l]:=by rw[lS];simp;show qj acT
 show amV W EH (λi v bu=>IntsAre.int_at hi i v<|by rw[kv];show eS i v bu) ao ns.H 0 _ [] (zb _) (fY _) st (acS<|ec _ fQ) (λx=>by simp) Z5 λh' bz ks b3 g m=>fin h' bz ks g m λb o z=>?_;let ao:=ed z;show b3 b o (eP ao) (by rw[lS];simp;show eP<|m2 ao)<|ec _<|ec _ z
def ajD(aI:c = "list" \/ c = "tuple"){nl:Y}(bg:A.handled=C)(qT:s.heap.get? l=J ol)(nv:ol.cls=.type c)(yk:ol.Y=.seq Wf nl)(hi:gN Wf.B ns)(ao:ns.H+1<oW)
  (h:∀(h':MJ) (bz:Y) (ks:O D),oM prog w h' s.L ks->(∀x,x∈ks↔x∈ns)->(∀b o,s.heap.get? b=J o->h'.get? b=J o)->Q (.ref s.L) { s with heap:=h',toks:=bz}) :
  bj ZB A (call (.type "set") [.ref l]) Q E s:=by
 let el:Wf.O=ns.H:=by rw[<-hi.H];simp
 let(cM,jb,aoX):=F.called_set.mro;let ao0:=F.called_set.made;let Uw:=F.called_set.sub;show w7<|codeAny_of_tree (show bj _ _ (callAny (.type "set") _) _ _ _ from bW {Code.quiet_builtin _ (by decide+kernel),sL F.entry_type_call ?_});rw[Around.under_plain (weight_type_call_type "set" [.ref l] []) P];let k1:=F.called_set.notType;let k2:=F.called_set.canCreate;let k3:=F.typeCall_set_1<|.ref l
 repeat (any_goals (first|assumption|wp_step))
 show sN (alk (.ref l) (E:=E) (Q₁:=λobj d2=>obj=.ref s.L/\d2={ s with heap:=s.heap.push (j6 w)}) ⟨rfl,rfl⟩) λr d2 a4=>?_;cases r with
 |error e=>show a4
 |ok b2 =>
  cases b2 with
  |ret obj =>
   let(rfl,rfl):=a4;let fQ:(s.heap.push<|j6 w).get? s.L=J (j6 w):=fZ _ P;let gP:Shared.TypeIs { s with heap:=s.heap.push (j6 w)} (.ref s.L) "set":=⟨_,fQ,P⟩
   let xC:=F.called_set.init.lookup;let k5:=F.called_set.init.bind<|.ref s.L
   repeat (any_goals (first|assumption|wp_step))
   show sN (codeAny_call_builtin (R:=wants (λr gC=>r=.none/\∃h' bz ks,gC={ s with heap:=h',toks:=bz}/\oM prog w h' s.L ks/\(∀x,x∈ks↔x∈ns)/\(∀b o,s.heap.get? b=J o->h'.get? b=J o)) E) F.called_set.init.plain F.entry_set_init<|check_set_init_1 gP ?_) λWQ gC J1=>?_
   .let Ux:(s.heap.push<|j6 w).get? l=J ol:=ec _ qT;let Uy:l≠(s.heap.push<|j6 w).E.O:=by rw[lS];show eP (m2<|ed qT)
    let Ql:A.in1.in1.in1.handled=C:=by simp[bg]
    let(aoY,ao1,ao2,ao3):=ol;simp only at nv yk;subst nv;subst yk;rcases aI with rfl|rfl
    .let aV:=F.sub_list_set;let bb:=F.sub_list_frozenset;let c1:(lf "list" == lf "dict")=Y1:=by decide
     let AW:(s.heap.push<|j6 w).IsList l Wf:={_,Ux,P,nl,P}
     delta Builtin.«set.__init__» noKeywords Builtin.Frozenset.updateFrom;generalize J2:k6=o1
     wp_walk
     subst J2;show CD AW<|a7<|HI ?_;let W:=Walks.list (prog:=prog) (w:=w) Ql _ l Uy Wf;rw[el]at W;show VC qT hi ao W ⟨⟨_,fZ _ P,P,P⟩,AW.push _⟩ (λi v z=>z) λh' bz ks g m b3=>bW<|bW {(P),h',bz,ks,P,g,m,b3}
    .let aV:isSubtype (.type "tuple") (.type "set")=pure Y1:=by rw[zo];kernel_rfl
     let bb:isSubtype (.type "tuple") (.type "frozenset")=pure Y1:=by rw[zo];kernel_rfl
     let c1:(lf "tuple" == lf "dict")=Y1:=by decide
     let AW:(s.heap.push<|j6 w).IsTuple l Wf:={_,Ux,P,nl,P}
     delta Builtin.«set.__init__» noKeywords Builtin.Frozenset.updateFrom;generalize J2:k6=o1
     wp_walk
     subst J2;show Hz AW<|a7<|HI ?_;let W:=Walks.tuple (prog:=prog) (w:=w) Ql _ l Uy Wf;rw[el]at W;show VC qT hi ao W ⟨⟨_,fZ _ P,P,P⟩,let ⟨o,aX,r⟩:=AW;⟨o,ec _ aX,r⟩⟩ (λi v z=>z) λh' bz ks g m b3=>bW<|bW {(P),h',bz,ks,P,g,m,b3}
   .cases WQ with
    |error e=>show J1
    |ok acU =>
     cases acU with
     |ret r =>
      let(rfl,h',bz,ks,rfl,g,m,b3):=J1
      repeat (any_goals (first|assumption|wp_step))
      show h _ _ _ g m b3
     |_=>show J1.elim
  |_=>show a4.elim
end
end a8.bD
end
section
set_option maxHeartbeats 1000000
namespace a8.bD
open PySem PySem.Spec PyProof.Rows
def VD:Manifest.owners.lookup (String.ofList ['r','o','t','a','r','e','t','i','_','t','e','s'].reverse)=J Manifest.sig_set_iterator:=by kernel_rfl
def tO:Slot "set_iterator" "__next__" "set_iterator.__next__" :=
 .of (owner:="set_iterator") (n:="__next__") (by rw[CH,CA];kernel_rfl) (by decide+kernel) (by decide+kernel) (by decide+kernel) (by first|show .inl (by decide+kernel)|show .inr<|by decide+kernel) (by rw[zo];kernel_rfl)
def Qm:entryFor table "set_iterator.__next__" = J Builtin.«set_iterator.__next__»:=entryFor_of_tree (by kernel_rfl)
def Qn(a:ay):argsOk "set_iterator.__next__" {[a],[]}:=by delta argsOk;rw[signature?_of (id:="set_iterator.__next__") (n:=['_','_','t','x','e','n','_','_']) (o:=['r','o','t','a','r','e','t','i','_','t','e','s']) (by kernel_rfl) VD];kernel_rfl
def acV:entryFor table "set.__iter__" = J Builtin.«frozenset.__iter__»:=entryFor_alias (id':="frozenset.__iter__") (by kernel_rfl) P (by decide+kernel) (by kernel_rfl)
noncomputable abbrev qU(f:ay)(i:Y)(a:MC)(n ep:Y):MT:={ cls:=.type "set_iterator",data:=.fields #[f,gf i,.ref a,gf n,gf ep]}
section
variable {prog:dn}{w:cV}{A:dH}{E:ay->aN->Prop}{s:aN}{I a:MC}{es:MH<|D×ay}{ep i:Y}{t:qo}
def J3{α:Type}{Q:α->aN->Prop}(bg:A.handled=C)(h:∀e h',(∀b o,s.heap.get? b=J o->h'.get? b=J o)->Shared.TypeIs { s with heap:=h'} e "StopIteration" -> E e { s with heap:=h'}):bj ZB A (newExc (.type "StopIteration") [] >>= λe=>(raiseNew e:Sem α)) Q E s:=by show a7 ?_;erw[newExc,newTuple];show a7 (mq ?_<|by size_fits);show a7 (m:=CJ _ _)<|zq (a:=M9) (by first|rfl|(erw[CJ];rfl)) ?_;show mq ?_ (by size_fits);erw[raiseNew];show a7 (wpAny_handled ?_);rw[bg];show a7 (bW (wpAny_throw (h (.ref _) _ (λb o z=>ec _<|ec _ z) {_,fZ _ P,P})))
def EI{slot Qo:Y}(g:kU prog w s.Q a es ep t)(hd:mM w=Y1->(!t.plain&&decide (es.O>1))=Y1)(acW:Qo=ep)
  (ae:mM w=Y0->Q (((sP (w.params.setOrder a ep) es)[i]?).map λe=>(e.2,slot)) s)
  (ai:mM w=Y1->Q (match es[MZ t.place slot]?,t.place[MZ t.place slot]? with|some (_,x),J j=>J (x,j+1)|_,_=>C) s):bj ZB A (setNext a slot i Qo) Q E s:=by
 subst acW;let(o,aX,au,mO):=g.obj;delta setNext setsByText;show a7<|zi aX mO g.fit ?_;dsimp only;show a7<|a7<|zk<|bW ?_;show bj _ _ (if mM w=Y0 then _ else _) _ _ s;cases ao:mM w with
 |true =>
  rw[Y2 P,Y3 Z5];delta setWalk setsByText;show a7<|a7<|zi aX mO g.fit ?_;dsimp only;show a7<|a7<|zk<|bW ?_;show bj _ _ (if mM w=Y0 then _ else _) _ _ s;rw[ao,Y2 P];show a7<|zk<|bW<|bW<|ae ao
 |false =>
  rw[Y3 Z5];let aB:=hd ao;let ax:t.led=Y0:=by rw[g.good.led,ao];rfl
  show bj _ _ (if(!t.plain&&decide (es.O>1))=Y0 then _ else _) _ _ s;rw[aB,Y3 Z1];show a7 ?_;wp_delta;rw[ax,Y3 Z5];show bW<|bW<|ai ao
def EJ{slot:Y}{r:MB<|ay×Y}{Q:MB ay->aN->Prop}(bg:A.handled=C)(hit:s.heap.get? I=J (qU (gf slot) i a es.O ep))(g:kU prog w s.Q a es ep t)
  (bI:∀(A':dH) (oa:ay->aN->Prop) (fi:MB (ay×Y)->aN->Prop),fi r s->bj ZB A' (setNext a slot i ep) fi oa s)
  (ae:∀x bC,r=J (x,bC)->∀h',h'.get? I=J (qU (gf bC) (i+1) a es.O ep)->Ni I s.Q h'->Q (J x) { s with heap:=h'})
  (ai:r=C->∀h',(∀b o,b≠I->s.heap.get? b=J o->h'.get? b=J o)->Q C { s with heap:=h'}):bj (bo prog w) A (m7 (.ref I)) Q E s:=by
 let gP:s.TypeIs (.ref I) "set_iterator":={_,hit,P}
 let(o,aX,au,mO):=g.obj;delta m7;show a7<|sM<|uu (name:=VZ "__next__") gP tO<|mr tO gP Qm ?_<|Qn _;delta Builtin.«set_iterator.__next__»;show a7<|bW<|a7<|HJ hit P ?_;dsimp only;show a7<|Hy aX mO g.fit ?_;rw[Y3 Z5];erw[gf,nX];show a7<|bI _ _ _ ?_;cases r with
 |some q =>
  let(x,bC):=q;dsimp only;show a7<|ql hit P Z5<|a7 ?_;let Gj:=qk (Obj.mapFields (·.setIfInBounds 0 (gf bC))) hit P;show ql Gj P Z5<|bW {_,P,bW<|ae x bC P _ ?_<|(Np ..).trans (Np ..)};show qk _ Gj P
 |none =>
  dsimp only;show a7<|ql hit P Z5 (J3 (by simpa using bg) λe h' b3 zS=>?_);show a7<|uw (T:="StopIteration") (b:=Y0) zS HK<|bW (ai P h' λb o nb z=>b3 b o ?_);rw[(Np s.Q I _).2 b nb];show z
def Qp{tp:MC}{Ic:MT}{cH:MH ay}{m:Y}{Q:MB ay->aN->Prop}(bg:A.handled=C)(hit:s.heap.get? I=J (qU (.ref tp) i a es.O ep))(g:kU prog w s.Q a es ep t)(acX:s.heap.get? tp=J Ic)(aoL:Ic.cls=.type "tuple")(ag6:Ic.Y=.seq cH m)
  (ae:∀p,cH[i]?=J (gf (p:Y))->∃au x,es[p]?=J (au,x)/\∀h',h'.get? I=J (qU (.ref tp) (i+1) a es.O ep)->Ni I s.Q h'->Q (J x) { s with heap:=h'})
  (h0:cH[i]?=C\/∃p:Y,cH[i]?=J (gf p))
  (ai:cH[i]?=C->∀h',(∀b o,b≠I->s.heap.get? b=J o->h'.get? b=J o)->Q C { s with heap:=h'}):bj (bo prog w) A (m7 (.ref I)) Q E s:=by
 let gP:s.TypeIs (.ref I) "set_iterator":={_,hit,P}
 let(o,aX,au,mO):=g.obj;delta m7;show a7<|sM<|uu (name:=VZ "__next__") gP tO<|mr tO gP Qm ?_<|Qn _;delta Builtin.«set_iterator.__next__»;show a7<|bW<|a7<|HJ hit P ?_;dsimp only;show a7<|Hy aX mO g.fit ?_;rw[Y3 Z5];show a7<|zm acX ag6 ?_;erw[gf,nX];rcases h0 with bI|⟨p,aC⟩
 .erw[bI];show a7<|ql hit P Z5<|a7 ?_;let Gj:=qk (Obj.mapFields (·.setIfInBounds 0 (gf 0))) hit P;show ql Gj P Z5 (J3 (by simpa using bg) λe h' b3 zS=>?_);show a7<|uw (T:="StopIteration") (b:=Y0) zS HK<|bW (ai bI h' λb o nb z=>b3 b o ?_);rw[(Np _ I _).2 b nb,(Np s.Q I _).2 b nb];show z
 .let(ff,x,e,k):=ae p aC;erw[aC,gf,nX];delta setNextDrawn;show a7<|a7<|zi aX mO g.fit ?_;dsimp only;rw[Y3 Z5,e];show bW<|a7<|ql hit P Z5<|bW {_,P,bW<|k _ ?_<|Np ..};show qk _ hit P
end
end a8.bD
end
section
set_option maxHeartbeats 1000000
namespace a8.bD
open PySem PySem.Spec PyProof.Rows
theorem J4{α:Type}:∀{l:O α} {i:Y} (h:i<l.H),(l[i]::l.eraseIdx i).Perm l
 |[],i,h=>by simp at h
 |x::l,0,h=>.refl _
 |x::l,i+1,h=>by rw[List.getElem_cons_succ,List.eraseIdx_cons_succ];show(List.Perm.swap _ _ _).trans ((J4<|by simpa using h).cons x)
theorem Qq{α:Type}(f:Y->Y):∀(fuel k:Y) (left:O α) (out:MH α),fuel=left.H->(pickOrder.go f fuel k left out).toList.Perm (out.B++left)
 |0,k,left,out,h=>by let:left=[]:=qaq.mp h.symm;subst this;delta pickOrder.go;simp
 |fuel+1,k,left,out,h=>by delta pickOrder.go;let az:f k%left.H<left.H:=Nat.mod_lt _<|wW<|dy h;rw[gd az];dsimp only;show(Qq f fuel (k+1) _ _<|by rw[qal az];lia).trans ?_;rw[Cx,hk];show Nv _<|J4 az
def J5{α:Type}(f:Y->Y)(xs:MH α):(sP f xs).toList.Perm xs.B:=by let:=Qq f xs.O 0 xs.B #[] Z5;simpa[sP]using this
section
variable {prog:dn}{w:cV}{A:dH}{E:ay->aN->Prop}{s:aN}{I a:MC}{es:MH<|D×ay}{ep i:Y}{t:qo}
def acY{n:Y}{Q:Y->aN->Prop}(bI:n≠0)(h:∀k d,k<n->Q k { s with drawn:=d}):bj ZB A (choose src n) Q E s:=by intro Γ p WR;show Sem.wp _ _ (.choose src n _) _ _ _ _;rw[Sem.wp_choose];show{bI,?_};show bW (h _ _<|Nat.mod_lt _<|kr bI) Γ p WR
theorem Qr{α:Type}:∀(n:Y) (xs:O α) (s:aN) (Q:O α->aN->Prop),n=xs.H->(∀l d,l.Perm xs->Q l { s with drawn:=d})->bj (bo prog w) A (drawOrder n xs) Q E s
 |0,xs,s,Q,e,h=>by let:xs=[]:=qaq.mp e.symm;subst this;delta drawOrder;show bW<|h [] s.drawn<|.refl _
 |n+1,[],s,Q,e,h=>by ext e
 |n+1,x::xs,s,Q,e,h=>by delta drawOrder;show a7 (acY Z5 λk d aW=>?_);rw[gd aW];dsimp only;show a7 (Qr n _ _ _ (by rw[qal aW];show Nat.add_right_cancel e) λl d' p=>bW ?_);show h _ d'<|(p.cons _).trans (J4 aW)
def Qs:Slot "set_iterator" "__iter__" "set_iterator.__iter__" :=
 .of (owner:="set_iterator") (n:="__iter__") (by rw[CH,CA];kernel_rfl) (by decide+kernel) (by decide+kernel) (by decide+kernel) (by first|show .inl (by decide+kernel)|show .inr<|by decide+kernel) (by rw[zo];kernel_rfl)
def amW(a:ay):argsOk "set_iterator.__iter__" {[a],[]}:=by delta argsOk;rw[signature?_of (id:="set_iterator.__iter__") (n:=['_','_','r','e','t','i','_','_']) (o:=['r','o','t','a','r','e','t','i','_','t','e','s']) (by kernel_rfl) VD];kernel_rfl
def acZ:entryFor table "set_iterator.__iter__" = J Builtin.«dict_keyiterator.__iter__»:=entryFor_alias (id':="dict_keyiterator.__iter__") (by kernel_rfl) P (by decide+kernel) (by kernel_rfl)
def J6{o:MT}{Q:ay->aN->Prop}(aX:s.heap.get? I=J o)(aI:o.cls=.type "set_iterator")(h:Q (.ref I) s):bj ZB A (k6<|.ref I) Q E s:=by
 let gP:s.TypeIs (.ref I) "set_iterator":={_,aX,aI}
 show HB gP Qs<|mr Qs gP acZ (show bj _ _ (ret<|.ref I) _ _ s from ?_)<|amW _;show bW {_,P,"set_iterator",_,gP,tO.lookup,h}
noncomputable def slotAt(cH:MH Y):Y->Y
 |0=>0
 |i+1=>cH.getD i 0+1
def Qt(a4:p7 cH)(hi:i<=cH.O):MZ cH (slotAt cH i)=i:=by
 cases i with
 |zero=>show acN a4
 |succ i =>
  let h:i<cH.O:=hi;let e:slotAt cH (i+1)=cH[i]+1:=by delta slotAt;simp[Array.getD,h]
  rw[e];show acM a4 h
def ac0(ao:mM w=Y1)(a4:p7 t.place)(hd:(!t.plain&&decide (es.O>1))=Y1)(bg:A.handled=C)(AX:I≠a) :
  Walks prog w A I [I,a] [I] es.O (λi v=>(es.toList.map (·.2))[i]?=J v) (λi h=>h.get? I=J (qU (gf<|slotAt t.place i) i a es.O ep)/\kU prog w h a es ep t) where
 sub:=λb ao=>by simp at ao;simp[ao]
 frame:=λi h h' st k=>{k I Z5 _ st.1,st.2.kept λo z=>k a Z5 o z}
 item:=λi s Q E hi st hQ=>by
  let hsz:t.place.O=es.O:=by let:=st.2.fit;simp[SetTable.fits]at this;show this.1
  let aC:i<t.place.O:=(dX hi<|dy hsz.symm)
  show EJ (r:=J (es[i].2,t.place[i]+1)) bg st.1 st.2 (λA' oa fi q=>EI st.2 (λ_=>hd) P (λz=>by rw[ao]at z;ext z) λ_=>?_) (λx bC e h' ae c2=>?_) λz=>by ext z
  .rw[Qt a4<|ei aC,sH hi,sH aC];show q
  .ext e
   show hQ _ h' s.toks (by simp[hi]) ⟨?_,st.2.kept λo z=>by rw[c2.2 a<|M4 AX];show z⟩ λb o nb z=>by rw[c2.2 b<|by simpa using nb];show z
   rw[ae];simp[slotAt,Array.getD,aC]
 done:=λs Q E st hQ=>by
  let hsz:t.place.O=es.O:=by let:=st.2.fit;simp[SetTable.fits]at this;show this.1
  show EJ (r:=C) bg st.1 st.2 (λA' oa fi q=>EI st.2 (λ_=>hd) P (λz=>by rw[ao]at z;ext z) λ_=>?_) (λx bC e=>by ext e) λ_ h' b3=>hQ h' s.toks λb o nb z=>b3 b o (by simpa using nb) z;rw[Qt a4<|dy hsz.symm,Hn<|b8 _];show q
 self:=λ_ s Q E st hQ=>J6 st.1 P hQ
def ac1(ao:mM w=Y0)(bg:A.handled=C)(AX:I≠a) :
  Walks prog w A I [I,a] [I] es.O (λi v=>((sP (w.params.setOrder a ep) es).toList.map (·.2))[i]?=J v) (λi h=>h.get? I=J (qU (gf (0:Y)) i a es.O ep)/\kU prog w h a es ep t) where
 sub:=λb ao=>by simp at ao;simp[ao]
 frame:=λi h h' st k=>{k I Z5 _ st.1,st.2.kept λo z=>k a Z5 o z}
 item:=λi s Q E hi st hQ=>by
  let fN:(sP (w.params.setOrder a ep) es).O=es.O:=by let:=(J5 (w.params.setOrder a ep) es).length_eq;simpa using this
  let aC:i<(sP (w.params.setOrder a ep) es).O:=(dX hi<|dy fN.symm)
  show EJ (r:=J ((sP (w.params.setOrder a ep) es)[i].2,0)) bg st.1 st.2 (λA' oa fi q=>EI st.2 (λz=>by rw[ao]at z;ext z) rfl (λ_=>?_) λz=>by rw[ao]at z;ext z) (λx bC e h' ae c2=>?_) λz=>by ext z
  .rw[sH aC];show q
  .ext e
   show hQ _ h' s.toks (by simp[aC]) ⟨ae,st.2.kept λo z=>by rw[c2.2 a<|M4 AX];show z⟩ λb o nb z=>by rw[c2.2 b<|by simpa using nb];show z
 done:=λs Q E st hQ=>by
  let fN:(sP (w.params.setOrder a ep) es).O=es.O:=by let:=(J5 (w.params.setOrder a ep) es).length_eq;simpa using this
  show EJ (r:=C) bg st.1 st.2 (λA' oa fi q=>EI st.2 (λz=>by rw[ao]at z;ext z) rfl (λ_=>?_) λz=>by rw[ao]at z;ext z) (λx bC e=>by ext e) λ_ h' b3=>hQ h' s.toks λb o nb z=>b3 b o (by simpa using nb) z;rw[Hn<|dy fN];show q
 self:=λ_ s Q E st hQ=>J6 st.1 P hQ
def ac2{tp:MC}{l:O Y}(az:l.Perm<|M0 es.O)(bg:A.handled=C)(AX:I≠a)(ac3:I≠tp) :
  Walks prog w A I [I,a,tp] [I] es.O (λi v=>(l.map λp=>((es[p]?).map (·.2)).getD .none)[i]?=J v) (λi h=>h.get? I=J (qU (.ref tp) i a es.O ep)/\kU prog w h a es ep t/\∃m,h.get? tp=J { cls:=.type "tuple",data:=.seq (l.map λ(i:Y)=>gf i).D m}) where
 sub:=λb ao=>by simp at ao;simp[ao]
 frame:=λi h h' st k=>{k I Z5 _ st.1,st.2.1.kept λo z=>k a Z5 o z,let ⟨m,z⟩:=st.2.2;{m,k tp Z5 _ z}}
 item:=λi s Q E hi st hQ=>by
  let(s1,s2,m,s3):=st;let yl:l.H=es.O:=by rw[az.length_eq];simp
  let AY:i<l.H:=(dX hi<|dy yl.symm)
  let dN:l[i]<es.O:=by simpa using az.mem_iff.mp<|nP AY
  let aC:(l.map λ(i:Y)=>gf i).D[i]?=J (gf l[i]):=by simp[AY]
  show Qp bg s1 s2 s3 P P (λp e=>?_) (.inr {_,aC}) λz=>by rw[aC]at z;ext z
  rw[aC]at e;let e:((l[i]:Y):D)=p:=by simpa[gf]using e
  let e:l[i]=p:=by lia
  subst e;show{es[l[i]].1,es[l[i]].2,by simp[dN],λh' ae c2=>hQ _ h' s.toks (by simp[AY,dN]) ⟨ae,s2.kept λo z=>by rw[c2.2 a<|M4 AX];show z,m,by rw[c2.2 tp<|M4 ac3];show s3⟩ λb o nb z=>by rw[c2.2 b<|by simpa using nb];show z}
 done:=λs Q E st hQ=>by
  let(s1,s2,m,s3):=st;let yl:l.H=es.O:=by rw[az.length_eq];simp
  let aC:(l.map λ(i:Y)=>gf i).D[es.O]?=C:=by simp[yl]
  show Qp bg s1 s2 s3 P P (λp e=>by rw[aC]at e;ext e) (.inl aC) λ_ h' b3=>hQ h' s.toks λb o nb z=>b3 b o (by simpa using nb) z
 self:=λ_ s Q E st hQ=>J6 st.1 P hQ
end
end a8.bD
end
section
set_option maxHeartbeats 1000000
namespace a8.bD
open PySem PySem.Spec PyProof.Rows
section
variable {prog:dn}{w:cV}{A:dH}{E:ay->aN->Prop}{s:aN}{a:MC}{es:MH<|D×ay}{ep:Y}{t:qo}
def ahW(prog:dn)(w:cV)(s:aN)(a:MC)(us:O ay)(it:ay)(gC:aN):Prop :=
 ∃(ag:O ay) (I:MC) (fp:O MC) (St:Y->MJ->Prop) (d:Drawn),it=.ref I/\ag.Perm us/\s.L<=I/\(∀b∈fp,b=a\/s.L<=b)/\(∀A',A'.handled=C->Walks prog w A' I fp [I] ag.H (λi v=>ag[i]?=J v) St)/\St 0 gC.Q /\
  (∀b o,s.heap.get? b=J o->gC.heap.get? b=J o)/\gC={ s with heap:=gC.Q,drawn:=d}
def Qu(h:b∈[n,a]):b=a\/n<=b:=by
 rcases cF.mp h with rfl|h
 .show .inr<|b8 _
 .show .inl (by simpa using h)
def amX(g:kU prog w s.Q a es ep t):bj ZB A (k6 ZM) (ahW prog w s a<|es.toList.map (·.2)) E s:=by
 let(o,aX,au,mO):=g.obj;let gP:s.TypeIs ZM "set":={_,aX,au.1}
 let bl:a<s.L:=ed aX;let hsz:t.place.O=es.O:=by let:=g.fit;simp[SetTable.fits]at this;show this.1
 show HB gP F.slot_set_iter<|mr F.slot_set_iter gP acV ?_<|F.args_set_iter_1 _;delta Builtin.«frozenset.__iter__»;show a7 (m:=Builtin.Frozenset.slot0 _ _)<|bW<|a7 ?_;delta Builtin.Frozenset.sizeOf;show a7<|Hy aX mO g.fit<|bW<|a7 ?_;delta setDrawn setsByText;show a7<|zi aX mO g.fit ?_;dsimp only;show a7<|a7<|zk<|bW<|bW ?_;show bj _ _ (if(!mM w&&(!t.plain&&decide (es.O>1)))=Y0 then _ else _) _ _ s;cases ao:mM w with
 |true =>
  rw[Y3 Z5];show a7<|bW<|a7<|HC aX mO g.fit<|a7<|mq<|bW ⟨_,P,"set_iterator",_,⟨_,fZ _ P,P⟩,tO.lookup,?_⟩;let aC:=(J5 (w.params.setOrder a ep) es).map (·.2);show⟨_,s.L,[s.L,a],λi h=>h.get? s.L=J (qU (gf (0:Y)) i a es.O ep)/\kU prog w h a es ep t,s.drawn,P,aC,b8 _,λb mL=>Qu mL,λA' bg=>?_,{fZ _ P,g.kept λo z=>ec _ z},λb o z=>ec _ z,P⟩;let W:=ac1 (prog:=prog) (es:=es) (t:=t) (ep:=ep) ao bg<|qj bl;rw[aC.length_eq];simpa using W
 |false =>
  cases hd:(!t.plain&&decide (es.O>1)) with
  |false =>
   rw[Y3 Z5];show a7<|bW<|a7<|HC aX mO g.fit<|a7<|mq<|bW {_,P,"set_iterator",_,{_,fZ _ P,P},tO.lookup,?_};let a4:p7 t.place:=by
    cases fN:t.plain with
    |true=>show g.good.rise fN
    |false =>
     rw[fN]at hd;intro i j hi bJ jf;let:¬es.O>1:=by simpa using hd
     omega
   show{_,s.L,[s.L,a],λi h=>h.get? s.L=J (qU (gf<|slotAt t.place i) i a es.O ep)/\kU prog w h a es ep t,s.drawn,P,.refl _,b8 _,λb mL=>Qu mL,λA' bg=>?_,{fZ _ P,g.kept λo z=>ec _ z},λb o z=>ec _ z,P};let W:=ac0 (prog:=prog) (es:=es) (t:=t) (ep:=ep) ao a4 hd bg<|qj bl;simpa using W
  |true =>
   rw[Y2 Z5];show a7 (Qr es.O (M0 es.O) s _ Z5 λl d az=>?_);let yl:l.H=es.O:=by rw[az.length_eq];simp
   show a7 (wpAny_newTuple ?_<|by rw[bZ,yl];show zj g.bd);let g2:kU prog w (s.heap.push<|jn "tuple" (l.map λ(i:Y)=>gf i).toArray 0) a es ep t:=g.kept λo z=>ec _ z;let(gx,pJ,EK,ag7):=g2.obj;show a7<|HC pJ ag7 g.fit<|a7<|mq<|bW ⟨_,P,"set_iterator",_,⟨_,fZ _ P,P⟩,tO.lookup,?_⟩;let aC:(l.map λp=>((es[p]?).map (·.2)).getD .none).Perm (es.toList.map (·.2)):=by
    show(az.map _).trans ?_;let:(M0 es.O).map (λp=>((es[p]?).map (·.2)).getD .none)=es.toList.map (·.2):=by
     show List.ext_getElem Z5 λi ae ai=>?_;let:i<es.O:=by simpa using ae
     simp[this]
    rw[this]
   show{_,(s.heap.push<|jn "tuple" (l.map λ(i:Y)=>gf i).toArray 0).E.O,[(s.heap.push<|jn "tuple" (l.map λ(i:Y)=>gf i).toArray 0).E.O,a,s.L],λi h=>h.get? (s.heap.push<|jn "tuple" (l.map λ(i:Y)=>gf i).toArray 0).E.O=J (qU (.ref s.L) i a es.O ep)/\kU prog w h a es ep t/\∃m,h.get? s.L=J { cls:=.type "tuple",data:=.seq (l.map λ(i:Y)=>gf i).D m},d,P,aC,by rw[lS];show uo _,λb mL=>?_,λA' bg=>?_,⟨fZ _ P,g2.kept λo z=>ec _ z,0,ec _<|fZ _ P⟩,λb o z=>ec _<|ec _ z,P}
   .simp at mL;rcases mL with z|z|z
    .right;rw[z];show uo _
    .show .inl z
    .right;rw[z];show b8 _
   .let W:=ac2 (prog:=prog) (w:=w) (es:=es) (t:=t) (ep:=ep) az bg (I:=(s.heap.push<|jn "tuple" (l.map λ(i:Y)=>gf i).toArray 0).E.O) (a:=a) (tp:=s.L) (by rw[lS];show qj<|m2 bl) (by rw[lS];show qj<|m3 _);rw[bZ,yl];show W
def alm:typeLookup (.type "set") "__len__" = pure (J<|.builtin "set.__len__"):=by rw[CH,CA];kernel_rfl
def amY(gP:s.TypeIs ZM "set"){Q:MF->aN->Prop}(h:Q Y1 s):bj ZB A (Builtin.List.listLengthHint ZM) Q E s:=by delta Builtin.List.listLengthHint;show a7<|CI gP alm ?_;generalize Qw:("set.__len__" : M8)=EL;wp_delta;rw[show splitId EL=J ("set","__len__") from by subst Qw;decide+kernel];subst Qw;show a7<|uw (T:="set") (b:=Y0) gP (by rw[zo];kernel_rfl) ?_;show HG (λz=>MI z Z1) λ_=>HG (λ_=>a7<|sO gP<|bW h) λz=>MI (by decide+kernel) z
def ac4(bg:A.handled=C)(g:kU prog w s.Q a es ep t)(cp:MC)(Qx:cp≠a)(res:ay)(c₀:Y)(fQ:s.heap.get? cp=J { cls:=.type "list",data:=.seq #[] c₀})
  (gi:∀h' bz d V9 c ag,(∀b o,b≠cp->s.heap.get? b=J o->h'.get? b=J o)->h'.get? cp=J { cls:=.type "list",dict:=C,data:=.seq V9 c,slots:=#[]}->ag.Perm (es.toList.map (·.2))->V9.B=ag->R (.ok<|.ret res) { s with heap:=h',toks:=bz,drawn:=d}) :
  bj ZB A.in1 (Builtin.List.listExtendWith (.ref cp) ZM res)
   (λfin s'=>match fin with|.done f=>R (.ok f) s'|.again cM=>cM.quiet=Y0/\mv ZB A cM R s') (λe s'=>R (.error e) s') s:=by
 let(o,aX,au,mO):=g.obj;let gP:s.TypeIs ZM "set":={_,aX,au.1}
 let ac5:=ed fQ;delta Builtin.List.listExtendWith;show a7<|sO (T:="set") gP ?_;simp only[show Builtin.List.listSameRef (.ref cp) ZM=Y1 from by simp[Builtin.List.listSameRef,Qx],show(lf "set" == lf "list")=Y1 from by decide,show(lf "set" == lf "tuple")=Y1 from by decide,Bool.or_false,iB,MU];show a7 (hE (amX g) (λit gC z=>?_) λ_ _ e=>e);let(ag,I,fp,St,d,rfl,aC,sZ,ov,xA,st,b3,WS):=z;let(Nz,aok,aol,k₂,aom):=gC
 ext WS
 let EH:cp∉fp:=λz=>by rcases ov cp z with q|q;show Qx q;show MI ac5<|Cu.mpr q
 let W:=xA A.in1 bg;let ac6:ag.H<=dq:=by rw[aC.length_eq];simp;show zj g.bd
 let J7:=b3 cp _ fQ;let key:∀(h:MJ) (c₁ bz:Y),St 0 h->(∀b o,b≠cp->s.heap.get? b=J o->h.get? b=J o)->h.get? cp=J { cls:=.type "list",data:=.seq #[] c₁}->mv ZB A (.builtin "list.extend.loop" {[.ref cp,.ref I,res],[]}) R { s with heap:=h,toks:=bz,drawn:=d}:=by
  intro h c₁ bz jY aW J8;show codeAny_extend_loopS W.toS ac6 cp EH res ag.H 0 _ #[] c₁ P (fY _) jY J8 (ItemsOf.nil _) λs' t4 cM hm ac7 Uz=>?_;let e:=Moved.eq_with hm;rw[e];show gi s'.Q s'.toks d t4 cM ag (λb o nb z=>hm.heap b o (λq=>?_)<|aW b o nb z) ac7 aC ?_
  .rcases cF.mp q with q|q
   .show nb q
   .let dN:=ed z;let q:b=I:=by simpa using q
    rw[q]at dN;show MI dN<|Cu.mpr sZ
  .show qaJ λi=>?_;by_cases hi:i<t4.O
   .let:=Uz.2 i t4[i] (by simp[hi]);rw[this,kv];simp[hi]
   .let ae:t4.B[i]?=C:=by simp;show ci hi
    let ai:ag[i]?=C:=by let:=Uz.1;simp;show bw (dy this.symm)<|ci hi
    rw[ae,ai]
 show a7<|ky<|amY (let ⟨o,z,q⟩:=gP;⟨o,b3 a o z,q⟩) ?_;show HG (λ_=>?_) λ_=>bW {uy PySem.F.plain_extend_loop _,key _ c₀ _ st (λb o _ z=>b3 b o z) J7};show a7<|kz<|a7 (show bj _ _ (updateSeq cp (·.push .none) >>= λ_=>updateSeq cp (·.pop)) _ _ _ from ?_);let bb:=qk (Ng (·.push M9)) J7 P;let c1:=qk (Ng (·.pop)) bb P;show a7<|CF J7 P<|CF (hz:=by seq_fits) bb P<|bW ⟨uy PySem.F.plain_extend_loop _,key _ _ _ ?_ (λb o nb z=>?_) c1⟩
 .show W.frame 0 _ _ st λb ao o z=>?_;let nb:b≠cp:=λq=>EH<|q▸ao;show(uq _ _<|M4 nb).trans ((uq _ _<|M4 nb).trans z)
 .show(uq _ _<|M4 nb).trans ((uq _ _<|M4 nb).trans (b3 b o z))
def ac8(bg:A.handled=C)(g:kU prog w s.Q a es ep t)
  (h:∀h' bz d ag,(∀b o,s.heap.get? b=J o->h'.get? b=J o)->ag.Perm (es.toList.map (·.2))->R ag { s with heap:=h',toks:=bz,drawn:=d}):bj (bo prog w) A (collect (.ref a)) R E s:=by
 let(o,aX,au,mO):=g.obj;let bl:=ed aX;delta collect;show a7<|HI<|sL PyProof.Rows.entry_proto_collect' ?_;rw[Vk PySem.F.plain_proto_collect _];show(show bj _ A.in1 (newList [] >>= λl=>again<|.builtin "list.__iadd__" {[l,.ref a],[]}) _ _ s from a7<|mq<|bW {uy PySem.F.plain_list_iadd _,sL PyProof.Rows.entry_list_iadd' ?_});rw[Vk PySem.F.plain_list_iadd _];let J8:(s.heap.push { cls:=.type "list",data:=.seq ([]:O ay).D}).get? s.L=J { cls:=.type "list",data:=.seq #[]}:=fZ _ P;let key:=ac4 (A:=A) (s:={ s with heap:=s.heap.push { cls:=.type "list",data:=.seq ([]:O ay).D}})
  (R:=λ(q:Result) (s':aN)=>∃h' bz d V9 c ag,q=.ok (.ret<|.ref s.L)/\s'={ s with heap:=h',toks:=bz,drawn:=d}/\(∀b o,s.heap.get? b=J o->h'.get? b=J o)/\h'.get? s.L=J { cls:=.type "list",dict:=C,data:=.seq V9 c,slots:=#[]}/\ag.Perm (es.toList.map (·.2))/\V9.B=ag)
  bg (g.kept λo z=>ec _ z) s.L (qj bl) (.ref s.L) 0 J8
  (λh' bz d V9 c ag k1 k2 k3 xC=>{h',bz,d,V9,c,ag,P,P,λb o z=>k1 b o (eP<|ed z)<|ec _ z,k2,k3,xC})
 let fin:∀{q:Result} {s':aN},(∃h' bz d V9 c ag,q=.ok (.ret<|.ref s.L)/\s'={ s with heap:=h',toks:=bz,drawn:=d}/\(∀b o,s.heap.get? b=J o->h'.get? b=J o)/\h'.get? s.L=J { cls:=.type "list",dict:=C,data:=.seq V9 c,slots:=#[]}/\ag.Perm (es.toList.map (·.2))/\V9.B=ag)->True:=λ_=>trivial;show hE key (λf s' x=>?_) λe s' x=>?_
 .cases f with
  |done f =>
   let(h',bz,d,V9,c,ag,e,rfl,k1,k2,k3,rfl):=x
   ext e
   show(show bj _ A (load s.L >>= _) _ _ _ from a7<|wpAny_load k2<|bW<|h h' bz d _ k1 k3)
  |again c₁ =>
   show{x.1,sN x.2 λq gC y=>?_};let(h',bz,d,V9,c,ag,rfl,rfl,k1,k2,k3,rfl):=y;show(show bj _ A (load s.L >>= _) _ _ _ from a7<|wpAny_load k2<|bW<|h h' bz d _ k1 k3)
 .let(_,_,_,_,_,_,bH,_):=x
  ext bH
end
end a8.bD
end
namespace a8.bD
open PySem PySem.Spec PyProof.Rows a8.Tm
def _root_.a8.aT.aln(I:aT X ah U H s)(d:Drawn):aT X ah U H { s with drawn:=d}:=⟨I.ok,I.os,I.dx,I.e,I.loc,I.cell,I.free,I.kW,I.pin,I.bX,I.len⟩
theorem J9(x:D):∀ns:O D,x∈kI ns↔x∈ns
 |[]=>by simp[kI]
 |n::ns=>by
  let aQ:=J9 x ns;delta kI at aQ |-;rw[G5];split
  .rename_i h;rw[aQ,cF];show{.inr,λz=>z.elim (λe=>by rw[e];show(J9 n ns).mp h) id}
  .rw[cF,cF,aQ]
theorem Qy:∀ns:O D,(kI ns).Nodup
 |[]=>by simp[kI]
 |n::ns=>by
  let aQ:=Qy ns;delta kI at aQ |-;rw[G5];split
  .show aQ
  .rename_i h;show lP.mpr {(h),aQ}
section
variable {X:bK}{L:MC}
def amZ{e:MG}{d:bS}{B:aM}{S:bF}{n aY:Y}{ns:O D}{aE:O T}{ah:O Z2}{s:aN}{U:St}{H:aM}{Q:ay->aN->Prop}{cP sq:MK}(bg:X.A.handled=C)(h:bM X L e d)(r4:X.bf "set" = C)(AZ:fP X "set")(lI:cA [e] X.I=ZO::cA [] X.I)
  (aB:af d aw S n=J (aE,aY)) (hi:tB aY aE=J ns) (I:aT X ah U H s) (R:dD X.K B L S n U H)
  (k:∀s' ak a ks,aT X ah U ak s'->dC L H ak->dD X.K B L S aY U ak->oM X.R X.w s'.Q a ks->ks.Perm (kI ns)->Q ZM s') :
  bj Z4 X.A (MO (.Call (.Name "set" cP) [e] [] sq) X.I) Q X.cL s:=by
 show oT<|nq I AZ r4 boot_set ?_ Z1 Z1;show Uk ?_ lI P;rw[lI];let((to,mo,no),f1,f2):=cE aB
 ext f2
 show kc (cm (h.run f1 I R) λu s1 ⟨v,H1,bt,bx,a1,bN,cb⟩=>nY ?_);let ba:=cb.root bN R.aR;let fin:∀{c:M8} {l:MC} {ol:MT} {Wf:MH ay} {nl:Y},(c = "list" \/ c = "tuple")->s1.heap.get? l=J ol->ol.cls=.type c->ol.Y=.seq Wf nl->gN Wf.B ns->ns.H+1<4096->bj Z4 X.A (call (.type "set") [.ref l]) Q X.cL s1:=λaI aX nv hd sZ ao=>by
  show ajD aI bg aX nv hd sZ (by delta oW;show ao) λh' bz ks g m b3=>?_;let di:aT X ah U H1 { s1 with heap:=h',toks:=bz}:=bt.kept b3;let bG:ks.Nodup:=by let(_,_,_,_,_,z):=g;show z
  show k _ H1 _ ks di a1 bN g ((GR bG<|Qy ns).mpr λx=>by rw[m x,J9])
 induction to using T.casesOn with
 |aj xs =>
  let(ac9,ae,ai):=cE (show(e5 xs).bind _=_ from hi);split at ai
  .rename_i ao
   ext ai
   let(l,ag,rfl,gX,kB):=ba
   ext bx
   let au:=nA ae;subst au;cases tC kB;let(aZ,bh,cH,hz):=bt.list gX.gX;let(o,aX,aI,m,hd):=cH.isList;show fin (.inl P) aX aI hd (by simpa using px bh) ao
  .ext ai
 |aF xs =>
  let(ac9,ae,ai):=cE (show(e5 xs).bind _=_ from hi);split at ai
  .rename_i ao
   ext ai
   let(l,ag,rfl,cB,kB):=kN ba
   ext bx
   let au:=nA ae;subst au;cases tC kB;let(aZ,bh,(o,aX,aI,m,hd),hz):=bt.tuple<|e9.of (K:=X.K) cB;show fin (.inr P) aX aI hd (by simpa using px bh) ao
  .ext ai
 |_=>ext hi
def ada{e:MG}{d:bS}{p cP pos sq:MK}(bg:X.A.handled=C)(h:bM X L e d)(hm:X.bf "sorted" = C)(r4:X.bf "set" = C)(bL:MD (fP X "sorted") rc)(AZ:MD (fP X "set") rc)(lI:MD (cA [e] X.I=ZO::cA [] X.I) rc)
  (he:MD (cA [.Call (.Name "set" cP) [e] [] sq] X.I=(Y1,MO (.Call (.Name "set" cP) [e] [] sq) X.I)::cA [] X.I) rc) :
  bM X L (.Call (.Name "sorted" p) [.Call (.Name "set" cP) [e] [] sq] [] pos) (aD abd<|af d aw):=by
 intro B S n t jx n' hd ah s U H Q I ⟨R,k⟩;let((aE,aY),aB,ax):=cE hd;let((t1,df),bq,cC):=dR ax;cases cC;let(ns,hi,fj):=dR (show(tB aY aE).map _=_ from bq);cases fj;show oT<|nq I bL hm CQ ?_ Z1 Z1;show Vl (Q:=gs X ah U Q) ?_ he P;rw[he];show kc (amZ bg h r4 AZ lI aB hi I R λs1 H1 a ks bt bE bN g WT=>nY ?_);let(es,ep,tt,g1,g2,g3):=g;show ED (ac8 (A:=X.A.in1) bg g1.i λh' bz dd ag b3 NL=>?_);let(l9,aV,bb):=J0 g2 NL;let az:ag.H<=dq:=by rw[NL.length_eq];simp;show zj g1.bd
 show{_,az,λ_=>(P4 aV).at,λvM i4 rB l8 au aC vN=>?_};let(Qz,qV):=JS (EE aV) aC vN;let di:aT X ah U H1 { s1 with heap:=h',toks:=bz,drawn:=dd}:=(bt.kept b3).aln dd;let hf:H1 h'.E.O=C:=di.bX.fresh<|b8 _;let(EG,gO,iF):=J0 aV Qz;let adb:EG=sortI (kI ns):=by
  let z:=EE (h:=h') gO;rw[z,P2]at qV;let:EG=sortI l9:=by let:=M1 (List.map λl:O D=>l.headD 0) qV;simpa[bv,Function.comp_def]using this
  rw[this];show I8 ((sortI_perm l9).trans (bb.trans WT))<|xZ l9
 subst adb;let gD:=di.laid (a:=h'.E.O) (o:=.aj<|(sortI<|kI ns).map V.int) (t':=bz) (h':=vM) l8 (b8 _) {by rw[bZ,<-gO.H,Qz.length_eq];show az,(i4.map (·.2)).B,rB,PB gO,by rw[ze];show au};show{.ref h'.E.O,_,gD,P,k _ _ (bE.trans<|.new hf) (bN.aR.new hf) {_,P,bE.free bN.aR hf,_,fH,bV.ints _}}
end
def EM:ee:=λn aE=>(tB n aE).bind λns=>if(kI ns).H<64 then J (.aj<|(sortI<|kI ns).map .int,.aA) else C
section
variable {X:bK}{L:MC}
def ade{e:MG}{d:bS}{p cP pos sq:MK}(bg:X.A.handled=C)(h:bM X L e d)(hm:X.bf "sorted" = C)(r4:X.bf "set" = C)(bL:MD (fP X "sorted") rc)(AZ:MD (fP X "set") rc)(lI:MD (cA [e] X.I=ZO::cA [] X.I) rc)
  (he:MD (cA [.Call (.Name "set" cP) [e] [] sq] X.I=(Y1,MO (.Call (.Name "set" cP) [e] [] sq) X.I)::cA [] X.I) rc) :
  bM X L (.Call (.Name "sorted" p) [.Call (.Name "set" cP) [e] [] sq] [] pos) (aD EM<|af d aw):=(ada bg h hm r4 bL AZ lI he).weak λS n r e=>Qe (λn aE r e=>by
 let(ns,aB,ax):=cE (show(tB n aE).bind _=_ from e);split at ax
 .show(tB n aE).map _=_;rw[aB];show ax
 .ext ax) e
end
end a8.bD
namespace a8.bD
open PySem PySem.Spec PyProof.Rows
section
variable {X:bK}{L:MC}
def alo{k:Y}(bq:p3 k [to]=J (t1,df)):∃i,to=.int i/\t1=.int (-i)/\df=.aa:=by
 induction to using T.casesOn with
 |int i =>
  ext bq;show{(i),P,P,P}
 |_=>ext bq
def QA{e:MG}{d:bS}{pos:MK}(h:bM X L e d):bM X L (.UnaryOp .USub e pos)<|aD p3<|af d aw:=by intro B S n t jx n' hd ah s U H Q I ⟨R,k⟩;let(to,mo,f1,bq):=Av hd;let(i,rfl,rfl,rfl):=alo bq;show ahw aiV (h B S n (.int i) mo _ f1) ah s U H Q I ⟨R,λv ak x y z=>?_⟩;let:=i1<|z.root (R.mono x y) R.aR;subst this;show{i,P,k _ ak x y<|by show aL L ak (.int _) _;rw[aL]}
def EN(h:j1 t=Y0)(r:aL L H t v):vi v=Y0:=by
 induction t using T.casesOn with
 |b0=>rw[aL]at r;subst r;rfl
 |aU b=>rw[aL]at r;subst r;rfl
 |int i=>rw[aL]at r;subst r;rfl
 |str x=>rw[aL]at r;subst r;rfl
 |_=>ext h
def alp(h:j1 t=Y0)(h':j1 t'=Y0)(r:aL L H t v)(bU:aL L H t' f5):od v f5=d1 t t':=by
 induction t using T.casesOn with
 |b0=>induction t' using T.casesOn with
  |b0=>rw[aL]at r;rw[aL]at bU;subst r bU;rfl
  |aU b=>rw[aL]at r;rw[aL]at bU;subst r bU;rfl
  |int i=>rw[aL]at r;rw[aL]at bU;subst r bU;rfl
  |str x=>rw[aL]at r;rw[aL]at bU;subst r bU;rfl
  |_=>ext h'
 |aU b=>induction t' using T.casesOn with
  |b0=>rw[aL]at r;rw[aL]at bU;subst r bU;rfl
  |aU b=>rw[aL]at r;rw[aL]at bU;subst r bU;simp[od,d1]
  |int i=>rw[aL]at r;rw[aL]at bU;subst r bU;simp[od,d1]
  |str x=>rw[aL]at r;rw[aL]at bU;subst r bU;rfl
  |_=>ext h'
 |int i=>induction t' using T.casesOn with
  |b0=>rw[aL]at r;rw[aL]at bU;subst r bU;rfl
  |aU b=>rw[aL]at r;rw[aL]at bU;subst r bU;simp[od,d1]
  |int i=>rw[aL]at r;rw[aL]at bU;subst r bU;simp[od,d1]
  |str x=>rw[aL]at r;rw[aL]at bU;subst r bU;rfl
  |_=>ext h'
 |str x=>induction t' using T.casesOn with
  |b0=>rw[aL]at r;rw[aL]at bU;subst r bU;rfl
  |aU b=>rw[aL]at r;rw[aL]at bU;subst r bU;rfl
  |int i=>rw[aL]at r;rw[aL]at bU;subst r bU;rfl
  |str x=>rw[aL]at r;rw[aL]at bU;subst r bU;simp[od,d1]
  |_=>ext h'
 |_=>ext h
theorem Ka:∀{xs:O T} {ag:O V},(xs.all j1)=Y0->bV L H xs ag->ag.all vi=Y0
 |[],ag,_,r=>by cases j2 r;rfl
 |x::xs,ag,h,r=>by let(v,w,rfl,p,q):=hT r;rw[oR,iR]at h;rw[oR,EN h.1 p,Ka h.2 q];rfl
theorem Kb(aJ:j1 y=Y0)(eF:aL L H y z):∀{xs:O T} {ag:O V} {us:O ay},(xs.all j1)=Y0->bV L H xs ag->cR ag us->us.map (og z)=xs.map λx=>d1 x y
 |[],ag,us,_,r,bh=>by cases j2 r;ext bh;rfl
 |x::xs,ag,us,h,r,bh=>by
  let(v,w,rfl,p,q):=hT r;rw[oR,iR]at h;cases bh with
  |cons bx cn=>rw[cj,cj,Kb aJ eF h.2 q cn,Vo bx<|EN h.1 p,alp h.1 aJ p eF]
def QB{K:MN}{H:aM}{t:T}{v:V}(h:j1 t=Y0)(r:eQ K L H t v):aL L H t v:=by
 show eQ.rep ?_ r
 induction t using T.casesOn with
 |b0=>rfl
 |aU b=>rfl
 |int i=>rfl
 |str x=>rfl
 |_=>ext h
def Kc{us:O ay}{z:V}{xs:O T}{y:T}(h:us.map (og z)=xs.map λx=>d1 x y):us.countP (og z)=tZ xs y:=by
 let a:∀{α:Type} (f:α->MF) (l:O α),l.countP f=(l.map f).countP id:=λf l=>by rw[Cc];rfl
 rw[tZ,a,h,<-a]
def adf{o e:MG}{eG jz:bS}{apos d3:MK}(aX:bM X L o eG)(he:bM X L e jz)(m:HV X o "count" apos e d3):bM X L (.Call (.Attribute o "count" apos) [e] [] d3)<|aD Ja<|af eG<|af jz aw:=by
 intro B S n t jx n' hd ah s U H Q I ⟨R,k⟩;let(to,mo,no,te,CZ,f1,g1,bq):=Jj hd;have⟨xs,rD,aJ,au,eU,em⟩:∃xs,to=.aj xs/\j1 te=Y0/\(xs.all j1)=Y0/\t=.int (tZ xs te)/\jx=.aa:=by
  induction to using T.casesOn with
  |aj xs =>
   let bq:(if j1 te=Y0/\(xs.all j1)=Y0 then J (T.int<|tZ xs te,a9.aa) else C)=J (t,jx):=bq;split at bq
   .rename_i h;ext bq;show{(xs),P,h.1,h.2,P,P}
   .ext bq
  |_=>ext bq
 subst rD eU em;show CB m.e m.lC m.line PySem.F.plainAttrs_list PySem.F.slot_list_count PySem.F.type_list_count (cm (aX.run f1 I R) λu s1 ⟨v,H1,bt,bx,a1,bN,cb⟩=>?_);let(a,f6,rfl,cB,dk):=cb.root bN R.aR
 ext bx
 let(aZ,pI,(ek,adg,kn,AF,vF,_),_):=bt.list cB.gX;show{{(ek),kn,AF},λb e=>?_,?_}
 .ext e;show{(ek),kn,vF}
 .rw[m.trees];show ur P<|w6<|kc (cm (he.run g1 bt bN) λh1 s2 ⟨y,b5,di,eF,a2,dF,d9⟩=>nY ?_);let ba:=QB aJ<|d9.root dF bN.aR;let AG:=cB.ext a2;let A0:=bV.mono (a2.cq bN.aR) _ _ dk;let(aZ,nz,((cls,dd,data,cW),nn,aX,aI,hd,kp),_):=di.list AG.gX;simp only at aI kp
  subst aI kp
  let L6:=Kc<|Kb aJ ba au A0 nz;show qm PySem.F.slot_list_count {_,aX,P} PySem.F.entry_list_count (PySem.F.args_list_count_2 _ _) (PySem.SeqAt.list_countAt a aZ.D nn dd cW h1<|og y) ⟨aX,λw hw=>IZ eF (EN aJ ba) nz (Ka au A0) w (by simpa using hw),?_⟩
  .show{.int _,b5,di.tok _,{_,P},?_};show Q (.int ((List.countP (og y) aZ.D.B:Y):D)) b5;rw[show aZ.D.B=aZ from P,L6];show k _ b5 (a1.trans a2) dF.aR (by show aL L b5 (.int _) _;rw[aL])
end
end a8.bD
section
namespace a8.QC
open PySem PySem.Spec PyProof.Rows
section
variable {prog:dn}{w:cV}{A:dH}{E:ay->aN->Prop}{s:aN}
open gp in
def aoc{lo hi:MB D}(ct:IsTup s.Q t Wf)(aK:s.heap.IsSliceOf cW jt ju .none)(cH:qq jt lo)(pu:qq ju hi)
  (hw:gp.d4 Wf.O 0 lo=0/\gp.d4 Wf.O Wf.O hi=Wf.O)
  (h:Q (.ref t) s):bj ZB A (qp (.ref t)<|.ref cW) Q E s:=by
 let(os,vh,rP,gS):=id aK;let IX:s.TypeIs (.ref cW) "slice":={(os),vh,rP}
 delta qp
 try with_reducible show ky ?_
 first|show a7 (bW ?_)|skip
 show a7<|wpAny_sequenceKey ct.typeIs Z1 ?_
 show a7 (uu (name:=VZ "__getitem__") ct.typeIs Ow
  (mr Ow ct.typeIs entry_tuple_getitem ?_<|args_tuple_getitem _ _))
 show bj _ _ (Builtin.Tuple.tupleItemsOf (.ref t) >>= _) _ _ s;show a7<|tupleItemsOf_ ct ?_;show a7<|sO IX ?_;rw[Y2 Z1];show a7<|gp.qbE aK cH pu ?_;let ag8:(((gp.d4 Wf.O 0 lo:Y):D)==0&&(1:D)==1&&(gp.d4 Wf.O Wf.O hi-gp.d4 Wf.O 0 lo)==Wf.O)=Y0:=by rw[hw.1,hw.2];simp
 show bj _ _ (if(((gp.d4 Wf.O 0 lo:Y):D)==0&&(1:D)==1&&(gp.d4 Wf.O Wf.O hi-gp.d4 Wf.O 0 lo)==Wf.O)=Y0 then _ else _) _ _ s;rw[Y2 ag8];show a7 ?_;delta Builtin.Tuple.tupleIsExact;show a7<|sO ct.typeIs<|bW ?_;rw[Y2 Z1]
 first
  |show a7<|kz<|a7<|bW {_,P,bW h}
  |show a7<|kz<|bW {_,P,bW h}
  |show a7<|kz<|bW<|bW {_,P,bW h}
end
end a8.QC
namespace a8
open PySem PySem.Spec PyProof.Rows
section
variable {X:bK}
def ahX(K:MN):V->MB D->MB D->aM->fC->Prop:=λx lo hi H Q=>∃a xs,x=.ref a/\e9 K H a xs/\(gp.d4 xs.H 0 lo=0/\gp.d4 xs.H xs.H hi=xs.H)/\Q x H
def alq:ts X<|ahX X.K:=by
 intro ah s U H x v jt ju lo hi cW Q I de aK cH pu h;let(a,xs,rfl,au,hw,q):=h
 ext de
 let(aZ,r,ct,hz):=I.tuple au;let el:aZ.D.O=xs.H:=by rw[fo];show r.length.symm
 show{"tuple",_,PyProof.Rows.slot_tuple_getitem.lookup,ct.typeIs,QC.aoc ct aK cH pu (by rw[el];show hw) {.ref a,H,I,P,q}}
end
end a8
namespace a8.bD
open PySem PySem.Spec PyProof.Rows
section
variable {X:bK}{L:MC}
def ajE{e:MG}{lo hi:MB MG}{cP pos:MK}{d:bS}{dl NM:zC}(h:bM X L e d)(az:zN X L lo dl)(bg:zN X L hi NM):bM X L (.Subscript e (.Slice lo hi C cP) pos)<|wy d dl NM:=by
 intro B S n t m n' hd ah s U H Q I ⟨R,k⟩;let((t0,m0,n0),aB,ax):=cE hd;let((l,aY),bq,cC):=cE ax;let((u,ck),fj,gF):=cE cC;show amq (akI.or<|ai1.or alq) (h B S n t0 m0 n0 aB) (az B S n0 l aY bq) (bg B S aY u ck fj) ah s U H Q I ⟨R,λv H1 bE dZ dB=>?_⟩;let bN:=R.mono bE dZ;show{bN,λb5 bR jT=>?_};let dF:=bN.mono bR jT;show{dF,λeR cy lj=>?_};let eh:=bR.trans cy;let ba:eQ X.K L eR t0 v:=eQ.ext bN.aR eh<|dB.root bN R.aR;let EO:=bE.trans eh
 induction t0 using T.casesOn with
 |aj xs =>
  ext gF
  let(a,ag,rfl,cB,dk):=ba;show .inl {a,ag,P,cB.gX,λp aC=>k _ _ (EO.trans<|.new aC) (lj.new aC) {p,P,EO.free lj aC,_,fH,?_}};delta p2 tX;rw[tH,tH,dk.H];show bV.take _<|bV.drop _<|bV.mono (.new aC) _ _ dk
 |aF xs =>
  ext gF
  let(a,ag,rfl,cB,dk):=kN ba;by_cases hw:bound xs.H 0 l=0/\bound xs.H xs.H u=xs.H
  .show .inr (.inr {a,ag,P,e9.of cB,?_,k _ _ EO lj<|rZ cB ?_})
   .rw[<-dk.H,<-tH,<-tH];show hw
   .delta p2;rw[hw.1,hw.2,Ce,zb,wU];show dk
  .show .inr (.inl {a,ag,P,e9.of cB,?_,λp aC=>k _ _ (EO.trans<|.new aC) (lj.new aC)<|rZ fH ?_})
   .rw[<-dk.H,<-tH,<-tH];show hw
   .delta p2 tX;rw[tH,tH,dk.H];show bV.take _<|bV.drop _<|bV.mono (.new aC) _ _ dk
 |_=>ext gF
def alr(aI:X.calm=Y0):fJ X L (λus=>call (.builtin "max") us) Ap:=by
 intro B ah s U H ag us aE n t m Q I bh ba aR e k
 induction aE using MQ with
 |nil=>ext e
 |cons dZ fe =>
  induction dZ using T.casesOn with
  |aj xs =>
   induction fe using MQ with
   |nil =>
    show ajC aI B ah s U H ag us [.aj xs] n t m Q I bh ba aR e k
   |cons _ _=>ext e
  |aF xs =>
   induction fe using MQ with
   |nil =>
    let bg:=I.ok.hd aI;let(ns,aB,ax):=cE (show(e5 xs).bind _=_ from e);let(i,bq,cC):=dR ax
    ext cC
    let(v,rfl,r):=i2 ba;let(u,rfl,fa):=bh.one;let au:=nA aB;subst au;let(h0,ao):=Qf bq;show call_max_walk (cm (AE (A':=X.A.in1) bg I r fa P) λit gC ⟨kC,fp,wr,V8,St,e,W,st,ov,eS,fin⟩=>?_);show{kC,fp,wr,_,V8,St,_,e,W,st,ov,by simpa using h0,CmpOf.ints_gt (λi=>ns.getD i 0) λi v bu=>vC<|eS i v bu,λf5 h' bz bu b3=>?_};let(tG,rfl):=vC<|eS _ _ bu;rw[bZ];show{.int i,H,fin h' bz b3,{tG,by rw[ao]},k _ H ZQ aR<|by show aL L H (.int i) _;rw[aL]}
   |cons _ _=>ext e
  |int a =>
   induction fe using MQ with
   |nil=>ext e
   |cons jT vA =>
    induction jT using T.casesOn with
    |int b =>
     induction vA using MQ with
     |nil =>
      ext e
      let(v,w,rfl,bx,cn):=l7 ba;obtain rfl:=i1 bx;obtain rfl:=i1 cn;show aaP aI ah s U H _ us Q I bh {a,b,P,k _ H ZQ aR<|by show aL L H (.int _) _;rw[aL]}
     |cons _ _=>ext e
    |_=>ext e
  |_=>ext e
def adh(h:∀x∈ns,-10000000000000<=x/\x<=10000000000000):-(10000000000000*(ns.H:D))<=bA ns/\bA ns<=10000000000000*(ns.H:D):=by
 induction ns with
 |nil=>simp[bA]
 |cons x xs aQ =>
  let:=aQ λy aJ=>h y<|cZ _ aJ;let:=h x cc;rw[bA,dv]
  push_cast
  lia
def am0{t:T}{xs:O T}{ns:O D}{ah:O Z2}{s:aN}{U:St}{H:aM}{v:V}{u:ay}{Q:fC}(bg:X.A.handled=C)(I:aT X ah U H s)(r:eQ X.K L H t v)(bh:cQ v u)(h:vB t=J xs)(au:xs=ns.map T.int)
  (az:ns.H<100000) (ao:∀x∈ns,-10000000000000<=x/\x<=10000000000000) (q:Q (.int<|bA ns) H):bj Z4 X.A (call (.builtin "sum") [u]) (gs X ah U Q) X.cL s:=by
 subst au;show call_sum_walk (cm (AE (A':=X.A.in1) bg I r bh h) λit gC ⟨kC,fp,wr,V8,St,e,W,st,ov,eS,fin⟩=>?_);show{kC,fp,wr,_,V8,St,λi=>ns.getD i 0,e,W,st,ov,λi v bu=>vC<|eS i v bu,λj bJ=>?_,λh' bz t' b3=>?_}
 .rw[bZ]at bJ;let ae:=ao (ns.getD j 0) (by rw[hY,gd bJ];show nP _);show InLong (ns.getD j 0)/\_;rw[Ek ns (j+1) bJ];let ai:=adh (ns:=ns.take<|j+1) λx au=>ao x<|wN au;let aS:((ns.take<|j+1).H:D)<=100000:=by rw[kZ];lia
  show{{(ce Z1 ae.1),(nW ae.2 Z1)},{by lia,by lia}}
 .rw[bZ,Ek ns ns.H<|b8 _,wU];show{.int _,H,fin h' bz b3,{(t'),P},q}
def als(aI:X.calm=Y0):fJ X L (λus=>call (.builtin "sum") us) pD:=by
 intro B ah s U H ag us aE n t m Q I bh ba aR e k;let bg:=I.ok.hd aI;let go:∀(t0:T) (xs:O T),aE=[t0]->vB t0=J xs->((e5 xs).bind λns=>if ns.H<100000/\(ns.all λx=>decide (x.natAbs<=10000000000000)) then J (T.int<|bA ns,a9.aa) else C)=J (t,m)->bj Z4 X.A (call (.builtin "sum") us) (gs X ah U Q) X.cL s:=λt0 xs rY hw bH=>by
  subst rY;let(ns,aB,ax):=cE bH;split at ax
  .rename_i ao
   ext ax
   let(v,rfl,r):=i2 ba;let(u,rfl,fa):=bh.one;show am0 bg I r fa hw (nA aB) ao.1 (λx au=>?_) (k _ H ZQ aR<|by show aL L H (.int _) _;rw[aL]);let:=iq.mp ao.2 x au;erw[Nd]at this;lia
  .ext ax
 induction aE using MQ with
 |nil=>ext e
 |cons dZ fe =>
  induction dZ using T.casesOn with
  |aF xs =>
   induction fe using MQ with
   |nil =>
    show go _ xs P P e
   |cons _ _=>ext e
  |aj xs =>
   induction fe using MQ with
   |nil =>
    show go _ xs P P e
   |cons _ _=>ext e
  |_=>ext e
end
def C8(V8:dn)(w:cV)(K:MN)(bf:ME->MB ay)(base:MJ)(lv:Y)(x:ME)(ps:O ME)(f:dV)(L:MC):Prop :=
 ∃(a:MC) (d:iD),kT V8 w K bf base jD lv a d ps (qN K L ps.H f)/\Binds K d ps []/\Nl K ZM=Y0/\bf x=J ZM
def am1{X:bK}{L:MC}{f:dV}{lv e3:Y}{ps:O ME}{x:ME}{p pos:MK}{e:MG}{es:O MG}{a:jS}(G:C8 X.R X.w X.K X.bf X.e lv x ps f L)(a4:fs lv X.A)(bl:SB X L (e::es) a)(bI:MD (ps.H=e3) rc)(bL:MD (fP X x) rc)(f9:MD ZF eY)
  (he:MD Zb rc) (fN:MD ((gM pos<|cA es X.I).any (·.1)=Y1) rc):bM X L (.Call (.Name x p) (e::es) [] pos)<|cD e3 f a:=by
 let(e6,fd,F,ao,aW,hm):=G;subst bI;show akT F a4 hm aW ao bl bL f9 he fN
end a8.bD
end
namespace a8.bD
open PySem PySem.Spec PyProof.Rows
variable {X:bK}{L:MC}
def EP:ee:=λ_ aE=>match aE with
 |[.aj xs,y]=>if j1 y=Y0/\xs.all j1=Y0/\xs.H<=bp then(xs.findIdx? λx=>d1 x y).map λ(j:Y)=>(.int j,.aa) else C
 |_=>C
def adi{n:Y}(h:EP n [to,te]=J (t,m)):∃xs j,to=.aj xs/\j1 te=Y0/\xs.all j1=Y0/\xs.H<=bp/\(xs.findIdx? λx=>d1 x te)=J j/\t=.int (j:Y)/\m=.aa:=by
 induction to using T.casesOn with
 |aj xs =>
  let h:(if j1 te=Y0/\xs.all j1=Y0/\xs.H<=bp then(xs.findIdx? λx=>d1 x te).map λ(j:Y)=>(T.int j,a9.aa) else C)=J (t,m):=h;split at h
  .rename_i q;let(j,ae,ai):=dR h
   ext ai
   show{(xs),j,P,q.1,q.2.1,q.2.2,ae,P,P}
  .ext h
 |_=>ext h
def alu{us:O ay}{xs:O T}{j:Y}(h:us.map (og z)=xs.map λx=>d1 x y)(bJ:(xs.findIdx? λx=>d1 x y)=J j) :
  ∃az:j<us.H,og z us[j]=Y0/\∀m (hm:m<us.H),m<j->og z us[m]=Y1:=by
 let el:us.H=xs.H:=by let:=M1 List.H h;simpa using this
 let Wt:∀m (ae:m<us.H) (ai:m<xs.H),og z us[m]=d1 xs[m] y:=λm ae ai=>by let:=M1 (λl=>l[m]?) h;erw[hO,gd ae,gd ai,nU]at this;show MV this
 let(au,aB,ax):=BZ.mp bJ;let bP:j<us.H:=(dX au<|dy el.symm)
 show{bP,by rw[Wt j bP au];show aB,λm hm QD=>?_};let r4:m<xs.H:=(gr (ei QD) au)
 rw[Wt m hm r4];let:=ax m QD;simpa using this
def am2{o e:MG}{eG jz:bS}{apos d3:MK}(aX:bM X L o eG)(he:bM X L e jz)(m:HV X o "index" apos e d3):bM X L (.Call (.Attribute o "index" apos) [e] [] d3)<|aD EP<|af eG<|af jz aw:=by
 intro B S n t jx n' hd ah s U H Q I ⟨R,k⟩;let(to,mo,no,te,CZ,f1,g1,bq):=Jj hd;let(xs,j,rfl,aJ,au,hz,bJ,rfl,rfl):=adi (n:=_) (to:=to) (te:=te) bq;show CB m.e m.lC m.line PySem.F.plainAttrs_list PySem.F.slot_list_index PySem.F.type_list_index (cm (aX.run f1 I R) λu s1 ⟨v,H1,bt,bx,a1,bN,cb⟩=>?_);let(a,f6,rfl,cB,dk):=cb.root bN R.aR
 ext bx
 let(aZ,pI,(ek,adg,kn,AF,vF,_),_):=bt.list cB.gX;show{{(ek),kn,AF},λb e=>?_,?_}
 .ext e;show{(ek),kn,vF}
 .rw[m.trees];show ur P<|w6<|kc (cm (he.run g1 bt bN) λh1 s2 ⟨y,b5,di,eF,a2,dF,d9⟩=>nY ?_);let ba:=QB aJ<|d9.root dF bN.aR;let AG:=cB.ext a2;let A0:=bV.mono (a2.cq bN.aR) _ _ dk;let(aZ,nz,((cls,dd,data,cW),nn,aX,aI,hd,kp),_):=di.list AG.gX;simp only at aI kp
  subst aI kp
  let(az,hit,IY):=alu (Kb aJ ba au A0 nz) bJ;let adj:(j:D)<2^63-1:=by let ae:=(BZ.mp bJ).1;let dJ:bp=1000000:=rfl;omega
  show qm PySem.F.slot_list_index {_,aX,P} PySem.F.entry_list_index (PySem.F.args_list_index_2 _ _) (PySem.SeqAt.list_indexAt a aZ.D nn dd cW h1 (og y) j (by simpa using az) adj (by simpa using hit) λm hm h=>by simpa using IY m (by simpa using hm) h) {aX,λw hw=>IZ eF (EN aJ ba) nz (Ka au A0) w (by simpa using hw),?_};show{.int _,b5,di.tok _,{_,P},k _ b5 (a1.trans a2) dF.aR<|by show aL L b5 (.int _) _;rw[aL]}
section
variable {X:bK}{L:MC}
def QE{K:MN}{ak:aM}{t0:T}{v:V}(ba:eQ K L ak t0 v):decide (v=.b0)=Ak t0:=by
 induction t0 using T.casesOn with
 |b0=>let ba:aL L ak .b0 v:=ba;rw[aL]at ba;subst ba;rfl
 |aU b=>let ba:aL L ak (.aU b) v:=ba;rw[aL]at ba;subst ba;rfl
 |int b=>let ba:aL L ak (.int b) v:=ba;rw[aL]at ba;subst ba;rfl
 |str b=>let ba:aL L ak (.str b) v:=ba;rw[aL]at ba;subst ba;rfl
 |aF b=>let ba:aL L ak (.aF b) v:=ba;rw[aL]at ba;let(_,_,rfl,_):=ba;rfl
 |fE=>let ba:aL L ak .fE v:=ba;rw[aL]at ba;subst ba;rfl
 |cx b=>let ba:aL L ak (.cx b) v:=ba;rw[aL]at ba;subst ba;rfl
 |aj b=>let(_,_,rfl,_):=ba;rfl
 |a3 b=>let(_,_,rfl,_):=ba;rfl
 |eN b=>let(_,_,rfl,_):=ba;rfl
def ajF{e:MG}{d:bS}{j pos pos'}(h:bM X L e d):ST X L (.Compare e [.Is] [.Constant .none j pos'] pos)<|cG<|aD BO<|af d aw:=by
 intro B S n b n' hd ah s U H Q I ⟨R,k⟩;let((t,m,jr),gu,iV):=cE hd;let((aE,aY),aB,ax):=cE gu;let((t0,m0,n0),f1,f2):=cE aB
 ext f2
 ext ax
 ext iV
 show qbf (aiK<|h B S n t0 m0 _ f1) (by rfl) ah s U H Q I ⟨R,λv ak x y z=>{_,P,?_}⟩;rw[QE<|z.root (R.mono x y) R.aR];show k ak x y
def adk{e:MG}{d:bS}{j pos pos'}(h:bM X L e d):ST X L (.Compare e [.IsNot] [.Constant .none j pos'] pos)<|cG<|aD Al<|af d aw:=by
 intro B S n b n' hd ah s U H Q I ⟨R,k⟩;let((t,m,jr),gu,iV):=cE hd;let((aE,aY),aB,ax):=cE gu;let((t0,m0,n0),f1,f2):=cE aB
 ext f2
 ext ax
 ext iV
 show qbf (akw<|h B S n t0 m0 _ f1) (by rfl) ah s U H Q I ⟨R,λv ak x y z=>{_,P,?_}⟩;rw[QE<|z.root (R.mono x y) R.aR];show k ak x y
end
end a8.bD
namespace a8.bF
open PySem PySem.Spec PyProof.Rows
section
variable {prog:dn}{w:cV}{A:dH}{E:ay->aN->Prop}{s:aN}
def alv{i:Y}(hit:xb s.Q it t i)(ct:IsTup s.Q t Wf)(au:Wf[i]?=J x)
  (hQ:∀h',xb h' it t (i+1)->Ni it s.Q h'->Q x { s with heap:=h'}):bj (bo prog w) A (OA (.ref it)) Q E s:=by
 let(o,aX,aI,hd):=id hit;let(ol,qT,_,nl,yk):=ct;delta OA;show a7<|uu (name:=VZ "__next__") hit.typeIs CO<|mr CO hit.typeIs entry_tupleiter_next ?_<|args_tupleiter_next _;show bj _ _ (field (.ref it) 0 >>= _) _ _ s;show a7<|uz aX hd (x:=.ref t) P ?_;show bj _ _ (if(M3 t==M9)=Y0 then _ else _) _ _ s;rw[Y3 (show ¬ ((M3 t==M9)=Y0) from nV)];show bj _ _ (field (.ref it) 1 >>= _) _ _ s;show a7<|uz aX hd (x:=.int i 0) P ?_;show bj _ _ (seqItems? (.ref t) >>= _) _ _ s;show a7<|zm qT yk ?_;erw[nX,au];show a7<|ql aX hd Z5<|bW {x,P,bW<|hQ _ ?_<|Np ..};show{_,qk _ aX<|Obj.isFreed_of_fields<|Obj.data_mapFields hd _,(Obj.cls_mapFields ..).trans aI,by rw[Obj.data_mapFields hd];simp[gf]}
def ajG{i:Y}(bg:A.handled=C)(hit:xb s.Q it t i)(ct:IsTup s.Q t Wf)(au:Wf[i]?=C)
  (u3:∀h' e,Heap.ExtBut it s.Q h'->(∃o,h'.get? e=J o/\o.cls=.type "StopIteration")->E (.ref e) { s with heap:=h'}):bj (bo prog w) A (OA (.ref it)) Q E s:=by
 let(o,aX,aI,hd):=id hit;let(ol,qT,_,nl,yk):=ct;delta OA;show a7<|uu (name:=VZ "__next__") hit.typeIs CO<|mr CO hit.typeIs entry_tupleiter_next ?_<|args_tupleiter_next _;show bj _ _ (field (.ref it) 0 >>= _) _ _ s;show a7<|uz aX hd (x:=.ref t) P ?_;show bj _ _ (if(M3 t==M9)=Y0 then _ else _) _ _ s;rw[Y3 (show ¬ ((M3 t==M9)=Y0) from nV)];show bj _ _ (field (.ref it) 1 >>= _) _ _ s;show a7<|uz aX hd (x:=.int i 0) P ?_;show bj _ _ (seqItems? (.ref t) >>= _) _ _ s;show a7<|zm qT yk ?_;erw[nX,au];show a7<|kz<|a7<|ql aX hd Z5 ?_;show bj _ _ (newExc (.type "StopIteration") [] >>= _) _ _ _;show a7 ?_;erw[newExc,newTuple];show a7 (mq ?_<|by size_fits);show a7 (m:=CJ _ _)<|zq (a:=M9) (by first|rfl|(erw[CJ];rfl)) ?_;show mq ?_ (by size_fits);erw[raiseNew];show a7<|wpAny_handled ?_
 first|rw[show A.in1.handled=C from bg]|rw[bg]
 show a7<|bW<|wpAny_throw ?_;show u3 _ _ (((Np ..).extBut.push _).push _) {_,fZ _ P,P}
end
def draws(bg:A.handled=C)(it t:MC)(pP:t≠it)(Wf:MH ay) :
  Draws prog w A it [it,t] Wf.O (λi v=>Wf[i]?=J v) (λi h=>xb h it t i/\IsTup h t Wf) where
 live:=λ_ _ st=>let ⟨o,aX,_⟩:=st.1;{(o),aX}
 frame:=λ_ _ _ st aW=>{let ⟨o,aX,r⟩:=st.1;{o,aW it Z5 o aX,r},let ⟨o,aX,r⟩:=st.2;{o,aW t Z5 o aX,r}}
 item:=λi s Q E hi st hQ=>alv st.1 st.2 (x:=Wf[i]) (by simp[hi]) λh' ag9 kL=>hQ _ h' s.toks (by simp[hi]) {ag9,st.2.extBut kL.extBut pP} kL
 done:=λs Q E st u3=>ajG bg st.1 st.2 Z5 u3
def adl(t:MC)(Wf:MH ay) :
  Meets (Builtin.«enumerate.__new__» {[.type "enumerate",.ref t],[]}) (λ_ R s=>IsTup s.Q t Wf /\
   R (.ok<|.ret<|.ref<|s.L+1) { s with heap:=(s.heap.push { cls:=.type "tuple_iterator",data:=.fields #[.ref t,.int 0 0]}).push { cls:=.type "enumerate",data:=.fields #[.none,.bool Y1,.ref s.L,gf 0,.none,.none]}}) :=
 .of_wp λprog w A R s h=>by
  let(aC,g,d,bz,os):=s;let(ct,h):=h;let Uw:=sub_enumerate;let gP:=ct;let(o,aX,aI,n,hd):=ct;let hz:(aC.push { cls:=.type "tuple_iterator",data:=.fields #[.ref t,.int 0 0]}).E.O=aC.E.O+1:=lS ..;let(cls,ab3,data,cW):=o;let aI:cls=.type "tuple":=aI;let hd:data=.seq Wf n:=hd;subst aI hd;let Kd:IsTup (Shared.heap {(aC),g,d,bz,os}) t Wf:=gP;rw[<-hz]at h
  wp_walk using AutoSeq1.wpAny_loadPart' aX
  show wpAny_stack_any λst=>bW ?_;split
  .rename_i c _ _ _ _ _;cases (c==lf "enumerate")
   .wp_walk using AutoSeq1.wpAny_loadPart' aX,iter_tuple Kd
    show{_,P,h}
   .wp_walk using AutoSeq1.wpAny_loadPart' aX,iter_tuple Kd
    show{_,P,h}
  .wp_walk using AutoSeq1.wpAny_loadPart' aX,iter_tuple Kd
   show{_,P,h}
end a8.bF
section
namespace a8.bF
open PySem PySem.Spec PyProof.Rows
section
variable {prog:dn}{w:cV}{A:dH}{E:ay->aN->Prop}{s:aN}
def an1(ct:IsTup s.Q t Wf)
  (h:∀h',IsEnum h' (s.L+1) s.L 0 .none->xb h' s.L t 0->(∀b o,s.heap.get? b=J o->h'.get? b=J o)->Q (.ref<|s.L+1) { s with heap:=h'}):bj (bo prog w) A (call (.type "enumerate") [.ref t]) Q E s:=by
 show callType_new F.called_enumerate Z1 (F.typeCall_enumerate_1 _) (F.newCall_enumerate_1 _) (λobj=>F.args_object_init_2 obj _) F.entry_enumerate_new (adl t Wf) {ct,?_};let hz:(s.heap.push { cls:=.type "tuple_iterator",data:=.fields #[.ref t,.int 0 0]}).E.O=s.L+1:=lS ..;let he:IsEnum ((s.heap.push { cls:=.type "tuple_iterator",data:=.fields #[.ref t,.int 0 0]}).push { cls:=.type "enumerate",data:=.fields #[.none,.bool Y1,.ref s.L,gf 0,.none,.none]}) (s.L+1) s.L 0 .none:=by let:=fZ (s.heap.push { cls:=.type "tuple_iterator",data:=.fields #[.ref t,.int 0 0]}) (o:={ cls:=.type "enumerate",data:=.fields #[.none,.bool Y1,.ref s.L,gf 0,.none,.none]}) P;rw[hz]at this;show this
 show{{_,he,P},h _ he ⟨_,ec _<|fZ _ P,P,P⟩ λb o x=>ec _<|ec _ x}
end
end a8.bF
namespace a8.bD
open PySem PySem.Spec PyProof.Rows
def _root_.a8.aT.alw{X:bK}{ah:O Z2}{U:St}{H:aM}{s:aN}{h':MJ}{t':Y}{fp:O MC}(I:aT X ah U H s)(k:∀b o,b∉fp->s.heap.get? b=J o->h'.get? b=J o)(hf:∀b∈fp,p0 X ah H b):aT X ah U H { s with heap:=h',toks:=t'}:=by
 let IC:∀b u,H b=J u->b∉fp:=λb u e z=>by rw[(hf b z).1]at e;ext e
 show I.step (g':=s.gens) (d':=s.drawn) (ch:=fp) (λb ao=>?_) (λb o _ _ aI e _=>k b o aI e) (λb o _ _ aI e _=>{o.slots,k b o aI e}) (λ_ _ _ _ n=>n)
  (λb o aI e=>{o,k b o aI e}) (λ_ _ e=>e) (λ_ _ _ e=>e) (λm hm=>?_) (λb u e=>?_) I.dx
 .let(_,f1,_,et,f4,hF):=hf b ao;show{(et),f1,f4,hF}
 .let(o,es,ep,aX,r):=hm;show{o,es,ep,k _ o (λz=>(hf _ z).2.1 P) aX,r}
 .show(I.bX b u e).mc (λv q=>k b v (IC b u e) q) λ_ _ q=>q
noncomputable def QF(K:MN)(a:MC)(m:Y):k9:={λi H=>∃xs x,e9 K H a xs/\xs.H=m/\xs[i]?=J x,λi H x ak=>∃p v,H p=C/\x=.ref p/\ak=c3 H p (.aF [.int i,v])/\∀aO,e9 K H a aO->aO[i]?=J v,λi H=>∃xs,e9 K H a xs/\xs.H=m/\m<=i}
def adm{V8:dn}{w:cV}{K:MN}{elts:O MG}{bE}{tp:MK}(a e it:MC)(m:Y)(Ke:e≠it)(adn:a≠e)(QG:a≠it) :
  Turn V8 w K (.Tuple elts bE tp) (QF K a m) [e,it] e (λi h=>i<=m/\(∃old,IsEnum h e it (i:Y) old)/\xb h it a i) where
 mem:=by simp
 obj:=λi h st b ao=>by
  let(_,(old,he),o,aX,aI,hd):=st;rcases cF.mp ao with rfl|ao
  .show⟨_,he,λv z=>by ext z⟩
  .let:=gK.mp ao;subst this;show⟨o,aX,λv z=>by rw[hd]at z;ext z⟩
 keep:=λi h h' st k=>by let(hi,(old,he),o,aX,r):=st;show{hi,{old,k e Z5 _ he},o,k it Z5 o aX,r}
 item:=by
  intro X eS hw iG aI i ah s U H E I hf st bL;subst eS hw iG;let(xs,x,bc,az,au):=bL;let(aZ,bh,p,hz):=I.tuple bc;let(u,bP,fa):=bh.get au;let(hi,(old,he),hit):=st;let dN:i<aZ.D.O:=by let:=(kY.mp bP).1;simpa using this
  show wpAny_pyNext_enum_itemD (bF.draws (A:=X.A.in1) (show X.A.in1.handled=C from I.ok.hd aI) it a QG aZ.D) he {(hit),p} dN Ke (by simp[Ke,adn.symm]) λbR h' bz eS aX kL gP hsz aW=>?_;let EK:bR=u:=by
   let eS:aZ.D[i]?=J bR:=eS;rw[List.getElem?_toArray,bP]at eS
   ext eS
   rfl
  subst EK;show{_,P,wpAny_letOwnedTupleGo_enum aX λai lI kl=>?_};let kl:Ni e h' ai:=kl;let vu:H s.L=C:=I.bX.fresh<|b8 _;let elt:e<s.L:=ed he;let QH:it<s.L:=by let(_,q,_):=hit;show ed q
  let bt:aT X ah U (c3 H s.L<|.aF [.int i,x]) { s with heap:=s.heap.push { cls:=.type "tuple",data:=.seq #[.int i bz,bR]},toks:=bz+1} :=
   I.laid (t':=bz+1) (λb o e=>ec _ e) (b8 _) {by show 2<=dq;decide,[.int i bz,bR],.cons {(bz),P}<|.cons fa .nil,ni.new _ _}
  let di:=bt.alw (fp:=[e,it]) (h':=ai) (t':=bz+1) (λb o ao q=>?_) λb ao=>?_
  .show{.ref s.L,_,di,P,{s.L,x,vu,P,P,λaO aJ=>by rw[I.qbg aJ bc];show au},{?_,{bR,by simpa using lI},?_},λb ao=>?_}
   .let:=(kY.mp au).1;show bw this<|dy az
   .let(o,q,r):=kL.1;show{o,kl.extBut _ _ (M4 Ke) q,r}
   .let bI:=(hf b ao).1;let nb:b≠s.L:=by
     rcases cF.mp ao with rfl|ao
     .show eP elt
     .let:=gK.mp ao;subst this;show eP QH
    rw[ew nb];show bI
  .let bO:b≠e:=λz=>ao (by simp[z]);let b6:b≠it:=λz=>ao (by simp[z]);by_cases z:b=s.L
   .subst z;rw[fZ _ P]at q
    ext q
    show kl.extBut _ _ bO gP
   .let ej:s.heap.get? b=J o:=by let:=q;rw[zc _ _ _ z]at this;show this
    show kl.extBut _ _ bO<|aW b o bO b6 ej
  .let(f0,f1,f2,et,f4,hF):=hf b ao;let nb:b≠s.L:=by
    rcases cF.mp ao with rfl|ao
    .show eP elt
    .let:=gK.mp ao;subst this;show eP QH
   show{by rw[ew nb];show f0,f1,f2,et,f4,hF}
 done:=by
  intro X eS hw iG aI i ah s U H E I hf st bL;subst eS hw iG;let(xs,bc,az,bL):=bL;let(aZ,bh,p,hz):=I.tuple bc;let(hi,(old,he),hit):=st;let bI:i=aZ.D.O:=by let:=bh.H;rw[fo];omega
  subst bI;let(f0,f1,f2,et,f4,hF):=hf it Z5;show wpAny_pyNext_enum_endD (bF.draws (A:=X.A.in1) (show X.A.in1.handled=C from I.ok.hd aI) it a QG aZ.D) he {(hit),p} λh' iT=>{P,I.turned (t':=s.toks) (λb o ao e=>iT b o ao e) f0 f1 et f4 hF}
 self:=λ_ _ _ _ _ st h=>let ⟨_,⟨_,he⟩,_⟩:=st;wpAny_pyIter_enum he h
section
variable {X:bK}{L:MC}
def am3{i:Y}(e:(qM xs)[i]?=J t):∃x,xs[i]?=J x/\t=.aF [.int i,x]:=by delta qM at e;rw[hO,List.getElem?_zipIdx,Option.map_map]at e;let(x,au,e):=Option.map_eq_some_iff.mp e;show{x,au,?_};rw[<-e];show T.aF [.int ((0+i:Y):D),x]=_;rw[wZ]
def ado(xs:O T):(qM xs).H=xs.H:=by delta qM;rw[bZ,qaB]
def alx{K:MN}{H:aM}{a:MC}{xs:O T}{ag:O V}(h:H a=J (.aF ag))(r:bV L H xs ag):q5 L (QF K a xs.H) H<|qM xs:=λi=>by
 let az:=r.H;show{λt e=>?_,λhi=>{ag,e9.of h,az.symm,by rw[ado]at hi;show hi}};let(x,au,rfl):=am3 e;let(v,bu,bh):=r.get au;show{{ag,v,e9.of h,az.symm,bu},λx b5 y=>?_};let(p,u,aC,rfl,rfl,y):=y;let:=y ag<|e9.of h;rw[bu]at this
 ext this
 show{.new aC,λn aR=>aR.new aC,?_};rw[aL];show⟨p,_,P,fH,.cons (by rw[aL])<|.cons (aL.mono ?_ _ _ bh) .nil⟩;show λb=>{λws e=>by rw[ew<|rL e aC];show e,λo u e=>by rw[ew<|rL e aC];show e}
def aly{elts:O MG}{bE}{tp:MK}{pos p:MK}{a:MG}{d:bS}(bl:bM X L a d)(hm:X.bf "enumerate" = C)(bL:MD (fP X "enumerate") rc)(aK:MD (cA [a] X.I=(Y1,MO a X.I)::cA [] X.I) rc)(kl:MD ((gM pos<|cA [] X.I).any (·.1)=Y1) rc) :
  rW X L (.Tuple elts bE tp) (.Call (.Name "enumerate" p) [a] [] pos) (Jb d):=by
 intro B S n aE n' hd ah s U H R I ⟨kg,k⟩;let((t0,m0,aY),aB,ax):=cE hd;have⟨xs,eU,rY,uQ⟩:∃xs,t0=.aF xs/\aE=qM xs/\n'=aY:=by
  induction t0 using T.casesOn with
  |aF xs=>ext ax;show{(xs),P,P,P}
  |_=>ext ax
 subst eU rY uQ;let dw:pd X L [a]<|af d aw:=Pa bl Vp aK;let bq:af d aw S n=J ([.aF xs],n'):=by delta af;rw[aB];rfl
 show Call_<|nq I bL hm boot_enumerate<|Uk (cm (dw.run bq pos I kg) λus s1 ⟨ag,H1,bt,bx,a1,bN,cb⟩=>?_) aK kl;let(v,rfl,r):=i2 cb;let(u,rfl,fa):=bx.one;let(ad,f6,rfl,cB,dk):=kN r
 ext fa
 let(aZ,bh,ct,hz):=bt.tuple<|e9.of (K:=X.K) cB;let dN:ad<s1.L:=by let(_,q,_):=ct;show ed q
 show bF.an1 ct λh' he hit aW=>?_;let di:aT X ah U H1 { s1 with heap:=h'}:=bt.kept (t':=s1.toks) aW;show wpAny_pyIter_enum he ?_;show{s1.L+1,[s1.L+1,s1.L],_,_,H1,P,di,adm ad (s1.L+1) s1.L xs.H (Nat.succ_ne_self _) (eP<|m2 dN)<|eP dN,⟨fY _,⟨_,he⟩,hit⟩,λb ao=>?_,k _ H1 a1 bN.aR λb5 ck dz bR=>alx (bR.to ad _ cB<|bN.aR.GK cB)<|bV.mono (bR.cq bN.aR) _ _ dk};let ao:s1.L<=b:=by
  rcases cF.mp ao with rfl|ao
  .show ia _ _
  .let:=gK.mp ao;show dy this.symm
 show bt.yK ao<|bt.bX.fresh ao
end
end a8.bD
end
namespace a8.bD
open PySem PySem.Spec PyProof.Rows a8.Tm
def adp(n m:D)(a b:O D):er (n::a) (m::b)=if n==m then er a b else decide (n<m):=by rw[er]
def kV(h:MJ)(v:ay)(l:O D):Prop:=∃a o xs n,v=.ref a/\h.get? a=J o/\o.cls=.type "tuple" /\ o.Y=.seq xs n/\gN xs.B l
def kV.e0(t:kV h v l):hV h v=l:=by
 let(a,o,xs,n,rfl,aX,aI,hd,hi):=t
 show(match h.get? a with
  |some o=>match o.Y with
   |.seq xs _=>xs.toList.filterMap intOf?
   |_=>[]
  |none=>[])=l
 rw[aX]
 show(match o.Y with
   |.seq xs _=>xs.toList.filterMap intOf?
   |_=>[])=l
 rw[hd];show JR hi
def kV.mono(k:∀b o,h.get? b=J o->h'.get? b=J o)(t:kV h v l):kV h' v l:=by let(a,o,xs,n,r,aX,q):=t;show{a,o,xs,n,r,k a o aX,q}
theorem QI:∀{us:O ay} {l:O D},gN us l->ItemsAre (gL prog w) l us
 |_,_,.nil=>.nil
 |_,_,.cons n t h=>.cons (show UI n (.int n t)=Y0 from by simp[UI])<|QI h
def kV.key(t:kV h ZM l):w8 (gL prog w) h l a:=by
 let(gg,o,xs,n,e,aX,aI,hd,hi):=t
 ext e
 show{o,xs,n,aX,aI,hd,QI hi}
section
variable {prog:dn}{w:cV}{A:dH}{E:ay->aN->Prop}{s:aN}
def alz{Q:MF->aN->Prop}(bP:A.units<fA)(au:kV s.Q x l)(aJ:kV s.Q y k)(q:Q (decide (l=k)) s):bj ZB A (eqBool x y) Q E s:=by let(a,o,xs,n,rfl,r):=id au;let(b,dc,aO,n',rfl,bU):=id aJ;show wpAny_eqBool_tuple bP au.key aJ.key q
def adq(au:kV s.Q ZM x)(aJ:kV s.Q (.ref b) y)(h:V8 (.done<|.ret<|.bool<|er x y) s) :
  bj ZB A (Builtin.«tuple.__lt__» {[.ref a,.ref b],[]}) V8 E s:=by
 let ads:=(aJ.key (prog:=prog) (w:=w)).typeIs;let(_,aon,xs,na,aB,adt,_,adu,adv):=au
 ext aB
 let(_,cx,aO,nb,ax,ox,_,f9,adw):=aJ
 ext ax
 show bj _ _ (isInstance (.ref b) (.type "tuple") >>= _) _ _ s;show a7<|uw ads isSubtype_tuple_tuple ?_;erw[Hp,iB,MU];show a7<|HA adt adu ?_;show a7<|HA ox f9 ?_;show a7 ?_;show HF _
  (λrest r s'=>r.1=C/\s'=s/\∃uU xo i4 A1,rest=List.zip i4 A1/\gN i4 uU/\gN A1 xo/\er uU xo=er x y/\(decide (i4.H<A1.H))=decide (xs.O<aO.O))
  _ ?_ ?_ _ _ {P,P,x,y,xs.B,aO.B,P,adv,adw,P,by simp}
 .rintro⟨u,v⟩ rest r s' ⟨a4,rfl,uU,xo,i4,A1,hz,ff,vI,sr,el⟩;cases ff with
  |nil=>simp at hz
  |cons n t aha =>
   cases vI with
   |nil=>simp at hz
   |cons m t' ahb =>
    erw[qaC,List.cons.injEq,Prod.mk.injEq]at hz;let((rfl,rfl),rfl):=hz;show a7<|HD ?_;rw[adp]at sr;by_cases aW:n=m
    .subst aW;rw[Nq]at sr |-;erw[Hp,iB,MU];show bW {P,P,_,_,_,_,P,aha,ahb,by simpa using sr,by simpa using el}
    .let bH:(n==m)=Y1:=by simpa using aW
     rw[bH]at sr |-;erw[Bool.not_false,MR];let sr:decide (n<m)=er x y:=by simpa using sr
     show a7<|kz ?_;show a7<|wpAny_lt_int ?_;rw[sr];show bW<|bW h
 .rintro⟨bx,cn⟩ s' ⟨a4,rfl,uU,xo,i4,A1,hz,ff,vI,sr,el⟩;simp only at a4;subst a4;show bW ?_;let ahc:decide (xs.O<aO.O)=er x y:=by
   rw[<-sr,<-el];cases ff with
   |nil =>
    cases vI with
    |nil=>rfl
    |cons _ _ _=>rfl
   |cons _ _ _ =>
    cases vI with
    |nil=>rfl
    |cons _ _ _=>simp at hz
  show V8 (.done<|.ret<|.bool<|decide (xs.O<aO.O)) s';rw[ahc];show h
def alA(bP:A.units<fA)(au:kV s.Q x l)(aJ:kV s.Q y k)(q:Q (.bool<|er l k) s):bj ZB A (hn .Lt x y) Q E s:=by
 let(a,o,xs,n,rfl,r):=id au;let(b,dc,aO,n',rfl,bU):=id aJ;let rr:=(au.key (prog:=prog) (w:=w)).typeIs;let ty:=(aJ.key (prog:=prog) (w:=w)).typeIs;show wpAny_richCompare_same_room (op:=.Lt) rr ty F.slot_tuple_lt
  (mr F.slot_tuple_lt rr F.entry_tuple_lt (adq au aJ {_,P,(λe=>nomatch e),q})<|F.args_tuple_lt_2 _ _) bP
end
def Kf(prog:dn)(w:cV)(h:MJ)(ag:O ay)(rk:b1->Y):Prop :=
 2<=ag.H->∃κ,∀(A:dH) (E:ay->aN->Prop) (s:aN),A.units<fA->(∀b o,h.get? b=J o->s.heap.get? b=J o) ->
  bj ZB A (keyKind' ag.D) (λk s'=>k=κ/\s'=s) E s/\nJ prog w A E s κ (Nb ag) rk
def Kf.at(x:Kf prog w h ag rk)(dw:A.units<fA):EC prog w A E h ag rk:=λai=>let ⟨κ,k⟩:=x ai;{κ,λs=>k A E s dw}
def adx(e0:ag.map kf=ls)(p:xs.Perm<|Nb ag)(xy:gj (λx=>rank ls<|kf x.1) xs 0 ag.H) :
  (xs.map (·.2)).toList.Perm ag/\(xs.map (·.2)).toList.map kf=hS ls:=by
 let az:xs.toList.Perm<|ag.zip ag:=by rw[<-HP];show Hm.mp p
 let cP:(xs.map (·.2)).toList.Perm ag:=by let:=az.map (·.2);rw[qaM<|b8 _]at this;rw[qa3];show this
 show{cP,?_};let kh:=cP.map kf;rw[e0]at kh;show DW kh ?_;let hsz:xs.O=ag.H:=by rw[p.size_eq,pairsOf_size]
 let oK:∀x,x∈xs->x.1∈ag/\x.2=x.1:=λx au=>tN<|p.mem_iff.mp au;rw[B3];intro i j hi bJ jf;let gq:i<xs.O:=by simpa using hi
 let nD:j<xs.O:=by simpa using bJ
 let q:=xy i j (fY _) (ei jf)<|dX nD<|dy hsz;rw[hg gq,hg nD]at q;let df:=oK _<|jl gq;let fR:=oK _<|jl nD;let aB:((xs.map (·.2)).toList.map kf)[i]=kf xs[i].1:=by simp[df.2]
 let ax:((xs.map (·.2)).toList.map kf)[j]=kf xs[j].1:=by simp[fR.2]
 show er _ _=Y1;rw[aB,ax,<-Ao (nss:=ls) (by rw[<-e0];show hZ fR.1)];simpa using q
def ady{kf:ay->O D}{mk:O D->T}{us out:O ay}{ls:O Z0}(bh:cR ag us)(r:bV L H (ls.map mk) ag)(e0:us.map kf=ls)(p:out.Perm us):∃ws,cR ws out/\bV L H ((out.map kf).map mk) ws:=by
 let all:∀{ls:O Z0} {ag:O V} {us:O ay},cR ag us->bV L H (ls.map mk) ag->us.map kf=ls->∀u∈us,∃v,cQ v u/\aL L H (mk<|kf u) v:=by
  intro ls ag us bh
  induction bh generalizing ls with
  |nil=>intro _ _ u bP;simp at bP
  |cons bx cn aQ =>
   rename_i v u ag us;intro kB iI ft bP;subst iI;rw[cj,cj]at kB;let(f5,w,e,c5,cP):=hT kB;cases e;rcases cF.mp bP with rfl|bP
   .show{(v),bx,c5}
   .show aQ cP P ft bP
 let wo:=all bh r e0;show vE Z5 λi u e=>?_;let(v,aV,bb):=wo u<|p.mem_iff.mp<|B5 e;show{v,mk<|kf u,aV,by simp[e],bb}
end a8.bD
namespace a8.bD
open PySem PySem.Spec
def jA(h h':MJ):Prop:=∀(b:Y) (o:MT),h.E[b]?=J o->∃dc:MT,h'.E[b]?=J dc/\dc.dict=o.dict
def jA.refl(h:MJ):jA h h:=λ_ o e=>{(o),e,P}
theorem jA.trans(a:jA h ae)(b:jA ae ai):jA h ai:=λx o e=>by let(ek,aB,gu):=a x o e;let(gx,ax,iV):=b x ek aB;show{gx,ax,iV.trans gu}
theorem jA.push(h:MJ)(o:MT):jA h<|h.push o:=λb p e=>by let(objs,l):=h;show{p,?_,P};show(objs.push o)[b]?=_;let ao:b<objs.O:=(Array.getElem?_eq_some_iff.mp e).1;rw[Array.getElem?_push_lt ao];show(sH ao).symm.trans e
theorem jA.update(h:MJ)(a:MC)(f:MT->MT)(hf:∀o,(f o).dict=o.dict):jA h<|h.update a f:=λb p e=>by
 let(objs,l):=h;show ∃dc,(objs.modify a f)[b]?=J dc/\_;rw[Array.getElem?_modify];let e:objs[b]?=J p:=e;rw[e];by_cases z:a=b
 .rw[Y2 z];show{f p,P,hf p}
 .rw[Y3 z];show{(p),P,P}
theorem jA.get(x:jA h h')(e:h.get? b=J o)(bH:h'.get? b=J dc):dc.dict=o.dict:=by let q:=(qaV.mp e).1;let ej:=(qaV.mp bH).1;let(gx,ax,d):=x b o q;let ax:h'.E[b]?=J gx:=ax;rw[ej]at ax;ext ax;show d
def c8{α:Type}:Sem α->Prop
 |.pure _=>True
 |.raise _=>True
 |.unsupported _=>True
 |.finish _=>True
 |.rule _ k=>c8<|k ()
 |.at _ k=>c8<|k ()
 |.load _ _ k=>∀o,c8<|k o
 |.update _ _ f k=>(∀o,(f o).dict=o.dict)/\c8 (k ())
 |.alloc _ k=>∀a,c8<|k a
 |.loadIfAlive _ k=>∀o,c8<|k o
 |.point _ k=>c8<|k ()
 |.register _ _=>True
 |.fresh k=>∀t,c8<|k t
 |.ask k=>∀t,c8<|k t
 |.choose _ _ k=>∀t,c8<|k t
 |.stack k=>∀l,c8<|k l
 |.handled _ k=>∀l,c8<|k l
 |.thread k=>∀l,c8<|k l
 |_=>MP
theorem c8.mU{α:Type}:∀{t:Sem α},c8 t->∀{Q:α->MK->aN->Prop} {E:ay->MK->aN->Prop} {p:MK} {s:aN},Sem.wp M Γ t Q E p s ->
  ∀{h0:MJ},jA h0 s.Q->Sem.wp M Γ t (λa p s'=>Q a p s'/\jA h0 s'.Q) (λe p s'=>E e p s'/\jA h0 s'.Q) p s
 |.pure _,_,_,_,_,_,h,_,x=>{(h),x}
 |.raise _,_,_,_,_,_,h,_,x=>{(h),x}
 |.unsupported _,_,_,_,_,_,h,_,_=>h
 |.finish _,_,_,_,_,_,h,_,_=>h
 |.rule _ k,m,_,_,_,_,h,_,x=>c8.mU (t:=k ()) m h x
 |.at _ k,m,_,_,_,_,h,_,x=>c8.mU (t:=k ()) m h x
 |.load _ _ k,m,_,_,_,_,h,_,x=>let ⟨o,q,h⟩:=h;{o,q,c8.mU (t:=k o) (m o) h x}
 |.update a _ f k,m,_,_,_,_,h,_,x=>{h.1,c8.mU (t:=k ()) m.2 h.2<|x.trans<|jA.update _ a f m.1}
 |.alloc o k,m,_,_,_,_,h,_,x=>c8.mU (t:=k _) (m _) h<|x.trans<|jA.push _ o
 |.loadIfAlive _ k,m,_,_,_,_,h,_,x=>c8.mU (t:=k _) (m _) h x
 |.point _ k,m,_,_,_,_,h,_,x=>c8.mU (t:=k ()) m h x
 |.register _ _,_,_,_,_,_,h,_,_=>h
 |.fresh k,m,_,_,_,_,h,_,x=>c8.mU (t:=k _) (m _) h x
 |.ask k,m,_,_,_,_,h,_,x=>c8.mU (t:=k _) (m _) h x
 |.choose _ _ k,m,_,_,_,_,h,_,x=>{h.1,c8.mU (t:=k _) (m _) h.2 x}
 |.stack k,m,_,_,_,_,h,_,x=>c8.mU (t:=k _) (m _) h x
 |.handled _ k,m,_,_,_,_,h,_,x=>c8.mU (t:=k _) (m _) h x
 |.thread k,m,_,_,_,_,h,_,x=>c8.mU (t:=k _) (m _) h x
 |.os ..,m,_,_,_,_,_,_,_=>m.elim
 |.call ..,m,_,_,_,_,_,_,_=>m.elim
 |.newGen ..,m,_,_,_,_,_,_,_=>m.elim
 |.genState ..,m,_,_,_,_,_,_,_=>m.elim
 |.resume ..,m,_,_,_,_,_,_,_=>m.elim
 |.yield ..,m,_,_,_,_,_,_,_=>m.elim
 |.fork ..,m,_,_,_,_,_,_,_=>m.elim
 |.await ..,m,_,_,_,_,_,_,_=>m.elim
def c8.any{α:Type}{M:Model}{t:Sem α}(m:c8 t){Q:α->aN->Prop}(h:bj M A t Q E s):bj M A t (λa s'=>Q a s'/\jA s.Q s'.Q) (λe s'=>E e s'/\jA s.Q s'.Q) s :=
 λΓ p i=>m.mU (h Γ p i)<|jA.refl _
theorem c8.bind{α β:Type}:∀{t:Sem α} {k:α->Sem β},c8 t->(∀a,c8<|k a)->c8 (t >>= k)
 |.pure a,_,_,h=>h a
 |.raise _,_,_,_=>trivial
 |.unsupported _,_,_,_=>trivial
 |.finish _,_,_,_=>trivial
 |.rule _ k,_,m,h=>c8.bind (t:=k ()) m h
 |.at _ k,_,m,h=>c8.bind (t:=k ()) m h
 |.load _ _ k,_,m,h=>λo=>c8.bind (t:=k o) (m o) h
 |.update _ _ f k,_,m,h=>{m.1,c8.bind (t:=k ()) m.2 h}
 |.alloc _ k,_,m,h=>λo=>c8.bind (t:=k o) (m o) h
 |.loadIfAlive _ k,_,m,h=>λo=>c8.bind (t:=k o) (m o) h
 |.point _ k,_,m,h=>c8.bind (t:=k ()) m h
 |.register _ _,_,_,_=>trivial
 |.fresh k,_,m,h=>λo=>c8.bind (t:=k o) (m o) h
 |.ask k,_,m,h=>λo=>c8.bind (t:=k o) (m o) h
 |.choose _ _ k,_,m,h=>λo=>c8.bind (t:=k o) (m o) h
 |.stack k,_,m,h=>λo=>c8.bind (t:=k o) (m o) h
 |.handled _ k,_,m,h=>λo=>c8.bind (t:=k o) (m o) h
 |.thread k,_,m,h=>λo=>c8.bind (t:=k o) (m o) h
 |.os ..,_,m,_=>m.elim
 |.call ..,_,m,_=>m.elim
 |.newGen ..,_,m,_=>m.elim
 |.genState ..,_,m,_=>m.elim
 |.resume ..,_,m,_=>m.elim
 |.yield ..,_,m,_=>m.elim
 |.fork ..,_,m,_=>m.elim
 |.await ..,_,m,_=>m.elim
def j7{α:Type}{a:α}:c8 (pure a:Sem α):=trivial
def qW{α:Type}:c8 (unsupported x:Sem α):=trivial
def Kg:c8<|load a:=λ_=>trivial
def Kh:c8 stack:=λ_=>trivial
def ER{i:Y}:c8<|field v i:=by
 delta field fieldsOf;show c8.bind ?_ λl=>?_
 .ext v<;>first|show qW|show c8.bind Kg λo=>?_
  cases o.Y<;>first|show qW|show j7
 .cases l[i]?<;>first|show qW|show j7
def Ki{i:Y}:c8<|zt v i x:=by
 delta zt
 ext v<;>first|show qW|skip
 rename_i a;show c8 (updateField a i x);delta updateField;show c8.bind Kg λo=>?_;cases o.Y<;>first|show qW|skip
 rename_i ag;show c8 (if i<ag.O then _ else _);by_cases z:i<ag.O
 .rw[Y2 z];show{λo=>by let(_,_,d,_):=o;ext d<;>rfl,trivial}
 .rw[Y3 z];show qW
theorem QJ:∀l:O Env,c8 (readyFrames l)
 |[]=>j7
 |env::r=>by
  delta readyFrames;cases env.frame with
  |none=>show qW
  |some f =>
   show c8.bind Kg λo=>?_;by_cases z:((o.slots.getD 3 C).isSome)=Y0
   .rw[Y2 z];show j7
   .rw[Y3 z];show c8.bind ?_ λb=>c8.bind ?_ λc=>c8.bind {λo=>P,trivial} λ_=>QJ r
    .delta behindIsImport;by_cases dB:(env.h.kind != ScopeKind.module||r.isEmpty)=Y0
     .erw[dB,MR];show j7
     .erw[dB];by_cases dU:(env.code==M9)=Y0
      .erw[dU,MR];show j7
      .erw[dU];show c8.bind ER λ_=>j7
    .cases r with
     |nil =>
      erw[keptBack];by_cases dB:(env.h.isGenerator||env.h.isCoroutine)=Y0
      .erw[dB,MR];show j7
      .erw[dB];show c8.bind ?_ λ_=>j7;delta underTheClaimsCaller;show c8.bind Kh λ_=>j7
     |cons _ _=>show j7
def adz:c8<|frameOf env:=by
 delta frameOf frameEnvs;show c8.bind (c8.bind Kh λ_=>j7) λl=>c8.bind ?_ λo=>?_
 .generalize List.dropWhile _ l=q;cases q with
  |nil=>show j7
  |cons a b=>show c8.bind (QJ _) λ_=>j7
 .ext o<;>first|show qW|show j7
def Kj:c8<|setFlight v f:=by
 delta setFlight;show c8.bind ER λx=>?_;by_cases z:(x != M9)=Y0
 .rw[Y2 z];show Ki
 .rw[Y3 z];show j7
def adA:c8<|EntryCells.newEntry a b c d e l:=by
 delta EntryCells.newEntry newFields newObj;dsimp only;by_cases z:([a,b,c,d,e]++if l.isEmpty=Y0 then ML 6 M9 else l).D.O>dq+2
 .erw[z,MR];show qW
 .erw[z,MU];delta newObjAsIs;show λ_=>j7
def QK:c8<|noteFrame v env:=by
 delta noteFrame;cases env.frame with
 |none=>show qW
 |some f =>
  let tail:∀x:ay,c8 (do let fr<-frameOf env;let cH<-entryPlaceOf f (x != .none);let b<-EntryCells.newEntry x fr .none (gf f) .none cH;zt v 1 b):=λx=>by show c8.bind adz λfr=>c8.bind ?_ λcH=>c8.bind adA λb=>Ki;delta entryPlaceOf;show c8.bind Kh λaoZ=>?_;split<;>show j7
  show c8.bind ER λx=>?_;by_cases z:(x != M9)=Y0
  .erw[z,MR];show c8.bind ER λy=>?_;split
   .show j7
   .let:=tail x;rw[z]at this;show c8.bind Ki λ_=>this
  .let:=tail x;erw[z]at this |-;show this
def QL:c8<|leaving env v:=c8.bind QK λ_=>Kj
end a8.bD
namespace a8.bD
open PySem PySem.Spec PyProof.Rows
section
variable {V8:dn}{w:cV}{H ak l0:aM}{h h' aI B:MJ}{a:MC}{o:jo}{c7:O MC}
def has_obj(x:gy V8 w H h a o):∃cx,h.get? a=J cx:=by
 induction o using a8.jo.casesOn with
 |aj xs=>let(_,_,_,_,e):=x;show{_,e}
 |xS xs=>let(_,_,_,_,e):=x;show{_,e}
 |aF xs=>let(_,_,_,cx,e,_):=x;show{_,e}
 |aH av=>let(_,_,_,_,cx,_,_,e,_):=x;show{_,e}
 |iu ks=>let(_,_,_,_,cx,_,_,e,_):=x;show{_,e}
 |set cp n=>let(cx,_,_,_,e,_):=x;show{_,e}
 |hb lo hi=>let(_,_,_,e):=x;show{_,e}
 |eI cx u=>let(e,_):=x;show{_,e}
 |ext φ=>let(_,e,_):=x;show e
def Kept(c7:O MC)(aI:MJ)(ak:aM)(h B:MJ):Prop:=∀b o,h.get? b=J o->b∉c7->(ak b≠C\/aI.get? b≠C)->B.get? b=J o
def Mo(u:gA c7 [] l0 ak aI h)(bX:f7 V8 w ak h)(b3:Kept c7 aI ak h B)(st:B.StaysIn h')(up:h.UpToSlots h')(hf:∀b∈c7,ak b=C/\∀o,h.get? b=J o->∀ag,o.Y≠.fields ag) :
  gA c7 [] l0 ak aI h'/\f7 V8 w ak h'/\Kept c7 aI ak h' B:=by
 let lX:∀b u,ak b=J u->∃cx,h.get? b=J cx/\h'.get? b=J cx/\B.get? b=J cx:=λb u e=>by let(cx,q):=has_obj<|bX b u e;let bb:=b3 b cx q (λz=>by rw[(hf b z).1]at e;ext e) (.inl<|by rw[e];simp);show{cx,q,st b cx bb,bb}
 show{{λb o q n ao au=>?_,λb o q n ao au=>?_,λb o q n au=>u.free b o q n au,λb o q au=>?_,u.pZ,u.oI},λc v e=>?_,λb o q ao bg=>?_}
 .show st b o<|b3 b o (u.keep b o q n ao au) ao (.inr<|by rw[q];simp)
 .let(cW,e):=u.slot b o q n ao au;let(DE,bH):=up b _ e<|(hf b ao).2 _ e;show{(DE),bH}
 .let(dc,e):=u.there b o q au;by_cases ao:b∈c7
  .let(DE,bH):=up b _ e<|(hf b ao).2 _ e;show{_,bH}
  .show{dc,st b dc<|b3 b dc e ao (.inr<|by rw[q];simp)}
 .show(bX c v e).mc (λx au=>?_) λ_ _ z=>z;let(cx,aV,bb,_):=lX c v e;rw[aV]at au;ext au;show bb
 .rcases bg with bg|bg
  .cases e:ak b with
   |none=>show MI e bg
   |some y =>
    let(cx,aV,bb,c1):=lX b y e;rw[bb]at q;ext q;show c1
  .cases e:aI.get? b with
   |none=>show MI e bg
   |some y =>
    let(dc,bH):=u.there b y e Z5;let bb:=b3 b dc bH ao<|.inr bg;rw[st b dc bb]at q;ext q;show bb
def gA.same:gA c7 [] H H h h:=gA.refl
end
def oy(V8:dn)(w:cV):pv:=λcu H s E e s'=>∃(a aP:MC) (ak:aM) (B:MJ) (t:MC),e=.ref a/\s'.os=s.os/\oX s'.gens/\gA (hK cu) [] H ak s.Q s'.Q/\f7 V8 w ak s'.Q /\
 Oq B cu a ZH (.ref t) s'.Q/\Kept (hK cu) s.Q ak s'.Q B/\(∀o,s'.heap.get? a=J o->o.dict=C)/\E ZH C ak
def Exc(b2:MF)(X:bK)(ah:O Z2)(ak:aM)(s:aN)(e aP:MC):Prop:=∃(U:St) (l0:aM) (sc:aN) (h:MJ),aT X ah U l0 sc/\s.os=sc.os/\oX s.gens/\gA (hK X.stack) [] l0 ak sc.Q h/\f7 X.R X.w ak h /\
 ((h=s.Q/\∃B t,Oq B X.stack e ZH (.ref t) h/\Kept (hK X.stack) sc.Q ak h B/\∀o,h.get? e=J o->o.dict=C)\/(b2=Y1/\∃ag,Heap.MadeExcOf h s.Q e ZH ag))
def Exc.weak{b2:MF}(x:Exc Y0 X ah ak s e aP):Exc b2 X ah ak s e aP:=by
 let(U,l0,sc,h,a1,a2,iX,C9,Dc,Ie):=x;show{U,l0,sc,h,a1,a2,iX,C9,Dc,?_};rcases Ie with Ie|⟨z,_⟩
 .show .inl Ie
 .ext z
section
variable {X:bK}{ah:O Z2}{U:St}{H ak:aM}{s:aN}{h:MJ}
def Kk(I:aT X ah U H s)(u:gA (hK X.stack) [] H ak s.Q h):∀b∈hK X.stack,ak b=C/\∀o,h.get? b=J o->∀ag,o.Y≠.fields ag:=λb ao=>by let(_,o,aX,hd):=I.stack.mem ao;show{u.free b o aX (I.GO b ao) Z5,λdc e ag q=>?_};let(cW,bH):=u.slot b o aX (I.GO b ao) ao Z5;rw[bH]at e;ext e;show hd ag q
def am4(mB:X.stack=X.I::cu)(A2:X.cu=cu)(hex:X.ex=[])(hf:X.I.frame=J X.I.locals)(x:Exc Y1 X ah ak s e aP)(u3:E ZH C ak) :
  bj Z4 X.A (leaving X.I<|.ref e) (λ_ lA=>oy X.R X.w cu X.dS X.cT E (.ref e) lA) (λbH lA=>oy X.R X.w cu X.dS X.cT E bH lA) s:=by
 let(U,l0,sc,h,I,os,dx,u,bX,bg):=x;let fr:X.A.frames=J (X.I::cu):=by rw[<-mB];show I.ok.frames
 let qv:=Kk I u;let fin:∀(B:MJ) (t:MC) (h':MJ),Kept (hK X.stack) sc.Q ak h B->h.UpToSlots h'->Oq B cu e ZH (.ref t) h'->(∀o,h'.get? e=J o->o.dict=C)->oy X.R X.w cu X.dS X.cT E (.ref e) { s with heap:=h'}:=λB t h' b3 up b2 nh=>by
  let(gh,yP,l8):=Mo u bX b3 b2.1 up qv;let di:aT X ah U ak { s with heap:=h'}:=I.Gu (s':={ s with heap:=h'}) os gh yP dx λb z=>MI z Z5;let qz:=di.e;rw[hex,show X.c7=hK cu by rw[<-A2]]at qz;show{e,aP,ak,B,t,P,di.os,dx,qz,yP,b2,λb o q ao bg=>?_,nh,u3};let n3:b∉hK X.stack:=λz=>by
   rw[mB]at z;let z:b∈(X.I::cu).filterMap (·.frame):=z;rw[wO,hf]at z;rcases cF.mp z with rfl|z
   .rcases bg with bg|bg
    .show bg di.free
    .cases aB:X.cT.heap.get? X.I.locals with
     |none=>show bg aB
     |some y=>show MI (dX (ed aB) di.ok.above)<|qi _
   .show ao z
  show l8 b o q n3 (bg.imp id λbg z=>?_);cases aB:X.cT.heap.get? b with
  |none=>show bg aB
  |some y =>
   let(dc,ax):=I.base.there b y aB (by rw[hex];simp);rw[z]at ax;ext ax
 rcases bg with⟨rfl,B,t,b2,b3,nh⟩|⟨_,ag,mk⟩
 .rw[mB]at b2;let(cx,ox,_):=b2.there;show hE (QL.any (wpAny_leaves_onW (Q:=λ_ lA=>∃h',lA={ s with heap:=h'}/\Oq B cu e ZH (.ref t) h'/\s.heap.UpToSlots h') (E:=λ_ _=>MP) fr hf b2 λh' f2 up=>⟨h',rfl,f2,up⟩)) (λ_ lA ⟨⟨h',aV,f2,up⟩,hd⟩=>?_) λ_ _ z=>z.1.elim;subst aV;show fin B t h' b3 up f2 λo q=>(hd.get ox q).trans (nh cx ox)
 .let bt:aT X ah U ak { sc with heap:=h}:=I.Gu (s':={ sc with heap:=h}) rfl u bX I.dx λb z=>MI z Z5;let mJ:∀env∈X.stack,∀b,env.frame=J b->b∈hK X.stack:=λenv he b ao=>G1.mpr {(env),he,ao};let WU:Heap.FunFrames h (W.hideAll h<|hK X.stack)<|X.I::cu:=by let z:=W.funFrames_hide (as:=hK X.stack) bt.stack mJ;generalize hK X.stack=q at z |-;rw[mB]at z;show z
  let(_,ox,_):=mk.there;show hE (QL.any (wpAny_leaves_madeW (Q:=λ_ lA=>∃h' t,lA={ s with heap:=h'}/\Oq (W.hideAll h<|hK X.stack) cu e ZH (.ref t) h'/\s.heap.UpToSlots h') (E:=λ_ _=>MP) fr hf (λb o q=>W.of_hideAll _ q) WU mk λh' t f1 _ _ up=>⟨h',t,rfl,f1,up⟩)) (λ_ lA ⟨⟨h',t,aV,f1,up⟩,hd⟩=>?_) λ_ _ z=>z.1.elim;subst aV;show fin _ t h' (λb o q ao _=>W.hideAll_get _ q ao) ((Heap.UpToSlots.of_keeps mk.keeps).trans up) f1 λo q=>hd.get ox q
end
def u4(b2:MF)(X:bK)(B:aM)(L:MC)(S:bF)(n:Y)(c n':Y)(U:St)(H:aM):Prop:=dD X.K B L S n U H /\
 ∀ah e aP ak s',Exc b2 X ah ak s' e aP->eT H ak->dC L B ak->dt L n' ak->X.bf (pE c)=J ZH->X.cL (.ref e) s'
def xD(b2:MF)(X:bK)(L:MC)(e:MG)(d:gE):Prop:=∀B S n c n',d S n=J (c,n')->eE X e (λU H _=>u4 b2 X B L S n c n' U H)
def rH(b2:MF)(X:bK)(L:MC)(st:MM)(d:gE):Prop:=∀B S n c n',d S n=J (c,n')->oZ X st (λ_ U H=>u4 b2 X B L S n c n' U H)
def mP(b2:MF)(X:bK)(L:MC)(st:O MM)(d:gE):Prop:=∀B S n c n',d S n=J (c,n')->kG X st (λ_ U H=>u4 b2 X B L S n c n' U H)
section
variable {b2:MF}{X:bK}{L:MC}
def u4.step{n aY c n':Y}(h:u4 b2 X B L S n c n' U H)(x:eT H ak)(R:dD X.K B L S' aY U' ak):u4 b2 X B L S' aY c n' U' ak :=
 {R,λah e aP b5 s' a b=>h.2 ah e aP b5 s' a<|x.trans b}
def hG.lift{st:MM}{d:br}(h:hG X.ob L st d):hG X L st d:=λB S n f S' n' hd ah s U H OG I hw =>
 hE (h B S n f S' n' hd ah s U H OG (I.oJ _) hw) (λ_ _ q=>q.q8) λ_ _ z=>MY z
def ahY{st:MM}:rH b2 X L st iL:=λB S n c n' hd=>by ext hd
def ajH{st:O MM}:mP b2 X L st iL:=λB S n c n' hd=>by ext hd
def alB{st:MM}{d:gE}(h:rH b2 X L st d):mP b2 X L [st] d:=λB S n c n' hd=>qbh<|h B S n c n' hd
def am5{st:MM}{rO:O MM}{dk lZ:gE}{a:br}(ae:rH b2 X L st dk)(ai:hG X L st a)(aS:mP b2 X L rO lZ):mP b2 X L (st::rO)<|h9 dk a lZ:=by
 intro B S n c n' hd ah s U H OG I hw;delta h9 at hd;cases e:dk S n with
 |some r =>
  rw[e]at hd;cases hd;show vg (ae B S n c n' e) DH ah s U H OG I hw
 |none =>
  rw[e]at hd;let((f,S1,aY),aB,ax):=cE hd;cases f with
  |bC=>show vg (ai B S n .bC S1 aY aB) (aS B S1 aY c n' ax) ah s U H OG I {hw.1,λU' ak x y=>hw.step x y}
  |_=>ext ax
def ahZ{c:MG}{a b:O MM}{gR:fy}{dk fu:gE}{pos:MK}(aI:ST X L c gR)(bl:mP b2 X L a dk)(ao:mP b2 X L b fu):rH b2 X L (.If c a b pos)<|kK gR dk fu:=by
 intro B S n fk n' hd ah s U H OG I hw;let((x,aY),aB,ax):=cE hd;show wpAny_If (cm (aI.run aB I hw.1) λy s1 ⟨jc,H1,bt,a1,bN⟩=>?_);subst jc;cases y with
 |true=>show bl B S aY fk n' ax ah s1 U H1 OG bt<|hw.step (a1.cq hw.1.aR) bN
 |false=>show ao B S aY fk n' ax ah s1 U H1 OG bt<|hw.step (a1.cq hw.1.aR) bN
def alC{e:MG}{d:gE}{pos:MK}(h:xD b2 X L e d)(aK:MD (qn e C pos.line X.I=pure Y1) rc):rH b2 X L (.Expr e pos) d:=λB S n c n' hd=>DG (h B S n c n' hd) aK
def ajI{e:MG}{d:gE}{pos:MK}(h:xD b2 X L e d):rH b2 X L (.Return (J e) pos) d:=λB S n c n' hd=>II<|h B S n c n' hd
def A3(bf:ME->MB ay)(K:MN)(L:MC)(e3:Y)(f:l4):n7:=λag H _ E=>ag.H=e3/\∃aE n c n',Args K L H aE ag/\dt L n H/\f aE n=J (c,n') /\
 ∀aP ak,bf (pE c)=J ZH->dC L H ak->dt L n' ak->E ZH C ak
def ajJ{V8:dn}{w:cV}{K:MN}{bf:ME->MB ay}{base:MJ}{x qual:ME}{st:MM}{f:MC}{fd:iD}{N ps:O ME}{lv:Y}{fu:gE}(F:qI K x qual st f fd)(cp:mV N ps<|eM st)
  (kX:∀(dm:ay) (A:dH) (cu:O Env) (s:aN) (H:aM) (E:iS),fs lv (A.deeper<|jm qual (eM st) s.L f dm)->mP Y1 (j8 (oy V8 w) V8 w K bf base N qual (eM st) f dm A cu s H E) L (iZ st) fu) :
  kT V8 w K bf base (oy V8 w) (lv+1) f fd ps (A3 bf K L ps.H<|fnX N.H fu):=by
 let(jP,g6,eV,doc,pm,an,dm,eZ,qH,rfl,kd,hs):=F.ex;show qbB kd hs cp (λag H Q E h=>h.1) λA cu s H ag Q E a4 h=>?_;let(az,aE,n,c,n',a,aR,e,k):=h;show{_,kX dm A cu s H E a4 H _ n c n' e,Jz a aR,λah cB aP ak s' x _ bR cy cv=>?_};show am4 (X:=j8 (oy V8 w) V8 w K bf base N qual (eM st) f dm A cu s H E) P P P P x<|k aP ak cv bR cy
def x_run{f:l4}{lv:Y}{e6:MC}{fd:iD}{ps:O ME}{e3 c aY n':Y}{aE:O<|T×MF}{ah:O Z2}{U:St}{H1:aM}{s1:aN}{us:O ay}{ag:O V}{Q:ay->aN->Prop}(F:kT X.R X.w X.K X.bf X.e (oy X.R X.w) lv e6 fd ps<|A3 X.bf X.K L e3 f)(a4:fs lv X.A)(ao:Binds X.K fd ps [])
  (bt:aT X ah U H1 s1) (r:cR ag us) (dZ:dt L aY H1) (dB:Args X.K L H1 aE ag) (az:aE.H=e3) (ax:f aE aY=J (c,n')) (k:∀e aP ak s',Exc Y0 X ah ak s' e aP->dC L H1 ak->dt L n' ak->X.bf (pE c)=J ZH->X.cL (.ref e) s') :
  bj Z4 X.A (call (.ref e6) us) Q X.cL s1:=by
 let lB:A3 X.bf X.K L e3 f ag H1 (λ_ _=>MP) (λcl _ ak=>∃aP,cl=.ref aP/\X.bf (pE c)=J ZH/\dC L H1 ak/\dt L n' ak):={dB.H▸az,aE,aY,c,n',dB,dZ,ax,λaP ak aV bb c1=>{(aP),P,aV,bb,c1}}
 let el:us.H=ps.H:=by rw[<-r.H];show F.len _ _ _ _ lB
 let mL:=ao s1 us bt.iJ (by simpa using el);rw[nQ]at mL;show w7 (sN (F.run X.A X.stack s1 H1 {us,[]} us ag _ _ a4 bt.L2 mL r lB) λjq s' bc=>?_);cases jq with
 |error ev =>
  let(cB,aP,b5,xE,t,rfl,os,dx,u,bX,adB,b3,nh,aoo,aV,bb,c1,gn):=bc
  ext aV
  show k cB aP b5 s' {U,H1,s1,s'.Q,bt,os,dx,u,bX,.inl {(P),xE,t,adB,b3,nh}} c1 gn bb
 |ok ES =>
  cases ES with
  |ret u=>let(_,_,_,_,_,_,_,q):=bc;show q.elim
  |next=>show MY bc
  |brk=>show MY bc
  |cont=>show MY bc
def alD{f:l4}{lv:Y}{e6:MC}{fd:iD}{ps:O ME}{x:ME}{p pos:MK}{e:MG}{es:O MG}{a:jS}{e3:Y}(F:kT X.R X.w X.K X.bf X.e (oy X.R X.w) lv e6 fd ps<|A3 X.bf X.K L e3 f)(a4:fs lv X.A)(hm:X.bf x=J (.ref e6))(aW:Nl X.K (.ref e6)=Y0)
  (ao:Binds X.K fd ps []) (bl:SB X L (e::es) a) (bL:MD (fP X x) rc) (f9:MD ZF eY) (he:MD Zb rc)
  (fN:MD ((gM pos<|cA es X.I).any (·.1)=Y1) rc):xD b2 X L (.Call (.Name x p) (e::es) [] pos)<|kJ e3 f a:=by
 intro B S n c n' hd ah s U H Q I ⟨R,k⟩;let((aE,aY),aB,ax):=cE hd;by_cases az:aE.H=e3
 .rw[Y2 az]at ax;show oT<|vf I bL hm ?_ f9;show W.callWith_K (h₀:=X.e) I.ok.mod.fI aW (cm (bl B S n aE aY aB pos ah s U H (λag ak=>dC L H ak/\dt L aY ak/\Args X.K L ak aE ag) I {R,λag ak x y z=>{(x),y,z}}) λus s1 ⟨ag,H1,bt,r,bE,dZ,dB⟩=>{bt.iJ,?_}) he fN;show x_run F a4 ao bt r dZ dB az ax λe aP ak s' x c1 gn bb=>k ah e aP ak s' x.weak ((bE.trans c1).cq R.aR) ((R.ext.trans bE).trans c1) gn bb
 .rw[Y3 az]at ax;ext ax
end
def qag(K:MN)(B:aM)(L:MC)(S:bF)(n n':Y):TE:=λU H Q=>dD K B L S n U H/\∀v ak,dC L H ak->dt L n' ak->Q v ak
def Dd(X:bK)(L:MC)(e:MG)(d:uM):Prop:=∀B S n n',d S n=J n'->eE X e (qag X.K B L S n n')
def u5(X:bK)(L:MC)(k:Y)(es:O MG)(d:uM):Prop:=∀B S n n',d S n=J n'->∀(V9:ME) (ah:O Z2) (s:aN) (U:St) (H:aM) (Q:V->aM->Prop),V9.H<=1000*k->aT X ah U H s->dD X.K B L S n U H->(∀v ak,dC L H ak->dt L n' ak->Q v ak) ->
 bj Z4 X.A (joinParts V9<|evalEach es X.I) (gs X ah U Q) X.cL s
section
variable {b2:MF}{X:bK}{L:MC}
def ajK{j pos}:Dd X L (.Constant (.str x) j pos) mz:=λB S n n' hd ah s U H Q I ⟨R,k⟩=>by
 ext hd
 show IH ah s U H Q I<|k _ H ZQ R.aR
def ajL{k:Y}(aW:k<=100):u5 X L k [] mz:=λB S n n' hd V9 ah s U H Q bl I R q=>by
 ext hd
 show joinParts_nil {.str V9,H,I.tok _,{_,P},q _ H ZQ R.aR}<|bw bl ?_;rw[oV];omega
def ET{a b:ME}{k:Y}(ae:a.H<=1000*k)(ai:b.H<=1000)(aW:k+1<=100):(a++b).H<=1000*(k+1)/\(a++b).H<=dq:=by rw[strLen_append,oV];omega
def ajM{k:Y}{j pos}(h:u5 X L (k+1) es d)(aW:MD (k+1<=100) eY)(au:MD (x.H<=1000) eY):u5 X L k (.Constant (.str x) j pos::es) d:=λB S n n' hd V9 ah s U H Q bl I R q=>by
 show bj _ _ (joinParts V9<|MO (.Constant (.str x) j pos) X.I::evalEach es X.I) _ _ s;show joinParts_cons (cm (IH ah s U H (λv ak=>v=.str x/\ak=H) I {(P),P}) λu s1 ⟨v,H1,bt,r,aB,ax⟩=>?_);subst aB ax;let(t,rfl):=(show ∃t,u=.str x t from r)
 show{(ET bl au aW).2,h B S n n' hd _ ah s1 U _ Q (ET bl au aW).1 bt R q}
def ajN{k:Y}(he:bM X L e jz)(h:u5 X L (k+1) es d)(aW:MD (k+1<=100) eY):u5 X L k (.FormattedValue e (-1) C pos::es)<|xk jz d:=λB S n n' hd V9 ah s U H Q bl I R q=>by
 let((t,m,aY),aB,ax):=cE hd;have⟨i,eU,aK,bq⟩:∃i,t=.int i/\Mw i=Y0/\d S aY=J n':=by
  induction t using T.casesOn with
  |int i =>
   let ax:(if Mw i=Y0 then d S aY else C)=J n':=ax;by_cases z:Mw i=Y0
   .rw[Y2 z]at ax;show{(i),P,z,ax}
   .rw[Y3 z]at ax;ext ax
  |_=>ext ax
 subst eU;show bj _ _ (joinParts V9<|MO (.FormattedValue e (-1) C pos) X.I::evalEach es X.I) _ _ s;show joinParts_cons<|FormattedValue_plain (cm (he.run aB I R) λu s1 ⟨v,H1,bt,bx,a1,bN,cb⟩=>?_);let ba:=cb.root bN R.aR;let ba:aL L H1 (.int i) v:=ba;rw[aL]at ba;subst ba;let(bz,rfl):=(show ∃t,u=.int i t from bx)
 let az:i.natAbs.log2<1920:=by
  let ae:i.natAbs<2^64:=Ul aK;by_cases z:i.natAbs=0
  .rw[z];decide
  .let:=(Nat.log2_lt z).mpr ae;show gr (ei this) Z1
 let el:(VZ<|toString i).H<=1000:=by let ae:i.natAbs<10^20:=dX (Ul aK) Z1;let ai:=int_text_length_le10 (k:=20) Z1 ae;rw[PySem.ofString_length];show bw ai Z1
 show formatField_int_small az ?_;let di:aT X ah U H1 { s1 with toks:=s1.toks+1+1}:=bt.tok _;show{(ET bl el aW).2,h B S aY n' bq _ ah _ U H1 Q (ET bl el aW).1 di bN λv ak x y=>q v ak (a1.trans x) y}
def alE(h:u5 X L 0 (a::b::es) d):Dd X L (.JoinedStr (a::b::es) pos) d:=λB S n n' hd ah s U H Q I ⟨R,k⟩ =>
 JoinedStr_many (h B S n n' hd Str.empty ah s U H Q Z1 I R k)
abbrev excMro:O ay:=[.type "ValueError",.type "Exception",.type "BaseException",.type "object"]
def alF{K:MN}{h:MJ}{aP:MC}{QM:O ay}{EL:M8}(fI:K.In h)(z:W.excIn K aP QM EL=Y0) :
  ∃jb N nm uI bs hd sn sub ab col dd k0 k1 k2 k3 k5,h.get? aP=J (excClassObj nm uI aP N bs jb hd sn sub ab col dd k0 k1 k2 k3 k5 EL)/\(∃mN,h.Ns N mN/\mN "__init__" = C)/\OwnTail h QM jb:=by
 delta W.excIn at z;cases kd:K.lookup aP with
 |none=>rw[kd]at z;ext z
 |some cx =>
  rw[kd]at z;let(jP,dd,g6,cW):=cx;let key:=fI _ _ kd;split at z
  .rename_i gu cb s1 aB
   ext aB
   split at z
   .rename_i NN jb De a1 a2 iX adC Dc df d0;let(Df,NO,qah,cs,WY,ch,WZ,W0,ca,co,aop):=cb;erw[iR,M5,Bool.not_eq_true']at z;let(((((dB,dU),jv),uT),uV),NP):=z;dsimp only at df jv uV NP;subst dB dU jv df;let adD:cW=#[De,a1,a2,iX,J<|.builtin adC,Dc]:=by
     cases cW with
     |mk l=>show M1 Array.mk d0
    subst adD;show{jb,cs,Df,WY,NO,ch,WZ,W0,ca,co,dd,De,a1,a2,iX,Dc,key,{_,.of_isNs<|W.isNs_of_in fI uV,W.nsMap_none_of_in fI uV NP},W.tail_of_in fI uT}
   .ext z
  .ext z
def Kl{c:Y}{aP:MC}{e:MG}{d:uM}{x:ME}{np d3 pos:MK}(aI:X.calm=Y0)(he:Dd X L e d)(hm:X.bf x=J ZH)(au:x=pE c)(q:W.excIn X.K aP excMro "ValueError.__new__" = Y0)(bL:MD (fP X x) rc)(f9:MD ZF eY)
  (aK:MD (cA [e] X.I=[ZO]) rc):rH Y1 X L (.Raise (J<|.Call (.Name x np) [e] [] d3) C pos)<|nt c d:=by
 intro B S n cM n' hd ah s U H OG I ⟨R,k⟩;let(aY,aB,ax):=dR hd;cases ax;let(jb,N,nm,uI,bs,adE,sn,sub,ab,col,dd,k0,k1,k2,k3,k5,rz,(mN,eu,adF),T):=alF I.mod.fI q;show wpAny_Raise_call_subT («C»:=aP) (nm:=nm) (q:=uI) (N:=N) (bs:=bs) (bm:=jb) (hdct:=adE) (sn:=sn) (sub:=sub) (ab:=ab) (col:=col) (dd:=dd) (k0:=k0) (k1:=k1) (k2:=k2) (k3:=k3) (k5:=k5)
  PySem.F.excBase_ValueError (mN:=mN) (T.hasType PySem.F.excBase_ValueError.hasBase) (I.ok.hd aI) (by rw[aK];rfl) adF (vf I bL hm {P,?_} f9)
 rw[aK];show w6<|kc (cm (he B S n n' aB ah s U H (λv ak=>dC L H ak/\dt L n' ak) I {R,λv ak x y=>{(x),y}}) λu s1 ⟨v,H1,bt,bx,bE,dZ⟩=>nY ?_);show{P,(show 1<=dq by rw[oV];decide),bt.eD _ _ rz,eu.keeps bt.eD,T.keeps bt.eD,λh' cB mk=>?_};show k ah cB aP H1 { s1 with heap:=h'} ⟨U,H1,s1,s1.Q,bt,rfl,bt.dx,gA.same,bt.bX,.inr ⟨rfl,_,mk⟩⟩ (bE.cq R.aR) (R.ext.trans bE) dZ (au▸hm)
def ajO{dr iter:MG}{body:O MM}{d:iH}{put:T->bF->MB bF}{b:br}{fu:gE}{pos:MK}(aC:zr Z4 X.A X.I X.cL)(aI:X.calm=Y0)(hi:Ay X L dr iter d)(bL:s6 X L dr put)(ao:iy X L body b)(A4:mP b2 X L body fu)(aK:MD (∀x,oU iter X.I x=pure x) rn) :
  rH b2 X L (.For dr iter body [] pos) (BP d put b fu):=by
 intro B S n c n' hd ah s U H OG I hw;let((aE,aY),aB,ax):=cE hd;let R:=hw.1;let kX:kG X body (λOG U H=>(∃S n f S' n',b S n=J (f,S',n')/\xl X.K B L S n f S' n' OG U H)\/∃S n,fu S n=J (c,n')/\u4 b2 X B L S n c n' U H):=λah s U H OG I h=>by
  rcases h with⟨S,n,f,S',n',e,h⟩|⟨S,n,e,h⟩
  .show ao B S n f S' n' e ah s U H OG I h
  .show A4 B S n c n' e ah s U H OG I h
 show qbm aC aI (hi B S n aE aY aB) bL kX aK ah s U H OG I {R,λc0 H1 bE dZ it=>?_};let bN:=R.mono bE dZ;let adG:=hw.step (bE.cq R.aR) bN;show{λi m U' ak=>m=aE.H-i/\i<=aE.H/\eT H1 ak/\∃Si jw,dD X.K B L Si jw U' ak/\Aq put b fu (aE.drop i) Si jw=J (c,n'),{aE.H,by simp,fY _,.refl _,S,aY,bN,by simpa using ax},?_};rintro i m U2 b5 ⟨rfl,kM,mH,S2,ck,dF,bq⟩;let at2:=it b5 ck dF.aR mH dF.ext i;by_cases dN:i<aE.H
 .right;let(go,qw):=at2.1 aE[i] (by simp[dN]);let zH:aE.drop i=aE[i]::aE.drop (i+1):=oP dN;rw[zH]at bq;let(S3,cC,fj):=cE (show(put aE[i] S2).bind _=_ from bq);cases ex:fu S3 ck with
  |some r =>
   rw[ex]at fj
   ext fj
   show{go,λU' ak=>MP,λU' ak z=>z.elim,λx ak uR=>?_};let(cL,uS,lZ):=qw x ak uR;let l6:eT H1 ak:=mH.trans<|cL.cq dF.aR;show{B,S2,ck,aE[i],S3,dF.mono cL<|uS ck dF.aR,lZ,cC,λU3 ng _=>.inr {S3,ck,ex,adG.step l6 ng}}
  |none =>
   rw[ex]at fj;let((f4,S4,h4),gF,gw):=cE fj;show{go,λU' ak=>eT H1 ak/\dD X.K B L S4 h4 U' ak/\Aq put b fu (aE.drop<|i+1) S4 h4=J (c,n'),λU' ak ⟨dB,dU,jv⟩=>{aE.H-(i+1),by omega,P,dN,dB,S4,h4,dU,jv},λx ak uR=>?_};let(cL,uS,lZ):=qw x ak uR;let l6:eT H1 ak:=mH.trans<|cL.cq dF.aR;show{B,S2,ck,aE[i],S3,dF.mono cL<|uS ck dF.aR,lZ,cC,λU3 ng _=>.inl {S3,ck,f4,S4,h4,gF,ng,?_}};cases f4 with
   |bC=>show λU' eK dB dU=>{l6.trans dB,dU,gw}
   |eZ=>show λU' eK dB dU=>{l6.trans dB,dU,gw}
   |eD=>ext gw
   |ba t jx=>ext gw
 .left;let j3:aE.H<=i:=ci dN;rw[wM j3]at bq
  ext bq
end
noncomputable abbrev vO(X:bK)(e:ay)(p:O Z2):bK:={ X with A:=X.A.mark<|some e,calm:=Y1,cL:=λ_ _=>MP,gB:=p}
noncomputable abbrev vP(X:bK)(E:ay->aN->Prop)(p:O Z2):bK:={ X with cL:=E,gB:=p}
section
variable {X:bK}{ah:O Z2}{U:St}{H ak:aM}{s:aN}{e aP:MC}{E oa:ay->aN->Prop}{Q:Unit->aN->Prop}
def am6(I:aT X ah U H s)(E:ay->aN->Prop):aT (vP X E<|X.gB++ah) [] U H s :=
 {{(I.ok.mod),I.ok.kind,I.ok.glob,I.ok.blt,I.ok.above,I.ok.inj,I.ok.has,I.ok.rM,I.ok.hd,I.ok.frames,I.ok.tl,I.ok.tm,I.ok.bs,I.ok.nj,I.ok.sk,I.ok.sl,I.ok.kS,I.ok.pn},I.os,I.dx,I.e,I.loc,I.cell,I.free,I.kW,λp aC=>I.pin p (by simpa using aC),I.bX,I.len}
def A5(I:aT (vP X E<|X.gB++ah) Gr U H s):aT X ah U H s :=
 {{(I.ok.mod),I.ok.kind,I.ok.glob,I.ok.blt,I.ok.above,I.ok.inj,I.ok.has,I.ok.rM,I.ok.hd,I.ok.frames,I.ok.tl,I.ok.tm,I.ok.bs,I.ok.nj,I.ok.sk,I.ok.sl,I.ok.kS,I.ok.pn},I.os,I.dx,I.e,I.loc,I.cell,I.free,I.kW,λp aC=>I.pin p<|nO _ aC,I.bX,I.len}
def QN(I:aT X ah U H s)(v:ay)(bc:∀p∈q,s.heap.get? p.1=J p.2/\H p.1=C/\p.1≠X.I.locals/\p.1∉X.c7/\∀v,p.2.Y≠.cell v):aT (vO X v<|X.gB++q) ah U H s :=
 ⟨{I.ok.mod,I.ok.kind,I.ok.glob,I.ok.blt,I.ok.above,I.ok.inj,I.ok.has,I.ok.rM,λz=>(nomatch z),I.ok.frames,I.ok.tl,I.ok.tm,I.ok.bs,I.ok.nj,I.ok.sk,I.ok.sl,I.ok.kS,I.ok.pn},I.os,I.dx,I.e,I.loc,I.cell,I.free,I.kW,
  λp aC=>by
   let aC:p∈(X.gB++q)++ah:=aC;rcases i9.mp aC with z|z
   .rcases i9.mp z with z|z
    .show I.pin p<|nO _ z
    .show bc p z
   .show I.pin p<|lN _ z,I.bX,I.len⟩
def adH(ok:X.Ok)(I:aT (vO X v<|X.gB++q) ah U H s):aT X ah U H s :=
 ⟨ok,I.os,I.dx,I.e,I.loc,I.cell,I.free,I.kW,λp aC=>I.pin p (by
  show p∈(X.gB++q)++ah;rcases i9.mp aC with z|z
  .show nO _<|nO _ z
  .show lN _ z),I.bX,I.len⟩
def alG(x:Exc Y0 (vP X E<|X.gB++ah) Gr ak s e aP):Exc Y0 X ah ak s e aP:=by let(U,l0,sc,h,I,r):=x;show{U,l0,sc,h,A5 I,r}
def Exc.inv(x:Exc Y0 X ah ak s e aP):∃U oe,aT X ah U ak s/\s.heap.get? e=J oe/\oe.cls=.ref aP/\ak e=C/\e≠X.I.locals/\e∉X.c7/\(∀v,oe.Y≠.cell v)/\oe.dict=C/\∃ag t,oe.Y=.fields ag/\ag[0]?=J (.ref t):=by
 let(U,l0,sc,h,I,os,dx,u,bX,bg):=x;rcases bg with⟨rfl,B,t,b2,b3,nh⟩|⟨z,_⟩
 .let c0:aT X ah U ak s:=I.Gu os u bX dx λb z=>MI z Z5;let(oe,ag,aV,bb,c1,gn):=b2.first;let n3:e∉hK X.stack:=λz=>by let(_,o,aX,hd):=c0.stack.mem z;rw[aV]at aX;ext aX;show hd ag c1
  let zT:e≠X.I.locals:=λz=>by let(m,(o,es,ep,aX,hd,_),_):=c0.loc;rw[<-z,aV]at aX;ext aX;rw[c1]at hd;ext hd
  let adI:e∉X.c7:=λz=>by let(_,o,aX,hd):=c0.kS.mem z;rw[aV]at aX;ext aX;show hd ag c1
  let bI:ak e=C:=by
   cases z:ak e with
   |none=>rfl
   |some y =>
    let:=b3 e oe aV n3 (.inl<|by rw[z];simp);rw[b2.2.1]at this;ext this
  show⟨U,oe,c0,aV,bb,bI,zT,adI,(λv z=>by rw[c1]at z;ext z),nh oe aV,ag,t,c1,gn⟩
 .ext z
def am7(mB:X.stack=X.I::cu)(hf:X.I.frame=J X.I.locals)(dw:A.frames=J X.stack)(x:Exc Y0 X ah ak s e aP)(bc:∀s3,Exc Y0 X ah ak s3 e aP->Q () s3) :
  bj Z4 A (noteFrame (.ref e) X.I) (λ_ s2=>bj Z4 A' (setFlight (.ref e) C) Q oa s2) E s:=by
 let(U,l0,sc,h,I,os,dx,u,bX,bg):=x;rcases bg with⟨rfl,B,t,b2,b3,nh⟩|⟨z,_⟩
 .let qv:=Kk I u;let(cx,ox,_):=b2.there;rw[mB]at dw;let ES:=b2;rw[mB]at ES;show hE (QK.any (wpAny_looks_onW (Q:=λ_ lA=>∃h',lA={ s with heap:=h'}/\Heap.HeldW B (X.I::cu) e ZH (.ref t) X.I.locals h'/\s.heap.UpToSlots h') (E:=λ_ _=>MP) dw hf ES λh' f2 up=>⟨h',rfl,f2,up⟩)) (λ_ lA ⟨⟨h',aV,f2,up⟩,hd⟩=>?_) λ_ _ z=>z.1.elim;subst aV;show hE (Kj.any (wpAny_landsW (Q:=λ_ s3=>∃fL,s3={ s with heap:=fL}/\Oq B (X.I::cu) e ZH (.ref t) fL/\h'.UpToSlots fL) (E:=λ_ _=>MP) f2 λfL et vQ=>⟨fL,rfl,et,vQ⟩)) (λ_ s3 ⟨⟨fL,aV,et,vQ⟩,Km⟩=>?_) λ_ _ z=>z.1.elim;subst aV;let(gh,yP,l8):=Mo u bX b3 et.1 (up.trans vQ) qv;show bc _ {U,l0,sc,fL,I,os,dx,gh,yP,.inl {P,B,t,?_,l8,λo q=>((hd.trans Km).get ox q).trans (nh cx ox)}};rw[mB];show et
 .ext z
def adJ(x:Exc Y0 X ah ak s e aP)(bc:∀s3,Exc Y0 X ah ak s3 e aP->Q () s3):bj Z4 A (setFlight (.ref e) C) Q E s:=by
 let(U,l0,sc,h,I,os,dx,u,bX,bg):=x;rcases bg with⟨rfl,B,t,b2,b3,nh⟩|⟨z,_⟩
 .let qv:=Kk I u;let(cx,ox,_):=b2.there;show hE (Kj.any (lands_againW (Q:=λ_ s3=>∃fL,s3={ s with heap:=fL}/\Oq B X.stack e ZH (.ref t) fL/\s.heap.UpToSlots fL) (E:=λ_ _=>MP) b2 λfL et vQ=>⟨fL,rfl,et,vQ⟩)) (λ_ s3 ⟨⟨fL,aV,et,vQ⟩,Km⟩=>?_) λ_ _ z=>z.1.elim;subst aV;let(gh,yP,l8):=Mo u bX b3 et.1 vQ qv;show bc _ {U,l0,sc,fL,I,os,dx,gh,yP,.inl {P,B,t,et,l8,λo q=>(Km.get ox q).trans (nh cx ox)}}
 .ext z
end
structure yS (K:MN) (aP OG:MC):Prop where
 sub:MX K ZH (.ref OG)=J Y0
structure Clause (K:MN) (OG:MC):Prop where
 aF:W.instIn K (.ref OG) (.type "tuple")=J Y1
 cls:(W.clsIn K OG).isSome=Y0
 base:MX K (.ref OG) (.type "BaseException")=J Y0
def adK{K:MN}{M:Model}{A:dH}{E:ay->aN->Prop}{s:aN}{Q:MF->aN->Prop}{e aP OG:MC}{oe:MT}(fI:K.In s.Q)(he:s.heap.get? e=J oe)(aI:oe.cls=.ref aP)(cl:Clause K OG)(bz:yS K aP OG)(bc:Q Y0 s):bj M A (excMatches (.ref e)<|.ref OG) Q E s:=by
 let Ig:=W.looks_instIn (M:=M) fI cl.aF;let a8:=W.looks_subIn (M:=M) fI cl.e;let Dg:=W.looks_subIn (M:=M) fI bz.sub;let NQ:W.Looks M s.Q (isType<|.ref OG) Y0:=by
  let(cd,q):=zd.mp cl.cls;delta W.clsIn at q;split at q
  .rename_i aX;intro A' fi oa s' k ej;delta isType loadHead;show a7<|wpAny_loadPart (k _ _<|fI _ _ aX)<|bW ej
  .ext q
 let W2:W.Looks M s.Q (typeOf<|.ref e) ZH:=aI▸(W.Looks.ld he).andThen .now;let W3:W.Looks M s.Q (isExcClass<|.ref OG) Y0:=by delta isExcClass;show NQ.andThen ?_;erw[MR];show a8
 delta excMatches
 repeat (first|(with_reducible show Ig.here ?_)|(with_reducible show W3.here ?_)|(with_reducible show W2.here ?_)|(with_reducible show Dg.here ?_)|wp_step)
 show bc
section
variable {X:bK}{L:MC}{ah:O Z2}{U:St}{H ak:aM}{s:aN}
def name_goes{i:Y}(I:aT X ah U H s)(eu:X.N.Nodup)(hi:X.N[i]?=J x)(aW:X.env.scope.names.lookup x=J .local)
  (h:∀s',aT X ah (U.set i C) H s'->Q () s'):bj M A (do bindName X.I x .none;unbindBehindTheSuite X.I x pos) Q E s:=by
 let(m,bI,az):=id I.loc;let L0:(X.I.h.kind==.class||(X.I.h.kind==.module&&X.I.locals != X.I.globals))=Y1:=by rw[I.ok.kind];rfl
 let pq:=I.pq;show wpAny_nameGoes_keeps aW bI L0 λh' v ID aK=>?_;let(Nr,_,_,xT,_):=id bI;let zT:∀b o,X.cT.heap.get? b=J o->b≠X.I.locals:=λb o e=>eP<|dX (ed e) I.ok.above;show h _ ⟨I.ok,I.os,I.dx,⟨λb o e n ao au=>(aK.2 b<|zT b o e).trans (I.base.keep b o e n ao au),λb o e n ao au=>?_,I.e.free,λb o e au=>?_,I.e.pZ,I.e.oI⟩,{_,ID,λj y f5 aB ax bq=>?_},λy c e=>?_,I.free,I.kW,λp aC=>?_,λb cx e=>?_,by simpa using I.len⟩
 .let(cW,aB):=I.base.slot b o e n ao au;show{cW,(aK.2 b<|zT b o e).trans aB}
 .let(dc,aB):=I.base.there b o e au;show{dc,(aK.2 b<|zT b o e).trans aB}
 .let bJ:j≠i:=λz=>by subst z;rw[wQ]at ax;erw[MR]at ax;split at ax<;>ext ax
  rw[G0<|M4 bJ]at ax;let(ft,bU,q):=az j y f5 aB ax bq;show{ft,bU,?_};rcases q with⟨k,e⟩|⟨k,c,e,z⟩
  .let pP:y≠x:=λe=>bJ<|DF eu aB<|e▸hi;show .inl {k,by simp[pP,e]}
  .show .inr {k,c,e,z.sameBut aK<|pq y c e}
 .let(fB,z):=I.cell y c e;show{fB,z.sameBut aK<|pq y c e}
 .let(e,n,ne,n3,d):=I.pin p aC;show{(aK.2 p.1 ne).trans e,n,ne,n3,d}
 .show(I.bX b cx e).mc (λfB q=>(aK.2 b<|by rintro rfl;rw[I.free]at e;cases e).trans q) λ_ _ q=>q
def dD.blank{K:MN}{B:aM}{S:bF}{n n':Y}{U U':St}{H ak:aM}(R:dD K B L S n U H)(az:U'.H=S.H)(x:dC L B ak)(y:dt L n' ak):dD K B L (ML S.H C) n' U' ak:=by
 let no:∀(i:Y) (p:T×a9),(ML S.H (C:MB ZE))[i]?≠J (J p):=λi p z=>by rw[yY]at z;split at z<;>ext z
 show{x,y,R.lH,by rw[mX,az],λi t e=>(no i _ e).elim,λi t e=>(no i _ e).elim,λi t e=>(no i _ e).elim,λi t e=>(no i _ e).elim,λi j t t' a e=>(no i _ e).elim}
inductive p8 (X:bK) (OG:MC):O Y->Prop
 |nil:p8 X OG []
 |cons {c:Y} {cs:O Y} {aP:MC}:X.bf (pE c)=J ZH->yS X.K aP OG->p8 X OG cs->p8 X OG (c::cs)
theorem p8.at:∀{cs:O Y},p8 X OG cs->∀{c:Y} {aP:MC},c∈cs->X.bf (pE c)=J ZH->yS X.K aP OG
 |_,.cons hm bz r,c,aP,aI,e=>by
  rcases cF.mp aI with rfl|aI
  .rw[hm]at e;ext e;show bz
  .show p8.at r aI e
def ajP{n:Y}(jY:X.stack=X.I::cu)(hf:X.I.frame=J X.I.locals)(ao:∀E p,iy (vP X E p) L body b)(A4:∀E p,mP Y0 (vP X E p) L body fu)
  (I:aT X ah U H s) (R:dD X.K B L S n U H)
  (ae:fu S n=C->∃f S' n',b S n=J (f,S',n')/\KF X.K B L f S' n' OG H)
  (ai:∀c aY,fu S n=J (c,aY)->∀e aP ak s3,Exc Y0 X ah ak s3 e aP->eT H ak->dC L B ak->dt L aY ak->X.bf (pE c)=J ZH->bj Z4 X.A (handleBy (.ref e) X.I [hd]) (oY X ah OG) X.cL s3) :
  bj Z4 X.A (exec (.Try body [hd] [] [] pos) X.I) (oY X ah OG) X.cL s:=by
 show wpAny_Try_except ?_;let go:∀xF:ay->aN->Prop,(∀c aY,fu S n=J (c,aY)->∀e aP ak s',Exc Y0 X ah ak s' e aP->eT H ak->dC L B ak->dt L aY ak->X.bf (pE c)=J ZH->xF (.ref e) s')->bj Z4 X.A (execs body X.I) (λf d2=>match f with|.next=>bj Z4 X.A (execs [] X.I) (oY X ah OG) X.cL d2|f=>oY X ah OG f d2) xF s:=λxF u3=>by
  let bt:=am6 I xF;cases au:fu S n with
  |none =>
   let(f,S',n',e,k):=ae au;show cm (ao xF (X.gB++ah) B S n f S' n' e [] s U H OG bt {(R),k}) λb2 s1 q=>?_;cases b2 with
   |next=>let(U',ak,c0,q):=q;show zl {U',ak,A5 c0,q}
   |brk=>let(U',ak,c0,q):=q;show{U',ak,A5 c0,q}
   |cont=>let(U',ak,c0,q):=q;show{U',ak,A5 c0,q}
   |ret u=>let(v,U',ak,c0,r,q):=q;show{v,U',ak,A5 c0,r,q}
  |some r =>
   let(c,aY):=r;show cm (A4 xF (X.gB++ah) B S n c aY au [] s U H { bC:=λ_ _=>MP,ba:=λ_ _=>MP} bt {R,λGr e aP ak s' x f1 f2 et f4=>u3 c aY au e aP ak s' (alG x) f1 f2 et f4}) λb2 s1 q=>?_;cases b2 with
   |next=>let(U',ak,c0,q):=q;show q.elim
   |brk=>let(U',ak,c0,q):=q;show(show MP from q).elim
   |cont=>let(U',ak,c0,q):=q;show(show MP from q).elim
   |ret u=>let(v,U',ak,c0,r,q):=q;show q.elim
 show go _ λc aY au e aP ak s' x f1 f2 et f4=>am7 jY hf I.ok.frames x λs3 cy=>ai c aY au e aP ak s3 cy f1 f2 et f4
def UW(X:bK)(L:MC)(i:Y)(GA:O MM)(cs:O Y)(h:Y->MB T):Prop:=∀c t,c∈cs->h c=J t->∀aP,X.bf (pE c)=J ZH->∀(e:MC) (oe:MT),oe.cls=.ref aP->oe.dict=C->(∃ag,oe.Y=.fields ag) ->
 ∃b6:br,iy (vO X (.ref e)<|X.gB++[(e,oe)]) L GA b6/\∀n,∃S',b6 ((ML X.N.H C).set i (J (.cx e,.aa))) n=J (.ba t Y1,S',n)
def alH(i:Y){body GA:O MM}{NR:MM}{cs:O Y}{b:br}{fu:gE}{h:Y->MB T}{OG nm:ME}{ho:MC}{o9 aC pos:MK}{cu:O Env}(jY:X.stack=X.I::cu)(hf:X.I.frame=J X.I.locals)(ao:∀E p,iy (vP X E p) L body b)(A4:∀E p,mP Y0 (vP X E p) L body fu)
  (ai:UW X L i (NR::GA) cs h) (gQ:X.bf OG=J (.ref ho)) (cl:Clause X.K ho) (rP:p8 X ho cs) (eu:X.N.Nodup) (hi:MD (X.N[i]?=J nm) rc) (aW:MD (X.env.scope.names.lookup nm=J .local) rc) (bL:MD (fP X OG) rc) (f9:MD ((OG==("__debug__" : ME))=Y1) eY) :
  hG X L (.Try body [.ExceptHandler (J<|.Name OG o9) (J nm) (NR::GA) aC] [] [] pos) (Ar cs b fu h):=by
 intro B S n f S' n' hd ah s U H W4 I ⟨R,k⟩;delta Ar at hd;show ajP jY hf ao A4 I R (λe=>?_) λc aY au e aP ak s3 x f1 f2 et f4=>?_
 .rw[e]at hd;show{(f),S',n',hd,k}
 .rw[au]at hd;let hd:(if c∈cs then(h c).map λt=>(ie.ba t Y1,S,aY) else C)=J (f,S',n'):=hd;by_cases aI:c∈cs
  .rw[Y2 aI]at hd;let(t,aB,ax):=dR hd;cases ax;let(U3,oe,gD,aV,bb,c1,gn,iw,Nt,_):=x.inv;let W5:aT (vO X (.ref e)<|X.gB++[]) ah U3 ak s3:=QN gD _ λp aC=>MI aC Z5;show wpAny_handleBy_cons (codeAny_handlers_test<|vf W5 bL gQ ?_ f9) (by intro z;cases z);show adK (M:=bo X.R X.w) gD.iJ aV bb cl (rP.at aI f4) ?_;show codeAny_handlers_suite_as (adJ x λs4 cv=>?_);let(U4,EU,ja,c5,cP,kh,xx,NS,W6,W7,ag,tt,W8,aoq):=cv.inv;let(b6,g1,g2):=ai c t aI aB aP f4 e EU cP W7 {(ag),W8};let(S2,g2):=g2 n'
   let W9:aT (vO X (.ref e)<|X.gB++[(e,EU)]) ah U4 ak s4:=QN ja _ (λp aC=>by
    let:p=(e,EU):=by simpa using aC
    subst this
    show{(c5),kh,xx,NS,W6})
   let az:U4.H=S.H:=by rw[ja.len,R.len,I.len]
   let adL:X.N.H=S.H:=by rw[R.len,I.len]
   show IF (X:=vO X (.ref e)<|X.gB++[(e,EU)]) (v:=.ref e) W9 eu hi (.inl aW) P (λs5 Xa=>?_)<|.inr aW;let zL:dD X.K B L (ML S.H C) n' U4 ak:=R.blank az f2 et;let H5:=zL.p4 (i:=i) (t:=.cx e) (v:=.ref e) (by rw[aL]);rw[adL]at g2;show hE (g1 B _ n' (.ba t Y1) S2 n' g2 ah s5 _ ak { bC:=λ_ _=>MP,ba:=W4.ba} Xa {H5,k.cq f1}) (λb2 lV q=>?_) λ_ _ z=>MY z;cases b2 with
   |next=>let(U',ak,c0,q):=q;show q.elim
   |brk=>let(U',ak,c0,q):=q;show(show MP from q).elim
   |cont=>let(U',ak,c0,q):=q;show(show MP from q).elim
   |ret u =>
    let(v,U',eK,c0,r,q):=q;show name_goes (adH I.ok c0) eu hi aW λrp Xb=>{v,_,eK,Xb,r,q}
  .rw[Y3 aI]at hd;ext hd
end
structure nE (K:MN) (aP:MC):Prop where
 cls:(W.clsIn K aP).isSome=Y0
 ga:W.findIn K ZH "__getattribute__" = J (J<|.builtin "BaseException.__getattribute__")
 gt:W.findIn K ZH "__getattr__" = J C
 cl:W.findIn K ZH "__class__" = J (J<|.builtin "object.__class__")
 get:W.specialIn K (.builtin "object.__class__") "__get__" = J (J<|.builtin "getset_descriptor.__get__")
 bz:W.takesIn K (.builtin "object.__class__")=J Y0
 be:MX K ZH (.type "BaseException")=J Y0
 cx:W.mroIn K aP (.type "object")=J Y0
section
variable {K:MN}{x aP:MC}{Dh:MT}
def ajQ(X:nE K aP)(fI:K.In h):W.Looks M h (isType ZH) Y0:=by
 let(cd,q):=zd.mp X.cls;delta W.clsIn at q;split at q
 .rename_i aX;intro A' fi oa s' k ej;delta isType loadHead;show a7<|wpAny_loadPart (k _ _<|fI _ _ aX)<|bW ej
 .ext q
def QO(X:nE K aP):W.findObj K aP C "__class__" = J (.bind (.builtin "getset_descriptor.__get__")<|.builtin "object.__class__"):=by let(cd,q):=zd.mp X.cls;delta W.findObj;rw[q,eC,X.cl,eC];let aB:=X.get;let ax:=X.bz;show(Oi (W.specialIn K (.builtin "object.__class__") "__get__") _)=_;rw[aB,eC];show(Oi (W.takesIn K<|.builtin "object.__class__") _)=_;rw[ax];rfl
def adM(X:nE K aP){prog:dn}{w:cV}{A:dH}{E:ay->aN->Prop}{bg:MJ}{g:MH GenState}{d:Drawn}{t:Y}{os:OsState}{bz:Tok}{Q:Fin->aN->Prop}(fI:K.In bg)(I:W.InstAt bg x Dh aP C)(bc:Q (.done<|.ret ZH) {(bg),g,d,t,os}) :
  bj ZB A (Builtin.«object.__getattribute__» {[.ref x,.str "__class__" bz],[]}) Q E {(bg),g,d,t,os}:=by
 let Di:=I.type (M:=bo prog w);let Dg:=W.looks_find (M:=bo prog w) fI I<|QO X;show a7 (m:=slotArgs "__getattribute__" 1 {[.ref x,.str "__class__" bz],[]})<|bW<|a7<|bW<|a7<|Di.at<|a7<|Dg.at ?_;show bj _ _ (Builtin.ObjectAttr.bindTo (.builtin "getset_descriptor.__get__") (.builtin "object.__class__") (.ref x) ZH) _ _ _;show bj _ _ (m6 [.builtin "object.__class__"] (call (.builtin "getset_descriptor.__get__") [.builtin "object.__class__",.ref x,.ref aP]) >>= ret) _ _ _;show a7<|ky<|w7<|W.class_get (s:={(bg),g,d,t,os}) fI I X.cx<|bW bc
def am8(X:nE K aP){prog:dn}{w:cV}{A:dH}{bg:MJ}{g:MH GenState}{d:Drawn}{t:Y}{os:OsState}{bz:Tok}{R:Result->aN->Prop}(fI:K.In bg)(I:W.InstAt bg x Dh aP C)(bc:R (.ok<|.ret ZH) {(bg),g,d,t,os}) :
  mv ZB A (.call (.builtin "BaseException.__getattribute__") {[.ref x,.str "__class__" bz],[]}) R {(bg),g,d,t,os}:=by
 let aW:builtinKind "BaseException.__getattribute__" = J .slot:=by decide+kernel
 let aK:splitId "BaseException.__getattribute__" = J ("BaseException","__getattribute__"):=by decide+kernel
 let tw:W.Looks ZB bg (isInstance (.ref x)<|.type "BaseException") Y0:=(I.type (M:=bo prog w)).andThen (W.looks_subIn fI X.be);let bL:argsOk "BaseException.__getattribute__" {.ref x::[.str "__class__" bz],[]}:=PySem.F.args_bexc_ga (.ref x) _;show codeAny_call_builtin PySem.F.attrBase_ValueError.ga.plain PySem.F.entry_bexc_ga ?_;show W.check_slot (i:="BaseException.__getattribute__") (owner:="BaseException") (n:="__getattribute__") (self:=.ref x) (rest:=[.str "__class__" bz]) (kw:=[]) aW aK tw bL ?_;show adM X fI I bc
def adN(X:nE K aP)(fI:K.In s.Q)(I:W.InstAt s.Q x Dh aP C)(bc:Q (J ZH) { s with toks:=s.toks+1}) :
  bj ZB A (getAttr? (.ref x) "__class__") Q E s:=by
 let(bg,g,d,t,os):=s;let Di:=I.type (M:=bo prog w);let Ig:=W.looks_findIn (M:=bo prog w) fI X.ga;let a8:=W.looks_findIn (M:=bo prog w) fI X.gt;let Dg:=W.looks_find (M:=bo prog w) fI I<|QO X;let NQ:W.Looks ZB bg (isInstance (.ref x)<|.type "BaseException") Y0:=Di.andThen<|W.looks_subIn fI X.be;let EK:(Value.builtin "BaseException.__getattribute__" == Value.builtin "object.__getattribute__")=Y1:=by decide+kernel
 delta getAttr? getAttrBy? getAttrBy;show a7<|wpAny_mkText<|a7<|sM<|ky<|a7<|Di.at<|a7<|Ig.at ?_;dsimp only;rw[EK,Cy];erw[iB,MU];delta getAttrByItsOwn hookBefore;show a7 ?_;rw[Y2 (show onTheHeap (M3 aP)=Y0 from P)];show a8.at ?_;show a7<|sM<|ky ?_;delta callGetattribute;erw[Ho,iB,MU];delta boundAndCalled;let et:=PySem.F.attrBase_ValueError.ga.bind<|.ref x;show a7 ?_;rw[et];show bW ?_;show w7<|am8 X fI I<|W.handed_on P<|bW bc
def alI(X:nE K aP):W.KitX K (.ref x) ZH (λh=>W.InstAt h x Dh aP C) where
 ty:=λ_ _ _ I=>I.type
 it:=λ_ _ fI _=>ajQ X fI
 ne:=λh tp dd aZ n cW fI adO=>by
  let(cd,q):=zd.mp X.cls;show Bool.eq_false_iff.mpr λz=>?_;let e:aP=tp:=Value.ref.inj<|beq_iff_eq.mp z;subst e;delta W.clsIn at q;split at q
  .rename_i aX;let z:=(fI _ _ aX).symm.trans adO
   ext z
  .ext q
 ca:=λfI I k=>adN X fI I k
end
section
variable {X:bK}{L:MC}
def alJ{e n:Y}{b:MF}(h:nu e b n [t]=J r):t=.cx e/\r=(.aU b,.aa):=by
 induction t using T.casesOn with
 |cx y =>
  let h:(if y=e then J (T.aU b,a9.aa) else C)=J r:=h;by_cases z:y=e
  .rw[Y2 z]at h;ext h;show{by rw[z],P}
  .rw[Y3 z]at h;ext h
 |_=>ext h
def VE{e aP:MC}{oe:MT}{ev:MG}{b:MF}{d:bS}{x:ME}{xG:ay}{p g8 pos:MK}(aC:(e,oe)∈X.gB)(aI:oe.cls=.ref aP)(qX:oe.dict=C)(bu:∃ag,oe.Y=.fields ag)(iI:nE X.K aP)(h:bM X L ev d)(aW:M6 X.K ZH xG=J b)(hm:X.bf "isinstance" = C)
  (ld:∀{ah:O Z2} {s:aN} {U:St} {H:aM} {Q:ay->aN->Prop},aT X ah U H s->Q xG s->bj Z4 X.A (MO (.Name x g8) X.I) Q X.cL s) (bL:fP X "isinstance")
  (he:cA [ev,.Name x g8] X.I=(Y1,MO ev X.I)::cA [.Name x g8] X.I) (lI:cA [.Name x g8] X.I=(Y1,MO (.Name x g8) X.I)::cA [] X.I) (fN:(gM pos<|cA [.Name x g8] X.I).any (·.1)=Y1) (ao:nZ "isinstance" = J (.builtin "isinstance")) :
  bM X L (.Call (.Name "isinstance" p) [ev,.Name x g8] [] pos) (aD (nu e b)<|af d aw):=by
 intro B S n t m n' hd ah s U H Q I ⟨R,nc⟩;let(t0,m0,f1,bq):=Av hd;have⟨eU,iT⟩:=alJ (show nu e b n' [t0]=J (t,m) from bq)
 ext iT
 subst eU;show oT<|nq I bL hm ao ?_;show Vl ?_ he fN;rw[he];show kc (cm (h.run f1 I R) λu s1 ⟨v,H1,bt,bx,a1,bN,cb⟩=>?_);rw[lI];show kc<|ld bt ?_;show nY ?_;let ba:aL L H1 (.cx e) v:=cb.root bN R.aR;rw[aL]at ba;subst ba;obtain rfl:u=M3 e:=bx;let q:=(bt.pin (e,oe)<|nO _ aC).1;let(ag,bu):=bu;let c0:W.InstAt s1.Q e oe aP C:={q,aI,by delta W.notCls;rw[bu],by rw[qX];trivial}
 show Nh (alI iI) bt.iJ c0 aW (λz=>nomatch z) λbz=>?_;show{.aU b,H1,bt.tok bz,P,nc _ H1 a1 bN.aR<|by show aL L H1 (.aU b) _;rw[aL]}
def ym{e aP OG:MC}{oe:MT}{ev:MG}{b:MF}{d:bS}{x:ME}{p g8 pos:MK}(aC:(e,oe)∈X.gB)(aI:oe.cls=.ref aP)(qX:oe.dict=C)(bu:∃ag,oe.Y=.fields ag)(iI:nE X.K aP)(h:bM X L ev d)(aW:M6 X.K ZH (.ref OG)=J b)(hm:X.bf "isinstance" = C)(gQ:X.bf x=J (.ref OG))
  (bL:MD (fP X "isinstance") rc) (Kn:MD (fP X x) rc) (f9:MD ZF eY)
  (he:MD (cA [ev,.Name x g8] X.I=(Y1,MO ev X.I)::cA [.Name x g8] X.I) rc) (lI:MD (cA [.Name x g8] X.I=(Y1,MO (.Name x g8) X.I)::cA [] X.I) rc) (fN:MD ((gM pos<|cA [.Name x g8] X.I).any (·.1)=Y1) rc) (ao:MD (nZ "isinstance" = J (.builtin "isinstance")) az11._auto_1) :
  bM X L (.Call (.Name "isinstance" p) [ev,.Name x g8] [] pos) (aD (nu e b)<|af d aw) :=
 VE aC aI qX bu iI h aW hm (λI q=>vf I Kn gQ q f9) bL he lI fN ao
def ajR{e aP:MC}{oe:MT}{ev:MG}{b:MF}{d:bS}{x:ME}{TT:M8}{p g8 pos:MK}(aC:(e,oe)∈X.gB)(aI:oe.cls=.ref aP)(qX:oe.dict=C)(bu:∃ag,oe.Y=.fields ag)(iI:nE X.K aP)(h:bM X L ev d)(aW:M6 X.K ZH (.type TT)=J b)(hm:X.bf "isinstance" = C)(gQ:X.bf x=C)(adP:nZ x=J (.type TT))
  (bL:MD (fP X "isinstance") rc) (Kn:MD (fP X x) rc) (bI:MD (x ≠ "__name__") eY) (f9:MD ZF eY)
  (he:MD (cA [ev,.Name x g8] X.I=(Y1,MO ev X.I)::cA [.Name x g8] X.I) rc) (lI:MD (cA [.Name x g8] X.I=(Y1,MO (.Name x g8) X.I)::cA [] X.I) rc) (fN:MD ((gM pos<|cA [.Name x g8] X.I).any (·.1)=Y1) rc) (ao:MD (nZ "isinstance" = J (.builtin "isinstance")) az11._auto_1) :
  bM X L (.Call (.Name "isinstance" p) [ev,.Name x g8] [] pos) (aD (nu e b)<|af d aw) :=
 VE aC aI qX bu iI h aW hm (λI q=>nq I Kn gQ adP q bI f9) bL he lI fN ao
end
structure sy (k:Y) (A:dH):Prop where
 o9:A.depth+3*k+5<HH
 un:A.units+16*k+200<fA
def fs.held{k:Y}(r:fs k A)(v:MB ay):sy k<|A.mark v:={(r.o9),r.un}
def sy.tg{k:Y}(r:sy k A):A.units+6<fA:=by let:=r.un;omega
def sy.BW{k:Y}(r:sy k A):A.units<fA:=by let:=r.un;omega
def Holds(cu:O Env)(H:aM)(h:MJ)(q:O Z2):Prop:=∀p∈q,h.get? p.1=J p.2/\H p.1=C/\p.1∉hK cu/\∀v,p.2.Y≠.cell v
structure EV (V8:dn) (w:cV) (K:MN) (bf:ME->MB ay) (base:MJ) (k:Y) (f:MC) (fd:iD) (ps:O ME) (q:O Z2) (sp:n7):Prop where
 len:∀ag H Q E,sp ag H Q E->ag.H=ps.H
 run:∀(A:dH) (cu:O Env) (s:aN) (H:aM) (args:PySem.Args) (us:O ay) (ag:O V) (Q:fC),sy k A->yL V8 w K bf base A cu s H->uC s fd args (ps.zip us)->cR ag us->Holds cu H s.Q q->sp ag H Q sY ->
  mv (bo V8 w) A (.call (.ref f) args) (qbu jD cu V8 w H s Q sY) s
abbrev VF(q:O Z2)(V8:dn)(w:cV)(K:MN)(bf:ME->MB ay)(base:MJ)(N:O ME)(qual:ME)(scope:jN)(f:MC)(cd:ay)(A:dH)(cu:O Env)(s:aN)(H:aM):bK :=
 { j8 jD V8 w K bf base N qual scope f cd A cu s H sY with calm:=Y1,gB:=q,cL:=λ_ _=>MP}
def ajS{L:MC}{V8:dn}{w:cV}{K:MN}{bf:ME->MB ay}{base:MJ}{x qual:ME}{st:MM}{f:MC}{fd:iD}{N ps:O ME}{lv:Y}{b:br}{q:O Z2}(F:qI K x qual st f fd)(cp:mV N ps<|eM st)
  (kX:∀(dm:ay) (A:dH) (cu:O Env) (s:aN) (H:aM),sy lv (A.deeper<|jm qual (eM st) s.L f dm)->iy (VF q V8 w K bf base N qual (eM st) f dm A cu s H) L (iZ st) b) :
  EV V8 w K bf base (lv+1) f fd ps q (qN K L ps.H<|ea N.H b):=by
 let(jP,g6,eV,doc,pm,an,dm,eZ,qH,rfl,kd,hs):=F.ex;show{λag H Q E h=>h.1,λA cu s H args us ag Q a4 d8 ao r bc lB=>?_};let(az,aE,n,t,m,n',a,aR,e,k):=lB;let((b2,S',aY),aB,ax):=cE e;let fI:K.In s.Q:=d8.mod.fI.keeps λb o z=>(d8.bs b o z).1;let oq:s.Q.NoLimit:=d8.mod.nolimit.keeps λb o z=>(d8.bs b o z).1;let kinds:∀y∈ps.zip us,(eM st).names.lookup y.1=J .local\/((eM st).names.lookup y.1=J .cell/\((cellsFrom (s.L+1) (eM st).l []).lookup y.1).isSome=Y0):=λ⟨bE,bR⟩ aJ=>by
  rcases cp.par bE (Cb aJ).1 with z|z
  .show .inl z
  .show .inr {z,W.cellsFrom_some _ _ _<|.inl z}
 show codeAny_call_function (by let:=a4.o9;omega) (fI _ _ kd) P cp.co cp.gen P (W.codeRec_of fI hs)<|ao _ _ _ _ ?_;show qa8 cp.kind kinds λenv he s1 x=>?_;subst he;show{oq.keeps x.toInCall.keep,codeAny_func ?_};let adQ:yL V8 w K bf base { A with handled:=C} cu s H:=⟨d8.frames,d8.mod,d8.bs,d8.nj,d8.kS,d8.pn,d8.bX,d8.dx⟩
 let g7:aT (j8 jD V8 w K bf base N qual (eM st) f dm { A with handled:=C} cu s H sY) [] (start N ag) H s1:=qbA cp rfl adQ az r x;let I:aT (VF q V8 w K bf base N qual (eM st) f dm A cu s H) [] (start N ag) H s1 :=
  ⟨{g7.ok.mod,g7.ok.kind,g7.ok.glob,g7.ok.blt,g7.ok.above,g7.ok.inj,g7.ok.has,g7.ok.rM,λz=>(nomatch z),Around.frames_deeper d8.frames,g7.ok.tl,g7.ok.tm,g7.ok.bs,g7.ok.nj,g7.ok.sk,g7.ok.sl,g7.ok.kS,g7.ok.pn},g7.os,g7.dx,g7.e,g7.loc,g7.cell,g7.free,g7.kW,λp aC=>by
   let(ae,ai,aS,dp):=bc p (by simpa using aC)
   show{x.toInCall.keep _ _ ae,ai,eP<|dX (ed ae) g7.ok.above,aS,dp},g7.bX,g7.len⟩
 let mQ:sy lv<|A.deeper<|jm qual (eM st) s.L f dm:={by let:=a4.o9;show A.depth+1+3*lv+5<_;omega,by let:=a4.un;show A.units+3+16*lv+200<_;omega}
 let aW:KF K H L b2 S' aY { bC:=λ_ ak=>Q .b0 ak,ba:=Q} H:=by
  cases b2 with
  |ba t0 m0=>ext ax;show λv ak _ x y z=>k v ak x y z
  |bC=>ext ax;show λU' ak _ R=>k .b0 ak R.ext R.aR (by show aL L ak .b0 _;rw[aL])
  |eD=>ext ax
  |eZ=>ext ax
 show hE (kX dm A cu s H mQ H _ n b2 S' aY aB [] s1 (start N ag) H _ I {Jz a aR,aW}) (λIh s' aK=>?_) λ_ _ z=>MY z;cases Ih with
 |ret u =>
  let(v,U',ak,c0,bh,q):=aK;show{(v),ak,c0.os,c0.dx,c0.e,c0.bX,bh,q}
 |next =>
  let(U',ak,c0,q):=aK;show{.b0,ak,c0.os,c0.dx,c0.e,c0.bX,P,q}
 |brk=>let(_,_,_,q):=aK;show(show MP from q).elim
 |cont=>let(_,_,_,q):=aK;show(show MP from q).elim
section
variable {X:bK}{L:MC}
def am9{f:dV}{lv:Y}{e6:MC}{fd:iD}{ps:O ME}{x:ME}{p pos:MK}{e:MG}{es:O MG}{a:jS}{e3:Y}{q:O Z2}(F:EV X.R X.w X.K X.bf X.e lv e6 fd ps q<|qN X.K L e3 f)(a4:sy lv X.A)(bc:∀y∈q,y∈X.gB)(jY:X.stack=X.I::X.cu)(hf:X.I.frame=J X.I.locals)(hm:X.bf x=J (.ref e6))(aW:Nl X.K (.ref e6)=Y0)
  (ao:Binds X.K fd ps []) (bl:SB X L (e::es) a) (bL:MD (fP X x) rc) (f9:MD ZF eY) (he:MD Zb rc)
  (fN:MD ((gM pos<|cA es X.I).any (·.1)=Y1) rc):bM X L (.Call (.Name x p) (e::es) [] pos)<|cD e3 f a:=by
 intro B S n t m n' hd ah s U H Q I ⟨R,k⟩;let((aE,aY),aB,ax):=cE hd;by_cases az:aE.H=e3
 .rw[Y2 az]at ax;let((t1,df,ck),bq,cC):=dR ax;cases cC;show oT<|vf I bL hm ?_ f9;show W.callWith_K (h₀:=X.e) I.ok.mod.fI aW (cm (bl B S n aE aY aB pos ah s U H (λag ak=>dC L H ak/\dt L aY ak/\Args X.K L ak aE ag) I {R,λag ak x y z=>{(x),y,z}}) λus s1 ⟨ag,H1,bt,r,bE,dZ,dB⟩=>{bt.iJ,?_}) he fN;let lB:qN X.K L e3 f ag H1 Q sY:={dB.H▸az,aE,aY,t1,df,ck,dB,dZ,bq,λv eK a b c=>k v eK (bE.trans a) b<|c.base.back bE dZ}
  let el:us.H=ps.H:=by rw[<-r.H];show F.len _ _ _ _ lB
  let mL:=ao s1 us bt.iJ (by simpa using el);rw[nQ]at mL;let bg:Holds X.stack H1 s1.Q q:=λy aJ=>by
   let(ae,ai,aS,dp,fL):=bt.pin y<|nO _<|bc y aJ;show⟨ae,ai,λz=>?_,fL⟩;rw[jY]at z;let z:y.1∈(X.I::X.cu).filterMap (·.frame):=z;rw[wO,hf]at z;rcases cF.mp z with z|z
   .show aS z
   .show dp z
  show w7 (sN (F.run X.A X.stack s1 H1 {us,[]} us ag _ a4 bt.L2 mL r bg lB) λjq s' lJ=>?_);cases jq with
  |error ev=>show MY lJ
  |ok b2 =>
   cases b2 with
   |ret u=>show bt.after lJ
   |next=>show MY lJ
   |brk=>show MY lJ
   |cont=>show MY lJ
 .rw[Y3 az]at ax;ext ax
end
def EW(V8:dn)(w:cV)(K:MN)(bf:ME->MB ay)(base:MJ)(lv:Y)(x:ME)(ps:O ME)(f:l4)(L:MC):Prop :=
 ∃e6 fd,kT V8 w K bf base (oy V8 w) lv e6 fd ps (A3 bf K L ps.H f)/\Binds K fd ps []/\Nl K (.ref e6)=Y0/\bf x=J (.ref e6)
def ana{b2:MF}{X:bK}{L:MC}{f:l4}{lv e3:Y}{ps:O ME}{x:ME}{p pos:MK}{e:MG}{es:O MG}{a:jS}(G:EW X.R X.w X.K X.bf X.e lv x ps f L)(a4:fs lv X.A)(bl:SB X L (e::es) a)(bI:MD (ps.H=e3) rc)(bL:MD (fP X x) rc)(f9:MD ZF eY)
  (he:MD Zb rc) (fN:MD ((gM pos<|cA es X.I).any (·.1)=Y1) rc):xD b2 X L (.Call (.Name x p) (e::es) [] pos)<|kJ e3 f a:=by
 subst bI;let(e6,fd,F,ao,aW,hm):=G;show alD F a4 hm aW ao bl bL f9 he fN
def iy.lift{X:bK}{L:MC}{st:O MM}{d:br}(h:iy X.ob L st d):iy X L st d:=λB S n f S' n' hd ah s U H OG I hw =>
 hE (h B S n f S' n' hd ah s U H OG (I.oJ _) hw) (λ_ _ q=>q.q8) λ_ _ z=>MY z
structure vR (K:MN) (OG:MC):Prop where
 cls:(W.clsIn K OG).isSome=Y0
 ty:W.typeIn K (.ref OG)=J (.type "type")
section
variable {K:MN}{aP OG:MC}
def Ko:M6 K ZH ZH=J Y0:=by delta M6;rw[Y2 Z5]
def ma(self:MX K ZH ZH=J Y0)(d:vR K OG)(sub:MX K ZH (.ref OG)=J Y1):M6 K ZH (.ref OG)=J Y1:=by
 let ne:aP≠OG:=λz=>by subst z;rw[self]at sub;ext sub
 delta M6;rw[Y3<|by simpa using ne];delta W.kitCls;erw[d.cls,d.ty,Nq,Bool.and_self,MR];show sub
def Kp(sub:MX K ZH (.type "ValueError")=J Y0):M6 K ZH (.type "ValueError")=J Y0:=by delta M6;rw[Y3 Z5];show(if W.kitMeta "ValueError" = Y0 then _ else C)=_;rw[Y2<|by decide+kernel];show sub
end
def QP(V8:dn)(w:cV)(K:MN)(bf:ME->MB ay)(base:MJ)(lv:Y)(x:ME)(cs:O Y)(h:Y->MB T)(L:MC):Prop :=
 ∃e6,Nl K (.ref e6)=Y0/\bf x=J (.ref e6)/\∀c t,c∈cs->h c=J t->∀aP,bf (pE c)=J ZH->∀(e:MC) (oe:MT),oe.cls=.ref aP->oe.dict=C->(∃ag,oe.Y=.fields ag) ->
  ∃(fd:iD) (ps:O ME) (f:dV),EV V8 w K bf base lv e6 fd ps [(e,oe)] (qN K L 1 f)/\Binds K fd ps []/\∀n,f [(.cx e,Y0)] n=J (t,Y1,n)
def anb{X:bK}{L:MC}(i:Y){lv:Y}{cs:O Y}{h:Y->MB T}{x nm:ME}{p Xc pos kB:MK}(G:QP X.R X.w X.K X.bf X.e lv x cs h L)(a4:fs lv X.A)(jY:X.stack=X.I::X.cu)(hf:X.I.frame=J X.I.locals)(hi:MD (X.N[i]?=J nm) rc)(bu:MD (qF X.I.h nm) az7._auto_1)(bL:MD (fP X x) rc)(f9:MD ZF eY)(Ep:MD ((nm==("__debug__" : ME))=Y1) eY)(hs:MD ((nm==("__classdict__" : ME))=Y1) eY) :
  UW X L i [.Return (J<|.Call (.Name x p) [.Name nm Xc] [] pos) kB] cs h:=by
 intro c t aI ct aP rz e oe ae ai aS;let(e6,aW,hm,G):=G;let(fd,ps,f,F,ao,ahd):=G c t aI ct aP rz e oe ae ai aS;let AY:i<X.N.H:=(kY.mp hi).1;show{dQ<|cD 1 f<|a0 (aq i) cw,?_,λn=>?_}
 .show D7<|D9<|am9 (X:=vO X (.ref e)<|X.gB++[(e,oe)]) F (fs.held a4 _) (λy aJ=>lN _ aJ) jY hf hm aW ao (Pb (pG i hi bu Ep hs) Vv P) bL f9 P P
 .show{(ML X.N.H C).set i (J (.cx e,.aa)),?_};let aB:aq i ((ML X.N.H C).set i (J (.cx e,.aa))) n=J (.cx e,.aa,n):=by delta aq;rw[wQ,Y2 P,Y2<|by rw[mX];show AY];rfl
  delta dQ cD a0;rw[aB];show Oi ((f [(T.cx e,Y0)] n).map _) _=_;rw[ahd];rfl
structure Fr where
 f:MC
 g6:MB MC
 an:MB MC
 cW:MH<|MB ay
 jP:ay
 eV:ay
 gR:ay
 pm:ay
 cd:ay
 eZ:ay
abbrev Fr.fd(r:Fr)(n:ME)(st:MM):iD:=Nf n n (pz st) (iZ st) (eM st) .none r.eV r.gR r.pm r.an r.cd r.eZ
def fv(K:MN)(n:ME)(st:MM)(r:Fr):Prop :=
 W.nsIn K k4 n=J (J<|.ref r.f)/\K.lookup r.f=J {r.jP,r.g6,.func<|r.fd n st,r.cW}/\W.codeIn K r.cd n=Y0/\Nl K (.ref r.f)=Y0
def alK{K:MN}{n:ME}{st:MM}{f:MC}{g6 an:MB MC}{cW:MH<|MB ay}{jP eV gR pm cd eZ:ay}(a:W.nsIn K k4 n=J (J<|.ref f))
  (l:K.lookup f=J {jP,g6,.func<|Nf n n (pz st) (iZ st) (eM st) .none eV gR pm an cd eZ,cW}) (c:W.codeIn K cd n=Y0) (k:Nl K (.ref f)=Y0):fv K n st {(f),g6,an,cW,jP,eV,gR,pm,cd,eZ}:={(a),l,c,k}
section
variable {K:MN}{n:ME}{st:MM}{r:Fr}
def fv.fn(h:fv K n st r):qI K n n st r.f<|r.fd n st:=aja h.2.1 h.2.2.1 h.2.2.2
theorem fv.bf{h0:MJ}{bf:ME->MB ay}(h:fv K n st r)(X:K.In h0)(G:h0.Ns k4 bf):bf n=J (.ref r.f):=W.mg_of X G h.1
def some_of{α:Type}{x:MB α}{a:α}(h:x=J a):x.isSome=Y0:=by rw[h];rfl
end
def vb{N V8:O ME}{sc:jN}(a:MD (sc.kind=.function) rc)(b:MD (sc.isCoroutine=Y1) rc)(c:MD (sc.isGenerator=Y1) rc)(d:MD (N.Nodup) az11._auto_1)(e:MD (N.take V8.H=V8) rc)(f:MD (∀x∈V8,sc.names.lookup x=J .local\/sc.names.lookup x=J .cell) az11._auto_1)(g:MD (∀y∈sc.l,y.2≠.free) az11._auto_1):mV N V8 sc:={(a),b,c,d,e,f,g}
def qB(n:ME)(st:MM)(ps:O ME):Prop:=∀(eV doc pm:ay) (an:MB MC) (dm eZ:ay) (us:O ay),us.H=ps.H->uB (Nf n n (pz st) (iZ st) (eM st) .none eV doc pm an dm eZ) {us,[]}=pure (ps.zip us)
def len0{V8:O ay->Prop}(h:V8 []):∀us:O ay,us.H=0->V8 us:=λus e=>by
 cases us with
 |nil=>show h
 |cons a us=>show Nat.noConfusion e
def q6{V8:O ay->Prop}{k:Y}(h:∀a (us:O ay),us.H=k->V8 (a::us)):∀us:O ay,us.H=k+1->V8 us:=λus e=>by
 cases us with
 |nil=>show Nat.noConfusion e
 |cons a us=>show h a us<|V3 e
section
variable {n:ME}{st:MM}{c5 cP kh xx NS:ME}
def ti(h:∀(eV doc pm:ay) (an:MB MC) (dm eZ a:ay),uB (Nf n n (pz st) (iZ st) (eM st) .none eV doc pm an dm eZ) {[a],[]}=pure [(c5,a)]):qB n st [c5]:=λk d p an c t=>q6 λa=>len0<|h k d p an c t a
def z3(h:∀(eV doc pm:ay) (an:MB MC) (dm eZ a b:ay),uB (Nf n n (pz st) (iZ st) (eM st) .none eV doc pm an dm eZ) {[a,b],[]}=pure [(c5,a),(cP,b)]):qB n st [c5,cP]:=λk d p an c t=>q6 λa=>q6 λb=>len0<|h k d p an c t a b
def z4(h:∀(eV doc pm:ay) (an:MB MC) (dm eZ a b c:ay),uB (Nf n n (pz st) (iZ st) (eM st) .none eV doc pm an dm eZ) {[a,b,c],[]}=pure [(c5,a),(cP,b),(kh,c)]):qB n st [c5,cP,kh]:=λk d p an c t=>q6 λa=>q6 λb=>q6 λe=>len0<|h k d p an c t a b e
def z5(h:∀(eV doc pm:ay) (an:MB MC) (dm eZ a b c d:ay),uB (Nf n n (pz st) (iZ st) (eM st) .none eV doc pm an dm eZ) {[a,b,c,d],[]}=pure [(c5,a),(cP,b),(kh,c),(xx,d)]):qB n st [c5,cP,kh,xx]:=λk d p an c t=>q6 λa=>q6 λb=>q6 λe=>q6 λf=>len0<|h k d p an c t a b e f
end
section
variable {V8:dn}{w:cV}{K:MN}{base:MJ}{L:MC}{n:ME}{st:MM}{r:Fr}{h0:MJ}{bf:ME->MB ay}{lv:Y}{N ps:O ME}
def adR(X:K.In h0)(G:h0.Ns k4 bf)(h:fv K n st r){b:br}
  (ao:∀(dm:ay) (A:dH) (cu:O Env) (s:aN) (H:aM) (E:iS),fs lv (A.deeper<|jm n (eM st) s.L r.f dm)->N.Nodup->iy (j8 jD V8 w K bf base N n (eM st) r.f dm A cu s H E).ob L (iZ st) b)
  (cp:MD (mV N ps<|eM st) az10._auto_1) (bi:MD (qB n st ps) az12._auto_1):C8 V8 w K bf base (lv+1) n ps (ea N.H b) L :=
 {_,_,ahN h.fn cp λc A o s H E a4=>ao c A o s H E a4 cp.bG,h.fn.binds bi,h.2.2.2,h.bf X G}
def ahe(X:K.In h0)(G:h0.Ns k4 bf)(h:fv K n st r){b:gE}
  (ao:∀(dm:ay) (A:dH) (cu:O Env) (s:aN) (H:aM) (E:iS),fs lv (A.deeper<|jm n (eM st) s.L r.f dm)->N.Nodup->mP Y1 (j8 (oy V8 w) V8 w K bf base N n (eM st) r.f dm A cu s H E) L (iZ st) b)
  (cp:MD (mV N ps<|eM st) az10._auto_1) (bi:MD (qB n st ps) az12._auto_1):EW V8 w K bf base (lv+1) n ps (fnX N.H b) L :=
 {_,_,ajJ h.fn cp λc A o s H E a4=>ao c A o s H E a4 cp.bG,h.fn.binds bi,h.2.2.2,h.bf X G}
end
section
variable {X:bK}{L:MC}{lv e3:Y}{ps:O ME}{x:ME}{p pos:MK}{e:MG}{es:O MG}{a:jS}
def ah0{f:dV}(G:C8 X.R X.w X.K X.bf X.e lv x ps f L)(bl:SB X L (e::es) a)(a4:MD (fs lv X.A) az9._auto_1)(bI:MD (ps.H=e3) rc)(bL:MD (fP X x) rc)(f9:MD ZF eY)
  (he:MD Zb rc) (fN:MD ((gM pos<|cA es X.I).any (·.1)=Y1) rc):bM X L (.Call (.Name x p) (e::es) [] pos)<|cD e3 f a:=am1 G a4 bl bI bL f9 he fN
def ah1{b2:MF}{f:l4}(G:EW X.R X.w X.K X.bf X.e lv x ps f L)(bl:SB X L (e::es) a)(a4:MD (fs lv X.A) az9._auto_1)(bI:MD (ps.H=e3) rc)(bL:MD (fP X x) rc)(f9:MD ZF eY)
  (he:MD Zb rc) (fN:MD ((gM pos<|cA es X.I).any (·.1)=Y1) rc):xD b2 X L (.Call (.Name x p) (e::es) [] pos)<|kJ e3 f a:=ana G a4 bl bI bL f9 he fN
end
section
variable {X:bK}{L:MC}{lv aoM e3:Y}{ps:O ME}{x y:ME}{p pos pos' e7 py wz:MK}{e elt iter:MG}{es ifs:O MG}{a:jS}{b2:MF}{scope:jN}{N':O ME}{fz:O<|MB Y}{d:iH}{c:fy}{jz:bS}
def Kq{i:Y}{cl:O<|ME×MC}{aP:MC}{cT:aN}{dS:aM}{fp:O MC}(bG:N'.Nodup)(eu:N'[i]?=J x)(az:scope.names.lookup x=J .local):s6 Za L (.Name x e7) (b4 i) :=
 Pj i bG eu (.inl<|lookup_relabel_local az) (.inr<|lookup_relabel_local az)
def anc(hi:rW X L (.Name x e7) iter d)(ct:∀{cl aP cT dS fp},tE (gT X (x::X.N) scope cl aP cT dS fp) L ifs c)(he:∀{cl aP cT dS fp},bM (gT X (x::X.N) scope cl aP cT dS fp) L elt jz)
  (aI:MD (X.calm=Y0) rc) (aP:mh X scope (x::X.N) fz:=by show .of) (bG:(x::X.N).Nodup:=by first|(show Oo (_::(_++_));decide)|(show Oo (_::_::(_++_));decide)) (az:MD (scope.names.lookup x=J .local) rc) (aK:MD (∀x,oU iter X.I x=pure x) rn) :
  bM X L (.ListComp elt [{.Name x e7,iter,ifs,0}] scope pos) (eX d (cY fz) (b4 0) c jz):=Jx aI aP bG hi (λ_ _ _ _ _=>Kq bG P az) (λ_ _ _ _ _=>ct) (λ_ _ _ _ _=>he) aK
def ane(i:Y)(hi:rW X L (.Name x e7) iter d)(ct:∀{cl aP cT dS fp},tE (gT X X.N scope cl aP cT dS fp) L ifs c)(he:∀{cl aP cT dS fp},bM (gT X X.N scope cl aP cT dS fp) L elt jz)
  (aI:MD (X.calm=Y0) rc) (aP:mh X scope X.N fz:=by show .of) (bG:X.N.Nodup:=by first|(show Oo (_++_);decide)|(show Oo (_::(_++_));decide)) (eu:MD (X.N[i]?=J x) rc) (az:MD (scope.names.lookup x=J .local) rc) (aK:MD (∀x,oU iter X.I x=pure x) rn) :
  bM X L (.ListComp elt [{.Name x e7,iter,ifs,0}] scope pos) (eX d (cY fz) (b4 i) c jz):=Jx aI aP bG hi (λ_ _ _ _ _=>Kq bG eu az) (λ_ _ _ _ _=>ct) (λ_ _ _ _ _=>he) aK
def adS(i:Y)(bI:X.N.Nodup)(hi:rW X L (.Name x e7) iter d)(ct:∀{cl aP cT dS fp},tE (gT X (x::X.N) scope cl aP cT dS fp) L ifs c)(he:∀{cl aP cT dS fp},bM (gT X (x::X.N) scope cl aP cT dS fp) L elt jz)
  (aI:MD (X.calm=Y0) rc) (aP:mh X scope (x::X.N) fz:=by show .of) (bG:(x::X.N).Nodup:=by first|(show Oo (_::(_++_));decide)|(show Oo (_::_::(_++_));decide)) (az:MD (scope.names.lookup x=J .local) rc)
  (gq:MD (X.N[i]?=J y) rc) (aJ:MD (X.env.scope.names.lookup y=J .local) rc) (Au:MD (qn (.ListComp elt [{.Name x e7,iter,ifs,0}] scope pos) (J<|.Name y py) wz.line X.I=pure Y0) rc) (aK:MD (∀x,oU iter X.I x=pure x) rn) :
  hG X L (.Assign [.Name y py] (.ListComp elt [{.Name x e7,iter,ifs,0}] scope pos) wz) (cX i<|eX d (cY fz) (b4 0) c jz):=abH i aI bI aP bG hi (λ_ _ _ _ _=>Kq bG P az) (λ_ _ _ _ _=>ct) (λ_ _ _ _ _=>he) gq aJ Au aK
def Gk:km X (hn .LtE) (uW λa b=>decide (a<=b)):=AA λ_ _ _ _ _ _ h=>le_int h
def UA(a4:fs lv X.A):fJ X L (two<|hn .Eq) hu:=UR a4.tg<|Px a4.BW
def ahf(a4:fs lv X.A):fJ X L (two<|hn .NotEq) hv:=US a4.tg<|Py a4.BW
end
end a8.bD
namespace a8.bD
open PySem PySem.Spec PyProof.Rows a8.Tm
section
variable {prog:dn}{w:cV}
inductive mW (prog:dn) (w:cV) (h:MJ):O Z0->O ay->Prop
 |nil:mW prog w h [] []
 |cons {l:O D} {b:MC} {ls:O Z0} {ag:O ay} (q:w8 (gL prog w) h l b) (r:mW prog w h ls ag):mW prog w h (l::ls)<|.ref b::ag
def mR(prog:dn)(w:cV)(h:MJ)(ls:O Z0)(a:MC):Prop:=∃o aZ m,h.get? a=J o/\o.cls=.type "tuple" /\ o.Y=.seq aZ m/\mW prog w h ls aZ.B
def mW.uniq(p:mW prog w h x ag)(q:mW prog w h y ag):x=y:=by
 induction p generalizing y with
 |nil=>ext q;rfl
 |cons c5 _ aQ =>
  cases q with
  |cons aV bb=>rw[c5.inj aV,aQ bb]
def mR.ty{s:aN}(x:mR prog w s.Q ls a):s.TypeIs ZM "tuple":=let ⟨o,_,_,aX,aI,_⟩:=x;{(o),aX,aI}
theorem mR.uniq(p:mR prog w h x a)(q:mR prog w h y a):x=y:=by
 let(o,aZ,m,ae,_,aS,dp):=p;let(dc,its',f3,g1,_,g3,gY):=q;rw[ae]at g1
 ext g1
 rw[aS]at g3
 ext g3
 show dp.uniq gY
def mW.mc{es ep}(aX:h.get? d=J o)(hd:o.Y=.dict es ep)(aK:Ni d h h')(p:mW prog w h x ag):mW prog w h' x ag:=by
 induction p with
 |nil=>show .nil
 |cons c5 _ aQ=>show .cons (c5.keeps aX hd aK) aQ
theorem mR.mc{es ep}(p:mR prog w h x a)(aX:h.get? d=J o)(hd:o.Y=.dict es ep)(aK:Ni d h h'):mR prog w h' x a:=by
 let(dc,aZ,m,ae,ai,aS,dp):=p;let ne:a≠d:=λz=>by
  subst z;rw[ae]at aX
  ext aX
  rw[aS]at hd
  ext hd
 show{dc,aZ,m,(aK.2 a ne).trans ae,ai,aS,dp.mc aX hd aK}
noncomputable def EX(ls:O Z0):Y:=(ls.map λl=>l.H+1).sum
variable {A:dH}{E:ay->aN->Prop}{s:aN}
def adT{Q:D->aN->Prop}(bP:A.units+2<fA)(aW:mR prog w s.Q ls a)(q:Q (DB prog w ls) { s with toks:=s.toks+(EX ls+1)}):bj (bo prog w) A (pyHash (.ref a)) Q E s:=by
 let T:=aW.ty;let(o,aZ,m,ae,_,aS,dp):=aW;delta pyHash;show a7<|wpAny_cRoomFor_or (.inr<|kb<|ei bP)<|a7<|CI T F.slot_tuple_hash.lookup ?_;show bj _ _ (if(J (Value.builtin "tuple.__hash__")==J M9)=Y0 then _ else _) _ _ _;rw[Y3<|by rw[beq_builtin_none];simp];show a7<|CI T F.slot_tuple_hash.lookup<|a7<|wpAny_callSpecialIfBoundUnlessNone?_slot T F.slot_tuple_hash<|mr F.slot_tuple_hash T F.entry_tuple_hash ?_<|F.args_tuple_hash_1 _;show bj _ _ (Builtin.Tuple.tupleItemsOf ZM >>= _) _ _ _;show a7<|HA ae aS<|a7 ?_;rw[<-qa1];show HF _ (λrest (c:MH D) s'=>∃pre post,ls=pre++post/\mW prog w s.Q post rest/\c.B=pre.map (CK<|gL prog w)/\s'={ s with toks:=s.toks+EX pre}) _ ?_ ?_ _ _ ⟨[],ls,rfl,dp,rfl,rfl⟩
 .rintro v rest c s' ⟨pre,post,rfl,r,aI,rfl⟩;cases r with
  |@cons l b yj mI c5 cP =>
   show a7<|wpAny_pyHash_tuple (show A.in1.units<fA from by rw[in1_units];show ei bP) c5 ?_;show bW {pre++[l],yj,by simp,cP,by simp[aI],?_};simp[EX,rg]
 .rintro c s' ⟨pre,post,rfl,r,aI,rfl⟩
  ext r
  rw[nQ]at q;show bj _ _ (retInt<|Oy c.B) _ _ _;rw[aI];show wpAny_ret_mkInt ?_;delta DB reduceHash at q;show bj _ _ (if(decide (-(2:D)^63<=Oy (pre.map<|CK<|gL prog w))&&decide (Oy (pre.map<|CK<|gL prog w)<2^63))=Y0 then _ else _) _ _ _;split
  .rename_i z;rw[Y2 z]at q;show bW (by simpa[rg]using q)
  .rename_i z;rw[Y3 z]at q;show a7<|kz (bW<|by simpa[rg]using q)
def QQ(p:w8 (gL prog w) h l b)(GB:dn)(fB:cV):w8 (gL GB fB) h l b:=by
 let(o,aZ,n,a1,a2,iX,C9):=p;show{o,aZ,n,a1,a2,iX,?_};generalize aZ.B=us at C9
 induction C9 with
 |nil=>show .nil
 |cons k _ aQ=>show .cons k aQ
def mW.get(r:mW prog w h x us):x.H=us.H/\∀(j:Y) (v:ay),us[j]?=J v->∃l b,x[j]?=J l/\v=.ref b/\w8 (gL prog w) h l b:=by
 induction r with
 |nil=>show{P,λj v e=>by simp at e}
 |cons p _ aQ =>
  show{M1 (·+1) aQ.1,λj v e=>?_};cases j with
  |zero=>ext e;show{_,_,P,P,p}
  |succ j=>show aQ.2 j v e
def adU(x y:O Z0):((M0<|min x.H y.H).all (λj=>decide (x[j]?=y[j]?))&&x.H==y.H)=decide (x=y):=by
 rw[w1];erw[iR,iq,mZ,Nd,M5];constructor
 .rintro⟨ae,ai⟩;show qaJ λi=>?_;by_cases hi:i<x.H
  .show ae i ZW
  .rw[GX<|ci hi,GX<|bw (dy ai.symm)<|ci hi]
 .rintro rfl;show{λ_ _=>P,P}
def anf{Q:MF->aN->Prop}(bP:A.units+4<fA)(au:mR prog w s.Q x a)(aJ:mR prog w s.Q y b)(q:Q (decide (x=y)) s):bj ZB A (eqBool ZM<|.ref b) Q E s:=by
 by_cases vz:a=b
 .subst vz;obtain rfl:=au.uniq aJ;show PySem.SeqAt.EqAt.same _ prog w E Q (by simpa using q)
 .let(ek,xs,df,g1,d6,g2,g3):=au;let(gx,aO,fR,k1,k0,k2,k3):=aJ;let ex:=g3.get;let jc:=k3.get;show PySem.SeqAt.EqAt.of_refs vz (PySem.SeqAt.RcAt.tuples (e:=λj=>decide (x[j]?=y[j]?)) {(ek),g1,d6,df,g2} {(gx),k1,k0,fR,k2} (oS<|ei bP) λj ae ai=>?_) prog w E Q ?_
  .let(d0,cb,f1,f2,et):=ex.2 j xs[j] (by simp[ae]);let(hp,d9,f4,hF,Xd):=jc.2 j aO[j] (by simp[ai]);rw[f2,hF];erw[f1,f4,Option.some.injEq];show λGB fB oa fi z=>wpAny_eqBool_tuple (by rw[in1_units];show kb<|kb<|ei bP) (QQ et GB fB) (QQ Xd GB fB) z
  .let bC:xs.O=x.H:=by rw[ex.1,gW]
   let u6:aO.O=y.H:=by rw[jc.1,gW]
   rw[bC,u6,adU];show q
def QR(A:dH)(prog:dn)(w:cV)(s:aN)(n:Y)(v:ay):Prop:=∀(E:ay->aN->Prop) (Q:MF->aN->Prop),Q Y0 s->bj ZB A (eqIsQuiet n v) Q E s
def QS{n:Y}{m:Y}(ae:s.heap.get? a=J o)(ai:o.cls=.type "tuple")(aS:o.Y=.seq aZ m)(all:∀v∈aZ.B,QR A prog w s n v):QR A prog w s (n+1) ZM:=λE Q q=>by
 let T:s.TypeIs ZM "tuple":={(o),ae,ai}
 delta eqIsQuiet;show a7<|CI T F.slot_tuple_eq.lookup<|a7<|uw T isSubtype_tuple_tuple ?_;rw[Y3 Z5];show a7<|zm ae aS<|a7 ?_;show bj _ _ (forIn aZ _ _) _ _ s;rw[<-qa1];show HF _ (λleft r t=>r.1=C/\t=s/\∀v∈left,v∈aZ.B) _ (λv left r t z=>?_) (λr t z=>?_) _ _ {P,P,λ_ z=>z}
 .let(_,rfl,z):=z;show a7<|all v (z v<|.head _) _ _ ?_;rw[Y3 Z5];show bW ⟨P,P,λu y=>z u<|.tail _ y⟩
 .let(bx,cn):=r;let(rfl,rfl,_):=z;show bW q
def adV{Q:MF->aN->Prop}(aW:mR prog w s.Q ls a)(q:Q Y0 s):bj ZB A (eqIsQuiet 8 ZM) Q E s:=by let(o,aZ,m,ae,ai,aS,dp):=aW;show QS ae ai aS (λv bu=>?_) E Q q;let(j,bJ):=List.getElem?_of_mem bu;let(l,b,_,rfl,dc,xs,n,k1,k2,k3,xC):=dp.get.2 j v bJ;show QS k1 k2 k3 λu bP oa fi z=>by rw[eqIsQuiet_byValue _<|xC.byValue u bP];show bW z
def Kr(prog:dn)(w:cV):HeapKind prog w ZI where
 is:=mR prog w
 hash:=DB prog w
 draws:=λls=>EX ls+1
 room:=λA=>A.units+4<fA
 inj:=λau aJ=>au.uniq aJ
 keeps:=λx aX hd aK=>x.mc aX hd aK
 pyHash:=λbP aW q=>adT (kb<|ei bP) aW q
 eqBool:=λbP au aJ q=>anf bP au aJ q
 quiet:=λaW q=>adV aW q
end
end a8.bD
namespace a8.bD
open PySem PySem.Spec PyProof.Rows
section
variable {V8:dn}{w:cV}{H:aM}{h:MJ}
theorem QT:∀{l:O D} {us:O ay},cR (l.map V.int) us->ItemsAre (gL V8 w) l us
 |[],_,v=>by ext v;show .nil
 |i::l,_,v=>by
  cases v with
  |cons q r =>
   let(t,rfl):=q;show .cons (intKind_is _ _ _ _)<|QT r
def alL(ok:f7 V8 w H h)(e:H b=J (.aF<|l.map V.int)):w8 (gL V8 w) h l b:=by
 let(_,aZ,r,o,ae,ai,_,n,aS):=(show gy V8 w H h b (.aF<|l.map V.int) from ok b _ e)
 show{o,aZ.D,n,ae,ai,aS,by simpa using QT r}
def ang(ok:f7 V8 w H h)(r:q7 H ls ag):∀{us:O ay},cR ag us->mW V8 w h ls us:=by
 induction r with
 |nil=>intro us v;ext v;show .nil
 |cons q _ aQ =>
  intro us v;cases v with
  |cons aV bb =>
   ext aV
   show .cons (alL ok q)<|aQ bb
def VG(ok:f7 V8 w H h)(r:tk H ls b):mR V8 w h ls b:=by
 let(ag,e,q):=r;let(_,aZ,v,o,ae,ai,_,n,aS):=(show gy V8 w H h b (.aF ag) from ok b _ e)
 show{o,aZ.D,n,ae,ai,aS,by simpa using ang ok q v}
noncomputable def t5(k:O Z0×MC):O Z0×MC×ay:=(k.1,k.2,.bool Y0)
def UX(ok:f7 V8 w H h)(e:iE H a<|.iu ws):ws.H<=dq/\(a==m5)=Y1/\(∀k∈ws,tk H k.1 k.2)/\(ws.map (·.1)).Nodup/\h.DictOfH (Kr V8 w) a (ws.map t5):=by
 let(z,y,r,bG,o,es,ep,ae,ai,aS,dp):=(show gy V8 w H h a (.iu ws) from e.ok ok)
 show{z,y,r,bG,o,es,ep,ae,ai,aS,?_,λx au=>?_,?_}
 .rw[dp,bv];rfl
 .let(k,aW,rfl):=c9.mp au;show VG ok<|r k aW
 .rw[bv];show bG
noncomputable def nK(ws:O<|O Z0×MC)(ls:O Z0)(b:MC):O<|O Z0×MC:=if(ws.any λk=>decide (k.1=ls))=Y0 then ws else ws++[(ls,b)]
def adW(ws:O<|O Z0×MC)(ls:O Z0)(b:MC):storedH (ws.map t5) ls b (.bool Y0)=(nK ws ls b).map t5:=by
 let ae:(atKey (ws.map t5) ls).isSome=ws.any λk=>decide (k.1=ls):=by delta atKey;rw[qaW,List.find?_map,qaW,w1,List.find?_isSome,wV];rfl
 delta storedH nK;rw[ae];split
 .rw[bv];show ji λk _=>?_;show PySem.putAt ls (.bool Y0) (t5 k)=t5 k;delta PySem.putAt t5;split<;>rfl
 .rw[jM];rfl
end
section
variable {X:bK}{L:MC}
def ah2:F9:=λo i v H Q=>∃a b ws ls,o=.ref a/\i=.ref b/\v=.aU Y0/\H a=J (.iu ws)/\tk H ls b/\ws.H<dq/\Q (c3 H a<|.iu<|nK ws ls b)
def anh(bP:X.A.units+6<fA):Ga X ah2:=by
 intro ah s U H o i v iv h1 u Q I xi sW bh bg;let(a,b,ws,ls,rfl,rfl,rfl,e,tc,az,q):=bg
 ext xi
 ext sW
 ext bh
 let(z,y,r,bG,dd):=UX I.bX<|.inl e;show wpAny_setItem_heap (knd:=Kr X.R X.w) (show X.A.in1.units+4<fA by rw[in1_units];show ei bP) (VG I.bX tc) dd (λh' pw aK=>?_) (by rw[bZ];show z);rw[adW]at pw;let(dc,es,ep,g1,g2,g3,gY,n9,rA):=pw;let BR:∀c xs,H c=J (.aF xs)->c3 H a (.iu<|nK ws ls b) c=J (.aF xs):=λc xs aI=>by rw[ew<|by rintro rfl;rw[e]at aI;ext aI];show aI
 let up:∀k∈nK ws ls b,tk (c3 H a<|.iu<|nK ws ls b) k.1 k.2:=λk aW=>by
  let:tk H k.1 k.2:=by
   delta nK at aW;split at aW
   .show r k aW
   .rcases i9.mp aW with aW|aW
    .show r k aW
    .let:=gK.mp aW;subst this;show tc
  let(ag,c5,cP):=this;show{ag,BR _ _ c5,cP.mono BR}
 let len:(nK ws ls b).H<=dq:=by
  delta nK;split
  .show z
  .simp;show az
 show{_,I0 (cx:=.iu<|nK ws ls b) I (by rw[e];show Nm) aK ⟨dc,g1⟩ ⟨len,y,up,by rw[bv]at rA;show rA,dc,es,ep,g1,g2,g3,by rw[gY,bv];rfl⟩,q}
def ajT(e:yR t=J l)(r:aL L H t v):∃b,v=.ref b/\H b=J (.aF<|l.map V.int):=by
 induction t using T.casesOn with
 |aF xs =>
  rw[aL]at r;let(a,ag,rfl,ae,ai):=r;let:=nA (show e5 xs=J l from e);subst this;show{a,P,by rw[<-tC ai];show ae}
 |_=>ext e
theorem QU:∀{xs:O T} {ls:O Z0} {ag:O V},vn xs=J ls->bV L H xs ag->q7 H ls ag
 |[],ls,ag,e,r=>by ext e;rw[j2 r];show .nil
 |x::xs,ls,ag,e,r=>by
  let(l,aB,ax):=cE (show(yR x).bind _=J ls from e);let(yj,bq,cC):=dR ax
  ext cC
  let(v,w,rfl,p,q):=hT r;let(b,rfl,ao):=ajT aB p;show .cons ao<|QU bq q
def adX(e:wJ t=J ls)(r:eQ X.K L H t v):∃b,v=.ref b/\tk H ls b:=by
 induction t using T.casesOn with
 |aF xs =>
  let(a,ag,rfl,ae,ai):=kN r;show{a,P,ag,ae,QU e ai}
 |_=>ext e
def ani(ws:O<|O Z0×MC)(ls:O Z0)(b:MC):(nK ws ls b).map (·.1)=hM (ws.map (·.1)) ls:=by
 delta nK hM;rw[List.any_map];show(if(ws.any λk=>decide (k.1=ls))=Y0 then ws else ws++[(ls,b)]).map (·.1)=if(ws.any λk=>decide (k.1=ls))=Y0 then _ else _
 split
 .rfl
 .rw[jM];rfl
def alM(i:Y){x:ME}{ig e:MG}{zE d:bS}{pos pos' e7:MK}(bP:X.A.units+6<fA)(bu:bM X L e d)(aW:bM X L ig zE)(eu:MD (X.N[i]?=J x) rc)(wB:MD (qF X.I.h x) az7._auto_1)(hd:MD ZF eY)
  (hs:MD ((x==("__classdict__" : ME))=Y1) eY)
  (bl:MD (∀v,mw (.Subscript (.Name x e7) ig pos') X.I v=(do
   let iv<-m6 [v] (MO (.Name x e7) X.I)
   let h1<-m6 [v,iv] (MO ig X.I)
   standAt pos'
   m6 [v,iv,h1] (setItem iv h1 v)
   release [v,iv,h1] [])) rn)
  (aK:MD (HM [.Subscript (.Name x e7) ig pos'] e pos.line X.I=pure Y1) rc) (hw:MD (HN [.Subscript (.Name x e7) ig pos'] e X.I=pure C) rc)
  (ae:MD ((mu [.Subscript (.Name x e7) ig pos'] X.I).map (·.2)=[mw (.Subscript (.Name x e7) ig pos') X.I]) rc):hG X L (.Assign [.Subscript (.Name x e7) ig pos'] e pos)<|j0 i sm zE d:=by
 intro B S n f S' n' bg ah s U H OG I ⟨R,k⟩;let((iU,zF,aY),aB,ax):=cE bg;let((bz,mk,ck),bq,cC):=cE ax;obtain rfl:=Ax aB;have⟨t,t',hH,eU,H0,zG,uQ⟩:∃t t',S[i]?=J (J (t,a9.aA))/\sm t bz iU=J t'/\f=.bC/\S'=S.set i (J (t',a9.aA))/\n'=ck:=by
  cases e:S[i]? with
  |none=>rw[e]at cC;ext cC
  |some o =>
   cases o with
   |none=>rw[e]at cC;ext cC
   |some p =>
    let(t,m):=p;rw[e]at cC;cases m with
    |aA =>
     let(t',ae,ai):=dR cC;cases ai;show{(t),t',P,ae,P,P,P}
    |_=>ext cC
 subst H0 zG uQ;have⟨ks,ls,fj,gF,gw,xr,s7⟩:∃ks ls,t=.eN ks/\iU=.aU Y0/\wJ bz=J ls/\ks.H<bp/\t'=.eN (hM ks ls):=by
  delta sm at eU;split at eU
  .let(ls,aV,bb):=cE eU;split at bb
   .rename_i ao
    ext bb
    show{_,ls,P,P,aV,ao,P}
   .ext bb
  .ext eU
 subst fj gF s7;let(a,es,dJ,_):=R.aA i _ hH;show qbk ((vv bu) B S n _ .aa aY aB) (qbj (ve eu wB hd hs) (aW B S aY bz mk _ bq) (anh bP) bl) aK hw ae ah s U H OG I {R,λv H1 bE dZ dB=>?_};let bN:=R.mono bE dZ;show{.ref a,es,bN,λdj b5 bR jT dU=>?_};let dF:=bN.mono bR jT;let(b,rfl,tc):=adX gw<|dU.root dF bN.aR;let bh:aL L b5 (.aU Y0) v:=aL.mono (bR.cq bN.aR) _ _ dB;rw[aL]at bh;let(gg,iK,_,kA):=dF.aA i _ hH;rw[es]at iK;ext iK;let(ws,g1,g2):=kA;let mH:eT H b5:=(bE.trans bR).cq R.aR;show{a,b,ws,ls,P,P,bh,g1,tc,D4 (by rw[g2,bZ]at xr;show xr),?_};let(W,cq):=dF.write (t':=.eN<|hM ks ls) (o:=.iu<|nK ws ls b) hH es λ_=>{_,fH,by rw[g2,ani]}
 show k U _ (mH.trans cq) W
def anj{pos:MK}:bM X L (.Dict [] [] pos) DS:=by
 intro B S n t m n' hd ah s U H Q I ⟨R,k⟩
 ext hd
 let new:gy X.R X.w (c3 H s.L<|.iu []) (s.heap.push { cls:=.type "dict",data:=.dict #[]}) s.L<|.iu []:=by
  let(_,y,_):=(show gy X.R X.w (c3 H s.L<|.aH []) _ _ (.aH []) from I1 s.Q I.bp)
  show{fY _,y,(λ_ aW=>nomatch aW),Cf,_,#[],0,fZ _ P,{(P),P,P},P,P}
 let aC:H s.L=C:=I.bX.fresh<|b8 _;show wpAny_Dict_empty ⟨.ref s.L,_,I.laid (a:=s.L) (o:=.iu []) (t':=s.toks) (λ_ _ q=>ec _ q) (b8 _) new,P,k _ _ (.new aC) (R.aR.new aC) {_,P,aC,[],fH,P}⟩
def ank(r:q7 H ls ag):bV L H (ls.map ar) ag:=by
 induction r with
 |nil=>show .nil
 |cons q _ aQ=>show .cons (by delta ar;rw[aL];show{_,_,P,q,bV.ints _}) aQ
def alN(r:tk H ls b):aL L H (a6 ls)<|.ref b:=by let(ag,ae,ai):=r;delta a6;rw[aL];show{b,ag,P,ae,ank ai}
end
section
variable {prog:dn}{w:cV}{A:dH}{E:ay->aN->Prop}{s:aN}{d I:MC}{es:MH DictEntry}{ep i:Y}
def p9(h:MJ)(d:MC)(es:MH DictEntry)(ep:Y):Prop:=∃o,h.get? d=J o/\o.ExactDict/\o.Y=.dict es ep
def p9.type(r:p9 s.Q d es ep):s.TypeIs (.ref d) "dict":=let ⟨o,h,x,_⟩:=r;{(o),h,x.1}
def p9.kept(r:p9 h d es ep)(k:∀o,h.get? d=J o->h'.get? d=J o):p9 h' d es ep:=let ⟨o,a,x⟩:=r;{o,k o a,x}
def p9.lt(r:p9 h d es ep):d<h.E.O:=let ⟨_,a,_⟩:=r;ed a
noncomputable abbrev wC(d:MC)(i n ep:Y):MT:={ cls:=.type "dict_keyiterator",data:=.fields #[.ref d,.int i 0,.int n 0,.int ep 0]}
def adY(hd:(d==m5)=Y1)(r:p9 s.Q d es ep)(q:Q (.ref s.L) { s with heap:=s.heap.push (wC d 0 es.O ep)}):bj (bo prog w) A (k6 (.ref d)) Q E s:=by
 let(o,ae,_,aS):=id r;show HB r.type F.slot_dict_iter<|mr F.slot_dict_iter r.type F.entry_dict_iter ?_<|F.args_dict_iter_1 _;let self:bj ZB A.in1 (Builtin.Dict.dictSlotNone "__iter__" ⟨[.ref d],[]⟩) (λv s'=>v=.ref d/\s'=s) (λ_ _=>MP) s :=
  a7 (Hx r.type<|bW {(P),P})
 let all:Builtin.Dict.showsAll d=pure ():=by delta Builtin.Dict.showsAll;rw[hd];rfl
 show a7 (m:=Builtin.Dict.dictSlotNone _ _) (hE self (λv s' z=>?_) λ_ _ z=>z.elim);let(rfl,rfl):=z;show a7 (m:=Builtin.Dict.showsAll d)<|zq all<|a7<|wpAny_dictEntries ae aS<|a7<|wpAny_dictEpoch ae aS<|a7<|mq<|bW ?_;show{_,P,_,_,{_,fZ _ P,P},F.slot_dict_keyiterator_next.lookup,q}
def QV{n:Y}(Wt:s.heap.get? I=J (wC d i n ep)):s.TypeIs (.ref I) "dict_keyiterator":={_,Wt,P}
def QW(bg:A.handled=C)(r:p9 s.Q d es ep)(Wt:s.heap.get? I=J (wC d i es.O ep))
  (WX:∀e h',es[i]?=J e->h'.get? I=J (wC d (i+1) es.O ep)->(∀b o,b≠I->s.heap.get? b=J o->h'.get? b=J o)->Q (J e.key) { s with heap:=h'})
  (stop:es[i]?=C->∀h',(∀b o,b≠I->s.heap.get? b=J o->h'.get? b=J o)->Q C { s with heap:=h'}):bj (bo prog w) A (m7 (.ref I)) Q E s:=by
 let(o,ae,_,aS):=id r;let T:=QV Wt;let plain:Builtin.Dict_items.ownsTuple "dict_keyiterator" = Y1:=by decide
 let QX:∀{g:MT->MT} (b:MC) (o:MT),b≠I->s.heap.get? b=J o->(s.heap.update I g).get? b=J o:=λb o ne z=>(uq _ _ λy=>ne y.symm).trans z;delta m7;show a7<|sM<|uu (name:=VZ "__next__") T F.slot_dict_keyiterator_next<|mr F.slot_dict_keyiterator_next T F.entry_dict_keyiterator_next ?_<|F.args_dict_keyiterator_next_1 _;show a7<|bW<|a7<|a7 ?_;show a7<|Hw T<|bW<|a7<|HJ Wt P ?_;rw[plain];show a7 (m:=pure _)<|bW<|a7<|wpAny_dictEntries ae aS ?_;rw[Y3 Z5];show a7 (m:=pure _)<|bW<|a7<|wpAny_dictEpoch ae aS ?_;rw[Y3 Z5];show bW ?_;let pos:(if(i:D)<0 then C else es[(i:D).M]?)=es[i]?:=by rw[Y3<|zg<|iC _,nX]
 dsimp only;rw[pos];cases z:es[i]? with
 |some e =>
  dsimp only;show a7<|a7<|Hw T<|bW<|a7<|wpAny_isOneOf_keyiter T ?_;show a7 (m:=zt (.ref I) 1<|gf<|(i:D)+1)<|ql Wt P Z5 ?_;let at2:(s.heap.update I<|Obj.mapFields (·.setIfInBounds 1 (gf<|(i:D)+1))).get? I=J (wC d (i+1) es.O ep):=(qk _ Wt P).trans P;show a7<|ky<|a7<|wpAny_isOneOf_keyiter (s:={ s with heap:=_}) (QV (s:={ s with heap:=_}) at2) ?_;show bW (a:=e.key)<|bW {_,P,bW<|WX e _ z at2 QX}
 |none =>
  dsimp only;show a7<|a7<|Hw T<|bW ?_;show a7 (m:=zt (.ref I) 0 .none)<|ql Wt P Z5 (J3 (by simpa using bg) λe h' b3 zS=>?_);show a7<|uw (T:="StopIteration") (b:=Y0) zS HK<|bW (stop z h' λb o ne y=>b3 b o<|QX b o ne y)
def anl(hd:(d==m5)=Y1):W.KdlSrc prog w "dict" d d es.O (λi v=>∃e,es[i]?=J e/\v=e.key) (λh=>p9 h d es ep) where
 type:=λ_ r=>r.type
 there:=λ_ r=>{(r.lt),r.lt}
 keep:=λ_ _ r k=>r.kept λo z=>k d (.inl P) o z
 notList:=by decide
 notTuple:=by decide
 hint:=λ_ _ _ _ r q=>W.kdl_hint_dict r.type q
 iter:=λA s bg r=>by
  let ne:d≠s.L:=eP r.lt;show{wC d 0 es.O ep,λi h=>h.get? s.L=J (wC d i es.O ep)/\p9 h d es ep,λE Q q=>adY hd r q,?_,fZ _ P,r.kept λo z=>ec _ z};show{λb ao=>cF.mpr<|.inl<|gK.mp ao,λi h h' st k=>⟨k _ (.head _) _ st.1,st.2.kept λo z=>k d (.tail _<|.head _) o z⟩,λi s' Q E hi st q=>?_,λs' Q E st q=>?_,λi s' Q E st q=>?_}
  .show QW bg st.2 st.1 (λe h' z at2 b3=>?_) λz=>?_
   .show q _ h' s'.toks {(e),z,P} {at2,st.2.kept λo y=>b3 d o ne y} λb o ao y=>b3 b o (by simpa using ao) y
   .rw[sH hi]at z;ext z
  .show QW bg st.2 st.1 (λe h' z _ _=>?_) λ_ h' b3=>q h' s'.toks λb o ao y=>b3 b o (by simpa using ao) y;rw[Hn<|b8 _]at z;ext z
  .show wpAny_pyIter_keyiter {_,st.1,P,P} q
end
section
variable {X:bK}{L:MC}
def anm(bg:X.A.handled=C):fJ X L (λus=>call (.type "list") us) DT:=by
 intro B ah s U H ag us aE n t m Q I bh ba aR e k
 induction aE using MQ with
 |nil=>ext e
 |cons dZ fe =>
  induction dZ using T.casesOn with
  |eN ks =>
   induction fe using MQ with
   |nil =>
    ext e
    let(v,rfl,a,ws,rfl,na,cB,rfl):=i2 ba;let(u,rfl,fa):=bh.one
    ext fa
    let(z,hd,r,bG,o,es,ep,ae,ai,aS,dp,_):=UX I.bX cB;let bQ:es.O=ws.H:=by rw[<-gW,dp,bZ,bZ]
    show W.kdl_call (anl (es:=es) (ep:=ep) hd) bg {(o),ae,ai,aS} (by rw[bQ];show z) λh' bz V9 c b3 fQ hi=>?_;let(ag,aV,bb):=vE (L:=L) (H:=H) (xs:=(ws.map (·.1)).map a6) (us:=V9.B) (by rw[gW,hi.1,bZ,bZ,bQ]) λi w e=>by
     let(uQ,g1,rfl):=hi.2 i w (by rw[<-kv];show e);rw[<-kv,dp,hO,hO]at g1;cases y:ws[i]? with
     |none=>rw[y]at g1;ext g1
     |some p =>
      rw[y]at g1;let g1:entryOfKey (Kr X.R X.w) (t5 p)=uQ:=MV g1;subst g1;show{.ref p.2,a6 p.1,P,by rw[hO,hO,y];rfl,alN<|r p<|B5 y}
    let aC:H s.L=C:=I.bX.fresh<|b8 _;let eL:=I.laid (a:=s.L) (o:=.aj ag) (t':=bz) (h':=h') b3 (b8 _) {by rw[aV.H,gW,hi.1,bQ];show z,V9.B,c,aV,by simpa using fQ};show{.ref s.L,_,eL,P,k _ _ (.new aC) (aR.new aC) {_,P,aC,_,fH,bV.mono (.new aC) _ _ bb}}
   |cons _ _=>ext e
  |_=>ext e
end
variable {X:bK}{L:MC}
def adZ(T:s.TypeIs (.ref d) "dict")(bP:A.units<fA)(q:Q (.bool Y1) s):bj ZB A (richCompare .Eq .none<|.ref d) Q E s:=by show SeqAt.rc_eq_decline_or (k:=Y1) P T Z1 F.sub_dict_NoneType F.slot_NoneType_eq F.slot_dict_eq_refl (λ_ y=>call_gives F.slot_NoneType_eq P F.entry_NoneType_eq (F.args_NoneType_eq_2 _ _) (SeqAt.NoneType___eq___none_ref_0 d) y) (λfi y=>?_) (λ_ y=>zq (rfl:isSame .none (.ref d)=pure Y1) y) (.inr bP) q;show mr F.slot_dict_eq_refl T F.entry_dict_eq ?_<|F.args_dict_eq_2 _ _;let two:bj ZB A.in1 (Builtin.Dict.dictSlotArgs "__eq__" ⟨[.ref d,.none],[]⟩) (λv s'=>v=(.ref d,.none)/\s'=s) (λ_ _=>MP) s:=a7<|Hx T<|bW ⟨P,P⟩;show a7 (m:=Builtin.Dict.dictSlotArgs _ _) (hE two (λv s' z=>?_) λ_ _ z=>z.elim);let(rfl,rfl):=z;show a7<|uw (T:="NoneType") (b:=Y1) P F.sub_NoneType_dict ?_;show a7<|kz ?_;show bW {_,P,y}
def ajU(bP:X.A.units+6<fA)(QY:X.A.units<fA):fJ X L (two<|hn .Eq) yM:=by
 intro B ah s U H ag us aE n t m Q I bh ba aR e k;let key:(aE=[.b0,.a3 []]/\t=.aU Y1/\m=.aa)\/hu n aE=J (t,m):=by
  delta yM at e;split at e
  .ext e;show .inl {(P),P,P}
  .show .inr e
 rcases key with⟨rfl,rfl,rfl⟩|e
 .let(v,w,rfl,bx,cn):=l7 ba;let(fS,gh,rfl,aV,bb):=bh.two;let bx:aL L H .b0 v:=bx;rw[aL]at bx;subst bx
  ext aV
  let(a,ws,rfl,_,cB,_):=cn
  ext bb
  let(_,_,us,_,dd):=jC I.bX cB;show adZ dd.typeIs QY {.aU Y1,H,I,P,k _ H ZQ aR<|by show aL L H (.aU Y1) _;rw[aL]}
 .show UR bP (Px QY) B ah s U H ag us aE n t m Q I bh ba aR e k
end a8.bD
namespace a8.bD
open PySem PySem.Spec PyProof.Rows a8.Tm
inductive oN (h:MJ):O ay->O Z0->Prop
 |nil:oN h [] []
 |cons {v:ay} {l:O D} {ag:O ay} {ls:O Z0}:kV h v l->oN h ag ls->oN h (v::ag) (l::ls)
def qa(h:MJ)(v:ay)(ls:O Z0):Prop:=∃p o xs n,v=.ref p/\h.get? p=J o/\o.cls=.type "tuple" /\ o.Y=.seq xs n/\oN h xs.B ls/\ls≠[]/\∀l∈ls,∀x∈l,0<=x
theorem oN.mono(m:∀b o,h.get? b=J o->h'.get? b=J o)(r:oN h ag ls):oN h' ag ls:=by
 induction r with
 |nil=>show .nil
 |cons t _ aQ=>show .cons (t.mono m) aQ
theorem qa.mono(m:∀b o,h.get? b=J o->h'.get? b=J o)(r:qa h v ls):qa h' v ls:=by let(p,o,xs,n,e,aX,aI,hd,a4,q):=r;show{p,o,xs,n,e,m _ _ aX,aI,hd,a4.mono m,q}
theorem VH:∀(a b:O D),(∀x∈a,0<=x)->(∀x∈b,0<=x)->∀u v:O D,er (a.map (·+1)++0::u) (b.map (·+1)++0::v)=if a=b then er u v else er a b
 |[],[],_,_,u,v=>by simp[er]
 |[],y::b,_,ao,u,v=>by
  let:=ao y<|cc ..;let n:¬ (0:D)=y+1:=(w4<|sJ this Z1)
  let q:(0:D)<y+1:=(sJ this Z1)
  simp[er,n,q]
 |x::a,[],bl,_,u,v=>by
  let:=bl x<|cc ..;let n:¬x+1=(0:D):=(w3<|sJ this Z1)
  let q:¬x+1<(0:D):=(zg<|Int.add_nonneg this Z1)
  let n':(x+1==(0:D))=Y1:=by simpa using n
  erw[cj,qf,m1,ka,er,n',iB,MU,reduceCtorEq];simpa using q
 |x::a,y::b,bl,ao,u,v=>by
  let aQ:=VH a b (λz hz=>bl z<|cZ _ hz) (λz hz=>ao z<|cZ _ hz) u v;erw[cj,qf,er,aQ,List.cons.injEq];by_cases e:x=y
  .subst e;simp
  .let n:¬x+1=y+1:=by omega
   let q:(x+1<y+1)=(x<y):=by rw[eq_iff_iff];omega
   let n':(x+1==y+1)=Y1:=by simpa using n
   let bH:(x==y)=Y1:=by simpa using e
   erw[n',bH,e,iB,MU,false_and,q]
def VI(l:O D)(ls:O Z0):∃x r,g0 (l::ls)=x::r:=by
 delta g0;cases l with
 |nil=>show{_,_,P}
 |cons x l=>show{_,_,P}
def tP(h:MJ):ay->O D
 |.ref a=>match h.get? a with
  |some o=>match o.Y with
   |.seq xs _=>g0<|xs.toList.map<|hV h
   |_=>[]
  |none=>[]
 |_=>[]
theorem oN.e0(r:oN h ag ls):ag.map (hV h)=ls:=by
 induction r with
 |nil=>rfl
 |cons t _ aQ=>rw[cj,t.e0,aQ]
theorem qa.e0(r:qa h v ls):tP h v=g0 ls:=by
 let(p,o,xs,n,rfl,aX,aI,hd,a4,_):=r
 show(match h.get? p with
  |some o=>match o.Y with
   |.seq xs _=>g0<|xs.toList.map<|hV h
   |_=>[]
  |none=>[])=g0 ls
 rw[aX]
 show(match o.Y with
   |.seq xs _=>g0<|xs.toList.map<|hV h
   |_=>[])=g0 ls
 rw[hd];show g0 (xs.toList.map<|hV h)=g0 ls;rw[a4.e0]
section
variable {prog:dn}{w:cV}{A:dH}{E:ay->aN->Prop}{s:aN}
def ano{Q:MF->aN->Prop}(bP:A.units<fA):∀{us ag:O ay} {as bs:O Z0} (i:Y) (fin:MF),oN s.Q us as->oN s.Q ag bs->(∀l∈as,∀x∈l,0<=x)->(∀l∈bs,∀x∈l,0<=x)->fin=decide (us.H<ag.H)->Q (er (g0 as)<|g0 bs) s->W.KatLex prog w A Y1 fin Q (us.zip ag) i s:=by
 intro us ag as bs i fin ae
 induction ae generalizing ag bs i fin with
 |nil =>
  intro ai _ _ hf q;cases ai with
  |nil=>subst hf;show W.kat_nil q
  |@cons v l ag ls _ _ =>
   subst hf;let(x,r,e):=VI l ls;rw[e]at q;show W.kat_nil (by simpa[g0,er]using q)
 |@cons u l us as t _ aQ =>
  intro ai c5 cP hf q;cases ai with
  |nil =>
   subst hf;let(x,r,e):=VI l as;rw[e]at q;show W.kat_nil (by simpa[g0,er]using q)
  |@cons v lg ag bs t' bU =>
   rw[g0,g0,VH l lg (c5 l<|cc ..)<|cP lg<|cc ..]at q;rw[qaC];show W.kat_cons<|alz bP t t' ?_;by_cases e:l=lg
   .subst e;rw[Nk P];rw[Y2 P]at q;show W.kat_yes<|aQ (i+1) fin bU (λz hz=>c5 z<|cZ _ hz) (λz hz=>cP z<|cZ _ hz) (by rw[hf];simp) q
   .rw[Nc e];rw[Y3 e]at q;show W.kat_no ?_;rw[Ho];show W.kat_one _ _<|alA bP t t' q
def ajV{Q:MF->aN->Prop}(bP:A.units<fA)(au:qa s.Q x a)(aJ:qa s.Q y b)(q:Q (er (g0 a)<|g0 b) s):bj ZB A (keyLt' (tuples' Y1) x y) Q E s:=by let(p,o,xs,n,rfl,aX,aI,hd,a4,_,c5):=au;let(fT,dc,aO,n',rfl,jX,rN,nk,mQ,_,cP):=aJ;show W.kat_lt aX hd jX nk ?_;show ano bP 0 _ a4 mQ c5 cP Z5 q
end
theorem QZ:∀{ks:O ay},(∀k∈ks,∃ls,qa h k ls)->∃c7,W.KatTups h ks c7/\c7.H=ks.H/\∀f∈c7,∃l,kV h f l
 |[],_=>{[],.nil,P,λf hf=>by simp at hf}
 |k::ks,r=>by
  let(c7,k1,k2,k3):=QZ (ks:=ks) λg5 h'=>r g5<|cZ _ h';let(ls,p,o,xs,n,rfl,aX,aI,hd,a4,pP,_):=r k<|cc ..;have⟨f,l,au,hf⟩:∃f l,xs[0]?=J f/\kV h f l:=by
   rw[<-kv];cases az:xs.B with
   |nil=>rw[az]at a4;ext a4;show MI P pP
   |cons v ag=>rw[az]at a4;cases a4 with
    |cons t _=>show{v,_,P,t}
  show⟨f::c7,.cons aX aI hd au k1,by simp[k2],λIh Ks=>?_⟩;rcases cF.mp Ks with rfl|Ks
  .show{(l),hf}
  .show k3 Ih Ks
def ad0(e0:ag.map (tP h)=ls)(r:∀k∈ag,∃l,qa h k l):Kf prog w h ag λx=>rank ls<|tP h x.1:=by
 intro ai;show{tuples' Y1,λA E s dw b3=>{?_,λst x y Q aW au aJ q=>?_}}
 .let(c7,k1,k2,k3):=QZ (h:=s.Q) λk aW=>let ⟨l,z⟩:=r k aW;{l,z.mono b3}
  show W.kat_kind (T:=.type "tuple") k1 (kb<|dX ai<|dy k2.symm) (λv bu=>?_) Z1 {(P),P};let(l,a,o,xs,n,rfl,aX,aI,_):=k3 v bu;show λA Q E s' k q=>sO {o,k _ _ aX,aI} q
 .let u1:=(tN au).1;let(l,jb):=r _ u1;let(lg,Q0):=r _ (tN aJ).1;let q:Q (J<|decide (rank ls (tP h x.1)<rank ls (tP h y.1))) st:=q;rw[Ao (by rw[<-e0];show hZ u1),jb.e0,Q0.e0]at q;rw[lt'_eq];show cI<|n2 ?_;rw[aW];show cI<|rm<|sM<|ajV dw (jb.mono b3) (Q0.mono b3) {P,da q}
section
variable {X:bK}{L:MC}
theorem Q1:∀{xs:O T} {ls:O ZI},vq xs=J ls->xs=ls.map a6
 |[],ls,e=>by ext e;rfl
 |t::r,ls,e=>by
  let(l,aB,ax):=cE (show(wJ t).bind _=J ls from e);let(yj,bq,cC):=dR ax
  ext cC
  rw[Q1 bq,cj];let row:∀{t:T} {l:O D},yR t=J l->t=ar l:=λ{t l} h=>by
   cases t with
   |aF xs=>rw[nA (show e5 xs=J l from h)];rfl
   |_=>ext h
  let Wu:∀{xs:O T} {ls:O Z0},vn xs=J ls->xs=ls.map ar:=by
   intro xs
   induction xs with
   |nil=>intro ls h;ext h;rfl
   |cons x xs aQ =>
    intro ls h;let(l,ae,ai):=cE (show(yR x).bind _=J ls from h);let(yj,aS,dp):=dR ai
    ext dp
    rw[row ae,aQ aS];rfl
  cases t with
  |aF xs=>rw[Wu (show vn xs=J l from aB)];rfl
  |_=>ext aB
def alO{ah:O Z2}{s:aN}{U:St}{H:aM}(I:aT X ah U H s){l:O D}{v:V}{u:ay}(r:aL L H (ar l) v)(bh:cQ v u):kV s.Q u l:=by
 delta ar at r;rw[aL]at r;let(a,f6,rfl,cB,dk):=r
 ext bh
 let(aZ,aV,(o,aX,aI,_,n,hd),hz):=I.yV cB;cases tC dk;show{a,o,aZ.D,n,P,aX,aI,hd,by simpa using px aV}
theorem Q2{ah:O Z2}{s:aN}{U:St}{H:aM}(I:aT X ah U H s):∀{ls:O Z0} {ag:O V} {us:O ay},bV L H (ls.map ar) ag->cR ag us->oN s.Q us ls
 |[],ag,us,r,bh=>by
  cases j2 r
  ext bh
  show .nil
 |l::ls,ag,us,r,bh=>by
  let(v,w,rfl,p,q):=hT r;cases bh with
  |cons bx cn=>show .cons (alO I p bx)<|Q2 I q cn
def alP{ah:O Z2}{s:aN}{U:St}{H:aM}(I:aT X ah U H s){ls:O Z0}{v:V}{u:ay}(g:vr ls=Y0)(r:aL L H (a6 ls) v)(bh:cQ v u):qa s.Q u ls:=by
 delta a6 at r;rw[aL]at r;let(a,f6,rfl,cB,dk):=r
 ext bh
 let(aZ,aV,(o,aX,aI,_,n,hd),hz):=I.yV cB;let(g1,g2):=O6 g;show{a,o,aZ.D,n,P,aX,aI,hd,by simpa using Q2 I dk aV,g1,g2}
theorem Q3{ah:O Z2}{s:aN}{U:St}{H:aM}(I:aT X ah U H s):∀{ls:O ZI} {ag:O V} {us:O ay},ls.all vr=Y0->bV L H (ls.map a6) ag->cR ag us->us.map (tP s.Q)=ls.map g0/\∀u∈us,∃l,qa s.Q u l
 |[],ag,us,_,r,bh=>by
  cases j2 r
  ext bh
  show{P,λu bP=>by simp at bP}
 |l::ls,ag,us,g,r,bh=>by
  rw[oR,iR]at g;let(v,w,rfl,p,q):=hT r;cases bh with
  |cons bx cn =>
   let K:=alP I g.1 p bx;let(t1,dz):=Q3 I g.2 q cn;show{by rw[cj,cj,t1,K.e0],λu bP=>?_};rcases cF.mp bP with rfl|bP
   .show{_,K}
   .show dz u bP
def anp(aoN:X.A.units+6<fA)(bg:X.A.handled=C):fJ X L (λus=>call (.builtin "sorted") us) DY:=by
 intro B ah s U H ag us aE n t m Q I bh ba aR e k
 match aE,e with
 |[.aj xs],e =>
  let(v,rfl,r):=i2 ba;let(u,rfl,fa):=bh.one;let(ls,aB,ax):=cE (show(vq xs).bind _=_ from e);split at ax
  .rename_i bL;rw[iR]at bL
   ext ax
   let au:=Q1 aB;subst au;show ED (PA bg I r fa P λus ag h' bz ae ai aS b3=>?_);let(e0,tt):=Q3 (I.kept (t':=s.toks) b3) bL.1 ai ae;show{_,aS,λ_=>(ad0 e0 tt).at (by rw[in1_units,in1_units];omega),λvM i4 d8 l8 he aC vN=>?_};let tL:i4.Perm<|Nb us:=aC;let(cP,ax):=adx (kf:=tP h') e0 tL vN;let qP:bV L H ((ls.map g0).map λc=>a6<|dec c) ag:=by
    rw[bv];let:(ls.map<|(λc=>a6<|dec c)∘g0)=ls.map a6:=ji λl az=>by show a6 (dec<|g0 l)=a6 l;rw[dec_enc l (O6<|iq.mp bL.1 l az).2]
    rw[this];show ai
   let(ws,gO,iF):=ady (mk:=λc=>a6<|dec c) (kf:=tP h') ae qP e0 cP;rw[ax]at iF;let bt:aT X ah U H { s with heap:=h',toks:=bz}:=I.kept b3;let hf:H h'.E.O=C:=bt.bX.fresh<|b8 _;let eL:=bt.laid (a:=h'.E.O) (o:=.aj ws) (t':=bz) (h':=vM) l8 (b8 _) {by rw[gO.H,cP.length_eq];show aS,(i4.map (·.2)).B,d8,gO,by rw[ze];show he};show{.ref h'.E.O,_,eL,P,k _ _ (.new hf) (aR.new hf) {_,P,hf,_,fH,bV.mono (.new hf) _ _ iF}}
  .ext ax
end
end a8.bD
namespace a8.bD
open PySem PySem.Spec PyProof.Rows PySem.SeqAt
variable {X:bK}{L:MC}
def Kt(x:T):T->MB MF
 |.aj xs=>if hc x=Y1/\ey 5 x=Y0/\xs.all (ey 5)=Y0 then J (xs.any λy=>d1 y x) else C
 |_=>C
def A6:ee:=λ_ aE=>match aE with
 |[x,y]=>(Kt x y).map λb=>(.aU<|!b,.aa)
 |_=>C
theorem Q4:∀{aE:O T} {ag:O V} {us:O ay},bV L H aE ag->cR ag us->(∀t∈aE,∃v u,u∈us/\aL L H t v/\cQ v u)/\∀u∈us,∃t∈aE,∃v,aL L H t v/\cQ v u
 |[],_,_,r,bh=>by
  cases j2 r
  ext bh
  show{λt h=>(hl h).elim,λu h=>(hl h).elim}
 |t::aE,_,_,r,bh=>by
  let(v,w,rfl,p,q):=hT r;cases bh with
  |cons bx cn =>
   let(ae,ai):=Q4 q cn;show{λt' h=>?_,λu h=>?_}
   .rcases cF.mp h with rfl|h
    .show{_,_,cc,p,bx}
    .let(f5,ft,k1,k2):=ae t' h;show{f5,ft,cZ _ k1,k2}
   .rcases cF.mp h with rfl|h
    .show{_,cc,_,p,bx}
    .let(t',k1,k2):=ai u h;show{t',cZ _ k1,k2}
def anq(h:cQ v u)(h':cQ f5 u):v=f5:=by show h.inj h'
open Classical in
def alQ{B:aM}{ah:O Z2}{s:aN}{U:St}{H:aM}{n:Y}{x y:T}{v w:V}{fS gh:ay}{b:MF}(bP:X.A.units+6<fA)(I:aT X ah U H s)(aR:dt L n H)(e:Kt x y=J b)(bx:eQ X.K L H x v)(aV:cQ v fS)(cn:eQ X.K L H y w)(bb:cQ w gh) :
  ∃l aZ,gh=.ref l/\s.heap.IsList l aZ/\∃f:ay->MF,aZ.any f=b/\∀z,z∈aZ->EqAt X.A.in1 s z fS (f z):=by
 cases y with
 |aj xs =>
  let e:(if hc x=Y1/\ey 5 x=Y0/\xs.all (ey 5)=Y0 then J (xs.any λy=>d1 y x) else C)=J b:=e;split at e
  .rename_i aI;let(ao,au,Ku):=aI
   ext e
   let(a,ag,rfl,gX,dk):=cn
   ext bb
   let(aZ,r,cH,_):=I.list gX.gX;let(df,fR):=Q4 dk r;let de:aL L H x v:=bx.rep ao;let key:∀(t:T) (z:ay),t∈xs->(∃v,aL L H t v/\cQ v z)->∀t'∈xs,(∃v,aL L H t' v/\cQ v z)->t=t':=λt z ct ⟨v,ae,ai⟩ t' Kv ⟨f5,ny,qP⟩=>by obtain rfl:=anq ai qP;show Po 5 t t' v (iq.mp Ku t ct) (iq.mp Ku t' Kv) ae ny
   show{a,aZ.D,P,cH.isList,λz=>decide (∃t∈xs,(∃v,aL L H t v/\cQ v z)/\d1 t x=Y0),?_,λz hz=>?_}
   .rw[w1,Array.any_eq_true',wV];constructor
    .rintro⟨z,hz,h⟩;let(t,ct,_,h):=Ul h;show{(t),ct,h}
    .rintro⟨t,ct,h⟩;let(f5,z,hz,k1,k2):=df t ct;show{z,by simpa using hz,Nk {t,ct,{(f5),k1,k2},h}}
   .let(t,ct,f5,k1,k2):=fR z (by simpa using hz);let pt:=iq.mp Ku t ct;let q:=(Mk I aR 5 X.A.in1 t x z fS (by rw[in1_units];show bP) pt au (tF I pt (eQ.GL aR k1) k2)<|tF I au bx aV).2.2 {(f5),k1,k2} {(v),de,aV};let ax:decide (∃t∈xs,(∃v,aL L H t v/\cQ v z)/\d1 t x=Y0)=d1 t x:=by
     rw[w1,decide_eq_true_iff];constructor
     .rintro⟨t',Kv,ae,ai⟩;obtain rfl:=key t z ct {(f5),k1,k2} t' Kv ae;show ai
     .intro h;show{t,ct,{(f5),k1,k2},h}
    show EqAt X.A.in1 s z fS (decide _);rw[ax];show q
  .ext e
 |_=>ext e
def ad1(bP:X.A.units+6<fA):fJ X L (two<|hn .NotIn) A6:=by
 intro B ah s U H ag us aE n t m Q I bh ba aR e k
 match aE,e with
 |[x,y],e =>
  let(b,aB,ax):=dR (show(Kt x y).map _=_ from e)
  ext ax
  let(v,w,rfl,bx,cn):=l7 ba;let(fS,gh,rfl,aV,bb):=bh.two;let(l,aZ,rfl,az,f,hf,he):=alQ (B:=B) bP I aR aB bx aV cn bb;show SeqAt.notIn_listAt f az he ?_;rw[hf];show{.aU<|!b,H,I,P,k _ H ZQ aR<|by show aL L H (.aU _) _;rw[aL]}
variable {X:bK}{L:MC}
noncomputable def BU(a b:bS):bS:=λS n=>(a S n).bind λr=>match r.1 with
 |.aF []=>b S r.2.2
 |.aF (_::_)=>J r
 |_=>C
def ajW{a b:MG}{dT db:bS}{pos:MK}(ae:bM X L a dT)(ai:bM X L b db):bM X L (.BoolOp .Or [a,b] pos)<|BU dT db:=by
 intro B S n t m n' hd ah s U H Q I ⟨R,k⟩;let((x,df,aY),aB,ax):=cE hd;show BoolOp_or (cm (ae.run aB I R) λu s1 ⟨v,H1,bt,bx,a1,bN,cb⟩=>?_);let ba:=cb.root bN R.aR
 match x,ax,ba,cb with
 |.aF [],ax,ba,cb =>
  show D3 bt bx ba (b:=Y1) P λs2 di=>?_;show(Vu ai) B S aY t m n' ax ah s2 U H1 Q di {bN,λv ak p q r=>k v ak (a1.trans p) q<|r.back a1 bN.aR}
 |.aF (y::aO),ax,ba,cb =>
  show D3 bt bx ba (b:=Y0) (by simp[jZ]) λs2 di=>?_
  ext ax
  show{v,H1,di,bx,k v H1 a1 bN.aR cb}
end a8.bD
namespace a8.bD
open PySem
def Q5(ns:O D)(i:D)(h0:0<=i)(ae:i<ns.H):∃c∈ns,fV (ns.map T.int) i=J (.int c):=by
 let h:i.M<ns.H:=by lia
 show{ns[i.M],nP h,?_};delta fV;rw[Y2 h0,Y2<|by simpa using ae];simp[h]
def EY(k:Y)(ns:O D):(ns.map T.int).all (ey k)=Y0:=by rw[y5,iq];intro x _;ext k<;>rfl
theorem r5:∀l:O D,e5 (l.map T.int)=J l
 |[]=>rfl
 |x::xs=>by show(e5<|xs.map T.int).map (x::·)=_;rw[r5 xs];rfl
theorem Kw{α:Type}(f:α->T):∀l:O α,(∀x∈l,f x=.aU Y0)->∃bs,q9 (l.map f)=J bs/\bs.all id=Y0
 |[],_=>{[],P,P}
 |x::xs,h=>by
  let(bs,e,a):=Kw f xs λy aJ=>h y<|cZ _ aJ
  show⟨Y0::bs,by
   rw[cj,h x<|cc ..];show(q9<|xs.map f).map (Y0::·)=_
   rw[e];rfl,by simpa using a⟩
theorem Q6:∀{ls:O Z0},(∀l∈ls,l≠[])->rS (ls.map ar)=J ls
 |[],_=>rfl
 |l::ls,h=>by
  let aQ:=Q6 (ls:=ls) λl az=>h l<|cZ _ az;cases l with
  |nil=>show MI P<|h []<|cc ..
  |cons x xs =>
   let:=r5<|x::xs;rw[cj]at this;show(e5<|.int x::xs.map T.int).bind (λl=>(rS<|ls.map ar).map (l::·))=_;rw[this,aQ];rfl
theorem Kx{put:T->bF->MB bF}{c:fy}{R:bF->Prop}{p:T->MF}{f:T->T}:∀(xs:O T),(∀x∈xs,∀S n,R S->∃S',put x S=J S'/\R S'/\c S' n=J (p x,n)/\(p x=Y0->bB e S' n=J (f x,.aa,n))) ->
  ∀(S:bF) (n:Y) (V9:O T),R S->V9.H+xs.H<=bp->je put c e xs S n V9=J (V9++(xs.filter p).map f,n)
 |[],_,S,n,V9,_,_=>by simp[je]
 |x::xs,h,S,n,V9,gi,ao=>by
  let(S',aB,bx,ax,bq):=h x (cc ..) S n gi;rw[dv]at ao;delta je;rw[aB];erw[eC,ax];by_cases aC:p x=Y0
  .rw[Y2 aC,bq aC];erw[eC];rw[Y2<|oS ao,Kx xs (λy aJ=>h y<|cZ _ aJ) S' n (V9++[f x]) bx<|by simp;lia];simp[aC]
  .rw[Y3 aC,Kx xs (λy aJ=>h y<|cZ _ aJ) S' n V9 bx<|ei ao];simp[aC]
def yn{i:Y}{n n':Y}(h:d S n=J (t,.aA,n'))(hi:S[i]?=J (J (u,.aA)))(bL:g u t=J t'):hN i g d S n=J (.bC,S.set i<|some (t',.aA),n'):=by delta hN bB;erw[h,eC,eI,nU,hi,bL]
def A7(lo hi:D):(i7 lo hi).H=(hi-lo).M:=by simp[i7]
end a8.bD
namespace a8.bD
open PySem
def EZ{α:Type}{i:Y}{n:Y}(aO:O α)(g:α->T)(p:α->MF)(f:α->T)(hi:it S n=J (aO.map g,n))(az:aO.H<=bp)
  (h:∀y∈aO,c ((cY l S).set i (J (g y,.aa))) n=J (p y,n)/\(p y=Y0->bB e ((cY l S).set i (J (g y,.aa))) n=J (f y,.aa,n))) :
  eX it (cY l) (b4 i) c e S n=J (.aj<|(aO.filter p).map f,.aA,n):=by
 let gen:∀(zs:O α) (S0:bF) (V9:O T),(∀y∈zs,y∈aO)->(∀v,S0.set i v=(cY l S).set i v)->V9.H+zs.H<=bp->je (b4 i) c e (zs.map g) S0 n V9=J (V9++(zs.filter p).map f,n):=by
  intro zs
  induction zs with
  |nil=>intro S0 V9 _ _ _;simp[je]
  |cons z zs aQ =>
   intro S0 V9 hz zU ao;rw[dv]at ao;let(ae,ai):=h z<|hz z<|cc ..;let A8:∀v,((cY l S).set i (J (g z,.aa))).set i v=(cY l S).set i v:=λv=>by rw[Ci]
   rw[cj];delta je;erw[b4,eC,zU,ae];cases aC:p z with
   |true =>
    erw[MR,ai aC,eC];rw[Y2<|oS ao,aQ _ _ (λy aJ=>hz y<|cZ _ aJ) A8<|by simp;lia];simp[aC]
   |false =>
    erw[iB,MU];rw[aQ _ _ (λy aJ=>hz y<|cZ _ aJ) A8<|ei ao];simp[aC]
 delta eX;rw[hi];erw[eC];rw[gen aO _ [] (λ_ h=>h) (λ_=>P)<|by simpa using az];rfl
def mS{α:Type}{i:Y}{n:Y}(aO:O α)(g:α->T)(f:α->T)(hi:it S n=J (aO.map g,n))(az:aO.H<=bp)
  (h:∀y∈aO,bB e ((cY l S).set i (J (g y,.aa))) n=J (f y,.aa,n)) :
  eX it (cY l) (b4 i) yes e S n=J (.aj<|aO.map f,.aA,n):=by
 rw[EZ aO g (λ_=>Y0) f hi az λy aJ=>{P,λ_=>h y aJ},B6.mpr λ_ _=>P]
def anr{α:Type}{i j:Y}{n:Y}(aO:O α)(g g':α->T)(p:α->MF)(f:α->T)(jf:i≠j)(hi:it S n=J (aO.map λy=>.aF [g y,g' y],n))(az:aO.H<=bp)
  (h:∀y∈aO,c (((cY l S).set i (J (g y,.aa))).set j (J (g' y,.aa))) n=J (p y,n)/\(p y=Y0->bB e (((cY l S).set i (J (g y,.aa))).set j (J (g' y,.aa))) n=J (f y,.aa,n))) :
  eX it (cY l) (Aj i j) c e S n=J (.aj<|(aO.filter p).map f,.aA,n):=by
 let gen:∀(zs:O α) (S0:bF) (V9:O T),(∀y∈zs,y∈aO)->(∀v f5,(S0.set i v).set j f5=((cY l S).set i v).set j f5)->V9.H+zs.H<=bp->je (Aj i j) c e (zs.map λy=>.aF [g y,g' y]) S0 n V9=J (V9++(zs.filter p).map f,n):=by
  intro zs
  induction zs with
  |nil=>intro S0 V9 _ _ _;simp[je]
  |cons z zs aQ =>
   intro S0 V9 hz zU ao;rw[dv]at ao;let(ae,ai):=h z<|hz z<|cc ..;let A8:∀v f5,((((cY l S).set i (J (g z,.aa))).set j (J (g' z,.aa))).set i v).set j f5=((cY l S).set i v).set j f5:=λv f5=>by rw[List.set_comm (J (g' z,a9.aa)) v<|M4 jf,Ci,Ci]
   rw[cj];delta je;erw[Aj,eC,zU,ae];cases aC:p z with
   |true =>
    erw[MR,ai aC,eC];rw[Y2<|oS ao,aQ _ _ (λy aJ=>hz y<|cZ _ aJ) A8<|by simp;lia];simp[aC]
   |false =>
    erw[iB,MU];rw[aQ _ _ (λy aJ=>hz y<|cZ _ aJ) A8<|ei ao];simp[aC]
 delta eX;rw[hi];erw[eC];rw[gen aO _ [] (λ_ h=>h) (λ_ _=>P)<|by simpa using az];rfl
def Q7{it:iH}{l:O<|MB Y}{i:Y}{e:bS}{S:bF}{n0 n:Y}{xs:O T}{V8:T->Prop}{K N:Y}(hi:it S n0=J (xs,n))(h:∀x n,n+K<=N->∃t n',bB e ((cY l S).set i (J (x,.aa))) n=J (t,.aa,n')/\n<=n'/\n'<=n+K/\V8 t)
  (bI:n+K*xs.H<=N) (ao:xs.H<=bp):∃out n',out.H=xs.H/\(∀t∈out,V8 t)/\n<=n'/\n'<=n+K*xs.H/\eX it (cY l) (b4 i) yes e S n0=J (.aj out,.aA,n'):=by
 let gen:∀(zs:O T) (S0:bF) (n:Y) (V9:O T),(∀v,S0.set i v=(cY l S).set i v)->n+K*zs.H<=N->V9.H+zs.H<=bp->∃out n',out.H=zs.H/\(∀t∈out,V8 t)/\n<=n'/\n'<=n+K*zs.H/\je (b4 i) yes e zs S0 n V9=J (V9++out,n'):=by
  intro zs
  induction zs with
  |nil=>intro S0 n V9 _ _ _;show{[],n,P,λt ct=>by simp at ct,b8 _,by simp,by simp[je]}
  |cons z zs aQ =>
   intro S0 n V9 zU bI ao;let aW:K*(zs.H+1)=K*zs.H+K:=by rw[Nat.mul_succ]
   rw[dv,aW]at bI;rw[dv]at ao;let(t,aY,aB,d0,hp,p):=h z n Z6;let(out,ck,aV,bb,mA,pg,c1):=aQ ((cY l S).set i (J (z,.aa))) aY (V9++[t]) (λv=>by rw[Ci]) Z6 (by simp;lia);show⟨t::out,ck,by simp[aV],λt' ct=>?_,(bw d0 mA),by rw[dv,aW];lia,?_⟩
   .rcases cF.mp ct with rfl|ct
    .show p
    .show bb t' ct
   .delta je;erw[b4,zU,eC,yes,aB,MR];rw[Y2<|oS ao,c1];simp
 let(out,n',aV,bb,c1,gn,iw):=gen xs (cY l S) n [] (λ_=>P) bI (by simpa using ao);show{out,n',aV,bb,c1,gn,?_};delta eX;rw[hi];erw[eC];rw[iw];rfl
theorem VJ{α:Type}(f:α->T)(Q:α->Prop):∀{out:O T},(∀t∈out,∃y,t=f y/\Q y)->∃l:O α,out=l.map f/\∀y∈l,Q y
 |[],_=>{[],P,by simp}
 |t::aE,h=>by
  let(l,rfl,az):=VJ f Q λt ct=>h t<|cZ _ ct;let(y,rfl,aJ):=h t<|cc ..
  show⟨y::l,P,λz hz=>by
   rcases cF.mp hz with rfl|hz
   .show aJ
   .show az z hz⟩
theorem Q8{α U:Type}{put:T->bF->MB bF}{g:α->T}{n:Y}(R:U->bF->Prop)(step:U->α->U):∀(aO:O α) (s:U) (S:bF),(∀pre y post,aO=pre++y::post->∀S,R (pre.foldl step s) S->∃S1 S2,put (g y) S=J S1/\b S1 n=J (.bC,S2,n)/\R (step (pre.foldl step s) y) S2)->R s S ->
  ∃S',R (aO.foldl step s) S'/\eb put b (aO.map g) S n=J (.bC,S',n)
 |[],s,S,_,gi=>{(S),gi,P}
 |y::aO,s,S,h,gi=>by let(S1,S2,aB,ax,cn):=h [] y aO P S gi;let(S',h2,bq):=Q8 R step aO (step s y) S2 (λpre z post e S gi=>h (y::pre) z post (by rw[e];rfl) S gi) cn;show{S',h2,?_};rw[cj];delta eb;erw[aB,eC,ax];show bq
def Q9{α U:Type}{put:T->bF->MB bF}{g:α->T}{n:Y}(R:U->bF->Prop)(step:U->α->U)(aO:O α)(s:U)(S:bF)(h:∀y∈aO,∀s S,R s S->∃S1 S2,put (g y) S=J S1/\b S1 n=J (.bC,S2,n)/\R (step s y) S2)(gi:R s S) :
  ∃S',R (aO.foldl step s) S'/\eb put b (aO.map g) S n=J (.bC,S',n) :=
 Q8 R step aO s S (λpre y post e S gi=>h y (by rw[e];simp) _ S gi) gi
def Ra(n:Y)(ae:l.H<100000)(ai:∀x∈l,-10000000000000<=x/\x<=10000000000000):pD n [.aF<|l.map .int]=J (.int<|bA l,.aa):=by
 let:(l.all λx=>decide (x.natAbs<=10000000000000))=Y0:=by rw[iq];intro x au;let:=ai x au;simp;lia
 show(e5<|l.map T.int).bind _=_;rw[r5,eC,Y2 {(ae),this}]
def Ky{n n':Y}{j:D}(h:a S n=J ([.int j],n'))(cb:-(bp:D)<=j)(d9:j<=bp):l2 a S n=J (i7 0 j,n'):=by delta l2;rw[h];show(if-(bp:D)<=j/\j<=bp then J (i7 0 j,n') else C)=_;rw[Y2 {(cb),d9}]
def Kz{n n':Y}{i j:D}(h:a S n=J ([.int i,.int j],n'))(cb:-(bp:D)<=i)(d9:i<=bp)(jU:-(bp:D)<=j)(xv:j<=bp):rR a S n=J (i7 i j,n'):=by delta rR;rw[h];show(if-(bp:D)<=i/\i<=bp /\ -(bp:D)<=j/\j<=bp then J (i7 i j,n') else C)=_;rw[Y2 {(cb),d9,jU,xv}]
def ans(m:Y):i7 0 m=(M0 m).map λk=>.int (k:Y):=by simp[i7]
theorem KA{k:Y}(go:∀t:T,ey k t=Y0->d1 t t=Y0):∀a:O T,(a.all<|ey k)=Y0->jK a a=Y0
 |[],_=>rfl
 |x::a,h=>by rw[oR,iR]at h;show(d1 x x&&jK a a)=Y0;rw[go x h.1,KA go a h.2];rfl
def ant(t:T)(h:ey 0 t=Y0):d1 t t=Y0:=by
 induction t using T.casesOn with
 |b0=>rfl
 |aU b=>show(b==b)=Y0;simp
 |int i=>show(i==i)=Y0;simp
 |str x=>show(x==x)=Y0;simp
 |_=>ext h
theorem KC:∀(k:Y) (t:T),ey k t=Y0->d1 t t=Y0
 |0,t,h=>ant t h
 |k+1,t,h=>by
  induction t using T.casesOn with
  |aF a=>show KA (KC k) a h
  |aj a=>show KA (KC k) a h
  |b0=>rfl
  |aU b=>show(b==b)=Y0;simp
  |int i=>show(i==i)=Y0;simp
  |str x=>show(x==x)=Y0;simp
  |_=>ext h
def r6(h:ey 6 t=Y0):pA t t=J Y0:=by
 let e:=KC 6 t h;let q:pA t t=if(ey 6 t&&ey 6 t)=Y0 then J (d1 t t) else C:=by
  induction t using T.casesOn with
  |a3 a=>ext h
  |_=>rfl
 rw[q,h,e];rfl
def ad2(k:Y)(l:O D):ey (k+1) (ar l)=Y0:=by show(l.map T.int).all (ey k)=Y0;show EY k l
def at_neg(h:xs≠[])(e:xs.getLast h=t):fV xs (-1)=J t:=by let az:0<xs.H:=B7.mpr h;delta fV;rw[Y3 Z1,Y2 Z6,show(-1+(xs.H:D)).M=xs.H-1 by lia];rw[<-e,List.getLast_eq_getElem];simp[az]
end a8.bD
namespace a8.bD
variable {α:Type}
noncomputable def Ma(b:br):MB (ie×bF×Y)->MB (ie×bF×Y)
 |some (.bC,S,n)=>b S n
 |x=>x
def ah3(a b:br)(S:bF)(n:Y):bk a b S n=Ma b (a S n):=by
 delta bk;cases a S n with
 |none=>rfl
 |some r=>let(f,S1,aY):=r;ext f<;>rfl
def ajX(b:br)(S:bF)(n:Y):Ma b (J (.bC,S,n))=b S n:=rfl
def ajY(b:br)(S:bF)(n:Y)(t:T)(o:MF):Ma b (J (.ba t o,S,n))=J (.ba t o,S,n):=rfl
noncomputable def vS(a b:Y->MB α):MB (MF×Y)->MB α
 |some (t,n)=>if t then a n else b n
 |none=>C
def ah4(c:fy)(a b:br)(S:bF)(n:Y):en c a b S n=vS (a S) (b S) (c S n):=by delta en;cases c S n<;>rfl
def ahg(c:fy)(a b:bS)(S:bF)(n:Y):qJ c a b S n=vS (a S) (b S) (c S n):=by delta qJ;cases c S n<;>rfl
def kO(a b:Y->MB α)(t:MF)(n:Y):vS a b (J (t,n))=if t then a n else b n:=rfl
def ah5(a b:Y->MB α)(n:Y):vS a b (J (Y0,n))=a n:=rfl
def ah6(a b:Y->MB α)(n:Y):vS a b (J (Y1,n))=b n:=rfl
noncomputable def Mb(i:Y)(S:bF):MB (T×a9×Y)->MB (ie×bF×Y)
 |some (t,.aA,n)=>J (.bC,S.set i<|some (t,.aA),n)
 |some (t,.aa,n)=>J (.bC,S.set i<|some (t,.aa),n)
 |_=>C
def ah7(i:Y)(d:bS)(S:bF)(n:Y):cX i d S n=Mb i S (d S n):=by
 delta cX;cases d S n with
 |none=>rfl
 |some r=>let(t,m,aY):=r;ext m<;>rfl
def ajZ(i:Y)(S:bF)(t:T)(n:Y):Mb i S (J (t,.aA,n))=J (.bC,S.set i<|some (t,.aA),n):=rfl
def aj0(i:Y)(S:bF)(t:T)(n:Y):Mb i S (J (t,.aa,n))=J (.bC,S.set i<|some (t,.aa),n):=rfl
noncomputable def Mc(S:bF):MB (T×a9×Y)->MB (ie×bF×Y)
 |some (t,.aA,n)=>J (.ba t Y0,S,n)
 |some (t,.aa,n)=>J (.ba t Y1,S,n)
 |_=>C
def UY(d:bS)(S:bF)(n:Y):dQ d S n=Mc S (d S n):=by
 delta dQ;cases d S n with
 |none=>rfl
 |some r=>let(t,m,aY):=r;ext m<;>rfl
def aj1(S:bF)(t:T)(n:Y):Mc S (J (t,.aA,n))=J (.ba t Y0,S,n):=rfl
def aj2(S:bF)(t:T)(n:Y):Mc S (J (t,.aa,n))=J (.ba t Y1,S,n):=rfl
def Md(n:Y):MB (MB ZE)->MB (T×a9×Y)
 |some (J (t,m))=>J (t,look m t,n)
 |_=>C
def UZ(i:Y)(S:bF)(n:Y):aq i S n=Md n S[i]?:=by delta aq Md;split<;>simp_all
def ah8(n:Y)(t:T)(m:a9):Md n (J<|some (t,m))=J (t,look m t,n):=rfl
noncomputable def Gl(n:Y):MB ZE->MB (T×a9×Y)
 |some (t,m)=>J (t,m,n)
 |none=>C
def Rb(g:ee):MB (O T×Y)->MB (T×a9×Y)
 |some (aE,n)=>Gl n<|g n aE
 |none=>C
def UB(g:ee)(a:ho)(S:bF)(n:Y):aD g a S n=Rb g (a S n):=by
 delta aD;cases a S n with
 |none=>rfl
 |some r=>let(aE,aY):=r;show(g aY aE).map _=Gl aY (g aY aE);cases g aY aE<;>rfl
def ahh(g:ee)(aE:O T)(n:Y):Rb g (J (aE,n))=Gl n (g n aE):=rfl
def ah9(n:Y)(t:T)(m:a9):Gl n (J (t,m))=J (t,m,n):=rfl
noncomputable def E0(t:T):MB (O T×Y)->MB (O T×Y)
 |some (aE,n)=>J (t::aE,n)
 |none=>C
def Va(r:ho)(S:bF):MB (T×a9×Y)->MB (O T×Y)
 |some (t,_,n)=>E0 t<|r S n
 |none=>C
def VK(d:bS)(r:ho)(S:bF)(n:Y):af d r S n=Va r S (d S n):=by
 delta af;cases d S n with
 |none=>rfl
 |some x=>let(t,m,aY):=x;show(r S aY).map _=E0 t (r S aY);cases r S aY<;>rfl
def aj3(r:ho)(S:bF)(t:T)(m:a9)(n:Y):Va r S (J (t,m,n))=E0 t (r S n):=rfl
def alR(t:T)(aE:O T)(n:Y):E0 t (J (aE,n))=J (t::aE,n):=rfl
noncomputable def E1(p:T×MF):MB (O (T×MF)×Y)->MB (O (T×MF)×Y)
 |some (aE,n)=>J (p::aE,n)
 |none=>C
def NT(r:jS)(S:bF):MB (T×a9×Y)->MB (O (T×MF)×Y)
 |some (t,m,n)=>E1 (t,flag m t)<|r S n
 |none=>C
def ad3(d:bS)(r:jS)(S:bF)(n:Y):a0 d r S n=NT r S (d S n):=by
 delta a0;cases d S n with
 |none=>rfl
 |some x=>let(t,m,aY):=x;show(r S aY).map _=E1 (t,flag m t) (r S aY);cases r S aY<;>rfl
def ad4(r:jS)(S:bF)(t:T)(m:a9)(n:Y):NT r S (J (t,m,n))=E1 (t,flag m t) (r S n):=rfl
def ahi(p:T×MF)(aE:O<|T×MF)(n:Y):E1 p (J (aE,n))=J (p::aE,n):=rfl
noncomputable def Gm(n:Y):MB T->MB (T×a9×Y)
 |some t=>J (t,.aa,n)
 |none=>C
def Rc:MB (T×a9×Y)->MB (T×a9×Y)
 |some (t,m,n)=>Gm n<|eI t m
 |none=>C
def ahj(d:bS)(S:bF)(n:Y):bB d S n=Rc (d S n):=by
 delta bB;cases d S n with
 |none=>rfl
 |some x=>let(t,m,aY):=x;show(eI t m).map _=Gm aY (eI t m);cases eI t m<;>rfl
def ahk(t:T)(m:a9)(n:Y):Rc (J (t,m,n))=Gm n (eI t m):=rfl
def aia(n:Y)(t:T):Gm n (J t)=J (t,.aa,n):=rfl
noncomputable def GC(n:Y):MB MF->MB (MF×Y)
 |some b=>J (b,n)
 |none=>C
def UC:MB (T×a9×Y)->MB (MF×Y)
 |some (t,_,n)=>GC n<|jZ t
 |none=>C
def aib(d:bS)(S:bF)(n:Y):cG d S n=UC (d S n):=by
 delta cG;cases d S n with
 |none=>rfl
 |some x=>let(t,m,aY):=x;show(jZ t).map _=GC aY (jZ t);cases jZ t<;>rfl
def aic(t:T)(m:a9)(n:Y):UC (J (t,m,n))=GC n (jZ t):=rfl
def aj4(n:Y)(b:MF):GC n (J b)=J (b,n):=rfl
noncomputable def UD:MB (MF×Y)->MB (MF×Y)
 |some (b,n)=>J (!b,n)
 |none=>C
def aid(c:fy)(S:bF)(n:Y):gk c S n=UD (c S n):=by delta gk;cases c S n<;>rfl
def k_not(b:MF)(n:Y):UD (J (b,n))=J (!b,n):=rfl
def aie(a b:fy)(S:bF)(n:Y):wq a b S n=vS (b S) (λn=>J (Y1,n)) (a S n):=by delta wq;cases a S n<;>rfl
def ahl(a b:fy)(S:bF)(n:Y):jd a b S n=vS (λn=>J (Y0,n)) (b S) (a S n):=by delta jd;cases a S n<;>rfl
def Gn:MB (T×MF×Y)->MB (T×a9×Y)
 |some (t,b,n)=>J (t,lb b,n)
 |none=>C
def Vb(e3:Y)(f:dV):MB (O (T×MF)×Y)->MB (T×a9×Y)
 |some (aE,n)=>if aE.H=e3 then Gn (f aE n) else C
 |none=>C
def aj5(e3:Y)(f:dV)(a:jS)(S:bF)(n:Y):cD e3 f a S n=Vb e3 f (a S n):=by
 delta cD;cases a S n with
 |none=>rfl
 |some x =>
  let(aE,aY):=x;show(if aE.H=e3 then(f aE aY).map _ else C)=if aE.H=e3 then Gn (f aE aY) else C
  cases f aE aY<;>rfl
def alS(e3:Y)(f:dV)(aE:O<|T×MF)(n:Y):Vb e3 f (J (aE,n))=if aE.H=e3 then Gn (f aE n) else C:=rfl
def aif(t:T)(b:MF)(n:Y):Gn (J (t,b,n))=J (t,lb b,n):=rfl
def ad5(t:T)(S:bF)(n:Y):aH t S n=J (t,.aa,n):=rfl
def aih(S:bF)(n:Y):aw S n=J ([],n):=rfl
def aj6(S:bF)(n:Y):cw S n=J ([],n):=rfl
def aj7(S:bF)(n:Y):eJ S n=J (.bC,S,n):=rfl
def UE:MB (O T×Y)->MB (T×a9×Y)
 |some (aE,n)=>if aE.H<=bp then J (.aF aE,.aa,n) else C
 |none=>C
def aii(a:ho)(S:bF)(n:Y):c6 a S n=UE (a S n):=by delta c6;cases a S n<;>rfl
def aij(aE:O T)(n:Y):UE (J (aE,n))=if aE.H<=bp then J (.aF aE,.aa,n) else C:=rfl
noncomputable def GD(n:Y):MB bF->MB (ie×bF×Y)
 |some S=>J (.bC,S,n)
 |none=>C
def UG(put:T->bF->MB bF)(S:bF):MB (T×a9×Y)->MB (ie×bF×Y)
 |some (t,_,n)=>GD n<|put t S
 |none=>C
def aik(put:T->bF->MB bF)(d:bS)(S:bF)(n:Y):Up put d S n=UG put S (bB d S n):=by
 delta Up;cases bB d S n with
 |none=>rfl
 |some x=>let(t,m,aY):=x;show(put t S).map _=GD aY (put t S);cases put t S<;>rfl
def k_put(put:T->bF->MB bF)(S:bF)(t:T)(m:a9)(n:Y):UG put S (J (t,m,n))=GD n (put t S):=rfl
def aj8(n:Y)(S:bF):GD n (J S)=J (.bC,S,n):=rfl
noncomputable def Mp(b:bS)(S:bF):MB (T×a9×Y)->MB (T×a9×Y)
 |some (.aU Y0,_,n)=>b S n
 |some (.aU Y1,_,n)=>J (.aU Y1,.aa,n)
 |_=>C
def aj9(a b:bS)(S:bF)(n:Y):Ai a b S n=Mp b S (a S n):=by
 delta Ai;cases a S n with
 |none=>rfl
 |some x =>
  let(t,m,aY):=x
  induction t using T.casesOn with
  |aU c=>ext c<;>rfl
  |_=>rfl
def alT(b:bS)(S:bF)(m:a9)(n:Y):Mp b S (J (.aU Y0,m,n))=b S n:=rfl
def alU(b:bS)(S:bF)(m:a9)(n:Y):Mp b S (J (.aU Y1,m,n))=J (.aU Y1,.aa,n):=rfl
def A9(i:D):tY .int (.int i)=J Y0:=rfl
def Ba(i:D):tY .bool (.int i)=J Y1:=rfl
def yo(a:O T):tY .tuple (.aF a)=J Y0:=rfl
def vT(a:O T):tY .list (.aj a)=J Y0:=rfl
def Bb(a:PySem.Str):tY .str (.str a)=J Y0:=rfl
def mb(n:Y)(a b:D):dE n [.int a,.int b]=J (.int<|a+b,.aa):=rfl
def vU(n:Y)(a b:O T):dE n [.aF a,.aF b]=if a.H+b.H<=bp then J (.aF<|a++b,.aa) else C:=rfl
def E2(n:Y)(a b:O T):dE n [.aj a,.aj b]=if a.H+b.H<=bp then J (.aj<|a++b,.aA) else C:=rfl
def yp(n:Y)(a:O T)(i:D):cz n [.aj a,.int i]=(fV a i).map λt=>(t,.aa):=rfl
def yq(n:Y)(a:O T)(i:D):cz n [.aF a,.int i]=(fV a i).map λt=>(t,.aa):=rfl
def KD(n:Y)(a:O<|hR×T)(k:T):cz n [.a3 a,k]=(kq k).bind λk=>(i0 a k).map λt=>(t,.aa):=rfl
def pQ(n:Y)(a:O T):fG n [.aj a]=J (.int a.H,.aa):=rfl
def qY(n:Y)(a:O T):fG n [.aF a]=J (.int a.H,.aa):=rfl
def Bc(n:Y):fG n [.fE]=J (.int n,.aa):=rfl
def Bd(n:Y)(a:O<|hR×T):fG n [.a3 a]=J (.int a.H,.aa):=rfl
def VL(n:Y)(a b:D):fF n [.int a,.int b]=if Mw a||Mw b then J (.int<|a*b,.aa) else C:=rfl
def alV(n:Y)(a:O T):Mh n [.aF a]=J (.aj a,.aA):=rfl
def vV(a b:O T):hj (.aj a) (.aj b)=if a.H+b.H<=bp then J (.aj<|a++b) else C:=rfl
def pR(n:Y)(a b:D):hu n [.int a,.int b]=J (.aU<|a==b,.aa):=rfl
def vW(n:Y)(a b:T):hu n [a,b]=(pA a b).map λr=>(.aU r,.aa):=rfl
def Be(n:Y)(a b:T):hv n [a,b]=(pA a b).map λr=>(.aU<|!r,.aa):=rfl
def aka(n:Y)(a:O<|hR×T)(k x:T):kH n [.a3 a,k,x]=if hc x then C else(kq k).map λk=>((i0 a k).getD x,.aa):=rfl
def E3(a:O<|hR×T)(k v:T):me (.a3 a) k v=(kq k).bind λk=>if a.H<bp then J (.a3<|jF a k v) else C:=rfl
def ail(n:Y)(a:O T)(y:D):xY n [.aF a,.int y]=(e5 a).map λns=>(.int (ns.filter λx=>x==y).H,.aa):=rfl
def Mq(n:Y)(a:O T):wu n [.aj a]=(q9 a).map λbs=>(.aU<|bs.all id,.aa):=rfl
def akb(b:MF):jZ (.aU b)=J b:=rfl
def akc(i:D):jZ (.int i)=J (i != 0):=rfl
def akd(a:O T):jZ (.aj a)=J (!a.isEmpty):=rfl
def ake(a:O T):jZ (.aF a)=J (!a.isEmpty):=rfl
def akf(a:O<|hR×T):jZ (.a3 a)=J (!a.isEmpty):=rfl
def akg:jZ .b0=J Y1:=rfl
def E4(S:bF)(n:Y):MB (MB ZE)->MB (ie×bF×Y)
 |some (J (t,.aA))=>J (.ba t Y0,S,n)
 |some (J (t,.aa))=>J (.ba t Y1,S,n)
 |some (J (t,.b9))=>if hc t then C else J (.ba t Y1,S,n)
 |_=>C
def ahm(i:Y)(S:bF)(n:Y):lD i S n=E4 S n S[i]?:=by delta lD E4;rfl
def aim(S:bF)(n:Y)(t:T):E4 S n (J<|some (t,.aA))=J (.ba t Y0,S,n):=rfl
def ain(S:bF)(n:Y)(t:T):E4 S n (J<|some (t,.aa))=J (.ba t Y1,S,n):=rfl
end a8.bD
open Lean in
local macro_rules|`(tactic| simp![$l,*])=>do
 let x:TSyntaxArray `Lean.Parser.Tactic.simpLemma:=("ea ah3 ajX ajY ah4 ahg ah5 ah6 ah7 ajZ aj0 UY aj1 aj2 UZ ah8 UB ahh ah9 VK aj3 alR ad3 ad4 ahi ahj ahk aia aib aic aj4 aid k_not aie ahl aj5 alS aif ad5 aih aj6 aj7 aii aij aik k_put aj8 aj9 alT alU eI look hc flag lb akb akc akd ake akf akg ahm aim ain jH DQ".splitOn " ").toArray.map fun s=>⟨mkNode `Lean.Parser.Tactic.simpLemma #[mkNullNode,mkNullNode,mkIdent<|`a8.bD++s.toName]⟩
 `(tactic| simp [$x,*,$l,*])
namespace du
open PySem a8 a8.bD
def KG:br:=(bk (en (jd (gk<|cG<|aD (iP .int) ZL)<|cG<|aD (iP .bool) ZL) (dQ<|aH<|.aU Y1) eJ)<|dQ<|pC jE jE (aq 1) (aq 0)<|aq 2)
def oz:dV:=ea 3<|KG
def Rd:bS:=eX (fU<|aq 0) (cY [C,J 0]) (b4 0) yes<|cD 3 oz<|a0 (aq 0)<|a0 Z9<|a0 (aH<|.int 30) cw
def Rf:br:=(bk (en (jd (gk<|cG<|aD (iP .tuple) ZL)<|gk<|cG<|pC jE jE Z8 (aD fG ZL)<|aH<|.int 8) (dQ<|aH<|.aU Y1) eJ)<|bk (fq 0<|en (gk<|cG<|aD wu<|af Rd aw) (dQ<|aH<|.aU Y1) eJ)<|dQ<|aD hu<|af (aD Mh ZL)<|af (aD vo ZL) aw)
def Bf:dV:=ea 1<|Rf
def Rg:bS:=eX (fU<|aq 0) (cY [C,J 0]) (b4 0) yes<|cD 1 Bf Ze
def Rh:br:=(bk (en (jd (gk<|cG<|aD (iP .tuple) ZL)<|gk<|cG<|pC jE jE Z8 (aD fG ZL)<|aH<|.int 4) (dQ<|aH<|.aU Y1) eJ)<|fq 0<|dQ<|aD wu<|af Rg aw)
def KH:dV:=ea 1<|Rh
def Ri:br:=(bk (en (jd (gk<|cG<|aD (iP .tuple) ZL)<|cG<|aD hv<|af (aD fG ZL)<|af (aH<|.int 2) aw) (dQ<|aH<|.aU Y1) eJ)<|dQ<|Ai (cD 3 oz<|a0 (aD cz<|af (aq 0) ZJ)<|a0 Z9<|a0 (aH<|.int 120) cw)<|cD 3 oz<|a0 (aD cz<|af (aq 0) ZT)<|a0 Z8<|a0 (aH<|.int 4096) cw)
def Bg:dV:=ea 1<|Ri
def Rj:br:=(en (gk<|cG<|cD 3 oz<|a0 (aq 0)<|a0 (aq 1)<|a0 (aq 2) cw) jG eJ)
def vX:dV:=ea 3<|Rj
def KI:gE:=(kK (gk<|cG<|cD 3 oz<|a0 (aq 0)<|a0 (aq 1)<|a0 (aq 2) cw) (nt 3<|xk (aq 1)<|xk (aq 2) mz) iL)
def kP:l4:=fnX 3 KI
def Rk:br:=(en (gk<|cG<|cD 1 Bf Ze) jG eJ)
def E5:dV:=ea 1<|Rk
def Rl:br:=(en (gk<|cG<|cD 1 KH Ze) jG eJ)
def KJ:dV:=ea 1<|Rl
def Rm:br:=(j0 3 me (aD dE<|af (aq 4)<|af (aq 5) aw)<|aD dE<|af (aD kH<|af (aq 3)<|af (aD dE<|af (aq 4)<|af (aq 5) aw) ZJ)<|af (aD cz<|af (aq 1)<|af (aq 4) aw) aw)
def Rn:br:=eo (e2<|aq 2) (b4 5) Rm
def Ro:br:=(eA 2 Rn)
def Rp:br:=eo (e2<|aq 1) (b4 4) Ro
def Bh:br:=(bk (cX 3 pB)<|bk (eA 1 Rp)<|oj 1 3)
def Rq:br:=eo (e2<|aq 0) (b4 2) Bh
def Rr:br:=(bk (cX 1<|Mi Z9<|bB Z8)<|bk (eA 0 Rq)<|lD 1)
def pS:dV:=ea 6<|Rr
def KL:br:=(cX 1<|aD fF<|af (aq 1) ZN)
def KN:br:=eo (e2<|aq 0) (b4 2) KL
def Rt:br:=(bk (cX 1 Z8)<|bk (eA 0 KN)<|lD 1)
def Bi:dV:=ea 3<|Rt
def Ru:bS:=eX (fU<|aq 2) (cY ZU) (b4 0) yes<|aD dE<|af (aq 5)<|af Zd aw
def Rv:br:=(fq 2<|hN 3 hj Ru)
def Rw:br:=eo (e2<|aq 1) (b4 4) Rv
def Rx:br:=(bk (cX 3<|dA aw)<|bk (eA 1 Rw)<|oj 1 3)
def KO:br:=eo (e2<|aq 0) (b4 2) Rx
def Ry:br:=(bk (jH<|cD 1 KJ Ze)<|bk (cX 1<|dA<|af (bB<|c6 aw) aw)<|bk (eA 0 KO)<|dQ<|aD DR ZP)
def Rz:dV:=ea 5<|Ry
def RA:bS:=eX (fU<|aq 0) (cY [C,J 0,J 1]) (b4 0) yes<|aD dE<|af (aq 0) ZN
def RB:br:=(fq 0<|dQ<|aD lG<|af RA aw)
def Bj:dV:=ea 2<|RB
def RC:bS:=eX (Jb<|aq 0) (cY [C,C,J 0,J 1]) (Aj 0 1) yes<|cD 2 Bj<|a0 (aq 1)<|a0 (aD cz<|af (aq 3) ZL) cw
def RD:br:=(dQ<|aD lG<|af RC aw)
def E6:dV:=ea 2<|RD
def KP:bS:=eX (fU<|aq 1) (cY [C,J 0,J 1,J 2,J 3]) (b4 0) yes<|cD 2 E6<|a0 (aq 4) Ze
def E7:br:=(fq 1<|hN 2 hj KP)
def vY:br:=eo (e2<|aq 0) (b4 3) E7
def RE:br:=(bk (cX 2<|dA aw)<|bk (eA 0 vY)<|dQ<|aD DY ZN)
def yr:dV:=ea 4<|RE
def r7:br:=(bk (j0 2 me (aq 3)<|aD fW<|af (aD kH<|af (aq 2)<|af (aq 3) ZJ)<|af (aD cz<|af (aq 1)<|af (aq 3) aw) aw)<|en (cG<|aD lE<|af (aD cz<|af (aq 2)<|af (aq 3) aw) ZJ) (dQ<|aH .b0) eJ)
def vZ:br:=eo (e2<|aq 1) (b4 3) r7
def KQ:bS:=eX (fU<|aq 2) (cY [J 0,J 1,J 2,C]) (b4 3) (cG<|aD lF<|af (aD cz<|af (aq 2)<|af (aq 3) aw) ZJ)<|c6<|af (bB<|aq 3)<|af (bB<|aD cz<|af (aq 2)<|af (aq 3) aw) aw
def KR:br:=(bk (cX 2<|aD tx ZL)<|bk (eA 1 vZ)<|fq 2<|dQ<|aD tx<|af KQ aw)
def oA:dV:=ea 4<|KR
def RF:br:=(dQ<|aD dE<|af (aD dE<|af (wy (aq 0) vl<|vm<|aq 1)<|af (c6<|af (bB<|aD dE<|af (aD cz<|af (aq 0) ZP)<|af (c6<|af (bB<|aq 2) aw) aw) aw) aw)<|af (wy (aq 0) (vm<|aD dE<|af (aq 1) ZT) vl) aw)
def E8:dV:=ea 3<|RF
def KS:bS:=eX (l2<|af (aD fG ZN) aw) (cY ZU) (b4 0) (cG<|aD lE<|af (aD fG<|af (aD cz<|af (aq 3) ZL) aw)<|af (aD cz<|af (aq 2) ZL) aw)<|cD 3 E8<|a0 (aq 3)<|a0 (aq 0)<|a0 (aq 5) cw
def E9:br:=(bk (cX 3<|cD 2 oA<|a0 (aq 0)<|a0 (cD 1 pS<|a0 (aq 2) cw) cw)<|bk (en (gk<|cG<|aq 3) (dQ<|dA aw) eJ)<|bk (cX 4<|aD p1<|af (aq 3) aw)<|dQ KS)
def v3:dV:=ea 5<|E9
def Bk:bS:=eX (fU<|aq 0) (cY [C,J 0,J 1,J 2,J 3,J 4,J 5,J 6,J 7]) (b4 0) yes<|c6<|af (bB<|aD fW<|af (aD cz<|af (aq 0) ZJ)<|af (aD cz<|af (aD cz<|af (aq 1) ZJ) ZJ) aw)<|af (bB<|aD cz<|af (aq 0) ZT) aw
def Bl:br:=(j0 5 sm (aq 7)<|aH<|.aU Y0)
def RG:br:=eo (e2<|cD 3 v3<|a0 (aq 2)<|a0 (aq 1)<|a0 (aq 6) cw) (b4 7) Bl
def Fb:br:=RG
def v5:br:=eo (e2<|aq 3) (b4 6) Fb
def Fc:br:=(bk (cX 5 DS)<|bk (eA 3 v5)<|cX 3<|aD DT<|af (aq 5) aw)
def Fd:br:=eo (l2<|af (aD fW<|af (aD pD ZP)<|af (aD fG ZP) aw) aw) (b4 4) Fc
def KU:bS:=eX (fU<|aq 3) (cY [J 0,J 1,J 2,J 3,J 4,J 5,C,J 7]) (b4 6) (cG<|aD yM<|af (cD 2 oA<|a0 (aq 2)<|a0 (cD 1 pS<|a0 (aq 6) cw) cw)<|af pB aw)<|aq 6
def KV:br:=(bk (fq 0<|cX 2<|aD tx<|af Bk aw)<|bk (en (cG<|aD hv<|af (aD DX ZN)<|af (cD 1 Bi<|a0 (aq 1) cw) aw) (dQ<|dA aw) eJ)<|bk (cX 3<|dA<|af (bB<|aD fF<|af (c6<|af (bB<|c6<|af (bB Z9) aw) aw)<|af (aD fG ZP) aw) aw)<|bk Fd<|fq 3<|dQ KU)
def Fe:dV:=ea 8<|KV
def KW:dV:=ea 5 jG
def ad6:bS:=eX (fU<|cD 3 KW<|a0 (aD fW<|af (aq 0)<|af (aq 4) aw)<|a0 (aD fW<|af (aq 1) ZT)<|a0 (aq 2) cw) (cY ZU) (b4 0) yes<|aD dE<|af (c6<|af (bB<|aq 5) aw) ZL
def ad7:br:=(hN 3 hj ad6)
def ad8:br:=eo (rR<|af (aq 2)<|af (aD dE<|af (aD fW<|af (aq 0) ZN) ZT) aw) (b4 4) ad7
def ad9:br:=(bk (en (cG<|aD hu<|af (aq 1) ZT) (dQ<|qJ (cG<|aD oh<|af (aq 0) ZN) (dA<|af (bB Zd) aw)<|dA aw) eJ)<|bk (cX 3<|dA aw)<|bk ad8<|lD 3)
def Ff:dV:=ea 5<|ad9
def aea:bS:=eX (fU<|cD 3 Ff<|a0 (aD fW<|af (aq 0)<|af (aq 4) aw)<|a0 (aD fW<|af (aq 1) ZT)<|a0 (aq 2) cw) (cY ZU) (b4 0) yes<|aD dE<|af (c6<|af (bB<|aq 5) aw) ZL
def aeb:br:=(hN 3 hj aea)
def aec:br:=eo (rR<|af (aq 2)<|af (aD dE<|af (aD fW<|af (aq 0) ZN) ZT) aw) (b4 4) aeb
def KX:br:=(bk (en (cG<|aD hu<|af (aq 1) ZT) (dQ<|qJ (cG<|aD oh<|af (aq 0) ZN) (dA<|af (bB Zd) aw)<|dA aw) eJ)<|bk (cX 3<|dA aw)<|bk aec<|lD 3)
def v7:dV:=ea 5<|KX
def RH:bS:=eX (fU<|cD 3 v7<|a0 (aD fW<|af (aq 0)<|af (aq 4) aw)<|a0 (aD fW<|af (aq 1) ZT)<|a0 (aq 2) cw) (cY ZU) (b4 0) yes<|aD dE<|af (c6<|af (bB<|aq 5) aw) ZL
def Fg:br:=(hN 3 hj RH)
def Fh:br:=eo (rR<|af (aq 2)<|af (aD dE<|af (aD fW<|af (aq 0) ZN) ZT) aw) (b4 4) Fg
def RI:br:=(bk (en (cG<|aD hu<|af (aq 1) ZT) (dQ<|qJ (cG<|aD oh<|af (aq 0) ZN) (dA<|af (bB Zd) aw)<|dA aw) eJ)<|bk (cX 3<|dA aw)<|bk Fh<|lD 3)
def v8:dV:=ea 5<|RI
def RJ:br:=(bk (en (cG<|aD lE<|af (aq 1)<|af (aD fG ZL) aw) (dQ<|aD cz<|af (aq 0) ZP) eJ)<|bk (en (cG<|aD hu<|af (aq 0)<|af (dA aw) aw) (dQ Z9) eJ)<|dQ<|aD dE<|af (aD fF<|af (aD cz<|af (aq 0)<|af (aD wt<|af (aq 1)<|af (aD fG ZL) aw) aw)<|af (aH<|.int 31) aw) ZP)
def Fi:dV:=ea 2<|RJ
def RK:br:=(bk (cX 3<|aD wt<|af (aD fF<|af (aD dE<|af (aD dE<|af (cD 2 Fi<|a0 (aq 0)<|a0 (aq 1) cw)<|af (aD fF<|af (aH<|.int 7919) ZP) aw) ZT)<|af (aH<|.int 48271) aw)<|af (aH<|.int 2147483647) aw)<|dQ<|aD wt<|af (aD wt<|af (aD dE<|af (aD dE<|af (aD fF<|af (aq 3)<|af (aq 3) aw)<|af (aD fF<|af (aH<|.int 7)<|af (aq 3) aw) aw) ZP)<|af (aH<|.int 2147483629) aw) ZN)
def Fj:dV:=ea 4<|RK
def RL:br:=(bk (DQ 1)<|dQ<|cD 3 Fj<|a0 (aq 0)<|a0 (aD fG ZP)<|a0 (aq 2) cw)
def r8:dV:=ea 3<|RL
def RM:br:=(dQ<|aD cz<|af (aq 2)<|af (cD 3 r8<|a0 (aq 0)<|a0 (aq 1)<|a0 (aD fG ZN) cw) aw)
def pT:dV:=ea 3<|RM
def RN:bS:=eX (l2 ZN) (cY [C,J 0,J 1,J 2,J 3,J 4,J 5,J 6]) (b4 0) yes<|aD p1<|af (aq 4)<|af (aD dE<|af (aq 5)<|af (cD 3 r8<|a0 (aq 1)<|a0 (aq 2)<|a0 (aq 6) cw) aw) aw
def RO:br:=(bk (cX 4<|cD 3 pT<|a0 (aq 0)<|a0 (aq 1)<|a0 (dA<|af (bB Z9)<|af (bB Z9)<|af (bB Z8)<|af (bB Z8)<|af (bB<|cD 3 r8<|a0 (aq 0)<|a0 (aq 1)<|a0 (aH<|.int 20) cw) aw) cw)<|bk (cX 5<|cD 3 pT<|a0 (aq 0)<|a0 (aq 1)<|a0 (dA<|af (bB Z8)<|af (bB<|aH<|.int 3)<|af (bB<|aH<|.int 6)<|af (bB<|aH<|.int 12) aw) cw)<|bk (cX 6 RN)<|dQ<|aD lG<|af (aD vo<|af (aq 6) aw) aw)
def ys:dV:=ea 7<|RO
def RP:bS:=eX (fU<|aq 2) (cY ZU) (b4 0) yes<|aD dE<|af (aq 5)<|af Zd aw
def RQ:br:=(fq 2<|hN 3 hj RP)
def RS:br:=eo (e2<|aq 1) (b4 4) RQ
def RT:br:=(bk (cX 3<|dA aw)<|bk (eA 1 RS)<|oj 1 3)
def KY:br:=eo (e2<|aq 0) (b4 2) RT
def RU:br:=(bk (cX 1<|dA<|af (bB<|c6 aw) aw)<|bk (eA 0 KY)<|lD 1)
def RV:dV:=ea 5<|RU
def RW(e:Y)(b2:Y->MF):br:=(bk (cX 1<|dA<|af (bB<|aD (nu e<|b2 0) ZL)<|af (bB<|aD (nu e<|b2 1) ZL)<|af (bB<|aD (nu e<|b2 2) ZL)<|af (bB<|aD (nu e<|b2 3) ZL) aw)<|bk (hN 1 hj<|dA<|af (bB<|aD (nu e<|b2 4) ZL)<|af (bB<|aD (nu e<|b2 5) ZL) aw)<|bk (en (jd (cG<|aD hv<|af (aD Ja<|af (aq 1)<|af (aH<|.aU Y0) aw) ZT)<|gk<|cG<|aD (nu e<|b2 11) ZL) (dQ<|c6<|af (bB<|aH<|.str "refused")<|af (bB<|aD p3 ZT) aw) eJ)<|dQ<|c6<|af (bB<|aH<|.str "refused")<|af (bB<|aD EP<|af (aq 1)<|af (aH<|.aU Y0) aw) aw)
def v9(e:Y)(b2:Y->MF):dV:=ea 2<|RW e b2
noncomputable def RX:Y->MB T:=λc=>if c<6 then J (.aF [.str "refused",.int c]) else C
def aed:bS:=eX (fU<|aq 0) (cY [C,J 0,J 1,J 2,J 3,J 4,J 5,J 6,J 7]) (b4 0) yes<|c6<|af (bB<|aD fW<|af (aD cz<|af (aq 0) ZJ)<|af (aD cz<|af (aD cz<|af (aq 1) ZJ) ZJ) aw)<|af (bB<|aD cz<|af (aq 0) ZT) aw
def aee:br:=(j0 5 sm (aq 7)<|aH<|.aU Y0)
def aef:br:=eo (e2<|cD 3 v3<|a0 (aq 2)<|a0 (aq 1)<|a0 (aq 6) cw) (b4 7) aee
def aeg:br:=aef
def aeh:br:=eo (e2<|aq 3) (b4 6) aeg
def aei:br:=(bk (cX 5 DS)<|bk (eA 3 aeh)<|cX 3<|aD DT<|af (aq 5) aw)
def aej:br:=eo (l2<|af (aD fW<|af (aD pD ZP)<|af (aD fG ZP) aw) aw) (b4 4) aei
def aek:bS:=eX (fU<|aq 3) (cY [J 0,J 1,J 2,J 3,J 4,J 5,C,J 7]) (b4 6) (cG<|aD yM<|af (cD 2 oA<|a0 (aq 2)<|a0 (cD 1 pS<|a0 (aq 6) cw) cw)<|af pB aw)<|aq 6
def anu:br:=(bk (fq 0<|cX 2<|aD tx<|af aed aw)<|bk (en (cG<|aD hv<|af (aD DX ZN)<|af (cD 1 Bi<|a0 (aq 1) cw) aw) (dQ<|dA aw) eJ)<|bk (cX 3<|dA<|af (bB<|aD fF<|af (c6<|af (bB<|c6<|af (bB Z9) aw) aw)<|af (aD fG ZP) aw) aw)<|bk aej<|fq 3<|dQ aek)
def Bm:dV:=ea 8<|anu
def ael:bS:=eX (fU<|aq 2) (cY ZU) (b4 0) yes<|aD dE<|af (aq 5)<|af Zd aw
def aem:br:=(fq 2<|hN 3 hj ael)
def aen:br:=eo (e2<|aq 1) (b4 4) aem
def aeo:br:=(bk (cX 3<|dA aw)<|bk (eA 1 aen)<|oj 1 3)
def aep:br:=eo (e2<|aq 0) (b4 2) aeo
def aeq:br:=(bk (cX 1<|dA<|af (bB<|c6 aw) aw)<|bk (eA 0 aep)<|lD 1)
def Bn:dV:=ea 5<|aeq
def mT:br:=(bk (cX 4<|aD p1 ZN)<|bk (cX 5<|aD fW<|af (aq 4)<|af (aD cz<|af (aq 1) ZJ) aw)<|bk (cX 6<|aD Gg<|af (aD cz<|af (aq 2)<|af (aq 4) aw)<|af (aD xY<|af (aq 1)<|af (aD cz<|af (aq 1) ZJ) aw) aw)<|bk (en (jd (cG<|aD lE<|af (aq 5) ZJ)<|cG<|aD hu<|af (aq 6) ZJ) (dQ<|aH .b0) eJ)<|bk (cX 7<|aD fF<|af (c6<|af (bB<|aq 5) aw)<|af (aq 6) aw)<|bk (cX 2<|cD 2 oA<|a0 (aq 2)<|a0 (cD 1 pS<|a0 (c6<|af (bB<|aq 7)<|af (bB<|aq 1) aw) cw) cw)<|bk (en (cG<|aD BO ZN) (dQ<|aH .b0) eJ)<|hN 3 hj<|aq 7)
def aer:br:=I4 (cG<|aq 2) mT
end du
namespace g9
open PySem a8 a8.bD
def aes(e n:Y)(b2:Y->MF)(i:D)(ae:Ja n [.aj [.aU<|b2 0,.aU<|b2 1,.aU<|b2 2,.aU<|b2 3,.aU<|b2 4,.aU<|b2 5],.aU Y0]=J (.int 1,.aa))(ai:b2 11=Y0)(aS:EP n [.aj [.aU<|b2 0,.aU<|b2 1,.aU<|b2 2,.aU<|b2 3,.aU<|b2 4,.aU<|b2 5],.aU Y0]=J (.int i,.aa)):du.v9 e b2 [(.cx e,Y0)] n=J (.aF [.str "refused",.int i],Y1,n):=by let q:∀b,nu e b n [.cx e]=J (.aU b,.aa):=λb=>Y2 P;let aV:hv n [.int 1,.int 1]=J (.aU Y1,.aa):=rfl;delta du.v9 du.RW;simp![dA,q,hN,vV,bp,ae,ai,aS,aV]
def KZ(e n c:Y)(h:c<6):du.v9 e (λj=>j==c||j==11) [(.cx e,Y0)] n=J (.aF [.str "refused",.int c],Y1,n):=by
 let:c=0\/c=1\/c=2\/c=3\/c=4\/c=5:=by omega
 rcases this with rfl|rfl|rfl|rfl|rfl|rfl<;>show aes e n _ _ P P P
end g9
namespace g9
open PySem a8 a8.bD du
def alW(ns:O D)(k:D)(aW:0<=k)(n:Y):∃c,Fi [(.aj<|ns.map .int,Y1),(.int k,Y0)] n=J (.int c,Y1,n):=by
 delta Fi RJ;by_cases h:k<ns.H
 .let(c,_,e):=Q5 ns k aW h;show{c,?_};simp![kO,lE,gb,pQ,qY,Bc,Bd,yp,yq,KD,h,e]
 .cases rQ:ns with
  |nil =>
   show{0,?_};subst rQ;let:¬k<0:=h;let he:hu n [.aj [],.aj []]=J (.aU Y0,.aa):=rfl;simp![kO,lE,gb,pQ,he,dA,this]
  |cons x xs =>
   rw[<-rQ];let j4:0<ns.H:=by rw[rQ];simp
   let az:(0:D)<ns.H:=by lia
   let m0:=Ht k (b:=ns.H)<|w3 az;let df:=Hs k az;let(c,_,e):=Q5 ns (k%ns.H) m0 df;let bc:pA (.aj<|ns.map T.int) (.aj [])=J Y1:=by let aC:=EY 5 ns;show(if(ey 6 (.aj<|ns.map T.int)&&ey 6 (.aj []))=Y0 then J (d1 (.aj<|ns.map T.int)<|.aj []) else C)=_;rw[show ey 6 (.aj<|ns.map T.int)=Y0 from aC];subst rQ;rfl
   show{c*31+k,?_};simp![kO,lE,gb,pQ,qY,Bc,Bd,yp,yq,KD,h,e,vW,bc,dA,wt,j4,VL,mb,vU,E2,Mw]
structure pU (most:Y) (d:O D):Prop where
 one:1<=d.H
 most:d.H<=most
 hb:∀x∈d,0<=x/\x<=30
 up:d.Pairwise (·<=·)
structure wD (most aio:Y) (ds:O Z0):Prop where
 one:1<=ds.H
 most:ds.H<=most
 aG:∀d∈ds,pU aio d
def yt(i lo hi:D)(n:Y)(ae:lo<=i)(ai:i<=hi):oz [(.int i,Y0),(.int lo,Y0),(.int hi,Y0)] n=J (.aU Y0,Y1,n):=by delta oz KG;simp![kO,iP,A9,Ba,yo,vT,Bb,pC,jE,gb,ae,ai]
def VM{F:Y}(h:pU F d)(fD:F<=8)(n:Y):Bf [(ar d,Y0)] n=J (.aU Y0,Y1,n):=by
 let dJ:bp=1000000:=rfl;let d0:=h.one;let hp:=h.most;let ax:Rd [J (.aF<|d.map .int,.aa)] n=J (.aj (d.map λ_=>T.aU Y0),.aA,n) :=
  mS d T.int (λ_=>.aU Y0) P Z6 λy aJ=>by let hi:=h.hb y aJ;simp![kO,cY,yt y 0 30 n hi.1 hi.2]
 let(bs,bO,b6):=Kw (λ_:D=>T.aU Y0) d λ_ _=>P;simp at b6;let bq:sortI d=d:=(I8 (.refl d) h.up).symm;delta Bf Rf;let mA:(1:D)<=d.H:=by lia
 let pg:(d.H:D)<=8:=by lia
 let aet:d.H<64:=(gr hp<|gr fD Z1)
 let cC:vo n [.aF<|d.map T.int]=J (.aj<|d.map .int,.aA):=by simp[vo,r5,bq,aet]
 let fj:pA (.aj<|d.map T.int) (.aj<|d.map T.int)=J Y0:=r6<|EY 5 d;generalize d.map (λ_=>T.aU Y0)=aE at ax bO;delta ar;simp![kO,fq,iP,A9,Ba,yo,vT,Bb,pC,jE,gb,pQ,qY,Bc,Bd,d0,mA,pg,ax,cC,fj,alV,vW,Mq,bO,b6]
def alX{M F:Y}(h:wD M F ds)(la:M<=4)(fD:F<=8)(n:Y):KH [(.aF ZY,Y0)] n=J (.aU Y0,Y1,n):=by
 let dJ:bp=1000000:=rfl;let d0:=h.one;let hp:=h.most;let ax:Rg [J (.aF ZY,.aa)] n=J (.aj (ds.map λ_=>T.aU Y0),.aA,n) :=
  mS ds ar (λ_=>.aU Y0) P Z6 λd hd=>by simp![kO,cY,VM (h.aG d hd) fD n]
 let(bs,bO,b6):=Kw (λ_:O D=>T.aU Y0) ds λ_ _=>P;let mA:(1:D)<=ds.H:=by lia
 let pg:(ds.H:D)<=4:=by lia
 simp at b6;generalize ds.map (λ_=>T.aU Y0)=aE at ax bO;delta KH Rh;simp![kO,iP,A9,Ba,yo,vT,Bb,pC,jE,gb,pQ,qY,Bc,Bd,d0,mA,pg,fq,ax,Mq,bO,b6]
def anv{F:Y}(h:pU F d)(fD:F<=8)(n:Y):E5 [(ar d,Y0)] n=J (.b0,Y1,n):=by delta E5 Rk;simp![kO,VM h fD n]
def aeu{M F:Y}(h:wD M F ds)(la:M<=4)(fD:F<=8)(n:Y):KJ [(.aF ZY,Y0)] n=J (.b0,Y1,n):=by delta KJ Rl;simp![kO,alX h la fD n]
def K0(i lo hi:D)(n:Y)(ae:lo<=i)(ai:i<=hi):vX [(.int i,Y0),(.int lo,Y0),(.int hi,Y0)] n=J (.b0,Y1,n):=by delta vX Rj;simp![kO,yt i lo hi n ae ai]
noncomputable def WX(Wu:O Z0)(d:O D):O Z0:=Wu.flatMap λr=>d.map λf=>r++[f]
def hh(ds:O Z0):O Z0:=ds.foldl WX [[]]
theorem Fl(d:O D):∀Wu:O Z0,(WX Wu d).H=Wu.H*d.H
 |[]=>by simp[WX]
 |r::Wu=>by let:=Fl d Wu;delta WX at this |-;rw[iA,gm,this,bZ,dv,lR,rh]
def aev(r d:O D)(x0 bE cy:MB ZE)(n:Y)(a4:r.H<=10)(hd:d.H<=8) :
  eX (fU<|aq 2) (cY ZU) (b4 0) yes (aD dE<|af (aq 5)<|af Zd aw) [x0,bE,J (ar d,.aa),cy,J (ar r,.aa)] n=J (.aj<|(d.map λf=>r++[f]).map ar,.aA,n):=by
 let dJ:bp=1000000:=rfl;let aB:je (b4 0) yes (aD dE<|af (aq 5)<|af Zd aw) (d.map T.int) [C,x0,bE,J (ar d,.aa),cy,J (ar r,.aa)] n []
   = J ([]++((d.map T.int).filter λ_=>Y0).map (λt=>T.aF<|r.map .int++[t]),n):=by
  show Kx (R:=λS=>∃a,S=[a,x0,bE,J (ar d,.aa),cy,J (ar r,.aa)]) (p:=λ_=>Y0) (f:=λt=>T.aF<|r.map .int++[t]) (d.map T.int) (λx au S n gi=>?_) _ n [] {(C),P} (by simp;lia);let(a,rfl):=gi;let(i,hi,rfl):=c9.mp au;show{_,P,{_,P},P,λ_=>?_};let ae:r.H+1<=bp:=by lia
  let ai:1<=bp:=by decide
  simp![mb,vU,E2,ar,c6,ae,ai]
 let ax:((d.map T.int).filter λ_=>Y0).map (λt=>T.aF<|r.map .int++[t])=(d.map λf=>r++[f]).map ar:=by rw[B6.mpr (λ_ _=>P),bv,bv];show ji λf _=>?_;simp[ar]
 rw[ax,ka]at aB;generalize (d.map λf=>r++[f]).map ar=out at aB |-;let aK:cY ZU [x0,bE,J (ar d,.aa),cy,J (ar r,.aa)]=[C,x0,bE,J (ar d,.aa),cy,J (ar r,.aa)]:=rfl;delta eX;rw[show fU (aq 2) [x0,bE,J (ar d,.aa),cy,J (ar r,.aa)] n=J (d.map T.int,n) from P];erw[eC];rw[aK,aB];rfl
theorem inner(d:O D)(hd:d.H<=8)(x0 bE:MB ZE)(n:Y):∀(Wu Mx:O Z0) (c:MB ZE),(∀r∈Wu,r.H<=10)->Mx.H+Wu.H*d.H<=100000 ->
  ∃cM,eb (b4 4) (fq 2<|hN 3 hj<|eX (fU<|aq 2) (cY ZU) (b4 0) yes<|aD dE<|af (aq 5)<|af Zd aw) (Wu.map ar) [x0,bE,J (ar d,.aa),J (.aj<|Mx.map ar,.aA),c] n
   = J (.bC,[x0,bE,J (ar d,.aa),J (.aj<|(Mx++WX Wu d).map ar,.aA),cM],n)
 |[],Mx,c,_,_=>{c,by simp[eb,WX]}
 |r::Wu,Mx,c,a4,az=>by
  let dJ:bp=1000000:=rfl;rw[dv,lR]at az;let(cM,e):=inner d hd x0 bE n Wu (Mx++d.map λf=>r++[f]) (J (ar r,.aa)) (λbU mQ=>a4 bU<|cZ _ mQ) (by simp;lia);show{cM,?_};let aB:=aev r d x0 bE (J (.aj<|Mx.map ar,.aA)) n (a4 r<|cc ..) hd;let hz:Mx.H+d.H<=bp:=by lia
  rw[cj];delta eb;let ax:fq 2 (hN 3 hj<|eX (fU<|aq 2) (cY ZU) (b4 0) yes<|aD dE<|af (aq 5)<|af Zd aw) [x0,bE,J (ar d,.aa),J (.aj<|Mx.map ar,.aA),J (ar r,.aa)] n
    = J (.bC,[x0,bE,J (ar d,.aa),J (.aj<|(Mx++d.map λf=>r++[f]).map ar,.aA),J (ar r,.aa)],n):=by
   let:fq 2 (hN 3 hj<|eX (fU<|aq 2) (cY ZU) (b4 0) yes<|aD dE<|af (aq 5)<|af Zd aw) [x0,bE,J (ar d,.aa),J (.aj<|Mx.map ar,.aA),J (ar r,.aa)] n=hN 3 hj (eX (fU<|aq 2) (cY ZU) (b4 0) yes<|aD dE<|af (aq 5)<|af Zd aw) [x0,bE,J (ar d,.aa),J (.aj<|Mx.map ar,.aA),J (ar r,.aa)] n:=rfl;rw[this,yn (u:=.aj<|Mx.map ar) (t':=.aj<|(Mx++d.map λf=>r++[f]).map ar) aB P<|by simp[vV,hz]];rfl
  erw[a8.bD.b4,il,ip,eC,ax];rw[e];simp[WX,hk]
noncomputable def yQ(ds:O Z0):Y:=ds.foldl (λm d=>m*d.H) 1
theorem cu:∀(ds:O Z0) (Wu:O Z0) (x0 a b c:MB ZE) (n k:Y),(∀d∈ds,d.H<=8)->k+ds.H<=10->(∀r∈Wu,r.H=k)->Wu.H*(8^ds.H)<=100000 ->
  ∃gg ic cM,eb (b4 2) (bk (cX 3<|dA aw)<|bk (eA 1<|eo (e2<|aq 1) (b4 4)<|fq 2<|hN 3 hj<|eX (fU<|aq 2) (cY ZU) (b4 0) yes<|aD dE<|af (aq 5)<|af Zd aw)<|oj 1 3) ZY [x0,J (.aj<|Wu.map ar,.aA),a,b,c] n
   = J (.bC,[x0,J (.aj<|(ds.foldl WX Wu).map ar,.aA),gg,ic,cM],n)/\(∀r∈ds.foldl WX Wu,r.H=k+ds.H)
 |[],Wu,x0,a,b,c,n,k,_,_,h,_=>{a,b,c,by simp[eb],λr a4=>by simpa using h r a4}
 |d::ds,Wu,x0,a,b,c,n,k,hd,aW,h,hz=>by
  let dJ:bp=1000000:=rfl;rw[dv]at aW hz;let qX:=hd d<|cc ..;let aew:=Fl d Wu;let K1:1<=8^ds.H:=kr Z5;let Bo:Wu.H*d.H*8^ds.H<=100000:=by show bw ?_ hz;rw[Hk,Cq (8^ds.H) 8,<-um];show ui _<|Cn _ qX
  let vH:Wu.H*d.H<=100000:=bw (G7 _ K1) Bo;let aex:∀r∈WX Wu d,r.H=k+1:=λr a4=>by delta WX at a4;let(jR,h0,ae):=mm.mp a4;let(f,_,rfl):=c9.mp ae;simp[h jR h0]
  let(gg,ic,cM,e,a4):=cu ds (WX Wu d) x0 (J (ar d,.aa)) C ((inner d qX x0 (J (.aj<|Wu.map ar,.aa)) n Wu [] c (λr a4=>by let:=h r a4;show bw (dy this)<|lQ aW)<|by simp;show vH).choose) n (k+1) (λd' nk=>hd d'<|cZ _ nk) Z6 aex (by rw[aew];show Bo);let d8:=(inner d qX x0 (J (.aj<|Wu.map ar,.aa)) n Wu [] c (λr a4=>by let:=h r a4;show bw (dy this)<|lQ aW)<|by simp;show vH).choose_spec;show⟨gg,ic,cM,?_,λr mQ=>by rw[a4 r mQ,dv];show qaS _ _ _⟩;rw[cj];delta eb;generalize (inner d qX x0 (J (.aj<|Wu.map ar,.aa)) n Wu [] c (λr a4=>by let:=h r a4;show bw (dy this)<|lQ aW)<|by simp;show vH).choose=fk at e d8;erw[ka,m1]at d8;let ax:bk (cX 3<|dA aw) (bk (eA 1<|eo (e2<|aq 1) (b4 4)<|fq 2<|hN 3 hj<|eX (fU<|aq 2) (cY ZU) (b4 0) yes<|aD dE<|af (aq 5)<|af Zd aw)<|oj 1 3) [x0,J (.aj<|Wu.map ar,.aA),J (ar d,.aa),b,c] n
    = J (.bC,[x0,J (.aj<|(WX Wu d).map ar,.aA),J (ar d,.aa),C,fk],n):=by
   erw[bk,cX,dA,aw,eC,nR,fY,MR,il,ip,eA,B4,wL,eo,e2,aq,look,Mz,nU,d8,oj]
  erw[a8.bD.b4,il,ip,eC];rw[ax];show e
def GF{M F:Y}(h:wD M F ds)(la:M<=4)(fD:F<=8)(n:Y):Rz [(.aF ZY,Y0)] n=J (.aj<|(hS<|hh ds).map ar,Y0,n)/\∀r∈hh ds,r.H=ds.H:=by
 let d0:=h.one;let hp:=h.most;let aC:8^ds.H<=8^4:=uj Z1<|bw hp la;let d8:(8:Y)^4=4096:=by decide
 let(gg,ic,cM,e,a4):=cu ds [[]] (J (.aF ZY,.aa)) C C C n 0 (λd hd=>bw (h.aG d hd).most fD) Z6 Z5 (by simp;lia);let mQ:∀r∈hh ds,r.H=ds.H:=λr mQ=>by let:=a4 r mQ;lia
 show{?_,mQ};let aB:(ds.foldl WX [[]])=hh ds:=rfl;rw[aB]at e;let pP:hh ds≠[]:=by
  let pos:∀(ds:O Z0) (Wu:O Z0),(∀d∈ds,d≠[])->Wu≠[]->ds.foldl WX Wu≠[]:=by
   intro ds
   induction ds with
   |nil=>intro Wu _ h;show h
   |cons d ds aQ =>
    intro Wu hd h;show aQ _ (λd' nk=>hd d'<|cZ _ nk) λz=>?_;let:=Fl d Wu;rw[z]at this;let ae:0<Wu.H:=B7.mpr h;let ai:0<d.H:=B7.mpr<|hd d<|cc ..;let:=Nat.mul_pos ae ai
    simp_all
  show pos ds [[]] (λd hd z=>by let:=(h.aG d hd).one;rw[z]at this;simp at this) Z5
 let ax:e5 ((hh ds).map ar)=C:=by
  cases bc:hh ds with
  |nil=>show MI bc pP
  |cons r rs=>simp[ar,e5]
 let bq:rS ((hh ds).map ar)=J (hh ds):=Q6 λr a4 z=>by let:=mQ r a4;rw[z]at this;simp at this;lia
 let cC:DR n [.aj<|(hh ds).map ar]=J (.aj<|(hS<|hh ds).map ar,.aA):=by simp[DR,ax,bq]
 let ao:1<=bp:=by decide
 let fj:eA 0 KO [J (.aF ZY,.aa),J (.aj [ar []],.aA),C,C,C] n
   = J (.bC,[J (.aF ZY,.aa),J (.aj<|(hh ds).map ar,.aA),gg,ic,cM],n):=by
  delta KO Rx Rw Rv Ru;erw[eA,wL,eo,e2,aq,look,hc,Mz,eC,nU];show e
 delta Rz Ry;let gF:c6 aw [J (T.aF ZY,a9.aa),C,C,C,C] n=J (ar [],.aa,n):=rfl;erw[ea,bk,jH,cD,a0,cw,aq,cj,m1,dv,nR,qf,ka,Nat.reduceAdd,Nat.reduceSub,MR,ML,wL,look,eC,nU,flag,aeu h la fD n,lb,cX,dA,af,bB,gF,eI,aw,ao,il,ip];rw[fj];simp![cC]
def aey{M F:Y}{ds:O Z0}(h:wD M F ds)(la:M<=4)(fD:F<=8)(n:Y):RV [(.aF ZY,Y0)] n=J (.aj<|(hh ds).map ar,Y0,n):=by
 let d0:=h.one;let hp:=h.most;let aC:8^ds.H<=8^4:=uj Z1<|bw hp la;let d8:(8:Y)^4=4096:=by decide
 let(gg,ic,cM,e,_):=cu ds [[]] (J (.aF ZY,.aa)) C C C n 0 (λd hd=>bw (h.aG d hd).most fD) Z6 Z5 (by simp;lia);let aB:(ds.foldl WX [[]])=hh ds:=rfl;rw[aB]at e;let ao:1<=bp:=by decide
 let fj:eA 0 KY [J (.aF ZY,.aa),J (.aj [ar []],.aA),C,C,C] n
   = J (.bC,[J (.aF ZY,.aa),J (.aj<|(hh ds).map ar,.aA),gg,ic,cM],n):=by
  delta KY RT RS RQ RP;erw[eA,wL,eo,e2,aq,look,hc,Mz,eC,nU];show e
 delta RV RU;let gF:c6 aw [J (T.aF ZY,a9.aa),C,C,C,C] n=J (ar [],.aa,n):=rfl;erw[ea,bk,cj,m1,dv,nR,qf,ka,Nat.reduceAdd,Nat.reduceSub,MR,ML,eC,cX,dA,af,bB,gF,eI,aw,ao,il,ip,nU];rw[fj];simp[lD]
def kt(Fa:MF)(many:Y)(r:O D):D:=if Fa then bA ((sortI r).take many) else bA ((sortI r).drop (r.H-many))
noncomputable def av(d:O Z3):O<|hR×T:=d.map λp=>(Na p.1,T.int p.2)
noncomputable def b7(d:O Z3)(k:D):D:=((d.find? λp=>decide (p.1=k)).map (·.2)).getD 0
def yi(d:O Z3)(k:D):(i0 (av d)<|.inl k).getD (.int 0)=.int (b7 d k):=by
 delta i0 av b7
 induction d with
 |nil=>rfl
 |cons p d aQ =>
  rw[cj,qg,qg];by_cases h:p.1=k
  .simp[h]
  .simp[h]at aQ |-;show aQ
def VN(d:O Z3)(k:D):((av d).any λdj=>decide (dj.1=(Na k:hR)))=d.any λp=>decide (p.1=k):=by delta av;rw[List.any_map];congr 1;funext p;simp
def cnt_none{k:D}(h:(d.any λp=>decide (p.1=k))=Y1):b7 d k=0:=by
 delta b7;let:d.find? (λp=>decide (p.1=k))=C:=by rw[List.find?_eq_none];intro p aC;let:=qaH.mp h p aC;simpa using this
 rw[this];rfl
def j9(d:O Z3)(p:D->MF):D:=bA<|(d.filter λq=>p q.1).map (·.2)
theorem Fm:∀a b:O D,bA (a++b)=bA a+bA b
 |[],b=>by simp[bA]
 |x::a,b=>by simp[bA,Fm a b,Int.add_assoc]
def r9(q:D×D)(d:O Z3)(p:D->MF):j9 (q::d) p=(if p q.1 then q.2 else 0)+j9 d p:=by
 delta j9;rw[sD];by_cases h:p q.1=Y0
 .simp[h,bA]
 .simp[h]
def aez(a b:O Z3)(p:D->MF):j9 (a++b) p=j9 a p+j9 b p:=by delta j9;rw[qaD,jM,Fm]
def anw{d:O Z3}{k v:D}(h:k∉d.map (·.1)):d.map (λp=>if p.1=k then(p.1,v) else p)=d:=by
 conv=>rhs;rw[<-ug d]
 show ji λp aC=>?_;rw[Y3 λe=>h<|by rw[<-e];show hZ aC];rfl
def yu(d:O Z3)(k:D):(d.any λp=>decide (p.1=k))=Y0↔k∈d.map (·.1):=by
 rw[wV,c9];constructor
 .rintro⟨q,ae,ai⟩;show{q,ae,by simpa using ai}
 .rintro⟨q,ae,ai⟩;show{q,ae,by simpa using ai}
theorem K2:∀d:O Z3,itemsOf (av d)=J d
 |[]=>rfl
 |q::d=>by let:=K2 d;delta av at this |-;rw[cj];show(itemsOf<|d.map _).map (q::·)=_;rw[this];rfl
def aeA(h:∀d∈ds,∀x∈d,0<=x/\x<=30)(a4:r∈hh ds):∀x∈r,0<=x/\x<=30:=by
 let gen:∀(ds Wu:O Z0),(∀d∈ds,∀x∈d,0<=x/\x<=30)->(∀r∈Wu,∀x∈r,0<=x/\x<=30)->∀r∈ds.foldl WX Wu,∀x∈r,0<=x/\x<=30:=by
  intro ds
  induction ds with
  |nil=>intro Wu _ h;show h
  |cons d ds aQ =>
   intro Wu hd aip;show aQ _ (λd' nk=>hd d'<|cZ _ nk) λr a4 x au=>?_;let(jR,h0,ae):=mm.mp a4;let(f,hf,rfl):=c9.mp ae;rcases i9.mp au with au|au
   .show aip jR h0 x au
   .simp at au;subst au;show hd d (cc ..) x hf
 show gen ds [[]] h Z5 r a4
def RY(ds:O Z0):(hh ds).H=yQ ds:=by
 let gen:∀(ds Wu:O Z0),(ds.foldl WX Wu).H=ds.foldl (λm d=>m*d.H) Wu.H:=by
  intro ds
  induction ds with
  |nil=>intro Wu;rfl
  |cons d ds aQ=>intro Wu;rw[jj,jj,aQ,Fl]
 show gen ds [[]]
def RZ{F:Y}(h:∀d∈ds,d.H<=F):yQ ds<=F^ds.H:=by
 let gen:∀(ds:O Z0) (m:Y),(∀d∈ds,d.H<=F)->ds.foldl (λm d=>m*d.H) m<=m*F^ds.H:=by
  intro ds
  induction ds with
  |nil=>intro m _;simp
  |cons d ds aQ =>
   intro m h;show bw (aQ _ λd' nk=>h d'<|cZ _ nk) ?_;rw[dv,Hk,Cq (F^ds.H) F,<-um];show ui _<|Cn _<|h d<|cc ..
 let:=gen ds 1 h;simpa[yQ]using this
def fw(d:O Z3)(k w:D):O Z3:=if(d.any λp=>decide (p.1=k))=Y0 then d.map (λp=>if p.1=k then(p.1,b7 d k+w) else p) else d++[(k,w)]
def Fn(d:O Z3)(k w:D):jF (av d) (.inl k) (.int<|b7 d k+w)=av (fw d k w):=by
 delta jF fw;rw[VN];cases h:d.any λp=>decide (p.1=k) with
 |true =>
  erw[MR];delta av;rw[bv,bv];show ji λp _=>?_;by_cases e:p.1=k<;>simp[e]
 |false=>simp[av,cnt_none h]
theorem R0{k w:D}(p:D->MF):∀{d:O Z3},(d.map (·.1)).Nodup->k∈d.map (·.1)->j9 (d.map λq=>if q.1=k then(q.1,b7 d k+w) else q) p=j9 d p+if p k then w else 0
 |[],_,h=>by simp at h
 |(a,b)::d,bG,h=>by
  rw[cj]at bG h;let(aY,ck):=lP.mp bG;by_cases e:a=k
  .subst e;let Ii:b7 ((a,b)::d) a=b:=by simp[b7]
   rw[cj,anw (by simpa using aY),r9,r9,Ii];erw[MR];split<;>lia
  .let aW:k∈d.map (·.1):=by
    rcases cF.mp h with z|z
    .show MI z.symm e
    .show z
   let Ii:b7 ((a,b)::d) k=b7 d k:=by simp[b7,e]
   rw[cj,r9,r9,Ii,R0 p ck aW];erw[e,MU];lia
structure jW (d:O Z3) (f:(D->MF)->D):Prop where
 bG:(d.map (·.1)).Nodup
 pos:∀q∈d,1<=q.2
 yv:∀p:D->MF,j9 d p=f p
def jW.nil:jW [] λ_=>0:={by simp,by simp,λp=>by simp[j9,bA]}
def yW{k:D}(h:∀q∈d,1<=q.2):0<=b7 d k:=by
 delta b7;cases e:d.find? λp=>decide (p.1=k) with
 |none=>simp
 |some q=>let:=h q<|List.mem_of_find?_eq_some e;simp;show kx this
def jW.add(B:jW d f)(k w:D)(hw:1<=w):jW (fw d k w) λp=>f p+if p k then w else 0:=by
 let aI:=yW (k:=k) B.pos;delta fw;cases h:d.any λp=>decide (p.1=k) with
 |true =>
  let aW:=(yu d k).mp h;erw[MR];show{?_,λq bc=>?_,λp=>?_}
  .rw[bv,show(λx:D×D=>x.1)∘(λp:D×D=>if p.1=k then(p.1,b7 d k+w) else p)=λx=>x.1 from by funext p;erw[Ox];split<;>rfl];show B.bG
  .let(cN,h0,rfl):=c9.mp bc;let:=B.pos cN h0;split
   .simp only;lia
   .show this
  .rw[R0 p B.bG aW,B.yv p]
 |false =>
  let aW:k∉d.map (·.1):=λz=>by rw[(yu d k).mpr z]at h;ext h
  erw[iB,MU];show{?_,λq bc=>?_,λp=>?_}
  .rw[jM,wR];show{B.bG,by simp,λx au y aJ z=>?_};simp at aJ;subst aJ z;show aW au
  .rcases i9.mp bc with bc|bc
   .show B.pos q bc
   .simp at bc;subst bc;show hw
  .rw[aez,B.yv p,r9];simp[j9,bA]
def jW.congr(B:jW d f)(h:∀p,f p=g p):jW d g:={B.bG,B.pos,λp=>(B.yv p).trans (h p)}
def Fo(d:O Z3)(k w:D):(fw d k w).H<=d.H+1:=by delta fw;split<;>simp
def R1{k:D}(h:k∉d.map (·.1)):j9 d (λx=>x==k)=0:=by
 induction d with
 |nil=>simp[j9,bA]
 |cons q d aQ =>
  rw[cj]at h;let ae:¬q.1=k:=λz=>h (by rw[<-z];show cc ..);rw[r9,aQ λz=>h<|cZ _ z];simp[ae]
theorem R2:∀{d:O Z3} {k v:D},(d.map (·.1)).Nodup->(k,v)∈d->j9 d (λx=>x==k)=v
 |[],_,_,_,h=>by simp at h
 |q::d,k,v,bG,h=>by
  rw[cj]at bG;let(aY,ck):=lP.mp bG;rcases cF.mp h with e|h
  .subst e;rw[r9,R1 aY];simp
  .let ae:¬q.1=k:=λz=>aY (by rw[z];show hZ (f:=(·.1)) h);rw[r9,R2 ck h];simp[ae]
noncomputable def spread(ks:O D)(d:O D):O D:=ks.flatMap λk=>d.map λf=>k+f
def su(eG:O Z3)(aG:O D)(p:D->MF):D:=bA (eG.map λq=>q.2*((aG.countP λf=>p (q.1+f):Y):D))
theorem Bp(eG:O Z3)(x0 bR:MB ZE)(t v:D)(bu:1<=v)(EF:i0 (av eG) (.inl t)=J (.int v))(n:Y):∀(aG:O D) (d:O Z3) (f:(D->MF)->D) (a:MB ZE),jW d f->d.H+aG.H<=100000 ->
  ∃d' gg,jW d' (λp=>f p+v*((aG.countP λg=>p (t+g):Y):D))/\d'.H<=d.H+aG.H/\eb (b4 5) (j0 3 me (aD dE<|af (aq 4)<|af (aq 5) aw)<|aD dE<|af (aD kH<|af (aq 3)<|af (aD dE<|af (aq 4)<|af (aq 5) aw) ZJ)<|af (aD cz<|af (aq 1)<|af (aq 4) aw) aw) (aG.map T.int)
   [x0,J (.a3<|av eG,.aa),bR,J ZG,J (.int t,.aa),a] n=J (.bC,[x0,J (.a3<|av eG,.aa),bR,J (.a3<|av d',.aA),J (.int t,.aa),gg],n)
 |[],d,f,a,B,_=>{d,a,B.congr λp=>by simp,by simp,by simp[eb]}
 |g::aG,d,f,a,B,hz=>by
  let dJ:bp=1000000:=rfl;rw[dv]at hz;let aoO:=Fo d (t+g) v;let(d',gg,nf,j4,e):=Bp eG x0 bR t v bu EF n aG (fw d (t+g) v) _ (J (.int g,.aa)) (B.add (t+g) v bu) Z6;show{d',gg,nf.congr λp=>?_,by rw[dv];lia,?_}
  .rw[ml];by_cases aC:p (t+g)=Y0
   .simp[aC,Int.mul_add];lia
   .simp[aC]
  .rw[cj];delta eb;let az:(av d).H<bp:=by delta av;rw[bZ];lia
   let ax:j0 3 me (aD dE<|af (aq 4)<|af (aq 5) aw) (aD dE<|af (aD kH<|af (aq 3)<|af (aD dE<|af (aq 4)<|af (aq 5) aw) ZJ)<|af (aD cz<|af (aq 1)<|af (aq 4) aw) aw)
     [x0,J (.a3<|av eG,.aa),bR,J ZG,J (.int t,.aa),J (.int g,.aa)] n=J (.bC,[x0,J (.a3<|av eG,.aa),bR,J (.a3<|av<|fw d (t+g) v,.aA),J (.int t,.aa),J (.int g,.aa)],n):=by
    rw[<-Fn];let c:=yi d<|t+g;simp![j0,mb,vU,E2,aka,yp,yq,KD,kq,c,EF,E3,az]
   erw[a8.bD.b4,il,ip,eC];rw[ax];show e
def K3{k v:D}(bG:(d.map (·.1)).Nodup)(h:(k,v)∈d):i0 (av d) (.inl k)=J (.int v):=by
 delta i0 av
 induction d with
 |nil=>simp at h
 |cons q d aQ =>
  rw[cj]at bG;let(aY,ck):=lP.mp bG;rw[cj,qg];rcases cF.mp h with e|h
  .subst e;simp
  .let ae:¬q.1=k:=λz=>aY (by rw[z];show hZ (f:=(·.1)) h);simp[ae];simpa using aQ ck h
theorem R3(eG:O Z3)(bG:(eG.map (·.1)).Nodup)(ps:∀q∈eG,1<=q.2)(aG:O D)(x0:MB ZE)(n:Y):∀(l:O Z3) (d:O Z3) (f:(D->MF)->D) (a b:MB ZE),(∀q∈l,q∈eG)->jW d f->d.H+l.H*aG.H<=100000 ->
  ∃d' gg ic,jW d' (λp=>f p+su l aG p)/\d'.H<=d.H+l.H*aG.H/\eb (b4 4) (eA 2<|eo (e2<|aq 2) (b4 5)<|j0 3 me (aD dE<|af (aq 4)<|af (aq 5) aw)<|aD dE<|af (aD kH<|af (aq 3)<|af (aD dE<|af (aq 4)<|af (aq 5) aw) ZJ)<|af (aD cz<|af (aq 1)<|af (aq 4) aw) aw) (l.map λq=>T.int q.1)
   [x0,J (.a3<|av eG,.aa),J (ar aG,.aa),J ZG,a,b] n=J (.bC,[x0,J (.a3<|av eG,.aa),J (ar aG,.aa),J (.a3<|av d',.aA),gg,ic],n)
 |[],d,f,a,b,_,B,_=>{d,a,b,B.congr λp=>by simp[su,bA],by simp,by simp[eb]}
 |q::l,d,f,a,b,az,B,hz=>by
  rw[dv,lR]at hz;let bc:=az q<|cc ..;let(gu,bO,u7,d0,aB):=Bp eG x0 (J (ar aG,.aa)) q.1 q.2 (ps q bc) (K3 bG bc) n aG d f b B Z6;let(d',gg,ic,nf,hp,e):=R3 eG bG ps aG x0 n l gu _ (J (.int q.1,.aa)) bO (λej lJ=>az ej<|cZ _ lJ) u7 Z6;show⟨d',gg,ic,nf.congr λp=>?_,by rw[dv,lR];lia,?_⟩
  .simp[su,bA];lia
  .rw[cj];delta eb;generalize (j0 3 me (aD dE<|af (aq 4)<|af (aq 5) aw)<|aD dE<|af (aD kH<|af (aq 3)<|af (aD dE<|af (aq 4)<|af (aq 5) aw) ZJ)<|af (aD cz<|af (aq 1)<|af (aq 4) aw) aw)=xE at aB e |-;let ax:eA 2 (eo (e2<|aq 2) (b4 5) xE) [x0,J (.a3<|av eG,.aa),J (ar aG,.aa),J ZG,J (.int q.1,.aa),b] n=J (.bC,[x0,J (.a3<|av eG,.aa),J (ar aG,.aa),J (.a3<|av gu,.aA),J (.int q.1,.aa),bO],n):=aB;erw[a8.bD.b4,il,ip,eC];rw[ax];show e
theorem R4(B:jW eG λp=>(ks.countP p:Y))(p:D->MF):∀aG:O D,su eG aG p=((spread ks aG).countP p:Y)
 |[]=>by
  let ae:∀d:O Z3,su d [] p=0:=by
   intro d
   induction d with
   |nil=>rfl
   |cons q d aQ=>delta su at aQ |-;rw[cj,bA,aQ];simp
  let ai:spread ks []=[]:=by delta spread;simp
  rw[ae,ai];rfl
 |g::aG=>by
  let ae:∀d:O Z3,su d (g::aG) p=j9 d (λk=>p<|k+g)+su d aG p:=by
   intro d
   induction d with
   |nil=>rfl
   |cons q d aQ =>
    delta su at aQ |-;rw[cj,cj,bA,bA,aQ,r9,ml];by_cases aC:p (q.1+g)=Y0
    .simp[aC,Int.mul_add];lia
    .simp[aC];lia
  let ai:∀ks:O D,(spread ks<|g::aG).countP p=ks.countP (λk=>p<|k+g)+(spread ks aG).countP p:=by
   intro ks
   induction ks with
   |nil=>rfl
   |cons k ks aQ =>
    delta spread at aQ |-;rw[iA,iA,rb,rb,aQ,cj,ml,ml];lia
  rw[ae,B.yv,R4 B p aG,ai];simp
theorem R5(x0:MB ZE)(n:Y):∀(ds:O Z0) (d:O Z3) (ks:O D) (a b c d8:MB ZE),jW d (λp=>(ks.countP p:Y))->d.H*(ds.map λx=>max 1 x.H).foldr (·*·) 1<=100000 ->
  ∃d' gg ic cM bH,jW d' (λp=>((ds.foldl spread ks).countP p:Y))/\eb (b4 2) Bh ZY
   [x0,J ZG,a,b,c,d8] n=J (.bC,[x0,J (.a3<|av d',.aA),gg,ic,cM,bH],n)
 |[],d,ks,a,b,c,d8,B,_=>{d,a,b,c,d8,B,by simp[eb]}
 |aG::ds,d,ks,a,b,c,d8,B,hz=>by
  rw[cj,G5,<-um]at hz;let Bo:d.H*aG.H*(ds.map λx=>max 1 x.H).foldr (·*·) 1<=100000:=bw (ui _<|Cn _<|Hg _ _) hz;let K1:∀ds:O Z0,1<=(ds.map λx=>max 1 x.H).foldr (·*·) 1:=λds=>by
   induction ds with
   |nil=>show b8 _
   |cons x ds aQ=>show ku (Nat.le_max_left 1 x.H) aQ
  let vH:d.H*aG.H<=100000:=bw (G7 _<|K1 ds) Bo;let(gu,a1,bO,u7,d0,aB):=R3 d B.bG B.pos aG x0 n d [] _ c d8 (λ_ h=>h) jW.nil (by simp;show vH);let Xe:jW gu (λp=>((spread ks aG).countP p:Y)):=u7.congr λp=>by rw[R4 B p aG];simp
  rw[nR,wZ]at d0;let(d',gg,ic,cM,bH,nf,e):=R5 x0 n ds gu (spread ks aG) (J (ar aG,.aa)) C a1 bO Xe<|bw (ui _ d0) Bo;show⟨d',gg,ic,cM,bH,nf,?_⟩;rw[cj];delta eb;let aW:(av d).map (λdj=>jg dj.1)=d.map λq=>T.int q.1:=by delta av;rw[bv];rfl
  let ax:Bh [x0,J ZG,J (ar aG,.aa),b,c,d8] n=J (.bC,[x0,J (.a3<|av gu,.aA),J (ar aG,.aa),C,a1,bO],n):=by delta Bh Rp Ro Rn Rm;erw[bk,cX,pB,eC,il,ip,eA,B4,wL,eo,e2,aq,look,Mz,aW,nU];rw[show(av []:O<|hR×T)=[] from P]at aB;rw[aB];rfl
  erw[a8.bD.b4,il,ip,eC];rw[ax];show e
theorem R6(d:O D):∀Wu:O Z0,(WX Wu d).map bA=spread (Wu.map bA) d
 |[]=>rfl
 |r::Wu=>by let aQ:=R6 d Wu;delta WX spread at aQ |-;rw[cj,iA,iA,jM,aQ,bv];congr 1;show ji λf _=>?_;simp[Fm,bA]
def aeB(ds:O Z0):(hh ds).map bA=ds.foldl spread [0]:=by
 let gen:∀(ds Wu:O Z0),(ds.foldl WX Wu).map bA=ds.foldl spread (Wu.map bA):=by
  intro ds
  induction ds with
  |nil=>intro Wu;rfl
  |cons d ds aQ=>intro Wu;rw[jj,jj,aQ,R6]
 show gen ds [[]]
def anx(hz:(ds.map λx=>max 1 x.H).foldr (·*·) 1<=100000)(n:Y) :
  ∃d,jW d (λp=>(((hh ds).map bA).countP p:Y))/\pS [(.aF ZY,Y0)] n=J (.a3<|av d,Y0,n):=by
 let(d',gg,ic,cM,bH,B,e):=R5 (J (.aF ZY,.aa)) n ds [(0,1)] [0] C C C C {by simp,by simp,λp=>by simp[j9,bA];by_cases z:p 0=Y0<;>simp[z,bA]} (by simp;show hz);rw[<-aeB]at B;show{d',B,?_};delta pS Rr Rq;generalize Bh=xE at e |-;rw[show(av [(0,1)]:O<|hR×T)=[(Na 0,.int 1)] from P]at e;simp![Mi,kq,eA,eo,e2,Mz,e]
noncomputable def fr(a b:Y):T:=.aF [.int ((a / Nat.gcd a b:Y):D),.int ((b / Nat.gcd a b:Y):D)]
noncomputable def gz(ms:O Y):Y:=ms.foldr (·*·) 1
theorem R7:∀(ms:O Y) (a:Y),ms.foldl (·*·) a=a*gz ms
 |[],a=>by simp[gz]
 |m::ms,a=>by rw[jj,R7 ms];show a*m*gz ms=a*(m*gz ms);rw[um]
def anz{i:D}(ae:-1000000000000000000<=i)(ai:i<=1000000000000000000):Mw i=Y0:=by delta Mw;erw[Nd];lia
def aeC{k:Y}(h:k<=1000000000000000000):Mw (k:D)=Y0:=anz (iC _) Z6
def pV{a b:D}(h:Mw a=Y0\/Mw b=Y0)(n:Y):fF n [.int a,.int b]=J (.int<|a*b,.aa):=by show(if(Mw a||Mw b)=Y0 then J (T.int<|a*b,a9.aa) else C)=_;rw[Y2<|by rcases h with h|h<;>rw[h]<;>simp]
def aeD(ds:O Z0):yQ ds=gz (ds.map List.H):=by
 delta yQ;let:∀(ds:O Z0) (a:Y),ds.foldl (λm d=>m*d.H) a=a*gz (ds.map List.H):=by
  intro ds
  induction ds with
  |nil=>intro a;simp[gz]
  |cons d ds aQ=>intro a;rw[jj,aQ];simp[gz,um]
 rw[this,Hl]
noncomputable def wa:O Z0->O Z0
 |[]=>[[]]
 |d::ds=>d.flatMap λf=>(wa ds).map (f::·)
def K4(ds:O Z0):hh ds=wa ds:=by
 let gen:∀(ds Wu:O Z0),ds.foldl WX Wu=Wu.flatMap λr=>(wa ds).map (r++·):=by
  intro ds
  induction ds with
  |nil=>intro Wu;simp[wa]
  |cons d ds aQ =>
   intro Wu;rw[jj,aQ];delta WX;rw[qaE];congr 1;funext r;erw[wa,G4,B9,bv];congr 1;funext f;congr 1;funext x;simp
 delta hh;rw[gen];simp
noncomputable def below(x:D)(ds:O Z0):Y:=gz (ds.map λd=>d.countP λf=>decide (f<x))
def aeE(xs:O T)(k:Y):p2 xs C (J (k:D))=xs.take k:=by
 delta p2 a8.bD.bound;erw[Ce,zb];rw[Y3<|zg<|iC _];by_cases h:k<=xs.H
 .rw[show min (k:D).M xs.H=k by lia]
 .rw[show min (k:D).M xs.H=xs.length by lia,wU,qd<|ei<|uk h]
def aeF(xs:O T)(k:Y):p2 xs (J (k:D)) C=xs.drop k:=by
 delta p2 a8.bD.bound;simp only;rw[Y3<|zg<|iC _];by_cases h:k<=xs.H
 .rw[show min (k:D).M xs.H=k by lia];show qd (by rw[qe];show b8 _)
 .rw[show min (k:D).M xs.H=xs.length by lia,List.drop_of_length_le (by show ei (uk h):xs.H<=k)];simp
abbrev ha(d:O Z3)(s:O D):Prop:=jW d λp=>(s.countP p:Y)
def ha.val(B:ha d s){q:D×D}(h:q∈d):q.2=((s.countP λx=>x==q.1:Y):D):=by let:=B.yv λx=>x==q.1;rw[R2 B.bG (show(q.1,q.2)∈d from h)]at this;show this
def ha.key(B:ha d s){q:D×D}(h:q∈d):q.1∈s:=by
 let ae:=B.val h;let ai:=B.pos q h;let:0<s.countP λx=>x==q.1:=by lia
 let(x,au,e):=gc.mp this;let e:x=q.1:=by simpa using e
 show e▸au
def ha.has(B:ha d s){x:D}(h:x∈s):∃v,(x,v)∈d:=by
 by_cases aW:x∈d.map (·.1)
 .let(q,bc,rfl):=c9.mp aW;show{(q.2),bc}
 .let ae:=B.yv λy=>y==x;rw[R1 aW]at ae;let:0<s.countP λy=>y==x:=gc.mpr {x,h,by simp};lia
def ha.le(B:ha d s){q:D×D}(h:q∈d):q.2<=s.H:=by rw[B.val h];let:=qat (p:=λx=>x==q.1) (l:=s);lia
theorem UH:∀(d:O Z3) (s:O D) (h:D->D),(d.map (·.1)).Nodup->(∀q∈d,q.2=((s.countP λx=>x==q.1:Y):D))->(∀x∈s,x∈d.map (·.1))->bA (d.map λq=>q.2*h q.1)=bA (s.map h)
 |[],s,h,_,_,aK=>by
  cases s with
  |nil=>rfl
  |cons x s=>let:=aK x<|cc ..;simp at this
 |q::d,s,h,bG,bu,aK=>by
  rw[cj]at bG;let(aY,ck):=lP.mp bG;let split:∀s:O D,bA (s.map h)=((s.countP λx=>x==q.1:Y):D)*h q.1+bA ((s.filter λx=>!(x==q.1)).map h):=by
   intro s
   induction s with
   |nil=>simp[bA]
   |cons x s aQ =>
    rw[cj,bA,aQ,ml,sD];by_cases e:x=q.1
    .subst e;erw[Nq,MR,Hp,iB,MU];rw[show(((s.countP λx=>x==q.1)+1:Y):D)=((s.countP λx=>x==q.1:Y):D)+1 from P,zh];lia
    .let bH:(x==q.1)=Y1:=by simpa using e
     erw[bH,Bool.not_false,MR,iB,MU,cj,bA,Ct];lia
  rw[split s,cj,bA,bu q<|cc ..];congr 1;show UH d (s.filter λx=>!(x==q.1)) h ck (λej lJ=>?_) λx au=>?_
  .rw[bu ej<|cZ _ lJ,List.countP_filter];congr 1;show G3 λx _=>?_;let ne:ej.1≠q.1:=λz=>aY (by rw[<-z];show hZ (f:=(·.1)) lJ);constructor
   .intro z;let z:x=ej.1:=by simpa using z
    subst z;simp[ne]
   .intro z;simp at z |-;show z.1
  .let(ae,ai):=mY.mp au;let ai:x≠q.1:=by simpa using ai
   rcases cF.mp (aK x ae) with z|z
   .show MI z ai
   .show z
def ha.sum(B:ha d s)(h:D->D):bA (d.map λq=>q.2*h q.1)=bA (s.map h) :=
 UH d s h B.bG (λq bc=>B.val bc) λx au=>by let(v,bu):=B.has au;show hZ (f:=(·.1)) bu
def ha.Me(B:ha d s):d.H<=s.H:=by
 let ae:=B.sum λ_=>1;let ai:∀d:O Z3,(∀q∈d,1<=q.2)->(d.H:D)<=bA (d.map λq=>q.2*1):=by
  intro d
  induction d with
  |nil=>intro _;simp[bA]
  |cons q d aQ =>
   intro h;let:=aQ λej lJ=>h ej<|cZ _ lJ;let:=h q<|cc ..;rw[cj,bA,dv];lia
 let aS:∀s:O D,bA (s.map λ_=>1)=(s.H:D):=by
  intro s
  induction s with
  |nil=>rfl
  |cons x s aQ=>rw[cj,bA,aQ,dv];show Int.add_comm _ _
 let:=ai d B.pos;rw[ae,aS]at this;lia
def ha.vals(B:ha d s):bA (d.map (·.2))=(s.H:D):=by
 let ae:=B.sum λ_=>1;let aS:∀s:O D,bA (s.map λ_=>1)=(s.H:D):=by
  intro s
  induction s with
  |nil=>rfl
  |cons x s aQ=>rw[cj,bA,aQ,dv];show Int.add_comm _ _
 rw[aS]at ae;erw[Int.mul_one]at ae;show ae
def R8(d:O Z3):(av d).map (λdj=>jg dj.1)=d.map λq=>T.int q.1:=by delta av;rw[bv];rfl
def fX(ds:O Z0):O D:=(hh ds).map bA
def anA(ds:O Z0):(fX ds).H=yQ ds:=by delta fX;rw[bZ,RY]
theorem R9:∀{s:O D},(∀x∈s,0<=x)->0<=bA s
 |[],_=>by simp[bA]
 |x::s,h=>by let:=R9 (s:=s) λy aJ=>h y<|cZ _ aJ;let:=h x<|cc ..;erw[bA];lia
def aeG(h:r≠[]):∃M,vk r=J M/\M∈r/\∀y∈r,y<=M:=by
 let gen:∀(l:O D) (a:D),(l.foldl (λa b=>if a<b then b else a) a=a\/l.foldl (λa b=>if a<b then b else a) a∈l)/\a<=l.foldl (λa b=>if a<b then b else a) a/\∀y∈l,y<=l.foldl (λa b=>if a<b then b else a) a:=by
  intro l
  induction l with
  |nil=>intro a;simp
  |cons y l aQ =>
   intro a;rw[jj];let(ae,ai,aS):=aQ (if a<y then y else a);show{?_,?_,λz hz=>?_}
   .rcases ae with ae|ae
    .rw[ae];split
     .right;show cc ..
     .left;rfl
    .right;show cZ _ ae
   .let:a<=if a<y then y else a:=by split<;>lia
    show ce this ai
   .rcases cF.mp hz with rfl|hz
    .let:z<=if a<z then z else a:=by split<;>lia
     show ce this ai
    .show aS z hz
 cases r with
 |nil=>show MI P h
 |cons a l =>
  let(ae,ai,aS):=gen l a;show{_,P,?_,λy aJ=>?_}
  .rcases ae with ae|ae
   .rw[ae];show cc ..
   .show cZ _ ae
  .rcases cF.mp aJ with rfl|aJ
   .show ai
   .show aS y aJ
def qah(s:O D):D:=(vk (s.map λx=>((s.countP λy=>y==x:Y):D))).getD 0
end g9
namespace g9
open a8 a8.bD du
def K5{i:Y}{n:Y}(h:S[i]?=J (J (t,.aa))):eA i d S n=d S n:=by delta eA;rw[h]
abbrev gD:=D×D×D
def Fp(a:O D):fX [a]=a:=by
 delta fX;rw[K4];erw[wa,cj,m1]
 induction a with
 |nil=>rfl
 |cons x a aQ =>
  rw[iA,jM,aQ];simp[bA]
def Sa:fX []=[0]:=rfl
def qZ(d:O D)(ds:O Z0):fX (d::ds)=d.flatMap λf=>(fX ds).map (f+·):=by delta fX;rw[K4,K4];show(d.flatMap λf=>(wa ds).map (f::·)).map bA=_;rw[B9];congr 1;funext f;rw[bv,bv];rfl
def Sb(a b:O Z0):fX (a++b)=(fX a).flatMap λx=>(fX b).map (x+·):=by
 induction a with
 |nil=>rw[ka,Sa];simp
 |cons d a aQ =>
  rw[qf,qZ,qZ,aQ,qaE];congr 1;funext f;rw[B9,G4];congr 1;funext x;rw[bv];congr 1;funext y;erw[Ox];lia
def aeH(p:a.Perm b):bA a=bA b:=by
 induction p with
 |nil=>rfl
 |cons x _ aQ=>simp[bA,aQ]
 |swap x y l=>simp[bA];lia
 |trans _ _ ae ai=>show ae.trans ai
noncomputable def gH(a b:O D):O D:=a.flatMap λx=>b.map (x+·)
theorem K6(b:O D):∀a:O D,(gH a b).H=a.H*b.H
 |[]=>by simp[gH]
 |x::r=>by let:=K6 b r;delta gH at*;rw[iA,gm,this,bZ,dv,lR,rh]
def Sd{z:D}:z∈gH a b↔∃x∈a,∃y∈b,x+y=z:=by delta gH;erw[mm,c9]
end g9
namespace g9
open PySem a8 a8.bD du
def aeI{lo hi:D}{n:Y}(h:oz [(t,Y0),(.int lo,Y0),(.int hi,Y0)] n=J (.aU Y1,Y1,n))(ae:Mw lo=Y0)(ai:Mw hi=Y0):kP [(t,Y0),(.int lo,Y0),(.int hi,Y0)] n=J (3,n):=by delta kP fnX KI kK gk cG cD a0 cw aq;simp[look,flag,h,lb,jZ,nt,xk,mz,ae,ai,aq]
def Se{lo hi:D}{n:Y}(h:oz [(t,Y0),(.int lo,Y0),(.int hi,Y0)] n=J (.aU Y0,Y1,n)):kP [(t,Y0),(.int lo,Y0),(.int hi,Y0)] n=C:=by delta kP fnX KI kK gk cG cD a0 cw aq;simp[look,flag,h,lb,jZ,iL]
def Sf(i lo hi:D)(n:Y)(h:¬ (lo<=i/\i<=hi)):oz [(.int i,Y0),(.int lo,Y0),(.int hi,Y0)] n=J (.aU Y1,Y1,n):=by
 delta oz KG;by_cases ae:lo<=i
 .let ai:¬i<=hi:=λz=>h {(ae),z};simp![kO,iP,A9,Ba,yo,vT,Bb,pC,jE,gb,ae,ai]
 .simp![kO,iP,A9,Ba,yo,vT,Bb,pC,jE,gb,ae]
def alY(ns:O D)(k m:D)(aW:0<=k)(hm:1<=m)(n:Y):∃r,0<=r/\r<m/\Fj [(.aj<|ns.map .int,Y1),(.int k,Y0),(.int m,Y0)] n=J (.int r,Y1,n):=by
 let(c,e):=alW ns k aW n;let x0:=Ht ((c+7919*k+1)*48271) (b:=2147483647) Z1;let bE:=Hs ((c+7919*k+1)*48271) (b:=2147483647) Z1;let bR:Mw ((c+7919*k+1)*48271%2147483647)=Y0:=by delta Mw;erw[Nd];lia
 let s1:Mw 48271=Y0:=rfl;let s2:Mw 7919=Y0:=rfl;let s3:Mw 7=Y0:=rfl;let m0:0<m:=hm;show{_,Ht (((c+7919*k+1)*48271%2147483647*((c+7919*k+1)*48271%2147483647)+7*((c+7919*k+1)*48271%2147483647)+k)%2147483629) (by show w3 m0:m≠0),Hs _ m0,?_};delta Fj RK;simp![e,wt,gb,VL,mb,bR,s1,s2,s3,m0]
def Fq(ns:O D)(n:Y)(m:D)(hm:1<=m)(bI:n<bp):∃r,0<=r/\r<m/\r8 [(.aj<|ns.map .int,Y1),(.fE,Y0),(.int m,Y0)] n=J (.int r,Y1,n+1):=by let(r,h0,ae,e):=alY ns (n+1) m (iC _) hm<|n+1;show{r,h0,ae,?_};delta r8 RL;simp![kO,pQ,qY,Bc,Bd,bI,e]
def Fs(ns:O D)(l:O T)(b:MF)(n:Y)(az:l≠[])(bI:n<bp):∃v∈l,pT [(.aj<|ns.map .int,Y1),(.fE,Y0),(.aj l,b)] n=J (v,Y1,n+1):=by
 let:1<=l.H:=by cases l with
  |nil=>show MI P az
  |cons _ _=>simp
 let(r,h0,ae,e):=Fq ns n l.H Z6 bI;let a4:r.M<l.H:=by lia
 let ax:fV l r=J l[r.M]:=by delta fV;rw[Y2 h0,Y2 ae,gd a4]
 show{l[r.M],nP a4,?_};generalize l[r.M]=v at ax;delta pT RM
 ext b<;>simp![kO,pQ,yp,e,ax]
def K7(ns l:O D)(n:Y)(az:l≠[])(bI:n<bp):∃v∈l,pT [(.aj<|ns.map .int,Y1),(.fE,Y0),(.aj<|l.map .int,Y0)] n=J (.int v,Y1,n+1):=by let(t,ct,e):=Fs ns (l.map .int) Y0 n (by simpa using az) bI;let(v,bu,rfl):=c9.mp ct;show{(v),bu,e}
def n7(d:O D):Prop:=∃lo:D,∀x∈d,lo<=x/\x<=lo+11
end g9
namespace g9
open a8 a8.bD du
def akh{α:Type}(f:α->T)(l:O α)(d:α){i:D}(h0:0<=i)(ae:i<l.H):fV (l.map f) i=J (f<|l.getD i.M d):=by
 delta fV;rw[Y2 h0,bZ,Y2 ae,hO];let:i.M<l.H:=by lia
 rw[gd this,hY,gd this];rfl
theorem Sg:∀(m:Y) (p:O D),(∀x∈p,0<=x/\x<m)->p.Nodup->p.H<=m
 |0,p,h,_=>by
  cases p with
  |nil=>simp
  |cons x p=>let:=h x<|cc ..;lia
 |m+1,p,h,bG=>by
  let aQ:=Sg m (p.filter λx=>!decide (x=m)) (λx au=>by
   let(ae,ai):=mY.mp au;let:=h x ae;simp at ai
   lia) (bG.filter _)
  let c:p.count (m:D)<=1:=List.nodup_iff_count.mp bG _;let e:=List.length_eq_countP_add_countP (λx=>decide (x=(m:D))) (l:=p);let ax:p.countP (λx=>decide (x=(m:D)))=p.count (m:D):=by delta List.count;congr 1
  let bq:p.countP (λa=>!decide (a=(m:D)))=(p.filter λx=>!decide (x=(m:D))).H:=qaj ..;let cC:p.countP (λa=>decide ¬decide (a=(m:D))=Y0)=p.countP (λa=>!decide (a=(m:D))):=by congr 1;funext x;simp
  rw[cC]at e;lia
def anB{a b:D}{p:O D}(h:∀x∈p,a<=x/\x<b)(bG:p.Nodup):p.H<=(b-a).M:=by
 let:=Sg (b-a).M (p.map λx=>x-a) (λy aJ=>by
  let(x,au,rfl):=c9.mp aJ;let:=h x au
  lia) (mj.mpr (bG.imp λ{x y} e z=>e Z6))
 rwa [bZ]at this
structure e8 (d:O Z3):Prop where
 bG:(d.map (·.1)).Nodup
 pos:∀q∈d,1<=q.2
def cnt_cons(p:D×D)(d:O Z3)(k:D):b7 (p::d) k=if p.1=k then p.2 else b7 d k:=by delta b7;rw[qg];by_cases h:p.1=k<;>simp[h]
theorem iN:∀{d:O Z3} {q:D×D},(d.map (·.1)).Nodup->q∈d->b7 d q.1=q.2
 |[],q,_,h=>by simp at h
 |p::d,q,bG,h=>by
  rw[cj]at bG;let(aY,ck):=lP.mp bG;rw[cnt_cons];rcases cF.mp h with rfl|h
  .simp
  .let:¬p.1=q.1:=λz=>aY (by rw[z];show hZ (f:=(·.1)) h);rw[Y3 this];show iN ck h
def oB{k:D}(h:k∉d.map (·.1)):b7 d k=0:=by
 induction d with
 |nil=>rfl
 |cons p d aQ =>
  rw[cj]at h;rw[cnt_cons,Y3 λz=>h<|by rw[<-z];show cc ..];show aQ λz=>h<|cZ _ z
def e8.mem(B:e8 d){k:D}(h:1<=b7 d k):k∈d.map (·.1):=by
 by_cases z:k∈d.map (·.1)
 .show z
 .rw[oB z]at h;lia
def e8.yW(B:e8 d){k:D}(h:k∈d.map (·.1)):1<=b7 d k:=by let(q,bc,rfl):=c9.mp h;rw[iN B.bG bc];show B.pos q bc
def e8.nonneg(B:e8 d)(k:D):0<=b7 d k:=by
 by_cases z:k∈d.map (·.1)
 .let:=B.yW z;show kx this
 .rw[oB z];decide
noncomputable def subs(d:O Z3)(g:D->D):O Z3:=(d.map λp=>(p.1,p.2-g p.1)).filter λp=>decide (0<p.2)
def K8(d:O Z3)(g:D->D):((subs d g).map (·.1)).Sublist (d.map (·.1)):=by delta subs;let h:=(qay (p:=λp:D×D=>decide (0<p.2)) (l:=d.map λp=>(p.1,p.2-g p.1))).map (λp:D×D=>p.1);rw[bv]at h;show h
theorem e8.subs(B:e8 d)(g:D->D):e8<|subs d g:=by show{B.bG.sublist<|K8 d g,λq bc=>?_};let:=(mY.mp bc).2;simp at this;show this
def Bq(B:e8 d){g:D->D}(h:∀k,0<=g k/\g k<=b7 d k)(k:D):b7 (subs d g) k=b7 d k-g k:=by
 by_cases z:k∈(subs d g).map (·.1)
 .let(q,bc,rfl):=c9.mp z;rw[iN (B.subs g).bG bc];let(ae,_):=mY.mp bc;let(p,aC,rfl):=c9.mp ae;rw[iN B.bG aC]
 .rw[oB z];let(ae,ai):=h k;by_cases y:k∈d.map (·.1)
  .let(q,bc,rfl):=c9.mp y;rw[iN B.bG bc]at ai |-;by_cases w:0<q.2-g q.1
   .exfalso;show z<|c9.mpr {(q.1,q.2-g q.1),mY.mpr {c9.mpr {(q),bc,P},by simpa using w},P}
   .show w2 (Hq ai)<|w5.mp w
  .rw[oB y]at ai |-;lia
theorem Sh(g h:D->D)(bL:∀k,0<=h k):∀d:O Z3,subs (subs d g) h=subs d λk=>g k+h k
 |[]=>rfl
 |p::d=>by
  let aQ:=Sh g h bL d;delta subs at aQ |-;let:=bL p.1;rw[cj,sD,cj,sD];by_cases w:0<p.2-g p.1
  .erw[w,decide_true,MR];rw[cj,sD,aQ];erw[Int.sub_sub]
  .let iF:¬0<p.2-(g p.1+h p.1):=by lia
   erw[w,iF,decide_false,iB,MU];show aQ
def aeJ(B:e8 d):subs d (λ_=>0)=d:=by
 delta subs;let e:(d.map λp=>(p.1,p.2-0))=d:=by show(ji (g:=id) λp _=>?_).trans (ug _);simp
 rw[e,B6];intro p aC;let:=B.pos p aC;simp;show this
def Wa(d:O Z3):D:=(Fa<|d.map (·.1)).getD 0
theorem aeK:∀{l:O D},l≠[]->∃x,Fa l=J x/\x∈l/\∀y∈l,x<=y
 |[],h=>MI P h
 |a::l,_=>by
  let gen:∀(l:O D) (a:D),(l.foldl (λa b=>if b<a then b else a) a=a\/l.foldl (λa b=>if b<a then b else a) a∈l)/\l.foldl (λa b=>if b<a then b else a) a<=a/\∀y∈l,l.foldl (λa b=>if b<a then b else a) a<=y:=by
   intro l
   induction l with
   |nil=>intro a;show{.inl P,hD _,by simp}
   |cons b l aQ =>
    intro a;rw[jj];let(ae,ai,aS):=aQ (if b<a then b else a);show{?_,?_,λy aJ=>?_}
    .rcases ae with ae|ae
     .rw[ae];by_cases c:b<a
      .rw[Y2 c];show .inr<|cc ..
      .rw[Y3 c];show .inl P
     .show .inr<|cZ _ ae
    .show ce ai ?_;split<;>lia
    .rcases cF.mp aJ with rfl|aJ
     .show ce ai ?_;split<;>lia
     .show aS y aJ
  let(ae,ai,aS):=gen l a;show{_,P,?_,λy aJ=>?_}
  .rcases ae with ae|ae
   .rw[ae];show cc ..
   .show cZ _ ae
  .rcases cF.mp aJ with rfl|aJ
   .show ai
   .show aS y aJ
def sa(h:d≠[]):Fa (d.map (·.1))=J (Wa d)/\Wa d∈d.map (·.1)/\∀y∈d.map (·.1),Wa d<=y:=by
 let(x,e,ae,ai):=aeK (l:=d.map (·.1)) (by simpa using h);let:Wa d=x:=by delta Wa;rw[e];rfl
 rw[this];show{(e),ae,ai}
def VO(h:d≠[]){m:D}(ae:m∈d.map (·.1))(ai:∀y∈d.map (·.1),m<=y):Wa d=m:=by let(_,a,b):=sa h;let:=b m ae;let:=ai _ a;lia
noncomputable def dO(aG:O D)(hX:D)(j:Y)(x:D):D:=(j:D)*((aG.countP λy=>y==x-hX:Y):D)
def q0(aG:O D)(hX:D)(j:Y)(x:D):0<=dO aG hX j x:=Int.mul_nonneg (iC _)<|iC _
def K9(aG:O D)(hX:D)(i j:Y)(x:D):dO aG hX (i+j) x=dO aG hX i x+dO aG hX j x:=by delta dO;rw[Hu,zh]
def aeL(aG:O D)(hX:D){i j:Y}(h:i<=j)(x:D):dO aG hX i x<=dO aG hX j x:=qa4 Z6<|iC _
def Fits(d:O Z3)(g:D->D):Prop:=∀k,g k<=b7 d k
def c4(aG:O D)(d:O Z3):D:=Wa d-aG.headD 0
def Ok(aG:O D)(d:O Z3):Prop:=0<=c4 aG d/\Fits d (dO aG ZC 1)
inductive jh (aG:O D):O Z3->MB Z0->Prop
 |nil:jh aG []<|some []
 |bad {d:O Z3}:d≠[]->¬Ok aG d->jh aG d C
 |good {d:O Z3} {r:MB Z0}:d≠[]->Ok aG d->jh aG (subs d<|dO aG ZC 1) r->jh aG d (r.map (c4 aG d::·))
noncomputable def g4(aG:O D):Y:=aG.countP λy=>y==aG.headD 0
def Ft(h:1<=aG.H):1<=g4 aG:=by
 cases aG with
 |nil=>simp at h
 |cons x r=>delta g4;rw[ml];simp
def Fu(aG:O D)(d:O Z3)(j:Y):dO aG ZC j (Wa d)=(j:D)*(g4 aG:D):=by delta dO c4 g4;rw[show Wa d-(Wa d-aG.headD 0)=aG.headD 0 by lia]
def alZ{hX:D}{i j:Y}(h:i<=j)(f:Fits d<|dO aG hX j):Fits d<|dO aG hX i:=λk=>ce (aeL aG hX h k)<|f k
def Sj(ae:1<=aG.H)(B:e8 d)(hd:d≠[]){j:Y}(bJ:((j:D)+1)*(g4 aG:D)<=b7 d (Wa d))(hf:Fits d<|dO aG ZC j) :
  subs d (dO aG ZC j)≠[]/\c4 aG (subs d<|dO aG ZC j)=c4 aG d:=by
 let c:=Bq B (g:=dO aG ZC j) (λk=>{q0 aG _ j k,hf k})<|Wa d;rw[Fu]at c;let p:=Ft ae;rw[zh]at bJ;let m:=(B.subs<|dO aG ZC j).mem (k:=Wa d) Z6;let ne:subs d (dO aG ZC j)≠[]:=by intro e;rw[e]at m;simp at m
 show{ne,?_};let e:=VO ne m λy aJ=>(sa hd).2.2 y ((K8 d _).subset aJ);show Wa _-_=Wa d-_;rw[e]
def Sk(B:e8 d){hX:D}{j:Y}(hf:Fits d<|dO aG hX j):Fits (subs d<|dO aG hX j) (dO aG hX 1)↔Fits d (dO aG hX<|j+1):=by
 let c:=Bq B (g:=dO aG hX j) λk=>{q0 aG _ j k,hf k};constructor
 .intro h k;let:=h k;rw[c k]at this;rw[K9];lia
 .intro h k;let:=h k;rw[K9]at this;rw[c k];lia
def anC{hX:D}(j:Y):subs (subs d<|dO aG hX j) (dO aG hX 1)=subs d (dO aG hX<|j+1):=by rw[Sh _ _<|q0 aG hX 1];congr 1;funext k;rw[K9]
theorem La(ae:1<=aG.H)(B:e8 d)(hd:d≠[])(h0:0<=c4 aG d)(M:jh aG d r):∀j:Y,(j:D)*(g4 aG:D)<=b7 d (Wa d)->Fits d (dO aG ZC j) ->
  ∃bU,r=bU.map (ML j ZC++·)/\jh aG (subs d<|dO aG ZC j) bU
 |0,_,_=>by
  show{r,by ext r<;>rfl,?_};let e:dO aG ZC 0=λ_=>0:=by funext k;delta dO;simp
  rw[e,aeJ B];show M
 |j+1,bJ,hf=>by
  let Lb:=alZ (uo j) hf;let nD:((j:D)+1)*(g4 aG:D)<=b7 d (Wa d):=by simpa using bJ
  let(Xf,e,Ij):=La ae B hd h0 M j (by rw[zh]at nD;lia) Lb;let(ne,l1):=Sj ae B hd nD Lb;let ok:Ok aG<|subs d<|dO aG ZC j:={by rw[l1];show h0,by rw[l1];show(Sk B Lb).mpr hf}
  generalize mB:subs d (dO aG ZC j)=X at*;cases Ij with
  |nil=>show MI P ne
  |bad _ wb=>show MI ok wb
  |@good _ bU _ _ NU =>
   rw[l1,<-mB,anC]at NU;show{bU,?_,NU};rw[e,l1];cases bU with
   |none=>rfl
   |some l =>
    erw[nU];congr 1;rw[qav,hk];rfl
def aeM(ae:1<=aG.H)(B:e8 d)(hd:d≠[])(h0:0<=c4 aG d)(M:jh aG d r){q:Y}(bc:(q:D)*(g4 aG:D)<=b7 d (Wa d))(hf:¬Fits d (dO aG ZC q)):r=C:=by
 let z:Fits d<|dO aG ZC 0:=λk=>by let:=B.nonneg k;delta dO;simpa using this
 let ex:∃j,j<q/\Fits d (dO aG ZC j)/\¬Fits d (dO aG ZC<|j+1):=by
  clear bc
  induction q with
  |zero=>show MI z hf
  |succ q aQ =>
   by_cases c:Fits d<|dO aG ZC q
   .show{q,m3 _,c,hf}
   .let(j,a,b):=aQ c;show{j,(rf a),b}
 let(j,bJ,f1,f2):=ex;let p:=Ft ae;let nD:((j:D)+1)*(g4 aG:D)<=b7 d (Wa d):=ce (qa4 Z6<|iC _) bc;let(Xf,e,Ij):=La ae B hd h0 M j (by rw[zh]at nD;lia) f1;let(ne,l1):=Sj ae B hd nD f1;let wb:¬Ok aG (subs d<|dO aG ZC j):=λo=>f2<|(Sk B f1).mp (by let:=o.2;rw[l1]at this;show this);generalize subs d (dO aG ZC j)=X at*;cases Ij with
 |nil=>show MI P ne
 |bad _ _=>rw[e];rfl
 |good _ ok _=>show MI ok wb
def Sl(hd:d≠[])(M:jh aG d r)(h:c4 aG d<0\/b7 d (Wa d)<(g4 aG:D)):r=C:=by
 cases M with
 |nil=>show MI P hd
 |bad _ _=>rfl
 |good _ ok _ =>
  exfalso;rcases h with h|h
  .let:=ok.1;lia
  .let:=ok.2<|Wa d;rw[Fu]at this;lia
def fl(d:O Z3):D:=bA<|d.map (·.2)
theorem Lc{g:D->D}(bL:∀k,0<=g k):∀{d:O Z3},(∀q∈d,g q.1<=q.2)->fl (subs d g)+(bA (d.map λq=>g q.1))=fl d
 |[],_=>rfl
 |p::d,h=>by
  let aQ:=Lc bL (d:=d) λq bc=>h q<|cZ _ bc;let aC:=h p<|cc ..;delta fl subs at aQ |-;rw[cj,sD,cj,cj,bA,bA];by_cases w:0<p.2-g p.1
  .erw[w,decide_true,MR];rw[cj,bA];show p.2-g p.1+_+_=_;lia
  .erw[w,decide_false,iB,MU];lia
def Br(h:∀x∈l,0<=x){y:D}(aJ:y∈l):y<=bA l:=by
 let nn:∀l:O D,(∀x∈l,0<=x)->0<=bA l:=by
  intro l
  induction l with
  |nil=>intro _;simp[bA]
  |cons x l aQ=>intro h;rw[bA];let:=h x<|cc ..;let:=aQ λz hz=>h z<|cZ _ hz;lia
 induction l with
 |nil=>simp at aJ
 |cons x l aQ =>
  rw[bA];let h0:=h x<|cc ..;let az:=nn l λz hz=>h z<|cZ _ hz;rcases cF.mp aJ with rfl|aJ
  .lia
  .let:=aQ (λz hz=>h z<|cZ _ hz) aJ;lia
def Sm(B:e8 d){g:D->D}(f:Fits d g):∀q∈d,g q.1<=q.2:=λq bc=>by let:=f q.1;rw[iN B.bG bc]at this;show this
def anD(ae:1<=aG.H)(B:e8 d)(hd:d≠[]){j:Y}(bJ:1<=j)(f:Fits d<|dO aG ZC j):fl (subs d<|dO aG ZC j)+1<=fl d:=by
 let e:=Lc (q0 aG ZC j)<|Sm B f;let(_,m,_):=sa hd;let(q,bc,hm):=c9.mp m;let:=Br (l:=d.map λq=>dO aG ZC j q.1) (λx au=>by let(q,_,rfl):=c9.mp au;show q0 ..)<|hZ (f:=λq:D×D=>dO aG ZC j q.1) bc;rw[hm,Fu]at this;let p:=Ft ae;let:1<=(j:D)*(g4 aG:D):=by let:=ku bJ p;rw[<-sI];lia
 lia
def Ld(B:e8 d):0<=fl d:=by
 delta fl;let:∀l:O D,(∀x∈l,0<=x)->0<=bA l:=by
  intro l
  induction l with
  |nil=>intro _;simp[bA]
  |cons x l aQ=>intro h;rw[bA];let:=h x<|cc ..;let:=aQ λz hz=>h z<|cZ _ hz;lia
 show this _ λx au=>?_;let(q,bc,rfl):=c9.mp au;let:=B.pos q bc;show kx this
def al0(ae:1<=aG.H):∀(N:Y) (d:O Z3),e8 d->fl d<=N->∃r,jh aG d r:=by
 intro N
 induction N with
 |zero =>
  intro d B h;cases hd:d with
  |nil=>show{_,.nil}
  |cons p r =>
   exfalso;let:=Br (l:=d.map (·.2)) (λx au=>by let(q,bc,rfl):=c9.mp au;let:=B.pos q bc;show kx this)<|hZ (f:=(·.2)) (show p∈d by rw[hd];show cc ..);let:=B.pos p (by rw[hd];show cc ..);delta fl at h;lia
 |succ N aQ =>
  intro d B h;by_cases hd:d=[]
  .subst hd;show{_,.nil}
  .by_cases ok:Ok aG d
   .let(r,M):=aQ _ (B.subs<|dO aG ZC 1) (by let:=anD ae B hd (j:=1) (b8 _) ok.2;show qa6<|zf this h);show{_,.good hd ok M}
   .show{_,.bad hd ok}
def mC(d:O Z3)(s:O D):Prop:=∀k,b7 d k=((s.countP λx=>x==k:Y):D)
def Le(a:O D)(y:D)(aO:O D)(k:D):(gH a<|y::aO).countP (λx=>x==k)=(a.countP λx=>x==k-y)+(gH a aO).countP λx=>x==k:=by
 delta gH
 induction a with
 |nil=>rfl
 |cons x a aQ =>
  rw[iA,iA,rb,rb,aQ,cj,ml,ml];let:(x+y==k)=(x==k-y):=by rw[w1,M5,M5];lia
  rw[this];lia
theorem Sn(ae:1<=aG.H)(aK:aG.Pairwise (·<=·)):∀{aO:O D},aO.Pairwise (·<=·)->(∀y∈aO,0<=y)->∀{d:O Z3},e8 d->mC d (gH aG aO)->jh aG d (J aO)
 |[],_,_,d,B,OE=>by
  let e:d=[]:=by
   cases d with
   |nil=>rfl
   |cons p r =>
    let:=OE p.1;rw[cnt_cons,Y2 P]at this;let z:gH aG []=[]:=by delta gH;simp
    rw[z]at this;let:=B.pos p<|cc ..;simp at*;lia
  subst e;show .nil
 |y::aO,aC,h0,d,B,OE=>by
  obtain⟨x,r,rfl⟩:∃x r,aG=x::r:=by
   cases aG with
   |nil=>simp at ae
   |cons x r=>show{(x),r,P}
  let key:∀k,k∈d.map (·.1)↔k∈gH (x::r) (y::aO):=λk=>by
   constructor
   .intro h;let:=B.yW h;rw[OE k]at this;let:0<(gH (x::r)<|y::aO).countP λz=>z==k:=by lia
    let(z,hz,e):=gc.mp this;rw[M5]at e;rw[<-e];show hz
   .intro h;show B.mem ?_;rw[OE k];let:0<(gH (x::r)<|y::aO).countP λz=>z==k:=gc.mpr {k,h,by simp};lia
  let mem:x+y∈gH (x::r) (y::aO):=Sd.mpr {x,cc ..,y,cc ..,P};let ne:d≠[]:=by intro e;let:=(key _).mpr mem;rw[e]at this;simp at this
  let lo:Wa d=x+y:=VO ne ((key _).mpr mem) λk aW=>by
   let(a,bl,b,ao,rfl):=Sd.mp<|(key k).mp aW;let d0:x<=a:=by
    rcases cF.mp bl with rfl|bl
    .show hD _
    .show(ik.mp aK).1 a bl
   let hp:y<=b:=by
    rcases cF.mp ao with rfl|ao
    .show hD _
    .show(ik.mp aC).1 b ao
   show sJ d0 hp
  let l1:c4 (x::r) d=y:=by show Wa d-x=y;lia
  let xH:∀k,dO (x::r) y 1 k=(((x::r).countP λz=>z==k-y:Y):D):=λk=>by delta dO;simp
  let fit:Fits d<|dO (x::r) y 1:=λk=>by rw[xH,OE k,Le];lia
  let ok:Ok (x::r) d:={by rw[l1];show h0 y<|cc ..,by rw[l1];show fit}
  let Xg:mC (subs d<|dO (x::r) y 1)<|gH (x::r) aO:=λk=>by rw[Bq B (λk=>{q0 ..,fit k}),OE k,xH,Le];lia
  let M:=Sn ae aK (ik.mp aC).2 (λz hz=>h0 z<|cZ _ hz) (B.subs _) Xg;let:=jh.good ne ok (by rw[l1];show M);rw[l1]at this;show this
def ha.b7(B:ha d s):mC d s:=λx=>by
 by_cases au:x∈s
 .let(v,bu):=B.has au;rw[iN B.bG bu];show B.val bu
 .rw[oB (λz=>by
   let(q,bc,rfl):=c9.mp z
   show au<|B.key bc),qaz.mpr λy aJ z=>au<|by rw[<-eq_of_beq z];show aJ]
  rfl
def So(ae:∀d∈ds,1<=d.H)(hz:gz (ds.map List.H)<=100000)(n:Y) :
  ∃d,ha d (fX ds)/\pS [(.aF ZY,Y0)] n=J (.a3<|av d,Y0,n) :=
 anx (by rw[show(ds.map λx=>max 1 x.H)=ds.map List.H from ji λx au=>Nat.max_eq_right<|ae x au];show hz) n
noncomputable def bT(tw:O Z3):O T:=tw.map λp=>.aF [.int p.1,.int p.2]
theorem Sp:∀tw:O Z3,ra (bT tw)=J (av tw)
 |[]=>rfl
 |p::tw=>by let aQ:=Sp tw;delta bT at aQ |-;rw[cj];delta ra;show(Oi (J (Na p.1:hR)) λk=>(ra _).map ((k,T.int p.2)::·))=_;rw[aQ];rfl
theorem Sq:∀(tw A:O Z3),((A++tw).map (·.1)).Nodup->(av tw).foldl (λd p=>jF d p.1 p.2) (av A)=av (A++tw)
 |[],A,_=>by simp[av]
 |p::tw,A,h=>by
  let bI:(A.any λq=>decide (q.1=p.1))=Y1:=by rw[<-Bool.not_eq_true,yu];intro z;rw[jM,wR]at h;show h.2.2 _ z _ Z5 P
  let e:jF (av A) (.inl p.1) (.int p.2)=av (A++[p]):=by delta jF;rw[VN,bI];simp[av]
  let aQ:=Sq tw (A++[p]) (by simpa using h);show(av tw).foldl (λd p=>jF d p.1 p.2) (jF (av A) (.inl p.1)<|.int p.2)=_;rw[e,aQ,hk];rfl
def Mr(bG:(tw.map (·.1)).Nodup)(az:tw.H<bp)(n:Y):tx n [.aj<|bT tw]=J (.a3<|av tw,.aA):=by show((ra<|bT tw).bind λps=>if ps.H<bp then J (T.a3<|ps.foldl (λd p=>jF d p.1 p.2) [],a9.aA) else C)=_;rw[Sp];let:=Sq tw [] (by simpa using bG);rw[show(av ([]:O Z3))=[] from P]at this;show(if(av tw).H<bp then J (T.a3<|(av tw).foldl (λd p=>jF d p.1 p.2) [],a9.aA) else C)=_;rw[Y2 (by delta av;rw[bZ];show az),this];rfl
def Sr(bG:(d.map (·.1)).Nodup){k:D}(h:k∈d.map (·.1))(w:D):fw d k w=d.map λp=>(p.1,p.2+if p.1=k then w else 0):=by
 delta fw;rw[Y2<|(yu d k).mpr h];show ji λp aC=>?_;by_cases e:p.1=k
 .rw[Y2 e,Y2 e,<-e,iN bG aC]
 .rw[Y3 e,Y3 e];simp
def Lf{k:D}(h:k∈d.map (·.1))(w:D):(fw d k w).map (·.1)=d.map (·.1):=by delta fw;rw[Y2<|(yu d k).mpr h,bv];show ji λp _=>?_;show(if p.1=k then _ else p).1=p.1;split<;>rfl
def Fv{k:D}(h:k∉d.map (·.1))(w:D):fw d k w=d++[(k,w)]:=by delta fw;rw[Y3 λz=>h<|(yu d k).mp z]
def Bs(bG:(d.map (·.1)).Nodup)(k w:D):((fw d k w).map (·.1)).Nodup:=by
 by_cases h:k∈d.map (·.1)
 .rw[Lf h];show bG
 .rw[Fv h,jM,wR];show{bG,by simp,λx au y aJ=>by simp at aJ;subst aJ;show λe=>h<|e▸au}
def Ss(a b:O Z3)(k:D)(h:k∉a.map (·.1)):b7 (a++b) k=b7 b k:=by
 induction a with
 |nil=>rfl
 |cons p a aQ =>
  rw[cj]at h;rw[qf,cnt_cons,Y3 λz=>h<|by rw[<-z];show cc ..];show aQ λz=>h<|cZ _ z
def Kc{d:O Z3}(g:D->D)(k:D):b7 (d.map λp=>(p.1,p.2+g p.1)) k=b7 d k+if k∈d.map (·.1) then g k else 0:=by
 induction d with
 |nil=>rfl
 |cons p d aQ =>
  rw[cj,cnt_cons,cnt_cons,aQ,cj];by_cases e:p.1=k
  .simp[e]
  .let:(k∈p.1::d.map (·.1))↔k∈d.map (·.1):=by rw[cF];show{λz=>z.elim (λz=>MI z.symm e) id,.inr}
   erw[e,MU,this]
def Su(bG:(d.map (·.1)).Nodup)(k w x:D):b7 (fw d k w) x=b7 d x+if x=k then w else 0:=by
 by_cases h:k∈d.map (·.1)
 .rw[Sr bG h,Kc λx=>if x=k then w else 0];by_cases e:x=k
  .subst e;simp[h]
  .simp[e]
 .rw[Fv h];by_cases e:x=k
  .subst e;rw[Ss _ _ _ h,oB h,cnt_cons];simp
  .rw[Y3 e];by_cases au:x∈d.map (·.1)
   .let(q,bc,rfl):=c9.mp au;let ck:((d++[(k,w)]).map (·.1)).Nodup:=by rw[<-Fv h];show Bs bG k w
    rw[iN ck<|nO _ bc,iN bG bc];lia
   .rw[Ss _ _ _ au,oB au,cnt_cons,Y3 λz=>e z.symm];rfl
def al1(bG:(d.map (·.1)).Nodup)(k w:D):i0 (av<|fw d k w) (.inl k)=J (.int<|b7 d k+w):=by
 let aW:∃v,(k,v)∈fw d k w:=by
  by_cases h:k∈d.map (·.1)
  .let:k∈(fw d k w).map (·.1):=by rw[Lf h];show h
   let(q,bc,rfl):=c9.mp this;show{(q.2),bc}
  .rw[Fv h];show{w,by simp}
 let(v,bu):=aW;rw[K3 (Bs bG k w) bu];let:=iN (Bs bG k w) bu;rw[Su bG]at this;simp at this;rw[<-this]
def Lg(bG:(d.map (·.1)).Nodup){k:D}(h:k∈d.map (·.1))(n:Y):cz n [.a3<|av d,.int k]=J (.int<|b7 d k,.aa):=by let(q,bc,rfl):=c9.mp h;let:=K3 bG (show(q.1,q.2)∈d from bc);rw[iN bG bc];show((i0 (av d)<|.inl q.1).map λt=>(t,a9.aa))=_;rw[this];rfl
theorem Sv(Lh:(t.map (·.1)).Nodup)(pt:∀q∈t,1<=q.2)(x0:MB ZE)(n:Y):∀(l:O Z3) (e:O Z3) (cy:MB ZE),(∀q∈l,q∈t)->(l.map (·.1)).Nodup->e8 e\/(e.map (·.1)).Nodup->(e.map (·.1)).Nodup->e.H+l.H<=100000 ->
  ∃tQ,((∀q∈l,q.2<=b7 e q.1)->eb (b4 3) r7 (l.map λq=>T.int q.1) [x0,J (.a3<|av t,.aa),J (.a3<|av e,.aA),cy] n=J (.bC,[x0,J (.a3<|av t,.aa),J (.a3<|av<|l.foldl (λe q=>fw e q.1<|-q.2) e,.aA),tQ],n)) /\
   ((¬ ∀q∈l,q.2<=b7 e q.1)->∃S,eb (b4 3) r7 (l.map λq=>T.int q.1) [x0,J (.a3<|av t,.aa),J (.a3<|av e,.aA),cy] n=J (.ba .b0 Y1,S,n))
 |[],e,cy,_,_,_,_,_=>{cy,λ_=>by simp[eb],λh=>MI Z5 h}
 |q::l,e,cy,az,ndl,_,nde,hz=>by
  let dJ:bp=1000000:=rfl;rw[dv]at hz;rw[cj]at ndl;let(aY,ck):=lP.mp ndl;let bc:=az q<|cc ..;let Sw:=Bs nde q.1<|-q.2;let d0:=Fo e q.1<|-q.2;let(tQ,aeN,aeO):=Sv Lh pt x0 n l (fw e q.1<|-q.2) (J (.int q.1,.aa)) (λq bc=>az q<|cZ _ bc) ck (.inr Sw) Sw Z6;let aI:∀p∈l,b7 (fw e q.1<|-q.2) p.1=b7 e p.1:=λp aC=>by rw[Su nde,Y3 λz=>aY<|by rw[<-z];show hZ (f:=(·.1)) aC];show Int.add_zero _
  let g1:cz n [.a3<|av t,.int q.1]=J (.int q.2,.aa):=by rw[Lg Lh<|hZ (f:=(·.1)) bc,iN Lh bc]
  let d6:kH n [.a3<|av e,.int q.1,.int 0]=J (.int<|b7 e q.1,.aa):=by let h:=yi e q.1;let bH:kH n [.a3<|av e,.int q.1,.int 0]=J ((i0 (av e)<|.inl q.1).getD (.int 0),.aa):=rfl;rw[bH,h]
  let st:me (.a3<|av e) (.int q.1) (.int<|b7 e q.1-q.2)=J (.a3<|av<|fw e q.1<|-q.2):=by rw[E3];show(if(av e).H<bp then J (T.a3<|jF (av e) (.inl q.1)<|.int<|b7 e q.1-q.2) else C)=_;rw[Y2 (by delta av;rw[bZ];lia),qa7,Fn]
  let g2:cz n [.a3<|av<|fw e q.1<|-q.2,.int q.1]=J (.int<|b7 e q.1-q.2,.aa):=by show((i0 (av<|fw e q.1<|-q.2)<|.inl q.1).map λt=>(t,a9.aa))=_;rw[al1 nde,qa7];rfl
  by_cases c:b7 e q.1-q.2<0
  .show{tQ,λh=>?_,λ_=>?_}
   .let:=h q<|cc ..;lia
   .let one:r7 [x0,J (.a3<|av t,.aa),J (.a3<|av e,.aA),J (.int q.1,.aa)] n=J (.ba .b0 Y1,[x0,J (.a3<|av t,.aa),J (.a3<|av<|fw e q.1<|-q.2,.aA),J (.int q.1,.aa)],n):=by delta r7;generalize av (fw e q.1<|-q.2)=ke' at*;generalize av e=ig at*;generalize av t=kt at*;simp![j0,d6,g1,fW,gb,st,g2,lE,c]
    show{[x0,J (.a3<|av t,.aa),J (.a3<|av<|fw e q.1<|-q.2,.aA),J (.int q.1,.aa)],?_};rw[cj];delta eb;erw[a8.bD.b4,il,ip,eC];rw[one];rfl
  .let one:r7 [x0,J (.a3<|av t,.aa),J (.a3<|av e,.aA),J (.int q.1,.aa)] n=J (.bC,[x0,J (.a3<|av t,.aa),J (.a3<|av<|fw e q.1<|-q.2,.aA),J (.int q.1,.aa)],n):=by delta r7;generalize av (fw e q.1<|-q.2)=ke' at*;generalize av e=ig at*;generalize av t=kt at*;simp![j0,d6,g1,fW,gb,st,g2,lE,c]
   let turn:∀x,eb (b4 3) r7 ((q::l).map λq=>T.int q.1) [x0,J (.a3<|av t,.aa),J (.a3<|av e,.aA),x] n=eb (b4 3) r7 (l.map λq=>T.int q.1) [x0,J (.a3<|av t,.aa),J (.a3<|av<|fw e q.1<|-q.2,.aA),J (.int q.1,.aa)] n:=λx=>by rw[cj];show(Oi _ _)=_;erw[a8.bD.b4,il,ip,eC];rw[one];rfl
   show{tQ,λh=>?_,λh=>?_}
   .rw[turn,aeN λp aC=>by rw[aI p aC];show h p<|cZ _ aC];rfl
   .rw[turn];show aeO λz=>h λp aC=>?_;rcases cF.mp aC with rfl|aC
    .lia
    .rw[<-aI p aC];show z p aC
theorem fold_add:∀(l e:O Z3),(e.map (·.1)).Nodup->(l.map (·.1)).Nodup->(∀q∈l,q.1∈e.map (·.1))->l.foldl (λe q=>fw e q.1<|-q.2) e=e.map λp=>(p.1,p.2-b7 l p.1)
 |[],e,_,_,_=>by show((ji (g:=id) λp _=>?_).trans (ug _)).symm;show(p.1,p.2-0)=p;simp
 |q::l,e,bG,ndl,h=>by
  rw[cj]at ndl;let(aY,ck):=lP.mp ndl;let aW:=h q<|cc ..;rw[jj,fold_add l _ (Bs bG _ _) ck (λp aC=>by rw[Lf aW];show h p<|cZ _ aC),Sr bG aW,bv];show ji λp _=>?_;show(p.1,p.2+(if p.1=q.1 then-q.2 else 0)-b7 l p.1)=(p.1,p.2-b7 (q::l) p.1)
  rw[cnt_cons];by_cases e:p.1=q.1
  .rw[Y2 e,Y2 e.symm,e,oB aY];congr 1;show Int.add_zero _
  .rw[Y3 e,Y3 λz=>e z.symm];congr 1;lia
def rest(B:e8 d)(ll:e8 t)(az:d.H+t.H<=100000)(b:MF)(n:Y) :
  (Fits d (b7 t)->oA [(.a3<|av d,b),(.a3<|av t,Y0)] n=J (.a3<|av<|subs d<|b7 t,Y0,n)) /\
  (¬Fits d (b7 t)->oA [(.a3<|av d,b),(.a3<|av t,Y0)] n=J (.b0,Y1,n)):=by
 let dJ:bp=1000000:=rfl;let fit:(∀q∈t,q.2<=b7 d q.1)↔Fits d (b7 t):=by
  constructor
  .intro h k;by_cases z:k∈t.map (·.1)
   .let(q,bc,rfl):=c9.mp z;rw[iN ll.bG bc];show h q bc
   .rw[oB z];show B.nonneg k
  .intro h q bc;rw[<-iN ll.bG bc];show h q.1
 let m0:(if b then a9.aa else a9.b9)=.aa\/(if b then a9.aa else a9.b9)=.b9:=by ext b<;>simp
 let(cy,ae,ai):=Sv ll.bG ll.pos (J (.a3<|av d,if b then a9.aa else a9.b9)) n t d C (λ_ h=>h) ll.bG (.inl B) B.bG az;let it:e2 (aq 1) [J (.a3<|av d,if b then a9.aa else a9.b9),J (.a3<|av t,.aa),J ZG,C] n=J (t.map λq=>T.int q.1,n):=by rw[<-R8];rfl
 let th:tx n [.a3<|av d]=J ZG:=rfl;constructor
 .intro f;let e:=ae<|fit.mpr f;rw[fold_add t d B.bG ll.bG λq bc=>B.mem<|ce (ll.pos q bc)<|fit.mpr f q bc]at e;let ix:eA 1 vZ [J (.a3<|av d,if b then a9.aa else a9.b9),J (.a3<|av t,.aa),J ZG,C] n=J (.bC,[J (.a3<|av d,if b then a9.aa else a9.b9),J (.a3<|av t,.aa),J (.a3<|av (d.map λp=>(p.1,p.2-b7 t p.1)),.aA),cy],n):=by rw[K5 (t:=.a3<|av t) P];delta vZ eo;rw[it];show e
  let wc:((d.map λp=>(p.1,p.2-b7 t p.1)).map (·.1)).Nodup:=by rw[bv];show B.bG
  let len:(d.map λp=>(p.1,p.2-b7 t p.1)).H=d.H:=bZ ..;let c2:subs d (b7 t)=(d.map λp=>(p.1,p.2-b7 t p.1)).filter λp=>decide (0<p.2):=rfl;let Sx:=(B.subs<|b7 t).bG;rw[c2]at Sx |-;generalize (d.map λp=>(p.1,p.2-b7 t p.1))=bH at*;let iW:KQ [J (.a3<|av d,if b then a9.aa else a9.b9),J (.a3<|av t,.aa),J (.a3<|av bH,.aa),cy] n=J (.aj<|bT (bH.filter λp=>decide (0<p.2)),.aA,n):=by
   delta bT;show EZ bH (λq=>T.int q.1) (λp=>decide (0<p.2)) (λp=>.aF [.int p.1,.int p.2]) ?_ Z6 λp aC=>?_
   .rw[<-R8];rfl
   .let g:=Lg wc (hZ (f:=(·.1)) aC) n;rw[iN wc aC]at g;generalize av bH=ig at*;constructor
    .simp![cY,g,lF,gb]
    .intro _;let b6:2<=bp:=by decide
     simp![cY,g,b6]
  let cP:=Mr Sx (by let:=GY (λp:D×D=>decide (0<p.2)) bH;lia) n;let fr:∀dd:br,fq 2 dd [J (.a3<|av d,if b then a9.aa else a9.b9),J (.a3<|av t,.aa),J (.a3<|av bH,.aA),cy] n=dd [J (.a3<|av d,if b then a9.aa else a9.b9),J (.a3<|av t,.aa),J (.a3<|av bH,.aa),cy] n:=λ_=>P;delta oA KR;generalize bT (bH.filter λp=>decide (0<p.2))=pr at*;generalize av (bH.filter λp=>decide (0<p.2))=ks at*;generalize av bH=ig at*;generalize av d=gv at*;generalize av t=kt at*;generalize eA 1 vZ=LL at*;generalize KQ=CC at*;generalize fq 2=FF at *
  ext b
  .erw[iB,MU]at*;simp![th,ix,fr,iW,cP]
  .erw[MR]at*;simp![th,ix,fr,iW,cP]
 .intro f;let(S,e):=ai λz=>f<|fit.mp z;let ix:eA 1 vZ [J (.a3<|av d,if b then a9.aa else a9.b9),J (.a3<|av t,.aa),J ZG,C] n=J (.ba .b0 Y1,S,n):=by rw[K5 (t:=.a3<|av t) P];delta vZ eo;rw[it];show e
  delta oA KR;generalize av d=gv at*;generalize av t=kt at*;generalize eA 1 vZ=LL at *
  ext b
  .erw[iB,MU]at*;simp![th,ix]
  .erw[MR]at*;simp![th,ix]
structure eB (tw:O Z3):Prop where
 ne:tw≠[]
 up:(tw.map (·.1)).Pairwise (·<·)
 hb:∀q∈tw,0<=q.1/\q.1<=120/\1<=q.2/\q.2<=4096
def eB.eD(h:eB tw):e8 tw:={h.up.imp λ{a b} e=>(w4 e),λq bc=>(h.hb q bc).2.2.1}
def eB.len(h:eB tw):tw.H<=121:=by
 let:=anB (a:=0) (b:=121) (p:=tw.map (·.1)) (λx au=>by
  let(q,bc,rfl):=c9.mp au;let:=h.hb q bc
  show M7 this.1<|nW this.2.1 Z1) h.eD.bG
 rw[bZ]at this;show this
def aeP{k v:D}(ae:0<=k)(ai:k<=120)(aS:1<=v)(dp:v<=4096)(n:Y):Bg [(.aF [.int k,.int v],Y0)] n=J (.aU Y0,Y1,n):=by let aB:=yt k 0 120 n ae ai;let ax:=yt v 1 4096 n aS dp;let bq:hv n [.int 2,.int 2]=J (.aU Y1,.aa):=rfl;delta Bg Ri;simp![iP,yo,qY,bq,yq,fV,aB,ax]
theorem Sy:∀{l:O D},l.Pairwise (·<·)->kI l=l
 |[],_=>rfl
 |x::l,h=>by
  let(ae,ai):=ik.mp h;let aQ:=Sy ai;let e:kI (x::l)=if x∈kI l then kI l else x::kI l:=rfl
  rw[e,aQ,Y3 λz=>by let:=ae x z;omega]
def nF:MB Z0->T
 |none=>.b0
 |some l=>ar l
def aeQ(ae:1<=aG.H)(n:Y):cz n [ar aG,.int 0]=J (.int<|aG.headD 0,.aa)/\xY n [ar aG,.int<|aG.headD 0]=J (.int (g4 aG:D),.aa):=by
 constructor
 .cases aG with
  |nil=>simp at ae
  |cons x r=>delta ar;rw[yq,akh T.int _ 0 Z1 Z5];rfl
 .delta ar;rw[ail,r5,nU,<-qaj];rfl
def anE(d:O Z3):ua (av d)=J (d.map (·.1)):=by
 induction d with
 |nil=>rfl
 |cons p d aQ =>
  show((ua<|av d).map (p.1::·))=_;rw[aQ];rfl
def Sz(h:d≠[])(n:Y):p1 n [.a3<|av d]=J (.int<|Wa d,.aa):=by show((ua<|av d).bind λns=>(Fa ns).map λi=>(T.int i,a9.aa))=_;rw[anE,eC,(sa h).1];rfl
def anF(x:D)(q:Y):(ML q [T.int x]).flatten=(ML q x).map T.int:=by
 induction q with
 |zero=>rfl
 |succ q aQ=>rw[lO,rd,aQ,lO];rfl
theorem SA(x:D)(b:O D)(k:D):∀q:Y,(gH (ML q x) b).countP (λy=>y==k)=q*b.countP λy=>y==k-x
 |0=>by simp[gH]
 |q+1=>by let aQ:=SA x b k q;delta gH at aQ |-;rw[lO,iA,rb,aQ,Cc,lR,rh];congr 1;show G3 λy _=>?_;show(x+y==k)=Y0↔(y==k-x)=Y0;rw[M5,M5];omega
def aeR{F:Y}(OG:pU F aG)(fD:F<=8)(B:e8 d)(hd:d≠[])(el:d.H<=121)(bu:∀q∈d,q.2<=4096)(A2:(c7.H:D)+fl d<=600000)(M:jh aG d r)
  (x0 cv dM dg cO:MB ZE) (n:Y) :
  (∃q bU,1<=q/\Fits d (dO aG ZC q)/\r=bU.map (ML q ZC++·)/\jh aG (subs d<|dO aG ZC q) bU/\(q:D)<=fl d/\fl (subs d<|dO aG ZC q)+q<=fl d /\
   ∃jy js lp h3,mT [x0,J (ar aG,.aa),J ZG,J (.aj<|c7.map .int,.aA),cv,dM,dg,cO] n=J (.bC,[x0,J (ar aG,.aa),J (.a3<|av<|subs d<|dO aG ZC q,.aA),J (.aj<|(c7++ML q ZC).map .int,.aA),jy,js,lp,h3],n)) \/
  (r=C/\∃S,mT [x0,J (ar aG,.aa),J ZG,J (.aj<|c7.map .int,.aA),cv,dM,dg,cO] n=J (.ba .b0 Y1,S,n)):=by
 let dJ:bp=1000000:=rfl;let ae:=OG.one;let hm:=OG.most;let fp:=Ft ae;let f8:g4 aG<=8:=bw qat<|bw hm fD;let(d6,g1):=aeQ ae n;let aB:=Sz hd n;let(_,lm,_):=sa hd;let ax:=Lg B.bG lm n;let xH:=B.yW lm;let NO:b7 d (Wa d)<=4096:=by let(p,aC,e):=c9.mp lm;rw[<-e,iN B.bG aC];show bu p aC
 obtain⟨q,bc⟩:∃q:Y,b7 d (Wa d) / (g4 aG:D)=(q:D):={(b7 d (Wa d) / (g4 aG:D)).M,by let:0<=b7 d (Wa d) / (g4 aG:D):=Int.ediv_nonneg (kx xH)<|iC _;omega}
 let ow:(q:D)*(g4 aG:D)<=b7 d (Wa d):=by rw[<-bc];show Int.ediv_mul_le _ ZW
 let vK:(q:D)<=4096:=by let:(q:D)*1<=(q:D)*(g4 aG:D):=qa5 ZW<|iC _;omega
 let bq:Gg n [.int<|b7 d<|Wa d,.int (g4 aG:D)]=J (.int (q:D),.aa):=by show(if(decide (0<(g4 aG:D))&&decide ((g4 aG:D).natAbs<1073741824))=Y0 then J (T.int<|b7 d (Wa d) / (g4 aG:D),a9.aa) else C)=_;rw[bc,Y2<|by simp;omega]
 let GG:Wa d-aG.headD 0=c4 aG d:=rfl;by_cases cb:c4 aG d<0
 .show .inr {Sl hd M<|.inl cb,[x0,J (ar aG,.aa),J ZG,J (.aj<|c7.map .int,.aA),J (.int<|Wa d,.aa),J (.int ZC,.aa),J (.int (q:D),.aa),cO],?_};rw[<-GG]at cb |-;delta mT;generalize av d=gv at*;generalize Wa d=lo at*;generalize aG.headD 0=eG at*;generalize ar aG=n8 at*;generalize b7 d lo=xG at*;generalize (g4 aG:D)=xI at*;simp![aB,d6,fW,gb,ax,g1,bq,lE,cb]
 .by_cases d9:q=0
  .subst d9;show .inr {Sl hd M<|.inr ?_,[x0,J (ar aG,.aa),J ZG,J (.aj<|c7.map .int,.aA),J (.int<|Wa d,.aa),J (.int ZC,.aa),J (.int ((0:Y):D),.aa),cO],?_}
   .let:=Int.lt_ediv_add_one_mul_self (b7 d<|Wa d) (b:=(g4 aG:D)) ZW;rw[bc]at this;simpa using this
   .rw[<-GG]at cb |-;delta mT;generalize av d=gv at*;generalize Wa d=lo at*;generalize aG.headD 0=eG at*;generalize ar aG=n8 at*;generalize b7 d lo=xG at*;generalize (g4 aG:D)=xI at*;simp![aB,d6,fW,gb,ax,g1,bq,lE,cb,pR]
  .let aV:1<=q:=(kr d9)
   let SD:((q:D)==0)=Y1:=by simp;show d9
   let dl:([ML q ZC,aG].map List.H)=[q,aG.H]:=by simp
   let Xh:gz [q,aG.H]<=100000:=by show q*(aG.H*1)<=100000;let:=ku (show q<=4096 by omega) (show aG.H*1<=8 from(y9 (bw hm fD)<|fY _));omega
   let(t,ll,eU):=So (ds:=[ML q ZC,aG]) (λx au=>by
    erw[cF,hl,MW]at au;rcases au with rfl|rfl
    .rw[mX];show aV
    .show ae) (by rw[dl];show Xh) n
   let n6:∀k,b7 t k=dO aG ZC q k:=λk=>by rw[ll.b7 k,qZ,Fp];show(((gH (ML q ZC) aG).countP λx=>x==k:Y):D)=_;rw[SA];delta dO;rw[sI]
   let aeS:b7 t=dO aG ZC q:=funext n6;let tb:e8 t:={(ll.bG),ll.pos}
   let jb:t.H<=32768:=by show bw ll.Me ?_;rw[qZ,Fp];show(gH (ML q ZC) aG).H<=_;rw[K6,mX];show bw (ku (show q<=4096 by omega) (show aG.H<=8 from(bw hm fD))) Z1
   let(SE,SF):=rest B tb ZW Y1 n;rw[aeS]at SE SF;let hmul:fF n [.aF [.int ZC],.int (q:D)]=J (ar<|ML q ZC,.aa):=by show(if[T.int ZC].H<=1000 /\ -1000<=(q:D)/\(q:D)<=10000/\[T.int ZC].H*(q:D).M<=bp then J (T.aF (ML (q:D).M [T.int ZC]).flatten,a9.aa) else C)=_;rw[Y2 {by simp,(iC _),(ce vK Z1),by rw[yZ,nX];omega},nX,anF];rfl
   let b6:2<=bp:=by decide
   let bO:1<=bp:=by decide
   let eU:pS [(.aF [ar<|ML q ZC,ar aG],Y0)] n=J (.a3<|av t,Y0,n):=eU;by_cases u9:Fits d<|dO aG ZC q
   .let(bU,hH,ph):=La ae B hd (w5.mp cb) M q ow u9;let aeT:fl (subs d<|dO aG ZC q)+q<=fl d:=by let e:=Lc (q0 aG ZC q)<|Sm B u9;let(p,aC,r4):=c9.mp lm;let:=Br (l:=d.map λej=>dO aG ZC q ej.1) (λx au=>by let(ej,_,rfl):=c9.mp au;show q0 ..)<|hZ (f:=λej:D×D=>dO aG ZC q ej.1) aC;rw[r4,Fu]at this;let:(q:D)*1<=(q:D)*(g4 aG:D):=qa5 ZW<|iC _;omega
    let aR:=Ld<|B.subs<|dO aG ZC q;show .inl {q,bU,aV,u9,hH,ph,by omega,aeT,J (.int<|Wa d,.aa),J (.int ZC,.aa),J (.int (q:D),.aa),J (ar<|ML q ZC,.aa),?_};let rs:=SE u9;let ex:hj (.aj<|c7.map .int) (ar<|ML q ZC)=J (.aj<|(c7++ML q ZC).map .int):=by delta ar;show(if(c7.map T.int).H+((ML q ZC).map T.int).H<=bp then J (T.aj<|c7.map T.int++(ML q ZC).map T.int) else C)=_;rw[Y2 (by rw[bZ,bZ,mX];omega),jM]
    let pj:hc (ar<|ML q ZC)=Y1:=rfl;rw[<-GG]at cb hmul eU ex rs pj |-;delta mT;generalize av (subs d<|dO aG (Wa d-aG.headD 0) q)=ks at*;generalize (c7++ML q (Wa d-aG.headD 0)).map T.int=qv at*;generalize ar (ML q<|Wa d-aG.headD 0)=aE at*;generalize av d=gv at*;generalize av t=kt at*;generalize c7.map T.int=fi' at*;generalize Wa d=lo at*;generalize aG.headD 0=eG at*;generalize ar aG=n8 at*;generalize b7 d lo=xG at*;generalize (g4 aG:D)=xI at*;generalize fF=Dj at*;simp![kO,aB,d6,fW,gb,ax,g1,bq,lE,cb,pR,SD,hmul,bO,b6,eU,rs,BO,Ak,hN,ex,pj]
   .let rs:=SF u9;show .inr {aeM ae B hd (w5.mp cb) M ow u9,[x0,J (ar aG,.aa),J (.b0,.aa),J (.aj<|c7.map .int,.aA),J (.int<|Wa d,.aa),J (.int ZC,.aa),J (.int (q:D),.aa),J (ar<|ML q ZC,.aa)],?_};let pj:hc (ar<|ML q ZC)=Y1:=rfl;rw[<-GG]at cb hmul eU pj |-;delta mT;generalize ar (ML q<|Wa d-aG.headD 0)=aE at*;generalize av d=gv at*;generalize av t=kt at*;generalize c7.map T.int=fi' at*;generalize Wa d=lo at*;generalize aG.headD 0=eG at*;generalize ar aG=n8 at*;generalize b7 d lo=xG at*;generalize (g4 aG:D)=xI at*;generalize fF=Dj at*;simp![kO,aB,d6,fW,gb,ax,g1,bq,lE,cb,pR,SD,hmul,bO,b6,eU,rs,BO,Ak,pj]
def anG(d:O Z3)(g:D->D):(subs d g).H<=d.H:=by delta subs;let:=GY (λp:D×D=>decide (0<p.2)) (d.map λp=>(p.1,p.2-g p.1));rw[bZ]at this;show this
def aeU{g:D->D}(bL:∀k,0<=g k){c:D}(h:∀q∈d,q.2<=c):∀q∈subs d g,q.2<=c:=λq bc=>by let(ae,_):=mY.mp bc;let(p,aC,rfl):=c9.mp ae;let:=h p aC;let:=bL p.1;show p.2-g p.1<=c;omega
def aeV{F:Y}(OG:pU F aG)(fD:F<=8)(x0:MB ZE)(n:Y):∀(N W:Y) (d:O Z3) (c7:O D) (r:MB Z0) (cv dM dg cO:MB ZE),fl d<=N->N<W->e8 d->d.H<=121->(∀q∈d,q.2<=4096)->(c7.H:D)+fl d<=600000->jh aG d r ->
  (∀l,r=J l->∃S,qK (cG<|aq 2) mT W [x0,J (ar aG,.aa),J ZG,J (.aj<|c7.map .int,.aA),cv,dM,dg,cO] n=J (.bC,S,n)/\S[3]?=J (J (.aj<|(c7++l).map .int,.aA))) /\
  (r=C->∃S,qK (cG<|aq 2) mT W [x0,J (ar aG,.aa),J ZG,J (.aj<|c7.map .int,.aA),cv,dM,dg,cO] n=J (.ba .b0 Y1,S,n)):=by
 intro N
 induction N with
 |zero =>
  intro W d c7 r cv dM dg cO ct xA B az bu A2 M;obtain⟨V,rfl⟩:∃V,W=V+1:={W-1,by omega}
  let hd:d=[]:=by
   cases hd:d with
   |nil=>rfl
   |cons p jq =>
    exfalso;let:=Br (l:=d.map (·.2)) (λx au=>by let(q,bc,rfl):=c9.mp au;let:=B.pos q bc;show kx this)<|hZ (f:=(·.2)) (show p∈d by rw[hd];show cc ..);let:=B.pos p (by rw[hd];show cc ..);delta fl at ct;omega
  subst hd;cases M with
  |nil=>show⟨λl e=>{_,P,by ext e;simp},λe=>by ext e⟩
  |bad h _=>show MI P h
  |good h _ _=>show MI P h
 |succ N aQ =>
  intro W d c7 r cv dM dg cO ct xA B az bu A2 M;obtain⟨V,rfl⟩:∃V,W=V+1:={W-1,by omega}
  by_cases hd:d=[]
  .subst hd;cases M with
   |nil=>show⟨λl e=>{_,P,by ext e;simp},λe=>by ext e⟩
   |bad h _=>show MI P h
   |good h _ _=>show MI P h
  .let lX:cG (aq 2) [x0,J (ar aG,.aa),J ZG,J (.aj<|c7.map .int,.aA),cv,dM,dg,cO] n=J (Y0,n):=by
    let:(av d).isEmpty=Y1:=by
     cases d with
     |nil=>show MI P hd
     |cons p d=>rfl
    generalize av d=gv at*;simp![this]
   let SG:∀x,mT [x0,J (ar aG,.aa),J ZG,J (.aj<|c7.map .int,.aA),cv,dM,dg,cO] n=x->qK (cG<|aq 2) mT (V+1) [x0,J (ar aG,.aa),J ZG,J (.aj<|c7.map .int,.aA),cv,dM,dg,cO] n=x.bind λr=>match r.1 with
     |.bC=>qK (cG<|aq 2) mT V r.2.1 r.2.2
     |.eZ=>qK (cG<|aq 2) mT V r.2.1 r.2.2
     |.eD=>J (.bC,r.2.1,r.2.2)
     |.ba t m=>J (.ba t m,r.2.1,r.2.2):=λx au=>by
    show(cG (aq 2) _ n).bind _=_;rw[lX];show(mT _ n).bind _=_;rw[au]
    try rfl
   rcases aeR OG fD B hd az bu A2 M x0 cv dM dg cO n with⟨q,bU,aV,u9,hH,ph,aor,jb,jy,js,lp,h3,e⟩|⟨a4,S,e⟩
   .let(zQ,xt):=aQ V _ (c7++ML q ZC) bU jy js lp h3 ZW (qh xA) (B.subs<|dO aG ZC q) (bw (anG ..) az) (aeU (q0 aG ZC q) bu) (by rw[gm,mX];omega) ph;rw[SG _ e];show⟨λl j4=>?_,λa4=>?_⟩
    .cases bU with
     |none=>rw[hH]at j4;ext j4
     |some lg =>
      rw[hH]at j4
      ext j4
      let(S,a,b):=zQ lg P;show{S,a,by rw[b,hk]}
    .cases bU with
     |none=>show xt P
     |some lg=>rw[hH]at a4;ext a4
   .rw[SG _ e];show⟨λl j4=>(by rw[a4]at j4;ext j4),λ_=>⟨S,rfl⟩⟩
def cK(ds:O Z0)(k:D):D:=(((fX ds).countP λx=>x==k:Y):D)
def tR(ds:O Z0)(k:D):0<=cK ds k:=iC _
def sv(d:O Z3)(ds:O Z0):MF:=(fX ds).all λk=>decide (cK ds k<=b7 d k)
def yw(B:e8 d)(ds:O Z0):sv d ds=Y0↔Fits d (cK ds):=by
 delta sv;rw[iq];constructor
 .intro h k;by_cases z:k∈fX ds
  .simpa using h k z
  .let:cK ds k=0:=by delta cK;rw[qaz.mpr λx au=>by intro e;show z<|by rw[<- (by simpa using e:x=k)];show au];rfl
   rw[this];show B.nonneg k
 .intro h k _;simpa using h k
def gI(d:O Z3)(ds:O Z0):O Z3:=subs d<|cK ds
noncomputable def wf(ds:O Z0)(p:Y)(x:D):O Z0:=ds.set p<|ds.getD p []++[x]
noncomputable def tS(sizes:O D)(ds:O Z0):O Y:=(M0 ds.H).filter λp=>decide (((ds.getD p []).H:D)<sizes.getD p 0)
def h6(d:O Z3)(sizes:O D)(ds:O Z0):O ZI :=
 if sv d ds&&!(gI d ds).isEmpty then(tS sizes ds).map λp=>wf ds p (Wa<|gI d ds) else[]
def ha.eD(B:ha d s):e8 d:={(B.bG),B.pos}
def Li(B:e8 d)(hd:d.H<=10000)(ae:∀x∈ds,1<=x.H)(hz:gz (ds.map List.H)<=10000)(aK:(fX ds).H<=10000)(b:MF)(n:Y) :
  ∃t,pS [(a6 ds,Y0)] n=J (.a3<|av t,Y0,n) /\
   (sv d ds=Y0->oA [(.a3<|av d,b),(.a3<|av t,Y0)] n=J (.a3<|av<|gI d ds,Y0,n))/\(sv d ds=Y1->oA [(.a3<|av d,b),(.a3<|av t,Y0)] n=J (.b0,Y1,n)):=by
 let(t,ll,e):=So ae (bw hz Z1) n;let l1:b7 t=cK ds:=funext λk=>ll.b7 k;let jb:=ll.Me;let(bx,cn):=rest B ll.eD ZW b n;rw[l1]at bx cn;show{t,e,λh=>bx<|(yw B ds).mp h,λh=>cn λz=>?_};rw[(yw B ds).mpr z]at h
 ext h
def VP(ds:O Z0){p:Y}(h:p<ds.H)(n:Y):cz n [.aF ZY,.int (p:D)]=J (ar<|ds.getD p [],.aa):=by show((fV ZY (p:D)).map λt=>(t,a9.aa))=_;delta fV;rw[Y2<|iC _,Y2 (by rw[bZ];omega),nX,hO,gd h,hY,gd h];rfl
def getInt(l:O D){p:Y}(h:p<l.H)(n:Y):cz n [ar l,.int (p:D)]=J (.int<|l.getD p 0,.aa):=by show((fV (l.map T.int) (p:D)).map λt=>(t,a9.aa))=_;delta fV;rw[Y2<|iC _,Y2 (by rw[bZ];omega),nX,hO,gd h,hY,gd h];rfl
def Lj(a b:O T)(h:a.H+b.H<=bp)(n:Y):dE n [.aF a,.aF b]=J (.aF<|a++b,.aa):=by show(if a.H+b.H<=bp then J (T.aF<|a++b,a9.aa) else C)=_;rw[Y2 h]
def aeW{α:Type}(l:O α)(x:α){p:Y}(h:p<l.H):l.take p++[x]++l.drop (p+1)=l.set p x:=by rw[qai,Y2 h,hk];rfl
def aeX{p:Y}(h:p<ds.H)(az:ds.H<=10)(hz:(ds.getD p []).H<=100)(x:D)(n:Y):E8 [(a6 ds,Y0),(.int (p:D),Y0),(.int x,Y0)] n=J (a6<|wf ds p x,Y1,n):=by
 let dJ:bp=1000000:=rfl;let bO:1<=bp:=by decide
 let s1:p2 ZY C (J (p:D))=(ds.take p).map ar:=(aeE _ p).trans (List.map_take).symm;let s2:p2 ZY (J<|(p:D)+1) C=(ds.drop<|p+1).map ar:=(aeF ZY<|p+1).trans (List.map_drop).symm;let g:=VP ds h n;let a1:dE n [ar<|ds.getD p [],.aF [.int x]]=J (ar<|ds.getD p []++[x],.aa):=by delta ar;rw[Lj _ _ (by rw[bZ];show _+1<=_;omega),jM];rfl
 let a2:dE n [.aF<|(ds.take p).map ar,.aF [ar<|ds.getD p []++[x]]]=J (.aF<|(ds.take p++[ds.getD p []++[x]]).map ar,.aa):=by rw[Lj _ _ (by rw[bZ,kZ];show _+1<=_;omega),jM];rfl
 let iX:dE n [.aF<|(ds.take p++[ds.getD p []++[x]]).map ar,.aF<|(ds.drop<|p+1).map ar]=J (a6<|wf ds p x,.aa):=by rw[Lj _ _ (by rw[bZ,bZ,gm,kZ,qe];show _+1+_<=_;omega),<-jM,aeW _ _ h];rfl
 delta a6 at iX |-;generalize T.aF ((wf ds p x).map ar)=out at*;generalize (ds.take p++[ds.getD p []++[x]]).map ar=gx at*;generalize ar (ds.getD p []++[x])=ek at*;generalize ar (ds.getD p [])=o0 at*;generalize (ds.take p).map ar=bz at*;generalize (ds.drop<|p+1).map ar=o9 at*;generalize ds.map ar=dd at*;delta E8 RF wy vl vm;simp![s1,s2,g,a1,a2,iX,bO,mb]
structure Dk (ds:O Z0):Prop where
 many:ds.H<=3
 one:∀x∈ds,1<=x.H
 most:∀x∈ds,x.H<=8
def Dk.GF(h:Dk ds):gz (ds.map List.H)<=512/\(fX ds).H<=512:=by let:=RZ h.most;let:8^ds.H<=8^3:=uj Z1 h.many;rw[anA,<-aeD];omega
def grown(B:e8 d)(hd:d.H<=1000)(cp:Dk ds)(hz:sizes.H=ds.H)(b:MF)(n:Y) :
  v3 [(.a3<|av d,b),(ar sizes,Y0),(a6 ds,Y0)] n=J (.aj<|(h6 d sizes ds).map a6,Y0,n):=by
 let dJ:bp=1000000:=rfl;let iY:0<=bp:=by decide
 let(bx,cn):=cp.GF;let(t,aB,ax,bq):=Li B (bw hd Z1) cp.one (bw bx Z1) (bw cn Z1) Y1 n;let(t',pH,qV,Fw):=Li B (bw hd Z1) cp.one (bw bx Z1) (bw cn Z1) Y0 n;rw[aB]at pH;let tt:av t=av t':=by injection pH with z;injection z with z;injection z
 rw[<-tt]at qV Fw;let many:=cp.many;delta h6;cases f:sv d ds with
 |false =>
  let bq:=bq f;let Fw:=Fw f;rw[Y3 Z5];delta v3 E9;generalize av t=kt at*;generalize av d=gv at*;generalize a6 ds=dd at*;generalize ar sizes=bQ at *
  ext b<;>simp![aB,bq,Fw,dA,iY]
 |true =>
  let ax:=ax f;let qV:=qV f;by_cases em:gI d ds=[]
  .rw[em]at ax qV |-;rw[Y3 Z5];let ig:av []=([]:O<|hR×T):=rfl;rw[ig]at ax qV;delta v3 E9;generalize av t=kt at*;generalize av d=gv at*;generalize a6 ds=dd at*;generalize ar sizes=bQ at *
   ext b<;>simp![aB,ax,qV,dA,iY]
  .let Dl:=Sz em n;let ne:(gI d ds).isEmpty=Y1:=by cases z:gI d ds with|nil=>show MI z em|cons _ _=>rfl
   rw[ne,Y2 Z5];let lX:jZ (.a3<|av<|gI d ds)=J Y0:=by
    cases z:gI d ds with
    |nil=>show MI z em
    |cons _ _=>rfl
   generalize Wa (gI d ds)=x at*;generalize av (gI d ds)=pk at*;let fk:∀m0:a9,KS [J (.a3<|av d,m0),J (ar sizes,.aa),J (a6 ds,.aa),J (.a3 pk,.aA),J (.int x,.aa)] n=J (.aj<|((tS sizes ds).map λp=>wf ds p x).map a6,.aA,n):=λm0=>by
    rw[bv];delta tS;show EZ (M0 ds.H) (λp:Y=>T.int p) (λp=>decide (((ds.getD p []).H:D)<sizes.getD p 0)) (a6∘λp=>wf ds p x) ?_ (by rw[ue];omega) λp aC=>?_
    .let ln:fG n [a6 ds]=J (.int (ds.H:D),.aa):=by delta a6;rw[qY,bZ]
     let:=Ky (a:=af (aD fG ZN) aw) (S:=[J (.a3<|av d,m0),J (ar sizes,.aa),J (a6 ds,.aa),J (.a3 pk,.aA),J (.int x,.aa)]) (n:=n) (n':=n) (j:=(ds.H:D)) (by
      generalize a6 ds=dd at *
      ext dd<;>first|simp![ln]|ext ln) (iC _) ZW
     rw[this,ans]
    .let aC:p<ds.H:=mZ.mp aC;let g1:=VP ds aC n;let g2:=getInt sizes (p:=p) (dX aC<|dy hz.symm) n;let d0:fG n [ar<|ds.getD p []]=J (.int ((ds.getD p []).H:D),.aa):=by delta ar;rw[qY,bZ]
     let au:ds.getD p []∈ds:=by rw[hY,gd aC];show nP aC
     let w:=aeX aC (bw many Z1) (by let:=cp.most _ au;show bw this Z1) x n;let aeY:T.aF ZY=a6 ds:=rfl;rw[aeY]at g1;constructor
     .generalize (ds.getD p []).H=qC at*;generalize ar (ds.getD p [])=o9 at*;generalize a6 ds=dd at*;generalize ar sizes=bQ at*;generalize av d=gv at*;simp![cY,g1,g2,d0,lE,gb]
     .intro _;show _=J (a6<|wf ds p x,a9.aa,n);generalize a6 (wf ds p x)=ww at*;generalize a6 ds=dd at*;generalize ar sizes=bQ at*;generalize av d=gv at*;simp![cY,w]
   delta v3 E9;generalize (((tS sizes ds).map λp=>wf ds p x).map a6)=out at*;generalize av t=kt at*;generalize av d=gv at*;generalize a6 ds=dd at*;generalize ar sizes=bQ at*;generalize KS=CC at*;let NF:pk.isEmpty=Y1:=by let lX:J (!pk.isEmpty)=J Y0:=lX;simpa using lX
   ext b<;>simp![aB,ax,qV,NF,Dl,fk]
def aeZ(l:O D):yR (ar l)=J l:=r5 l
theorem SH:∀ls:O Z0,vn (ls.map ar)=J ls
 |[]=>rfl
 |l::ls=>by rw[cj,vn,aeZ,eC,SH ls];rfl
def SI(ls:O Z0):wJ (a6 ls)=J ls:=SH ls
def SJ(ks:O ZI)(k:O Z0):(hM ks k).H<=ks.H+1:=by
 delta hM;split
 .show ia _ _
 .simp
def ae0:x∈hM ks k↔x∈ks\/x=k:=by
 delta hM;split
 .rename_i h;rw[wV]at h;let(y,aJ,e):=h;let e:y=k:=by simpa using e
  subst e;show{.inl,λh=>h.elim id λz=>z▸aJ}
 .rw[i9,gK]
theorem Lk:∀(mD ks:O ZI),(mD.foldl hM ks).H<=ks.H+mD.H
 |[],ks=>by simp
 |g::mD,ks=>by let:=Lk mD<|hM ks g;let:=SJ ks g;rw[jj,dv];omega
theorem Bt:∀{mD ks:O ZI},x∈mD.foldl hM ks↔x∈ks\/x∈mD
 |[],ks=>by simp
 |g::mD,ks=>by rw[jj,Bt,ae0,cF,or_assoc]
theorem SK(x0 bE bR cy cv dg:MB ZE)(n:Y):∀(mD ks:O ZI) (cO:MB ZE),ks.H+mD.H<=900000 ->
  ∃lK,eb (b4 7) Bl (mD.map a6) [x0,bE,bR,cy,cv,J (.eN ks,.aA),dg,cO] n=J (.bC,[x0,bE,bR,cy,cv,J (.eN<|mD.foldl hM ks,.aA),dg,lK],n)
 |[],ks,cO,_=>{(cO),P}
 |g::mD,ks,cO,h=>by
  let dJ:bp=1000000:=rfl;rw[dv]at h;let cH:=SJ ks g;let(lK,aQ):=SK x0 bE bR cy cv dg n mD (hM ks g) (J (a6 g,.aa)) ZW;show{lK,?_};let st:sm (.eN ks) (a6 g) (.aU Y0)=J (.eN<|hM ks g):=by show(wJ<|a6 g).bind (λls=>if ks.H<bp then J (T.eN<|hM ks ls) else C)=_;rw[SI,eC,Y2 ZW]
  let one:Bl [x0,bE,bR,cy,cv,J (.eN ks,.aA),dg,J (a6 g,.aa)] n=J (.bC,[x0,bE,bR,cy,cv,J (.eN<|hM ks g,.aA),dg,J (a6 g,.aa)],n):=by delta Bl;generalize a6 g=xJ at*;simp![j0,st]
  rw[cj];delta eb;erw[a8.bD.b4,il,ip,eC];rw[one];show aQ
def hW(d:O Z3)(bQ:O D)(found:O ZI):O ZI:=(found.flatMap<|h6 d bQ).foldl hM []
def ko(d:O Z3)(bQ:O D):Y->O ZI->O ZI
 |0,f=>f
 |k+1,f=>ko d bQ k<|hW d bQ f
structure kj (bQ:O D) (ds:O Z0):Prop where
 len:ds.H=bQ.H
 one:∀x∈ds,1<=x.H
 fit:∀p,p<ds.H->((ds.getD p []).H:D)<=bQ.getD p 0
def getD_mem{α:Type}{l:O α}{p:Y}{z:α}(h:p<l.H):l.getD p z∈l:=by rw[hY,gd h];show nP h
def mem_getD{α:Type}{l:O α}{x:α}(z:α)(h:x∈l):∃p,p<l.H/\l.getD p z=x:=by let(p,aC,e):=List.getElem_of_mem h;show{p,aC,by rw[hY,gd aC];show e}
def kj.lq(g:kj bQ ds)(aS:bQ.H<=3)(lr:∀s∈bQ,s<=8):Dk ds:=⟨by rw[g.len];show aS,g.one,λx au=>by
 let(p,aC,rfl):=mem_getD [] au;let ae:=g.fit p aC;let ai:=lr _ (getD_mem (l:=bQ) (z:=0) (p:=p)<|by rw[<-g.len];show aC)
 omega⟩
def kj.grow(g:kj bQ ds)(h:e∈h6 d bQ ds):kj bQ e/\∃p,p<ds.H/\e=wf ds p (Wa<|gI d ds)/\sv d ds=Y0/\gI d ds≠[]:=by
 delta h6 at h;split at h
 .rename_i c;rw[iR]at c;let(p,aC,rfl):=c9.mp h;delta tS at aC;rw[mY,mZ]at aC;let(aC,dN):=aC;let dN:((ds.getD p []).H:D)<bQ.getD p 0:=by simpa using dN
  show{{?_,λx au=>?_,λq bc=>?_},p,aC,P,c.1,λz=>by rw[z]at c;simp at c}
  .delta wf;rw[oQ];show g.len
  .rcases qan au with au|rfl
   .show g.one x au
   .simp
  .delta wf at bc |-;rw[oQ]at bc;rw[hY,wQ];by_cases z:p=q
   .subst z;rw[Y2 P,Y2 aC];show((ds.getD p []++[Wa<|gI d ds]).H:D)<=_;rw[gm,yZ];show dN
   .rw[Y3 z,<-hY];show g.fit q bc
 .ext h
def SM(d:O Z3)(bQ:O D)(ds:O Z0):(h6 d bQ ds).H<=ds.H:=by
 delta h6;split
 .rw[bZ];delta tS;let:=GY (λp=>decide (((ds.getD p []).H:D)<bQ.getD p 0))<|M0 ds.H;rw[ue]at this;show this
 .simp
theorem Bu{α β:Type}{f:α->O β}{m:Y}:∀{l:O α},(∀x∈l,(f x).H<=m)->(l.flatMap f).H<=l.H*m
 |[],_=>by simp
 |x::l,h=>by let:=Bu (f:=f) (m:=m) (l:=l) λy aJ=>h y<|cZ _ aJ;let:=h x<|cc ..;rw[iA,gm,dv,lR];omega
def SN(h:∀ds∈f,kj bQ ds):(∀ds∈hW d bQ f,kj bQ ds)/\(hW d bQ f).H<=f.H*bQ.H:=by
 constructor
 .intro ds gS;delta hW at gS;rcases Bt.mp gS with z|z
  .ext z
  .let(e,he,hd):=mm.mp z;show((h e he).grow hd).1
 .delta hW;let ae:=Lk (f.flatMap<|h6 d bQ) [];let ai:=Bu (f:=h6 d bQ) (m:=bQ.H) (l:=f) λds gS=>by rw[<- (h ds gS).len];show SM d bQ ds
  rw[nR]at ae;omega
theorem SO(B:e8 d)(hd:d.H<=1000)(aS:bQ.H<=3)(lr:∀s∈bQ,s<=8)(x0 cy cv:MB ZE)(n:Y):∀(f ks:O ZI) (dg cO:MB ZE),(∀ds∈f,kj bQ ds)->ks.H+f.H*3<=900000 ->
  ∃oC lK,eb (b4 6) Fb (f.map a6) [x0,J (ar bQ,.aa),J ZG,cy,cv,J (.eN ks,.aA),dg,cO] n=J (.bC,[x0,J (ar bQ,.aa),J ZG,cy,cv,J (.eN<|(f.flatMap<|h6 d bQ).foldl hM ks,.aA),oC,lK],n)
 |[],ks,dg,cO,_,_=>{(dg),cO,P}
 |ds::f,ks,dg,cO,hf,az=>by
  rw[dv]at az;let g:=hf ds<|cc ..;let gl:=SM d bQ ds;let aoP:ds.H<=3:=by rw[g.len];show aS
  let(SP,aB):=SK x0 (J (ar bQ,.aa)) (J ZG) cy cv (J (a6 ds,.aa)) n (h6 d bQ ds) ks cO ZW;let cH:=Lk (h6 d bQ ds) ks;let(oC,lK,aQ):=SO B hd aS lr x0 cy cv n f ((h6 d bQ ds).foldl hM ks) (J (a6 ds,.aa)) SP (λe he=>hf e<|cZ _ he) ZW;let kE:=grown B hd (g.lq aS lr) g.len.symm Y1 n;show{oC,lK,?_};let one:Fb [x0,J (ar bQ,.aa),J ZG,cy,cv,J (.eN ks,.aA),J (a6 ds,.aa),cO] n=J (.bC,[x0,J (ar bQ,.aa),J ZG,cy,cv,J (.eN<|(h6 d bQ ds).foldl hM ks,.aA),J (a6 ds,.aa),SP],n):=by delta Fb RG;generalize (h6 d bQ ds).map a6=Dj at*;generalize a6 ds=uJ at*;generalize av d=gv at*;generalize ar bQ=aE at*;generalize Bl=WW at*;simp![eo,e2,kE,Mz,aB]
  rw[cj];delta eb;erw[a8.bD.b4,il,ip,eC];rw[one,iA,G2];show aQ
def ae1(B:e8 d)(hd:d.H<=1000)(aS:bQ.H<=3)(lr:∀s∈bQ,s<=8)(x0 cv dM dg cO:MB ZE)(n:Y)(m:a9)(hm:m=.aA\/m=.aa)(hf:∀ds∈f,kj bQ ds)(az:f.H*3<=900000) :
  ∃Bv oC lK,Fc [x0,J (ar bQ,.aa),J ZG,J (.aj<|f.map a6,m),cv,dM,dg,cO] n=J (.bC,[x0,J (ar bQ,.aa),J ZG,J (.aj<|(hW d bQ f).map a6,.aA),cv,Bv,oC,lK],n):=by
 let(oC,lK,e):=SO B hd aS lr x0 (J (.aj<|f.map a6,.aa)) cv n f [] dg cO hf (by simpa using az);show{J (.eN<|hW d bQ f,.aA),oC,lK,?_};let ls:DT n [.eN<|hW d bQ f]=J (.aj<|(hW d bQ f).map a6,.aA):=rfl;let l1:(f.flatMap<|h6 d bQ).foldl hM []=hW d bQ f:=rfl;rw[l1]at e;let ix:eA 3 v5 [x0,J (ar bQ,.aa),J ZG,J (.aj<|f.map a6,m),cv,J (.eN [],.aA),dg,cO] n=J (.bC,[x0,J (ar bQ,.aa),J ZG,J (.aj<|f.map a6,.aa),cv,J (.eN<|hW d bQ f,.aA),oC,lK],n):=by
  generalize (hW d bQ f)=sf at*;generalize f.map a6=fm at*;generalize av d=gv at*;generalize ar bQ=aE at*;rcases hm with rfl|rfl
  .show v5 [x0,J (aE,.aa),J (.a3 gv,.aA),J (.aj fm,.aa),cv,J (.eN [],.aA),dg,cO] n=_;delta v5;simp![eo,e2,Mz,e]
  .show v5 [x0,J (aE,.aa),J (.a3 gv,.aA),J (.aj fm,.aa),cv,J (.eN [],.aA),dg,cO] n=_;delta v5;simp![eo,e2,Mz,e]
 delta Fc;generalize (hW d bQ f).map a6=Dm at*;generalize (hW d bQ f)=sf at*;generalize f.map a6=fm at*;generalize av d=gv at*;generalize ar bQ=aE at*;generalize eA 3 v5=LL at*;simp![DS,ix,ls]
def ae2(B:e8 d)(hd:d.H<=1000)(aS:bQ.H<=3)(lr:∀s∈bQ,s<=8)(x0:MB ZE)(n:Y):∀(k:Y) (xs:O T) (f:O ZI) (m:a9) (cv dM dg cO:MB ZE),xs.H=k->(m=.aA\/m=.aa)->(∀ds∈f,kj bQ ds)->f.H*bQ.H^k<=300000->1<=bQ.H ->
  ∃f3 sb Bv oC lK,(f3=.aA\/f3=.aa)/\eb (b4 4) Fc xs [x0,J (ar bQ,.aa),J ZG,J (.aj<|f.map a6,m),cv,dM,dg,cO] n=J (.bC,[x0,J (ar bQ,.aa),J ZG,J (.aj<|(ko d bQ k f).map a6,f3),sb,Bv,oC,lK],n):=by
 intro k
 induction k with
 |zero =>
  intro xs f m cv dM dg cO au hm _ _ _;obtain rfl:=uc au;show{(m),cv,dM,dg,cO,hm,P}
 |succ k aQ =>
  intro xs f m cv dM dg cO au hm hf az ae;cases xs with
  |nil=>ext au
  |cons x xs =>
   let u0:1<=bQ.H^(k+1):=Nat.one_le_pow _ _ ae;let b2:f.H<=300000:=bw (G7 _ u0) az;let(Bv,oC,lK,e):=ae1 B hd aS lr x0 (J (x,.aa)) dM dg cO n m hm hf ZW;let(a1,a2):=SN (d:=d) hf
   let(f3,jy,js,lp,h3,Ll,ax):=aQ xs (hW d bQ f) .aA (J (x,.aa)) Bv oC lK (by simpa using au) (.inl P) a1 (by
    show bw (ui _ a2) ?_;rw[um,<-Nat.pow_succ']
    show az) ae
   show{f3,jy,js,lp,h3,Ll,?_};delta eb;erw[a8.bD.b4,il,ip,eC];rw[e];show ax
def anH(bQ:O Y)(hm:∀m∈bQ,Mw (m:Y)=Y0)(n:Y):Bi [(.aF (bQ.map λm=>.int (m:Y)),Y0)] n=J (.int ((gz bQ:Y):D),Y1,n):=by
 let(S',(c,gi),e):=Q9 (put:=b4 2) (b:=KL) (g:=λm:Y=>T.int m) (n:=n) (R:=λ(s:Y) S=>∃c,S=[J (.aF (bQ.map λm=>.int (m:Y)),.aa),J (.int (s:D),.aa),c]) (step:=λs m=>s*m) bQ 1 [J (.aF (bQ.map λm=>.int (m:Y)),.aa),J (.int (1:Y),.aa),C]
  (λm ae3 s S gi=>by
   let(c,rfl):=gi;let aK:Mw (m:D)=Y0:=hm m ae3;show{_,_,P,?_,J (.int (m:Y),.aa),P};let aC:=pV (a:=(s:D)) (b:=(m:D)) (.inr aK) n;delta KL
   simp![aC]) {(C),P}
 rw[R7,Hl]at gi;subst gi;delta Bi Rt;generalize bQ.map (λm=>T.int (m:Y))=out at e |-;let aB:KN [J (.aF out,.aa),J (.int 1,.aa),C] n=J (.bC,[J (.aF out,.aa),J (.int ((gz bQ:Y):D),.aa),c],n):=by delta KN eo e2 aq;show e
 simp![eA,aB]
noncomputable def bY(ss:O Y):O D:=ss.map λ(s:Y)=>(s:D)
def Fx(ss:O Y):(bY ss).H=ss.H:=bZ ..
noncomputable def d7(tw:O Z3):O Z3:=tw.map λq=>(q.1-(tw.headD (0,0)).1,q.2)
def tT(B:e8 tw):e8<|d7 tw:=by
 show{?_,λq bc=>?_}
 .delta d7;rw[bv];let:((λq:D×D=>q.1)∘λq=>(q.1-(tw.headD (0,0)).1,q.2))=(λx=>x-(tw.headD (0,0)).1)∘λq:D×D=>q.1:=rfl;rw[this,<-bv];show Ov _ (λa b ne z=>ne ZW) B.bG
 .let(p,aC,rfl):=c9.mp bc;show B.pos p aC
theorem SQ:∀d:O Z3,rT (av d)=J (d.map (·.2))
 |[]=>rfl
 |q::d=>by show(rT<|av d).map (q.2::·)=_;rw[SQ d];rfl
def al2(az:d.H<=1000)(bu:∀q∈d,0<=q.2/\q.2<=100000)(n:Y):DX n [.a3<|av d]=J (.int<|fl d,.aa):=by
 let c:(d.map (·.2)).H<100000/\((d.map (·.2)).all λx=>decide (-1000000<=x)&&decide (x<=1000000))=Y0:=by show{by rw[bZ];show gr az Z1,?_};rw[y5,iq];intro q bc;let:=bu q bc;erw[Ox,iR,Nd];omega
 show((rT<|av d).bind λns=>if ns.H<100000/\(ns.all λx=>decide (-1000000<=x)&&decide (x<=1000000))=Y0 then J (T.int<|bA ns,a9.aa) else C)=_;rw[SQ,eC,Y2 c];rfl
def wd(d:O Z3)(ds:O Z0):MF:=sv d ds&&(gI d ds).isEmpty
def iz(ss:O Y):Y:=(bA (bY ss)-ss.H).M
def gJ(d:O Z3)(ss:O Y):O ZI:=if fl d=(gz ss:D) then(ko d (bY ss) (iz ss) [ML ss.H [0]]).filter (wd d) else[]
def aki(fh:tw≠[])(az:tw.H<=1000)(m:a9)(bE:MB ZE)(n:Y):Bk [J (.aj<|bT tw,m),bE,C,C,C,C,C,C] n=J (.aj<|bT<|d7 tw,.aA,n):=by
 let dJ:bp=1000000:=rfl;let b6:2<=bp:=by decide
 obtain⟨cN,dW,rfl⟩:∃cN dW,tw=cN::dW:=by
  cases tw with
  |nil=>show MI P fh
  |cons q tw=>show{(q),tw,P}
 let hd:bT Zc=.aF [.int cN.1,.int cN.2]::bT dW:=rfl;delta d7;delta bT;rw[bv];show mS Zc (λp:D×D=>T.aF [.int p.1,.int p.2]) _ ?_ ZW λq bc=>?_
 .ext m<;>rfl
 .show _=J (T.aF [.int<|q.1-cN.1,.int q.2],a9.aa,n);let d6:cz n [.aj ((cN::dW).map λp:D×D=>T.aF [.int p.1,.int p.2]),.int 0]=J (.aF [.int cN.1,.int cN.2],.aa):=by rw[yp];delta fV;rw[Y2 Z1,Y2<|by rw[bZ,dv];omega];rfl
  let g1:∀a b:D,cz n [.aF [.int a,.int b],.int 0]=J (.int a,.aa):=λ_ _=>P;let g2:∀a b:D,cz n [.aF [.int a,.int b],.int 1]=J (.int b,.aa):=λ_ _=>P;generalize ((cN::dW).map λp:D×D=>T.aF [.int p.1,.int p.2])=qC at *
  ext m<;>simp![cY,d6,g1,g2,fW,gb,b6]
def SR(ss:O Y)(ae:∀s∈ss,1<=s):kj (bY ss)<|ML ss.H [0]:=by
 show{by rw[mX,Fx],λx au=>by rw[(B8.mp au).2];simp,λp aC=>?_};rw[mX]at aC;let aB:(ML ss.H [(0:D)]).getD p []=[0]:=by rw[hY,yY,Y2 aC];rfl
 let ax:(bY ss).getD p 0=(ss[p]:D):=by rw[hY];delta bY;rw[hO,gd aC];rfl
 rw[aB,ax];let:=ae _<|nP aC;show((1:Y):D)<=_;omega
theorem SS:∀(k:Y) {f:O ZI},(∀ds∈f,kj bQ ds)->(∀ds∈ko d bQ k f,kj bQ ds)/\(ko d bQ k f).H<=f.H*bQ.H^k
 |0,f,h=>{h,by simp[ko]}
 |k+1,f,h=>by let(a1,a2):=SN (d:=d) h;let(bO,b6):=SS (d:=d) (bQ:=bQ) k a1;show{bO,bw b6 ?_};rw[Nat.pow_succ',<-um];show ui _ a2
def akj(B:e8 d)(hd:d.H<=1000){bQ:O D}(aS:bQ.H<=3)(lr:∀s∈bQ,s<=8){f:O ZI}(hf:∀ds∈f,kj bQ ds)(az:f.H<=300000)(m:a9)(x0 bE cv dM dg cO:MB ZE)(n:Y) :
  KU [x0,bE,J ZG,J (.aj<|f.map a6,m),cv,dM,dg,cO] n=J (.aj<|(f.filter<|wd d).map a6,.aA,n):=by
 let dJ:bp=1000000:=rfl;show EZ f a6 (wd d) a6 ?_ ZW λds gS=>?_
 .ext m<;>rfl
 .let(bx,cn):=((hf ds gS).lq aS lr).GF;let(t,aB,ax,bq):=Li B (bw hd Z1) (hf ds gS).one (bw bx Z1) (bw cn Z1) Y1 n;let aV:∀pk:O (hR×T),yM n [.a3 pk,.a3 []]=J (.aU pk.isEmpty,.aa):=λpk=>P;let bb:yM n [.b0,.a3 []]=J (.aU Y1,.aa):=rfl;let ig:(av<|gI d ds).isEmpty=(gI d ds).isEmpty:=by delta av;cases gI d ds<;>rfl
  constructor
  .delta wd;cases z:sv d ds with
   |true =>
    let ax:=ax z;rw[<-ig];generalize av (gI d ds)=pk at*;generalize av t=kt at*;generalize av d=gv at*;generalize f.map a6=fm at*;generalize a6 ds=uJ at*;simp![cY,pB,aB,ax,aV]
   |false =>
    let bq:=bq z;generalize av t=kt at*;generalize av d=gv at*;generalize f.map a6=fm at*;generalize a6 ds=uJ at*;simp![cY,pB,aB,bq,bb]
  .intro _;generalize av d=gv at*;generalize f.map a6=fm at*;generalize a6 ds=uJ at*;simp![cY]
theorem VQ:∀{ss:O Y},(∀s∈ss,1<=s/\s<=8)->(0:D)<=bA (bY ss)/\bA (bY ss)<=8*ss.H
 |[],_=>by simp[bY,bA]
 |s::ss,ae=>by let:=VQ (ss:=ss) λx au=>ae x<|cZ _ au;let:=ae s<|cc ..;delta bY at*;rw[cj,bA,dv];omega
def shapes(h:eB tw)(s1:1<=ss.H)(s3:ss.H<=3)(ae:∀s∈ss,1<=s/\s<=8)(aC:ss.H^iz ss<=300000)(b:MF)(n:Y) :
  Fe [(.aj<|bT tw,b),(ar<|bY ss,Y0)] n=J (.aj<|(gJ (d7 tw) ss).map a6,Y0,n):=by
 let dJ:bp=1000000:=rfl;let iY:0<=bp:=by decide
 let bO:1<=bp:=by decide
 let Dn:=h.len;let B:=tT h.eD;let b2:(d7 tw).H=tw.H:=bZ ..;let th:=Mr B.bG ZW n
 let Ik:=al2 (d:=d7 tw) (bw (dy b2)<|bw Dn Z1) (λq bc=>by
  let(p,aC,rfl):=c9.mp bc;let:=h.hb p aC;show 0<=p.2/\p.2<=100000
  omega) n
 let pr:=anH ss (λm hm=>aeC (by let:=ae m hm;omega)) n;let uF:ar (bY ss)=.aF (ss.map λm=>.int (m:Y)):=by delta ar bY;rw[bv];rfl
 rw[<-uF]at pr;let lr:∀s∈bY ss,s<=8:=λs aK=>by let(k,aW,rfl):=c9.mp aK;let:=ae k aW;omega
 let uP:=Fx ss;let ne:∀a b:D,hv n [.int a,.int b]=J (.aU<|!(a==b),.aa):=λ_ _=>P;let iW:∀m:a9,Bk [J (.aj<|bT tw,m),J (ar<|bY ss,.aa),C,C,C,C,C,C] n=J (.aj<|bT<|d7 tw,.aA,n):=λm=>aki h.ne (bw Dn Z1) m _ n;delta gJ;by_cases eq:fl (d7 tw)=(gz ss:D)
 .rw[Y2 eq];let d6:=SR ss λs aK=>(ae s aK).1;let NV:∀ds∈[ML ss.H [(0:D)]],kj (bY ss) ds:=λds gS=>by rw[gK.mp gS];show d6
  let mul:fF n [.aF [.aF [.int 0]],.int (ss.H:D)]=J (a6<|ML ss.H [0],.aa):=by
   show(if([T.aF [.int 0]].H<=1000/\(-1000:D)<=(ss.H:D)/\(ss.H:D)<=10000/\[T.aF [.int 0]].H*(ss.H:D).M<=bp) then J (T.aF (ML (ss.H:D).M [T.aF [.int 0]]).flatten,a9.aa) else C)=_;rw[Y2 {by simp,(iC _),by omega,by simp;omega},nX];congr 2;delta a6;congr 1;rw[qaF];show(ML ss.H [ar [0]]).flatten=_
   induction ss.H with
   |zero=>rfl
   |succ k aQ=>rw[lO,lO,rd,aQ];rfl
  let ln:fG n [ar<|bY ss]=J (.int (ss.H:D),.aa):=by delta ar;rw[qY,bZ,uP]
  let Dm:pD n [ar<|bY ss]=J (.int<|bA<|bY ss,.aa):=Ra n ZW λx au=>by let:=lr x au;let(k,aW,rfl):=c9.mp au;omega
  let aos:=VQ ae;obtain⟨x0,PY⟩:∃x0,x0=J (T.aj (bT tw),if b then a9.aa else a9.b9):={_,P}
  let Xi:iz ss=(i7 0<|bA (bY ss)-ss.H).H:=by rw[A7];delta iz;congr 1;omega
  let(f3,jy,js,lp,h3,Ll,e):=ae2 B (bw (dy b2)<|bw Dn Z1) (by rw[uP];show s3) lr x0 n (iz ss) (i7 0<|bA (bY ss)-ss.H) [ML ss.H [0]] .aA C C C C Xi.symm (.inl P) NV (by rw[uP];simpa using aC) (by rw[uP];show s1);let(a1,a2):=SS (d:=d7 tw) (iz ss) NV;rw[uP,yZ,Hl]at a2;let cb:=akj B (bw (dy b2)<|bw Dn Z1) (by rw[uP];show s3) lr a1 ZW f3 x0 (J (ar<|bY ss,.aa)) jy js lp h3 n;let hp:Fd [x0,J (ar<|bY ss,.aa),J (.a3<|av<|d7 tw,.aA),J (.aj [a6<|ML ss.H [0]],.aA),C,C,C,C] n=J (.bC,[x0,J (ar<|bY ss,.aa),J (.a3<|av<|d7 tw,.aA),J (.aj<|(ko (d7 tw) (bY ss) (iz ss) [ML ss.H [0]]).map a6,f3),jy,js,lp,h3],n):=by
   let:=Ky (a:=af (aD fW<|af (aD pD ZP)<|af (aD fG ZP) aw) aw) (S:=[x0,J (ar<|bY ss,.aa),J (.a3<|av<|d7 tw,.aA),J (.aj [a6<|ML ss.H [0]],.aA),C,C,C,C]) (n:=n) (n':=n) (j:=bA (bY ss)-ss.H) (by
    generalize ar (bY ss)=aE at *
    simp![Dm,ln,fW,gb]) ZW ZW
   delta Fd eo;rw[this];show e
  let SU:(fl (d7 tw)==(gz ss:D))=Y0:=by simpa using eq
  let fr:∀dd:br,fq 3 dd [x0,J (ar<|bY ss,.aa),J (.a3<|av<|d7 tw,.aA),J (.aj<|(ko (d7 tw) (bY ss) (iz ss) [ML ss.H [0]]).map a6,f3),jy,js,lp,h3] n=dd [x0,J (ar<|bY ss,.aa),J (.a3<|av<|d7 tw,.aA),J (.aj<|(ko (d7 tw) (bY ss) (iz ss) [ML ss.H [0]]).map a6,f3),jy,js,lp,h3] n:=λdd=>by rcases Ll with rfl|rfl<;>rfl
  delta Fe KV;generalize ((ko (d7 tw) (bY ss) (iz ss) [ML ss.H [0]]).filter (wd<|d7 tw)).map a6=out at*;generalize (ko (d7 tw) (bY ss) (iz ss) [ML ss.H [0]]).map a6=cW at*;generalize a6 (ML ss.H [0])=jR at*;generalize bT (d7 tw)=Il at*;generalize bT tw=pL at*;generalize av (d7 tw)=k0 at*;generalize ar (bY ss)=aE at*;generalize Bk=CC at*;generalize KU=NN at*;generalize Fd=LL at*;generalize fq 3=FF at*;subst PY
  ext b
  .erw[iB,MU]at*;simp![fq,iW,th,Ik,pr,ne,SU,ln,mul,dA,iY,bO,hp,fr,cb]
  .erw[MR]at*;simp![fq,iW,th,Ik,pr,ne,SU,ln,mul,dA,iY,bO,hp,fr,cb]
 .rw[Y3 eq];let nb:(fl (d7 tw)==(gz ss:D))=Y1:=by simpa using eq
  delta Fe KV;generalize bT (d7 tw)=Il at*;generalize bT tw=pL at*;generalize av (d7 tw)=k0 at*;generalize ar (bY ss)=aE at*;generalize Bk=CC at *
  ext b<;>simp![fq,iW,th,Ik,pr,ne,nb,dA,iY]
def ae4(bG:(d.map (·.1)).Nodup):∃tw:O Z3,tw.Perm d/\(hS<|d.map hx).map ar=bT tw/\(tw.map (·.1)).Pairwise (·<·):=by
 let all:∀l∈hS (d.map hx),∃p:D×D,l=hx p/\True:=λl az=>by let(p,_,rfl):=c9.mp<|(qL _).mem_iff.mp az;show{(p),P,trivial}
 let ex:∀ls:O Z0,(∀l∈ls,∃p:D×D,l=hx p/\True)->∃tw:O Z3,ls=tw.map hx:=by
  intro ls
  induction ls with
  |nil=>intro _;show{[],P}
  |cons l ls aQ =>
   intro h;let(tw,rfl):=aQ λx au=>h x<|cZ _ au;let(p,rfl,_):=h l<|cc ..;show⟨p::tw,P⟩
 let(tw,e):=ex _ all;let back:∀l:O Z3,(l.map hx).map (λx=>(x.headD 0,x.getD 1 0))=l:=λl=>by rw[bv];show(ji (g:=id) λp _=>?_).trans (ug _);rfl
 let perm:tw.Perm d:=by
  let:=((qL<|d.map hx).map λx=>(x.headD 0,x.getD 1 0))
  rw[e,back,back]at this;show this
 show{tw,perm,?_,?_}
 .rw[e,bv];rfl
 .let s:=DV<|d.map hx;rw[e,mj]at s;let Lm:(tw.map (·.1)).Nodup:=(perm.map (·.1)).nodup_iff.mpr bG;rw[mj];let both:=s.and<|mj.mp Lm;show both.imp λ{a b} h=>?_;let(ae,ai):=h;let ae:a8.bD.er [b.1,b.2] [a.1,a.2]=Y1:=ae;delta a8.bD.er at ae;by_cases z:b.1=a.1
  .show MI z.symm ai
  .let:(b.1==a.1)=Y1:=by simpa using z
   rw[this]at ae;simp at ae;omega
def SV(B:ha d s)(a4:∀x∈s,0<=x/\x<=120)(aK:s.H<=4096)(bI:s≠[]) :
  ∃tw,eB tw/\mC tw s/\fl tw=s.H/\(hS<|d.map hx).map ar=bT tw:=by
 let(tw,perm,tf,up):=ae4 B.bG;let Lm:(tw.map (·.1)).Nodup:=up.imp λ{a b} z=>(w4 z)
 let Im:∀k,b7 tw k=b7 d k:=λk=>by
  by_cases h:k∈tw.map (·.1)
  .let(q,bc,rfl):=c9.mp h;rw[iN Lm bc,iN B.bG<|perm.mem_iff.mp bc]
  .rw[oB h,oB λz=>h<|(perm.map (·.1)).mem_iff.mpr z]
 show{tw,{λz=>?_,up,λq bc=>?_},λk=>by rw[Im k];show B.b7 k,?_,tf}
 .cases s with
  |nil=>show bI P
  |cons x s =>
   let(v,bu):=B.has<|cc ..;let:=perm.mem_iff.mpr bu;rw[z]at this
   ext this
 .let lJ:=perm.mem_iff.mp bc;let:=a4 _<|B.key lJ;let:=B.pos q lJ;let:=B.le lJ;omega
 .let aB:fl tw=fl d:=aeH<|perm.map (·.2);rw[aB];show B.vals
noncomputable def pW(t Fa:D):O Z0:=if Fa<=t then[[t]] else[]
def ae5(t Fa:D)(n:Y):v7 [(.int t,Y0),(.int 1,Y0),(.int Fa,Y0)] n=J (.aj<|(pW t Fa).map ar,Y0,n):=by
 let iY:0<=bp:=by decide
 let bO:1<=bp:=by decide
 delta pW;by_cases h:Fa<=t
 .rw[Y2 h];delta v7 KX;simp![pR,oh,gb,h,dA,c6,bO];rfl
 .rw[Y3 h];delta v7 KX;simp![pR,oh,gb,h,dA,iY]
noncomputable def hA(t Fa:D):O Z0:=(M0 (t-Fa+1-Fa).M).map λ(k:Y)=>[Fa+k,t-(Fa+k)]
def ae6(t Fa a:D)(ae:Fa<=t-a)(V9:O Z0)(az:V9.H<=1000)(n:Y) :
  Fg [J (.int t,.aa),J (.int 2,.aa),J Z7,J (.aj<|V9.map ar,.aA),J (.int a,.aa)] n=J (.bC,[J (.int t,.aa),J (.int 2,.aa),J Z7,J (.aj<|(V9++[[a,t-a]]).map ar,.aA),J (.int a,.aa)],n):=by
 let dJ:bp=1000000:=rfl;let bO:1<=bp:=by decide
 let s1:=ae5 (t-a) Fa n;let aB:pW (t-a) Fa=[[t-a]]:=Y2 ae;rw[aB]at s1;let iW:RH [J (.int t,.aa),J (.int 2,.aa),J Z7,J (.aj<|V9.map ar,.aA),J (.int a,.aa)] n=J (.aj [ar [a,t-a]],.aA,n):=by
  show mS [[t-a]] ar (λl=>ar<|a::l) ?_ (by show 1<=bp;decide) λl az=>?_
  .generalize List.map ar [[t-a]]=out at*;generalize V9.map ar=ac at*;simp![fU,fW,gb,s1,Mz]
  .obtain rfl:=gK.mp az;let ad:dE n [.aF [.int a],ar [t-a]]=J (ar [a,t-a],.aa):=by delta ar;rw[vU,Y2<|by show 1+1<=bp;decide];rfl
   generalize ar [a,t-a]=ek at*;generalize ar [t-a]=gx at*;generalize V9.map ar=ac at*;simp![cY,c6,bO,ad]
 let ex:hj (.aj<|V9.map ar) (.aj [ar [a,t-a]])=J (.aj<|(V9++[[a,t-a]]).map ar):=by rw[vV,Y2 (by rw[bZ];show _+1<=_;omega),jM];rfl
 delta Fg;rw[yn iW (u:=.aj<|V9.map ar) P ex];rfl
def ae7{t Fa:D}(h0:0<=Fa)(ae:Fa<=30)(ct:0<=t)(Bw:t<=120)(n:Y):v8 [(.int t,Y0),(.int 2,Y0),(.int Fa,Y0)] n=J (.aj<|(hA t Fa).map ar,Y0,n):=by
 let dJ:bp=1000000:=rfl;let iY:0<=bp:=by decide
 let gen:∀(k a:Y) (V9:O Z0) (cv:MB ZE),a+k=(t-Fa+1-Fa).M->V9.H=a->∃sb,eb (b4 4) Fg ((Vm a k).map λ(j:Y)=>T.int<|Fa+j) [J (.int t,.aa),J (.int 2,.aa),J Z7,J (.aj<|V9.map ar,.aA),cv] n =
   J (.bC,[J (.int t,.aa),J (.int 2,.aa),J Z7,J (.aj<|(V9++(Vm a k).map λ(j:Y)=>[Fa+j,t-(Fa+j)]).map ar,.aA),sb],n):=by
  intro k
  induction k with
  |zero=>intro a V9 cv _ _;show{cv,by simp[eb]}
  |succ k aQ =>
   intro a V9 cv aW bl;let(sb,e):=aQ (a+1) (V9++[[Fa+a,t-(Fa+a)]]) (J (.int<|Fa+a,.aa)) ZW (by rw[gm,bl];rfl);show⟨sb,?_⟩;rw[qaN,cj,cj];delta eb;erw[a8.bD.b4,il,ip,eC];rw[ae6 t Fa (Fa+a) ZW V9 ZW n];let ap:V9++[Fa+(a:D),t-(Fa+a)]::((Vm (a+1) k).map λ(j:Y)=>[Fa+(j:D),t-(Fa+j)])=(V9++[[Fa+(a:D),t-(Fa+a)]])++((Vm (a+1) k).map λ(j:Y)=>[Fa+(j:D),t-(Fa+j)]):=List.append_cons ..;rw[ap];show e
 let(cv,e):=gen (t-Fa+1-Fa).M 0 [] C (rh _ _) P;rw[<-y1,ka]at e;let xJ:=Kz (a:=af (aq 2)<|af (aD dE<|af (aD fW<|af (aq 0) ZN) ZT) aw) (S:=[J (.int t,.aa),J (.int 2,.aa),J Z7,J (.aj [],.aA),C]) (n:=n) (n':=n) (i:=Fa) (j:=t-Fa+1) (by simp![fW,gb,mb]) (ce Z1 h0) (ce ae Z1) ZW ZW;let ix:Fh [J (.int t,.aa),J (.int 2,.aa),J Z7,J (.aj [],.aA),C] n=J (.bC,[J (.int t,.aa),J (.int 2,.aa),J Z7,J (.aj<|(hA t Fa).map ar,.aA),cv],n):=by delta Fh eo;rw[xJ];show e
 generalize (hA t Fa).map ar=out at*;delta v8 RI;generalize Fh=LL at*;simp![pR,dA,iY,ix]
def raised(l:O D)(pX:D)(az:l.H<=1000)(n:Y):Bj [(ar l,Y0),(.int pX,Y0)] n=J (ar<|l.map (·+pX),Y1,n):=by
 let dJ:bp=1000000:=rfl;let iW:RA [J (ar l,.aa),J (.int pX,.aa)] n=J (.aj<|(l.map (·+pX)).map .int,.aA,n):=by rw[bv];show mS l T.int _ P ZW λx _=>?_;show _=J (T.int<|x+pX,a9.aa,n);generalize ar l=jb at*;simp![cY,mb]
 let tp:lG n [.aj<|(l.map (·+pX)).map .int]=J (ar<|l.map (·+pX),.aa):=rfl;generalize (l.map (·+pX)).map T.int=lm at*;generalize ar (l.map (·+pX))=out at*;let fr:∀dd:br,fq 0 dd [J (ar l,.aa),J (.int pX,.aa)] n=dd [J (ar l,.aa),J (.int pX,.aa)] n:=λ_=>P;delta Bj RB;generalize ar l=jb at*;generalize fq 0=FF at*;simp![fr,iW,tp]
def enum_rows(ls:O Z0):qM (ls.map ar)=ls.zipIdx.map λq=>.aF [.int (q.2:Y),ar q.1]:=by delta qM;rw[List.zipIdx_map,bv];rfl
noncomputable def hB(ds:O Z0)(dK:O D):O Z0:=ds.zipIdx.map λq=>q.1.map (·+dK.getD q.2 0)
def moved(az:ds.H=dK.H)(aS:ds.H<=10)(lr:∀d∈ds,d.H<=1000)(n:Y):E6 [(a6 ds,Y0),(ar dK,Y0)] n=J (a6<|hB ds dK,Y1,n):=by
 let dJ:bp=1000000:=rfl;let iW:RC [J (a6 ds,.aa),J (ar dK,.aa)] n=J (.aj<|(hB ds dK).map ar,.aA,n):=by
  delta hB;rw[bv]
  let:=anr (it:=Jb<|aq 0) (l:=[C,C,J 0,J 1]) (i:=0) (j:=1) (c:=yes) (e:=cD 2 Bj<|a0 (aq 1)<|a0 (aD cz<|af (aq 3) ZL) cw) (S:=[J (a6 ds,.aa),J (ar dK,.aa)]) (n:=n) ds.zipIdx (λq=>T.int (q.2:Y)) (λq=>ar q.1) (λ_=>Y0) (λq=>ar<|q.1.map (·+dK.getD q.2 0)) Z1 (by
   show J (qM ZY,n)=_
   rw[enum_rows]) (by rw[qaB];omega) λq bc=>by
    let(x,k):=q;let(aW,_,au):=List.mem_zipIdx bc;let aW:k<ds.H:=by omega
    let g:=getInt dK (p:=k) (dX aW<|dy az) n;let r:=raised x (dK.getD k 0) (lr x<|by rw[au];show nP _) n;show⟨P,λ_=>?_⟩;show _=J (ar<|x.map (·+dK.getD k 0),a9.aa,n);generalize ar (x.map (·+dK.getD k 0))=ek at*;generalize dK.getD k 0=kd at*;generalize ar x=gx at*;generalize ar dK=o3 at*;generalize a6 ds=o4 at*;simp![cY,g,r]
  rw[B6.mpr λ_ _=>P]at this;show this
 let tp:lG n [.aj<|(hB ds dK).map ar]=J (a6<|hB ds dK,.aa):=rfl;generalize (hB ds dK).map ar=lm at*;generalize a6 (hB ds dK)=out at*;delta E6 RD;generalize a6 ds=o4 at*;generalize ar dK=o3 at*;simp![iW,tp]
def fg(ls:O ZI):O ZI:=(hS<|ls.map g0).map dec
theorem SW:∀ls:O ZI,vq (ls.map a6)=J ls
 |[]=>rfl
 |l::ls=>by rw[cj,vq,SI,eC,SW ls];rfl
def SX(bL:∀l∈ls,l≠[]/\∀d∈l,∀x∈d,0<=x)(az:ls.H<=bp)(n:Y):DY n [.aj<|ls.map a6]=J (.aj<|(fg ls).map a6,.aA):=by
 show(vq<|ls.map a6).bind (λls=>if(ls.all vr&&decide (ls.H<=bp))=Y0 then J (T.aj ((hS<|ls.map g0).map λc=>a6<|dec c),a9.aA) else C)=_;rw[SW,eC,Y2]
 .delta fg;rw[bv];rfl
 .rw[iR,iq];show{λl az=>?_,by simpa using az};let(ae,ai):=bL l az;delta vr;rw[iR,iq];show⟨by cases l with|nil=>show MI rfl ae|cons _ _=>rfl,λd hd=>?_⟩;rw[iq];intro x au;simpa using ai d hd x au
def SY(bL:∀l∈ls,∀d∈l,∀x∈d,0<=x):r∈fg ls↔r∈ls:=by
 delta fg;rw[c9];constructor
 .rintro⟨c,aI,rfl⟩;let(l,az,rfl):=c9.mp<|(qL _).mem_iff.mp aI;rw[dec_enc l<|bL l az];show az
 .intro h;show{g0 r,(qL _).mem_iff.mpr (hZ h),dec_enc r<|bL r h}
def h7(dx:O ZI)(dK:O Z0):O ZI:=dx.flatMap λds=>dK.map<|hB ds
def Ta{m:Y}(ao:∀ds∈dx,ds.H=m/\∀d∈ds,d.H<=1000)(Bx:∀l∈dK,l.H=m)(hm:m<=10)(hz:dx.H*dK.H<=900000)
  (bL:∀l∈h7 dx dK,l≠[]/\∀d∈l,∀x∈d,0<=x) (bO b6:MF) (n:Y):yr [(.aj<|dx.map a6,bO),(.aj<|dK.map ar,b6)] n=J (.aj<|(fg<|h7 dx dK).map a6,Y0,n):=by
 let dJ:bp=1000000:=rfl;let iY:0<=bp:=by decide
 let qC:dK.H<=900000\/dx=[]:=by
  cases dx with
  |nil=>show .inr P
  |cons x l=>rw[dv,lR]at hz;show .inl<|wW hz
 let gen:∀(l:O ZI) (V9:O ZI) (cy:MB ZE),(∀ds∈l,ds∈dx)->V9.H+l.H*dK.H<=900000->∃tQ,eb (b4 3) E7 (l.map a6) [J (.aj<|dx.map a6,if bO then .aa else .b9),J (.aj<|dK.map ar,if b6 then .aa else .b9),J (.aj<|V9.map a6,.aA),cy] n =
   J (.bC,[J (.aj<|dx.map a6,if bO then .aa else .b9),J (.aj<|dK.map ar,if b6 then .aa else .b9),J (.aj<|(V9++h7 l dK).map a6,.aA),tQ],n):=by
  intro l
  induction l with
  |nil=>intro V9 cy _ _;show{cy,by simp[eb,h7]}
  |cons ds l aQ =>
   intro V9 cy mJ az;rw[dv,lR]at az;let gS:=mJ ds<|cc ..;let(aV,bb):=ao ds gS;let(tQ,e):=aQ (V9++dK.map (hB ds)) (J (a6 ds,.aa)) (λe he=>mJ e<|cZ _ he) (by rw[gm,bZ];omega);show{tQ,?_};let iW:KP [J (.aj<|dx.map a6,if bO then .aa else .b9),J (.aj<|dK.map ar,if b6 then .aa else .b9),J (.aj<|V9.map a6,.aA),J (a6 ds,.aa)] n=J (.aj<|(dK.map<|hB ds).map a6,.aA,n):=by rw[bv];show mS dK ar _ P ZW λlw ahn=>?_;let zF:=moved (ds:=ds) (dK:=lw) (by rw[aV,Bx lw ahn]) (bw (dy aV) hm) bb n;show _=J (a6<|hB ds lw,a9.aa,n);generalize a6 (hB ds lw)=ek at*;generalize a6 ds=gx at*;generalize ar lw=o3 at*;generalize dK.map ar=o4 at*;generalize dx.map a6=o5 at*;generalize V9.map a6=o6 at*;simp![cY,zF]
   let ex:hj (.aj<|V9.map a6) (.aj<|(dK.map<|hB ds).map a6)=J (.aj<|(V9++dK.map (hB ds)).map a6):=by rw[vV,Y2 (by rw[bZ,bZ,bZ];omega),jM]
   let one:E7 [J (.aj<|dx.map a6,if bO then .aa else .b9),J (.aj<|dK.map ar,if b6 then .aa else .b9),J (.aj<|V9.map a6,.aA),J (a6 ds,.aa)] n=J (.bC,[J (.aj<|dx.map a6,if bO then .aa else .b9),J (.aj<|dK.map ar,if b6 then .aa else .b9),J (.aj<|(V9++dK.map (hB ds)).map a6,.aA),J (a6 ds,.aa)],n):=by delta E7;show hN 2 hj KP [J (.aj<|dx.map a6,if bO then .aa else .b9),J (.aj<|dK.map ar,if b6 then .aa else .b9),J (.aj<|V9.map a6,.aA),J (a6 ds,.aa)] n=_;rw[yn iW (u:=.aj<|V9.map a6) P ex];rfl
   rw[cj];delta eb;erw[a8.bD.b4,il,ip,eC];rw[one];let:V9++h7 (ds::l) dK=V9++dK.map (hB ds)++h7 l dK:=by delta h7;rw[iA,hk]
   rw[this];show e
 let(cy,e):=gen dx [] C (λ_ h=>h) (by simpa using hz);rw[ka]at e;let al:(h7 dx dK).H<=dx.H*dK.H:=Bu λds _=>by rw[bZ];show b8 _
 let Dp:=SX bL ZW n;let ix:eA 0 vY [J (.aj<|dx.map a6,if bO then .aa else .b9),J (.aj<|dK.map ar,if b6 then .aa else .b9),J (.aj [],.aA),C] n=J (.bC,[J (.aj<|dx.map a6,if bO then .aa else .b9),J (.aj<|dK.map ar,if b6 then .aa else .b9),J (.aj<|(h7 dx dK).map a6,.aA),cy],n):=by
  let z:∀S:bF,eA 0 vY (J (.aj<|dx.map a6,if bO then .aa else .b9)::S) n=vY (J (.aj<|dx.map a6,if bO then .aa else .b9)::S) n:=λS=>by cases bO<;>rfl
  rw[z];show vY [J (.aj<|dx.map a6,if bO then .aa else .b9),J (.aj<|dK.map ar,if b6 then .aa else .b9),J (.aj [],.aA),C] n=_;delta vY eo;cases bO<;>show e
 generalize (fg<|h7 dx dK).map a6=out at*;generalize (h7 dx dK).map a6=ek at*;generalize dx.map a6=gx at*;generalize dK.map ar=o3 at*;delta yr RE;generalize eA 0 vY=LL at*;cases bO<;>cases b6<;>erw[reduceIte,iB]at ix<;>simp![dA,iY,ix,Dp]
def ae8{m:Y}(ao:∀ds∈dx,ds.H=m/\∀d∈ds,d.H<=1000)(Bx:∀l∈dK,l.H=m)(hm:m<=10)(hz:dx.H*dK.H<=900000)
  (bL:∀l∈h7 dx dK,l≠[]/\∀d∈l,∀x∈d,0<=x) (n:Y):yr [(.aj<|dx.map a6,Y0),(.aj<|dK.map ar,Y0)] n=J (.aj<|(fg<|h7 dx dK).map a6,Y0,n):=Ta ao Bx hm hz bL Y0 Y0 n
theorem Tb{α β:Type}{g h:α->O β}(s:∀a,(g a).Sublist (h a)):∀l:O α,(l.flatMap g).Sublist (l.flatMap h)
 |[]=>.slnil
 |a::l=>by rw[iA,iA];show(s a).append (Tb s l)
def ae9(pre post:O Z0)(x:O D)(f:D):(fX<|pre++x::post).Sublist (fX<|pre++(x++[f])::post):=by rw[Sb,Sb];show Tb (λa=>List.Sublist.map _ ?_) _;rw[qZ,qZ,List.flatMap_append];show List.sublist_append_left _ _
def anI{p:Y}(h:p<ds.H)(f:D):∃pre post,ds=pre++ds.getD p []::post/\wf ds p f=pre++(ds.getD p []++[f])::post:=by
 show{ds.take p,ds.drop<|p+1,?_,?_}
 .let:ds.getD p []=ds[p]:=by rw[hY,gd h];rfl
  rw[this,<-oP h,nN]
 .delta wf;rw[qai,Y2 h]
def aiq{p:Y}(h:p<ds.H)(f k:D):cK ds k<=cK (wf ds p f) k:=by let(pre,post,aB,ax):=anI h f;delta cK;rw[ax];let s:=ae9 pre post (ds.getD p []) f;rw[<-aB]at s;let:=s.countP_le (p:=λx=>x==k);omega
structure hI (d:O Z3) (ds:O Z0):Prop where
 up:∀x∈ds,x.Pairwise (·<=·)
 nn:∀x∈ds,∀y∈x,0<=y
 zero:∀x∈ds,0∈x
 le:∀x∈ds,∀y∈x,∀k,cK ds k<b7 d k->y<=k
def By(B:e8 d)(f:Fits d<|cK ds)(k:D):k∈(gI d ds).map (·.1)↔cK ds k<b7 d k:=by
 let NW:=B.subs<|cK ds;let c:=Bq B (λk=>{tR ds k,f k}) k;constructor
 .intro h;let:=NW.yW h;omega
 .intro h;show NW.mem ZW
def hI.grow(B:e8 d)(aW:∀q∈d,0<=q.1)(g:hI d ds){p:Y}(aC:p<ds.H)(f:Fits d<|cK ds)(ne:gI d ds≠[]):hI d<|wf ds p<|Wa<|gI d ds:=by
 let(_,lm,qC):=sa ne;let kd:=(By B f _).mp lm;let keys:∀k,cK ds k<b7 d k->Wa (gI d ds)<=k:=λk h=>qC k<|(By B f k).mpr h;let dG:0<=Wa (gI d ds):=by let h0:=tR ds<|Wa<|gI d ds;let(q,bc,e):=c9.mp<|B.mem (k:=Wa<|gI d ds) ZW;rw[<-e];show aW q bc
 let au:ds.getD p []∈ds:=getD_mem aC;generalize Wa (gI d ds)=lw at*;let mem:∀x∈wf ds p lw,x∈ds\/x=ds.getD p []++[lw]:=λx h=>qan h;show{λx h=>?_,λx h y aJ=>?_,λx h=>?_,λx h y aJ k DZ=>?_}
 .rcases mem x h with h|rfl
  .show g.up x h
  .rw[mi];show{g.up _ au,GV _ _,λa bl b ao=>?_};rw[gK.mp ao];show g.le _ au a bl lw kd
 .rcases mem x h with h|rfl
  .show g.nn x h y aJ
  .rcases i9.mp aJ with aJ|aJ
   .show g.nn _ au y aJ
   .rw[gK.mp aJ];show dG
 .rcases mem x h with h|rfl
  .show g.zero x h
  .show nO _<|g.zero _ au
 .let mK:cK ds k<b7 d k:=nW (aiq aC lw k) DZ;rcases mem x h with h|rfl
  .show g.le x h y aJ k mK
  .rcases i9.mp aJ with aJ|aJ
   .show g.le _ au y aJ k mK
   .rw[gK.mp aJ];show keys k mK
theorem Tc(B:e8 d)(aW:∀q∈d,0<=q.1):∀(k:Y) {f:O ZI},(∀ds∈f,kj bQ ds/\hI d ds)->∀ds∈ko d bQ k f,kj bQ ds/\hI d ds
 |0,f,h=>h
 |k+1,f,h=>by
  show Tc B aW k (f:=hW d bQ f) λds gS=>?_;delta hW at gS;rcases Bt.mp gS with z|z
  .cases z
  .let(e,he,hd):=mm.mp z;let(g1,p,aC,rfl,Xj,ne):=(h e he).1.grow hd;show{g1,(h e he).2.grow B aW aC ((yw B e).mp Xj) ne}
structure Shape (d:O Z3) (ss:O Y) (ds:O Z0):Prop where
 kE:kj (bY ss) ds
 kk:hI d ds
 all:∀k,cK ds k=b7 d k
def Fy(B:e8 d)(aW:∀q∈d,0<=q.1)(ae:∀s∈ss,1<=s)(h:ds∈gJ d ss):Shape d ss ds:=by
 delta gJ at h;split at h
 .rw[mY]at h;let(h,f):=h;let d6:hI d<|ML ss.H [0]:=by
   show{λx au=>?_,λx au y aJ=>?_,λx au=>?_,λx au y aJ k DZ=>?_}<;>obtain rfl:=(B8.mp au).2
   .show GV _ _
   .rw[gK.mp aJ];show hD _
   .show gK.mpr P
   .rw[gK.mp aJ];let h0:=tR (ML ss.H [0]) k;let(q,bc,e):=c9.mp<|B.mem (k:=k) ZW;rw[<-e];show aW q bc
  let(kE,kk):=Tc B aW (iz ss) (f:=[ML ss.H [0]]) (λe he=>by rw[gK.mp he];show{SR ss ae,d6}) ds h;show{kE,kk,λk=>?_};delta wd at f;rw[iR]at f;let xI:=(yw B ds).mp f.1;let le:=xI k;let nl:¬cK ds k<b7 d k:=λz=>by let:=(By B xI k).mpr z;rw[List.isEmpty_iff.mp f.2]at this;cases this
  show w2 le<|w5.mp nl
 .cases h
def Ln(tw:O Z3)(k:D):b7 (d7 tw) k=b7 tw (k+(tw.headD (0,0)).1):=by
 delta d7;generalize (tw.headD (0,0)).1=t0
 induction tw with
 |nil=>rfl
 |cons q tw aQ =>
  rw[cj,cnt_cons,cnt_cons,aQ];by_cases z:q.1=k+t0
  .rw[Y2 z,Y2 (show q.1-t0=k by omega)]
  .rw[Y3 z,Y3 (show ¬q.1-t0=k by omega)]
def Fz(h:eB tw):∀q∈d7 tw,0<=q.1:=λq bc=>by
 let(p,aC,rfl):=c9.mp bc;let up:=h.up;cases tw with
 |nil=>cases aC
 |cons a tw =>
  show 0<=p.1-a.1;rcases cF.mp aC with rfl|aC
  .show Hq<|hD _
  .rw[cj]at up;let:=qao up<|hZ (f:=(·.1)) aC;show Hq<|kx this
def yx(x y:O D):fX [x,y]=gH x y:=by rw[qZ,Fp];rfl
def akk(X OF:O D)(a b:D):gH (X.map (·+a)) (OF.map (·+b))=(gH X OF).map (·+(a+b)):=by
 delta gH;rw[G4,B9];congr 1;funext x;rw[bv,bv];show ji λy _=>?_;show x+a+(y+b)=x+y+(a+b)
 omega
def air(X OF:O D)(a b k:D):cK [X.map (·+a),OF.map (·+b)] k=cK [X,OF] (k-(a+b)):=by
 delta cK;rw[yx,yx,akk,Cc];congr 2;funext z;show(z+(a+b)==k)=(z==k-(a+b))
 rw[w1,M5,M5];omega
def kQ(tw:O Z3)(s1 s2:Y)(Fa:D):O ZI:=fg<|h7 (gJ (d7 tw) [s1,s2])<|hA (tw.headD (0,0)).1 Fa
def Lo{α:Type}{l:O α}(h:l.H=2):∃a b,l=[a,b]:=by
 match l,h with
 |[a,b],_=>show{(a),b,P}
def FA{t Fa:D}(h:l∈hA t Fa):∃a,l=[a,t-a]/\Fa<=a/\Fa<=t-a:=by let(k,aW,rfl):=c9.mp h;let:=mZ.mp aW;show{Fa+k,P,by omega,by omega}
structure Pair (tw:O Z3) (s1 s2:Y) (Fa:D) (x y:O D):Prop where
 bE:1<=x.H
 xs:x.H<=s1
 dZ:1<=y.H
 aO:y.H<=s2
 aot:x.Pairwise (·<=·)
 H7:y.Pairwise (·<=·)
 Xk:∀z∈x,Fa<=z
 qw:∀z∈y,Fa<=z
 all:∀k,cK [x,y] k=b7 tw k
def afa(h:eB tw){s1 s2:Y}(ae:1<=s1)(ai:1<=s2){Fa:D}(a4:r∈h7 (gJ (d7 tw) [s1,s2]) (hA (tw.headD (0,0)).1 Fa)):∃x y,r=[x,y]/\Pair tw s1 s2 Fa x y:=by
 let(ds,gS,hm):=mm.mp a4;let(lw,Bx,rfl):=c9.mp hm
 let cp:=Fy (tT h.eD) (Fz h) (λs aK=>by
  erw[cF,hl,MW]at aK
  rcases aK with rfl|rfl<;>assumption) gS
 let(X,OF,rfl):=Lo cp.kE.len;let(a,rfl,a1,a2):=FA Bx;show{X.map (·+a),OF.map (·+((tw.headD (0,0)).1-a)),P,?_};let mB:X∈[X,OF]:=cc ..;let uL:OF∈[X,OF]:=cZ _<|cc ..;let aou:((X.H:Y):D)<=(s1:D):=cp.kE.fit 0 Z5;let aov:((OF.H:Y):D)<=(s2:D):=cp.kE.fit 1 Z5;let Xl:=cp.kE.one X mB;let Xm:=cp.kE.one OF uL;show⟨by rw[bZ];show Xl,by rw[bZ];omega,by rw[bZ];show Xm,by rw[bZ];omega,?_,?_,λz hz=>?_,λz hz=>?_,λk=>?_⟩
 .show Ov _ (λ_ _ _=>by omega)<|cp.kk.up X mB
 .show Ov _ (λ_ _ _=>by omega)<|cp.kk.up OF uL
 .let(w,hw,rfl):=c9.mp hz;let:=cp.kk.nn X mB w hw;omega
 .let(w,hw,rfl):=c9.mp hz;let:=cp.kk.nn OF uL w hw;omega
 .rw[air,cp.all,Ln];congr 1;omega
def FC(h:eB tw){s1 s2:Y}(ae:1<=s1)(ai:1<=s2){Fa:D}(h0:0<=Fa):∀l∈h7 (gJ (d7 tw) [s1,s2]) (hA (tw.headD (0,0)).1 Fa),l≠[]/\∀d∈l,∀x∈d,0<=x:=λl az=>by
 let(x,y,rfl,V8):=afa h ae ai az;show{by simp,λd hd z hz=>?_};erw[cF,hl,MW]at hd;rcases hd with rfl|rfl
 .let:=V8.Xk z hz;show ce h0 this
 .let:=V8.qw z hz;show ce h0 this
def Lp:Bm=Fe:=rfl
def pow_two(s1 s2:Y)(ae:1<=s1/\s1<=8)(ai:1<=s2/\s2<=8):[s1,s2].H^iz [s1,s2]<=16384:=by
 let g:iz [s1,s2]<=14:=by delta iz bY;erw[cj,m1,bA,dv,nR];omega
 show 2^iz [s1,s2]<=16384;show bw (uj Z1 g) Z1
theorem Td:∀a b:O D,jK (a.map T.int) (b.map T.int)=decide (a=b)
 |[],[]=>rfl
 |[],_::_=>rfl
 |_::_,[]=>rfl
 |x::a,y::b=>by
  rw[cj,cj,jK,Td a b,d1];by_cases h:x=y
  .subst h;simp
  .simp[h]
theorem Te:∀a b:O Z0,jK (a.map ar) (b.map ar)=decide (a=b)
 |[],[]=>rfl
 |[],_::_=>rfl
 |_::_,[]=>rfl
 |x::a,y::b=>by
  let e:d1 (ar x) (ar y)=decide (x=y):=Td x y;rw[cj,cj,jK,Te a b,e];by_cases h:x=y
  .subst h;simp
  .simp[h]
def Lq(k:Y)(a:O Z0):ey (k+2) (a6 a)=Y0:=by show(a.map ar).all (ey<|k+1)=Y0;rw[y5,iq];show λl _=>ad2 k l
def Tf(t Fa:D):(hA t Fa).H=(t-Fa+1-Fa).M:=by delta hA;rw[bZ,ue]
end g9
namespace e4
open PySem a8 a8.bD
def Bz:bS:=eX (fU<|aq 0) (cY [C,J 0,J 1]) (b4 0) yes<|cD 1 du.Bg Ze
def BA:bS:=eX (fU<|aq 0) (cY [C,J 0,J 1]) (b4 0) yes<|aD cz<|af (aq 0) ZJ
def FD:br:=(bk (en (jd (gk<|cG<|aD (iP .list) ZL)<|gk<|cG<|aq 0) (dQ<|aH<|.aU Y1) eJ)<|bk (fq 0<|en (gk<|cG<|aD wu<|af Bz aw) (dQ<|aH<|.aU Y1) eJ)<|bk (fq 0<|cX 1 BA)<|dQ<|aD hu<|af (aq 1)<|af (aD EM ZP) aw)
def q1:dV:=ea 2<|FD
def FE:br:=(en (gk<|cG<|cD 1 q1 Ze) jG eJ)
def oD:dV:=ea 1<|FE
def BB:gE:=(kK (gk<|cG<|cD 1 q1 Ze) (nt 2 mz) iL)
def pY:l4:=fnX 1 BB
def kR:br:=(jH<|cD 3 du.vX<|a0 (aq 4)<|a0 Z8<|a0 (aH<|.int 8) cw)
def q2:br:=eo (e2<|aq 1) (b4 4) kR
def FG:br:=(bk (jH<|cD 1 oD Ze)<|bk (en (jd (gk<|cG<|aD (iP .tuple) ZP)<|cG<|aD hv<|af (aD fG ZP) ZN) jG eJ)<|bk (eA 1 q2)<|jH<|cD 3 du.vX<|a0 (aq 3)<|a0 Z9<|a0 (aH<|.int 30) cw)
def oO:dV:=ea 5<|FG
def Io:gE:=h9 (kK (jd (gk<|cG<|aD (iP .tuple) ZP)<|cG<|aD hv<|af (aD fG ZP) ZN) (nt 3<|xk (aq 2) mz) iL) (en (jd (gk<|cG<|aD (iP .tuple) ZP)<|cG<|aD hv<|af (aD fG ZP) ZN) jG eJ)<|h9 (BP (e2<|aq 1) (b4 4) kR<|kJ 3 du.kP<|a0 (aq 4)<|a0 Z8<|a0 (aH<|.int 8) cw) (eA 1 q2)<|kJ 3 du.kP<|a0 (aq 3)<|a0 Z9<|a0 (aH<|.int 30) cw
def yy:br:=(j0 1 me (aD pD ZN)<|aD dE<|af (aD kH<|af (aq 1)<|af (aD pD ZN) ZJ) ZT)
def yz:br:=eo (e2<|cD 1 du.Bn Ze) (b4 2) yy
def FH:br:=(bk (cX 1 pB)<|bk yz<|dQ<|aD r3 ZP)
def yA:dV:=ea 3<|FH
def Tg:bS:=eX (rR<|af (aD cz<|af (BU (aq 6)<|c6<|af (bB<|aq 1) aw)<|af (aD p3 ZT) aw)<|af (aD dE<|af (aq 2) ZT) aw) (cY [C,J 0,J 1,J 2,J 3,J 4,J 5,J 6]) (b4 0) yes<|aD dE<|af (aq 7)<|af Zd aw
def FI:br:=(hN 5 hj Tg)
def Th:br:=eo (e2<|aq 3) (b4 6) FI
def FJ:br:=(bk (cX 5<|dA aw)<|bk (eA 3 Th)<|oj 3 5)
def Lr:br:=eo (l2 ZL) (b4 4) FJ
def Ti:br:=(bk (cX 3<|dA<|af (bB<|c6 aw) aw)<|bk Lr<|lD 3)
def Mv:dV:=ea 7<|Ti
end e4
namespace we
open PySem a8 a8.bD
def Bz:bS:=eX (fU<|aq 0) (cY [C,J 0,J 1]) (b4 0) yes<|cD 1 du.Bg Ze
def BA:bS:=eX (fU<|aq 0) (cY [C,J 0,J 1]) (b4 0) yes<|aD cz<|af (aq 0) ZJ
def FD:br:=(bk (en (jd (gk<|cG<|aD (iP .list) ZL)<|gk<|cG<|aq 0) (dQ<|aH<|.aU Y1) eJ)<|bk (fq 0<|en (gk<|cG<|aD wu<|af Bz aw) (dQ<|aH<|.aU Y1) eJ)<|bk (fq 0<|cX 1 BA)<|dQ<|aD hu<|af (aq 1)<|af (aD EM ZP) aw)
def q1:dV:=ea 2<|FD
def FE:br:=(en (gk<|cG<|cD 1 q1 Ze) jG eJ)
def oD:dV:=ea 1<|FE
def BB:gE:=(kK (gk<|cG<|cD 1 q1 Ze) (nt 2 mz) iL)
def pY:l4:=fnX 1 BB
def kR:br:=(jH<|cD 3 du.vX<|a0 (aq 4)<|a0 Z8<|a0 (aH<|.int 8) cw)
def q2:br:=eo (e2<|aq 1) (b4 4) kR
def FG:br:=(bk (jH<|cD 1 oD Ze)<|bk (en (jd (gk<|cG<|aD (iP .tuple) ZP)<|cG<|aD hv<|af (aD fG ZP) ZN) jG eJ)<|bk (eA 1 q2)<|jH<|cD 3 du.vX<|a0 (aq 3)<|a0 Z9<|a0 (aH<|.int 30) cw)
def oO:dV:=ea 5<|FG
def Ls:gE:=(h9 (kJ 1 pY Ze) (jH<|cD 1 oD Ze)<|h9 (kK (jd (gk<|cG<|aD (iP .tuple) ZP)<|cG<|aD hv<|af (aD fG ZP) ZN) (nt 3<|xk (aq 2) mz) iL) (en (jd (gk<|cG<|aD (iP .tuple) ZP)<|cG<|aD hv<|af (aD fG ZP) ZN) jG eJ)<|h9 (BP (e2<|aq 1) (b4 4) kR<|kJ 3 du.kP<|a0 (aq 4)<|a0 Z8<|a0 (aH<|.int 8) cw) (eA 1 q2)<|kJ 3 du.kP<|a0 (aq 3)<|a0 Z9<|a0 (aH<|.int 30) cw)
def sd:l4:=fnX 5 Ls
def se:bS:=cD 2 du.Bm<|a0 (aq 0)<|a0 (aq 1) cw
def Tj:br:=(bk (jH<|cD 4 oO<|a0 (aq 0)<|a0 (aq 1)<|a0 (aH<|.int 2)<|a0 (aq 2) cw)<|dQ<|cD 2 du.yr<|a0 se<|a0 (cD 3 du.v8<|a0 (aD cz<|af (aD cz<|af (aq 0) ZJ) ZJ)<|a0 (aH<|.int 2)<|a0 (aq 2) cw) cw)
def FK:dV:=ea 3<|Tj
def t6:fy:=jd (cG<|aD lF<|af (aD cz<|af (aq 1) ZJ)<|af (aH<|.int 4) aw)<|cG<|aD lF<|af (aD fF<|af (aD cz<|af (aq 1) ZT)<|af (aD cz<|af (aq 1)<|af (aH<|.int 2) aw) aw)<|af (aH<|.int 16) aw
def qb:fy:=cG<|aD lF<|af (aD fF<|af (aD fG<|af (aq 3) aw)<|af (aD fG<|af (aq 4) aw) aw)<|af (aH<|.int 400) aw
def wg:bS:=cD 3 du.v8<|a0 (aD cz<|af (aD cz<|af (aq 0) ZJ) ZJ)<|a0 (aH<|.int 3)<|a0 (aq 2) cw
def Tn:br:=(bk (jH<|cD 4 oO<|a0 (aq 0)<|a0 (aq 1)<|a0 (aH<|.int 3)<|a0 (aq 2) cw)<|bk (en t6 jG eJ)<|bk (cX 3 se)<|bk (cX 4 wg)<|bk (en qb jG eJ)<|dQ<|cD 2 du.yr<|a0 (aq 3)<|a0 (aq 4) cw)
def wh:dV:=ea 5<|Tn
def FL:gE:=(h9 (kJ 4 sd<|a0 (aq 0)<|a0 (aq 1)<|a0 (aH<|.int 3)<|a0 (aq 2) cw) (jH<|cD 4 oO<|a0 (aq 0)<|a0 (aq 1)<|a0 (aH<|.int 3)<|a0 (aq 2) cw)<|h9 (kK t6 (nt 4 mz) iL) (en t6 jG eJ)<|h9 iL (cX 3 se)<|h9 iL (cX 4 wg)<|h9 (kK qb (nt 4 mz) iL) (en qb jG eJ) iL)
def oE:l4:=fnX 5 FL
def afb:br:=(bk (cX 4<|aD p1 ZN)<|bk (cX 5<|aD fW<|af (aq 4)<|af (aD cz<|af (aq 1) ZJ) aw)<|bk (cX 6<|aD Gg<|af (aD cz<|af (aq 2)<|af (aq 4) aw)<|af (aD xY<|af (aq 1)<|af (aD cz<|af (aq 1) ZJ) aw) aw)<|bk (en (jd (cG<|aD lE<|af (aq 5) ZJ)<|cG<|aD hu<|af (aq 6) ZJ) (dQ<|aH .b0) eJ)<|bk (cX 7<|aD fF<|af (c6<|af (bB<|aq 5) aw)<|af (aq 6) aw)<|bk (cX 2<|cD 2 du.oA<|a0 (aq 2)<|a0 (cD 1 du.pS<|a0 (c6<|af (bB<|aq 7)<|af (bB<|aq 1) aw) cw) cw)<|bk (en (cG<|aD BO ZN) (dQ<|aH .b0) eJ)<|hN 3 hj<|aq 7)
def yB:br:=I4 (cG<|aq 2) afb
def To:br:=(bk (jH<|cD 1 oD Ze)<|bk (jH<|cD 1 du.E5<|a0 (aq 1) cw)<|bk (cX 2<|aD tx ZL)<|bk (cX 3<|dA aw)<|bk yB<|dQ<|aD lG<|af (aq 3) aw)
def yC:dV:=ea 8<|To
def yy:br:=(j0 1 me (aD pD ZN)<|aD dE<|af (aD kH<|af (aq 1)<|af (aD pD ZN) ZJ) ZT)
def yz:br:=eo (e2<|cD 1 du.Bn Ze) (b4 2) yy
def FH:br:=(bk (cX 1 pB)<|bk yz<|dQ<|aD r3 ZP)
def yA:dV:=ea 3<|FH
def wi:br:=(Ar [2,3,4] (dQ<|cD 3 wh<|a0 (aq 0)<|a0 (aq 1)<|a0 (aq 2) cw) (kJ 3 oE<|a0 (aq 0)<|a0 (aq 1)<|a0 (aq 2) cw) du.RX)
def lL:dV:=ea 4<|wi
def afc:bS:=eX (rR<|af (aD cz<|af (BU (aq 6)<|c6<|af (bB<|aq 1) aw)<|af (aD p3 ZT) aw)<|af (aD dE<|af (aq 2) ZT) aw) (cY [C,J 0,J 1,J 2,J 3,J 4,J 5,J 6]) (b4 0) yes<|aD dE<|af (aq 7)<|af Zd aw
def afd:br:=(hN 5 hj afc)
def afe:br:=eo (e2<|aq 3) (b4 6) afd
def aff:br:=(bk (cX 5<|dA aw)<|bk (eA 3 afe)<|oj 3 5)
def afg:br:=eo (l2 ZL) (b4 4) aff
def afh:br:=(bk (cX 3<|dA<|af (bB<|c6 aw) aw)<|bk afg<|lD 3)
def FN:dV:=ea 7<|afh
def Lu:bS:=eX (l2<|af (aH<|.int 3) aw) (cY [C,J 0,J 1,J 2,J 3,J 4,J 5,J 6,J 7,J 8,J 9,J 10,J 11,J 12,J 13,J 14]) (b4 0) yes<|cD 4 du.ys<|a0 (aq 1)<|a0 (aq 2)<|a0 (aD dE<|af Z8<|af (cD 3 du.r8<|a0 (aq 1)<|a0 (aq 2)<|a0 (aH<|.int 3) cw) aw)<|a0 (aH<|.int 3) cw
def Lv:bS:=eX (fU<|aq 2) (cY [C,J 0,J 1,J 2,J 3,J 4,J 5,J 6,J 7,J 8,J 9,J 10,J 11,J 12,J 13,J 14]) (b4 0) yes<|aD fG ZL
def FO:br:=(j0 9 me (aq 10)<|aD dE<|af (aD kH<|af (aq 9)<|af (aq 10) ZJ) ZT)
def Lw:br:=eo (e2<|aq 8) (b4 10) FO
def FP:bS:=eX (fU<|cD 3 FK<|a0 (aD r3<|af (aq 9) aw)<|a0 (wy (aq 4) (vm Z8) vl)<|a0 (aq 5) cw) (cY [C,J 0,J 1,J 2,J 3,J 4,J 5,J 6,J 7,J 8,J 9,J 10,J 11,J 12,J 13,J 14]) (b4 0) yes<|aD dE<|af (c6<|af (bB<|aq 8) aw) ZL
def BC:br:=bk (cX 9 pB)<|bk (eA 8 Lw)<|hN 6 hj FP
def wj:br:=en (wq (cG<|aD Al<|af (aq 8) aw)<|cG<|aD hu<|af (aD fG<|af (aq 8) aw)<|af (aD fF<|af (aD cz<|af (aq 4) ZT)<|af (aD cz<|af (aq 4)<|af (aH<|.int 2) aw) aw) aw) BC eJ
def FQ:br:=(bk (cX 8<|aH .b0)<|bk (en (cG<|aD jE<|af (aD dE<|af (aD cz<|af (aq 7) ZJ)<|af (aD fF<|af (aH<|.int 2)<|af (aq 5) aw) aw)<|af (aD cz<|af (aD cz<|af (aq 3) ZJ) ZJ) aw) (cX 8<|qJ (cG<|aD jE<|af (aD Ap<|af (aq 7) aw)<|af (aH<|.int 30) aw) (cD 2 yC<|a0 (aq 3)<|a0 (aq 7) cw)<|aH .b0) eJ) wj)
def wk:br:=eo (e2<|cD 3 FN<|a0 (aD cz<|af (aq 4) ZJ)<|a0 (aq 5)<|a0 (aD fW<|af (aD cz<|af (aD cz<|af (aq 3)<|af (aD p3 ZT) aw) ZJ)<|af (aD fF<|af (aH<|.int 2)<|af (aq 5) aw) aw) cw) (b4 7) FQ
def FR:bS:=eX (fU<|aq 2) (cY [C,J 0,J 1,J 2,J 3,J 4,J 5,J 6,J 7,J 8,J 9,J 10,J 11,J 12,J 13,J 14]) (b4 0) yes<|aD cz<|af (aq 0) ZJ
def FT:bS:=eX (fU<|aq 13) (cY [C,J 0,J 1,J 2,J 3,J 4,J 5,J 6,J 7,J 8,J 9,J 10,J 11,J 12,J 13,J 14]) (b4 0) yes<|aD fF<|af (c6<|af (bB Z9) aw) ZL
def t7:bS:=c6<|af (bB<|aH<|.str "refused")<|af (bB<|aH<|.int 4) aw
def sg:br:=en (wq (cG<|aD hv<|af (aq 11)<|af t7 aw)<|jd (cG<|aD hv<|af (aq 11)<|af (aD DY<|af (aq 6) aw) aw)<|cG<|aD lF<|af (aD fG<|af (aq 11) aw)<|af (aH<|.int 400) aw) (dQ<|aH<|.aU Y1) eJ
def sh:br:=en (cG<|aD hu<|af (aq 11)<|af t7 aw) (dQ<|aD lF<|af (aD fG<|af (aq 6) aw)<|af (aH<|.int 400) aw) eJ
def zV:br:=cX 3<|cD 1 yA<|a0 (aq 2) cw
def zW:br:=fq 2<|cX 4<|aD lG<|af Lv aw
def zX:br:=cX 5<|cD 3 du.pT<|a0 (aq 0)<|a0 (aq 1)<|a0 (dA<|af (bB Z9)<|af (bB Z9)<|af (bB Z8) aw) cw
def rI:br:=cX 11<|cD 3 lL<|a0 (aq 3)<|a0 (aq 4)<|a0 (aq 5) cw
def yD:br:=fq 2<|en (wq (cG<|aD oh<|af (aD p1<|af FR aw)<|af (aq 5) aw)<|cG<|aD A6<|af (aq 2)<|af (aq 11) aw) (dQ<|aH<|.aU Y1) eJ
def Vc:bS:=dA<|af (bB<|aH .b0)<|af (bB<|c6<|af (bB Z8)<|af (bB Z8) aw)<|af (bB<|c6<|af (bB Z8)<|af (bB Z9)<|af (bB Z8) aw)<|af (bB<|c6<|af (bB Z8)<|af (bB<|aH<|.int 9)<|af (bB Z8) aw)<|af (bB<|dA<|af (bB Z8)<|af (bB Z8)<|af (bB Z8) aw)<|af (bB<|c6<|af (bB Z8)<|af (bB Z8)<|af (bB<|aH<|.aU Y0) aw)<|af (bB<|aH<|.int 4) aw
def yE:br:=cX 12<|cD 3 du.pT<|a0 (aq 0)<|a0 (aq 1)<|a0 Vc cw
def yF:br:=en (jd (cG<|aD hv<|af (cD 3 lL<|a0 (aq 3)<|a0 (aq 12)<|a0 Z9 cw)<|af (c6<|af (bB<|aH<|.str "refused")<|af (bB<|aH<|.int 3) aw) aw)<|cG<|aD hv<|af (cD 3 lL<|a0 (aq 3)<|a0 (aq 4)<|a0 (aD p3 ZT) cw)<|af (c6<|af (bB<|aH<|.str "refused")<|af (bB<|aH<|.int 3) aw) aw) (dQ<|aH<|.aU Y1) eJ
def Vd:bS:=dA<|af (bB<|c6<|af (bB<|aH<|.int 4)<|af (bB Z8)<|af (bB Z8) aw)<|af (bB<|c6<|af (bB Z8)<|af (bB<|aH<|.int 4)<|af (bB<|aH<|.int 4) aw)<|af (bB<|c6<|af (bB<|aH<|.int 4)<|af (bB<|aH<|.int 2)<|af (bB<|aH<|.int 8) aw)<|af (bB<|c6<|af (bB Z8)<|af (bB<|aH<|.int 2)<|af (bB<|aH<|.int 8) aw) aw
def tU:br:=cX 13<|cD 3 du.pT<|a0 (aq 0)<|a0 (aq 1)<|a0 Vd cw
def wm:br:=fq 13<|en (cG<|aD hv<|af (cD 3 lL<|a0 (dA<|af (bB<|c6<|af (bB Z9)<|af (bB<|aD fF<|af (aD fF<|af (aD cz<|af (aq 13) ZJ)<|af (aD cz<|af (aq 13) ZT) aw)<|af (aD cz<|af (aq 13)<|af (aH<|.int 2) aw) aw) aw) aw)<|a0 (aq 13)<|a0 Z9 cw)<|af (dA<|af (bB<|aD lG<|af FT aw) aw) aw) (dQ<|aH<|.aU Y1) eJ
def Ve:bS:=dA<|af (bB<|c6<|af (bB<|aH<|.int 5)<|af (bB Z8)<|af (bB Z8) aw)<|af (bB<|c6<|af (bB Z8)<|af (bB<|aH<|.int 3)<|af (bB<|aH<|.int 6) aw)<|af (bB<|c6<|af (bB<|aH<|.int 8)<|af (bB<|aH<|.int 8)<|af (bB<|aH<|.int 8) aw)<|af (bB<|c6<|af (bB<|aH<|.int 2)<|af (bB<|aH<|.int 8)<|af (bB<|aH<|.int 3) aw) aw
def tV:br:=cX 14<|cD 3 du.pT<|a0 (aq 0)<|a0 (aq 1)<|a0 Ve cw
def xK:br:=cX 2<|aD lG<|af Lu aw
def Ip:br:=cX 6<|dA aw
def tW:br:=dQ<|Ai (aD hu<|af (cD 3 lL<|a0 (aq 3)<|a0 (aq 14)<|a0 Z9 cw)<|af t7 aw)<|aD hu<|af (cD 3 lL<|a0 (dA aw)<|a0 (aq 4)<|a0 Z9 cw)<|af (c6<|af (bB<|aH<|.str "refused")<|af (bB<|aH<|.int 2) aw) aw
def GH:br:=(bk xK<|bk zV<|bk zW<|bk zX<|bk Ip<|bk wk<|bk rI<|bk sg<|bk sh<|bk yD<|bk yE<|bk yF<|bk tU<|bk wm<|bk tV tW)
end we
namespace we
open PySem PySem.Spec PyProof.Rows a8 a8.bD
noncomputable def top(i:Y):MM:=PySem.Challenge.pw_dicesums_k05_whole_threes.main.body.getD i<|.Pass {0,0,0,0}
abbrev afi:MM:=top 13
abbrev afj:MM:=top 14
abbrev afk:MM:=top 15
abbrev afl:MM:=top 16
abbrev afm:MM:=top 17
abbrev afn:MM:=top 18
abbrev afo:MM:=top 19
abbrev afp:MM:=top 20
abbrev afq:MM:=top 21
abbrev afr:MM:=top 29
abbrev afs:MM:=top 37
abbrev anJ:MM:=top 36
abbrev aft:MM:=top 35
abbrev al3:MM:=top 30
abbrev afu:MM:=top 33
abbrev anK:MM:=top 32
abbrev afv:MM:=top 31
abbrev afw:MM:=top 34
abbrev anL:MM:=top 26
abbrev afx:MM:=top 27
abbrev afy:MM:=top 28
abbrev afz:MM:=top 39
abbrev afA:MM:=top 40
abbrev afB:MM:=top 41
abbrev afC:MM:=top 42
abbrev afD:MM:=top 43
abbrev afE:MM:=top 44
abbrev afF:MM:=top 45
abbrev Tp:MM:=top 46
abbrev afG:MM:=top 47
abbrev afH:MM:=top 48
abbrev Lx:MM:=top 49
set_option genInjectivity false in
set_option genSizeOf false in
structure Zq (K:MN) (bf:ME->MB ay) where
 h0:MJ
 X:K.In h0
 G:h0.Ns k4 bf
 Xn:Fr
 Xo:Fr
 Xp:Fr
 Xq:Fr
 Xr:Fr
 Xs:Fr
 Xt:Fr
 Xu:Fr
 Xv:Fr
 Xw:Fr
 Xx:Fr
 zJ:Fr
 Xy:Fr
 Xz:Fr
 XA:Fr
 H3:Fr
 XB:Fr
 XC:Fr
 Im:Fr
 XD:Fr
 XE:Fr
 XF:Fr
 XG:Fr
 XH:Fr
 XI:Fr
 cK:Fr
 zI:Fr
 XJ:Fr
 Dq:Fr
 XK:Fr
 XM:Fr
 Dr:Fr
 XN:Tok
 XO:Tok
 XP:Tok
 XQ:Tok
 XR:Tok
 XS:Tok
 XT:Tok
 zY:MC
 xM:MC
 xN:MC
 lu:MC
 xO:MC
 lx:MC
 ly:MC
 XU:fv K "is_number" afi Xn
 XW:fv K "is_die" afj Xo
 XX:fv K "is_total_row" afk Xp
 XY:fv K "is_totals" afl Xq
 NX:fv K "need_number" afm Xr
 XZ:fv K "need_die" afn Xs
 NY:fv K "need_totals" afo Xt
 X0:fv K "counted" afp Xu
 aH:fv K "product" afq Xv
 NZ:fv K "need_asked" afr Xw
 dL:fv K "raised" afs Xx
 X1:fv K "moved" anJ zJ
 X2:fv K "all_moved" aft Xy
 X3:fv K "rest" al3 Xz
 X4:fv K "with_face" afu XA
 X5:fv K "grown" anK H3
 iu:fv K "shapes" afv XB
 Ds:fv K "starts" afw XC
 X6:fv K "pairs" anL Im
 N0:fv K "threes" afx XD
 X7:fv K "missing" afy XE
 X8:fv K "_law_cell_at" afz XF
 xg:fv K "_law_mixed" afA XG
 X9:fv K "_law_draw" afB XH
 Ya:fv K "_law_pick" afC XI
 Yb:fv K "_law_die" afD cK
 Yc:fv K "_law_rolls" afE zI
 Yd:fv K "_law_totals" afF XJ
 xP:fv K "_law_which" Tp Dq
 Ye:fv K "_law_ask" afG XK
 Yf:fv K "_law_firsts" afH XM
 N1:fv K "law" Lx Dr
 Yg:bf "ValueError" = C
 Yh:bf "all" = C
 Yi:bf "bool" = C
 Yj:bf "dict" = C
 Yk:bf "enumerate" = C
 Yl:bf "int" = C
 pl:bf "isinstance" = C
 Ym:bf "len" = C
 Iq:bf "list" = C
 HU:bf "max" = C
 Yn:bf "min" = C
 N2:bf "range" = C
 Yo:bf "set" = C
 Dt:bf "sorted" = C
 N3:bf "sum" = C
 N4:bf "tuple" = C
 Yp:bf "GREATEST_FACE" = J (.int 30 XN)
 Yq:bf "GREATEST_TOTAL" = J (.int 120 XO)
 Yr:bf "MOST_FACES" = J (.int 8 XP)
 Ys:bf "MOST_FIRST_FACES" = J (.int 4 XQ)
 Yt:bf "MOST_OTHER_ROLLS" = J (.int 16 XR)
 Yu:bf "MOST_THREES" = J (.int 400 XS)
 Yv:bf "MOST_WAYS" = J (.int 4096 XT)
 tf:bf "DiceError" = J (.ref zY)
 Yw:bf "NoDice" = J (.ref xM)
 Yx:bf "NoDie" = J (.ref xN)
 Du:bf "NoNumber" = J (.ref lu)
 Yy:bf "NoText" = J (.ref xO)
 Dv:bf "NoTotals" = J (.ref lx)
 Dw:bf "TooMany" = J (.ref ly)
 Yz:W.excIn K lu excMro "ValueError.__new__" = Y0
 YA:W.excIn K lx excMro "ValueError.__new__" = Y0
 YB:W.excIn K ly excMro "ValueError.__new__" = Y0
 YC:Clause K zY
 YD:yS K lu zY
 YE:yS K lx zY
 YF:yS K ly zY
 Ir:vR K xN
 It:vR K xM
 N5:vR K lx
 N6:vR K lu
 N7:vR K ly
 Iu:vR K xO
 YG:nE K lx
 YH:MX K (.ref lx) (.type "ValueError")=J Y0
 YI:MX K (.ref lx) (.ref xN)=J Y1
 YJ:MX K (.ref lx) (.ref xM)=J Y1
 zZ:MX K (.ref lx) (.ref lx)=J Y0
 YK:MX K (.ref lx) (.ref lu)=J Y1
 YL:MX K (.ref lx) (.ref ly)=J Y1
 YM:MX K (.ref lx) (.ref xO)=J Y1
 YN:nE K lu
 YO:MX K (.ref lu) (.type "ValueError")=J Y0
 YP:MX K (.ref lu) (.ref xN)=J Y1
 YQ:MX K (.ref lu) (.ref xM)=J Y1
 YR:MX K (.ref lu) (.ref lx)=J Y1
 z0:MX K (.ref lu) (.ref lu)=J Y0
 YS:MX K (.ref lu) (.ref ly)=J Y1
 YT:MX K (.ref lu) (.ref xO)=J Y1
 YU:nE K ly
 YV:MX K (.ref ly) (.type "ValueError")=J Y0
 YW:MX K (.ref ly) (.ref xN)=J Y1
 YX:MX K (.ref ly) (.ref xM)=J Y1
 YY:MX K (.ref ly) (.ref lx)=J Y1
 YZ:MX K (.ref ly) (.ref lu)=J Y1
 z1:MX K (.ref ly) (.ref ly)=J Y0
 aaa:MX K (.ref ly) (.ref xO)=J Y1
abbrev z2(_:dn)(_:cV)(K:MN)(bf:ME->MB ay)(_:MJ)(_:MC):=Zq K bf
section
variable {V8:dn}{w:cV}{K:MN}{bf:ME->MB ay}{base:MJ}{L:MC}
abbrev N8(_:z2 V8 w K bf base L)(lv:Y)(n:ME)(ps:O ME)(f:dV):Prop:=C8 V8 w K bf base lv n ps f L
abbrev lY(_:z2 V8 w K bf base L)(lv:Y)(n:ME)(ps:O ME)(f:l4):Prop:=EW V8 w K bf base lv n ps f L
variable (OF:z2 V8 w K bf base L)
include OF
def aab{n:ME}{st:MM}{r:Fr}{lv:Y}{ps:O ME}{b:br}(h:fv K n st r)(ls:O ME)
  (ao:∀{dm:ay} {A:dH} {cu:O Env} {s:aN} {H:aM} {E:iS},fs lv (A.deeper<|jm n (eM st) s.L r.f dm)->(ps++ls).Nodup->iy (j8 jD V8 w K bf base (ps++ls) n (eM st) r.f dm A cu s H E).ob L (iZ st) b)
  (cp:mV (ps++ls) ps<|eM st:=by show vb) (bi:qB n st ps:=by first|show ti λ_ _ _ _ _ _ _=>P|show z3 λ_ _ _ _ _ _ _ _=>P|show z4 λ_ _ _ _ _ _ _ _ _=>P|show z5 λ_ _ _ _ _ _ _ _ _ _=>P|show DA λ_ _ _ _ _ _ _ _ _ _ _=>P):N8 OF (lv+1) n ps<|ea (ps++ls).H b:=adR OF.X OF.G h (λ_ _ _ _ _ _ a4 bG=>ao a4 bG) cp bi
def aac{n:ME}{st:MM}{r:Fr}{lv:Y}{ps:O ME}{b:gE}(h:fv K n st r)(ls:O ME)
  (ao:∀{dm:ay} {A:dH} {cu:O Env} {s:aN} {H:aM} {E:iS},fs lv (A.deeper<|jm n (eM st) s.L r.f dm)->(ps++ls).Nodup->mP Y1 (j8 (oy V8 w) V8 w K bf base (ps++ls) n (eM st) r.f dm A cu s H E) L (iZ st) b)
  (cp:mV (ps++ls) ps<|eM st:=by show vb) (bi:qB n st ps:=by first|show ti λ_ _ _ _ _ _ _=>P|show z3 λ_ _ _ _ _ _ _ _=>P|show z4 λ_ _ _ _ _ _ _ _ _=>P|show z5 λ_ _ _ _ _ _ _ _ _ _=>P|show DA λ_ _ _ _ _ _ _ _ _ _ _=>P):lY OF (lv+1) n ps<|fnX (ps++ls).H b:=ahe OF.X OF.G h (λ_ _ _ _ _ _ a4 bG=>ao a4 bG) cp bi
def gG{G:Prop}{n:ME}{st:MM}{r:Fr}{l:Y}{b:br}(lv:Y)(ps ls:O ME)(f:dV)(g:N8 OF lv n ps f->G)(h:fv K n st r)
  (ao:∀{dm:ay} {A:dH} {cu:O Env} {s:aN} {H:aM} {E:iS},fs l (A.deeper<|jm n (eM st) s.L r.f dm)->(ps++ls).Nodup->iy (j8 jD V8 w K bf base (ps++ls) n (eM st) r.f dm A cu s H E).ob L (iZ st) b)
  (cp:mV (ps++ls) ps<|eM st:=by show vb) (bi:qB n st ps:=by first|show ti λ_ _ _ _ _ _ _=>P|show z3 λ_ _ _ _ _ _ _ _=>P|show z4 λ_ _ _ _ _ _ _ _ _=>P|show z5 λ_ _ _ _ _ _ _ _ _ _=>P|show DA λ_ _ _ _ _ _ _ _ _ _ _=>P) (az:lv=l+1:=by rfl) (hf:f=ea (ps++ls).H b:=by rfl):G:=by
 subst az hf;show g<|aab OF h ls ao cp bi
def FU{G:Prop}{n:ME}{st:MM}{r:Fr}{l:Y}{b:gE}(lv:Y)(ps ls:O ME)(f:l4)(g:lY OF lv n ps f->G)(h:fv K n st r)
  (ao:∀{dm:ay} {A:dH} {cu:O Env} {s:aN} {H:aM} {E:iS},fs l (A.deeper<|jm n (eM st) s.L r.f dm)->(ps++ls).Nodup->mP Y1 (j8 (oy V8 w) V8 w K bf base (ps++ls) n (eM st) r.f dm A cu s H E) L (iZ st) b)
  (cp:mV (ps++ls) ps<|eM st:=by show vb) (bi:qB n st ps:=by first|show ti λ_ _ _ _ _ _ _=>P|show z3 λ_ _ _ _ _ _ _ _=>P|show z4 λ_ _ _ _ _ _ _ _ _=>P|show z5 λ_ _ _ _ _ _ _ _ _ _=>P|show DA λ_ _ _ _ _ _ _ _ _ _ _=>P) (az:lv=l+1:=by rfl) (hf:f=fnX (ps++ls).H b:=by rfl):G:=by
 subst az hf;show g<|aac OF h ls ao cp bi
def afI:bf "_law_which" = J (.ref OF.Dq.f):=OF.xP.bf OF.X OF.G
def Ly(aI:oe.cls=.ref aP)(hd:oe.dict=C)(bu:∃ag,oe.Y=.fields ag)(iI:nE K aP)(b2:Y->MF)(aad:M6 K ZH (.ref OF.xN)=J (b2 0))(aae:M6 K ZH (.ref OF.xM)=J (b2 1))(aaf:M6 K ZH (.ref OF.lx)=J (b2 2))(aag:M6 K ZH (.ref OF.lu)=J (b2 3))(aah:M6 K ZH (.ref OF.ly)=J (b2 4))(aai:M6 K ZH (.ref OF.xO)=J (b2 5))(aaj:M6 K ZH (.type "ValueError")=J (b2 11)):EV V8 w K bf base 1 OF.Dq.f (OF.Dq.fd "_law_which" Tp) ["_law_e"] [(e,oe)] (qN K L 1<|du.v9 e b2) :=
 ajS (lv:=0) OF.xP.fn (vb (N:=["_law_e","_law_own"])) (λdm A cu s H a4 =>
  (D8 (Vw 1 (Jl<|ot (ym (e:=e) (oe:=oe) (aP:=aP) (.head _) aI hd bu iI (pG 0) aad OF.pl OF.Yx)<|ot (ym (e:=e) (oe:=oe) (aP:=aP) (.head _) aI hd bu iI (pG 0) aae OF.pl OF.Yw)<|ot (ym (e:=e) (oe:=oe) (aP:=aP) (.head _) aI hd bu iI (pG 0) aaf OF.pl OF.Dv)<|ot (ym (e:=e) (oe:=oe) (aP:=aP) (.head _) aI hd bu iI (pG 0) aag OF.pl OF.Du) x7) (show(["_law_e","_law_own"]:O ME).Nodup by decide))<|D8 (Vx 1<|Jl<|ot (ym (e:=e) (oe:=oe) (aP:=aP) (.head _) aI hd bu iI (pG 0) aah OF.pl OF.Dw)<|ot (ym (e:=e) (oe:=oe) (aP:=aP) (.head _) aI hd bu iI (pG 0) aai OF.pl OF.Yy) x7)<|D8 (UP (pe.st<|UO (rU (US a4.tg<|Py a4.BW) (adf (pG 1) Mj {(P),P,P,P}) Jc)<|Vt<|Vs<|Vr<|ajR (e:=e) (oe:=oe) (aP:=aP) (.head _) aI hd bu iI (pG 0) aaj OF.pl OF.Yg PyProof.Rows.Boot.«ValueError») (D7<|D9<|Jk<|ot Jd<|ot (QA Jc) x7) Pc)<|D7<|D9<|Jk<|ot Jd<|ot (am2 (pG 1) Mj {(P),P,P,P}) x7))
def afJ:QP V8 w K bf base 1 "_law_which" [2,3,4] du.RX L:=⟨_,OF.xP.2.2.2,afI OF,λc t rP ct aP rz e oe ae ai aS=>by
  erw[cF,hl,MW]at rP;rcases rP with rfl|rfl|rfl
  .let z:=OF.Dv.symm.trans rz
   ext z
   ext ct
   show{_,_,du.v9 e λj=>j==2||j==11,Ly OF ae ai aS OF.YG _ (ma OF.zZ OF.Ir OF.YI) (ma OF.zZ OF.It OF.YJ) Ko (ma OF.zZ OF.N6 OF.YK) (ma OF.zZ OF.N7 OF.YL) (ma OF.zZ OF.Iu OF.YM)<|Kp OF.YH,(OF.xP.fn.binds (ti λ_ _ _ _ _ _ _=>P)),λn=>g9.KZ e n 2 Z1}
  .let z:=OF.Du.symm.trans rz
   ext z
   ext ct
   show{_,_,du.v9 e λj=>j==3||j==11,Ly OF ae ai aS OF.YN _ (ma OF.z0 OF.Ir OF.YP) (ma OF.z0 OF.It OF.YQ) (ma OF.z0 OF.N5 OF.YR) Ko (ma OF.z0 OF.N7 OF.YS) (ma OF.z0 OF.Iu OF.YT)<|Kp OF.YO,(OF.xP.fn.binds (ti λ_ _ _ _ _ _ _=>P)),λn=>g9.KZ e n 3 Z1}
  .let z:=OF.Dw.symm.trans rz
   ext z
   ext ct
   show{_,_,du.v9 e λj=>j==4||j==11,Ly OF ae ai aS OF.YU _ (ma OF.z1 OF.Ir OF.YW) (ma OF.z1 OF.It OF.YX) (ma OF.z1 OF.N5 OF.YY) (ma OF.z1 OF.N6 OF.YZ) Ko (ma OF.z1 OF.Iu OF.aaa)<|Kp OF.YV,(OF.xP.fn.binds (ti λ_ _ _ _ _ _ _=>P)),λn=>g9.KZ e n 4 Z1}
  ⟩
def ais(run:∀ns:O D,ns.H<=63->∃S' n',GH (nr ns 15) 0=J (.ba (.aU Y0) Y1,S',n')):kT V8 w K bf base jD 8 OF.Dr.f (OF.Dr.fd "law" Lx) ["_law_script"]<|AV K:=by
 refine ajB (lv:=7) OF.N1.fn (vb (N:=(["_law_script"]:O ME)++(["_law_town","_law_dice","_law_some","_law_sizes","_law_least","_law_due","_law_one","_law_rest","_law_book","_law_face","_law_found","_law_odd","_law_just","_law_wide"]:O ME))) P P Z1 (by first|exact Or.inl P|exact Or.inr P) (λ_ _ _ _ _ _=>P) (λL dm A cu s H E a4=>?_) run;let OF:z2 V8 w K bf base L:=OF;refine gG OF 1 ["thing","low","high"] [] du.oz (λapm=>?_) OF.XU ?_;refine gG OF 2 ["thing"] [] du.Bf (λao8=>?_) OF.XW ?_;refine gG OF 2 ["thing"] [] du.Bg (λapE=>?_) OF.XX ?_;refine gG OF 3 ["thing"] ["heads"] q1 (λapn=>?_) OF.XY ?_;refine gG OF 2 ["thing","low","high"] [] du.vX (λapA=>?_) OF.NX ?_;refine FU OF 2 ["thing","low","high"] [] du.kP (λapF=>?_) OF.NX ?_;refine gG OF 3 ["thing"] [] du.E5 (λapj=>?_) OF.XZ ?_;refine gG OF 4 ["thing"] [] oD (λapB=>?_) OF.NY ?_;refine FU OF 4 ["thing"] [] pY (λapG=>?_) OF.NY ?_;refine gG OF 1 ["dice"] ["counts","die","larger","total","face"] du.pS (λapd=>?_) OF.X0 ?_;refine gG OF 1 ["numbers"] ["many","number"] du.Bi (λape=>?_) OF.aH ?_;refine gG OF 5 ["totals","sizes","many","least"] ["size"] oO (λapt=>?_) OF.NZ ?_;refine FU OF 5 ["totals","sizes","many","least"] ["size"] sd (λapC=>?_) OF.NZ ?_;refine gG OF 1 ["die","by"] [] du.Bj (λao9=>?_) OF.dL ?_;refine gG OF 2 ["dice","low"] [] du.E6 (λao5=>?_) OF.X1 ?_;refine gG OF 3 ["bare","lows"] ["found","dice"] du.yr (λapo=>?_) OF.X2 ?_;refine gG OF 1 ["counts","taken"] ["left","total"] du.oA (λao4=>?_) OF.X3 ?_;refine gG OF 1 ["dice","place","face"] [] du.E8 (λapq=>?_) OF.X4 ?_;refine gG OF 2 ["counts","sizes","dice"] ["left","face"] du.v3 (λao6=>?_) OF.X5 ?_;refine gG OF 3 ["totals","sizes"] ["counts","found","step","longer","dice","larger"] du.Bm (λapa=>?_) OF.iu ?_;refine gG OF 1 ["total","many","least"] ["found","first"] du.KW (λapu=>?_) OF.Ds ?_;refine gG OF 2 ["total","many","least"] ["found","first"] du.Ff (λapv=>?_) OF.Ds ?_;refine gG OF 3 ["total","many","least"] ["found","first"] du.v7 (λapw=>?_) OF.Ds ?_;refine gG OF 4 ["total","many","least"] ["found","first"] du.v8 (λapx=>?_) OF.Ds ?_;refine gG OF 6 ["totals","sizes","least"] [] FK (λao7=>?_) OF.X6 ?_;refine gG OF 6 ["totals","sizes","least"] ["bare","lows"] wh (λapb=>?_) OF.N0 ?_;refine FU OF 6 ["totals","sizes","least"] ["bare","lows"] oE (λapf=>?_) OF.N0 ?_;refine gG OF 5 ["totals","die"] ["left","faces","lowest","face","times","same"] yC (λapg=>?_) OF.X7 ?_;refine gG OF 1 ["_law_script","_law_k"] [] du.Fi (λapD=>?_) OF.X8 ?_;refine gG OF 2 ["_law_script","_law_k","_law_many"] ["_law_drawn"] du.Fj (λapr=>?_) OF.xg ?_;refine gG OF 3 ["_law_script","_law_town","_law_many"] [] du.r8 (λapk=>?_) OF.X9 ?_;refine gG OF 4 ["_law_script","_law_town","_law_some"] [] du.pT (λapl=>?_) OF.Ya ?_;refine gG OF 5 ["_law_script","_law_town","_law_faces","_law_most"] ["_law_low","_law_wide","_law_made"] du.ys (λaph=>?_) OF.Yb ?_;refine gG OF 1 ["_law_dice"] ["_law_rows","_law_die_here","_law_longer","_law_line"] du.Bn (λaps=>?_) OF.Yc ?_;refine gG OF 2 ["_law_dice"] ["_law_book","_law_line"] yA (λapy=>?_) OF.Yd ?_;refine gG OF 7 ["_law_some","_law_sizes","_law_least"] ["_law_e"] lL (λapi=>?_) OF.Ye ?_;refine gG OF 1 ["_law_faces","_law_low","_law_high"] ["_law_rows","_law_k","_law_longer","_law_line"] FN (λapz=>?_) OF.Yf ?_;let bG:((["_law_script"]:O ME)++(["_law_town","_law_dice","_law_some","_law_sizes","_law_least","_law_due","_law_one","_law_rest","_law_book","_law_face","_law_found","_law_odd","_law_just","_law_wide"]:O ME)).Nodup:=by decide
 all_goals repeat' first
   |(with_reducible intro _ _ _ _ _ _ a4 bG)
   |(with_reducible intro)
   |(with_reducible show bM _ _ _ _);first
     |(with_reducible show bM _ _ (.Name ..) _);first|exact pG _|exact vt OF.Yr|exact vt OF.Yp|exact vt OF.Ys|exact vt OF.Yt|exact vt OF.Yu|exact vt OF.Yq|exact vt OF.Yv
     |(with_reducible show bM _ _ (.Constant ..) _);first|exact Jc|exact Mj|exact Jd|exact ajb
     |(with_reducible show bM _ _ (.Subscript ..) _);first|refine ahI (ajt a4.fS) ?_ ?_ (λ_ _=>P)|refine ajE ?_ ?_ ?_
     |(with_reducible show bM _ _ (.BinOp _ .Add ..) _);refine Aw ajp ?_ ?_
     |(with_reducible show bM _ _ (.Tuple ..) _);refine Jk ?_
     |(with_reducible show bM _ _ (.List ..) _);refine Jl ?_
     |(with_reducible show bM _ _ (.Call (.Name "len" _) ..) _);refine vw ajq OF.Ym boot_len ?_
     |(with_reducible show bM _ _ (.BinOp _ .Mult ..) _);refine Aw ajv ?_ ?_
     |(with_reducible show bM _ _ (.ListComp ..) _);first|refine anc ?_ ?_ ?_|refine ane _ ?_ ?_ ?_|refine Jx P (N':=["place","die","dice","low"]) (mh.of) (by decide) ?_ (λ_ _ _ _ _=>(ajk 0 1 P (show(["place","die","dice","low"]:O ME).Nodup by decide))) (λ_ _ _ _ _=>?_) λ_ _ _ _ _=>?_
     |(with_reducible show bM _ _ (.BinOp _ .Sub ..) _);refine Aw ajm ?_ ?_
     |(with_reducible show bM _ _ (.Call (.Name "isinstance" _) ..) _);first|refine Em (k:=.tuple) ?_ OF.pl OF.N4 boot_tuple|refine Em (k:=.int) ?_ OF.pl OF.Yl boot_int|refine Em (k:=.bool) ?_ OF.pl OF.Yi boot_bool|refine Em (k:=.list) ?_ OF.pl OF.Iq boot_list
     |(with_reducible show bM _ _ (.Call (.Name "tuple" _) ..) _);refine D1 amF OF.N4 boot_tuple ?_
     |(with_reducible show bM _ _ (.Compare _ [.Eq] ..) _);refine Vq (UA a4) ?_ ?_
     |(with_reducible show bM _ _ (.Call (.Name "dict" _) ..) _);refine D1 (alb a4.hd) OF.Yj boot_dict ?_
     |(with_reducible show bM _ _ (.Call (.Name "min" _) ..) _);refine vw (ajr P) OF.Yn boot_min ?_
     |(with_reducible show bM _ _ (.BinOp _ .Mod ..) _);refine Aw ajn ?_ ?_
     |(with_reducible show bM _ _ (.Call (.Name "sorted" _) ..) _);first|refine vw (amT a4.hd) OF.Dt CQ ?_|refine vw (anp a4.tg a4.hd) OF.Dt CQ ?_
     |(with_reducible show bM _ _ (.Call (.Name "sum" _) ..) _);refine vw (als P) OF.N3 boot_sum ?_
     |(with_reducible show bM _ _ (.Call (.Name "all" _) ..) _);refine vw (ajs P) OF.Yh boot_all ?_
     |(with_reducible show bM _ _ (.Call (.Name "list" _) ..) _);first|refine D1 (ala a4.hd) OF.Iq boot_list ?_|refine D1 (anm a4.hd) OF.Iq boot_list ?_
     |(with_reducible show bM _ _ (.Compare _ [_,_] ..) _);refine amC Gk Gk ?_ ?_ ?_
     |(with_reducible show bM _ _ (.BinOp _ .FloorDiv ..) _);refine Aw ajo ?_ ?_
     |(with_reducible show bM _ _ (.Call (.Name "max" _) ..) _);refine vw (alr P) OF.HU boot_max ?_
     |(with_reducible show bM _ _ (.Compare _ [.Gt] ..) _);refine Vq UQ ?_ ?_
     |(with_reducible show bM _ _ (.Call ..) _);first|refine ah0 (by assumption) ?_|refine ak7 a4.fS ?_ ?_ ?_ ⟨P,P,P,P⟩|refine acG a4.hd ?_ OF.Dt|refine ade a4.hd ?_ OF.Dt OF.Yo|refine amJ ?_ ?_ ⟨P,P,P,P⟩
     |exact ak8
     |refine ahJ ?_ ?_ ?_
     |refine QA ?_
     |refine Vu ?_
     |refine ajf ?_ ?_
     |refine ak9 ?_
     |refine acJ a4.hd ?_ OF.N3
     |exact anj
     |refine ajW ?_ ?_
   |(with_reducible show SB _ _ _ _);first
     |refine Pb ?_ ?_
     |exact Vv
   |(with_reducible show iy _ _ _ _);first
     |refine D8 ?_ ?_
     |refine D7 ?_
     |exact Pc
     |exact amS
   |(with_reducible show hG _ _ _ _);first
     |refine D9 ?_
     |refine Vw _ ?_ bG
     |refine UP ?_ ?_ ?_
     |refine ajl P P ?_ ?_ ?_
     |refine Vy _ ?_
     |refine ak3 _ ?_
     |refine akU ?_
     |refine Vx _ ?_
     |exact aby _
     |refine amz _ a4.fS ?_ ?_
     |exact abz _ _ bG
     |refine adS _ bG ?_ ?_ ?_
     |refine alM _ a4.tg ?_ ?_
     |refine amB P ?_ ?_
     |exact akW _
     |refine alH 3 P P (λ_ _=>?_) (λ_ _=>?_) (anb 3 (afJ OF) (a4.mono Z1) P P) OF.tf OF.YC (p8.cons OF.Dv OF.YE<|p8.cons OF.Du OF.YD<|p8.cons OF.Dw OF.YF p8.nil) bG
     |exact amx
   |(with_reducible show pd _ _ _ _);first
     |refine Pa ?_ ?_
     |exact Vp
   |(with_reducible show uO _ _ _ _);first
     |refine ot ?_ ?_
     |exact x7
   |(with_reducible show ST _ _ _ _);first
     |(with_reducible show ST _ _ (.Compare _ [.Gt] ..) _);refine rU UQ ?_ ?_
     |(with_reducible show ST _ _ (.Compare _ [.NotEq] ..) _);refine rU (ahf a4) ?_ ?_
     |(with_reducible show ST _ _ (.Compare _ [_] ..) _);first|refine rU ahQ ?_ ?_|refine rU ahP ?_ ?_|refine rU (ajU a4.tg a4.BW) ?_ ?_|refine rU (ad1 a4.tg) ?_ ?_
     |(with_reducible show ST _ _ (.Compare _ [.Eq] ..) _);refine rU (UA a4) ?_ ?_
     |(with_reducible show ST _ _ (.Compare _ [.Lt] ..) _);refine rU ahO ?_ ?_
     |(with_reducible show ST _ _ (.Compare _ [_,_] ..) _);refine amD Gk Gk ?_ ?_ ?_
     |(with_reducible show ST _ _ (.Compare _ [.Is] ..) _);refine ajF ?_
     |refine Vs ?_
     |refine adk ?_
     |refine Vr ?_
     |refine pe.st ?_
   |(with_reducible show pe _ _ _ _);first
     |refine Vt ?_
     |refine UO ?_ ?_
     |refine akS ?_
     |refine aje ?_ ?_
   |(with_reducible show mP _ _ _ _ _);first
     |exact ajH
     |refine am5 ?_ (hG.lift ?_) ?_
     |refine apc (by assumption) (by assumption) ?_ ?_
     |refine alB ?_
   |(with_reducible show s6 _ _ _ _);first
     |exact Pj _ bG
   |(with_reducible show Ay _ _ _ _ _);first
     |refine agY ?_
     |refine rX.s ?_
   |(with_reducible show tE _ _ _ _);first
     |exact ak1
     |refine ak2 ?_
   |(with_reducible show rW _ _ _ _ _);first
     |refine agX ?_
     |refine aly ?_ OF.Yk
     |refine rX.c ?_
   |(with_reducible show rH _ _ _ _ _);first
     |refine ahZ ?_ ?_ ?_
     |refine Kl P ?_ OF.Du P OF.Yz
     |refine alC ?_
     |refine Kl P ?_ OF.Dw P OF.YB
     |exact ahY
     |refine Kl P ?_ OF.Dv P OF.YA
     |refine ajO PassesOwn.leaving P ?_ ?_ (iy.lift ?_) ?_
     |refine ajI ?_
   |(with_reducible show rX _ _ _ _ _);first
     |refine akZ ?_ OF.N2
     |refine ak0 ?_ OF.N2
   |(with_reducible show u5 _ _ _ _ _);first
     |refine ajM ?_
     |refine ajN ?_ ?_
     |exact ajL Z1
   |(with_reducible show zN _ _ _ _);first
     |exact ak5
     |refine ak6 ?_
   |(with_reducible show Dd _ _ _ _);first
     |exact ajK
     |refine alE ?_
   |(with_reducible show xD _ _ _ _ _);first
     |refine ah1 (by assumption) ?_
   |rfl
end
def all_mk{w:cV}{K:MN}{bf:ME->MB ay}(OF:Zq K bf){l:W.OpenLaw}{e6:MC}(afK:bf "law" = J (.ref e6))(run:∀ns:O D,ns.H<=63->∃S' n',GH (nr ns 15) 0=J (.ba (.aU Y0) Y1,S',n')):∃fd:iD,(∀(s:aN) (v:ay),uC s fd {[v],[]} [("_law_script",v)])/\∀base:MJ,K.In base->base.Ns k4 bf->kT l.R w K bf base jD 8 e6 fd ["_law_script"] (AV K):=by
 let e:=afK.symm.trans<|OF.N1.bf OF.X OF.G
 ext e
 show{OF.Dr.fd "law" Lx,λs v=>.of_eq P,λbase _ _=>ais (show z2 l.R w K bf base (0:MC) from OF) run}
end we
namespace g9
open PySem a8 a8.bD du
def Lz{a b:D}(bl:a∈x)(ao:b∈y):1<=cK [x,y] (a+b):=by
 delta cK;rw[yx];let:0<(gH x y).countP (λz=>z==a+b):=by rw[gc];show{a+b,mm.mpr {a,bl,c9.mpr {(b),ao,P}},by simp}
 lia
def anM(h:ds∈f)(he:e∈h6 d bQ ds):e∈hW d bQ f:=by delta hW;show Bt.mpr<|.inr<|mm.mpr {(ds),h,he}
theorem Tq(d:O Z3)(bQ:O D):∀(k:Y) (f:O ZI),ko d bQ (k+1) f=hW d bQ (ko d bQ k f)
 |0,_=>rfl
 |k+1,f=>Tq d bQ k<|hW d bQ f
theorem VR:∀{ks:O D} {x:D},ks.Nodup->x∈ks->bA (ks.map λk=>if x=k then(1:D) else 0)=1
 |k::ks,x,bG,h=>by
  rw[cj,bA];let(aY,ck):=lP.mp bG;by_cases e:x=k
  .subst e;let z:∀l:O D,x∉l->bA (l.map λk=>if x=k then(1:D) else 0)=0:=by
    intro l
    induction l with
    |nil=>intro _;rfl
    |cons y l aQ =>
     intro h;rw[cj,bA,aQ λq=>h<|cZ _ q,Y3 λq:x=y=>h<|by rw[q];show cc ..];rfl
   rw[z ks aY,Y2 P];rfl
  .rw[Y3 e,VR ck<|(cF.mp h).resolve_left e];rfl
theorem Tr(f g:D->D):∀ks:O D,bA (ks.map λk=>f k+g k)=bA (ks.map f)+bA (ks.map g)
 |[]=>rfl
 |k::ks=>by rw[cj,cj,cj,bA,bA,bA,Tr f g ks];lia
theorem Ts{ks:O D}(bG:ks.Nodup):∀s:O D,(∀x∈s,x∈ks)->bA (ks.map λk=>((s.countP λx=>x==k:Y):D))=s.H
 |[],_=>by
  let z:∀l:O D,bA (l.map λk=>((([]:O D).countP λx=>x==k:Y):D))=0:=by
   intro l
   induction l with
   |nil=>rfl
   |cons y l aQ=>rw[cj,bA,aQ];rfl
  show z ks
 |x::s,h=>by
  let e:(λk=>(((x::s).countP λy=>y==k:Y):D))=λk=>((s.countP λy=>y==k:Y):D)+if x=k then 1 else 0:=by
   funext k;rw[ml];by_cases c:x=k
   .subst c;simp
   .let:(x==k)=Y1:=by simpa using c
    rw[this,Y3 c];simp
  rw[e,Tr,Ts bG s λy aJ=>h y<|cZ _ aJ,VR bG<|h x<|cc ..,dv];lia
def LA(B:e8 d)(h:mC d s):fl d=s.H:=by
 delta fl;let e:d.map (·.2)=(d.map (·.1)).map λk=>((s.countP λx=>x==k:Y):D):=by rw[bv];show ji λq bc=>?_;let:=iN B.bG bc;rw[h]at this;show this.symm
 rw[e];show Ts B.bG s λx au=>B.mem ?_;rw[h];let:0<s.countP λy=>y==x:=gc.mpr {x,au,by simp};lia
def Vf(h:∀k,cK [x,y] k=b7 d k):mC d<|gH x y:=λk=>by rw[<-h k];delta cK;rw[yx]
def al4(B:e8 d)(h:∀k,cK [x,y] k=b7 d k):fl d=((x.H*y.H:Y):D):=by rw[LA B<|Vf h,K6]
def afL(tw:O Z3):fl (d7 tw)=fl tw:=by delta fl d7;rw[bv];rfl
def down(a:D)(l:O D):(l.map (·-a)).map (·+a)=l:=by
 rw[bv]
 conv=>rhs;rw[<-ug l]
 show ji λx _=>?_;simp
end g9
namespace e4
open PySem a8 a8.bD du g9
def Tt(aj:D)(aG:O D)(d:O Z3):Prop:=aj<=c4 aG d/\Fits d (dO aG ZC 1)
inductive sz (aj:D) (aG:O D):O Z3->MB Z0->Prop
 |nil:sz aj aG []<|some []
 |bad {d:O Z3}:d≠[]->¬Tt aj aG d->sz aj aG d C
 |good {d:O Z3} {r:MB Z0}:d≠[]->Tt aj aG d->sz aj aG (subs d<|dO aG ZC 1) r->sz aj aG d (r.map (c4 aG d::·))
def out(aG:O D)(hX:D)(d:O Z3):O Z3:=aG.foldl (λd x=>fw d (x+hX)<|-1) d
def afM{aj:D}{y:D}(M:sz aj aG d<|some<|y::aO):d≠[]/\y=c4 aG d:=by
 generalize e:J (y::aO)=r at M;cases M with
 |nil=>ext e
 |bad _ _=>ext e
 |@good _ bU ne _ _ =>
  cases bU with
  |none=>ext e
  |some l=>ext e;show{(ne),P}
def aoa{aj:D}(M:sz aj aG d r):e8 d->∀aO,r=J aO->mC d (gH aG aO)/\aO.Pairwise (·<=·)/\∀y∈aO,aj<=y:=by
 induction M with
 |nil =>
  intro _ aO e
  ext e
  show⟨λk=>?_,UK,λy h=>by ext h⟩;let z:gH aG []=[]:=by delta gH;simp
  rw[z];rfl
 |bad _ _=>intro _ aO e;ext e
 |@good d bU ne ok ph aQ =>
  intro B aO e;cases bU with
  |none=>ext e
  |some l =>
   ext e
   let(OE,u,h):=aQ (B.subs _) l P;let fit:=ok.2;let xH:∀k,dO aG ZC 1 k=((aG.countP λz=>z==k-c4 aG d:Y):D):=λk=>by delta dO;simp
   show{λk=>?_,?_,λy aJ=>?_}
   .let q:=OE k;rw[Bq B (λk=>{q0 ..,fit k}),xH]at q;rw[Le];lia
   .show ik.mpr {λz hz=>?_,u};cases l with
    |nil=>ext hz
    |cons y aO =>
     let(ne',bH):=afM ph;let(_,afN,_):=sa ne';let(_,_,qC):=sa ne;let:Wa d<=Wa (subs d<|dO aG ZC 1):=qC _<|(K8 d _).mem afN;let CU:c4 aG d<=y:=by rw[bH];delta c4;delta c4 at this;show Int.add_le_add_right this _
     rcases cF.mp hz with rfl|hz
     .show CU
     .show ce CU<|(ik.mp u).1 z hz
   .rcases cF.mp aJ with rfl|aJ
    .show ok.1
    .show h y aJ
noncomputable def nG(a b:D):O D:=(M0 (b-a).M).map λ(k:Y)=>a+k
def Tu{a b x:D}:x∈nG a b↔a<=x/\x<b:=by
 delta nG;rw[c9];constructor
 .rintro⟨k,aW,rfl⟩;let:=mZ.mp aW;lia
 .intro h;show{(x-a).M,mZ.mpr Z6,by lia}
def akl(a b:D):(nG a b).Nodup:=by delta nG;rw[B1,mj];show Ca.imp λ{x y} h e=>h Z6
noncomputable def iO(Wa:D)(l:O D):D:=l.getLastD Wa
def iQ(Wa WV:D):Y->O Z0
 |0=>[[]]
 |k+1=>(iQ Wa WV k).flatMap λl=>(nG (iO Wa l)<|WV+1).map λf=>l++[f]
theorem LB{Wa:D}:∀{l:O D},l.Pairwise (·<=·)->∀z∈l,z<=iO Wa l
 |[],_,z,h=>by ext h
 |x::l,u,z,h=>by
  let(fS,gh):=ik.mp u;delta iO;rw[ud];cases l with
  |nil =>
   rcases cF.mp h with rfl|h
   .show hD _
   .ext h
  |cons y l =>
   let e:(y::l).getLastD x=iO Wa (y::l):=by delta iO;rw[ud,ud]
   rw[e];rcases cF.mp h with rfl|h
   .show ce (fS y<|cc ..)<|LB gh y<|cc ..
   .show LB gh z h
theorem Tv:∀(l:O D) (x:D),l.getLastD x∈x::l
 |[],x=>cc ..
 |y::l,x=>by rw[ud];show cZ _<|Tv l y
def FV{Wa:D}:iO Wa l=Wa/\l=[]\/iO Wa l∈l:=by
 cases l with
 |nil=>show .inl {(P),P}
 |cons x l =>
  right;delta iO;rw[ud];show Tv l x
theorem wK{Wa WV:D}:∀{k:Y} {l:O D},l∈iQ Wa WV k↔l.H=k/\l.Pairwise (·<=·)/\∀z∈l,Wa<=z/\z<=WV
 |0,l=>by
  show l∈[[]]↔_;rw[gK];constructor
  .rintro rfl;show⟨P,UK,λz h=>by ext h⟩
  .rintro⟨h,_⟩;show uc h
 |k+1,l=>by
  show l∈(iQ Wa WV k).flatMap _↔_;rw[mm];constructor
  .rintro⟨m,hm,h⟩;let(f,hf,rfl):=c9.mp h;let(e,u,r):=wK.mp hm;let(f1,f2):=Tu.mp hf;let lo:Wa<=iO Wa m:=by
    rcases FV (Wa:=Wa) (l:=m) with h|h
    .rw[h.1];show hD _
    .show(r _ h).1
   show{by rw[gm,e];rfl,?_,λz hz=>?_}
   .rw[mi];show{u,GV _ _,λa bl b ao=>?_};rw[gK.mp ao];show ce (LB u a bl) f1
   .rcases i9.mp hz with hz|hz
    .show r z hz
    .rw[gK.mp hz];show M7 (ce lo f1)<|qa6 f2
  .rintro⟨e,u,r⟩;let ne:l≠[]:=λh=>by rw[h]at e;ext e
   let sp:=qak ne;generalize l.dropLast=m at sp;generalize l.getLast ne=f at sp;subst sp;rw[gm]at e;let(fS,_,aak):=mi.mp u;let aal:∀z∈m,Wa<=z/\z<=WV:=λz hz=>r z<|nO _ hz;let C6:=r f<|lN _<|cc ..;show{m,wK.mpr {by simpa using e,fS,aal},c9.mpr {f,Tu.mpr {?_,(sJ C6.2 Z1)},P}};rcases FV (Wa:=Wa) (l:=m) with h|h
   .rw[h.1];show C6.1
   .show aak _ h f<|cc ..
def al5(a b:D):a8.bD.i7 a b=(nG a b).map T.int:=by delta a8.bD.i7 nG;rw[bv];rfl
theorem gl:∀(l:O D) (x:D) (h:x::l≠[]),(x::l).getLast h=l.getLastD x
 |[],x,_=>rfl
 |y::l,x,_=>by rw[List.getLast_cons Z5,gl l y,ud]
def anN(Wa:D)(l:O D)(n:Y):cz n [(if l=[] then T.aF [.int Wa] else ar l),.int<|-1]=J (.int<|iO Wa l,.aa):=by
 cases l with
 |nil=>rfl
 |cons x l =>
  rw[Y3 Z5];let h:fV ((x::l).map T.int) (-1)=J (.int<|iO Wa<|x::l):=by show at_neg Z5 ?_;rw[List.getLast_map Z5,gl];delta iO;rw[ud]
  show(fV ((x::l).map T.int)<|-1).map _=_;rw[h];rfl
def afO(l:O D)(Wa WV:D)(az:l.H<=10)(bO:-1000<=iO Wa l)(b6:iO Wa l<=1000)(eW:-1000<=WV)(kD:WV<=1000)(x0 cy cv dM:MB ZE)(n:Y) :
  Tg [x0,J (.int Wa,.aa),J (.int WV,.aa),cy,cv,dM,J (ar l,.aa)] n=J (.aj ((nG (iO Wa l)<|WV+1).map λf=>ar<|l++[f]),.aA,n):=by
 let dJ:bp=1000000:=rfl;let g:=anN Wa l n;show mS (nG (iO Wa l)<|WV+1) T.int _ ?_ ?_ λf hf=>?_
 .rw[<-al5];show Kz ?_ (ce Z1 bO) (ce b6 Z1) Z6<|Int.add_one_le_of_lt<|nW kD Z1;let o:BU (aq 6) (c6<|af (bB<|aq 1) aw) [x0,J (.int Wa,.aa),J (.int WV,.aa),cy,cv,dM,J (ar l,.aa)] n=J ((if l=[] then T.aF [.int Wa] else ar l),.aa,n):=by
   cases l with
   |nil=>rfl
   |cons x l=>rfl
  generalize (if l=[] then T.aF [.int Wa] else ar l)=jb at*;generalize ar l=tt at*;generalize BU (aq 6) (c6<|af (bB<|aq 1) aw)=OR at*;simp![o,g,p3,dE,gb]
 .delta nG;rw[bZ,ue];lia
 .let ae:l.H+1<=bp:=by lia
  let ai:1<=bp:=by decide
  simp![cY,mb,vU,E2,ar,c6,ae,ai]
def qc(Wa WV:D)(l:O D):O Z0:=(nG (iO Wa l)<|WV+1).map λf=>l++[f]
theorem Tw{Wa WV:D}(eW:-1000<=WV)(kD:WV<=1000)(x0 cy cv:MB ZE)(n:Y):∀(Wu Mx:O Z0) (c:MB ZE),(∀r∈Wu,r.H<=10 /\ -1000<=iO Wa r/\iO Wa r<=1000)->Mx.H+(Wu.flatMap<|qc Wa WV).H<=100000 ->
  ∃cM,eb (b4 6) FI (Wu.map ar) [x0,J (.int Wa,.aa),J (.int WV,.aa),cy,cv,J (.aj<|Mx.map ar,.aA),c] n
   = J (.bC,[x0,J (.int Wa,.aa),J (.int WV,.aa),cy,cv,J (.aj<|(Mx++Wu.flatMap (qc Wa WV)).map ar,.aA),cM],n)
 |[],Mx,c,_,_=>{c,by simp[eb]}
 |r::Wu,Mx,c,a4,az=>by
  let dJ:bp=1000000:=rfl;rw[iA,gm]at az;let(cM,e):=Tw eW kD x0 cy cv n Wu (Mx++qc Wa WV r) (J (ar r,.aa)) (λbU mQ=>a4 bU<|cZ _ mQ) (by rw[gm];lia);show{cM,?_};let(bx,cn,h2):=a4 r<|cc ..;let aB:=afO r Wa WV bx cn h2 eW kD x0 cy cv (J (.aj<|Mx.map ar,.aA)) n;let rB:((nG (iO Wa r)<|WV+1).map λf=>ar<|r++[f])=(qc Wa WV r).map ar:=by delta qc;rw[bv];rfl
  rw[rB]at aB;let hz:Mx.H+(qc Wa WV r).H<=bp:=by lia
  let ax:FI [x0,J (.int Wa,.aa),J (.int WV,.aa),cy,cv,J (.aj<|Mx.map ar,.aA),J (ar r,.aa)] n
    = J (.bC,[x0,J (.int Wa,.aa),J (.int WV,.aa),cy,cv,J (.aj<|(Mx++qc Wa WV r).map ar,.aA),J (ar r,.aa)],n):=by
   delta FI;rw[yn (u:=.aj<|Mx.map ar) (t':=.aj<|(Mx++qc Wa WV r).map ar) aB P<|by simp[vV,hz]];rfl
  rw[cj];delta eb;erw[a8.bD.b4,il,ip,eC,ax];rw[e];simp[hk]
def FW(Wa WV:D)(k:Y):iQ Wa WV (k+1)=(iQ Wa WV k).flatMap (qc Wa WV):=rfl
def afP{Wa WV:D}(bO:-1000<=Wa)(b6:Wa<=1000)(kD:WV<=1000){k:Y}(h:l∈iQ Wa WV k):-1000<=iO Wa l/\iO Wa l<=1000:=by
 let(_,_,r):=wK.mp h;rcases FV (Wa:=Wa) (l:=l) with h|h
 .rw[h.1];show M7 bO b6
 .let:=r _ h;show M7 (ce bO this.1)<|ce this.2 kD
theorem Tx{Wa WV:D}(bO:-1000<=Wa)(b6:Wa<=1000)(eW:-1000<=WV)(kD:WV<=1000)(x0:MB ZE)(n:Y){K:Y}(iG:K<=10)(hz:∀j,j<=K->(iQ Wa WV j).H<=100000):∀(xs:O T) (k:Y) (cv dM dg:MB ZE),k+xs.H=K ->
  ∃jy js lp,eb (b4 4) FJ xs [x0,J (.int Wa,.aa),J (.int WV,.aa),J (.aj<|(iQ Wa WV k).map ar,.aA),cv,dM,dg] n
   = J (.bC,[x0,J (.int Wa,.aa),J (.int WV,.aa),J (.aj<|(iQ Wa WV K).map ar,.aA),jy,js,lp],n)
 |[],k,cv,dM,dg,e=>{cv,dM,dg,by rw[nR,Ct]at e;subst e;simp[eb]}
 |x::xs,k,cv,dM,dg,e=>by
  rw[dv]at e
  let(c,d8):=Tw (Wa:=Wa) eW kD x0 (J (.aj<|(iQ Wa WV k).map ar,.aa)) (J (x,.aa)) n (iQ Wa WV k) [] dg (λr a4=>{by let:=(wK.mp a4).1;lia,afP bO b6 kD a4}) (by
   rw[<-FW];let:=hz (k+1)<|oS<|dy e
   simpa using this)
  let(jy,js,lp,aB):=Tx bO b6 eW kD x0 n iG hz xs (k+1) (J (x,.aa)) C c Z6;show{jy,js,lp,?_};erw[ka,m1]at d8;rw[<-FW]at d8;let ax:FJ [x0,J (.int Wa,.aa),J (.int WV,.aa),J (.aj<|(iQ Wa WV k).map ar,.aA),J (x,.aa),dM,dg] n
    = J (.bC,[x0,J (.int Wa,.aa),J (.int WV,.aa),J (.aj<|(iQ Wa WV<|k+1).map ar,.aA),J (x,.aa),C,c],n):=by
   delta FJ Th;erw[bk,cX,dA,aw,eC,nR,fY,MR,il,ip,eA,B4,wL,eo,e2,aq,look,Mz,nU,d8,oj]
  delta eb;erw[a8.bD.b4,il,ip,eC];rw[ax];show aB
def anO{Wa WV:D}(bO:-1000<=Wa)(b6:Wa<=1000)(eW:-1000<=WV)(kD:WV<=1000){k:Y}(aW:k<=10)(hz:∀j,j<=k->(iQ Wa WV j).H<=100000)(n:Y):Mv [(.int (k:Y),Y0),(.int Wa,Y0),(.int WV,Y0)] n=J (.aj<|(iQ Wa WV k).map ar,Y0,n):=by
 let dJ:bp=1000000:=rfl;let ao:1<=bp:=by decide
 let xJ:l2 ZL [J (.int (k:Y),.aa),J (.int Wa,.aa),J (.int WV,.aa),J (.aj [ar []],.aA),C,C,C] n=J (a8.bD.i7 0 k,n):=Ky P (iC _) Z6;let(jy,js,lp,e):=Tx bO b6 eW kD (J (.int (k:Y),.aa)) n aW hz (a8.bD.i7 0 k) 0 C C C (by rw[A7];show rh _ _);let fj:Lr [J (.int (k:Y),.aa),J (.int Wa,.aa),J (.int WV,.aa),J (.aj [ar []],.aA),C,C,C] n=J (.bC,[J (.int (k:Y),.aa),J (.int Wa,.aa),J (.int WV,.aa),J (.aj<|(iQ Wa WV k).map ar,.aA),jy,js,lp],n):=by delta Lr eo;rw[xJ];show e
 delta Mv Ti;let gF:c6 aw [J (T.int (k:Y),a9.aa),J (.int Wa,.aa),J (.int WV,.aa),C,C,C,C] n=J (ar [],.aa,n):=rfl;erw[ea,bk,cj,m1,dv,nR,qf,ka,Nat.reduceAdd,Nat.reduceSub,MR,ML,eC,cX,dA,af,bB,gF,eI,aw,ao,il,ip,nU];rw[fj];simp[lD]
theorem V1(Wa WV:D):∀k:Y,(iQ Wa WV k).Nodup
 |0=>by show[[]].Nodup;simp
 |k+1=>by
  rw[FW,B1,GZ];show{λl _=>?_,?_}
  .delta qc;rw[mj];show(B1.mp<|akl _ _).imp λ{a b} h e=>h ?_;simpa using e
  .show(B1.mp<|V1 Wa WV k).imp λ{a b} h x au y aJ e=>h ?_;let(f,_,rfl):=c9.mp au;let(g,_,rfl):=c9.mp aJ;show(List.append_inj' e P).1
theorem Tz{α β:Type}{f:α->O β}{m:Y}:∀{l:O α},(∀x∈l,(f x).H<=m)->(l.flatMap f).H<=l.H*m
 |[],_=>by simp
 |x::l,h=>by rw[iA,gm,dv,lR];let:=Tz λy aJ=>h y<|cZ _ aJ;let:=h x<|cc ..;lia
theorem V5{Wa WV:D}(h:WV<=Wa+10):∀k:Y,(iQ Wa WV k).H<=11^k
 |0=>by show[[]].H<=1;simp
 |k+1=>by
  rw[FW];show bw (Tz (m:=11) λl az=>?_) (by rw[Hk];show ui _<|V5 h k);delta qc nG;rw[bZ,bZ,ue];let:Wa<=iO Wa l:=by
   rcases FV (Wa:=Wa) (l:=l) with e|e
   .rw[e.1];show hD _
   .show((wK.mp az).2.2 _ e).1
  lia
def an2{tw:O Z3}(h:tw≠[]):tw.getLastD (0,0)∈tw:=by rw[GS,GQ h];show List.getLast_mem h
def an3(h:tw≠[])(n:Y):cz n [.aj<|bT tw,.int<|-1]=J (.aF [.int (tw.getLastD (0,0)).1,.int (tw.getLastD (0,0)).2],.aa):=by
 let az:0<tw.H:=B7.mpr h;rw[yp];delta fV;rw[Y3 Z1,Y2<|by simp[bT];lia];let e:((-1:D)+((bT tw).H:D)).M=tw.H-1:=by simp[bT];lia
 rw[e];delta bT;rw[hO,<-List.getLast?_eq_getElem?,GS,GQ h];rfl
def an4{aj:D}(M:sz aj aG d r):∀{bU},sz aj aG d bU->r=bU:=by
 induction M with
 |nil=>intro bU ph;cases ph with
  |nil=>rfl
  |bad h _=>show MI P h
  |good h _ _=>show MI P h
 |bad h wb=>intro bU ph;cases ph with
  |nil=>show MI P h
  |bad _ _=>rfl
  |good _ ok _=>show MI ok wb
 |good h ok _ aQ=>intro bU ph;cases ph with
  |nil=>show MI P h
  |bad _ wb=>show MI ok wb
  |good _ _ M2=>rw[aQ M2]
def ait(h:mC tw<|gH x y)(k:D):cK [x,y] k=b7 tw k:=by rw[h k];delta cK;rw[yx]
def anP(h:mC tw<|gH x y){a b:D}(bl:a∈x)(ao:b∈y):a+b∈tw.map (·.1):=by
 let:=Lz bl ao;rw[ait h]at this;by_cases q:a+b∈tw.map (·.1)
 .show q
 .rw[oB q]at this;lia
def V7(h:eB tw){k:D}(aW:k∈tw.map (·.1)):k<=(tw.getLastD (0,0)).1:=by
 let(q,bc,rfl):=c9.mp aW;let up:=mj.mp h.up;let e:=qak h.ne;rw[GS,GQ h.ne];show q.1<=(tw.getLast h.ne).1;rw[<-e,mi]at up;rw[<-e]at bc;rcases i9.mp bc with c|c
 .let:=up.2.2 q c _<|gK.mpr P;show kx this
 .rw[gK.mp c];show hD _
def TA{x:O D}(up:x.Pairwise (·<=·))(nn:∀y∈x,0<=y)(z:0∈x):∃t,x=0::t:=by
 cases x with
 |nil=>simp at z
 |cons a t =>
  let ae:=nn a<|cc ..;rcases cF.mp z with rfl|z
  .show{(t),P}
  .let:=qao up z;let e:a=0:=(w2 this ae)
   show{t,by rw[e]}
def an7(p:a.Perm b):fg a=fg b:=by delta fg;rw[DW ((qL _).trans (p.map g0))<|DV _]
noncomputable def fk(i:Y)(f:O ZI):Y:=f.countP λds=>(ds.headD []).H==i
def LC(i:Y)(ds:O Z0)(f:O ZI):fk i (ds::f)=fk i f+if(ds.headD []).H=i then 1 else 0:=by delta fk;rw[ml];simp
def FX(i:Y)(f g:O ZI):fk i (f++g)=fk i f+fk i g:=rb ..
theorem LD(i:Y):∀xs ks:O ZI,fk i (xs.foldl hM ks)<=fk i ks+fk i xs
 |[],ks=>by simp[fk]
 |x::xs,ks=>by
  rw[jj];let h:=LD i xs<|hM ks x;let ai:fk i (hM ks x)<=fk i ks+fk i [x]:=by
   delta hM;split
   .show ia _ _
   .rw[FX];show b8 _
  let aS:fk i (x::xs)=fk i [x]+fk i xs:=FX i [x] xs;lia
def al6(ai:ds.H=2)(i:Y):fk i (h6 d bQ ds)<=(if(ds.headD []).H+1=i then 1 else 0)+if(ds.headD []).H=i then 1 else 0:=by
 let(u,v,rfl):=Lo ai;delta h6;split
 .generalize Wa (gI d [u,v])=x;let e:tS bQ [u,v]=(if((u.H:D)<bQ.getD 0 0) then[0] else[])++if((v.H:D)<bQ.getD 1 0) then[1] else[]:=by delta tS;show(List.filter _ [0,1])=_;by_cases a:(u.H:D)<bQ.getD 0 0<;>by_cases b:(v.H:D)<bQ.getD 1 0<;>erw[sD,List.filter_nil,List.getD_cons_zero,List.getD_cons_succ,a,b,decide_true,decide_false,MR,MU,ka,nQ,qf,iB]<;>simp[a,b]
  rw[e,jM,FX];let d8:wf [u,v] 0 x=[u++[x],v]:=rfl;let aB:wf [u,v] 1 x=[u,v++[x]]:=rfl;let iW:∀ds:O Z0,fk i [ds]=if(ds.headD []).H=i then 1 else 0:=λds=>by rw[LC];simp[fk]
  let Df:fk i []=0:=rfl;show Nat.add_le_add ?_ ?_
  .split
   .rw[qaG,d8,iW];show(if(u++[x]).H=i then 1 else 0)<=if u.H+1=i then 1 else 0
    rw[gm];show b8 _
   .show fY _
  .split
   .rw[qaG,aB,iW];show b8 _
   .show fY _
 .show fY _
def afQ(ai:ds.H=2)(he:e∈h6 d bQ ds):e.H=2:=by
 delta h6 at he;split at he
 .let(p,_,rfl):=c9.mp he;delta wf;rw[oQ];show ai
 .simp at he
def LF(h:∀ds∈f,ds.H=2)(i:Y):fk (i+1) (hW d bQ f)<=fk i f+fk (i+1) f/\fk 0 (hW d bQ f)<=fk 0 f/\∀ds∈hW d bQ f,ds.H=2:=by
 let b2:∀j,fk j (f.flatMap<|h6 d bQ)<=(match j with|0=>0|k+1=>fk k f)+fk j f:=λj=>by
  induction f with
  |nil=>simp[fk]
  |cons ds f aQ =>
   let aQ:=aQ λe he=>h e<|cZ _ he;let g:=al6 (d:=d) (bQ:=bQ) (h ds<|cc ..) j;rw[iA,FX,LC];cases j with
   |zero =>
    erw[Nat.add_eq_zero_iff,Nat.succ_ne_zero,and_false,MU]at g aQ |-;lia
   |succ k =>
    erw[Nat.add_right_cancel_iff]at g aQ |-;rw[LC];lia
 let p:=LD (i+1) (f.flatMap<|h6 d bQ) [];let Il:=LD 0 (f.flatMap<|h6 d bQ) [];let Df:∀j,fk j []=0:=λ_=>P;rw[Df]at p Il;let f1:=b2<|i+1;let f0:=b2 0;show⟨by delta hW;simp only at f1;lia,by delta hW;simp only at f0;lia,λds hd=>?_⟩;delta hW at hd;rcases Bt.mp hd with z|z
 .cases z
 .let(e,he,hd):=mm.mp z;show afQ (h e he) hd
noncomputable def bC(g:Y->Y):Y->Y
 |0=>g 0
 |i+1=>g i+g (i+1)
def LG:Y->(Y->Y)->Y->Y
 |0,g=>g
 |k+1,g=>LG k<|bC g
theorem TB:∀(k:Y) (f:O ZI) (g:Y->Y),(∀ds∈f,ds.H=2)->fk 0 f=0->(∀i,fk (i+1) f<=g i)->∀i,fk (i+1) (ko d bQ k f)<=LG k g i
 |0,f,g,_,_,h=>h
 |k+1,f,g,ai,h0,h=>by
  show TB k _ _ (LF ai 0).2.2 (by let:=(LF (d:=d) (bQ:=bQ) ai 0).2.1;lia) λi=>?_;let s:=(LF (d:=d) (bQ:=bQ) ai i).1;cases i with
  |zero =>
   let:=h 0;show _<=g 0;lia
  |succ i =>
   let:=h i;let:=h<|i+1;show _<=g i+g (i+1);lia
def afR(h:eB tw){s1 s2:Y}(c5:1<=s1)(cP:1<=s2)(gS:ds∈gJ (d7 tw) [s1,s2]):∃x y,ds=[0::x,0::y]/\x.H+1=s1/\y.H+1=s2/\(0::x).Pairwise (·<=·)/\(0::y).Pairwise (·<=·)/\∀k,cK [0::x,0::y] k=b7 (d7 tw) k:=by
 let cp:=Fy (tT h.eD) (Fz h) (λs aK=>by
  erw[cF,hl,MW]at aK
  rcases aK with rfl|rfl<;>assumption) gS
 let(u,v,rfl):=Lo cp.kE.len;let N9:=cp.kk.up u Z5;let Dx:=cp.kk.up v Z5;let(x,rfl):=TA N9 (cp.kk.nn u Z5)<|cp.kk.zero u Z5;let(y,rfl):=TA Dx (cp.kk.nn v Z5)<|cp.kk.zero v Z5;let aB:=al4 (tT h.eD) cp.all;let ax:fl (d7 tw)=((s1*s2:Y):D):=by
  delta gJ at gS;split at gS
  .rename_i z;rw[z];simp[gz]
  .simp at gS
 let f1:=cp.kE.fit 0 Z5;let f2:=cp.kE.fit 1 Z5;simp[bY]at f1 f2;erw[dv]at aB;let bq:(x.H+1)*(y.H+1)=s1*s2:=by lia
 let cC:x.H+1=s1/\y.H+1=s2:=by
  rcases mn (x.H+1) s1 with c|c
  .let:=Nat.mul_lt_mul_of_lt_of_le c (show y.H+1<=s2 by lia) Z6;lia
  .let fj:x.H+1=s1:=by lia
   rw[fj]at bq;show{fj,qaO Z6 bq}
 show{(x),y,P,cC.1,cC.2,N9,Dx,cp.all}
def an5(h:eB tw){s1 s2:Y}(c5:1<=s1)(aV:s1<=4)(cP:1<=s2)(bb:s2<=4):(gJ (d7 tw) [s1,s2]).H<=20:=by
 let all:(gJ (d7 tw) [s1,s2]).H=fk s1 (gJ (d7 tw) [s1,s2]):=by delta fk;show(List.countP_eq_length.mpr λds hd=>?_).symm;let(x,y,rfl,e,_):=afR h c5 cP hd;simpa using e
 rw[all];obtain⟨i,rfl⟩:∃i,s1=i+1:={s1-1,by lia}
 let st:=TB (d:=d7 tw) (bQ:=bY [i+1,s2]) (iz [i+1,s2]) [ML 2 [0]] (λj=>if j=0 then 1 else 0) Z5 P (λj=>by cases j<;>simp[fk]) i;let le:fk (i+1) (gJ (d7 tw) [i+1,s2])<=fk (i+1) (ko (d7 tw) (bY [i+1,s2]) (iz [i+1,s2]) [ML 2 [0]]):=by
  delta gJ;split
  .show List.Sublist.countP_le qay
  .show fY _
 show bw le<|bw st ?_;let fin:∀i,i<4->∀s2,s2<5->LG (iz [i+1,s2]) (λj=>if j=0 then 1 else 0) i<=20:=by decide+kernel
 show fin i (aV) s2<|sF bb
end e4
section
set_option maxRecDepth 1000000
namespace e4
open PySem a8 a8.bD du g9
noncomputable def code(l:O Y):Y:=l.foldr (λa s=>32^a+s) 1
theorem VS{α:Type}[DecidableEq α]:∀{l m:O α},l.Nodup->(∀x∈l,x∈m)->l.H<=m.H
 |[],m,_,_=>fY _
 |x::l,m,bG,h=>by let au:=h x<|cc ..;let wc:=lP.mp bG;let:=VS (m:=m.erase x) wc.2 λy aJ=>(List.mem_erase_of_ne (show y≠x from λe=>wc.1<|by rw[<-e];show aJ)).mpr (h y<|cZ _ aJ);rw[List.length_erase_of_mem au]at this;let:=List.length_pos_of_mem au;rw[dv];lia
noncomputable def u0(l:O D):Y:=l.foldr (λa s=>32^a.M+s) 0
end e4
end
namespace e4
open PySem a8 a8.bD du g9
def V2(h:eB tw)(fO:tw.H<64)(b:MF)(n:Y):q1 [(.aj<|bT tw,b)] n=J (.aU Y0,Y1,n):=by
 let dJ:bp=1000000:=rfl;let az:=h.len;let Wu:∀m:a9,Bz [J (.aj<|bT tw,m),C] n=J (.aj (tw.map λ_=>.aU Y0),.aA,n):=by
  intro m;show mS tw (λp=>.aF [.int p.1,.int p.2]) (λ_=>.aU Y0) ?_ Z6 λq bc=>?_
  .delta fU;cases m<;>rfl
  .let(a,b,c,d):=h.hb q bc;let e:=aeP a b c d n;simp![cY,e]
 let My:∀m:a9,BA [J (.aj<|bT tw,m),C] n=J (.aj<|(tw.map (·.1)).map T.int,.aA,n):=by
  intro m;rw[bv];show mS tw (λp=>.aF [.int p.1,.int p.2]) (T.int∘(·.1)) ?_ Z6 λq bc=>?_
  .delta fU;cases m<;>rfl
  .simp![cY,yq,fV]
 let all:wu n [.aj (tw.map λ_=>.aU Y0)]=J (.aU Y0,.aa):=by
  let e:(tw.map λ_=>T.aU Y0)=(tw.map λ_=>Y0).map T.aU:=by rw[bv];rfl
  let bools:∀l:O MF,q9 (l.map T.aU)=J l:=by
   intro l
   induction l with
   |nil=>rfl
   |cons b l aQ=>rw[cj];delta q9;rw[aQ];rfl
  rw[Mq,e,bools];simp
 let nB:EM n [.aj<|(tw.map (·.1)).map T.int]=J (.aj<|(tw.map (·.1)).map T.int,.aA):=by
  show(tB n [.aj<|(tw.map (·.1)).map T.int]).bind _=_;let e:tB n [.aj<|(tw.map (·.1)).map T.int]=(e5<|(tw.map (·.1)).map T.int).bind λns=>if ns.H+1<4096 then J ns else C:=rfl
  rw[e,r5,eC,Y2 (by rw[bZ];show za<|gr az Z1),eC,Sy h.up,Y2<|by rw[bZ];show fO];let es:sortI (tw.map (·.1))=tw.map (·.1):=(I8 (.refl _) (h.up.imp λ{a b} z=>(kx z))).symm;rw[es]
 let eq:hu n [.aj<|(tw.map (·.1)).map T.int,.aj<|(tw.map (·.1)).map T.int]=J (.aU Y0,.aa):=by rw[vW,r6<|by show((tw.map (·.1)).map T.int).all (ey 5)=Y0;show EY 5 _];rfl
 let ne:(bT tw).isEmpty=Y1:=by
  let:=h.ne;cases tw with
  |nil=>show MI P this
  |cons q tw=>rfl
 delta q1 FD;let r:=Wu (if b then .aa else .b9);let hd:=My (if b then .aa else .b9);generalize (tw.map λ_=>T.aU Y0)=oc at*;generalize (tw.map (·.1)).map T.int=bg at*;generalize bT tw=cH at*;generalize Bz=C0 at*;generalize BA=NN at*;cases b
 .erw[iB,MU]at r hd;simp![iP,vT,ne,fq,r,all,hd,nB,eq]
 .erw[MR]at r hd;simp![iP,vT,ne,fq,r,all,hd,nB,eq]
def Mu(h:eB tw)(fO:tw.H<64)(b:MF)(n:Y):oD [(.aj<|bT tw,b)] n=J (.b0,Y1,n):=by let it:=V2 h fO b n;delta oD FE;generalize bT tw=cH at*;cases b<;>simp![it]
def BY(h:eB tw)(fO:tw.H<64)(ae:∀s∈ss,1<=s/\s<=8){Fa:D}(dG:0<=Fa)(d0:Fa<=30)(b:MF)(n:Y) :
  oO [(.aj<|bT tw,b),(ar<|bY ss,Y0),(.int (ss.H:D),Y0),(.int Fa,Y0)] n=J (.b0,Y1,n):=by
 let Oa:=Mu h fO b n;let nl:=K0 Fa 0 30 n dG d0;let ty:iP .tuple n [ar<|bY ss]=J (.aU Y0,.aa):=rfl;let ln:fG n [ar<|bY ss]=J (.int (ss.H:D),.aa):=by delta ar;rw[qY,bZ,Fx]
 let ne:hv n [.int (ss.H:D),.int (ss.H:D)]=J (.aU Y1,.aa):=by rw[Be,r6 P];rfl
 let uF:ar (bY ss)=.aF (ss.map λm=>.int (m:Y)):=by delta ar bY;rw[bv];rfl
 let gen:∀(x0:MB ZE),∃cv,eA 1 q2 [x0,J (ar<|bY ss,.aa),J (.int (ss.H:D),.aa),J Z7,C] n=J (.bC,[x0,J (ar<|bY ss,.aa),J (.int (ss.H:D),.aa),J Z7,cv],n):=λx0=>by
  let(S',(c,rfl),e):=Q9 (put:=b4 4) (b:=kR) (g:=λm:Y=>T.int m) (n:=n) (R:=λ(_:Unit) S=>∃c,S=[x0,J (ar<|bY ss,.aa),J (.int (ss.H:D),.aa),J Z7,c]) (step:=λs _=>s) ss () [x0,J (ar<|bY ss,.aa),J (.int (ss.H:D),.aa),J Z7,C]
   (λm hm s S gi=>by
    let(c,rfl):=gi;let:=ae m hm;let nn:=K0 (m:D) 1 8 n Z6 Z6;show{_,_,P,?_,J (.int (m:Y),.aa),P};generalize ar (bY ss)=aE at*;delta kR
    simp![nn]) {(C),P}
  show{c,?_};rw[K5 (t:=ar<|bY ss) P];delta q2 eo;let it:e2 (aq 1) [x0,J (ar<|bY ss,.aa),J (.int (ss.H:D),.aa),J Z7,C] n=J (ss.map λm=>T.int (m:Y),n):=by rw[uF];rfl
  rw[it];show e
 let(cv,e):=gen<|some (.aj<|bT tw,if b then .aa else .b9);delta oO FG;generalize ar (bY ss)=aE at*;generalize bT tw=cH at*;generalize eA 1 q2=LL at*;cases b
 .erw[iB,MU]at e;simp![Oa,ty,ln,ne,e,nl]
 .erw[MR]at e;simp![Oa,ty,ln,ne,e,nl]
def aiu(ns:O D)(F:Y)(m:D)(hm:0<=m/\m<=30)(n:Y)(fD:1<=F)(aoQ:F<=8)(bI:n+20<=bp):∃d n',(pU F d/\d.H=F/\∀x∈d,x<=m)/\n<=n'/\n'<=n+11/\ys [(.aj<|ns.map .int,Y1),(.fE,Y0),(.int F,Y0),(.int m,Y0)] n=J (ar d,Y1,n'):=by
 let dJ:bp=1000000:=rfl;let(r,h0,ae,aB):=Fq ns n 20 Z1<|oS bI;let(lo,OY,ax):=K7 ns [0,0,1,1,r] (n+1) Z5 Z6;let dG:0<=lo/\lo<20:=by simp at OY;lia
 let(u2,afS,bq):=K7 ns [1,3,6,12] (n+1+1) Z5 Z6;let uG:1<=u2/\u2<=12:=by simp at afS;lia
 rw[show([0,0,1,1,r]:O D).map T.int=[.int 0,.int 0,.int 1,.int 1,.int r] from P]at ax;rw[show([1,3,6,12]:O D).map T.int=[.int 1,.int 3,.int 6,.int 12] from P]at bq;let cb:-(bp:D)<=F:=(iC _)
 let d9:(F:D)<=(bp:D):=by lia
 let fj:∃(l:O D) (ck:Y),l.H=F/\(∀x∈l,0<=x/\x<=m)/\n+3<=ck/\ck<=n+3+F/\RN [J (.aj<|ns.map .int,.b9),J (.fE,.aa),J (.int F,.aa),J (.int m,.aa),J (.int lo,.aa),J (.int u2,.aa),C] (n+1+1+1)=J (.aj<|l.map T.int,.aA,ck):=by
  let(out,ck,aV,bb,c1,gn,iw):=Q7 (K:=1) (N:=bp) (V8:=λt=>∃x:D,t=.int x/\0<=x/\x<=m) (it:=l2 ZN)
   (l:=[C,J 0,J 1,J 2,J 3,J 4,J 5,J 6]) (i:=0) (e:=aD p1<|af (aq 4)<|af (aD dE<|af (aq 5)<|af (cD 3 r8<|a0 (aq 1)<|a0 (aq 2)<|a0 (aq 6) cw) aw) aw) (S:=[J (.aj<|ns.map .int,.b9),J (.fE,.aa),J (.int F,.aa),J (.int m,.aa),J (.int lo,.aa),J (.int u2,.aa),C]) (n0:=n+1+1+1) (n:=n+1+1+1) (xs:=i7 0 F)
   (by delta l2;simp![cb,d9]) (λx n bI=>by
    let(r,h0,ae,e):=Fq ns n u2 (uG.1)<|bI;let em:p1 (n+1) [.int m,.int<|lo+r]=J (.int (if lo+r<m then lo+r else m),.aa):=rfl;show{.int (if lo+r<m then lo+r else m),n+1,?_,(ia _ _),(b8 _),_,P,by split<;>lia,by split<;>lia};generalize (if lo+r<m then lo+r else m)=z at em
    simp![e,mb,cY,em]) (by rw[A7];lia) (by rw[A7];lia)
  let(l,rfl,az):=VJ T.int (λx=>0<=x/\x<=m) bb;rw[A7]at aV gn;rw[bZ]at aV;show{l,ck,aV,az,c1,by lia,iw}
 let(l,ck,aV,az,c1,gn,fj):=fj;let cH:=(sortI_perm l).length_eq;show⟨sortI l,ck,⟨⟨by lia,(bw (dy cH)<|dy aV),λx au=>by let:=az x<|(sortI_perm l).mem_iff.mp au;show M7 this.1<|ce this.2 hm.2,xZ l⟩,by lia,λx au=>(az x<|(sortI_perm l).mem_iff.mp au).2⟩,(lQ c1),by lia,?_⟩;let afT:l.H<64:=by lia
 let gF:vo ck [.aj<|l.map .int]=J (.aj<|(sortI l).map .int,.aA):=by simp[vo,r5,afT]
 let gw:lG ck [.aj<|(sortI l).map .int]=J (ar<|sortI l,.aa):=rfl;let k5:5<=bp:=by decide
 let xC:4<=bp:=by decide
 generalize ar (sortI l)=o at*;generalize (sortI l).map T.int=cW at*;generalize l.map T.int=qC at*;delta ys RO;simp![dA,aB,ax,bq,fj,gF,gw,xC,k5]
theorem TC(x0:MB ZE)(n:Y):∀(Wu:O Z0) (d:O Z3) (ks:O D) (bR:MB ZE),ha d ks->d.H+Wu.H<=100000->(∀r∈Wu,r.H<=4/\∀x∈r,0<=x/\x<=30) ->
  ∃d' LH,ha d' (ks++Wu.map bA)/\eb (b4 2) yy (Wu.map ar) [x0,J ZG,bR] n=J (.bC,[x0,J (.a3<|av d',.aA),LH],n)
 |[],d,ks,bR,B,_,_=>{d,bR,by simpa using B,by simp[eb]}
 |r::Wu,d,ks,bR,B,hz,a4=>by
  let dJ:bp=1000000:=rfl;rw[dv]at hz;let u7:ha (fw d (bA r) 1)<|ks++[bA r]:=(B.add (bA r) 1 Z1).congr λp=>by rw[rb,qau];split<;>simp
  let al:=Fo d (bA r) 1;let(d',LH,nf,e):=TC x0 n Wu (fw d (bA r) 1) (ks++[bA r]) (J (ar r,.aa)) u7 Z6 λq bc=>a4 q<|cZ _ bc;show{d',LH,by rw[cj];rw[hk]at nf;show nf,?_};let(nd,jq):=a4 r<|cc ..;let Dm:pD n [ar r]=J (.int<|bA r,.aa):=Ra n Z6 λx au=>by let:=jq x au;lia
  let d6:kH n [.a3<|av d,.int<|bA r,.int 0]=J (.int<|b7 d<|bA r,.aa):=by let h:=yi d<|bA r;let bH:kH n [.a3<|av d,.int<|bA r,.int 0]=J ((i0 (av d)<|.inl<|bA r).getD (.int 0),.aa):=rfl;rw[bH,h]
  let st:me (.a3<|av d) (.int<|bA r) (.int<|b7 d (bA r)+1)=J (.a3<|av<|fw d (bA r) 1):=by rw[E3];show(if(av d).H<bp then J (T.a3<|jF (av d) (.inl<|bA r)<|.int<|b7 d (bA r)+1) else C)=_;rw[Y2 (by delta av;rw[bZ];lia),Fn]
  let one:yy [x0,J ZG,J (ar r,.aa)] n=J (.bC,[x0,J (.a3<|av<|fw d (bA r) 1,.aA),J (ar r,.aa)],n):=by delta yy;generalize av (fw d (bA r) 1)=g5 at*;generalize av d=gv at*;generalize ar r=lX at*;simp![j0,Dm,d6,mb,st]
  rw[cj];delta eb;erw[a8.bD.b4,il,ip,eC];rw[one];show e
section
variable {M F:Y}{ds:O Z0}
def afU(OG:wD M F ds)(la:M<=4)(fD:F<=8):(hh ds).H<=4096:=by let:=OG.most;rw[RY];show bw (RZ (F:=8) λd hd=>bw (OG.aG d hd).most fD) ?_;show bw (uj Z1 (show ds.H<=4 from(bw this la))) Z1
def an8(OG:wD M F ds)(la:M<=4)(fD:F<=8)(lC:∀d,ha d ((hh ds).map bA)->d.H<64)(n:Y):∃d,ha d ((hh ds).map bA)/\yA [(.aF ZY,Y0)] n=J (.aj<|(hS<|d.map hx).map ar,Y0,n):=by
 let pg:ds.H<=4:=bw OG.most la;let hH:Bn [(.aF ZY,Y0)] n=J (.aj<|(hh ds).map ar,Y0,n):=aey OG la fD n;let a4:=(GF OG la fD n).2;let aam:=afU OG la fD;let Wu:∀r∈hh ds,r.H<=4/\∀x∈r,0<=x/\x<=30:=λr h=>{by rw[a4 r h];show pg,aeA (λd hd=>(OG.aG d hd).hb) h}
 let(d,bR,B,e):=TC (J (.aF ZY,.aa)) n (hh ds) [] [] C {by simp,by simp,λp=>by simp[j9,bA]} (by simp;show bw aam Z1) Wu;rw[ka]at B;show{d,B,?_};let it:r3 n [.a3<|av d]=J (.aj<|(hS<|d.map hx).map ar,.aA):=by erw[r3,K2,eC,Y2<|lC d B]
 let ix:yz [J (.aF ZY,.aa),J (.a3 [],.aA),C] n=J (.bC,[J (.aF ZY,.aa),J ZG,bR],n):=by
  delta yz eo;let LI:e2 (cD 1 Bn Ze) [J (.aF ZY,.aa),J (.a3 [],.aA),C] n=J ((hh ds).map ar,n):=by generalize (hh ds).map ar=pr at*;generalize ds.map ar=dd at*;delta e2;simp![hH,Mz]
  rw[LI];show e
 delta yA FH;generalize (hS<|d.map hx).map ar=out at*;generalize ds.map ar=dd at*;generalize av d=gv at*;generalize yz=LL at*;simp![pB,ix,it]
end
def aiv{ks:O D}(bG:ks.Nodup)(h:∀k∈ks,0<=k/\k<=10):ks.H<=11:=by let:=VS (m:=(M0 11).map λ(n:Y)=>(n:D)) bG λk aW=>c9.mpr {k.M,by let:=h k aW;simp;show nW this.2 Z1,by let:=h k aW;show Int.toNat_of_nonneg this.1};simpa using this
def akm{b:MF}{n:Y}(it:q1 [(t,flag (look (if b then .aa else .b9) t) t)] n=J (.aU Y0,Y1,n)):pY [(t,b)] n=C:=by delta pY fnX BB kK gk cG cD a0 cw aq;simp[it,lb,jZ,iL]
def an6{b:MF}{n:Y}(it:q1 [(t,flag (look (if b then .aa else .b9) t) t)] n=J (.aU Y1,Y1,n)):pY [(t,b)] n=J (2,n):=by delta pY fnX BB kK gk cG cD a0 cw aq;simp[it,lb,jZ,nt,mz]
noncomputable def wF:O T:=[.b0,.aF [.int 1],.aF [.int 1,.int 0],.aF [.int 1,.int 9],.aj [.int 1,.int 1],.aF [.int 1,.aU Y0],.aF [.int 1,.int 1,.int 1],.aF [.str "1",.int 1],.int 4]
noncomputable def Vg:O T:=[.int<|-1,.int 31,.b0,.aU Y0,.str "1"]
def al7(n:Y):∀v∈Vg,kP [(v,Y0),(.int 0,Y0),(.int 30,Y0)] n=J (3,n):=by
 intro v bu;show aeI ?_ P P;erw[Vg,cF,hl,MW]at bu;rcases bu with rfl|rfl|rfl|rfl|rfl
 .show Sf _ _ _ _ Z1
 .show Sf _ _ _ _ Z1
 .rfl
 .rfl
 .rfl
def VT(c n:Y):hv n [.aF [.str "refused",.int c],.aF [.str "refused",.int c]]=J (.aU Y1,.aa):=by rw[Be,r6 P];rfl
end e4
namespace g9
open PySem a8 a8.bD du
def VU(k:D):cK [] k=if k=0 then 1 else 0:=by
 delta cK;rw[Sa,ml,List.countP_nil];by_cases h:k=0
 .subst h;rfl
 .rw[Y3 h,Y3<|by simpa using λz=>h z.symm];rfl
def jI(x:O D)(OG:O Z0)(k:D):cK (x::OG) k=bA (x.map λf=>cK OG<|k-f):=by
 delta cK;rw[qZ]
 induction x with
 |nil=>rfl
 |cons f x aQ =>
  rw[iA,rb,cj];show _=((_:Y):D)+bA _;rw[<-aQ,Cc,Hu];congr 2;show G3 λy _=>?_;erw[Ox,M5];lia
def qD(OG:O Z0):Prop:=∀x∈OG,∀f∈x,0<=f
theorem TF{g:D->D}:∀{x:O D},(∀f∈x,g f=0)->bA (x.map g)=0
 |[],_=>rfl
 |f::x,h=>by show g f+bA _=0;rw[h f<|cc ..,TF λy aJ=>h y<|cZ _ aJ];rfl
theorem FY:∀{OG:O Z0},qD OG->∀{k:D},k<0->cK OG k=0
 |[],_,k,h=>by rw[VU,Y3<|w4 h]
 |x::OG,n,k,h=>by rw[jI];show TF λf hf=>FY (λy aJ=>n y<|cZ _ aJ) ?_;let:=n x (cc ..) f hf;lia
theorem sum_filter{g:D->D}{p:D->MF}:∀{x:O D},(∀f∈x,p f=Y1->g f=0)->bA (x.map g)=bA ((x.filter p).map g)
 |[],_=>rfl
 |f::x,h=>by
  let aQ:=sum_filter (g:=g) (p:=p) (x:=x) λy aJ=>h y<|cZ _ aJ;show g f+bA _=_;cases e:p f with
  |true=>rw[List.filter_cons_of_pos e,aQ];rfl
  |false=>rw[List.filter_cons_of_neg (by rw[e];decide),h f (cc ..) e,aQ];show Int.zero_add _
def cut(y:D)(OG:O Z0):O Z0:=OG.map λx=>x.filter λf=>decide (f<y)
def FZ{g h:D->D}:∀{x:O D},(∀f∈x,g f=h f)->bA (x.map g)=bA (x.map h):=λ{x} e=>by rw[ji e]
theorem LJ:∀{OG:O Z0},qD OG->∀{y k:D},k<y->cK OG k=cK (cut y OG) k
 |[],_,_,_,_=>rfl
 |x::OG,n,y,k,h=>by
  let zK:qD OG:=λz hz=>n z<|cZ _ hz;show _=cK (_::cut y OG) k;rw[jI,jI,sum_filter (p:=λf=>decide (f<y))]
  .show FZ λf hf=>LJ zK ?_;let:=n x (cc ..) f (mY.mp hf).1;lia
  .intro f _ e;let:¬f<y:=by simpa using e
   show FY zK Z6
def TG{y z:D}(h:z<=y)(OG:O Z0):cut z (cut y OG)=cut z OG:=by
 delta cut;rw[bv];show ji λx _=>?_;show List.filter _ (List.filter _ x)=_;rw[List.filter_filter];show List.filter_congr λf _=>?_;by_cases c:f<z
 .simp[c,show f<y from(zf c h)]
 .simp[c]
inductive ih:O Z0->O Z0->Prop
 |nil:ih [] []
 |cons {x e OG} (n:Y) (ae:1<=n) (ai:n<=x.H) (r:ih e OG):ih (x.take n::e)<|x::OG
theorem TH{g h:D->D}(le:∀f,g f<=h f):∀x:O D,bA (x.map g)<=bA (x.map h)
 |[]=>hD _
 |f::x=>sJ (le f)<|TH le x
theorem TJ{g:D->D}(nn:∀f,0<=g f):∀(x:O D) (n:Y),bA ((x.take n).map g)<=bA (x.map g)
 |[],n=>by rw[List.take_nil];show hD _
 |f::x,0=>R9 λy aJ=>by let(f,_,rfl):=c9.mp aJ;show nn f
 |f::x,n+1=>sJ (hD _)<|TJ nn x n
def ih.le(p:ih e OG):∀k,cK e k<=cK OG k:=by
 induction p with
 |nil=>intro k;show hD _
 |cons n ae ai r aQ =>
  intro k;rw[jI,jI];show ce (TH (λf=>aQ<|k-f) _)<|TJ (λf=>tR _ _) _ n
theorem TK(g h:D->D):∀x:O D,bA (x.map λf=>g f+h f)=bA (x.map g)+bA (x.map h)
 |[]=>rfl
 |f::x=>by
  show g f+h f+bA _=g f+bA _+(h f+bA _)
  rw[TK g h x];lia
theorem TL:∀{e:O Z0} {p:Y},p<e.H->∀(y k:D),cK (wf e p y) k=cK e k+cK (e.set p [y]) k
 |[],p,h,_,_=>MI h<|Cp _
 |x::e,0,_,y,k=>by show cK ((x++[y])::e) k=cK (x::e) k+cK ([y]::e) k;rw[jI,jI,jI,jM,Fm]
 |x::e,p+1,h,y,k=>by show cK (x::wf e p y) k=cK (x::e) k+cK (x::e.set p [y]) k;rw[jI,jI,jI,<-TK];show FZ λf _=>TL (Ck h) y<|k-f
def F0{g:D->D}(nn:∀f,0<=g f){x:O D}{f:D}(h:f∈x):g f<=bA (x.map g) :=
 Br (λy aJ=>by let(f,_,rfl):=c9.mp aJ;show nn f) (hZ h)
theorem LK:∀{e:O Z0},(∀x∈e,0∈x)->1<=cK e 0
 |[],_=>by rw[VU,Y2 P];show hD _
 |x::e,h=>by rw[jI];let a:=F0 (g:=λf=>cK e<|0-f) (λf=>tR _ _)<|h x<|cc ..;let b:=LK λy aJ=>h y<|cZ _ aJ;rw[Cz]at a;show ce b a
theorem VV:∀{e:O Z0} {p:Y},p<e.H->(∀x∈e,0∈x)->∀y,1<=cK (e.set p [y]) y
 |[],p,h,_,_=>MI h<|Cp _
 |x::e,0,_,z,y=>by show 1<=cK ([y]::e) y;rw[jI];let:=LK λw hw=>z w<|cZ _ hw;show 1<=cK e (y-y)+0;rw[Hv];show this
 |x::e,p+1,h,z,y=>by show 1<=cK (x::e.set p [y]) y;rw[jI];let a:=F0 (g:=λf=>cK (e.set p [y])<|y-f) (λf=>tR _ _)<|z x<|cc ..;let b:=VV (Ck h) (λw hw=>z w<|cZ _ hw) y;erw[Cz]at a;show ce b a
def nH(OG:O Z0):Prop:=∀x∈OG,x.Pairwise (·<=·)/\∃t,x=0::t
def nH.nn(h:nH OG):qD OG:=λx au f hf=>by
 let(up,t,rfl):=h x au;rcases cF.mp hf with rfl|hf
 .show hD _
 .show(ik.mp up).1 f hf
theorem ih.zero(p:ih e OG)(z:nH OG):∀x∈e,0∈x:=by
 induction p with
 |nil=>intro x au;cases au
 |@cons x e OG n ae ai r aQ =>
  intro y aJ;rcases cF.mp aJ with rfl|aJ
  .let(_,t,rfl):=z x<|cc ..;cases n with
   |zero=>lia
   |succ n=>show cc ..
  .show aQ (λw hw=>z w<|cZ _ hw) y aJ
def ih.len(p:ih e OG):e.H=OG.H:=by
 induction p with
 |nil=>rfl
 |cons n ae ai r aQ=>rw[dv,dv,aQ]
def TM{x:O D}(up:x.Pairwise (·<=·)){n:Y}{y:D}(h:∀f∈x.drop n,y<=f):(x.take n).filter (λf=>decide (f<y))=x.filter λf=>decide (f<y):=by
 let e:=qaD (p:=λf=>decide (f<y)) (x.take n)<|x.drop n;rw[nN]at e;let ax:(x.drop n).filter (λf=>decide (f<y))=[]:=List.filter_eq_nil_iff.mpr λf hf=>by let:=h f hf;simp;show this
 rw[e,ax,nQ]
def TN{a:O D}(up:a.Pairwise (·<=·)){i:Y}(h:i<a.H):∀z∈a.drop i,a[i]<=z:=by
 let p:(a.drop i).Pairwise (·<=·):=up.sublist<|uf _ _;rw[oP h]at p |-;intro z hz;rcases cF.mp hz with rfl|hz
 .show hD _
 .show(ik.mp p).1 z hz
def ih.next(q:ih e OG)(z:nH OG):e=OG\/∃p y,p<e.H/\(e.getD p []).H<(OG.getD p []).H/\ih (wf e p y) OG/\cut y e=cut y OG:=by
 induction q with
 |nil=>show .inl P
 |@cons x e OG n ae ai r aQ =>
  let up:=(z x<|cc ..).1;let aan:nH OG:=λw hw=>z w<|cZ _ hw;let here:∀h:n<x.H,cut x[n] e=cut x[n] OG->∃p y,p<(x.take n::e).H/\((x.take n::e).getD p []).H<((x::OG).getD p []).H/\ih (wf (x.take n::e) p y) (x::OG)/\cut y (x.take n::e)=cut y (x::OG):=λh c=>by
   show{0,x[n],by simp,?_,?_,?_}
   .show(x.take n).H<x.H;rw[kZ];show gr (Hi _ _) h
   .show ih ((x.take n++[x[n]])::e) (x::OG);rw[<-List.take_succ_eq_append_getElem h];show .cons (n+1) (wX _ _) h r
   .show(x.take n).filter (λf=>decide (f<x[n]))::cut _ e=x.filter (λf=>decide (f<x[n]))::cut _ OG;rw[c,TM up<|TN up h]
  rcases aQ aan with rfl|⟨p,y,aC,az,q,c⟩
  .by_cases h:n<x.H
   .show .inr<|here h P
   .left;rw[qd<|ci h]
  .right;by_cases h:n<x.H
   .by_cases le:x[n]<=y
    .show here h ?_;rw[<-TG le e,<-TG le OG,c]
    .show{p+1,y,za aC,az,.cons n ae ai q,?_};show(x.take n).filter (λf=>decide (f<y))::cut _ e=x.filter (λf=>decide (f<y))::cut _ OG;rw[c,TM up λf hf=>ce (kx<|Int.not_le.mp le)<|TN up h f hf]
   .show{p+1,y,za aC,az,.cons n ae ai q,?_};show _::cut _ e=_::cut _ OG;rw[c,qd<|ci h]
def ln(OG:O Z0):Y:=(OG.map List.H).sum
theorem Vh:∀{e:O Z0} {p:Y},p<e.H->∀y,ln (wf e p y)=ln e+1
 |[],p,h,_=>MI h<|Cp _
 |x::e,0,_,y=>by show((x++[y]).H+ln e)=x.H+ln e+1;rw[gm,yZ];show qaS _ _ _
 |x::e,p+1,h,y=>by let:=Vh (Ck h) y;show x.H+ln (wf e p y)=x.H+ln e+1;lia
theorem ih.ln(q:ih e OG):g9.ln e<=g9.ln OG/\(g9.ln e=g9.ln OG->e=OG):=by
 induction q with
 |nil=>show{b8 _,λ_=>P}
 |@cons x e OG n ae ai r aQ =>
  let l:(x.take n).H=n:=by rw[kZ];lia
  let a:g9.ln (x.take n::e)=n+g9.ln e:=by show(x.take n).H+_=_;rw[l];rfl
  let b:g9.ln (x::OG)=x.H+g9.ln OG:=rfl;rw[a,b];show{(Nat.add_le_add ai aQ.1),λz=>?_};rw[aQ.2 Z6,qd Z6]
theorem ih.start:∀{OG:O Z0},nH OG->ih (ML OG.H [0]) OG
 |[],_=>.nil
 |x::OG,z=>by let(_,t,rfl):=z x<|cc ..;show .cons (x:=0::t) 1 (b8 _) (io<|fY _) (ih.start λw hw=>z w<|cZ _ hw)
def TO(n:Y):ln (ML n [0])=n:=by
 induction n with
 |zero=>rfl
 |succ n aQ=>show 1+ln (ML n [0])=n+1;lia
def ih.grow(B:e8 d)(hd:∀k,b7 d k=cK OG k)(z:nH OG)(q:ih e OG)(ne:e≠OG) :
  ∃p y,p<e.H/\ih (wf e p y) OG/\wf e p y∈h6 d (bY<|OG.map List.H) e:=by
 obtain h|⟨p,y,aC,az,ej,c⟩:=q.next z
 .show MI h ne
 let fit:Fits d<|cK e:=λk=>by rw[hd];show q.le k
 let aao:qD e:=λx au f hf=>by
  let:∀{e OG:O Z0},ih e OG->qD OG->qD e:=λq=>by
   induction q with
   |nil=>intro _ x au;cases au
   |cons n ae ai r aQ =>
    intro n x au;rcases cF.mp au with rfl|au
    .show λf hf=>n _ (cc ..) f<|wN hf
    .show aQ (λw hw=>n w<|cZ _ hw) x au
  show this q z.nn x au f hf
 let key:∀k,k∈(gI d e).map (·.1)↔cK e k<b7 d k:=λk=>By B fit k;let WX:cK e y<b7 d y:=by let a:=TL aC y y;let b:=VV aC (q.zero z) y;let c:=ej.le y;rw[hd];lia
 let Iv:=(key y).mpr WX;let Ob:gI d e≠[]:=λh=>by rw[h]at Iv;cases Iv
 let(_,lm,qC):=sa Ob;let Wa:Wa (gI d e)=y:=by let a:=qC y Iv;let b:=(key _).mp lm;show w2 a (w5.mp λh=>?_);rw[hd,LJ aao h,LJ z.nn h,c]at b;show Int.not_le_of_gt b<|kx b
 show{p,y,aC,ej,?_};delta h6;rw[(yw B _).mpr fit,show(gI d e).isEmpty=Y1 from by cases h:gI d e with|nil=>show MI h Ob|cons _ _=>rfl,Y2 (by rfl),Wa];show c9.mpr {p,mY.mpr {mZ.mpr aC,?_},P};let gQ:p<OG.H:=by rw[<-q.len];show aC
 let:(bY<|OG.map List.H).getD p 0=((OG.getD p []).H:D):=by delta bY;rw[bv,hY,hO,gd gQ,hY,gd gQ];rfl
 rw[this];simpa using az
theorem VW(B:e8 d)(hd:∀k,b7 d k=cK OG k)(z:nH OG):∀n,OG.H+n<=ln OG ->
  ∃e,ih e OG/\ln e=OG.H+n/\e∈ko d (bY<|OG.map List.H) n [ML OG.H [0]]
 |0,_=>{_,.start z,TO _,cc ..}
 |n+1,h=>by
  let(e,q,l,m):=VW B hd z n<|ei h;let(p,y,aC,ej,g):=q.grow B hd z λz=>by rw[z]at l;show qj h l
  show{_,ej,by rw[Vh aC,l];show rg _ _ _,?_};rw[Tq];show anM m g
theorem LM:∀ss:O Y,bA (bY ss)=((ss.sum:Y):D)
 |[]=>rfl
 |s::ss=>by show(s:D)+bA (bY ss)=_;rw[LM ss,List.sum_cons];lia
def afV(B:e8 d)(hd:∀k,b7 d k=cK OG k)(z:nH OG)(ct:fl d=(gz (OG.map List.H):D)):OG∈gJ d (OG.map List.H):=by
 delta gJ;rw[Y2 ct];let d0:=(ih.start z).ln.1;rw[TO]at d0;let g:iz (OG.map List.H)=ln OG-OG.H:=by delta iz;rw[LM,bZ];show(((ln OG:Y):D)-_).M=_;lia
 rw[g,bZ];let(e,q,l,m):=VW B hd z (ln OG-OG.H) Z6;rw[q.ln.2 Z6]at m;show mY.mpr {m,?_};let fit:Fits d<|cK OG:=λk=>by rw[hd k];show hD _
 delta wd;rw[(yw B _).mpr fit,Bool.true_and];cases h:gI d OG with
 |nil=>rfl
 |cons q r =>
  let:=(By B fit q.1).mp (by rw[h];show cc ..);rw[hd]at this;lia
def BD(x:O D)(ds:O Z0)(a:D)(l:O D):hB (x::ds) (a::l)=x.map (·+a)::hB ds l:=by delta hB;rw[qaL,cj,List.zipIdx_succ,bv];rfl
theorem GI:∀(ds:O Z0) (l:O D),ds.H=l.H->∀k,cK (hB ds l) k=cK ds (k-bA l)
 |[],[],_,k=>by show cK [] k=cK [] (k-0);rw[Cz]
 |x::ds,a::l,h,k=>by rw[BD,jI,jI,bv];show FZ λf _=>?_;show cK (hB ds l) (k-(f+a))=_;rw[GI ds l<|V3 h];congr 1;show k-(f+a)-bA l=k-(a+bA l)-f;lia
structure rJ (tw:O Z3) (ss:O Y) (Fa:D) (r:O Z0):Prop where
 len:r.map List.H=ss
 up:∀x∈r,x.Pairwise (·<=·)
 lo:∀x∈r,∀z∈x,Fa<=z
 all:∀k,cK r k=b7 tw k
def VX(h:∀k,cK r k=b7 d k):mC d<|fX r:=λk=>(h k).symm
theorem BE:∀r:O Z0,(fX r).H=gz (r.map List.H)
 |[]=>rfl
 |x::r=>by
  let aQ:=BE r;rw[qZ];show _=x.H*gz _;rw[<-aQ];generalize fX r=s
  induction x with
  |nil=>simp
  |cons f x aQ=>rw[iA,gm,bZ,aQ,dv,lR];show rh _ _
theorem TP:∀{a b:O Y},a.H=b.H->(∀p,p<a.H->1<=a.getD p 0/\a.getD p 0<=b.getD p 0)->gz a=gz b->a=b/\1<=gz a
 |[],[],_,_,_=>{P,b8 _}
 |x::a,y::b,l,h,e=>by
  let h0:=h 0 Z5;let aK:∀p,p<a.H->1<=a.getD p 0/\a.getD p 0<=b.getD p 0:=λp aC=>h (p+1)<|za aC;let bE:1<=x:=h0.1;let aap:x<=y:=h0.2;let le:∀{a b:O Y},a.H=b.H->(∀p,p<a.H->1<=a.getD p 0/\a.getD p 0<=b.getD p 0)->1<=gz a/\gz a<=gz b:=by
   intro a
   induction a with
   |nil=>intro b l _;cases b with|nil=>show⟨b8 _,b8 _⟩|cons=>ext l
   |cons u a aQ =>
    intro b l h;cases b with
    |nil=>ext l
    |cons v b =>
     let h0:=h 0 Z5;let fS:1<=u:=h0.1;let Dx:u<=v:=h0.2;let(zQ,xt):=aQ (V3 l) λp aC=>h (p+1)<|za aC;show{ku fS zQ,ku Dx xt}
  let(c5,cP):=le (V3 l) aK;let e:x*gz a=y*gz b:=e;let afW:x=y:=by show jk aap (Cu.mp λlt=>?_);let:x*gz a<y*gz b:=dX ((Nat.mul_lt_mul_right<|c5).mpr lt)<|Cn _ cP;lia
  subst afW;let:=TP (V3 l) aK<|qaO bE e;show{by rw[this.1],ku bE c5}
theorem LN:∀{ds:O Z0} {l:O D},ds.H=l.H->∀{x},x∈hB ds l->∃d∈ds,∃a∈l,x=d.map (·+a)
 |[],[],_,_,h=>by cases h
 |d::ds,a::l,e,x,h=>by
  rw[BD]at h;rcases cF.mp h with rfl|h
  .show{d,cc ..,a,cc ..,P}
  .let(d',hd,gg,bl,q):=LN (V3 e) h;show{d',cZ _ hd,gg,cZ _ bl,q}
theorem LO:∀{ds:O Z0} {l:O D},ds.H=l.H->(hB ds l).map List.H=ds.map List.H
 |[],[],_=>rfl
 |d::ds,a::l,e=>by rw[BD,cj,cj,LO<|V3 e,bZ]
def LP(h:eB tw)(ae:∀s∈ss,1<=s)(hd:ds∈gJ (d7 tw) ss):Shape (d7 tw) ss ds/\ds.map List.H=ss:=by
 let cp:=Fy (tT h.eD) (Fz h) ae hd;show{cp,?_};let t:fl (d7 tw)=(gz ss:D):=by
  delta gJ at hd;split at hd
  .assumption
  .cases hd
 rw[LA (tT h.eD)<|VX cp.all,BE]at t;let l:ds.H=ss.H:=by rw[cp.kE.len,Fx]
 show(TP (by rw[bZ,l]) (λp aC=>?_) Z6).1;rw[bZ]at aC;let f:=cp.kE.fit p aC;let o:=cp.kE.one _<|getD_mem (z:=[]) aC;let aB:(ds.map List.H).getD p 0=(ds.getD p []).H:=by rw[hY,hO,hY,gd aC];rfl
 let ax:(bY ss).getD p 0=((ss.getD p 0:Y):D):=by delta bY;rw[hY,hO,hY,gd<|dX aC<|dy l];rfl
 rw[aB];lia
def TQ(h:eB tw)(ae:∀s∈ss,1<=s){Fa:D}(hw:∀l∈dK,l.H=ss.H/\bA l=(tw.headD (0,0)).1/\∀a∈l,Fa<=a)(a4:r∈h7 (gJ (d7 tw) ss) dK):rJ tw ss Fa r:=by
 let(ds,hd,hm):=mm.mp a4;let(l,az,rfl):=c9.mp hm;let(cp,ln):=LP h ae hd;let(gO,iF,uH):=hw l az;let e:ds.H=l.H:=by rw[gO,<-ln,bZ]
 show{by rw[LO e,ln],λx au=>?_,λx au z hz=>?_,λk=>?_}
 .let(d,hd,a,_,rfl):=LN e au;show Ov _ (λ_ _ _=>by lia)<|cp.kk.up d hd
 .let(d,hd,a,bl,rfl):=LN e au;let(y,aJ,rfl):=c9.mp hz;let:=cp.kk.nn d hd y aJ;let:=uH a bl;lia
 .rw[GI ds l e,iF,cp.all,Ln];congr 1;show Int.sub_add_cancel _ _
def MA(r:O Z0):O Z0:=r.map λx=>x.map (·-x.headD 0)
def My(r:O Z0):O D:=r.map λx=>x.headD 0
theorem BF:∀r:O Z0,hB (MA r) (My r)=r
 |[]=>rfl
 |x::r=>by show hB (x.map (·-x.headD 0)::MA r) (x.headD 0::My r)=_;rw[BD,BF r,down]
def TR(n:∀x∈r,x≠[])(up:∀x∈r,x.Pairwise (·<=·)):nH<|MA r:=λy aJ=>by
 let(x,au,rfl):=c9.mp aJ;show{Ov _ (λ_ _ _=>by lia)<|up x au,?_};cases x with
 |nil=>show MI P<|n _ au
 |cons a t=>show{t.map (·-a),by rw[cj];show(a-a)::_=_;rw[Hv];rfl}
def TS(h:eB tw)(n:∀x∈r,x≠[])(up:∀x∈r,x.Pairwise (·<=·))(all:∀k,cK r k=b7 tw k):bA (My r)=(tw.headD (0,0)).1:=by
 let z:=TR n up;let e:(MA r).H=(My r).H:=by delta MA My;rw[bZ,bZ]
 let s:∀k,cK r k=cK (MA r) (k-bA (My r)):=λk=>by rw[<-GI _ _ e,BF]
 obtain⟨q,dW,rfl⟩:∃q dW,tw=q::dW:=by
  cases tw with
  |nil=>show MI P h.ne
  |cons q dW=>show{(q),dW,P}
 show _=q.1;let a:¬q.1<bA (My r):=λlt=>by let c:=all q.1;rw[s,FY z.nn Z6,iN h.eD.bG<|cc ..]at c;let:=(h.hb q<|cc ..).2.2.1;lia
 let b:1<=b7 (q::dW) (bA<|My r):=by rw[<-all,s,Hv];show LK λx au=>by let(_,t,rfl):=z x au;show cc ..
 let(p,aC,ax):=c9.mp<|h.eD.mem (k:=bA<|My r)<|b;let:q.1<=p.1:=by
  rcases cF.mp aC with rfl|aC
  .show hD _
  .show kx<|(ik.mp h.up).1 p.1 (hZ aC)
 lia
def TU(h:eB tw)(ae:∀s∈ss,1<=s){Fa:D}(hw:∀l,l.H=ss.H->bA l=(tw.headD (0,0)).1->(∀a∈l,Fa<=a)->l∈dK)(g:rJ tw ss Fa r):r∈h7 (gJ (d7 tw) ss) dK:=by
 let n:∀x∈r,x≠[]:=λx au z=>by let:=ae x.H (by rw[<-g.len];show hZ au);rw[z]at this;show MI this Z1
 let hd:=TS h n g.up g.all;let e:(MA r).H=(My r).H:=by delta MA My;rw[bZ,bZ]
 let ln:(MA r).map List.H=ss:=by let:=LO e;rw[BF]at this;rw[<-this,g.len]
 show mm.mpr {MA r,?_,c9.mpr {My r,hw _ ?_ hd ?_,BF r}}
 .rw[<-ln];show afV (tT h.eD) (λk=>?_) (TR n g.up) ?_
  .rw[Ln,<-g.all,<-hd];let:=GI (MA r) (My r) e<|k+bA (My r);rw[BF]at this;rw[this];congr 1;show Hr _ _
  .rw[afL,LA h.eD<|VX g.all,BE,g.len,ln]
 .delta My;rw[bZ,<-g.len,bZ]
 .intro a bl;let(x,au,rfl):=c9.mp bl;cases x with
  |nil=>show MI P<|n _ au
  |cons a t=>show g.lo _ au a<|cc ..
def aiw{x:O D}(up:x.Pairwise (·<=·))(nn:∀y∈x,0<=y)(z:0∈x):∃t,x=0::t:=by
 cases x with
 |nil=>cases z
 |cons a t =>
  let De:=nn a<|cc ..;rcases cF.mp z with e|z
  .show{t,by rw[<-e]}
  .let:=(ik.mp up).1 0 z;show{t,by rw[show a=0 from(w2 this De)]}
def Shape.afX(cp:Shape d ss ds):nH ds:=λx au=>{cp.kk.up x au,aiw (cp.kk.up x au) (cp.kk.nn x au)<|cp.kk.zero x au}
theorem BG:∀{OG:O Z0} {l:O D},OG.H=l.H->nH OG->My (hB OG l)=l/\MA (hB OG l)=OG
 |[],[],_,_=>{(P),P}
 |x::OG,a::l,e,z=>by
  let(_,t,rfl):=z x<|cc ..;let(ae,ai):=BG (V3 e) λw hw=>z w<|cZ _ hw;rw[BD];let aB:((0::t).map (·+a)).headD 0=a:=by show 0+a=a;show Int.zero_add _
  constructor
  .show((0::t).map (·+a)).headD 0::My (hB OG l)=_;rw[ae,aB]
  .show((0::t).map (·+a)).map (·-((0::t).map (·+a)).headD 0)::MA (hB OG l)=_;rw[ai,aB,bv];congr 1
   conv=>rhs;rw[<-ug (0::t)]
   show ji λy _=>?_;show y+a-a=y;show Hr _ _
theorem TV:∀(xs ks:O ZI),ks.Nodup->(xs.foldl hM ks).Nodup
 |[],ks,h=>h
 |x::xs,ks,h=>by
  rw[jj];show TV xs _ ?_;delta hM;split
  .show h
  .rename_i c;rw[wR];show{h,by simp,λa bl b ao e=>c ?_};rw[gK]at ao;rw[wV];show{a,bl,by rw[e,ao];simp}
theorem TX(d:O Z3)(bQ:O D):∀(k:Y) (f:O ZI),f.Nodup->(ko d bQ k f).Nodup
 |0,f,h=>h
 |k+1,f,h=>TX d bQ k _<|TV _ [] Z5
def afY(d:O Z3)(ss:O Y):(gJ d ss).Nodup:=by
 delta gJ;split
 .show(TX _ _ _ _ Z5).filter _
 .simp
def TY(h:eB tw)(ae:∀s∈ss,1<=s)(bG:dK.Nodup)(az:∀l∈dK,l.H=ss.H):(h7 (gJ (d7 tw) ss) dK).Nodup:=by
 delta h7;let sn:(gJ (d7 tw) ss).Nodup:=afY _ _;let len:∀ds∈gJ (d7 tw) ss,∀l∈dK,ds.H=l.H/\nH ds:=λds hd l j4=>by let(cp,e):=LP h ae hd;show{by rw[az l j4,<-e,bZ],cp.afX}
 show GZ.mpr {λds hd=>?_,sn.imp_of_mem λ{d e} hd he ne u bP v bu q=>ne ?_}
 .rw[mj];show bG.imp_of_mem λ{l lg} az j4 ne q=>ne ?_;let(a1,a2):=len ds hd l az;let(bO,b6):=len ds hd lg j4;rw[<- (BG a1 a2).1,q,(BG bO b6).1]
 .let(l,az,rfl):=c9.mp bP;let(lg,j4,rfl):=c9.mp bu;let(a1,a2):=len d hd l az;let(bO,b6):=len e he lg j4;rw[<- (BG a1 a2).2,q,(BG bO b6).2]
end g9
namespace g9
open a8 a8.bD du
def stC(F:dV):bS:=eX (fU<|cD 3 F<|a0 (aD fW<|af (aq 0)<|af (aq 4) aw)<|a0 (aD fW<|af (aq 1) ZT)<|a0 (aq 2) cw) (cY ZU) (b4 0) yes<|aD dE<|af (c6<|af (bB<|aq 5) aw) ZL
def F1(F:dV):br:=hN 3 hj<|stC F
def BH(F:dV):br:=eo (rR<|af (aq 2)<|af (aD dE<|af (aD fW<|af (aq 0) ZN) ZT) aw) (b4 4)<|F1 F
def si(F:dV):br:=(bk (en (cG<|aD hu<|af (aq 1) ZT) (dQ<|qJ (cG<|aD oh<|af (aq 0) ZN) (dA<|af (bB Zd) aw)<|dA aw) eJ)<|bk (cX 3<|dA aw)<|bk (BH F)<|lD 3)
def xU:v8=ea 5 (si v7):=rfl
def hL:v7=ea 5 (si Ff):=rfl
def afZ:Ff=ea 5 (si KW):=rfl
def akn(F:dV)(t Fa:D)(n:Y):ea 5 (si F) [(.int t,Y0),(.int 1,Y0),(.int Fa,Y0)] n=J (.aj<|(pW t Fa).map ar,Y0,n):=by
 let iY:0<=bp:=by decide
 let bO:1<=bp:=by decide
 delta pW si;generalize BH F=LL;by_cases h:Fa<=t
 .rw[Y2 h];simp![pR,oh,gb,h,dA,c6,bO];rfl
 .rw[Y3 h];simp![pR,oh,gb,h,dA,iY]
def al8{F:dV}{t Fa m a:D}{g:O Z0}{n:Y}(fD:F [(.int<|t-a,Y0),(.int<|m-1,Y0),(.int Fa,Y0)] n=J (.aj<|g.map ar,Y0,n))(bL:g.H<=200)(Iw:∀l∈g,l.H<=9)(V9:O Z0)(az:V9.H<=100000) :
  F1 F [J (.int t,.aa),J (.int m,.aa),J Z7,J (.aj<|V9.map ar,.aA),J (.int a,.aa)] n=J (.bC,[J (.int t,.aa),J (.int m,.aa),J Z7,J (.aj<|(V9++g.map (a::·)).map ar,.aA),J (.int a,.aa)],n):=by
 let dJ:bp=1000000:=rfl;let bO:1<=bp:=by decide
 let iW:stC F [J (.int t,.aa),J (.int m,.aa),J Z7,J (.aj<|V9.map ar,.aA),J (.int a,.aa)] n=J (.aj<|(g.map (a::·)).map ar,.aA,n):=by
  rw[bv];show mS g ar (ar∘(a::·)) ?_ Z6 λl az=>?_
  .generalize g.map ar=out at*;generalize V9.map ar=ac at*;simp![fU,fW,gb,fD,Mz]
  .let ad:dE n [.aF [.int a],ar l]=J (ar<|a::l,.aa):=by let:=Iw l az;delta ar;rw[vU,Y2<|by rw[bZ];show 1+_<=bp;lia];rfl
   show _=J (ar<|a::l,_,_);generalize ar (a::l)=ek at*;generalize ar l=gx at*;generalize V9.map ar=ac at*;simp![cY,c6,bO,ad]
 let ex:hj (.aj<|V9.map ar) (.aj<|(g.map (a::·)).map ar)=J (.aj<|(V9++g.map (a::·)).map ar):=by rw[vV,Y2 (by rw[bZ,bZ,bZ];lia),jM]
 delta F1;rw[yn iW (u:=.aj<|V9.map ar) P ex];rfl
def oF(t Fa:D)(G:D->O Z0)(a k:Y):O Z0:=(Vm a k).flatMap λ(j:Y)=>(G<|t-(Fa+j)).map ((Fa+(j:D))::·)
def VY{F:dV}{t Fa m:D}(G:D->O Z0)(n:Y)(h0:0<=Fa)(ae:Fa<=30)(ct:0<=t)(Bw:t<=120)(hm:m≠1)(s1:-10<=m)(s2:m<=10)
  (fD:∀a,Fa<=a->a<=t-Fa->F [(.int<|t-a,Y0),(.int<|m-1,Y0),(.int Fa,Y0)] n=J (.aj<|(G<|t-a).map ar,Y0,n)) (bL:∀x,x<=120->(G x).H<=200) (Iw:∀x,∀l∈G x,l.H<=9) :
  ea 5 (si F) [(.int t,Y0),(.int m,Y0),(.int Fa,Y0)] n=J (.aj<|(oF t Fa G 0 (t-Fa+1-Fa).M).map ar,Y0,n):=by
 let dJ:bp=1000000:=rfl;let iY:0<=bp:=by decide
 let gen:∀(k a:Y) (V9:O Z0) (cv:MB ZE),a+k=(t-Fa+1-Fa).M->V9.H<=a*200->∃sb,eb (b4 4) (F1 F) ((Vm a k).map λ(j:Y)=>T.int<|Fa+j) [J (.int t,.aa),J (.int m,.aa),J Z7,J (.aj<|V9.map ar,.aA),cv] n =
   J (.bC,[J (.int t,.aa),J (.int m,.aa),J Z7,J (.aj<|(V9++oF t Fa G a k).map ar,.aA),sb],n):=by
  intro k
  induction k with
  |zero=>intro a V9 cv _ _;show{cv,by simp[eb,oF]}
  |succ k aQ =>
   intro a V9 cv aW bl;let af0:=bL (t-(Fa+a)) Z6;let(sb,e):=aQ (a+1) (V9++(G<|t-(Fa+a)).map ((Fa+(a:D))::·)) (J (.int<|Fa+a,.aa)) Z6 (by rw[gm,bZ];lia);show{sb,?_};delta oF at e |-;rw[qaN,cj,iA,<-hk];delta eb;erw[a8.bD.b4,il,ip,eC];rw[al8 (fD (Fa+a) Z6 Z6) af0 (Iw _) V9 Z6];show e
 let(cv,e):=gen (t-Fa+1-Fa).M 0 [] C (rh _ _) (fY _);rw[ka,<-y1]at e;let xJ:=Kz (a:=af (aq 2)<|af (aD dE<|af (aD fW<|af (aq 0) ZN) ZT) aw) (S:=[J (.int t,.aa),J (.int m,.aa),J Z7,J (.aj [],.aA),C]) (n:=n) (n':=n) (i:=Fa) (j:=t-Fa+1) (by simp![fW,gb,mb]) (ce Z1 h0) (ce ae Z1) Z6 Z6;let ix:BH F [J (.int t,.aa),J (.int m,.aa),J Z7,J (.aj [],.aA),C] n=J (.bC,[J (.int t,.aa),J (.int m,.aa),J Z7,J (.aj<|(oF t Fa G 0 (t-Fa+1-Fa).M).map ar,.aA),cv],n):=by delta BH eo;rw[xJ];show e
 generalize (oF t Fa G 0 (t-Fa+1-Fa).M).map ar=out at*;let q:hu n [.int m,.int 1]=J (.aU Y1,.aa):=by rw[pR];simp[hm]
 delta si;generalize BH F=LL at*;simp![q,dA,iY,ix]
def al9{t Fa:D}:oF t Fa (λx=>pW x Fa) 0 (t-Fa+1-Fa).M=hA t Fa:=by
 delta oF hA;rw[<-y1];let:∀l:O Y,(∀j∈l,(j:D)<=t-Fa-Fa)->(l.flatMap λ(j:Y)=>(pW (t-(Fa+j)) Fa).map ((Fa+(j:D))::·))=l.map λ(k:Y)=>[Fa+(k:D),t-(Fa+k)]:=by
  intro l
  induction l with
  |nil=>intro _;rfl
  |cons j l aQ =>
   intro h;let:=h j<|cc ..;rw[iA,cj,aQ λi hi=>h i<|cZ _ hi];delta pW;rw[Y2 Z6];rfl
 show this _ λj bJ=>?_;let:=mZ.mp bJ;lia
def lM(t Fa:D):O Z0:=oF t Fa (λx=>hA x Fa) 0 (t-Fa+1-Fa).M
def af1{t Fa:D}(h:l∈hA t Fa):l.H=2:=by let(k,_,rfl):=c9.mp h;rfl
def ama{t Fa:D}(h0:0<=Fa)(ae:Fa<=30)(ct:0<=t)(Bw:t<=120)(n:Y):ea 5 (si<|ea 5<|si F) [(.int t,Y0),(.int 2,Y0),(.int Fa,Y0)] n=J (.aj<|(hA t Fa).map ar,Y0,n):=by
 rw[VY (λx=>pW x Fa) n h0 ae ct Bw Z1 Z1 Z1 (λa _ _=>akn F (t-a) Fa n) (λx _=>?_) (λx l az=>?_),al9]
 .delta pW;split<;>simp
 .delta pW at az;split at az
  .rw[gK.mp az];show 1<=9;decide
  .cases az
def TZ{t Fa:D}(h0:0<=Fa)(ae:Fa<=30)(ct:0<=t)(Bw:t<=120)(n:Y):v8 [(.int t,Y0),(.int 3,Y0),(.int Fa,Y0)] n=J (.aj<|(lM t Fa).map ar,Y0,n):=by
 rw[xU,hL,afZ];show VY (λx=>hA x Fa) n h0 ae ct Bw Z1 Z1 Z1 (λa a1 a2=>ama h0 ae Z6 Z6 n) (λx au=>?_) λx l az=>?_
 .delta hA;rw[bZ,ue];lia
 .rw[af1 az];decide
def F2{t Fa:D}(h0:0<=Fa):l∈lM t Fa↔l.H=3/\bA l=t/\∀a∈l,Fa<=a:=by
 delta lM oF;rw[<-y1,mm];constructor
 .rintro⟨j,bJ,h⟩;let(m,hm,rfl):=c9.mp h;let(b,rfl,bO,b6):=FA hm;show{P,?_,λa bl=>?_}
  .show Fa+(j:D)+(b+(_+0))=t;lia
  .erw[cF,hl,MW]at bl;rcases bl with rfl|rfl|rfl<;>lia
 .rintro⟨aS,aK,az⟩
  match l,aS with
  |[a,b,c],_ =>
   let a1:=az a Z5;let bO:=az b Z5;let cb:=az c Z5;let aK:a+(b+(c+0))=t:=aK;let cB:Fa+(((a-Fa).M:Y):D)=a:=by lia
   show{(a-Fa).M,mZ.mpr Z6,?_};rw[cB];show c9.mpr {[b,c],c9.mpr {(b-Fa).M,mZ.mpr Z6,?_},P};rw[show Fa+(((b-Fa).M:Y):D)=b by lia,show t-a-b=c by lia]
def af2(t Fa:D):(lM t Fa).Nodup:=by
 delta lM oF;rw[<-y1];show GZ.mpr {λj _=>?_,Ca.imp λ{i j} ne u bP v bu q=>ne ?_}
 .rw[mj];let:(hA (t-(Fa+(j:D))) Fa).Nodup:=by delta hA;show mj.mpr (Ca.imp λ{a b} ne q=>ne ?_);injection q with q _;lia
  show this.imp λ{a b} ne q=>ne (List.cons.inj q).2
 .let(m,_,rfl):=c9.mp bP;let(f3,_,rfl):=c9.mp bu;let:=(List.cons.inj q).1;lia
end g9
namespace we
open PySem a8 a8.bD du g9
def T1:oO=e4.oO:=rfl
def oG(tw:O Z3)(s1 s2 s3:Y):O ZI:=gJ (d7 tw) [s1,s2,s3]
def gV(tw:O Z3)(s1 s2 s3:Y)(Fa:D):O ZI:=h7 (oG tw s1 s2 s3)<|lM (tw.headD (0,0)).1 Fa
structure mE (s1 s2 s3:Y):Prop where
 a:1<=s1/\s1<=4
 b:1<=s2
 c:1<=s3
 m:s2*s3<=16
 Iy:s2<=8
 Oc:s3<=8
 p:3^iz [s1,s2,s3]<=300000
def mE.all{s1 s2 s3:Y}(z:mE s1 s2 s3):∀s∈[s1,s2,s3],1<=s/\s<=8:=λs aK=>by
 let:=z.a;erw[cF,hl,MW]at aK;rcases aK with rfl|rfl|rfl
 .show M7 this.1<|bw this.2 Z1
 .show{(z.b),z.Iy}
 .show{(z.c),z.Oc}
def F3(h:eB tw){s1 s2 s3:Y}(z:mE s1 s2 s3){Fa:D}(dG:0<=Fa):r∈gV tw s1 s2 s3 Fa↔rJ tw [s1,s2,s3] Fa r :=
 {λa4=>TQ h (λs aK=>(z.all s aK).1) (λl az=>(F2 dG).mp az) a4,λg=>TU h (λs aK=>(z.all s aK).1) (λl a b c=>(F2 dG).mpr {(a),b,c}) g}
def T2(h:eB tw){s1 s2 s3:Y}(z:mE s1 s2 s3){Fa:D}(dG:0<=Fa):(gV tw s1 s2 s3 Fa).Nodup :=
 TY h (λs aK=>(z.all s aK).1) (af2 _ _) λl az=>((F2 dG).mp az).1
def T3(tw:O Z3)(s1 s2 s3:Y)(Fa:D):(gV tw s1 s2 s3 Fa).H=(oG tw s1 s2 s3).H*(lM (tw.headD (0,0)).1 Fa).H:=by
 delta gV h7;generalize oG tw s1 s2 s3=B
 induction B with
 |nil=>simp
 |cons x B aQ=>rw[iA,gm,bZ,aQ,dv,lR];show rh _ _
def LQ(h:eB tw){s1 s2 s3:Y}(z:mE s1 s2 s3){Fa:D}(dG:0<=Fa):∀l∈gV tw s1 s2 s3 Fa,l≠[]/\∀d∈l,∀x∈d,0<=x:=λl az=>by
 let g:=(F3 h z dG).mp az;show{λe=>?_,λd hd x au=>ce dG<|g.lo d hd x au};let:=g.len;rw[e]at this
 ext this
def T4{t Fa:D}(dG:0<=Fa)(ct:t<=120):(lM t Fa).H<=20000:=by
 delta lM oF;let:(t-Fa+1-Fa).M<=121:=by lia
 show bw (Bu (m:=121) λj _=>?_) (by rw[List.length_range'];lia);rw[bZ];show(hA _ Fa).H<=121;rw[Tf];lia
def ako(h:eB tw)(fO:tw.H<64){s1 s2 s3:Y}(z:mE s1 s2 s3){Fa:D}(dG:0<=Fa)(d0:Fa<=30)(hz:(gV tw s1 s2 s3 Fa).H<=400)(b:MF)(n:Y) :
  wh [(.aj<|bT tw,b),(ar ZA,Y0),(.int Fa,Y0)] n=J (.aj<|(fg<|gV tw s1 s2 s3 Fa).map a6,Y0,n):=by
 let na:=e4.BY h fO z.all dG d0 b n;let LR:=e4.BY h fO z.all dG d0 Y0 n;let LS:([s1,s2,s3].H:D)=3:=rfl;rw[LS,<-T1]at na LR;let lq:=shapes h (ss:=[s1,s2,s3]) (show 1<=3 by decide) (show 3<=3 by decide) z.all z.p b n;rw[<-Lp]at lq;obtain⟨cN,dW,rfl⟩:∃cN dW,tw=cN::dW:=by
  cases tw with
  |nil=>show MI P h.ne
  |cons q tw=>show{(q),tw,P}
 let jR:=h.hb cN<|cc ..;let st:=TZ (t:=cN.1) dG d0 (jR.1) (jR.2.1) n;let d6:cz n [.aj<|bT Zc,.int 0]=J (.aF [.int cN.1,.int cN.2],.aa):=by show((fV (bT Zc) 0).map λt=>(t,a9.aa))=_;delta fV bT;rw[Y2 Z6,Y2<|by rw[bZ,dv];lia];rfl
 let g1:∀a b:D,cz n [.aF [.int a,.int b],.int 0]=J (.int a,.aa):=λ_ _=>P;let t0:cz n [ar ZA,.int 0]=J (.int s1,.aa):=rfl;let t1:cz n [ar ZA,.int 1]=J (.int s2,.aa):=rfl;let dz:cz n [ar ZA,.int 2]=J (.int s3,.aa):=rfl;let F4:lF n [.int (s1:D),.int 4]=J (.aU Y1,.aa):=by let:=z.a;show J (T.aU<|decide ((4:D)<s1),a9.aa)=_;rw[Nc Z6]
 let ib:fF n [.int (s2:D),.int (s3:D)]=J (.int<|s2*s3,.aa):=pV (.inl (by let:=z.Iy;simp[Mw];lia)) n;let F5:lF n [.int<|(s2:D)*s3,.int 16]=J (.aU Y1,.aa):=by let:=z.m;show J (T.aU<|decide ((16:D)<s2*s3),a9.aa)=_;rw[Nc<|by rw[<-sI];lia]
 let ln:=T3 Zc s1 s2 s3 Fa
 let am:=Ta (dx:=oG Zc s1 s2 s3) (dK:=lM cN.1 Fa) (m:=3) (λds gS=>by
   let(cp,e):=LP h (λs aK=>(z.all s aK).1) gS;show{by rw[<-bZ (f:=List.H),e];rfl,λd hd=>?_};let:=z.all d.H (by rw[<-e];show hZ hd)
   show bw this.2 Z1) (λl az=>((F2 dG).mp az).1) Z1 (by rw[ln]at hz;show bw hz Z1) (LQ h z dG) Y1 Y1 n
 let BI:fF n [.int (((oG Zc s1 s2 s3).map a6).H:Y),.int (((lM cN.1 Fa).map ar).H:Y)]=J (.int ((gV Zc s1 s2 s3 Fa).H:Y),.aa):=by
  rw[bZ,bZ,pV,ln]
  .rw[sI];rfl
  .let:=T4 (t:=cN.1) dG<|jR.2.1;show .inr (by simp[Mw];lia)
 let BJ:lF n [.int ((gV Zc s1 s2 s3 Fa).H:Y),.int 400]=J (.aU Y1,.aa):=by show J (T.aU<|decide ((400:D)<_),a9.aa)=_;rw[Nc Z6]
 let lq:du.Bm [(.aj<|bT Zc,b),(ar ZA,Y0)] n=J (.aj<|(oG Zc s1 s2 s3).map a6,Y0,n):=lq;delta gV at BI BJ |-;let hd:((cN::dW).headD (0,0)).1=cN.1:=rfl;rw[hd]at BI BJ |-;generalize (fg<|h7 (oG Zc s1 s2 s3)<|lM cN.1 Fa).map a6=out at*;generalize ((h7 (oG Zc s1 s2 s3)<|lM cN.1 Fa).H:Y)=cH at*;generalize (oG Zc s1 s2 s3).map a6=ek at*;generalize (lM cN.1 Fa).map ar=gx at*;generalize bT Zc=o3 at*;generalize ar ZA=o4 at*;delta wh Tn se wg t6 qb
 ext b<;>simp![na,lq,d6,g1,st,t0,t1,dz,F4,ib,F5,pQ,BI,BJ,am]
def LU(h:eB tw)(fO:tw.H<64)(b:MF)(t v:T)(n:Y):sd [(.aj<|bT tw,b),(t,Y0),(.int 3,Y0),(v,Y0)] n=e4.Io [J (.aj<|bT tw,if b then .aa else .b9),J (t,.aa),J (.int 3,.aa),J (v,.aa),C] n:=by
 let b2:flag (look (if b then .aa else .b9)<|.aj<|bT tw) (.aj<|bT tw)=b:=by cases b<;>rfl
 let it:=e4.V2 h fO b n;let aB:pY [(.aj<|bT tw,b)] n=C:=e4.akm (by rw[b2];show it);let ax:oD [(.aj<|bT tw,b)] n=J (.b0,Y1,n):=e4.Mu h fO b n;let aV:kJ 1 pY Ze [J (.aj<|bT tw,if b then .aa else .b9),J (t,.aa),J (.int 3,.aa),J (v,.aa),C] n=C:=by generalize bT tw=cH at*;cases b<;>show aB
 let bb:jH (cD 1 oD Ze) [J (.aj<|bT tw,if b then .aa else .b9),J (t,.aa),J (.int 3,.aa),J (v,.aa),C] n=J (.bC,[J (.aj<|bT tw,if b then .aa else .b9),J (t,.aa),J (.int 3,.aa),J (v,.aa),C],n):=by generalize bT tw=cH at*;cases b<;>simp![ax]
 show h9 (kJ 1 pY Ze) (jH<|cD 1 oD Ze) e4.Io [J (.aj<|bT tw,if b then .aa else .b9),J (t,.aa),J (.int 3,.aa),J (v,.aa),C] n=_;delta h9;rw[aV,bb];rfl
def T5{s1 s2 s3:Y}(ae:1<=s1/\s1<=8)(ai:1<=s2/\s2<=8)(aS:1<=s3/\s3<=8)(x0:MB ZE)(v:T)(n:Y):e4.Io [x0,J (.aF ZD,.aa),J (.int 3,.aa),J (v,.aa),C] n=kP [(v,Y0),(.int 0,Y0),(.int 30,Y0)] n:=by
 let a:∀s:Y,1<=s/\s<=8->kP [(.int (s:D),Y0),(.int 1,Y0),(.int 8,Y0)] n=C:=λs h=>Se<|yt _ 1 8 n Z6 Z6;let w:∀s:Y,1<=s/\s<=8->kR [x0,J (.aF ZD,.aa),J (.int 3,.aa),J (v,.aa),J (.int s,.aa)] n=J (.bC,[x0,J (.aF ZD,.aa),J (.int 3,.aa),J (v,.aa),J (.int s,.aa)],n):=λs h=>by let e:=K0 (s:D) 1 8 n Z6 Z6;delta kR;simp![e]
 let ix:eA 1 q2 [x0,J (.aF ZD,.aa),J (.int 3,.aa),J (v,.aa),C] n=J (.bC,[x0,J (.aF ZD,.aa),J (.int 3,.aa),J (v,.aa),J (.int s3,.aa)],n):=by show(kR [x0,J (.aF ZD,.aa),J (.int 3,.aa),J (v,.aa),J (.int s1,.aa)] n).bind _=_;rw[w s1 ae];show(kR [x0,J (.aF ZD,.aa),J (.int 3,.aa),J (v,.aa),J (.int s2,.aa)] n).bind _=_;rw[w s2 ai];show(kR [x0,J (.aF ZD,.aa),J (.int 3,.aa),J (v,.aa),J (.int s3,.aa)] n).bind _=_;rw[w s3 aS];rfl
 let aaq:BP (e2<|aq 1) (b4 4) kR (kJ 3 du.kP<|a0 (aq 4)<|a0 Z8<|a0 (aH<|.int 8) cw) [x0,J (.aF ZD,.aa),J (.int 3,.aa),J (v,.aa),C] n=C:=by show(match kP [(.int (s1:D),Y0),(.int 1,Y0),(.int 8,Y0)] n with|some r=>J r|none=>(kR [x0,J (.aF ZD,.aa),J (.int 3,.aa),J (v,.aa),J (.int s1,.aa)] n).bind _)=_;rw[a s1 ae,w s1 ae];show(match kP [(.int (s2:D),Y0),(.int 1,Y0),(.int 8,Y0)] n with|some r=>J r|none=>(kR [x0,J (.aF ZD,.aa),J (.int 3,.aa),J (v,.aa),J (.int s2,.aa)] n).bind _)=_;rw[a s2 ai,w s2 ai];show(match kP [(.int (s3:D),Y0),(.int 1,Y0),(.int 8,Y0)] n with|some r=>J r|none=>(kR [x0,J (.aF ZD,.aa),J (.int 3,.aa),J (v,.aa),J (.int s3,.aa)] n).bind _)=_;rw[a s3 aS,w s3 aS];rfl
 show(match BP (e2<|aq 1) (b4 4) kR (kJ 3 du.kP<|a0 (aq 4)<|a0 Z8<|a0 (aH<|.int 8) cw) [x0,J (.aF ZD,.aa),J (.int 3,.aa),J (v,.aa),C] n with|some r=>J r|none=>(eA 1 q2 [x0,J (.aF ZD,.aa),J (.int 3,.aa),J (v,.aa),C] n).bind _)=_;rw[aaq,ix];rfl
def aix{b xu:MF}{n m:Y}(ao:b=Y0\/hc t0=Y0)(au:oE [(t0,b),(t1,Y0),(dz,Y0)] n=C)(h:wh [(t0,b),(t1,Y0),(dz,Y0)] n=J (v,xu,m)):lL [(t0,b),(t1,Y0),(dz,Y0)] n=J (v,xu,m):=by
 let b2:flag (look (if b then .aa else .b9) t0) t0=b:=by
  cases b with
  |true=>rfl
  |false=>rcases ao with ao|ao;cases ao;simp[look,flag,ao]
 let Iz:kJ 3 oE (a0 (aq 0)<|a0 (aq 1)<|a0 (aq 2) cw) [J (t0,if b then .aa else .b9),J (t1,.aa),J (dz,.aa),C] n=C:=by show oE [(t0,flag (look (if b then .aa else .b9) t0) t0),(t1,Y0),(dz,Y0)] n=C;rw[b2];show au
 let gR:dQ (cD 3 wh<|a0 (aq 0)<|a0 (aq 1)<|a0 (aq 2) cw) [J (t0,if b then .aa else .b9),J (t1,.aa),J (dz,.aa),C] n=J (.ba v xu,[J (t0,if b then .aa else .b9),J (t1,.aa),J (dz,.aa),C],m):=by show Oi (Option.map _<|wh [(t0,flag (look (if b then .aa else .b9) t0) t0),(t1,Y0),(dz,Y0)] n) _=_;rw[b2,h];cases xu<;>rfl
 let aU:wi [J (t0,if b then .aa else .b9),J (t1,.aa),J (dz,.aa),C] n=J (.ba v xu,[J (t0,if b then .aa else .b9),J (t1,.aa),J (dz,.aa),C],m):=by delta wi Ar;rw[Iz];show gR
 show Oi (wi [J (t0,if b then .aa else .b9),J (t1,.aa),J (dz,.aa),C] n) _=_;rw[aU];rfl
def BK{b:MF}{n c:Y}(ao:b=Y0\/hc t0=Y0)(aI:c=2\/c=3\/c=4)(au:oE [(t0,b),(t1,Y0),(dz,Y0)] n=J (c,n)):lL [(t0,b),(t1,Y0),(dz,Y0)] n=J (.aF [.str "refused",.int c],Y1,n):=by
 let b2:flag (look (if b then .aa else .b9) t0) t0=b:=by
  cases b with
  |true=>rfl
  |false=>rcases ao with ao|ao;cases ao;simp[look,flag,ao]
 let Iz:kJ 3 oE (a0 (aq 0)<|a0 (aq 1)<|a0 (aq 2) cw) [J (t0,if b then .aa else .b9),J (t1,.aa),J (dz,.aa),C] n=J (c,n):=by show oE [(t0,flag (look (if b then .aa else .b9) t0) t0),(t1,Y0),(dz,Y0)] n=J (c,n);rw[b2];show au
 let aU:wi [J (t0,if b then .aa else .b9),J (t1,.aa),J (dz,.aa),C] n=J (.ba (.aF [.str "refused",.int c]) Y1,[J (t0,if b then .aa else .b9),J (t1,.aa),J (dz,.aa),C],n):=by delta wi Ar;rw[Iz];rcases aI with rfl|rfl|rfl<;>rfl
 show Oi (wi [J (t0,if b then .aa else .b9),J (t1,.aa),J (dz,.aa),C] n) _=_;rw[aU];rfl
def GJ{n:Y}{r:Y×Y}(h:dk S n=J r):h9 dk a lZ S n=J r:=by delta h9;rw[h]
def BL{n n':Y}(h:dk S n=C)(e:a S n=J (.bC,S',n')):h9 dk a lZ S n=lZ S' n':=by delta h9;rw[h,e];rfl
def Gp{n:Y}{b:MF}(h:c S n=J (b,n)):kK c dk fu S n=if b then dk S n else fu S n:=by delta kK;rw[h];rfl
def Gq:jS:=a0 (aq 0)<|a0 (aq 1)<|a0 (aH<|.int 3)<|a0 (aq 2) cw
def Vi:FL=h9 (kJ 4 sd Gq) (jH<|cD 4 oO Gq) (h9 (kK t6 (nt 4 mz) iL) (en t6 jG eJ)<|h9 iL (cX 3 se)<|h9 iL (cX 4 wg)<|h9 (kK qb (nt 4 mz) iL) (en qb jG eJ) iL):=rfl
def LV{b:MF}{n c:Y}(b2:flag (look (if b then .aa else .b9) t0) t0=b)(h:sd [(t0,b),(t1,Y0),(.int 3,Y0),(dz,Y0)] n=J (c,n)):oE [(t0,b),(t1,Y0),(dz,Y0)] n=J (c,n):=by show FL [J (t0,if b then .aa else .b9),J (t1,.aa),J (dz,.aa),C,C] n=_;rw[Vi];show GJ ?_;show sd [(t0,flag (look (if b then .aa else .b9) t0) t0),(t1,Y0),(.int 3,Y0),(dz,Y0)] n=_;rw[b2,h]
def T6(h:eB tw)(fO:tw.H<64){s1 s2 s3:Y}(ae:1<=s1/\s1<=8)(ai:1<=s2/\s2<=8)(aS:1<=s3/\s3<=8){Fa:D}(dG:0<=Fa)(d0:Fa<=30)(b:MF)(n:Y) :
  oE [(.aj<|bT tw,b),(.aF ZD,Y0),(.int Fa,Y0)] n=if 4<s1\/16<s2*s3 then J (4,n) else
   h9 iL (cX 3 se) (h9 iL (cX 4 wg)<|h9 (kK qb (nt 4 mz) iL) (en qb jG eJ) iL) [J (.aj<|bT tw,if b then .aa else .b9),J (.aF ZD,.aa),J Z7,C,C] n:=by
 let b2:flag (look (if b then .aa else .b9)<|.aj<|bT tw) (.aj<|bT tw)=b:=by cases b<;>rfl
 let aK:∀s∈[s1,s2,s3],1<=s/\s<=8:=λs aK=>by erw[cF,hl,MW]at aK;rcases aK with rfl|rfl|rfl<;>assumption
 let na:oO [(.aj<|bT tw,b),(.aF ZD,Y0),(.int 3,Y0),(.int Fa,Y0)] n=J (.b0,Y1,n):=e4.BY h fO aK dG d0 b n;let af3:sd [(.aj<|bT tw,b),(.aF ZD,Y0),(.int 3,Y0),(.int Fa,Y0)] n=C:=by rw[LU h fO,T5 ae ai aS];show Se<|yt Fa 0 30 n dG d0
 let t0:cz n [.aF ZD,.int 0]=J (.int s1,.aa):=rfl;let t1:cz n [.aF ZD,.int 1]=J (.int s2,.aa):=rfl;let dz:cz n [.aF ZD,.int 2]=J (.int s3,.aa):=rfl;let F4:lF n [.int (s1:D),.int 4]=J (.aU<|decide (4<s1),.aa):=by show J (T.aU<|decide ((4:D)<s1),a9.aa)=_;rw[show decide ((4:D)<s1)=decide (4<s1) from by rw[decide_eq_decide];lia]
 let ib:fF n [.int (s2:D),.int (s3:D)]=J (.int<|(s2:D)*s3,.aa):=pV (.inl<|by simp[Mw];show gr ai.2 Z1) n;let F5:lF n [.int<|(s2:D)*s3,.int 16]=J (.aU<|decide (16<s2*s3),.aa):=by show J (T.aU<|decide ((16:D)<(s2:D)*s3),a9.aa)=_;rw[show decide ((16:D)<(s2:D)*s3)=decide (16<s2*s3) from by rw[decide_eq_decide,<-sI];lia]
 show FL [J (.aj<|bT tw,if b then .aa else .b9),J (.aF ZD,.aa),J Z7,C,C] n=_;rw[Vi];let bb:jH (cD 4 oO Gq) [J (.aj<|bT tw,if b then .aa else .b9),J (.aF ZD,.aa),J Z7,C,C] n=J (.bC,[J (.aj<|bT tw,if b then .aa else .b9),J (.aF ZD,.aa),J Z7,C,C],n):=by delta Gq;generalize bT tw=cH at*;generalize T.aF ZD=o4 at*;cases b<;>simp![na]
 rw[BL (by show sd [(_,flag (look (if b then .aa else .b9)<|.aj<|bT tw)<|.aj<|bT tw),_,_,_] n=C;rw[b2];show af3) bb];let rC:t6 [J (.aj<|bT tw,if b then .aa else .b9),J (.aF ZD,.aa),J Z7,C,C] n=J (decide (4<s1\/16<s2*s3),n):=by delta t6;generalize bT tw=cH at*;generalize T.aF ZD=o4 at*;by_cases cb:4<s1<;>by_cases d9:16<s2*s3<;>erw[cb,d9,decide_true,decide_false]at F4 F5<;>simp![t0,t1,dz,F4,ib,F5,cb,d9]
 by_cases c:4<s1\/16<s2*s3
 .rw[Y2 c];rw[Nk c]at rC;show GJ ?_;rw[Gp rC];rfl
 .rw[Y3 c];rw[Nc c]at rC;show BL (by rw[Gp rC];rfl) ?_;delta en;rw[rC];rfl
def af4(h:eB tw)(fO:tw.H<64){s1 s2 s3:Y}(z:mE s1 s2 s3){Fa:D}(dG:0<=Fa)(d0:Fa<=30)(b:MF)(n:Y) :
  oE [(.aj<|bT tw,b),(ar ZA,Y0),(.int Fa,Y0)] n=if 400<(gV tw s1 s2 s3 Fa).H then J (4,n) else C:=by
 let rK:=z.a;let aow:=z.m;show oE [(.aj<|bT tw,b),(.aF ZD,Y0),(.int Fa,Y0)] n=_;rw[T6 h fO (M7 rK.1<|bw rK.2 Z1) ⟨z.b,z.Iy⟩ ⟨z.c,z.Oc⟩ dG d0,Y3 Z6];let lq:=shapes h (ss:=[s1,s2,s3]) (show 1<=3 by decide) (show 3<=3 by decide) z.all z.p b n;rw[<-Lp]at lq;obtain⟨cN,dW,rfl⟩:∃cN dW,tw=cN::dW:=by
  cases tw with
  |nil=>show MI P h.ne
  |cons q tw=>show{(q),tw,P}
 let jR:=h.hb cN<|cc ..;let st:=TZ (t:=cN.1) dG d0 (jR.1) (jR.2.1) n;let d6:cz n [.aj<|bT Zc,.int 0]=J (.aF [.int cN.1,.int cN.2],.aa):=by show((fV (bT Zc) 0).map λt=>(t,a9.aa))=_;delta fV bT;rw[Y2 Z1,Y2<|by rw[bZ,dv];lia];rfl
 let g1:∀a b:D,cz n [.aF [.int a,.int b],.int 0]=J (.int a,.aa):=λ_ _=>P;let lq:du.Bm [(.aj<|bT Zc,b),(.aF ZD,Y0)] n=J (.aj<|(oG Zc s1 s2 s3).map a6,Y0,n):=lq;let ln:=T3 Zc s1 s2 s3 Fa;let BI:fF n [.int (((oG Zc s1 s2 s3).map a6).H:Y),.int (((lM cN.1 Fa).map ar).H:Y)]=J (.int ((gV Zc s1 s2 s3 Fa).H:Y),.aa):=by
  rw[bZ,bZ,pV,ln]
  .rw[sI];rfl
  .let:=T4 (t:=cN.1) dG<|jR.2.1;show .inr (by simp[Mw];lia)
 generalize (gV Zc s1 s2 s3 Fa).H=cH at*;let BJ:lF n [.int (cH:D),.int 400]=J (.aU<|decide (400<cH),.aa):=by show J (T.aU<|decide ((400:D)<cH),a9.aa)=_;rw[show decide ((400:D)<cH)=decide (400<cH) from by rw[decide_eq_decide];lia]
 generalize (oG Zc s1 s2 s3).map a6=ek at*;generalize (lM cN.1 Fa).map ar=gx at*;generalize bT Zc=o3 at*;generalize T.aF ZD=o4 at*;let aB:cX 3 se [J (.aj o3,if b then .aa else .b9),J (o4,.aa),J Z7,C,C] n=J (.bC,[J (.aj o3,if b then .aa else .b9),J (o4,.aa),J Z7,J (.aj ek,.aA),C],n):=by delta se;cases b<;>simp![lq]
 let ax:cX 4 wg [J (.aj o3,if b then .aa else .b9),J (o4,.aa),J Z7,J (.aj ek,.aA),C] n=J (.bC,[J (.aj o3,if b then .aa else .b9),J (o4,.aa),J Z7,J (.aj ek,.aA),J (.aj gx,.aA)],n):=by delta wg;cases b<;>simp![d6,g1,st]
 let tt:qb [J (.aj o3,if b then .aa else .b9),J (o4,.aa),J Z7,J (.aj ek,.aA),J (.aj gx,.aA)] n=J (decide (400<cH),n):=by delta qb;simp![pQ,BI,BJ]
 rw[BL P aB,BL P ax];by_cases c:400<cH
 .rw[Y2 c];rw[Nk c]at tt;show GJ ?_;rw[Gp tt];rfl
 .rw[Y3 c];rw[Nc c]at tt;let bq:en qb jG eJ [J (.aj o3,if b then .aa else .b9),J (o4,.aa),J Z7,J (.aj ek,.aA),J (.aj gx,.aA)] n=J (.bC,[J (.aj o3,if b then .aa else .b9),J (o4,.aa),J Z7,J (.aj ek,.aA),J (.aj gx,.aA)],n):=by delta en;rw[tt];rfl
  rw[BL (by rw[Gp tt];rfl) bq];rfl
def T7(h:eB tw)(fO:tw.H<64){s1 s2 s3:Y}(z:mE s1 s2 s3){Fa:D}(dG:0<=Fa)(d0:Fa<=30)(b:MF)(n:Y) :
  lL [(.aj<|bT tw,b),(ar ZA,Y0),(.int Fa,Y0)] n=if 400<(gV tw s1 s2 s3 Fa).H then J (.aF ZV,Y1,n) else J (.aj<|(fg<|gV tw s1 s2 s3 Fa).map a6,Y0,n):=by
 let cq:=af4 h fO z dG d0 b n;by_cases c:400<(gV tw s1 s2 s3 Fa).H
 .rw[Y2 c]at cq |-;show BK (.inr P) (.inr<|.inr P) cq
 .rw[Y3 c]at cq |-;show aix (.inr P) cq<|ako h fO z dG d0 (ci c) b n
def missing{F:Y}(OG:pU F aG)(fD:F<=8)(h:eB tw)(fO:tw.H<64)(aK:fl tw<=90000)(M:jh aG tw r)(n:Y):yC [(.aj<|bT tw,Y1),(ar aG,Y0)] n=J (nF r,Y1,n):=by
 let dJ:bp=1000000:=rfl;let az:=h.len;let aB:oD [(.aj<|bT tw,Y1)] n=J (.b0,Y1,n):=e4.Mu h fO Y1 n;let ax:=anv OG fD n;let bq:=Mr h.eD.bG Z6 n;let aR:=Ld h.eD;let(gO,iF):=aeV OG fD (J (.aj<|bT tw,.b9)) n (fl tw).M 100000 tw [] r C C C C Z6 Z6 h.eD az (λq bc=>(h.hb q bc).2.2.2) (by simp;show ce aK Z1) M;let le:aer=yB:=rfl;delta yC To;let iY:0<=bp:=by decide
 cases r with
 |none =>
  let(S,e):=iF P;let ix:yB [J (.aj<|bT tw,.b9),J (ar aG,.aa),J (.a3<|av tw,.aA),J (.aj [],.aA),C,C,C,C] n=J (.ba .b0 Y1,S,n):=e;generalize yB=LL at*;generalize bT tw=cH at*;generalize av tw=pk at*;generalize ar aG=n8 at*;simp![aB,ax,bq,dA,iY,ix,nF]
 |some l =>
  let(S,e,g):=gO l P;rw[ka]at g;let ix:yB [J (.aj<|bT tw,.b9),J (ar aG,.aa),J (.a3<|av tw,.aA),J (.aj [],.aA),C,C,C,C] n=J (.bC,S,n):=e;let v:dQ (aD lG<|af (aq 3) aw) S n=J (.ba (ar l) Y1,S,n):=by rw[UY,UB,VK,UZ,g];rfl
  generalize dQ (aD lG<|af (aq 3) aw)=RR at*;generalize yB=LL at*;generalize bT tw=cH at*;generalize av tw=pk at*;generalize ar aG=n8 at*;simp![aB,ax,bq,dA,iY,ix,v,nF]
def akp(h:eB tw)(fO:tw.H<64){s1 s2:Y}(ae:1<=s1/\s1<=8)(ai:1<=s2/\s2<=8){Fa:D}(dG:0<=Fa)(d0:Fa<=30)(hz:(gJ (d7 tw) [s1,s2]).H*(hA (tw.headD (0,0)).1 Fa).H<=900000)(b:MF)(n:Y) :
  FK [(.aj<|bT tw,b),(ar<|bY [s1,s2],Y0),(.int Fa,Y0)] n=J (.aj<|(kQ tw s1 s2 Fa).map a6,Y0,n):=by
 let aK:∀s∈[s1,s2],1<=s/\s<=8:=λs aK=>by
  erw[cF,hl,MW]at aK;rcases aK with rfl|rfl
  .show ae
  .show ai
 let na:=e4.BY h fO aK dG d0 b n;let LR:=e4.BY h fO aK dG d0 Y0 n;let LS:([s1,s2].H:D)=2:=rfl;rw[LS,<-T1]at na LR;let lq:=shapes h (ss:=[s1,s2]) (show 1<=2 by decide) (show 2<=3 by decide) aK (bw (pow_two s1 s2 ae ai) Z1) b n;rw[<-Lp]at lq;obtain⟨cN,dW,rfl⟩:∃cN dW,tw=cN::dW:=by
  cases tw with
  |nil=>show MI P h.ne
  |cons q tw=>show{(q),tw,P}
 let jR:=h.hb cN<|cc ..;let st:=ae7 (t:=cN.1) dG d0 (jR.1) (jR.2.1) n;let d6:cz n [.aj<|bT Zc,.int 0]=J (.aF [.int cN.1,.int cN.2],.aa):=by show((fV (bT Zc) 0).map λt=>(t,a9.aa))=_;delta fV bT;rw[Y2 Z6,Y2<|by rw[bZ,dv];lia];rfl
 let g1:∀a b:D,cz n [.aF [.int a,.int b],.int 0]=J (.int a,.aa):=λ_ _=>P;let mem:∀{ds},ds∈gJ (d7 Zc) [s1,s2]->Shape (d7 Zc) [s1,s2] ds:=λhd=>Fy (tT h.eD) (Fz h) (λs kL=>(aK s kL).1) hd
 let am:=ae8 (dx:=gJ (d7 Zc) [s1,s2]) (dK:=hA cN.1 Fa) (m:=2) (λds gS=>⟨(mem gS).kE.len,λd hd=>by
   let:=((mem gS).kE.lq (show 2<=3 by decide) (λs kL=>by
    let(k,aW,rfl):=c9.mp kL;let:=aK k aW
    lia)).most d hd
   show bw this Z1⟩) (λl az=>by let(a,rfl,_):=FA az;rfl) Z1 hz (FC h ae.1 ai.1 dG) n
 delta kQ;show _=J (T.aj<|(fg<|h7 (gJ (d7 Zc) [s1,s2])<|hA cN.1 Fa).map a6,Y0,n);generalize (fg<|h7 (gJ (d7 Zc) [s1,s2])<|hA cN.1 Fa).map a6=out at*;generalize (gJ (d7 Zc) [s1,s2]).map a6=ek at*;generalize (hA cN.1 Fa).map ar=gx at*;generalize bT Zc=o3 at*;generalize ar (bY [s1,s2])=o4 at*;delta FK Tj se;cases b<;>simp![na,lq,d6,g1,st,am]
theorem Bp(x0 bE bR cy cv dM dg cO eH ez d5 eh e1:MB ZE)(n:Y):∀(c7:O D) (d:O Z3) (ks:O D) (dP:MB ZE),ha d ks->d.H+c7.H<=100000 ->
  ∃d' Mf,ha d' (ks++c7)/\eb (b4 10) FO (c7.map T.int) [x0,bE,bR,cy,cv,dM,dg,cO,eH,J ZG,dP,ez,d5,eh,e1] n=J (.bC,[x0,bE,bR,cy,cv,dM,dg,cO,eH,J (.a3<|av d',.aA),Mf,ez,d5,eh,e1],n)
 |[],d,ks,dP,B,_=>{d,dP,by simpa using B,by simp[eb]}
 |f::c7,d,ks,dP,B,hz=>by
  let dJ:bp=1000000:=rfl;rw[dv]at hz;let u7:ha (fw d f 1)<|ks++[f]:=(B.add f 1 Z1).congr λp=>by rw[rb,qau];split<;>simp
  let al:=Fo d f 1;let(d',Mf,nf,e):=Bp x0 bE bR cy cv dM dg cO eH ez d5 eh e1 n c7 (fw d f 1) (ks++[f]) (J (.int f,.aa)) u7 Z6;show{d',Mf,by rw[hk]at nf;show nf,?_};let d6:kH n [.a3<|av d,.int f,.int 0]=J (.int<|b7 d f,.aa):=by let h:=yi d f;let bH:kH n [.a3<|av d,.int f,.int 0]=J ((i0 (av d)<|.inl f).getD (.int 0),.aa):=rfl;rw[bH,h]
  let st:me (.a3<|av d) (.int f) (.int<|b7 d f+1)=J (.a3<|av<|fw d f 1):=by rw[E3];show(if(av d).H<bp then J (T.a3<|jF (av d) (.inl f)<|.int<|b7 d f+1) else C)=_;rw[Y2 (by delta av;rw[bZ];lia),Fn]
  let one:FO [x0,bE,bR,cy,cv,dM,dg,cO,eH,J ZG,J (.int f,.aa),ez,d5,eh,e1] n=J (.bC,[x0,bE,bR,cy,cv,dM,dg,cO,eH,J (.a3<|av<|fw d f 1,.aA),J (.int f,.aa),ez,d5,eh,e1],n):=by delta FO;generalize av (fw d f 1)=g5 at*;generalize av d=gv at*;simp![j0,d6,mb,st]
  rw[cj];delta eb;erw[a8.bD.b4,il,ip,eC];rw[one];show e
def af5(x0 bE bR cy cv dM dg cO dP ez d5 eh e1:MB ZE)(n:Y)(gi:R≠[])(a4:∀f∈R,0<=f/\f<=120)(az:R.H<=63) :
  ∃(tw:O Z3) (gv:O (hR×T)) (hC:MB ZE),eB tw/\mC tw R/\tw.H<64/\r3 n [.a3 gv]=J ZK /\
   eA 8 Lw [x0,bE,bR,cy,cv,dM,dg,cO,J (ar R,.aa),J (.a3 [],.aA),dP,ez,d5,eh,e1] n=J (.bC,[x0,bE,bR,cy,cv,dM,dg,cO,J (ar R,.aa),J (.a3 gv,.aA),hC,ez,d5,eh,e1],n):=by
 let(d,hC,B,e):=Bp x0 bE bR cy cv dM dg cO (J (ar R,.aa)) ez d5 eh e1 n R [] [] dP {by simp,by simp,λp=>by simp[j9,bA]} (by simp;show bw az Z1);rw[ka]at B;let dl:=B.Me;let(tw,T,OE,t,p):=SV B a4 (bw az Z1) gi;let lC:d.H<64:=(sF<|bw dl az)
 let it:r3 n [.a3<|av d]=J (.aj<|(hS<|d.map hx).map ar,.aA):=by erw[r3,K2,eC,Y2 lC]
 show{tw,av d,hC,T,OE,?_,by rw[it,p],e};let:=M1 List.H p;rw[bZ,(qL _).length_eq,bZ]at this;let q:(bT tw).H=tw.H:=bZ ..;lia
def LW(M:jh aG d r):e4.sz 0 aG d r:=by
 induction M with
 |nil=>show .nil
 |bad h n=>show .bad h n
 |good h ok _ aQ=>show .good h ok aQ
def akq(R:O D)(k:D):cK [R] k=((R.countP λx=>x==k:Y):D):=by delta cK;rw[Fp]
def T8(h:∀k,cK aO k=((R.countP λx=>x==k:Y):D))(k:D):cK (one::aO) k=cK [one,R] k:=by rw[jI,jI];show FZ λf _=>by rw[h,akq]
def of_two:mC tw (gH one R)↔∀k,cK [one,R] k=b7 tw k:=by
 constructor
 .intro OE k;delta cK;rw[yx];show(OE k).symm
 .show Vf
def T9(h:eB tw)(ek:1<=one.H)(up:one.Pairwise (·<=·))(M:jh one tw r)(u6:qD aO)(all:∀k,cK (one::aO) k=b7 tw k):r=J (sortI<|fX aO):=by
 let b7:∀k,cK aO k=(((sortI<|fX aO).countP λx=>x==k:Y):D):=λk=>by rw[(sortI_perm<|fX aO).countP_eq];rfl
 let nn:∀y∈sortI (fX aO),0<=y:=λy aJ=>by show w5.mp λlt=>?_;let:=FY u6 lt;rw[b7]at this;let p:0<(sortI<|fX aO).countP λx=>x==y:=gc.mpr {y,aJ,by simp};lia
 let M2:=Sn ek up (xZ<|fX aO) nn h.eD (of_two.mpr λk=>by rw[<-T8 b7,all]);show e4.an4 (LW M)<|LW M2
def Ua(h:eB tw)(M:jh one tw<|some R):(∀k,cK [one,R] k=b7 tw k)/\R.Pairwise (·<=·)/\∀y∈R,0<=y:=by let(OE,u,l):=e4.aoa (LW M) h.eD R P;show{of_two.mp OE,u,l}
def LX{t Fa:D}:l∈hA t Fa↔l.H=2/\bA l=t/\∀a∈l,Fa<=a:=by
 constructor
 .intro h;let(a,rfl,a1,a2):=FA h;show{P,?_,λb ao=>?_}
  .show a+(t-a+0)=t;lia
  .erw[cF,hl,MW]at ao;rcases ao with rfl|rfl<;>assumption
 .rintro⟨ai,aK,az⟩
  match l,ai with
  |[a,b],_ =>
   let a1:=az a Z5;let bO:=az b Z5;let aK:a+(b+0)=t:=aK;show c9.mpr {(a-Fa).M,mZ.mpr Z6,?_};rw[show Fa+(((a-Fa).M:Y):D)=a by lia,show t-a=b by lia]
def LY(h:eB tw){s2 s3:Y}(ai:1<=s2)(aS:1<=s3){Fa:D}(dG:0<=Fa):r∈kQ tw s2 s3 Fa↔rJ tw [s2,s3] Fa r:=by
 let aK:∀s∈[s2,s3],1<=s:=λs aK=>by erw[cF,hl,MW]at aK;rcases aK with rfl|rfl<;>assumption
 delta kQ;rw[SY λl az=>(FC h ai aS dG l az).2];show{λa4=>TQ h aK (λl az=>LX.mp az) a4,λg=>TU h aK (λl a b c=>LX.mpr {(a),b,c}) g}
def anQ(h:eB tw){s1 s2 s3:Y}(ae:1<=s1)(ai:1<=s2)(aS:1<=s3){Fa:D}(dG:0<=Fa)(ol:one.H=s1)(up:one.Pairwise (·<=·))(lo:∀z∈one,Fa<=z)(M:jh one tw<|some R)(mF:eB ij)(va:mC ij R) :
  r∈(kQ ij s2 s3 Fa).map (one::·)↔r.headD []=one/\rJ tw [s1,s2,s3] Fa r:=by
 constructor
 .intro a4;let(aO,aJ,rfl):=c9.mp a4;let g:=(LY mF ai aS dG).mp aJ;show{P,by rw[cj,g.len,ol],λx au=>?_,λx au=>?_,λk=>?_}
  .rcases cF.mp au with rfl|au
   .show up
   .show g.up x au
  .rcases cF.mp au with rfl|au
   .show lo
   .show g.lo x au
  .rw[T8 (R:=R) λk=>by rw[g.all,va],(Ua h M).1]
 .rintro⟨bg,g⟩;cases r with
  |nil=>let:=g.len;ext this
  |cons x aO =>
   let bg:x=one:=bg;subst bg;let u6:qD aO:=λy aJ f hf=>ce dG<|g.lo y (cZ _ aJ) f hf;let e:=T9 h (bw ae<|dy ol.symm) up M u6 g.all
   ext e
   show c9.mpr {aO,(LY mF ai aS dG).mpr {?_,λy aJ=>g.up y<|cZ _ aJ,λy aJ=>g.lo y<|cZ _ aJ,λk=>?_},P}
   .let:=g.len;rw[cj]at this;show(List.cons.inj this).2
   .rw[va,(sortI_perm<|fX aO).countP_eq];rfl
def Ub(h:eB tw){s1 s2 s3:Y}(ae:1<=s1)(ai:1<=s2)(aS:1<=s3){Fa:D}(dG:0<=Fa)(M:jh one tw w)(no:(tw.headD (0,0)).1<one.headD 0+2*Fa\/∀R,w=J R->R.H≠s2*s3)(r:O Z0):¬ (r.headD []=one/\rJ tw [s1,s2,s3] Fa r):=by
 rintro⟨bg,g⟩
 match r,g.len with
 |[x,y,z],e =>
  let bg:x=one:=bg;subst bg;let e:[x.H,y.H,z.H]=[s1,s2,s3]:=e;injection e with aB e;injection e with ax e;injection e with bq _;let u6:qD [y,z]:=λv bu f hf=>ce dG<|g.lo v (cZ _ bu) f hf;rcases no with no|no
  .let hd:=TS h (r:=[x,y,z]) (λv bu q=>by
    erw[cF,hl,MW]at bu
    rcases bu with rfl|rfl|rfl<;>rw[q]at *<;>simp at *<;>lia) g.up g.all
   let aJ:Fa<=y.headD 0:=by
    cases y with
    |nil=>simp at ax;lia
    |cons a t=>show g.lo (a::t) (cZ _<|cc ..) a<|cc ..
   let hz:Fa<=z.headD 0:=by
    cases z with
    |nil=>simp at bq;lia
    |cons a t=>show g.lo (a::t) (cZ _<|cZ _<|cc ..) a<|cc ..
   let hd:x.headD 0+(y.headD 0+(z.headD 0+0))=(tw.headD (0,0)).1:=hd;lia
  .show no _ (T9 h (bw ae<|dy aB.symm) (g.up x Z5) M u6 g.all) ?_;rw[(sortI_perm _).length_eq,BE];show y.H*(z.H*1)=_;rw[ax,bq,Nat.mul_one]
def F6(bL:∀l∈ls,∀d∈l,∀x∈d,0<=x):(fg ls).Perm ls:=by delta fg;show((qL _).map dec).trans ?_;rw[bv,ji (f:=dec∘g0) (g:=id) λl az=>dec_enc l<|bL l az,ug]
def anR(h:eB tw){s2 s3:Y}(ai:1<=s2)(aS:1<=s3){Fa:D}(dG:0<=Fa):(kQ tw s2 s3 Fa).Nodup:=by
 show(F6 λl az=>(FC h ai aS dG l az).2).nodup_iff.mpr (TY h (λs aK=>?_) ?_ λl az=>(LX.mp az).1)
 .erw[cF,hl,MW]at aK;rcases aK with rfl|rfl<;>assumption
 .delta hA;show mj.mpr (Ca.imp λ{a b} ne q=>ne ?_);injection q with q _;lia
def sm:br:=bk (cX 8<|aH .b0)<|en (cG<|aD jE<|af (aD dE<|af (aD cz<|af (aq 7) ZJ)<|af (aD fF<|af (aH<|.int 2)<|af (aq 5) aw) aw)<|af (aD cz<|af (aD cz<|af (aq 3) ZJ) ZJ) aw) (cX 8<|qJ (cG<|aD jE<|af (aD Ap<|af (aq 7) aw)<|af (aH<|.int 30) aw) (cD 2 yC<|a0 (aq 3)<|a0 (aq 7) cw)<|aH .b0) eJ
def anS(h:eB tw)(fO:tw.H<64)(ct:fl tw<=90000){Fa:D}(dG:0<=Fa)(d0:Fa<=30){F:Y}(OG:pU F one)(fD:F<=8)(M:jh one tw w)(x0 bE bR cv dg eH ef dP ez d5 eh e1:MB ZE)(n:Y) :
  sm [x0,bE,bR,J ZK,cv,J Z7,dg,J (ar one,.aa),eH,ef,dP,ez,d5,eh,e1] n =
   J (.bC,[x0,bE,bR,J ZK,cv,J Z7,dg,J (ar one,.aa),J (nF (if one.headD 0+2*Fa<=(tw.headD (0,0)).1 then w else C),.aa),ef,dP,ez,d5,eh,e1],n):=by
 let ms:=missing OG fD h fO ct M n;obtain⟨cN,dW,rfl⟩:∃cN dW,tw=cN::dW:=by
  cases tw with
  |nil=>show MI P h.ne
  |cons q tw=>show{(q),tw,P}
 let d6:cz n [.aj<|bT Zc,.int 0]=J (.aF [.int cN.1,.int cN.2],.aa):=by show((fV (bT Zc) 0).map λt=>(t,a9.aa))=_;delta fV bT;rw[Y2 Z1,Y2<|by rw[bZ,dv];lia];rfl
 let g1:∀a b:D,cz n [.aF [.int a,.int b],.int 0]=J (.int a,.aa):=λ_ _=>P;obtain⟨a,l,rfl⟩:∃a l,one=a::l:=by
  cases one with
  |nil=>show MI OG.one Z1
  |cons a l=>show{(a),l,P}
 let ry:=OG.hb a<|cc ..;let g2:cz n [ar<|a::l,.int 0]=J (.int a,.aa):=by show((fV ((a::l).map T.int) 0).map λt=>(t,a9.aa))=_;delta fV;rw[Y2 Z1,Y2<|by rw[bZ,dv];lia];rfl
 let ib:fF n [.int 2,.int Fa]=J (.int<|2*Fa,.aa):=pV (.inl Z1) n;obtain⟨m,hm,u1⟩:∃m,m<=30/\Ap n [ar (a::l)]=J (.int m,.aa):=by let(m,e,jx,_):=aeG (r:=a::l) Z5;show{m,(OG.hb m jx).2,?_};show((e5<|(a::l).map T.int).bind λns=>(vk ns).map λi=>(T.int i,a9.aa))=_;rw[r5,eC,e];rfl
 let af6:jE n [.int m,.int 30]=J (.aU Y0,.aa):=by show J (T.aU<|decide (m<=30),a9.aa)=_;rw[Nk hm]
 let hd:((cN::dW).headD (0,0)).1=cN.1:=rfl;let bl:(a::l).headD 0=a:=rfl;let pj:∀w,look .aa (nF w)=.aa:=λ_=>P;rw[hd,bl];let F7:jE n [.int<|a+2*Fa,.int cN.1]=J (.aU<|decide (a+2*Fa<=cN.1),.aa):=rfl;generalize bT Zc=cH at*;generalize ar (a::l)=n8 at*;delta sm;by_cases c:a+2*Fa<=cN.1
 .rw[Y2 c];rw[Nk c]at F7;generalize nF w=ek at*;simp![d6,g1,g2,ib,mb,F7,u1,af6,ms]
 .rw[Y3 c];rw[Nc c]at F7;simp![d6,g1,g2,ib,mb,F7,nF]
def af7{n n':Y}(h:bk a b S n=J (.bC,S',n')):bk a (bk b c) S n=c S' n':=by
 delta bk at h |-;cases e:a S n with
 |none=>rw[e]at h;ext h
 |some r =>
  let(f,S1,aY):=r;rw[e]at h;cases f with
  |bC =>
   let h:b S1 aY=J (.bC,S',n'):=by
    cases ax:b S1 aY with
    |none=>simp[ax]at h
    |some cn =>
     let(f2,S2,ck):=cn;simp[ax]at h
     ext f2<;>simp_all
   show(b S1 aY).bind _=_;rw[h];rfl
  |_=>cases h
def akr:FQ=bk (cX 8<|aH .b0) (bk (en (cG<|aD jE<|af (aD dE<|af (aD cz<|af (aq 7) ZJ)<|af (aD fF<|af (aH<|.int 2)<|af (aq 5) aw) aw)<|af (aD cz<|af (aD cz<|af (aq 3) ZJ) ZJ) aw) (cX 8<|qJ (cG<|aD jE<|af (aD Ap<|af (aq 7) aw)<|af (aH<|.int 30) aw) (cD 2 yC<|a0 (aq 3)<|a0 (aq 7) cw)<|aH .b0) eJ) wj):=rfl
def Uc{s1 s2 s3:Y}(ai:s2<=8)(no:∀R,w=J R->R.H≠s2*s3)(x0 bE bR cy dM dg cO ef dP ez d5 eh e1:MB ZE)(n:Y) :
  wj [x0,bE,bR,cy,J ZR,dM,dg,cO,J (nF w,.aa),ef,dP,ez,d5,eh,e1] n=J (.bC,[x0,bE,bR,cy,J ZR,dM,dg,cO,J (nF w,.aa),ef,dP,ez,d5,eh,e1],n):=by
 let t1:cz n [ar ZA,.int 1]=J (.int s2,.aa):=rfl;let dz:cz n [ar ZA,.int 2]=J (.int s3,.aa):=rfl;let ib:fF n [.int (s2:D),.int (s3:D)]=J (.int<|(s2:D)*s3,.aa):=pV (.inl<|by simp[Mw];show gr ai Z1) n;delta wj;generalize BC=xE;cases w with
 |none =>
  generalize ar ZA=o4 at*;let nn:Al n [.b0]=J (.aU Y1,.aa):=rfl;simp![nF,nn]
 |some R =>
  let nn:Al n [ar R]=J (.aU Y0,.aa):=rfl;let ln:fG n [ar R]=J (.int (R.H:D),.aa):=by show J (T.int ((R.map T.int).H:Y),a9.aa)=_;rw[bZ]
  let eq:hu n [.int (R.H:D),.int<|(s2:D)*s3]=J (.aU Y1,.aa):=by rw[pR];let:=no R P;rw[show((R.H:D)==(s2:D)*s3)=Y1 from by rw[beq_eq_false_iff_ne,<-sI];lia]
  let mt:nF (J R)=ar R:=rfl;rw[mt];generalize ar ZA=o4 at*;generalize ar R=o8 at*;simp![nn,ln,t1,dz,ib,eq]
def af8{s1 s2 s3:Y}(ai:1<=s2/\s2<=4)(aS:1<=s3/\s3<=4){Fa:D}(dG:0<=Fa)(d0:Fa<=30)(gi:R.H=s2*s3)(a4:∀f∈R,0<=f/\f<=30)(h8:O ZI)(hd:h8.H<=900000)(x0 bE bR cy ef dP ez d5 eh e1:MB ZE)(n:Y) :
  ∃(ij:O Z3) (jB hC:MB ZE),eB ij/\mC ij R/\(kQ ij s2 s3 Fa).H<=620 /\
   wj [x0,bE,bR,cy,J ZR,J Z7,J (.aj<|h8.map a6,.aA),J (ar one,.aa),J (ar R,.aa),ef,dP,ez,d5,eh,e1] n =
    J (.bC,[x0,bE,bR,cy,J ZR,J Z7,J (.aj<|(h8++(kQ ij s2 s3 Fa).map (one::·)).map a6,.aA),J (ar one,.aa),J (ar R,.aa),jB,hC,ez,d5,eh,e1],n):=by
 let dJ:bp=1000000:=rfl;let bO:1<=bp:=by decide
 let af9:s2*s3<=4*4:=ku ai.2 aS.2;let df:1*1<=s2*s3:=ku ai.1 aS.1;let(ij,gv,hC,mF,va,aga,it,ix):=af5 x0 bE bR cy (J ZR) (J Z7) (J (.aj<|h8.map a6,.aA)) (J (ar one,.aa)) dP ez d5 eh e1 n (R:=R) (λz=>by rw[z]at gi;simp at gi;show eP df gi) (λf hf=>by let:=a4 f hf;show M7 this.1<|ce this.2 Z1)<|bw (dy gi)<|bw af9 Z1;let agb:=e4.an5 mF ai.1 ai.2 aS.1 aS.2;obtain⟨cN,aoR⟩:∃cN,(ij.headD (0,0)).1=cN/\0<=cN/\cN<=30:=by
  cases ij with
  |nil=>show MI P mF.ne
  |cons q tw =>
   let c:=va q.1;rw[iN mF.eD.bG<|cc ..]at c;let:=(mF.hb q<|cc ..).2.2.1;let(x,au,e):=gc.mp (show 0<R.countP λx=>x==q.1 by lia);let e:x=q.1:=by simpa using e
   show{q.1,P,e▸a4 x au}
 let cW:(hA (ij.headD (0,0)).1 Fa).H<=31:=by rw[Tf];lia
 let hz:(gJ (d7 ij) [s2,s3]).H*(hA (ij.headD (0,0)).1 Fa).H<=20*31:=ku agb cW;let cH:(kQ ij s2 s3 Fa).H<=620:=by delta kQ;rw[(F6 λl az=>(FC mF ai.1 aS.1 dG l az).2).length_eq];show bw (Bu (m:=(hA (ij.headD (0,0)).1 Fa).H) λds _=>by rw[bZ];show b8 _) hz
 let pr:=akp mF aga (s1:=s2) (s2:=s3) (M7 ai.1<|bw ai.2 Z1) (M7 aS.1<|bw aS.2 Z1) dG d0 (bw hz Z1) Y0 n;show{ij,J (.a3 gv,.aA),hC,mF,va,cH,?_};let t1:cz n [ar ZA,.int 1]=J (.int s2,.aa):=rfl;let dz:cz n [ar ZA,.int 2]=J (.int s3,.aa):=rfl;let ib:fF n [.int (s2:D),.int (s3:D)]=J (.int<|(s2:D)*s3,.aa):=pV (.inl<|by simp[Mw];lia) n;let nn:Al n [ar R]=J (.aU Y0,.aa):=rfl;let ln:fG n [ar R]=J (.int (R.H:D),.aa):=by show J (T.int ((R.map T.int).H:Y),a9.aa)=_;rw[bZ]
 let eq:hu n [.int (R.H:D),.int<|(s2:D)*s3]=J (.aU Y0,.aa):=by rw[pR,show((R.H:D)==(s2:D)*s3)=Y0 from by rw[M5,<-sI,gi]]
 let d9:FP [x0,bE,bR,cy,J ZR,J Z7,J (.aj<|h8.map a6,.aA),J (ar one,.aa),J (ar R,.aa),J (.a3 gv,.aA),hC,ez,d5,eh,e1] n=J (.aj<|((kQ ij s2 s3 Fa).map (one::·)).map a6,.aA,n):=by
  rw[bv];show mS (kQ ij s2 s3 Fa) a6 (a6∘(one::·)) ?_ Z6 λaO aJ=>?_
  .let aar:wy (aq 4) (vm Z8) vl [x0,bE,bR,cy,J ZR,J Z7,J (.aj<|h8.map a6,.aA),J (ar one,.aa),J (ar R,.aa),J (.a3 gv,.aA),hC,ez,d5,eh,e1] n=J (ar<|bY [s2,s3],.aa,n):=rfl;generalize (kQ ij s2 s3 Fa).map a6=out at*;generalize bT ij=cP at*;generalize ar (bY [s2,s3])=o5 at*;generalize ar ZA=o4 at*;generalize wy (aq 4) (vm Z8) vl=SL at*;delta fU;simp![it,aar,pr,Mz]
  .let g:=(LY mF ai.1 aS.1 dG).mp aJ;let qw:aO.H=2:=by rw[<-bZ (f:=List.H),g.len];rfl
   let ad:dE n [.aF [ar one],a6 aO]=J (a6<|one::aO,.aa):=by delta a6;rw[vU,Y2<|by rw[bZ,qw];show 1+2<=bp;decide];rfl
   show _=J (a6<|one::aO,_,_);generalize a6 (one::aO)=ek at*;generalize a6 aO=gx at*;generalize ar one=o3 at*;simp![cY,c6,bO,ad]
 let ex:hj (.aj<|h8.map a6) (.aj<|((kQ ij s2 s3 Fa).map (one::·)).map a6)=J (.aj<|(h8++(kQ ij s2 s3 Fa).map (one::·)).map a6):=by rw[vV,Y2 (by rw[bZ,bZ,bZ];lia),jM]
 let eD:BC [x0,bE,bR,cy,J ZR,J Z7,J (.aj<|h8.map a6,.aA),J (ar one,.aa),J (ar R,.aa),ef,dP,ez,d5,eh,e1] n=J (.bC,[x0,bE,bR,cy,J ZR,J Z7,J (.aj<|(h8++(kQ ij s2 s3 Fa).map (one::·)).map a6,.aA),J (ar one,.aa),J (ar R,.aa),J (.a3 gv,.aA),hC,ez,d5,eh,e1],n):=by let ch:=yn d9 (u:=.aj<|h8.map a6) (i:=6) P ex;delta BC;show(bk (eA 8 Lw)<|hN 6 hj FP) [x0,bE,bR,cy,J ZR,J Z7,J (.aj<|h8.map a6,.aA),J (ar one,.aa),J (ar R,.aa),J (.a3 [],.aA),dP,ez,d5,eh,e1] n=_;delta bk;rw[ix];show hN 6 hj FP _ n=_;rw[ch];rfl
 delta wj;generalize BC=xE at*;generalize ar ZA=o4 at*;generalize ar R=o8 at*;simp![nn,ln,t1,dz,ib,eq,eD]
def turn(h:eB tw)(fO:tw.H<64)(yG:∀q∈tw,q.1<=30)(ct:fl tw<=90000){s1 s2 s3:Y}(ae:1<=s1/\s1<=8)(ai:1<=s2/\s2<=4)(aS:1<=s3/\s3<=4){Fa:D}(dG:0<=Fa)(d0:Fa<=30)(OG:pU s1 one)(ol:one.H=s1)(up:one.Pairwise (·<=·))(lo:∀z∈one,Fa<=z)(h8:O ZI)(hd:h8.H<=900000)(x0 bE bR eH ef dP ez d5 eh e1:MB ZE)(n:Y) :
  ∃(add:O ZI) (kF jB hC:MB ZE),add.Nodup/\add.H<=620/\(∀r,r∈add↔r.headD []=one/\rJ tw [s1,s2,s3] Fa r) /\
   FQ [x0,bE,bR,J ZK,J ZR,J Z7,J (.aj<|h8.map a6,.aA),J (ar one,.aa),eH,ef,dP,ez,d5,eh,e1] n =
    J (.bC,[x0,bE,bR,J ZK,J ZR,J Z7,J (.aj<|(h8++add).map a6,.aA),J (ar one,.aa),kF,jB,hC,ez,d5,eh,e1],n):=by
 let(w,M):=al0 (aG:=one) (bw ae.1<|dy ol.symm) (fl tw).M tw h.eD (by let:=Ld h.eD;lia);let xy:=anS h fO ct dG d0 OG ae.2 M x0 bE bR (J ZR) (J (.aj<|h8.map a6,.aA)) eH ef dP ez d5 eh e1 n;let gO:=af7 (c:=wj) xy;rw[akr,gO];clear gO xy;by_cases c:one.headD 0+2*Fa<=(tw.headD (0,0)).1
 .rw[Y2 c];by_cases no:∀R,w=J R->R.H≠s2*s3
  .show⟨[],J (nF w,.aa),ef,dP,Cf,by simp,λr=>⟨λq=>(by ext q),λq=>(Ub h ae.1 ai.1 aS.1 dG M (.inr no) r q).elim⟩,?_⟩;rw[nQ];show Uc (bw ai.2 Z1) no ..
  .obtain⟨R,hw,gi⟩:∃R,w=J R/\R.H=s2*s3:=Classical.byContradiction λq=>no λR e z=>q {(R),e,z};subst hw;let(a1,a2,iX):=Ua h M;let a4:∀f∈R,0<=f/\f<=30:=λf hf=>by
    show{iX f hf,?_};obtain⟨a,l,rfl⟩:∃a l,one=a::l:=by
     cases one with
     |nil=>simp at ol;lia
     |cons a l=>show{(a),l,P}
    let m:=e4.anP (of_two.mpr a1) (cc ..) hf;let(q,bc,e):=c9.mp m;let:=yG q bc;let:=lo a<|cc ..;lia
   let(ij,jB,hC,mF,va,cH,e):=af8 (s1:=s1) ai aS dG d0 (one:=one) gi a4 h8 hd x0 bE bR (J ZK) ef dP ez d5 eh e1 n;show{(kQ ij s2 s3 Fa).map (one::·),_,_,_,?_,by rw[bZ];show cH,λr=>anQ h ae.1 ai.1 aS.1 dG ol up lo M mF va,e};rw[Oo,mj];show(anR mF ai.1 aS.1 dG).imp λ{a b} ne q=>ne (List.cons.inj q).2
 .rw[Y3 c];show⟨[],J (nF C,.aa),ef,dP,Cf,by simp,λr=>⟨λq=>(by ext q),λq=>(Ub h ae.1 ai.1 aS.1 dG M (.inl<|ri c) r q).elim⟩,?_⟩;rw[nQ];show Uc (w:=C) (bw ai.2 Z1) (λR e=>by ext e) ..
theorem Ud(h:eB tw)(fO:tw.H<64)(yG:∀q∈tw,q.1<=30)(ct:fl tw<=90000){s1 s2 s3:Y}(ae:1<=s1/\s1<=8)(ai:1<=s2/\s2<=4)(aS:1<=s3/\s3<=4){Fa:D}(dG:0<=Fa)(d0:Fa<=30)(x0 bE bR ez d5 eh e1:MB ZE)(n:Y) :
  ∀(ones:O Z0) (h8:O ZI) (cO eH ef dP:MB ZE),ones.Nodup->(∀o∈ones,pU s1 o/\o.H=s1/\∀z∈o,Fa<=z)->h8.H+ones.H*620<=900000 ->
  ∃(OG:O ZI) (h3 kF jB hC:MB ZE),OG.Nodup/\OG.H<=ones.H*620/\(∀r,r∈OG↔r.headD []∈ones/\rJ tw [s1,s2,s3] Fa r) /\
   eb (b4 7) FQ (ones.map ar) [x0,bE,bR,J ZK,J ZR,J Z7,J (.aj<|h8.map a6,.aA),cO,eH,ef,dP,ez,d5,eh,e1] n =
    J (.bC,[x0,bE,bR,J ZK,J ZR,J Z7,J (.aj<|(h8++OG).map a6,.aA),h3,kF,jB,hC,ez,d5,eh,e1],n)
 |[],h8,cO,eH,ef,dP,_,_,_=>{[],cO,eH,ef,dP,Cf,by simp,λr=>by simp,by simp[eb]}
 |o::ones,h8,cO,eH,ef,dP,bG,ok,hz=>by
  rw[dv,lR]at hz;let(no,wc):=lP.mp bG;let(Do,ol,agc):=ok o<|cc ..;let(add,kF,jB,hC,a1,a2,iX,aB):=turn h fO yG ct ae ai aS dG d0 Do ol Do.up agc h8 (lQ hz) x0 bE bR eH ef dP ez d5 eh e1 n;let(OG,aas,aat,aau,agd,gu,iV,Dy,ax):=Ud h fO yG ct ae ai aS dG d0 x0 bE bR ez d5 eh e1 n ones (h8++add) (J (ar o,.aa)) kF jB hC wc (λp aC=>ok p<|cZ _ aC) (by rw[gm];lia);show⟨add++OG,aas,aat,aau,agd,?_,?_,λr=>?_,?_⟩
  .show wR.mpr {a1,gu,λa bl b ao e=>no ?_};subst e;rw[<- ((iX a).mp bl).1];show((Dy a).mp ao).1
  .rw[gm,dv,lR];lia
  .rw[i9,iX,Dy,cF];constructor
   .rintro(⟨q,g⟩|⟨q,g⟩)
    .show{.inl q,g}
    .show{.inr q,g}
   .rintro⟨q|q,g⟩
    .show .inl {(q),g}
    .show .inr {(q),g}
  .rw[cj];delta eb;erw[a8.bD.b4,il,ip,eC];rw[aB,<-hk];show ax
def anT(h:eB tw){s1 s2 s3:Y}(z:mE s1 s2 s3){Fa WV:D}(dG:0<=Fa)(bg:WV=(tw.getLastD (0,0)).1-2*Fa){OG:O ZI}(bG:OG.Nodup)(gQ:∀r,r∈OG↔r.headD []∈e4.iQ Fa WV s1/\rJ tw [s1,s2,s3] Fa r):OG.Perm<|gV tw s1 s2 s3 Fa:=by
 show(GR bG<|T2 h z dG).mpr λr=>?_;rw[gQ,F3 h z dG];show{λq=>q.2,λg=>{e4.wK.mpr ?_,g}}
 match r,g.len with
 |[x,y,w],e =>
  let e:[x.H,y.H,w.H]=[s1,s2,s3]:=e;injection e with aB e;injection e with ax e;injection e with bq _;show{aB,g.up x Z5,λv bu=>{g.lo x Z5 v bu,?_}};let Od:=z.b;let Oe:=z.c;obtain⟨a,Of⟩:∃a,a∈y:=by
   cases y with
   |nil=>simp at ax;lia
   |cons a t=>show{a,cc ..}
  obtain⟨b,Og⟩:∃b,b∈w:=by
   cases w with
   |nil=>simp at bq;lia
   |cons b t=>show{b,cc ..}
  let cb:1<=cK [x,y,w] (v+(a+b)):=by rw[jI];let c5:cK [y,w] (v+(a+b)-v)<=bA (x.map λf=>cK [y,w]<|v+(a+b)-f):=F0 (g:=λf=>cK [y,w]<|v+(a+b)-f) (λf=>tR _ _) bu;rw[show v+(a+b)-v=a+b by lia]at c5;show ce (Lz Of Og) c5
  rw[g.all]at cb;let m:=h.eD.mem (k:=v+(a+b))<|cb;let:=e4.V7 h m;let:=g.lo y Z5 a Of;let:=g.lo w Z5 b Og;lia
def age:FN=e4.Mv:=rfl
def search(h:eB tw)(fO:tw.H<64)(yG:∀q∈tw,q.1<=30)(ct:fl tw<=90000){s1 s2 s3:Y}(z:mE s1 s2 s3)(ai:s2<=4)(aS:s3<=4){Fa:D}(dG:0<=Fa)(d0:Fa<=30)(az:(tw.getLastD (0,0)).1<=30)(lC:∀j,j<=s1->(e4.iQ Fa ((tw.getLastD (0,0)).1-2*Fa) j).H<=1331)(x0 bE bR cO eH ef dP ez d5 eh e1:MB ZE)(n:Y) :
  ∃(OG:O ZI) (h3 kF jB hC:MB ZE),OG.Perm (gV tw s1 s2 s3 Fa)/\OG.H<=900000 /\
   wk [x0,bE,bR,J ZK,J ZR,J Z7,J (.aj [],.aA),cO,eH,ef,dP,ez,d5,eh,e1] n =
    J (.bC,[x0,bE,bR,J ZK,J ZR,J Z7,J (.aj<|OG.map a6,.aA),h3,kF,jB,hC,ez,d5,eh,e1],n):=by
 let rK:=z.a;let aox:0<=(tw.getLastD (0,0)).1:=by
  obtain⟨q,dW,rfl⟩:∃q dW,tw=q::dW:=by
   cases tw with
   |nil=>show MI P h.ne
   |cons q tw=>show{(q),tw,P}
  let:=e4.V7 h (k:=q.1) Z5;let:=(h.hb q<|cc ..).1;lia
 let ad:=e4.anO (Wa:=Fa) (WV:=(tw.getLastD (0,0)).1-2*Fa) (ce Z1 dG) (ce d0 Z1) Z6 Z6 (k:=s1) (bw rK.2 Z1) (λj bJ=>bw (lC j bJ) Z1) n;rw[<-age]at ad
 let(OG,h3,kF,jB,hC,gu,iV,Dy,e):=Ud h fO yG ct (s1:=s1) (M7 rK.1<|bw rK.2 Z1) ⟨z.b,ai⟩ ⟨z.c,aS⟩ dG d0 x0 bE bR ez d5 eh e1 n (e4.iQ Fa ((tw.getLastD (0,0)).1-2*Fa) s1) [] cO eH ef dP (e4.V1 _ _ _) (λo aX=>by
  let(a,b,c):=e4.wK.mp aX
  show{{(bw rK.1<|dy a.symm),(dy a),λv bu=>by let:=c v bu;lia,b},a,λv bu=>(c v bu).1}) (by rw[nR];let:=lC s1<|b8 _;lia)
 show⟨OG,h3,kF,jB,hC,anT h z dG P gu Dy,by let:=lC s1<|b8 _;lia,?_⟩;rw[ka]at e;let d6:=e4.an3 h.ne n;let g1:∀a b:D,cz n [.aF [.int a,.int b],.int 0]=J (.int a,.aa):=λ_ _=>P;let t0:cz n [ar ZA,.int 0]=J (.int s1,.aa):=rfl;let ib:fF n [.int 2,.int Fa]=J (.int<|2*Fa,.aa):=pV (.inl Z1) n;let IA:p3 n [.int 1]=J (.int<|-1,.aa):=rfl;let c2:∀a b:D,fW n [.int a,.int b]=J (.int<|a-b,.aa):=λ_ _=>P;let LI:e2 (cD 3 FN<|a0 (aD cz<|af (aq 4) ZJ)<|a0 (aq 5)<|a0 (aD fW<|af (aD cz<|af (aD cz<|af (aq 3)<|af (aD p3 ZT) aw) ZJ)<|af (aD fF<|af (aH<|.int 2)<|af (aq 5) aw) aw) cw) [x0,bE,bR,J ZK,J ZR,J Z7,J (.aj [],.aA),cO,eH,ef,dP,ez,d5,eh,e1] n=J ((e4.iQ Fa ((tw.getLastD (0,0)).1-2*Fa) s1).map ar,n):=by generalize (e4.iQ Fa ((tw.getLastD (0,0)).1-2*Fa) s1).map ar=out at*;generalize bT tw=cH at*;generalize ar ZA=o4 at*;generalize (tw.getLastD (0,0)).1=cJ at*;generalize (tw.getLastD (0,0)).2=fb at*;delta e2;simp![t0,IA,d6,g1,ib,c2,ad,Mz]
 delta wk eo;rw[LI];show e
def Ue(a:O ZI):ey 6 (.aj<|a.map a6)=Y0:=by show(a.map a6).all (ey 5)=Y0;rw[iq];intro x au;let(r,_,rfl):=c9.mp au;show Lq 3 r
def agf{OG A:O ZI}(p:OG.Perm A)(g:∀l∈A,l≠[]/\∀d∈l,∀x∈d,0<=x)(dw:A.H<=400)(x0 bE bR cy cv dM cO eH ef dP d5 eh e1:MB ZE)(n:Y) :
  sg [x0,bE,bR,cy,cv,dM,J (.aj<|OG.map a6,.aA),cO,eH,ef,dP,J (.aj<|(fg A).map a6,.aA),d5,eh,e1] n=J (.bC,[x0,bE,bR,cy,cv,dM,J (.aj<|OG.map a6,.aA),cO,eH,ef,dP,J (.aj<|(fg A).map a6,.aA),d5,eh,e1],n) /\
  sh [x0,bE,bR,cy,cv,dM,J (.aj<|OG.map a6,.aA),cO,eH,ef,dP,J (.aj<|(fg A).map a6,.aA),d5,eh,e1] n=J (.bC,[x0,bE,bR,cy,cv,dM,J (.aj<|OG.map a6,.aA),cO,eH,ef,dP,J (.aj<|(fg A).map a6,.aA),d5,eh,e1],n):=by
 let dJ:bp=1000000:=rfl;let b6:2<=bp:=by decide
 let cH:=p.length_eq;let Dp:=SX (ls:=OG) (λl az=>g l<|p.mem_iff.mp az) Z6 n;rw[e4.an7 p]at Dp;let cW:(fg A).H=A.H:=(F6 λl az=>(g l az).2).length_eq;let ln:fG n [.aj<|(fg A).map a6]=J (.int (A.H:Y),.aa):=by rw[pQ,bZ,cW]
 let gt:lF n [.int (A.H:Y),.int 400]=J (.aU Y1,.aa):=by show J (T.aU<|decide ((400:D)<_),a9.aa)=_;rw[Nc Z6]
 let gB:=Ue<|fg A;let ne1:hv n [.aj<|(fg A).map a6,.aF ZV]=J (.aU Y0,.aa):=by rw[Be];show(if(ey 6 (.aj<|(fg A).map a6)&&ey 6 (.aF ZV))=Y0 then J (d1 (.aj<|(fg A).map a6)<|.aF ZV) else C).map _=_;rw[gB];rfl
 let eq1:hu n [.aj<|(fg A).map a6,.aF ZV]=J (.aU Y1,.aa):=by rw[vW];show(if(ey 6 (.aj<|(fg A).map a6)&&ey 6 (.aF ZV))=Y0 then J (d1 (.aj<|(fg A).map a6)<|.aF ZV) else C).map _=_;rw[gB];rfl
 let ne2:hv n [.aj<|(fg A).map a6,.aj<|(fg A).map a6]=J (.aU Y1,.aa):=by rw[Be,r6 gB];rfl
 generalize (fg A).map a6=ek at*;generalize OG.map a6=gx at*;constructor
 .delta sg t7;simp![c6,b6,ne1,Dp,ne2,ln,gt]
 .delta sh t7;simp![c6,b6,eq1]
def agg{OG A:O ZI}(p:OG.Perm A)(dw:400<A.H)(x0 bE bR cy cv dM cO eH ef dP d5 eh e1:MB ZE)(n:Y) :
  sg [x0,bE,bR,cy,cv,dM,J (.aj<|OG.map a6,.aA),cO,eH,ef,dP,J (.aF ZV,.aa),d5,eh,e1] n=J (.bC,[x0,bE,bR,cy,cv,dM,J (.aj<|OG.map a6,.aA),cO,eH,ef,dP,J (.aF ZV,.aa),d5,eh,e1],n) /\
  sh [x0,bE,bR,cy,cv,dM,J (.aj<|OG.map a6,.aA),cO,eH,ef,dP,J (.aF ZV,.aa),d5,eh,e1] n=J (.ba (.aU Y0) Y1,[x0,bE,bR,cy,cv,dM,J (.aj<|OG.map a6,.aA),cO,eH,ef,dP,J (.aF ZV,.aa),d5,eh,e1],n):=by
 let b6:2<=bp:=by decide
 let cH:=p.length_eq;let ln:fG n [.aj<|OG.map a6]=J (.int (A.H:Y),.aa):=by rw[pQ,bZ,cH]
 let gt:lF n [.int (A.H:Y),.int 400]=J (.aU Y0,.aa):=by show J (T.aU<|decide ((400:D)<_),a9.aa)=_;rw[Nk Z6]
 let ne1:hv n [.aF ZV,.aF ZV]=J (.aU Y1,.aa):=e4.VT 4 n;let eq1:hu n [.aF ZV,.aF ZV]=J (.aU Y0,.aa):=by rw[vW,r6 P];rfl
 generalize OG.map a6=gx at*;constructor
 .delta sg t7;simp![c6,b6,ne1]
 .delta sh t7;simp![c6,b6,eq1,ln,gt]
noncomputable def wF:O T:=[.b0,.aF [.int 1,.int 1],.aF [.int 1,.int 0,.int 1],.aF [.int 1,.int 9,.int 1],.aj [.int 1,.int 1,.int 1],.aF [.int 1,.int 1,.aU Y0],.int 4]
def LZ(b:MF)(l:O T):flag (look (if b then .aa else .b9)<|.aj l) (.aj l)=b:=by cases b<;>rfl
def amb(h:eB tw)(fO:tw.H<64)(b:MF)(n:Y):∀v∈wF,lL [(.aj<|bT tw,b),(v,Y0),(.int 0,Y0)] n=J (.aF [.str "refused",.int 3],Y1,n):=λv bu=>by show BK (.inr P) (.inr<|.inl P)<|LV (LZ b _) ?_;rw[LU h fO];generalize J (T.aj<|bT tw,if b then a9.aa else a9.b9)=x0;erw[wF,cF,hl,MW]at bu;rcases bu with rfl|rfl|rfl|rfl|rfl|rfl|rfl<;>rfl
def amc(h:eB tw)(fO:tw.H<64){s1 s2 s3:Y}(ae:1<=s1/\s1<=8)(ai:1<=s2/\s2<=8)(aS:1<=s3/\s3<=8)(b:MF)(n:Y):lL [(.aj<|bT tw,b),(ar ZA,Y0),(.int<|-1,Y0)] n=J (.aF [.str "refused",.int 3],Y1,n):=by show BK (.inr P) (.inr<|.inl P)<|LV (LZ b _) ?_;show sd [(.aj<|bT tw,b),(.aF ZD,Y0),(.int 3,Y0),(.int<|-1,Y0)] n=_;rw[LU h fO,T5 ae ai aS];show e4.al7 n _<|cc ..
def anU(h:eB tw)(fO:tw.H<64){s1 s2 s3:Y}(ae:1<=s1/\s1<=8)(ai:1<=s2/\s2<=8)(aS:1<=s3/\s3<=8)(w:4<s1\/16<s2*s3)(b:MF)(n:Y):lL [(.aj<|bT tw,b),(.aF ZD,Y0),(.int 0,Y0)] n=J (.aF ZV,Y1,n):=by show BK (.inr P) (.inr<|.inr P) ?_;rw[T6 h fO ae ai aS (hD _) Z1,Y2 w]
def agh(t v:T)(n:Y):lL [(.aj [],Y0),(t,Y0),(v,Y0)] n=J (.aF [.str "refused",.int 2],Y1,n):=by show BK (.inl P) (.inl P)<|LV (LZ Y0 _) ?_;let e:pY [(.aj [],Y0)] n=J (2,n):=e4.an6 P;show Ls [J (.aj [],.aa),J (t,.aa),J (.int 3,.aa),J (v,.aa),C] n=_;delta Ls;show GJ e
def eO(s:Y):O D:=ML s 0
def anV{s1 s2 s3 m:Y}(z:mE s1 s2 s3)(df:1<=m)(fR:m<=4096)(aK:fX [eO s1,eO s2,eO s3]=ML m 0)(b:MF)(n:Y) :
  lL [(.aj [.aF [.int 0,.int (m:Y)]],b),(ar ZA,Y0),(.int 0,Y0)] n=J (.aj [a6 [eO s1,eO s2,eO s3]],Y0,n):=by
 let h:eB [((0:D),((m:Y):D))]:=⟨by simp,by simp,λq bc=>by
  rw[gK.mp bc]
  show{hD _,by show(0:D)<=120;decide,by show(1:D)<=(m:Y);lia,by show((m:Y):D)<=4096;lia}⟩
 let rK:=z.a;let Od:=z.b;let Oe:=z.c;let only:∀r,r∈gV [((0:D),((m:Y):D))] s1 s2 s3 0↔r=[eO s1,eO s2,eO s3]:=λr=>by
  rw[F3 h z<|hD _];constructor
  .intro g;let aho:∀k,1<=cK r k->k=0:=λk c=>by rw[g.all]at c;let(q,bc,e):=c9.mp<|h.eD.mem (k:=k)<|c;rw[gK.mp bc]at e;show e.symm
   match r,g.len with
   |[x,y,w],e =>
    let e:[x.H,y.H,w.H]=[s1,s2,s3]:=e;injection e with aB e;injection e with ax e;injection e with bq _;let ex:∀(l:O D),1<=l.H->∃a,a∈l:=λl az=>by
     cases l with
     |nil=>simp at az
     |cons a t=>show{a,cc ..}
    let one:∀u∈x,∀v∈y,∀t∈w,u=0/\v=0/\t=0:=λu bP v bu t ct=>by
     let cb:1<=cK [x,y,w] (u+(v+t)):=by rw[jI];let c5:cK [y,w] (u+(v+t)-u)<=bA (x.map λf=>cK [y,w]<|u+(v+t)-f):=F0 (g:=λf=>cK [y,w]<|u+(v+t)-f) (λf=>tR _ _) bP;rw[show u+(v+t)-u=v+t by lia]at c5;show ce (Lz bu ct) c5
     let:=aho _ cb;let:=g.lo x Z5 u bP;let:=g.lo y Z5 v bu;let:=g.lo w Z5 t ct;lia
    let(a,bl):=ex x<|bw rK.1<|dy aB.symm;let(c,aI):=ex y<|bw Od<|dy ax.symm;let(d,hd):=ex w<|bw Oe<|dy bq.symm;delta eO;rw[<-aB,<-ax,<-bq,GU λu bP=>(one u bP c aI d hd).1,GU λu bP=>(one a bl u bP d hd).2.1,GU λu bP=>(one a bl c aI u bP).2.2];simp
  .rintro rfl;show{by simp[eO],λx au=>?_,λx au v bu=>?_,λk=>?_}
   .erw[cF,hl,MW]at au;rcases au with rfl|rfl|rfl<;>show List.pairwise_replicate.mpr<|.inr<|hD _
   .erw[cF,hl,MW]at au;rcases au with rfl|rfl|rfl<;>rw[(B8.mp bu).2]<;>show hD _
   .delta cK;rw[aK,List.countP_replicate,cnt_cons];by_cases c:(0:D)=k
    .subst c;simp[b7]
    .rw[Y3 (by simpa using c),Y3 c];rfl
 let bG:=T2 h z<|hD (0:D);let e:gV [((0:D),((m:Y):D))] s1 s2 s3 0=[[eO s1,eO s2,eO s3]]:=by show qaA.mp ((GR bG Z5).mpr λr=>?_);rw[only,gK]
 let a:=T7 h (by show 1<64;decide) z (hD (0:D)) Z1 b n;rw[e,Y3<|by show ¬400<1;decide]at a
 let agi:fg [[eO s1,eO s2,eO s3]]=[[eO s1,eO s2,eO s3]]:=qaA.mp (F6 λl az d hd x au=>by
  rw[gK.mp az]at hd;erw[cF,hl,MW]at hd
  rcases hd with rfl|rfl|rfl<;>rw[(B8.mp au).2]<;>show hD _)
 rw[agi]at a;show a
structure lz (a:O D):Prop where
 d:pU 3 a
 le:∀z∈a,z<=3
theorem Ug{m:D}:∀{ds:O Z0},(∀x∈ds,∀z∈x,0<=z/\z<=3)->∀z∈fX ds,0<=z/\z<=3*(ds.H:D)
 |[],_,z,hz=>by rw[gK.mp hz];show{hD _,hD _}
 |x::ds,h,z,hz=>by rw[qZ]at hz;let(f,hf,hz):=mm.mp hz;let(y,aJ,rfl):=c9.mp hz;let a:=h x (cc ..) f hf;let b:=Ug (m:=m) (λx au=>h x<|cZ _ au) y aJ;rw[dv,Hu];lia
def anW{a b c:O D}(bl:lz a)(ao:lz b)(aI:lz c)(n:Y):∃tw,eB tw/\(∀k,cK [a,b,c] k=b7 tw k)/\tw.H<=11/\(∀q∈tw,q.1<=9)/\fl tw<=27/\yA [(.aF ZX,Y0)] n=J (.aj<|bT tw,Y0,n):=by
 let OG:wD 3 3 [a,b,c]:=⟨by simp,by simp,λd hd=>by
  erw[cF,hl,MW]at hd;rcases hd with rfl|rfl|rfl
  .show bl.d
  .show ao.d
  .show aI.d⟩
 let hb:∀z∈fX [a,b,c],0<=z/\z<=9:=λz hz=>by
  let:=Ug (m:=0) (ds:=[a,b,c]) (λx au u bP=>by
   erw[cF,hl,MW]at au;rcases au with rfl|rfl|rfl
   .show{(bl.d.hb u bP).1,bl.le u bP}
   .show{(ao.d.hb u bP).1,ao.le u bP}
   .show{(aI.d.hb u bP).1,aI.le u bP}) z hz
  simp at this;show M7 this.1 this.2
 let cW:=BE [a,b,c];let cW:(fX [a,b,c]).H=a.H*(b.H*(c.H*1)):=cW;let cJ:=bl.d.most;let fb:=ao.d.most;let lc:=aI.d.most;let a1:=bl.d.one;let bO:=ao.d.one;let cb:=aI.d.one;let le:a.H*(b.H*(c.H*1))<=3*(3*(3*1)):=ku cJ<|ku fb<|ku lc<|b8 _;let pos:1*(1*(1*1))<=a.H*(b.H*(c.H*1)):=ku a1<|ku bO<|ku cb<|b8 _;let lC:∀d,ha d (fX [a,b,c])->d.H<=11:=λd B=>by
  let:=e4.aiv B.bG λk aW=>by let(q,bc,rfl):=c9.mp aW;let:=hb _<|B.key bc;show M7 this.1<|ce this.2 Z1
  rwa [bZ]at this
 let(d,B,e):=e4.an8 OG Z1 Z1 (λd B=>gr (lC d B) Z1) n;let B:ha d<|fX [a,b,c]:=B;let(tw,T,OE,t,p):=SV B (λx au=>by let:=hb x au;show M7 this.1<|ce this.2 Z1) (bw (dy cW)<|bw le Z1) (λz=>by rw[z]at cW;change 0=_ at cW;show eP pos cW);rw[p]at e;show{tw,T,λk=>(OE k).symm,?_,λq bc=>?_,by rw[t,cW];lia,e}
 .let:=M1 List.H p;rw[bZ,(qL _).length_eq,bZ]at this;let q:(bT tw).H=tw.H:=bZ ..;let:=lC d B;lia
 .let o:=OE q.1;rw[iN T.eD.bG bc]at o;let:=(T.hb q bc).2.2.1;let(x,au,e):=gc.mp (show 0<(fX [a,b,c]).countP λx=>x==q.1 by lia);let e:x=q.1:=by simpa using e
  show e▸(hb x au).2
def Uh{s1 s2 s3:Y}(ae:1<=s1/\s1<=3)(ai:1<=s2/\s2<=3)(aS:1<=s3/\s3<=3):mE s1 s2 s3:=by
 show⟨(M7 ae.1<|qaU ae.2),ai.1,aS.1,bw (ku ai.2 aS.2) Z1,(bw ai.2 Z1),(bw aS.2 Z1),?_⟩;let g:iz [s1,s2,s3]=s1+s2+s3-3:=by delta iz;rw[LM];simp;lia
 rw[g];show bw (uj Z1 (show s1+s2+s3-3<=6 by lia)) Z1
def agj(x:O Z0):d1 (a6 x) (a6 x)=Y0:=by show jK (x.map ar) (x.map ar)=Y0;rw[Te];simp
def anY{A:O ZI}(h:x∈A)(n:Y):A6 n [a6 x,.aj<|A.map a6]=J (.aU Y1,.aa):=by
 show(if hc (a6 x)=Y1/\ey 5 (a6 x)=Y0/\(A.map a6).all (ey 5)=Y0 then J ((A.map a6).any λy=>d1 y<|a6 x) else C).map _=_
 rw[Y2 ⟨P,Lq 3 x,by
  rw[iq];intro y aJ;let(r,_,rfl):=c9.mp aJ
  show Lq 3 r⟩]
 rw[show((A.map a6).any λy=>d1 y<|a6 x)=Y0 from wV.mpr {a6 x,hZ h,agj x}];rfl
def amd(h:eB tw)(bl:lz a)(ao:lz b)(aI:lz c)(all:∀k,cK [a,b,c] k=b7 tw k){Fa:D}(dG:0<=Fa)(az:Fa<=a.headD 0/\Fa<=b.headD 0/\Fa<=c.headD 0):[a,b,c]∈fg (gV tw a.H b.H c.H Fa):=by
 let z:mE a.H b.H c.H:=Uh {(bl.d.one),bl.d.most} {(ao.d.one),ao.d.most} {(aI.d.one),aI.d.most};let lo:∀x:O D,x.Pairwise (·<=·)->Fa<=x.headD 0->∀v∈x,Fa<=v:=λx up h v bu=>by
  cases x with
  |nil=>cases bu
  |cons u t =>
   rcases cF.mp bu with rfl|bu
   .show h
   .show ce h<|(ik.mp up).1 v bu
 rw[SY λl az=>(LQ h z dG l az).2,F3 h z dG];show{P,λx au=>?_,λx au=>?_,all}
 .erw[cF,hl,MW]at au;rcases au with rfl|rfl|rfl
  .show bl.d.up
  .show ao.d.up
  .show aI.d.up
 .erw[cF,hl,MW]at au;rcases au with rfl|rfl|rfl
  .show lo _ bl.d.up az.1
  .show lo _ ao.d.up az.2.1
  .show lo _ aI.d.up az.2.2
def anZ:∀s∈[((4:Y),(1:Y),(1:Y),(4:Y)),(1,4,4,16),(4,2,8,64),(1,2,8,16)],mE s.1 s.2.1 s.2.2.1/\1<=s.2.2.2/\s.2.2.2<=4096/\fX [eO s.1,eO s.2.1,eO s.2.2.1]=ML s.2.2.2 0:=λs aK=>by erw[cF,hl,MW]at aK;rcases aK with rfl|rfl|rfl|rfl<;>show{{by decide,by decide,by decide,by decide,by decide,by decide,by decide+kernel},by decide,by decide,by decide+kernel}
def aiy(ns:O D)(n:Y)(bI:n+100<=bp):∃a b c n',lz a/\lz b/\lz c/\n<=n'/\n'<=n+48 /\
  Lu [J (.aj<|ns.map .int,.b9),J (.fE,.aa),C,C,C,C,C,C,C,C,C,C,C,C,C] n=J (.aj ZX,.aA,n'):=by
 let dJ:bp=1000000:=rfl;let cb:-(bp:D)<=3:=by decide
 let d9:(3:D)<=(bp:D):=by decide
 let(out,ck,aV,bb,c1,gn,iw):=Q7 (K:=12) (N:=bp-19) (V8:=λt=>∃d:O D,t=ar d/\lz d) (it:=l2<|af (aH<|.int 3) aw)
  (l:=[C,J 0,J 1,J 2,J 3,J 4,J 5,J 6,J 7,J 8,J 9,J 10,J 11,J 12,J 13,J 14]) (i:=0) (e:=cD 4 ys<|a0 (aq 1)<|a0 (aq 2)<|a0 (aD dE<|af Z8<|af (cD 3 r8<|a0 (aq 1)<|a0 (aq 2)<|a0 (aH<|.int 3) cw) aw)<|a0 (aH<|.int 3) cw) (S:=[J (.aj<|ns.map .int,.b9),J (.fE,.aa),C,C,C,C,C,C,C,C,C,C,C,C,C]) (n0:=n) (n:=n) (xs:=a8.bD.i7 0 3)
  (by delta l2;simp![cb,d9]) (λx n bI=>by
   let(r,h0,ae,e):=Fq ns n 3 Z1 Z6;obtain⟨k,rfl⟩:∃k:Y,r=k:={r.M,by lia}
   let(d,n',(g,gl,Dj),d0,hp,ax):=e4.aiu ns (1+k) 3 Z1 (n+1) (ia _ _) Z6 Z6;let ax:ys [(.aj<|ns.map .int,Y1),(.fE,Y0),(.int<|1+(k:D),Y0),(.int 3,Y0)] (n+1)=J (ar d,Y1,n'):=ax;show{ar d,n',?_,(ei d0),hp,d,P,{g.one,by let:=g.most;lia,g.hb,g.up},Dj};let pj:hc (ar d)=Y1:=rfl;generalize ar d=n8 at *
   simp![e,ax,mb,cY]) (by show n+12*3<=_;lia) (by show 3<=_;decide)
 let aV:out.H=3:=aV
 match out,aV with
 |[t1,dz,t3],_ =>
  let(a,rfl,bl):=bb t1 Z5;let(b,rfl,ao):=bb dz Z5;let(c,rfl,aI):=bb t3 Z5;let gn:ck<=n+12*3:=gn;show{a,b,c,ck,bl,ao,aI,c1,(bw gn<|ir Z1 _),iw}
def ame:GH=bk xK (bk zV<|bk zW<|bk zX<|bk Ip<|bk wk<|bk rI<|bk sg<|bk sh<|bk yD<|bk yE<|bk yF<|bk tU<|bk wm<|bk tV tW):=rfl
def nI{n n':Y}(h:a S n=J (.bC,S',n')):bk a b S n=b S' n':=by delta bk;rw[h];rfl
noncomputable abbrev hJ(ns:O D):MB ZE:=J (.aj<|ns.map .int,.b9)
abbrev TW:MB ZE:=J (.fE,.aa)
def aiz(ns:O D)(K:br):∃a b c tw Fa n,lz a/\lz b/\lz c/\eB tw/\(∀k,cK [a,b,c] k=b7 tw k)/\tw.H<=11/\(∀q∈tw,q.1<=9)/\fl tw<=27/\(Fa=0\/Fa=(1:D))/\n<=60 /\
  bk xK (bk zV<|bk zW<|bk zX<|bk Ip K) (nr ns 15) 0=K [hJ ns,TW,J (.aF ZX,.aa),J ZK,J (ar<|bY [a.H,b.H,c.H],.aa),J Z7,J (.aj [],.aA),C,C,C,C,C,C,C,C] n:=by
 let dJ:bp=1000000:=rfl;let iY:0<=bp:=by decide
 let eW:3<=bp:=by decide
 let(a,b,c,aY,bl,ao,aI,_,ck,aB):=aiy ns 0 Z1;let(tw,xQ,all,oH,xR,F8,ax):=anW bl ao aI aY;let(Fa,az,cC):=K7 ns [0,0,1] aY Z5 Z6;let az:Fa=0\/Fa=1:=by simp at az;lia
 show{a,b,c,tw,Fa,aY+1,bl,ao,aI,xQ,all,oH,xR,F8,az,(Nat.succ_le_of_lt<|gr ck Z1),?_};let bx:xK (nr ns 15) 0=J (.bC,[hJ ns,TW,J (.aF ZX,.aa),C,C,C,C,C,C,C,C,C,C,C,C],aY):=by let aB:Lu (nr ns 15) 0=J (.aj ZX,.aA,aY):=aB;show xK (nr ns 15) 0=_;delta xK cX aD af;rw[aB];rfl
 let cn:zV [hJ ns,TW,J (.aF ZX,.aa),C,C,C,C,C,C,C,C,C,C,C,C] aY=J (.bC,[hJ ns,TW,J (.aF ZX,.aa),J ZK,C,C,C,C,C,C,C,C,C,C,C],aY):=by delta zV;generalize T.aF ZX=o at*;simp![ax]
 let h2:zW [hJ ns,TW,J (.aF ZX,.aa),J ZK,C,C,C,C,C,C,C,C,C,C,C] aY=J (.bC,[hJ ns,TW,J (.aF ZX,.aa),J ZK,J (ar<|bY [a.H,b.H,c.H],.aa),C,C,C,C,C,C,C,C,C,C],aY):=by
  let cb:Lv [hJ ns,TW,J (.aF ZX,.aa),J ZK,C,C,C,C,C,C,C,C,C,C,C] aY=J (.aj ([a,b,c].map λx=>T.int (x.H:Y)),.aA,aY):=by
   show mS [a,b,c] ar (λx=>T.int (x.H:Y)) P (by show 3<=bp;show eW) λx _=>?_;let ln:fG aY [ar x]=J (.int (x.H:Y),.aa):=by show J (T.int ((x.map T.int).H:Y),a9.aa)=_;rw[bZ]
   generalize ar x=o at*;simp![cY,ln]
  delta zW fq;show(cX 4<|aD lG<|af Lv aw) [hJ ns,TW,J (.aF ZX,.aa),J ZK,C,C,C,C,C,C,C,C,C,C,C] aY=_;delta cX aD af;rw[cb];rfl
 let nd:zX [hJ ns,TW,J (.aF ZX,.aa),J ZK,J (ar<|bY [a.H,b.H,c.H],.aa),C,C,C,C,C,C,C,C,C,C] aY=J (.bC,[hJ ns,TW,J (.aF ZX,.aa),J ZK,J (ar<|bY [a.H,b.H,c.H],.aa),J Z7,C,C,C,C,C,C,C,C,C],aY+1):=by let cC:du.pT [(.aj<|ns.map .int,Y1),(.fE,Y0),(.aj [.int 0,.int 0,.int 1],Y0)] aY=J (.int Fa,Y1,aY+1):=cC;delta zX;generalize ar (bY [a.H,b.H,c.H])=ek at*;generalize T.aF ZX=gx at*;generalize bT tw=o3 at*;simp![dA,eW,cC]
 rw[nI bx,nI cn,nI h2,nI nd];rfl
def aiA(h:eB tw)(oH:tw.H<=11)(xR:∀q∈tw,q.1<=9)(F8:fl tw<=27){s1 s2 s3:Y}(ae:1<=s1/\s1<=3)(ai:1<=s2/\s2<=3)(aS:1<=s3/\s3<=3){Fa:D}(az:Fa=0\/Fa=1)(x0 bE bR:MB ZE)(n:Y)(K:br) :
  (∃S',bk wk (bk rI<|bk sg<|bk sh K) [x0,bE,bR,J ZK,J ZR,J Z7,J (.aj [],.aA),C,C,C,C,C,C,C,C] n=J (.ba (.aU Y0) Y1,S',n)) \/
  ∃dg cO eH ef dP,bk wk (bk rI<|bk sg<|bk sh K) [x0,bE,bR,J ZK,J ZR,J Z7,J (.aj [],.aA),C,C,C,C,C,C,C,C] n =
   K [x0,bE,bR,J ZK,J ZR,J Z7,dg,cO,eH,ef,dP,J (.aj<|(fg<|gV tw s1 s2 s3 Fa).map a6,.aA),C,C,C] n:=by
 let z:=Uh ae ai aS;let qC:(tw.getLastD (0,0)).1<=9:=xR _<|e4.an2 h.ne;let(OG,h3,kF,jB,hC,p,dl,gF):=search h Z6 (λq bc=>by let:=xR q bc;lia) Z6 z Z6 Z6 (show 0<=Fa by lia) Z6 Z6 (λj bJ=>bw (e4.V5 Z6 j)<|bw (uj Z1 (show j<=3 by lia)) Z1) x0 bE bR C C C C C C C C n;let ask:=T7 h (gr oH Z1) z (show 0<=Fa by lia) Z6 Y1 n;rw[nI gF];by_cases c:400<(gV tw s1 s2 s3 Fa).H
 .left;rw[Y2 c]at ask;let gw:rI [x0,bE,bR,J ZK,J ZR,J Z7,J (.aj<|OG.map a6,.aA),h3,kF,jB,hC,C,C,C,C] n=J (.bC,[x0,bE,bR,J ZK,J ZR,J Z7,J (.aj<|OG.map a6,.aA),h3,kF,jB,hC,J (.aF ZV,.aa),C,C,C],n):=by delta rI;generalize ar ZA=ek at*;generalize bT tw=o3 at*;generalize OG.map a6=o4 at*;simp![ask]
  let(t1,dz):=agg p c x0 bE bR (J ZK) (J ZR) (J Z7) h3 kF jB hC C C C n;rw[nI gw,nI t1];show{[x0,bE,bR,J ZK,J ZR,J Z7,J (.aj<|OG.map a6,.aA),h3,kF,jB,hC,J (.aF ZV,.aa),C,C,C],?_};delta bk;rw[dz];rfl
 .right;rw[Y3 c]at ask;let gw:rI [x0,bE,bR,J ZK,J ZR,J Z7,J (.aj<|OG.map a6,.aA),h3,kF,jB,hC,C,C,C,C] n=J (.bC,[x0,bE,bR,J ZK,J ZR,J Z7,J (.aj<|OG.map a6,.aA),h3,kF,jB,hC,J (.aj<|(fg<|gV tw s1 s2 s3 Fa).map a6,.aA),C,C,C],n):=by delta rI;generalize (fg<|gV tw s1 s2 s3 Fa).map a6=o0 at*;generalize ar ZA=ek at*;generalize bT tw=o3 at*;generalize OG.map a6=o4 at*;simp![ask]
  let(t1,dz):=agf p (LQ h z Z6) (ci c) x0 bE bR (J ZK) (J ZR) (J Z7) h3 kF jB hC C C C n;rw[nI gw,nI t1,nI dz];show{_,_,_,_,_,P}
def aks(a b c:D):∃m,Fa [a,b,c]=J m/\∀t:D,t<=m↔t<=a/\t<=b/\t<=c:=by show{_,P,λt=>?_};erw[jj,List.foldl_nil];split<;>split<;>lia
def aiB(h:eB tw)(bl:lz a)(ao:lz b)(aI:lz c)(all:∀k,cK [a,b,c] k=b7 tw k){Fa:D}(dG:0<=Fa)(x0 bE cy cv dg cO eH ef dP:MB ZE)(n:Y) :
  yD [x0,bE,J (.aF ZX,.aa),cy,cv,J Z7,dg,cO,eH,ef,dP,J (.aj<|(fg<|gV tw a.H b.H c.H Fa).map a6,.aA),C,C,C] n =
   J (.bC,[x0,bE,J (.aF ZX,.aa),cy,cv,J Z7,dg,cO,eH,ef,dP,J (.aj<|(fg<|gV tw a.H b.H c.H Fa).map a6,.aA),C,C,C],n):=by
 let(m,em,hm):=aks (a.headD 0) (b.headD 0)<|c.headD 0;let dJ:bp=1000000:=rfl;let jU:∀ez,FR [x0,bE,J (.aF ZX,.aa),cy,cv,J Z7,dg,cO,eH,ef,dP,ez,C,C,C] n=J (.aj ([a,b,c].map λx=>T.int<|x.headD 0),.aA,n):=λez=>by
  show mS [a,b,c] ar (λx=>T.int<|x.headD 0) P (by show 3<=bp;decide) λx au=>?_;let bE:1<=x.H:=by
   erw[cF,hl,MW]at au;rcases au with rfl|rfl|rfl
   .show bl.d.one
   .show ao.d.one
   .show aI.d.one
  let g:cz n [ar x,.int 0]=J (.int<|x.headD 0,.aa):=by
   cases x with
   |nil=>simp at bE
   |cons u t =>
    show((fV ((u::t).map T.int) 0).map λt=>(t,a9.aa))=_;delta fV;rw[Y2 Z1,Y2<|by rw[bZ,dv];lia];rfl
  generalize ar x=o at*;simp![cY,g]
 let Dl:p1 n [.aj ([a,b,c].map λx=>T.int<|x.headD 0)]=J (.int m,.aa):=by show J _=_;rw[<-MV em]
 let ge:oh n [.int m,.int Fa]=J (.aU<|decide (Fa<=m),.aa):=rfl;let jw:Fa<=m->A6 n [.aF ZX,.aj<|(fg<|gV tw a.H b.H c.H Fa).map a6]=J (.aU Y1,.aa):=λle =>
  anY (amd h bl ao aI all dG<|(hm Fa).mp le) n
 delta yD fq;show(en (wq (cG<|aD oh<|af (aD p1<|af FR aw)<|af (aq 5) aw)<|cG<|aD A6<|af (aq 2)<|af (aq 11) aw) (dQ<|aH<|.aU Y1) eJ) [x0,bE,J (.aF ZX,.aa),cy,cv,J Z7,dg,cO,eH,ef,dP,J (.aj<|(fg<|gV tw a.H b.H c.H Fa).map a6,.aA),C,C,C] n=_;generalize (fg<|gV tw a.H b.H c.H Fa).map a6=ek at*;generalize [a,b,c].map (λx=>T.int<|x.headD 0)=gx at*;generalize T.aF ZX=o3 at*;generalize FR=C3 at*;by_cases le:Fa<=m
 .let jw:=jw le;rw[Nk le]at ge;simp![jU,Dl,ge,jw]
 .rw[Nc le]at ge;simp![jU,Dl,ge]
def aiC(ns:O D)(h:eB tw)(oH:tw.H<=11){s1 s2 s3:Y}(ae:1<=s1/\s1<=3)(ai:1<=s2/\s2<=3)(aS:1<=s3/\s3<=3)(bR dM dg cO eH ef dP ez:MB ZE)(n:Y)(bI:n+10<=bp)(K:br) :
  ∃v,bk yE (bk yF K) [hJ ns,TW,bR,J ZK,J ZR,dM,dg,cO,eH,ef,dP,ez,C,C,C] n =
   K [hJ ns,TW,bR,J ZK,J ZR,dM,dg,cO,eH,ef,dP,ez,J (v,.aa),C,C] (n+1):=by
 let dJ:bp=1000000:=rfl;let b6:2<=bp:=by decide
 let(v,bu,aB):=Fs ns wF Y0 n (by simp[wF])<|oS bI;let aav:=amb h (gr oH Z1) Y1 (n+1) v bu;let an:=amc h (gr oH Z1) (s1:=s1) (s2:=s2) (s3:=s3) {ae.1,(bw ae.2 Z1)} {ai.1,(bw ai.2 Z1)} {aS.1,(bw aS.2 Z1)} Y1<|n+1;let h2:hv (n+1) [.aF [.str "refused",.int 3],.aF [.str "refused",.int 3]]=J (.aU Y1,.aa):=e4.VT 3 _;let IA:p3 (n+1) [.int 1]=J (.int<|-1,.aa):=rfl;let g6:∀S m,Vc S m=J (.aj wF,.aA,m):=λ_ _=>P;let f1:flag .aa v=Y0:=rfl;let f2:look .aa v=.aa:=rfl;show{v,?_};delta yE yF hJ TW;generalize ar ZA=ek at*;generalize bT tw=gx at*;generalize ns.map T.int=sc at*;generalize wF=oo at*;simp![g6,aB,lb,f1,f2,aav,c6,b6,h2,IA,an]
def yH:O T:=[.aF [.int 4,.int 1,.int 1],.aF [.int 1,.int 4,.int 4],.aF [.int 4,.int 2,.int 8],.aF [.int 1,.int 2,.int 8]]
def yI:O T:=[.aF [.int 5,.int 1,.int 1],.aF [.int 1,.int 3,.int 6],.aF [.int 8,.int 8,.int 8],.aF [.int 2,.int 8,.int 3]]
def amf(bu:v∈yH):∃s1 s2 s3 m:Y,v=ar ZA/\(s1,s2,s3,m)∈[((4:Y),(1:Y),(1:Y),(4:Y)),(1,4,4,16),(4,2,8,64),(1,2,8,16)]/\(s1:D)*s2*s3=m/\s1<=8/\s2<=8/\s3<=8:=by
 erw[yH,cF,hl,MW]at bu;rcases bu with rfl|rfl|rfl|rfl
 .show{4,1,1,4,P,by simp,by decide,by decide,by decide,by decide}
 .show{1,4,4,16,P,by simp,by decide,by decide,by decide,by decide}
 .show{4,2,8,64,P,by simp,by decide,by decide,by decide,by decide}
 .show{1,2,8,16,P,by simp,by decide,by decide,by decide,by decide}
def zeros(s n:Y)(aK:s<=8):fF n [.aF [.int 0],.int (s:Y)]=J (ar<|eO s,.aa):=by
 let dJ:bp=1000000:=rfl;show(if[T.int 0].H<=1000 /\ -1000<=(s:D)/\(s:D)<=10000/\[T.int 0].H*(s:D).M<=bp then J (T.aF (ML (s:D).M [T.int 0]).flatten,a9.aa) else C)=_;rw[Y2 {by decide,(iC _),by lia,by simp;lia}];delta ar eO;rw[qaF,nX];congr 2;clear aK
 induction s with
 |zero=>rfl
 |succ s aQ=>rw[lO,rd,lO];injection aQ with aQ;rw[aQ];rfl
def aiD(ns:O D)(bR cy cv dM dg cO eH ef dP ez d5:MB ZE)(n:Y)(bI:n+10<=bp)(K:br) :
  ∃v,bk tU (bk wm K) [hJ ns,TW,bR,cy,cv,dM,dg,cO,eH,ef,dP,ez,d5,C,C] n =
   K [hJ ns,TW,bR,cy,cv,dM,dg,cO,eH,ef,dP,ez,d5,J (v,.aa),C] (n+1):=by
 let dJ:bp=1000000:=rfl;let bO:1<=bp:=by decide
 let b6:2<=bp:=by decide
 let(v,bu,aB):=Fs ns yH Y0 n (by simp[yH])<|oS bI;let(s1,s2,s3,m,rfl,aK,jx,k1,k2,k3):=amf bu;let(z,df,fR,aK):=anZ _ aK;let aaw:=anV (m:=m) z df fR aK Y0<|n+1;let g6:∀S m,Vd S m=J (.aj yH,.aA,m):=λ_ _=>P;let xv:FT [hJ ns,TW,bR,cy,cv,dM,dg,cO,eH,ef,dP,ez,d5,J ZR,C] (n+1)=J (.aj ([s1,s2,s3].map λs=>ar<|eO s),.aA,n+1):=by
  show mS [s1,s2,s3] (λs=>T.int (s:Y)) (λs=>ar<|eO s) P (by show 3<=bp;decide) λs aK=>?_
  let ib:=zeros s (n+1) (by
   erw[cF,hl,MW]at aK
   rcases aK with rfl|rfl|rfl<;>assumption)
  let f1:look .aa (ar<|eO s)=.aa:=rfl;let pj:hc (ar<|eO s)=Y1:=rfl;generalize ar (eO s)=o at*;simp![cY,c6,bO,ib,f1,pj]
 let tp:lG (n+1) [.aj ([s1,s2,s3].map λs=>ar<|eO s)]=J (a6 [eO s1,eO s2,eO s3],.aa):=rfl;let pj:hc (a6 [eO s1,eO s2,eO s3])=Y1:=rfl;let d6:cz (n+1) [ar ZA,.int 0]=J (.int s1,.aa):=rfl;let g1:cz (n+1) [ar ZA,.int 1]=J (.int s2,.aa):=rfl;let g2:cz (n+1) [ar ZA,.int 2]=J (.int s3,.aa):=rfl;let aV:fF (n+1) [.int (s1:D),.int (s2:D)]=J (.int<|(s1:D)*s2,.aa):=pV (.inl<|by simp[Mw];lia) _;let bb:fF (n+1) [.int<|(s1:D)*s2,.int (s3:D)]=J (.int (m:Y),.aa):=by rw[pV (.inr<|by simp[Mw];lia),jx]
 let cH:ey 6 (.aj [a6 [eO s1,eO s2,eO s3]])=Y0:=Ue [[eO s1,eO s2,eO s3]];let ne:hv (n+1) [.aj [a6 [eO s1,eO s2,eO s3]],.aj [a6 [eO s1,eO s2,eO s3]]]=J (.aU Y1,.aa):=by rw[Be,r6 cH];rfl
 clear cH;let f1:flag .aa (ar ZA)=Y0:=rfl;let f2:look .aa (ar ZA)=.aa:=rfl;show{ar ZA,?_};let agk:tU [hJ ns,TW,bR,cy,cv,dM,dg,cO,eH,ef,dP,ez,d5,C,C] n=J (.bC,[hJ ns,TW,bR,cy,cv,dM,dg,cO,eH,ef,dP,ez,d5,J ZR,C],n+1):=by delta tU hJ TW;generalize ar ZA=ek at*;generalize yH=oo at*;generalize ns.map T.int=sc at*;simp![g6,aB,lb]
 rw[nI agk];show nI ?_;delta wm fq;show(en (cG<|aD hv<|af (cD 3 lL<|a0 (dA<|af (bB<|c6<|af (bB Z9)<|af (bB<|aD fF<|af (aD fF<|af (aD cz<|af (aq 13) ZJ)<|af (aD cz<|af (aq 13) ZT) aw)<|af (aD cz<|af (aq 13)<|af (aH<|.int 2) aw) aw) aw) aw)<|a0 (aq 13)<|a0 Z9 cw)<|af (dA<|af (bB<|aD lG<|af FT aw) aw) aw) (dQ<|aH<|.aU Y1) eJ) [hJ ns,TW,bR,cy,cv,dM,dg,cO,eH,ef,dP,ez,d5,J ZR,C] (n+1)=_;generalize [s1,s2,s3].map (λs=>ar<|eO s)=o4 at*;generalize a6 [eO s1,eO s2,eO s3]=o3 at*;generalize ar ZA=ek at*;generalize FT=C4 at*;simp![d6,g1,g2,aV,bb,c6,bO,b6,dA,f1,f2,aaw,xv,tp,pj,ne]
def amg(bu:v∈yI):∃s1 s2 s3:Y,v=.aF ZD/\(1<=s1/\s1<=8)/\(1<=s2/\s2<=8)/\(1<=s3/\s3<=8)/\(4<s1\/16<s2*s3):=by
 erw[yI,cF,hl,MW]at bu;rcases bu with rfl|rfl|rfl|rfl
 .show{5,1,1,P,by decide}
 .show{1,3,6,P,by decide}
 .show{8,8,8,P,by decide}
 .show{2,8,3,P,by decide}
def aiE(ns:O D)(h:eB tw)(oH:tw.H<=11)(Dz:T)(f4:flag .aa Dz=Y0)(bR dM dg cO eH ef dP ez d5 eh:MB ZE)(n:Y)(bI:n+10<=bp) :
  ∃S' n',bk tV tW [hJ ns,TW,bR,J ZK,J (Dz,.aa),dM,dg,cO,eH,ef,dP,ez,d5,eh,C] n=J (.ba (.aU Y0) Y1,S',n'):=by
 let dJ:bp=1000000:=rfl;let iY:0<=bp:=by decide
 let b6:2<=bp:=by decide
 let(v,bu,aB):=Fs ns yI Y0 n (by simp[yI])<|oS bI;let(s1,s2,s3,rfl,ae,ai,aS,w):=amg bu;let aax:=anU h (gr oH Z1) ae ai aS w Y1<|n+1;let aay:=agh Dz (.int 0)<|n+1;let g6:∀S m,Ve S m=J (.aj yI,.aA,m):=λ_ _=>P;let eq4:hu (n+1) [.aF ZV,.aF ZV]=J (.aU Y0,.aa):=by rw[vW,r6 P];rfl
 let eq2:hu (n+1) [.aF [.str "refused",.int 2],.aF [.str "refused",.int 2]]=J (.aU Y0,.aa):=by rw[vW,r6 P];rfl
 let f1:flag .aa (.aF ZD)=Y0:=rfl;show{[hJ ns,TW,bR,J ZK,J (Dz,.aa),dM,dg,cO,eH,ef,dP,ez,d5,eh,J (.aF ZD,.aa)],n+1,?_};delta tV tW t7 hJ TW;generalize T.aF ZD=ek at*;generalize bT tw=gx at*;generalize ns.map T.int=sc at*;generalize yI=oo at*;simp![g6,aB,lb,f1,f4,aax,c6,b6,eq4,dA,iY,aay,eq2]
def run:∀ns:O D,ns.H<=63->∃S' n',GH (nr ns 15) 0=J (.ba (.aU Y0) Y1,S',n'):=by
 intro ns _;let dJ:bp=1000000:=rfl;rw[ame];let(a,b,c,tw,Fa,n,bl,ao,aI,xQ,all,oH,xR,F8,az,bI,aB):=aiz ns<|bk wk<|bk rI<|bk sg<|bk sh<|bk yD<|bk yE<|bk yF<|bk tU<|bk wm<|bk tV tW;rw[aB];let ae:1<=a.H/\a.H<=3:={(bl.d.one),bl.d.most}
 let ai:1<=b.H/\b.H<=3:={(ao.d.one),ao.d.most}
 let aS:1<=c.H/\c.H<=3:={(aI.d.one),aI.d.most}
 rcases aiA xQ oH xR F8 ae ai aS az (hJ ns) TW (J (.aF ZX,.aa)) n (bk yD (bk yE (bk yF (bk tU (bk wm (bk tV tW)))))) with⟨S',e⟩|⟨dg,cO,eH,ef,dP,e⟩
 .show{(S'),n,e}
 rw[e,nI<|aiB xQ bl ao aI all (show 0<=Fa by lia) (hJ ns) TW _ _ dg cO eH ef dP n];let(v,agl):=aiC ns xQ oH ae ai aS (J (.aF ZX,.aa)) (J Z7) dg cO eH ef dP (J (.aj<|(fg<|gV tw a.H b.H c.H Fa).map a6,.aA)) n Z6<|bk tU<|bk wm<|bk tV tW;rw[agl];let(u,agm):=aiD ns (J (.aF ZX,.aa)) (J ZK) (J (ar<|bY [a.H,b.H,c.H],.aa)) (J Z7) dg cO eH ef dP (J (.aj<|(fg<|gV tw a.H b.H c.H Fa).map a6,.aA)) (J (v,.aa)) (n+1) Z6<|bk tV tW;rw[agm];show aiE ns xQ oH (ar<|bY [a.H,b.H,c.H]) P _ _ _ _ _ _ _ _ _ _ (n+1+1) Z6
end we
section
namespace PySem.W.Fast
def tw5166117947816815383:=Nat
def tw169523976682787352:=Nat
def tw18072673156595865867:=Nat
def tw10701114212324197938:=Nat
def tw8068842511669159101:=Nat
def tw10294331520995416155:=Nat
def tw16407689075759327488:=Nat
def tw4698255332845804384:=Nat
def tw7175284981685499316:=Nat
def tw4384009220985768286:=Nat
def tw1603074993257494909:=Nat
def tw17271698339845277700:=Nat
def tw3973294437389473071:=Nat
def tw540685681836401157:=Nat
def tw10958593131804293606:=Nat
def tw12731081363946004566:=Nat
def tw1375080485283253844:=Nat
def tw292354108611216403:=Nat
def tw9559257264372781947:=Nat
def tw17329995819718633376:=Nat
def tw1073035336456904094:=Nat
def tw9134008848007341566:=Nat
def tw4008023382972725947:=Nat
def tw871255286714973863:=Nat
def tw15066989283480104152:=Nat
def tw12649124049757845204:=Nat
def tw6328461302461687623:=Nat
def tw17193910675227446074:=Nat
def tw3666272421512958132:=Nat
def tw12489695315970940191:=Nat
def tw15046240212519707713:=Nat
def tw16659631639803905951:=Nat
def tw14594956387226521530:=Nat
def tw5617513311267235677:=Nat
def tw7075576190774235050:=Nat
def tw9241057532734865505:=Nat
def tw4163843388770738264:=Nat
def tw15557941400366920142:=Nat
def tw5911471492833675585:=Nat
def tw15095896252758170450:=Nat
def tw5794344612748305362:=Nat
def tw9000000486734879992:=Nat
def tw5982757662825008796:=Nat
def tw12578800242073449990:=Nat
def tw6210009378829899828:=Nat
def tw18348810432217157403:=Nat
def tw11214200767172196776:=Nat
def tw15540327053367774075:=Nat
def tw17768208219126631675:=Nat
def tw9767532508961948341:=Nat
def tw17206663614580126671:=Nat
def tw18101685738140770888:=Nat
def tw11025994709465226719:=Nat
def tw6450233537948569759:=Nat
def tw6334550198629924714:=Nat
def tw9257134736081554309:=Nat
def tw15189547842002208603:=Nat
def tw14730083570110757238:=Nat
def tw12117274801913957441:=Nat
def tw11368700812360007451:=Nat
def tw16185233761266869046:=Nat
def tw11298011009207963166:=Nat
def tw7097150210352220930:=Nat
def tw15043633492694468078:=Nat
def tw6868963226285379009:=Nat
def tw15163005113339734423:=Nat
def tw17700731015625292187:=Nat
def tw14680961687905399723:=Nat
def tw4671902849498285441:=Nat
def tw14280637065019473578:=Nat
def tw16088255545536416964:=Nat
def tw6957886085202195218:=Nat
def tw8545248162301461404:=Nat
def tw15353364191420195408:=Nat
def tw10182992410896769876:=Nat
def tw7106467037196761391:=Nat
def tw3535721311987361990:=Nat
def tw4956147650166271106:=Nat
def tw9375454368956784646:=Nat
def tw1817155899846323277:=Nat
def tw16591630685261470556:=Nat
def tw8823705251226680114:=Nat
def tw18327441228892256883:=Nat
def tw13652451128693480900:=Nat
def tw4977512129354790702:=Nat
def tw14547781426470984393:=Nat
def tw4188872668495828931:=Nat
def tw18206654308182781217:=Nat
def tw17499551191185973833:=Nat
def tw8616869351254522500:=Nat
def tw17635739530205284662:=Nat
def tw4911953656489863126:=Nat
def tw6501017273948291531:=Nat
def tw12639659027901700915:=Nat
def tw549145392285591237:=Nat
def tw6766049856197111177:=Nat
def tw8621158380899451069:=Nat
def tw2510959317003341128:=Nat
def tw16728456482233052593:=Nat
def tw16091999598809957508:=Nat
def tw14868960403204704077:=Nat
def tw1465772545559207693:=Nat
def tw16319337377470192094:=Nat
def tw9545219899669540476:=Nat
def tw8761935653054122367:=Nat
def tw16049841448069045864:=Nat
def tw17865613902576883831:=Nat
def tw14831898436103175766:=Nat
def tw13064758726014194480:=Nat
def tw6206592882357189356:=Nat
def tw12733478400629439111:=Nat
def tw2693572575384530971:=Nat
def tw8316935197337705590:=Nat
def tw212430400377433963:=Nat
def tw8382065218427743515:=Nat
def tw9537408163952944857:=Nat
def tw3090768781508552334:=Nat
def tw8374439813495018077:=Nat
def tw8453634029756950605:=Nat
def tw6142426355055231272:=Nat
def tw17086956005029510747:=Nat
def tw15729312065757113156:=Nat
def tw319305328993947276:=Nat
def tw10860774333197778221:=Nat
end PySem.W.Fast
open PySem PySem.W PyProof.Rows
set_option maxRecDepth 100000 in
set_option maxHeartbeats 0 in
theorem PySem.Challenge.cw_dicesums_k05_whole_threes_holds : PySem.Challenge.rw_dicesums_k05_whole_threes.Holds := by
  w_on; o_law; k_head; (case hw=>w_witness2)
  k_fill
  show a8.bD.ahT (l:=PySem.Challenge.rw_dicesums_k05_whole_threes) 8 P P {P, by decide, by decide} (λw h OF=>W.kIn_of OF) ?F
  case F =>
    intro w bf e6 h lY G Ah;refine' we.all_mk ?OF Ah we.run;constructor;show lY;show G
    all_goals first
      |(apply a8.bD.alK; k_is; k_is; k_is; k_is)
      |(show W.mg_none_of lY G ?_; k_is)
      |(show W.mg_of lY G ?_; k_is)
      |k_exc
      |k_is
      |(constructor<;>first|k_is|(apply a8.bD.some_of; k_is))
end