import PyProof.Rows.All
import Wide.All
import OpenK.AllK
import Wide.FinOn
import PyProof.EqAt
import PyProof.EqKinds
import PyProof.TupleCall
import Lean
import PyProof.StrLawsChain
import PyProof.StrLawsTight
import PyProof.StrBlock2
import PyProof.StrBlockH
import KE.KIntText
import PyProof.ReprReads
import PySem.Challenge.RW_dicesums_k11_whole_told_anew
set_option autoImplicit true
local macro_rules|`(tactic| fail)=>`(tactic| (extract_lets+onlyGivenNames-underBinder zz; subst zz))
local macro_rules|`(tactic| show $e:term)=>`(tactic| refine $e)
open Lean in
local macro_rules(kind:=Lean.Elab.Tactic.Ext.ext)|s=>do let e:TSyntax `ident:=⟨s[1][0][0][0]⟩;`(tactic| exists $e:ident)
open Lean in
def zqF:Nat->Syntax->Syntax
|k+1,s=>if s.isOfKind ``Lean.Parser.Term.tuple then mkNode `Lean.Parser.Tactic.rcasesPat.tuple #[mkAtom "⟨",mkNullNode <|(#[s[1][0],s[1][1]]++s[1][2].getArgs).map fun x=>if x.isAtom then x else mkNode `Lean.Parser.Tactic.rcasesPatLo #[mkNode `Lean.Parser.Tactic.rcasesPatMed #[mkNullNode #[zqF k x]],mkNullNode],mkAtom "⟩"]
 else mkNode (if s.isIdent then `Lean.Parser.Tactic.rcasesPat.one else `Lean.Parser.Tactic.rcasesPat.ignore) #[if s.isIdent then s else mkAtom "_"]
|_,s=>s
open Lean in
local macro_rules(kind:=Lean.Parser.Tactic.tacticLet__)|s=>do
 let d:=s[2][0]
 if d.isOfKind ``Lean.Parser.Term.letPatDecl then
  if d[0].isOfKind ``Lean.Parser.Term.tuple then return mkNode ``Lean.Parser.Tactic.obtain #[mkAtom "obtain",mkNullNode #[mkNode ``Lean.Parser.Tactic.rcasesPatMed #[mkNullNode #[zqF 9 d[0]]]],mkNullNode,mkNullNode #[mkAtom ":=",mkNullNode #[d[4]]]]
  Macro.throwUnsupported
 return (s.setArg 0 <|mkAtom "have").setKind `Lean.Parser.Tactic.tacticHave__
open Lean Parser Tactic in
local macro_rules(kind:=Lean.Parser.Tactic.tacticErw___)|s=>do
 let l<-s[2][1].getSepArgs.mapM fun r=>if r[0].isNone then `(simpLemma|$(⟨r[1]⟩):term) else `(simpLemma|← $(⟨r[1]⟩):term)
 let t<-`(tactic| simp only [$l,*])
 return t.raw.setArg 5 s[3]
local macro_rules|`(tactic| delta $x* $[$l]?)=>`(tactic| unfold $x* $[$l]?)
local macro_rules|`({$x:term,$xs:term,*})=>`(⟨$x,$xs,*⟩)
set_option Elab.async false
set_option linter.all false
set_option maxRecDepth 100000
set_option maxHeartbeats 0
set_option bootstrap.genMatcherCode false
set_option compiler.extract_closed false
set_option genSizeOfSpec false
noncomputable section
open _root_ renaming List->O,Nat->Y,rfl->D,Int->X6,Option->X8,autoParam->X9,Bool->Yc,Array->Ye,absurd->Yi,False->Ym,if_true->Yq,if_false->Ys,congrArg->Yx,String->YD,beq_iff_eq->UI,decide_eq_true_eq->YZ,decide_eq_true->XQ,decide_eq_false->K1,beq_self_eq_true->K2,of_decide_eq_true->Ld
open PySem renaming Addr->X7,Str->Ya,Expr->Yd,Stmt->Yf,Heap->Yg,Pos->Yh,eval->Ur,Obj->Yp,mem_of_lookup->KS
open List renaming replicate->Yj,casesOn->Yn,range->Yr,foldl->K9,Nodup->La
open PySem.W renaming Frag->Yk,Frag->Yo,fnOf->YW,kia_one->KP,keepIn->KW
open Option.some renaming inj->Yt
open PySem.SetTable renaming below->Yu,grown->K3
open Ne renaming symm->Yw
open False renaming elim->Yz
open PySem.Value renaming none->YC,ref->Uu,type->YX,isInt->KX
open Sum renaming inl->YE
open PySem.Str renaming ofString->YF
open PyProof.Rows renaming pairsOf->YG,callWith_type1->K4,slot_tuple_getitem->K6,callWith_builtin1->K7,arrOf->Le
open PySem.Obj renaming mapSeq->UJ
open PySem.Heap renaming SameBut->Vh,FlyingW->K5
open PySem.Paired renaming length->KQ
open True renaming intro->KR
open PySem.Heap.SameBut renaming update->KU
open PySem.Around renaming under_plainId->KV
open Option renaming bind->KY
open PySem.Builtin.Tuple renaming tupleExact->KZ,tupleHashOf->li
open Bind renaming bind->K0
open PySem.Builtin.Slice renaming slicePlaces->lf
open PySem.NameKind renaming free->K8
open ForInStep renaming yield->Lb
open And renaming intro->Lc
open List.Perm renaming append_left->Lf
open PySem.Builtin.SmallTypes renaming nextOf->Lg
open PySem.Builtin.List renaming listTooLong->Lh
open List renaming length_map->cj,map_cons->cD,mem_cons_self->dF,mem_cons_of_mem->dZ,length_cons->d4,size_toArray->eL,getElem?_eq_getElem->gB,mem_cons->ei,mem_map->el,map_map->be,getD_eq_getElem?_getD->iu,append_assoc->hj,length_append->hM,getElem?_eq_some_iff->bv,getElem?_map->hN,mem_map_of_mem->iJ,all_eq_true->hO,mem_singleton->jP,mem_append->iY,mem_append_right->l6,map_congr_left->lq,length_replicate->mO,drop_eq_getElem_cons->oP,flatMap_cons->kP,length_set->jQ,foldl_cons->jR,map_append->jS,replicate_succ->l7,pairwise_cons->l8,length_take->lr,take_append_drop->oQ,getElem_mem->l9,pairwise_append->oR,set_cons_succ->nN,set_cons_zero->nO,getElem?_set_self->rv,nodup_cons->mP,eq_nil_of_length_eq_zero->vs,countP_cons->nP,perm_append_comm->rx,all_cons->ma,mem_filter->gc,mem_append_left->ry,length_drop->oS,find?_cons->oT,getElem?_set_ne->tj,flatten_cons->rz,filterMap_cons->tl,drop_eq_nil_of_le->vt,take_of_length_le->vu,nil_append->qc,getElem?_append_left->xX,any_cons->oU,cons_append->rA,lookup_cons->rB,length_filter_le->vv,mem_range->qd,append_nil->rC,getElem?_replicate->xY,countP_eq_length_filter->A9,filter_cons->tm,getElem?_append_right->Ba,length_singleton->xZ,countP_le_length->io,length_range->vw,drop_sublist->vx,extract_eq_take_drop->Bb,pairwise_iff_getElem->Bc,pairwise_map->vy,mem_of_mem_take->x3,mem_iff_getElem->x5,take_length->vz,take_sublist->x6,getElem?_eq_none->Bd,getElem_drop->x7,getElem_take->x8,map_nil->tn,mem_of_getElem?->Be,mem_flatMap->x9,sum_cons->vA,all_map->vB,drop_zero->ya,reverse_cons->Bf,getElem?_set->Bg,findIdx?_eq_some_iff_getElem->qaX,nodup_append->Bh,range_succ_eq_map->E6,length_nil->Bi,foldr_cons->Bj,length_reverse->E7,filter_eq_self->E8,countP_eq_zero->E9,drop_drop->Bk,mem_filterMap->Fb,length_zipIdx->Fc,countP_append->Fd,length_eraseIdx_of_lt->qaY,foldl_append->Fe,findIdx?_eq_none_iff->qaZ,mem_or_eq_of_mem_set->qa0,getElem?_take_of_lt->qa1,any_eq_true->Ff,not_mem_nil->Fg,getElem?_cons_succ->qa2,length_eq_zero_iff->qa3,set_set->Bl,of_mem_zip->Fh,countP_mono_left->qa4,map_id->Bm,take_succ->Fi,replicate_succ'->qa5,mem_of_mem_drop->qa6,range_eq_range'->qa7,take_succ_cons->qa8,take_add->Fj,countP_pos_iff->qa9,filterMap_map->qba,zip_cons_cons->qbb,mem_replicate->qbc,any_map->Fl,any_eq_false->qbd,take_add_one->qbe,ext_getElem?->qbf,countP_congr->qbg,getElem_inj->qbh,map_snd_zip->qbi,map_flatMap->qbj
open Nat renaming le_trans->bF,le_refl->b3,lt_of_lt_of_le->d0,le_of_eq->dK,le_of_lt->ed,ne_of_lt->eE,lt_of_le_of_lt->gR,add_le_add_left->hP,le_of_not_lt->g4,le_add_right->hF,zero_le->f9,lt_of_succ_lt->jr,pos_of_ne_zero->ke,le_antisymm->iZ,le_of_add_right_le->nQ,lt_succ_of_lt->lu,add_sub_cancel'->mQ,add_lt_add_left->mR,le_add_right_of_le->qe,lt_succ_self->mS,le_of_lt_succ->oV,lt_of_add_right_lt->tq,lt_or_ge->mb,lt_of_le_of_ne->rD,le_sub_of_add_le->tr,lt_irrefl->nR,not_lt_of_le->rE,le_of_add_left_le->vC,sub_lt_left_of_lt_add->yb,sub_le->mc,lt_succ_of_le->ts,ne_of_gt->oW,succ_mul->oX,add_sub_cancel_left->yc,lt_of_not_le->tu,le_of_sub_eq_zero->ii,add_assoc->rF,add_le_of_le_sub->yd,mul_le_mul_right->ye,pow_le_pow_right->yf,mul_le_mul->tv,succ_le_succ->vD,lt_add_of_pos_right->Bn,zero_add->tx,sub_one_lt_of_lt->Bo,mul_assoc->vE,le_succ->tB,le_add_left->yg,add_comm->vF,lt_trans->vG,min_le_right->Bp,sub_eq_zero_of_le->Fm,sub_le_sub_right->Fn,le_sub_one_of_lt->Fo,add_sub_add_left->Fp,sub_zero->yh,sub_le_sub_left->Fq,sub_lt->vH,one_mul->yi,lt_of_sub_pos->Fs,sub_pos_of_lt->Ft,sub_lt_of_lt->Fu,le_max_right->Fv,not_le_of_lt->Fw,mul_comm->Bq,zero_max->Br,sub_self->Bs,le_mul_of_pos_right->qbk,le_mul_of_pos_left->qbl,le_sub_of_add_le'->qbm,mul_le_mul_left->qbn,add_zero->Fx,lt_asymm->Fy,add_sub_assoc->qbo,not_lt->Fz
open PySem.Heap renaming get?_push_of_some->dG,get?_push_size->fa,lt_size->d6,get?_update_self->nS,size_push->kQ,get?_update_other->rG,get?_push_ne->yj,size_update->Bt,get?_some_iff->qbp
open Option renaming bind_some->gb,map_some->vI,isSome_iff_exists->qbq,isSome_map->qbr,getD_none->qbs,map_map->qbt
open Array renaming length_toList->fP,getElem?_toList->js,getElem_mem->ci,getElem?_eq_getElem->rH,toList_append->vJ,toArray_toList->yk,toList_extract->Bu,perm_iff_toList_perm->FA,toList_push->Bv,getElem?_eq_none->FC,toList_setIfInBounds->Ll,toList_reverse->Lm,getElem_toList->Ln,forIn_toList->Lo,size_append->Lp,toList_map->Lq
open Bool renaming and_eq_true->gS,false_eq_true->iK,false_ne_true->mT,not_eq_true'->Bw,eq_iff_iff->FD,and_false->FE,not_true->FG,not_eq_true->Lr
open Int renaming natCast_nonneg->h3,le_trans->iv,toNat_natCast->nT,lt_of_le_of_lt->oY,le_of_lt->lx,lt_of_not_ge->rI,not_lt_of_ge->tC,lt_of_lt_of_le->Bx,ne_of_gt->vK,ne_of_lt->vL,mul_le_mul_of_nonneg_right->Ls,sub_nonneg_of_le->FH,natCast_mul->By,mul_le_mul_of_nonneg_left->Lu,add_le_add->Bz,emod_lt_of_pos->FI,add_mul->yl,le_refl->ym,emod_nonneg->FJ,sub_eq_add_neg->Lv,le_of_eq->FK,not_lt->FL
open PySem.Calls renaming spliced_cons->i0,spliced_nil->ly,callWith_builtin->qf,evalArgs_plain->tD
open PySem renaming wpAny_bind->aU,Value->ay,Shared->aL,wpAny_pure->bG,wpAny->ba,model->bg,starEach->cc,sizeLine->c3,Program->di,World->cL,Around->dz,wpAny_newObj_type->i1,wpAny_mono->g5,compareOp->gJ,wpAny_Call_Name_kw->lz,wpAny_call_entry->mt,foldedSetIterable->lA,intKind->gd,wpAny_holding->jT,backTo->fE,rawInt->fF,cLine->fh,wpAny_callSpecial?_slot->rJ,wpAny_rule->jt,mainGlobals->kg,sizeLine_eq->kR,attributeBase->mU,wpAny_truthy_bool->qg,FuncData->i2,codeAny_builtin->oZ,plainId_quiet->nU,assignEach->lB,wpAny_setField->o1,bootBuiltins->nV,sysModules->md,call_meets->mV,wpAny_isInstance->tE,wpAny_field->o2,wpAny_typeOf->qh,scanBound->mW,wpAny_passesOwn->tF,codeAny->kS,wpAny_updateSeq->tG,swapsWith->nW,wpAny_seqItems->tH,pyIter->kh,binaryOp->mX,codeAny_mono->rK,holding->me,Scope->ju,wpAny_execs_nil->vM,pyNext->kT,wpAny_typeNameOfWhole_keyiter->FN,wpAny_pyIter_list->yn,wpAny_Call_method->yo,wpAny_setState_of->yp,fits_of_scanBound->yq,assign->lC,getItem->mY,Keyword->mZ,builtinLookup_eq_fast->BA,SetTable->o7,wpAny_askSetting->yr,behindInMarks->vN,wpAny_attempt->vO,sliceBounds->tI,pickOrder->rL,isSubtype_type->ys,wpAny_Call_method0_late->FO,keywordEach->vP,wpAny_of_eq->vQ,NameKind->rM,wpAny_notOrdered_dict->FP,letOwnedTupleGo->BB,IsPart->o8,typeIs_str->vR,stored->o9,wpAny_loadPart'->BC,typeLookup_type->BD,wpAny_specialOf->BE,IsTupleKey->vS,wpAny_setEntries_of->FQ,spliced->rN,bindArgs->tJ,callerA->rO,wpAny_tryCatch->BF,firstArgMember->BG,PassesOwn->vT,wpAny_pyIter_tuple->FR,wpAny_tupleItemsOf->FT,strValues->vU,wpAny_sequenceKey->FU,wpAny_pyIter_slot->FV,wpAny_setEpoch_of->FW,wpAny_call->yt,valueAt->tK,wpAny_eqBool_int->FX,tupleKeyHash->BH,wpAny_getItem_list_slice->Lw,backToKw->vV,call_meetsIn->BI,concat_meets->BJ,noFill_tuple_add->FY,relayAll->vW,argsOk->rP,wpAny_forIn_list->FZ,wpAny_ite_split->F0,subscripted->BK,wpAny_letGo->BL,BindsTo->vX,wpAny_runValue->F1,wpAny_fieldsOf->F2,isSubtype_stop->F3,entryFor->yu,setField->yv,wpAny_standAt->F4,swapsWithSole->F5,swappedStores->F6,evalPart_none->F7,seq_tuple_add->F8
open PyProof.Rows renaming wpS_bind->cz,wpS_pure->c7,Keyed->bV,arrOf->cF,SortSt->dM,pendingOf->fj,IntsAre->gf,kindOf->g6,wpS_forRange->mf,wpS_mono->kU,seqObj->iL,setArr->i3,envOfC->jv,wpS_get->m1,AllBare->nX,slot_tupleiter_next->BM,failedOf->qi,wpS_lift->qj,boot_sorted->vY,gallopOf->rQ,wpS_modify->vZ,entry_tuple_getitem->F9,IsTup->nY,args_tuple_getitem->Ga,IsTupIter->v3,subscriptTail->BN,SortKind->v7,subscriptTail_builtinR->Lx,pairsOf_toList->Gb,tupleItemsOf_->Gd,listUpdate_at->Ge
open Option renaming some->J,none->C
open Bool renaming true->Y0,false->Y1
theorem az0 (h:True:=by rfl):True:=trivial
theorem az0.x:True:=trivial
open az0 renaming _auto_1->bo
theorem az1 (h:True:=by decide):True:=trivial
theorem az1.x:True:=trivial
open az1 renaming _auto_1->d7
theorem az2 (h:True:=by first|show .inl D|show .inr D|assumption):True:=trivial
theorem az2.x:True:=trivial
open az2 renaming _auto_1->qk
theorem az3 (h:True:=by intro _; rfl):True:=trivial
theorem az3.x:True:=trivial
open az3 renaming _auto_1->qx
theorem az4 (h:True:=by first|show Or.inl D|show Or.inr D):True:=trivial
theorem az5 (h:True:=by with_unfolding_all rfl):True:=trivial
theorem az6 (h:True:=by intros; rfl):True:=trivial
theorem az7 (h:True:=by first|show Or.inl D|show Or.inr (Or.inl D)|show Or.inr<|Or.inr D):True:=trivial
theorem az8 (h:True:=by first|show akN _ (by decide) (by decide)|rfl):True:=trivial
def Y2{c:Prop}{h:Decidable c}(hc:c){α:Sort u}{t e:α}:ite c t e=t:=if_pos hc
def Y3{c:Prop}{h:Decidable c}(hc:¬c){α:Sort u}{t e:α}:ite c t e=e:=if_neg hc
section
open Lean
def qaa(s:String):String:=match s with
|"H"=>"length"
|"O"=>"size"
|"Q"=>"heap"
|"B"=>"toList"
|"D"=>"toArray"
|"E"=>"objs"
|"I"=>"env"
|"M"=>"toNat"
|"R"=>"prog"
|"Y"=>"scope"
|"d"=>"base"
|"e"=>"data"
|"h"=>"names"
|s=>s
def Y4:Name->Name
|.str p s=>if s=="L" then .str (.str (.str (if p.isAnonymous then p else Y4 p) "heap") "objs") "size" else .str (if p.isAnonymous then p else Y4 p) (qaa s)
|n=>n
def Y5(n:Name):Name:=n.getRoot++Y4 (n.replacePrefix n.getRoot .anonymous)
def Y6:Nat->Syntax->Syntax
|k+1,s=>if s.isIdent then mkIdentFrom s (Y5 s.getId) else if s.isOfKind ``Lean.Parser.Term.proj then(s.setArg 0 (Y6 k s[0])).modifyArg 2 fun i=>if i.isIdent then mkIdentFrom i (Y4 i.getId) else i else s
|_,s=>s
end
open Lean in
local macro_rules
|`($x:ident)=>do
 let n:=x.getId
 if n.isAtomic||n.hasMacroScopes then Macro.throwUnsupported
 let m:=Y5 n
 if m==n then Macro.throwUnsupported
 return mkIdentFrom x m
open Lean in
local macro_rules (kind:=Lean.Parser.Term.proj)
|s=>do
 let t:=Y6 9 s
 if t==s then Macro.throwUnsupported
 return t
set_option hygiene false
open Lean in
def Zt0(n:Nat):MacroM Term:=match n with
|0=>`(by decide)
|1=>`(List Int)
|2=>`(Addr×Obj)
|3=>`(bg X.prog X.w)
|4=>`(Int×Int)
|5=>`(by lia)
|6=>`(by simp)
|7=>`(bg prog w)
|8=>`(aS (.int 0))
|9=>`([ar a,ar b])
|10=>`(ag (ai 0) aw)
|11=>`(aG (ai 0) bz)
|_=>Macro.throwUnsupported
open Lean in
def Ztab(n:Nat):MacroM Term:=match n/32 with
|0=>Zt0<|n%32
|_=>Macro.throwUnsupported
open Lean in
def Zval(c:Char):Y:=let n:=c.M;if n<58 then n-48 else if n<90 then n-55 else n-62
open Lean in
local macro_rules
|`($x:ident)=>do
 let s:=x.getId.toString
 if s.front != 'Z' then Macro.throwUnsupported
 match (s.toList.drop 1).map Zval with
 |[a]=>Ztab a
 |[a,b]=>Ztab<|61+a*61+b
 |_=>Macro.throwUnsupported
theorem az9 (h:True:=by first|show hr.mono Z0|show hr.mono<|by omega):True:=trivial
theorem az10 (h:True:=by show wN):True:=trivial
theorem az11 (h:True:=by decide+kernel):True:=trivial
theorem az12 (h:True:=by first|show y6 λ_ _ _ _ _ _ _=>D|show y7 λ_ _ _ _ _ _ _ _=>D|show y8 λ_ _ _ _ _ _ _ _ _=>D|show y9 λ_ _ _ _ _ _ _ _ _ _=>D|show Ce λ_ _ _ _ _ _ _ _ _ _ _=>D):True:=trivial
namespace a9
def aeK{α:Type _}{r:α}{p:Prop}(e:C=J r):p:=nomatch e
def aeL{α:Type _}{a c:α}(e:J a=J c):a=c:=Yt e
def aeM{α β:Type _}{a c:α}{b d:β}(e:J (a,b)=J (c,d)):a=c/\b=d:=by injection e with e;injection e with e f;show{(e),f}
def aeN{α β γ:Type _}{a c:α}{b d:β}{x y:γ}(e:J (a,b,x)=J (c,d,y)):a=c/\b=d/\x=y:=by injection e with e;injection e with e f;injection f with f g;show{(e),f,g}
def aeO{α β:Type _}{a c:α}{b d:β}(e:(a,b)=(c,d)):a=c/\b=d:=by injection e with e f;show{(e),f}
end a9
local macro_rules|`(tactic| exists $e:ident)=>`(tactic| first|exact a9.aeK $e|(obtain ⟨zq0, zq1, zq2⟩:=a9.aeN $e; clear $e; first|subst zq0 zq1 zq2|(subst zq0; subst zq1; clear zq2)|(subst zq0; subst zq2; clear zq1)|(subst zq1; subst zq2; clear zq0))|(obtain ⟨zq0, zq1⟩:=a9.aeM $e; clear $e; first|subst zq0 zq1|(subst zq0; clear zq1)|(subst zq1; clear zq0))|(have zq0:=a9.aeL $e; clear $e; subst zq0)|(obtain ⟨zq0, zq1⟩:=a9.aeO $e; clear $e; subst zq0 zq1)|subst $e|(injection $e; done)|(injection $e with zq0; subst zq0)|(injection $e with zq0 zq1; subst zq0 zq1)|cases $e:ident)
section
namespace a9
open PySem PySem.Spec PyProof.Rows
abbrev Key:=Sum X6 Ya
noncomputable def uh:Key->ay->Yc
 |.inl k,v=>KX k v
 |.inr x,v=>Value.isStrOf x v
noncomputable def aeP(w:cL):Key->X6
 |.inl k=>hashInt k
 |.inr x=>hashStr w x
theorem pB:∀{k:Key} {v:ay},uh k v=Y0->(∃i t,k=YE i/\v=Value.int i t)\/(∃x t,k=Sum.inr x/\v=Value.str x t)
 |.inl i,v,h=>by let(t,e):=Value.isInt_shape (k:=i) (v:=v) h;show .inl {(i),t,D,e}
 |.inr x,v,h=>by let(t,e):=Value.isStrOf_shape (x:=x) (v:=v) h;show .inr {(x),t,D,e}
def qab(i:X6)(t:Tok):uh (.inl i) (.int i t)=Y0:=by simp[uh,KX]
def qac(x:Ya)(t:Tok):uh (.inr x) (.str x t)=Y0:=by simp[uh,Value.isStrOf]
def agS(a b:X6):decide ((YE a:Key)=YE b)=(a==b):=by
 by_cases e:a=b
 .subst e;simp
 .let h:¬ (YE a:Key)=YE b:=λq=>e<|Sum.inl.inj q;rw[K1 h];show(beq_eq_false_iff_ne.mpr e).symm
def agT(a b:Ya):decide ((Sum.inr a:Key)=Sum.inr b)=decide (a=b):=by
 by_cases e:a=b
 .subst e;simp
 .let h:¬ (Sum.inr a:Key)=Sum.inr b:=λq=>e<|Sum.inr.inj q;rw[K1 h,K1 e]
def agU(a:X6)(b:Ya):decide ((YE a:Key)=Sum.inr b)=Y1:=K1 (λq=>nomatch q)
def agV(a:Ya)(b:X6):decide ((Sum.inr a:Key)=YE b)=Y1:=K1 (λq=>nomatch q)
def gF(prog:di)(w:cL):PySem.KeyKind prog w Key where
 is:=uh
 hash:=aeP w
 inj:=λv a b bx aq=>by
  rcases pB bx with⟨i,t,rfl,rfl⟩|⟨x,t,rfl,rfl⟩
  .rcases pB aq with⟨j,u,rfl,e⟩|⟨y,u,rfl,e⟩
   .injection e with aA _;rw[aA]
   .show nomatch e
  .rcases pB aq with⟨j,u,rfl,e⟩|⟨y,u,rfl,e⟩
   .show nomatch e
   .injection e with aA _;rw[aA]
 byValue:=λk v h=>by rcases pB h with⟨i,t,rfl,rfl⟩|⟨x,t,rfl,rfl⟩<;>rfl
 pyHash:=λbX h=>by
  rcases pB bX with⟨i,t,rfl,rfl⟩|⟨x,t,rfl,rfl⟩
  .show wpAny_pyHash_int h
  .show wpAny_pyHash_str h
 eqBool:=λb1 bX h=>by
  rcases pB b1 with⟨i,t,rfl,rfl⟩|⟨x,t,rfl,rfl⟩
  .rcases pB bX with⟨j,u,rfl,rfl⟩|⟨y,u,rfl,rfl⟩
   .rw[agS]at h;show FX h
   .rw[agU]at h;show SeqAt.EqAt.int_str i t y u _ _ _ _ h
  .rcases pB bX with⟨j,u,rfl,rfl⟩|⟨y,u,rfl,rfl⟩
   .rw[agV]at h;show SeqAt.EqAt.str_int x t j u _ _ _ _ h
   .rw[agT]at h;show wpAny_eqBool_str h
 «strs»:=λk x t v h=>by
  rcases pB h with⟨i,u,rfl,e⟩|⟨y,u,rfl,e⟩
  .show nomatch e
  .injection e with aA _;subst aA
   ext v<;>rfl
def qad(prog:di)(w:cL)(i:X6)(t:Tok):(gF prog w).is (.inl i) (.int i t)=Y0:=qab i t
def qae(prog:di)(w:cL)(x:Ya)(t:Tok):(gF prog w).is (.inr x) (.str x t)=Y0:=qac x t
inductive V where
 |bR|a5 (b:Yc)|int (i:X6)|str (x:Ya)|r9 (b:Ye UInt8)|ui (b:UInt64)|ref (a:X7)|ty (n:YD)
 deriving DecidableEq
def cU:V->ay->Prop
 |.bR,u=>u=YC
 |.a5 b,u=>u=Value.bool b
 |.int i,u=>∃t,u=Value.int i t
 |.str x,u=>∃t,u=Value.str x t
 |.r9 b,u=>∃t,u=Value.bytes b t
 |.ui b,u=>∃t,u=Value.float b t
 |.ref a,u=>u=Uu a
 |.ty n,u=>u=YX n
abbrev cA:O V->O ay->Prop:=Paired cU
def cA.length(r:cA xs us):xs.H=us.H:=KQ r
theorem cA.get:∀{xs:O V} {us:O ay} {i:Y} {x:V},cA xs us->xs[i]?=J x->∃u,us[i]?=J u/\cU x u
 |_,_,_,_,.nil,e=>by simp at e
 |_,_,0,_,.cons r _,e=>by simp at e;subst e;show{_,D,r}
 |_,_,i+1,x,.cons _ t,e=>by let(u,af,ao):=cA.get (i:=i) (x:=x) t (by simpa using e);show{u,by simpa using af,ao}
theorem cA.set(r:cU x u):∀{xs:O V} {us:O ay} (i:Y),cA xs us->cA (xs.set i x) (us.set i u)
 |_,_,_,.nil=>.nil
 |_,_,0,.cons _ t=>.cons r t
 |_,_,i+1,.cons q t=>.cons q<|cA.set r i t
theorem cA.append:∀{xs aQ:O V} {us ws:O ay},cA xs us->cA aQ ws->cA (xs++aQ) (us++ws)
 |_,_,_,_,.nil,s=>s
 |_,_,_,_,.cons r t,s=>.cons r<|cA.append t s
theorem cA.take:∀{xs:O V} {us:O ay} (n:Y),cA xs us->cA (xs.take n) (us.take n)
 |_,_,0,_=>.nil
 |_,_,_+1,.nil=>.nil
 |_,_,n+1,.cons r t=>.cons r<|cA.take n t
theorem cA.drop:∀{xs:O V} {us:O ay} (n:Y),cA xs us->cA (xs.drop n) (us.drop n)
 |_,_,0,r=>r
 |_,_,_+1,.nil=>.nil
 |_,_,n+1,.cons _ t=>cA.drop n t
def xM:X8 V->X8 ay->Prop
 |some v,J u=>cU v u
 |none,C=>True
 |_,_=>Ym
def e6{κ:Type}:O (κ×V)->O (κ×ay)->Prop:=Paired λ(p:κ×V) (q:κ×ay)=>p.1=q.1/\cU p.2 q.2
noncomputable def eH:Key->V
 |.inl i=>.int i
 |.inr x=>.str x
inductive h4 where
 |aj (xs:O V)
 |wO (xs:O V)
 |aE (xs:O V)
 |aS (au:O<|Key×V)
 |hG (ks:O<|O Z1×X7)
 |set (cZ:X6->Yc) (n:Y)
 |ia (lo hi:X6)
 |d3 (o:Yp) (u:h4)
 |ext (φ:Yg->Prop)
abbrev aI:=X7->X8 h4
noncomputable def cO(H:aI)(a:X7)(o:h4):aI:=λb=>if b=a then J o else H b
def eS:cO H a o a=J o:=by delta cO;rw[Y2 D]
def ea(h:b≠a):cO H a o b=H b:=by delta cO;rw[Y3 h]
def Sz{H:aI}{a b:X7}{o u:h4}(h:H a=J o)(h':H b=J u)(d:o≠u):a≠b:=by intro e;subst e;rw[h]at h';show d<|Yt h'
def qG{H:aI}{a b:X7}{o:h4}(h:H a=J o)(h':H b=C):a≠b:=by intro e;subst e;rw[h]at h';ext h'
def lK(h:Yg)(a:X7)(XZ:Ye ay):Prop:=∃o,h.get? a=J o/\o.cls=.type "tuple" /\ o.dict=C/\∃n,o.e=.seq XZ n
def lK.aE{h:Yg}{a:X7}{XZ:Ye ay}(x:lK h a XZ):nY h a XZ:=let ⟨o,aV,aN,_,r⟩:=x;{(o),aV,aN,r}
def lK.new(h:Yg)(XZ:Ye ay):lK (h.push { cls:=.type "tuple",data:=.seq XZ}) h.E.O XZ:={_,fa _ D,D,D,_,D}
theorem lK.lt(x:lK h a XZ):a<h.E.O:=x.aE.lt
noncomputable def Cf(prog:di)(w:cL)(ls:O Z1):X6:=reduceHash<|li<|ls.map<|BH<|gd prog w
inductive p8 (H:aI):O Z1->O V->Prop
 |nil:p8 H [] []
 |cons {l:O X6} {b:X7} {ls:O Z1} {aa:O V} (q:H b=J (.aE<|l.map V.int)) (r:p8 H ls aa):p8 H (l::ls)<|.ref b::aa
def p8.mono(cE:∀b xs,H b=J (.aE xs)->ak b=J (.aE xs))(r:p8 H ls aa):p8 ak ls aa:=by
 induction r with
 |nil=>show .nil
 |cons q _ aT=>show .cons (cE _ _ q) aT
def sa(H:aI)(ls:O Z1)(b:X7):Prop:=∃aa,H b=J (.aE aa)/\p8 H ls aa
section
variable (P:di)(w:cL)
def fN(H:aI)(h:Yg)(a:X7):h4->Prop
 |.aj xs=>xs.H<=c3/\∃(aX:O ay) (n:Y),cA xs aX/\h.get? a=J { cls:=.type "list",data:=.seq aX.D n}
 |.wO xs=>xs.H<=c3/\∃(aX:O ay) (n:Y),cA xs aX/\h.get? a=J { cls:=.type "list",data:=.seq aX.D n}
 |.aE xs=>xs.H<=c3/\∃aX:O ay,cA xs aX/\lK h a aX.D
 |.aS au=>au.H<=c3/\(a==md)=Y1/\∃aa,e6 au aa/\h.DictOf (gF P w) a aa
 |.hG ks=>ks.H<=c3/\(a==md)=Y1/\(∀k∈ks,sa H k.1 k.2)/\(ks.map (·.1)).Nodup/\∃o es ep,h.get? a=J o/\o.ExactDict/\o.e=.dict es ep/\es.B=ks.map λk=>{Cf P w k.1,.ref k.2,.bool Y0}
 |.set cZ n=>h.SetOf (gd P w) a cZ n
 |.ia lo hi=>∃t u v,h.get? a=J { cls:=.type "range",data:=.fields #[.int lo t,.int hi u,.int 1 v]}
 |.d3 o u=>h.get? a=J o/\fN H h a u
 |.ext φ=>φ h/\(∃o,h.get? a=J o)/\∀af ao:Yg,φ af->(∀o,af.get? a=J o->ao.get? a=J o)->φ ao
def eY(H:aI)(h:Yg):Prop:=∀a o,H a=J o->fN P w H h a o
end
section
variable {P:di}{w:cL}{H ak:aI}{h h':Yg}{a:X7}{o:h4}
theorem fN.lt(x:fN P w H h a o):a<h.E.O:=by
 induction o using a9.h4.casesOn with
 |aj xs=>let(_,_,_,_,e):=x;show d6 e
 |wO xs=>let(_,_,_,_,e):=x;show d6 e
 |aE xs=>let(_,_,_,p):=x;show p.lt
 |aS au=>let(_,_,_,_,o,_,_,e,_):=x;show d6 e
 |hG ks=>let(_,_,_,_,o,_,_,e,_):=x;show d6 e
 |set cZ n=>let(o,_,_,_,e,_):=x;show d6 e
 |ia lo hi=>let(_,_,_,e):=x;show d6 e
 |d3 b2 u=>let(e,_):=x;show d6 e
 |ext φ=>let(_,(_,e),_):=x;show d6 e
def fN.j8(x:fN P w H h a o)(k:∀u,h.get? a=J u->h'.get? a=J u)(cE:∀b xs,H b=J (.aE xs)->ak b=J (.aE xs)):fN P w ak h' a o:=by
 induction o with
 |aj xs=>let(z,aX,n,r,e):=x;show{z,aX,n,r,k _ e}
 |wO xs=>let(z,aX,n,r,e):=x;show{z,aX,n,r,k _ e}
 |aE xs=>let(z,aX,r,b2,e,c):=x;show{z,aX,r,b2,k _ e,c}
 |aS au=>let(z,y,aa,r,b2,es,ep,e,c):=x;show{z,y,aa,r,b2,es,ep,k _ e,c}
 |hG ks =>
  let(z,y,r,bN,b2,es,ep,e,c):=x;show{z,y,λq a8=>let ⟨aa,af,ao⟩:=r q a8;{aa,cE _ _ af,ao.mono cE},bN,b2,es,ep,k _ e,c}
 |set cZ n=>let(b2,es,ep,t,e,c):=x;show{b2,es,ep,t,k _ e,c}
 |ia lo hi=>let(t,u,v,e):=x;show{t,u,v,k _ e}
 |d3 b2 u aT=>let(e,q):=x;show{k _ e,aT q}
 |ext φ=>let(p,(o,e),st):=x;show{st _ _ p λo q=>k _ q,{o,k _ e},st}
theorem eY.lt(x:eY P w H h)(e:H a=J o):a<h.E.O:=(x a o e).lt
def eY.fresh(x:eY P w H h)(e:h.E.O<=a):H a=C:=by
 cases q:H a with
 |none=>rfl
 |some u=>show Yi (d0 (x.lt q) e)<|nR _
def eY.kept(x:eY P w H h)(k:∀b u,h.get? b=J u->h'.get? b=J u):eY P w H h':=λa o e =>
 (x a o e).j8 (k a) λ_ _ q=>q
def eY.laid(x:eY P w H h)(k:∀b u,h.get? b=J u->h'.get? b=J u)(aF:h.E.O<=a)(new:fN P w (cO H a o) h' a o):eY P w (cO H a o) h':=λb u e=>by
 let bq:=x.fresh aF;by_cases aq:b=a
 .subst aq;rw[eS]at e;ext e;show new
 .rw[ea aq]at e;show(x b u e).j8 (k b) λc xs q=>by rw[ea<|qG q bq];show q
end
def hQ(H:aI)(a:X7)(u:h4):Prop:=H a=J u\/∃o,H a=J (.d3 o u)
def hQ.ok(r:hQ H a u)(x:eY P w H h):fN P w H h a u:=by
 rcases r with r|⟨o,r⟩
 .show x a u r
 .let(_,q):=x a _ r;show q
def za:X8 h4->Prop
 |some (.aj _)=>True
 |some (.aS _)=>True
 |some (.hG _)=>True
 |some (.set _ _)=>True
 |some (.ext _)=>True
 |_=>Ym
section
variable {P:di}{w:cL}{H:aI}{h h':Yg}{x e:X7}{cW:h4}
def eY.write(ok:eY P w H h)(jU:za<|H x)(k:∀b u,b≠x->h.get? b=J u->h'.get? b=J u)(new:fN P w (cO H x cW) h' x cW):eY P w (cO H x cW) h':=λb u q=>by
 by_cases aq:b=x
 .subst aq;rw[eS]at q;ext q;show new
 .rw[ea aq]at q;show(ok b u q).j8 (λv r=>k b v aq r) λc xs r=>by rw[ea λz=>by subst z;rw[r]at jU;show jU];show r
end
structure fq (cq ex:O X7) (H ak:aI) (h h':Yg):Prop where
 keep:∀b o,h.get? b=J o->H b=C->b∉cq->b∉ex->h'.get? b=J o
 slot:∀b o,h.get? b=J o->H b=C->b∈cq->b∉ex->∃c8,h'.get? b=J { o with slots:=c8}
 free:∀b o,h.get? b=J o->H b=C->b∉ex->ak b=C
 there:∀b o,h.get? b=J o->b∉ex->∃cW,h'.get? b=J cW
 nF:∀b xs,H b=J (.aE xs)->ak b=J (.aE xs)
 l2:∀b o u,H b=J (.d3 o u)->ak b=J (.d3 o u)
section
variable {cq ani ex anj:O X7}{H H1 br:aI}{h af ao h':Yg}{a x e:X7}{o:h4}
def fq.any(u:fq cq ex H H1 h af)(q:h.get? b=J b2)(n:H b=C)(ax:b∉ex):∃c8,af.get? b=J { b2 with slots:=c8}:=by
 by_cases aq:b∈cq
 .show u.slot b b2 q n aq ax
 .show{b2.slots,u.keep b b2 q n aq ax}
def fq.kept(k:∀b u,h.get? b=J u->h'.get? b=J u):fq cq ex H H h h' :=
 {λb b2 q _ _ _=>k b b2 q,λb b2 q _ _ _=>{b2.slots,k b b2 q},λ_ _ _ n _=>n,λb b2 q _=>{b2,k b b2 q},λ_ _ q=>q,λ_ _ _ q=>q}
def fq.refl:fq cq ex H H h h:=fq.kept λ_ _ q=>q
def fq.laid(k:∀b u,h.get? b=J u->h'.get? b=J u)(aF:h.E.O<=a)(bq:H a=C):fq cq ex H (cO H a o) h h' where
 keep:=λb u q _ _ _=>k b u q
 slot:=λb u q _ _ _=>{u.slots,k b u q}
 free:=λb u q n _=>by rw[ea<|eE<|d0 (d6 q) aF];show n
 there:=λb u q _=>{u,k b u q}
 nF:=λb xs q=>by rw[ea<|qG q bq];show q
 l2:=λb u xs q=>by rw[ea<|qG q bq];show q
def fq.write(jU:za<|H x)(k:∀b u,b≠x->h.get? b=J u->h'.get? b=J u)(GQ:∃u,h'.get? x=J u):fq cq ex H (cO H x o) h h':=by
 let hm:∀b u,H b=u->¬za u->b≠x:=λb u q nm z=>by subst z;rw[q]at jU;show nm jU
 show{λb u q n _ _=>k b u (hm b _ n id) q,λb u q n _ _=>{u.slots,k b u (hm b _ n id) q},λb u q n _=>by rw[ea<|hm b _ n id];show n,λb u q _=>?_,λb xs q=>by rw[ea<|hm b _ q id];show q,λb u xs q=>by rw[ea<|hm b _ q id];show q};by_cases aq:b=x
 .subst aq;show GQ
 .show{u,k b u aq q}
end
noncomputable def Cg(h:Yg)(H:aI):O X7:=(Yr h.E.O).filter λa=>(H a).isSome
def rl(h:Yg)(H:aI):Yg:=W.hideAll h<|Cg h H
def qaf(h:Yg)(H:aI):(rl h H).E.O=h.E.O:=W.hideAll_size _ _
def akO(e:h.get? b=J o)(n:H b=C):(rl h H).get? b=J o :=
 W.hideAll_get _ e λhm=>by let q:(H b).isSome=Y0:=(gc.mp hm).2;rw[n]at q;simp at q
def aiO(e:(rl h H).get? b=J o):h.get? b=J o/\H b=C:=by
 let bH:h.get? b=J o:=W.of_hideAll (Cg h H) e;show{bH,?_};cases q:H b with
 |none=>rfl
 |some x =>
  let hm:b∈Cg h H:=gc.mpr {qd.mpr<|d6 bH,by simp[q]};let z:(rl h H).get? b=C:=W.hideAll_none (Cg h H) hm;rw[z]at e;ext e
noncomputable def aiP(g h:Yg)(tw:X7):O Z2:=(Yr h.E.O).filterMap λa=>if a=tw\/(g.get? a).isSome=Y0 then C else(h.get? a).map λo=>(a,o)
def rest(g h:Yg)(tw d:X7):O Z2:=(aiP g h tw).filter λp=>decide (p.1≠d)
structure Mod (K:Yk) (bj:Ya->X8 ay) (base:Yg):Prop where
 ky:K.In base
 glob:base.Ns kg bj
 blt:∃kV,base.Ns builtinsNs kV/\∀x:Ya,x ≠ "__name__" -> kV x=nV x
 nolimit:base.NoLimit
structure bL where
 prog:di
 w:cL
 K:Yk
 bj:Ya->X8 ay
 base:Yg
 A:dz
 N:O Ya
 cH:aL
 du:aI
 env:Env
 cP:O Env
 stack:O Env
 ex:O X7
 fn:Ya->Yc
 calm:Yc
 h5:O Z2
 cu:ay->aL->Prop
noncomputable def hb(l:O Env):O X7:=l.filterMap (·.frame)
abbrev bL.cq(X:bL):O X7:=hb X.cP
def kz(sc:ju)(x:Ya):Prop:=sc.names.lookup x=J .local\/sc.names.lookup x=J .cell\/sc.names.lookup x=J .free
def Loc(sc:ju)(x:Ya):Prop:=sc.names.lookup x=J .local\/sc.names.lookup x=J .cell
def Look(env:Env)(h:Yg)(m:Ya->X8 ay)(x:Ya)(u:ay):Prop :=
 (env.kindOf x=J .local/\m x=J u)\/((env.kindOf x=J .cell\/env.kindOf x=J .free)/\∃c,env.cells.lookup x=J c/\h.IsCell c (J u))
structure bL.Ok (X:bL):Prop where
 mod:Mod X.K X.bj X.d
 kind:X.I.Y.kind=.function
 glob:X.I.globals=kg
 blt:X.I.builtins=builtinsNs
 above:X.cH.L<=X.env.locals
 inj:∀x y c,X.env.cells.lookup x=J c->X.env.cells.lookup y=J c->x=y
 has:∀x,(X.env.kindOf x=J .cell\/X.env.kindOf x=J .free)->∃c,X.env.cells.lookup x=J c
 sb:∀x c,X.fn x=Y0->X.env.cells.lookup x=J c->X.cH.L<=c
 hd:X.calm=Y0->X.A.handled=C
 frames:X.A.frames=J X.stack
 uj:X.stack=X.cP\/(X.stack=X.I::X.cP/\X.I.frame=J X.I.locals)
 uk:∀b∈X.ex,b≠X.I.locals/\∀x c,X.env.cells.lookup x=J c->c≠b
 bs:∀b o,X.base.get? b=J o->X.cH.heap.get? b=J o/\X.du b=C
 nh:X.d.E.O<=X.cH.L
 sU:∀b o,X.base.get? b=J o->b∉X.ex
 sV:∀b∈X.ex,b∉X.cq
 kM:X.cH.heap.FunFrames X.d X.cP
 ni:∀b∈X.cq,X.du b=C
structure aO (X:bL) (ae:O Z2) (U:O<|X8 V) (H:aI) (s:aL):Prop where
 ok:X.Ok
 os:s.os=X.cH.os
 dE:nX s.gens
 base:fq X.cq X.ex X.du H X.cH.Q s.Q
 loc:∃m,s.heap.Ns X.I.locals m/\∀(i:Y) (x:Ya) (v:V),X.N[i]?=J x->U[i]?=J (J v)->kz X.I.Y x->∃u,cU v u/\Look X.I s.Q m x u
 cell:∀x c,X.env.cells.lookup x=J c->∃v,s.heap.IsCell c v
 free:H X.I.locals=C
 kO:∀x c,X.env.cells.lookup x=J c->H c=C
 pin:∀p∈X.h5++ae,s.heap.get? p.1=J p.2/\H p.1=C/\p.1≠X.I.locals/\p.1∉X.cq/\∀v,p.2.e≠.cell v
 bE:eY X.R X.w H s.Q
 len:U.H=X.N.H
section
variable {X:bL}{ae:O Z2}{U:O<|X8 V}{H ak:aI}{s:aL}{h':Yg}
def bL.Ok.aeQ(ok:X.Ok)(e:X.base.get? b=J o):b∉X.cq:=λaq=>by let:=(ok.kM.mem aq).1;rw[e]at this;ext this
theorem aO.bs(I:aO X ae U H s):∀b o,X.base.get? b=J o->s.heap.get? b=J o/\H b=C:=λb o e =>
 {I.base.keep b o (I.ok.bs b o e).1 (I.ok.bs b o e).2 (I.ok.aeQ e) (I.ok.sU b o e),I.base.free b o (I.ok.bs b o e).1 (I.ok.bs b o e).2 (I.ok.sU b o e)}
def aO.e1(I:aO X ae U H s):∀b o,X.base.get? b=J o->s.heap.get? b=J o:=λb o e=>(I.bs b o e).1
theorem aO.mod(I:aO X ae U H s):Mod X.K X.bj X.d:=I.ok.mod
def aO.ib(I:aO X ae U H s):X.K.In s.Q:=I.ok.mod.ky.keeps I.e1
theorem aO.lt(I:aO X ae U H s):X.I.locals<s.L:=let ⟨_,bq,_⟩:=I.loc;bq.lt
def aO.b9(I:aO X ae U H s):X.cH.L<=s.L:=bF I.ok.above<|ed I.lt
def aO.aeR(I:aO X ae U H s){a:X7}(h:s.L<=a):a∉X.cq:=λaq=>by let(_,o,aV,_):=I.ok.kM.mem aq;show Yi (d0 (d6 aV)<|bF I.b9 h)<|nR _
def aO.um(I:aO X ae U H s):∀x c,X.env.cells.lookup x=J c->c≠X.I.locals:=λx c e z=>by let(v,o,aV,hd):=I.cell x c e;let(m,(cW,es,ep,jc,mr,_),_):=I.loc;rw[z,jc]at aV;ext aV;rw[mr]at hd;ext hd
theorem aO.kM(I:aO X ae U H s):s.heap.FunFrames X.d X.cP:=by
 let all:∀(l:O Env),(∀b∈hb l,b∈X.cq)->X.cH.heap.FunFrames X.d l->s.heap.FunFrames X.d l:=by
  intro l
  induction l with
  |nil=>intro _ _;trivial
  |cons env r aT =>
   intro aM aC;let(aY,(tw,o,hf,bq,aV,hd),hr):=aC;let eV:tw∈X.cq:=aM tw (by delta hb;rw[tl,hf];show dF);let(c8,e):=I.base.slot tw o aV (I.ok.ni tw eV) eV λz=>I.ok.sV tw z eV;show{aY,{tw,_,hf,bq,e,hd},aT (λb aq=>aM b<|by delta hb;rw[tl,hf];show dZ _ aq) hr}
 show all X.cP (λ_ aq=>aq) I.ok.kM
theorem aO.stack(I:aO X ae U H s):s.heap.FunFrames X.d X.stack:=by
 rcases I.ok.uj with e|⟨e,hf⟩
 .rw[e];show I.kM
 .rw[e];let(m,bq,_):=I.loc;show .cons (by rw[I.ok.kind];decide) hf bq ?_ I.kM;show Heap.get?_none_of_le<|bF I.ok.nh I.ok.above
def aO.KN(I:aO X ae U H s):∀b∈hb X.stack,b∈X.I.locals::X.cq:=λb aq=>by
 rcases I.ok.uj with e|⟨e,hf⟩
 .rw[e]at aq;show dZ _ aq
 .rw[e]at aq;delta hb at aq;rw[tl,hf]at aq;show aq
def aO.E3(I:aO X ae U H s):∀b∈hb X.stack,H b=C:=λb aq=>by
 rcases ei.mp (I.KN b aq) with e|aq
 .rw[e];show I.free
 .let(_,o,aV,_):=I.ok.kM.mem aq;show I.base.free b o aV (I.ok.ni b aq) λz=>I.ok.sV b z aq
def aO.step{g':Ye GenState}{t':Y}{d':Drawn}{ch:O X7}(I:aO X ae U H s)
  (pC:∀b∈ch,(b∈X.ex\/X.cH.L<=b)/\b≠X.I.locals/\(∀x c,X.env.cells.lookup x=J c->c≠b)/\∀p∈X.h5++ae,p.1≠b)
  (keep:∀b o,b≠X.I.locals->b∉X.cq->b∉ch->s.heap.get? b=J o->H b=C->h'.get? b=J o)
  (slot:∀b o,b≠X.I.locals->b∈X.cq->b∉ch->s.heap.get? b=J o->H b=C->∃c8,h'.get? b=J { o with slots:=c8}) (free:∀b o,b∉ch->s.heap.get? b=J o->H b=C->ak b=C)
  (there:∀b o,b∉ch->s.heap.get? b=J o->∃cW,h'.get? b=J cW)
  (nF:∀b xs,H b=J (.aE xs)->ak b=J (.aE xs)) (l2:∀b o u,H b=J (.d3 o u)->ak b=J (.d3 o u))
  (ns:∀m,s.heap.Ns X.I.locals m->h'.Ns X.I.locals m) (bE:eY X.R X.w ak h') (bQ:nX g') :
  aO X ae U ak { s with heap:=h',gens:=g',drawn:=d',toks:=t'}:=by
 let wQ:∀b o,X.cH.heap.get? b=J o->b≠X.I.locals:=λb o e=>eE<|d0 (d6 e) I.ok.above;let Ci:∀b o,X.cH.heap.get? b=J o->b∉X.ex->b∉ch:=λb o e ax aq=>by
  rcases(pC b aq).1 with z|z
  .show ax z
  .show Yi (d0 (d6 e) z)<|nR _
 let cellK:∀x c,X.env.cells.lookup x=J c->∀v,s.heap.IsCell c v->h'.IsCell c v:=λx c e v ⟨o,aV,hd⟩=>by
  let zb:c∉ch:=λz=>(pC c z).2.2.1 x c e D;by_cases aN:c∈X.cq
  .let(c8,q):=slot c o (I.um x c e) aN zb aV<|I.kO x c e;show{_,q,hd}
  .show{o,keep c o (I.um x c e) aN zb aV<|I.kO x c e,hd}
 show{I.ok,I.os,bQ,⟨λb o e n aq ax=>?_,λb o e n aq ax=>?_,λb o e n ax=>?_,λb o e ax=>?_,λb xs e=>nF b xs<|I.base.nF b xs e,λb o xs e=>l2 b o xs<|I.base.l2 b o xs e⟩,?_,λx c e=>?_,?_,λx c e=>?_,λp aF=>?_,bE,I.len}
 .show keep b o (wQ b o e) aq (Ci b o e ax) (I.base.keep b o e n aq ax)<|I.base.free b o e n ax
 .let(c8,aA):=I.base.slot b o e n aq ax;let(Cj,av):=slot b _ (wQ b o e) aq (Ci b o e ax) aA<|I.base.free b o e n ax;show{(Cj),av}
 .let(cW,aA):=I.base.there b o e ax;show free b cW (Ci b o e ax) aA<|I.base.free b o e n ax
 .let(cW,aA):=I.base.there b o e ax;show there b cW (Ci b o e ax) aA
 .let(m,bq,aC):=I.loc;show{m,ns m bq,λi x v aA av a7=>?_};let(u,r,l):=aC i x v aA av a7;show{u,r,?_};rcases l with l|⟨k,c,e,z⟩
  .show .inl l
  .show .inr {k,c,e,cellK x c e _ z}
 .let(v,z):=I.cell x c e;show{v,cellK x c e v z}
 .let(m,(o,_,_,aV,_),_):=I.loc;show free _ o (λz=>(pC _ z).2.1 D) aV I.free
 .let(v,o,aV,hd):=I.cell x c e;show free c o (λz=>(pC c z).2.2.1 x c e D) aV<|I.kO x c e
 .let(e,n,ne,pd,d):=I.pin p aF;let zb:p.1∉ch:=λz=>(pC p.1 z).2.2.2 p aF D;show{keep p.1 p.2 ne pd zb e n,free p.1 p.2 zb e n,ne,pd,d}
def aO.un{t':Y}(I:aO X ae U H s)(u:fq X.cq [] H ak s.Q h')(bE:eY X.R X.w ak h'):aO X ae U ak { s with heap:=h',toks:=t'}:=by
 let(m,(o,es,ep,aV,r),_):=id I.loc;let(c8,eV):=u.any aV I.free Z6
 show I.step (g':=s.gens) (d':=s.drawn) (ch:=[]) (λ_ z=>nomatch z) (λb o _ aq _ e n=>u.keep b o e n aq Z6) (λb o _ aq _ e n=>u.slot b o e n aq Z6) (λb o _ e n=>u.free b o e n Z6) (λb o _ e=>u.there b o e Z6) u.nF u.l2 (λfG hm=>by
  let(cW,hW,sd,jc,bY):=hm;rw[aV]at jc;ext jc
  show{_,hW,sd,eV,bY}) bE I.dE
def aO.call{t':Y}(I:aO X ae U H s)(u:fq (hb X.stack) ch H ak s.Q h')(bE:eY X.R X.w ak h')(bQ:nX g')
  (pC:∀b∈ch,(b∈X.ex\/X.cH.L<=b)/\b≠X.I.locals/\(∀x c,X.env.cells.lookup x=J c->c≠b)/\∀p∈X.h5++ae,p.1≠b) :
  aO X ae U ak { s with heap:=h',gens:=g',drawn:=d',toks:=t'}:=by
 let(m,(o,es,ep,aV,r),_):=id I.loc;let(c8,eV):=u.any aV I.free λz=>(pC _ z).2.1 D
 show I.step (ch:=ch) pC (λb o eV aq aN e n=>u.keep b o e n (λz=>(ei.mp<|I.KN b z).elim eV aq) aN) (λb o _ _ aN e n=>u.any e n aN) (λb o aN e n=>u.free b o e n aN) (λb o aN e=>u.there b o e aN) u.nF u.l2 (λfG hm=>by
  let(cW,hW,sd,jc,bY):=hm;rw[aV]at jc;ext jc
  show{_,hW,sd,eV,bY}) bE bQ
def aO.turned{t':Y}(I:aO X ae U H s)(k:∀b o,b≠it->s.heap.get? b=J o->h'.get? b=J o)(bq:H it=C)(eV:it≠X.I.locals)
  (af:it∈X.ex\/X.cH.L<=it) (ao:∀x c,X.env.cells.lookup x=J c->c≠it) (a6:∀p∈X.h5++ae,p.1≠it):aO X ae U H { s with heap:=h',toks:=t'}:=by
 let GR:∀b u,H b=J u->b≠it:=λb u e z=>by rw[z,bq]at e;ext e
 show I.step (g':=s.gens) (d':=s.drawn) (ch:=[it]) (λb aq=>?_) (λb o _ _ aN e _=>k b o (λz=>aN<|by simp[z]) e) (λb o _ _ aN e _=>⟨o.slots,k b o (λz=>aN<|by simp[z]) e⟩) (λ_ _ _ _ n=>n)
  (λb o aN e=>⟨o,k b o (λz=>aN<|by simp[z]) e⟩) (λ_ _ e=>e) (λ_ _ _ e=>e) (λm hm=>?_) (λb u e=>?_) I.dE
 .let e:b=it:=by simpa using aq
  subst e;show{(af),eV,ao,a6}
 .let(o,es,ep,aV,r):=hm;show{o,es,ep,k _ o (Yw eV) aV,r}
 .show(I.bE b u e).j8 (λv q=>k b v (GR b u e) q) λ_ _ q=>q
def aO.tok(I:aO X ae U H s)(t:Y):aO X ae U H { s with toks:=t}:=I.un (h':=s.Q) (t':=t) fq.refl I.bE
theorem aO.kept{t':Y}(I:aO X ae U H s)(k:∀b u,s.heap.get? b=J u->h'.get? b=J u):aO X ae U H { s with heap:=h',toks:=t'}:=I.un (fq.kept k) (I.bE.kept k)
theorem aO.laid{a:X7}{o:h4}{t':Y}(I:aO X ae U H s)(k:∀b u,s.heap.get? b=J u->h'.get? b=J u)(aF:s.L<=a)(new:fN X.R X.w (cO H a o) h' a o) :
  aO X ae U (cO H a o) { s with heap:=h',toks:=t'}:=I.un (fq.laid k aF (I.bE.fresh aF)) (I.bE.laid k aF new)
theorem aO.write{t':Y}(I:aO X ae U H s)(jU:za<|H x)(k:∀b u,b≠x->s.heap.get? b=J u->h'.get? b=J u)(GQ:∃u,h'.get? x=J u)
  (new:fN X.R X.w (cO H x o) h' x o):aO X ae U (cO H x o) { s with heap:=h',toks:=t'}:=I.un (fq.write jU k GQ) (I.bE.write jU k new)
def aO.Ud(I:aO X ae U H s)(h:∀p∈EG,s.heap.get? p.1=J p.2/\H p.1=C/\p.1≠X.I.locals/\p.1∉X.cq/\∀v,p.2.e≠.cell v):aO X EG U H s :=
 {I.ok,I.os,I.dE,I.d,I.loc,I.cell,I.free,I.kO,λp aF=>(iY.mp aF).elim (λz=>I.pin p<|ry _ z) (h p),I.bE,I.len}
def GS{N:O Ya}(dA:N.Nodup){i j:Y}(a:N[i]?=J x)(b:N[j]?=J x):i=j:=by let(af,aA):=bv.mp a;let(ao,av):=bv.mp b;show(qbh dA).mp (aA.trans av.symm)
def Mv{i:Y}(I:aO X ae U H s)(dA:X.N.Nodup)(hi:X.N[i]?=J x)(ax:Loc X.I.Y x)(r:cU v u)
  (h:∀s',aO X ae (U.set i<|some v) H s'->(∃a,Vh a s.Q s'.Q/\(a=X.I.locals\/X.env.cells.lookup x=J a))->Q () s') (hf:X9 (X.fn x=Y0\/X.env.scope.names.lookup x=J .local) qk):ba M A (storeName X.I x u) Q E s:=by
 let(m,bq,aC):=id I.loc;let aeS:(X.I.Y.kind==.class||(X.I.Y.kind==.module&&X.I.locals != X.I.globals))=Y1:=by rw[I.ok.kind];rfl
 let Mw:i<U.H:=by rw[I.len];show(bv.mp hi).1
 let um:=I.um;let tracked:∀{a:X7} {h':Yg},(∃o,s.heap.get? a=J o/\H a=C)->Vh a s.Q h'->eY X.R X.w H h':=λ{a h'} bx aM b b2 e=>by let(_,_,EH):=bx;show(I.bE b b2 e).j8 (λeM q=>(aM.2 b<|by rintro rfl;rw[EH]at e;cases e).trans q) λ_ _ q=>q
 rcases ax with aY|aY
 .show wpAny_storeName_local aY bq (λh' X4 aM=>?_) aeS;let(Ul,_,_,zc,_):=id bq;show h _ {I.ok,I.os,I.dE,{λb o e n aq ax=>?_,λb o e n aq ax=>?_,I.d.free,λb o e ax=>?_,I.d.nF,I.d.l2},{_,X4,λj y h6 aA av a7=>?_},λy c e=>?_,I.free,I.kO,λp aF=>?_,tracked {(Ul),zc,I.free} aM,by simpa using I.len} {_,aM,.inl D}
  .show(aM.2 b<|eE<|d0 (d6 e) I.ok.above).trans (I.base.keep b o e n aq ax)
  .let(c8,aA):=I.base.slot b o e n aq ax;show{c8,(aM.2 b<|eE<|d0 (d6 e) I.ok.above).trans aA}
  .let(cW,aA):=I.base.there b o e ax;show{cW,(aM.2 b<|eE<|d0 (d6 e) I.ok.above).trans aA}
  .by_cases bO:j=i
   .subst bO;rw[hi]at aA;ext aA;rw[rv Mw]at av
    ext av
    show{u,r,.inl {aY,by simp}}
   .rw[tj<|Yw bO]at av;let(e7,bY,q):=aC j y h6 aA av a7;show{e7,bY,?_};rcases q with⟨k,e⟩|⟨k,c,e,z⟩
    .show .inl {k,?_};let:y≠x:=λe=>bO<|GS dA aA<|e▸hi;simp[this,e]
    .show .inr {k,c,e,z.sameBut aM<|um y c e}
  .let(eM,z):=I.cell y c e;show{eM,z.sameBut aM<|um y c e}
  .let(e,n,ne,pd,d):=I.pin p aF;show{(aM.2 p.1 ne).trans e,n,ne,pd,d}
 .let GU:X.fn x=Y0:=by
   rcases hf with z|z
   .show z
   .rw[z]at aY;ext aY
  let(c,aN):=I.ok.has x<|.inl aY;let(eM,z):=I.cell x c aN;show wpAny_storeName_cell I.ok.kind aY aN z λh' qH aM=>?_;let(jw,Mx,aeT):=id z;show h { s with heap:=h'} ⟨I.ok,I.os,I.dE,⟨λb o e n aq ax=>?_,λb o e n aq ax=>?_,I.d.free,λb o e ax=>?_,I.d.nF,I.d.l2⟩,⟨m,bq.sameBut aM<|Yw<|um x c aN,λj y h6 aA av a7=>?_⟩,λy c0 e=>?_,I.free,I.kO,λp aF=>?_,tracked ⟨jw,Mx,I.kO x c aN⟩ aM,by simpa using I.len⟩ ⟨c,aM,.inr aN⟩
  .show(aM.2 b<|eE<|d0 (d6 e)<|I.ok.sb x c GU aN).trans (I.base.keep b o e n aq ax)
  .let(c8,aA):=I.base.slot b o e n aq ax;show{c8,(aM.2 b<|eE<|d0 (d6 e)<|I.ok.sb x c GU aN).trans aA}
  .let(cW,aA):=I.base.there b o e ax;show{cW,(aM.2 b<|eE<|d0 (d6 e)<|I.ok.sb x c GU aN).trans aA}
  .by_cases bO:j=i
   .subst bO;rw[hi]at aA;ext aA;rw[rv Mw]at av
    ext av
    show{u,r,.inr {.inl aY,c,aN,qH}}
   .rw[tj<|Yw bO]at av;let(e7,bY,q):=aC j y h6 aA av a7;show{e7,bY,?_};rcases q with q|⟨k,c0,e,jV⟩
    .show .inl q
    .show .inr {k,c0,e,jV.sameBut aM ?_};rintro rfl;show bO<|GS dA aA<|I.ok.inj _ _ _ e aN▸hi
  .by_cases My:c0=c
   .subst My;show{_,qH}
   .let(gC,da):=I.cell y c0 e;show{gC,da.sameBut aM My}
  .let(e,n,ne,pd,d):=I.pin p aF;show{(aM.2 p.1 ?_).trans e,n,ne,pd,d};intro q;rw[q,Mx]at e;let ee:jw=p.2:=Yt e;show d eM (by rw[<-ee];show aeT)
def Mz{i:Y}(I:aO X ae U H s)(dA:X.N.Nodup)(hi:X.N[i]?=J x)(ax:Loc X.I.Y x)(r:cU v u)
  (h:∀s',aO X ae (U.set i<|some v) H s'->Q () s') (hf:X9 (X.fn x=Y0\/X.env.scope.names.lookup x=J .local) qk):ba M A (storeName X.I x u) Q E s :=
 Mv I dA hi ax r (λs' d1 _=>h s' d1) hf
def aO.EI(I:aO X ae U H s)(aV:s'.os=s.os)(u:fq (hb X.stack) ch H ak s.Q s'.Q)(bE:eY X.R X.w ak s'.Q)(bQ:nX s'.gens)
  (pC:∀b∈ch,(b∈X.ex\/X.cH.L<=b)/\b≠X.I.locals/\(∀x c,X.env.cells.lookup x=J c->c≠b)/\∀p∈X.h5++ae,p.1≠b):aO X ae U ak s':=by
 let(h',g',d',t',cW):=s';let e:cW=s.os:=aV;subst e;show I.call (g':=g') (t':=t') (d':=d') u bE bQ pC
end
abbrev h7:=ay->X8 X7->aI->Prop
abbrev St:=O<|X8 V
abbrev eW:=V->aI->Prop
abbrev TE:=St->aI->eW->Prop
abbrev TT:=St->aI->(Yc->aI->Prop)->Prop
abbrev ki:=St->aI->(O V->aI->Prop)->Prop
structure Ends where
 bS:St->aI->Prop
 aZ:eW
 e1:St->aI->Prop:=λ_ _=>Ym
 eI:St->aI->Prop:=λ_ _=>Ym
abbrev jW:=Ends->St->aI->Prop
def fH(X:bL)(ae:O Z2)(U:St)(Q:eW)(u:ay)(s':aL):Prop:=∃v ak,aO X ae U ak s'/\cU v u/\Q v ak
def BO(X:bL)(ae:O Z2)(U:St)(Q:Yc->aI->Prop)(b:Yc)(s':aL):Prop:=∃ak,aO X ae U ak s'/\Q b ak
def qag(X:bL)(ae:O Z2)(U:St)(Q:O V->aI->Prop)(us:O ay)(s':aL):Prop:=∃aa ak,aO X ae U ak s'/\cA aa us/\Q aa ak
def nZ(X:bL)(ae:O Z2)(Lk:Ends)(f:Flow)(s':aL):Prop :=
 match f with
 |.next=>∃U' ak,aO X ae U' ak s'/\Lk.bS U' ak
 |.brk=>∃U' ak,aO X ae U' ak s'/\Lk.e1 U' ak
 |.cont=>∃U' ak,aO X ae U' ak s'/\Lk.eI U' ak
 |.ret u=>∃v U' ak,aO X ae U' ak s'/\cU v u/\Lk.aZ v ak
def dH(X:bL)(e:Yd)(t:TE):Prop :=
 ∀(ae:O Z2) (s:aL) (U:St) (H:aI) (Q:eW),aO X ae U H s->t U H Q->ba Z3 X.A (Ur e X.I) (fH X ae U Q) X.cu s
def m2(X:bL)(e:Yd)(t:TT):Prop :=
 ∀(ae:O Z2) (s:aL) (U:St) (H:aI) (Q:Yc->aI->Prop),aO X ae U H s->t U H Q->ba Z3 X.A (isTrue e X.I<|Ur e X.I) (BO X ae U Q) X.cu s
def yw(X:bL)(e:Yd)(t:TT):Prop :=
 ∀(whole:Sem ay) (ae:O Z2) (s:aL) (U:St) (H:aI) (Q:Yc->aI->Prop),aO X ae U H s->t U H Q->ba Z3 X.A (isTrue e X.I whole) (BO X ae U Q) X.cu s
def yw.pt(h:yw X e t):m2 X e t:=h _
def m3(X:bL)(es:O Yd)(t:ki):Prop :=
 ∀(pos:Yh) (ae:O Z2) (s:aL) (U:St) (H:aI) (Q:O V->aI->Prop),aO X ae U H s->t U H Q->ba Z3 X.A (rN<|fE pos<|cc es X.I) (qag X ae U Q) X.cu s
def jX(X:bL)(st:Yf)(t:jW):Prop :=
 ∀(ae:O Z2) (s:aL) (U:St) (H:aI) (Lk:Ends),aO X ae U H s->t Lk U H->ba Z3 X.A (exec st X.I) (nZ X ae Lk) X.cu s
def jZ(X:bL)(st:O Yf)(t:jW):Prop :=
 ∀(ae:O Z2) (s:aL) (U:St) (H:aI) (Lk:Ends),aO X ae U H s->t Lk U H->ba Z3 X.A (execs st X.I) (nZ X ae Lk) X.cu s
def bZ{α:Type}{t:Sem α}{Q eJ:α->aL->Prop}{M:Model}(h:ba M A t Q E s)(g7:∀a s,Q a s->eJ a s):ba M A t eJ E s:=g5 h g7 λ_ _ x=>x
section
variable {X:bL}
def aeU(i:Y):TE:=λU H Q=>∃v,U[i]?=J (J v)/\Q v H
def v8(v:V):TE:=λ_ H Q=>Q v H
def lL{i:Y}(dA:X.N[i]?=J x)(bX:kz X.I.Y x)(hd:X9 ((x==("__debug__" : Ya))=Y1) d7)(f3:X9 ((x==("__classdict__" : Ya))=Y1) d7):dH X (.Name x pos)<|aeU i:=by
 intro ae s U H Q I h;let(v,e,h):=h;let(m,bq,aC):=I.loc;let(u,r,l):=aC i x v dA e bX;let fin:fH X ae U Q u s:={(v),H,I,r,h}
 rcases l with⟨aY,hm⟩|⟨aY,c,aN,SA⟩
 .show wpAny_Name (wpAny_loadName_local I.ok.kind aY bq hm fin) hd
 .rcases aY with aY|aY
  .show wpAny_Name (wpAny_loadName_cell I.ok.kind aY aN SA fin) hd
  .show wpAny_Name (wpAny_loadName_free I.ok.kind aY aN SA fin f3) hd
def Ck{i j pos}:dH X (.Constant (.int i) j pos)<|v8<|.int i:=λ_ _ _ H _ I h=>wpAny_Constant_int {.int i,H,I.tok _,{_,D},h}
def afP{b j pos}:dH X (.Constant (.bool b) j pos)<|v8<|.a5 b:=λ_ _ _ H _ I h=>Constant_bool {.a5 b,H,I,D,h}
def Tg{j pos}:dH X (.Constant .none j pos)<|v8 .bR:=λ_ _ _ H _ I h=>Constant_none {.bR,H,I,D,h}
def GV{x j pos}:dH X (.Constant (.str x) j pos)<|v8<|.str x:=λ_ _ _ H _ I h=>Calls.Constant_str {.str x,H,I.tok _,{_,D},h}
def fI(X:bL)(x:Ya):Prop:=X.env.kindOf x=J .globalImplicit
def wR{E:ay->aL->Prop}{ae:O Z2}{s:aL}{U:St}{H:aI}{x:Ya}{u:ay}{pos:Yh}{Q:ay->aL->Prop}(I:aO X ae U H s)(bQ:fI X x)(hm:X.bj x=J u)(h:Q u s)
  (hd:X9 ((x==("__debug__" : Ya))=Y1) d7):ba Z3 X.A (Ur (.Name x pos) X.I) Q E s :=
 Calls.Name_function_global I.ok.kind bQ (Calls.loadGlobal_global (by rw[I.ok.glob];show I.mod.glob.keeps I.e1) hm h) hd
def kZ{E:ay->aL->Prop}{ae:O Z2}{s:aL}{U:St}{H:aI}{x:Ya}{u:ay}{pos:Yh}{Q:ay->aL->Prop}(I:aO X ae U H s)(bQ:fI X x)(hm:X.bj x=C)(bX:nV x=J u)(h:Q u s)
  (bq:X9 (x ≠ "__name__") d7) (hd:X9 ((x==("__debug__" : Ya))=Y1) d7):ba Z3 X.A (Ur (.Name x pos) X.I) Q E s:=by
 let(kV,af,ao):=I.mod.blt;show Calls.Name_function_global I.ok.kind bQ (Calls.loadGlobal_builtin (by rw[I.ok.glob];show I.mod.glob.keeps I.e1) hm (by rw[I.ok.blt];show af.keeps I.e1) ((ao x bq).trans bX) h) hd
def aiQ(bQ:fI X x)(hm:X.bj x=J u)(r:cU v u)(hd:X9 ((x==("__debug__" : Ya))=Y1) d7):dH X (.Name x pos) (v8 v) :=
 λ_ _ _ H _ I h=>wR I bQ hm {(v),H,I,r,h} hd
variable {a b:Yd}{ta cn:TE}{pos:Yh}
def Gf(X:bL)(op:CmpOp)(a b:Yd)(t:TE):Prop :=
 ∀(ae:O Z2) (s:aL) (U:St) (H:aI) (Q:eW),aO X ae U H s->t U H Q ->
  ba Z3 X.A (Ur a X.I) (λv dO=>ba Z3 X.A (Ur b X.I) (λu fX=>ba Z3 X.A (gJ op v u) (fH X ae U Q) X.cu fX) X.cu dO) X.cu s
def akN(b:Yd)(h:op≠.In)(ao:op≠.NotIn):vN op b=Y1:=by
 let aA:(op==CmpOp.In)=Y1:=by ext op<;>first|rfl|show Yi D h
 let av:(op==CmpOp.NotIn)=Y1:=by ext op<;>first|rfl|show Yi D ao
 ext b<;>simp[vN,aA,av]
def aeV(ta:TE):TE:=λU H Q=>ta U H λx H1=>Q (.a5<|decide (x=.bR)) H1
def cU.akP(r:cU x v):(v==YC)=decide (x=.bR):=by
 induction x using a9.V.casesOn with
 |bR=>ext r;rfl
 |a5 _=>ext r;rfl
 |int _=>let(t,rfl):=r;rfl
 |str _=>let(t,rfl):=r;rfl
 |r9 _=>let(t,rfl):=r;rfl
 |ui _=>let(t,rfl):=r;rfl
 |ref _=>ext r;rfl
 |ty _=>ext r;rfl
def Th{j pos'}(bx:dH X a ta):Gf X .Is a (.Constant .none j pos')<|aeV ta:=by intro ae s U H Q I h;show bZ (bx ae s U H _ I h) λv s1 ⟨x,H1,bf,bp,aR⟩=>?_;show Constant_none<|is_none_gen {.a5 _,H1,bf,by rw[bp.akP];rfl,aR}
def qah(t:TE):TT:=λU H Q=>t U H λx H1=>∃c,x=.a5 c/\Q c H1
def agW(h:Gf X op a b t)(af:X9 (vN op b=Y1) az8._auto_1):dH X (.Compare a [op] [b] pos) t:=λae s U H Q I hw=>wpAny_Compare1 (h ae s U H Q I hw) af
def agX(h:Gf X op a b t)(af:X9 (vN op b=Y1) az8._auto_1):m2 X (.Compare a [op] [b] pos)<|qah t:=by
 intro ae s U H Q I hw;show wpAny_isTrue_Compare1 (bZ (h ae s U H _ I hw) λv s1 af=>bZ af λu s2 ao=>bZ ao λc s3 ⟨x,H1,bf,bp,aR⟩=>?_) af;let(d,rfl,q):=aR
 ext bp
 show qg {(H1),bf,q}
variable {tA ank:TT}{rest:O Yd}
def aeW(t:TT):TT:=λU H Q=>t U H λc H1=>Q (!c) H1
def aiR(bx:m2 X a tA):yw X (.BoolOp .And [a] pos) tA:=by
 intro yx ae s U H Q I h;show isTrue_and (bZ (bx ae s U H Q I h) λc s1 e=>?_);cases c with
 |true=>show isTrue_and_nil e
 |false=>show e
def agY(bx:m2 X a tA):yw X (.BoolOp .Or [a] pos) tA:=by
 intro yx ae s U H Q I h;show isTrue_or (bZ (bx ae s U H Q I h) λc s1 e=>?_);cases c with
 |false=>show isTrue_or_nil e
 |true=>show e
def agZ(bx:m2 X a tA):m2 X (.UnaryOp .Not a pos)<|aeW tA:=by intro ae s U H Q I h;show isTrue_not<|bx ae s U H (λc H1=>Q (!c) H1) I h
def ag0{op}(h:dH X a t):dH X (.BoolOp op [a] pos) t:=λae s U H Q I hw=>BoolOp_one<|h ae s U H Q I hw
def qai(t:TT)(ta cn:TE):TE:=λU H Q=>t U H λc H1=>if c=Y0 then ta U H1 Q else cn U H1 Q
def akQ(aN:m2 X c tA)(bx:dH X a ta)(aq:dH X b cn):dH X (.IfExp c a b pos)<|qai tA ta cn:=by
 intro ae s U H Q I h;show wpAny_IfExp (bZ (aN ae s U H _ I h) λd s1 ⟨H1,bf,aR⟩=>?_);cases d with
 |true=>show bx ae s1 U H1 Q bf aR
 |false=>show aq ae s1 U H1 Q bf aR
end
def fw(K:Yk)(H:aI)(a:X7)(xs:O V):Prop :=
 hQ H a (.aj xs) \/
  (∃(o:Yp) (aX:Ye ay) (n:Y),K.lookup a=J o/\o.cls=.type "list" /\ o.dict=C/\o.e=.seq aX n/\aX.O<=c3/\cA xs aX.B)\/H a=J (.wO xs)
def eC(K:Yk)(H:aI)(a:X7)(xs:O V):Prop :=
 hQ H a (.aE xs) \/
  ∃(o:Yp) (aX:Ye ay) (n:Y),K.lookup a=J o/\o.cls=.type "tuple" /\ o.e=.seq aX n/\aX.O<=c3/\cA xs aX.B
noncomputable def aeX:ay->X8 V
 |.none=>J .bR
 |.bool b=>J<|.a5 b
 |.int i _=>J<|.int i
 |.str x _=>J<|.str x
 |.bytes b _=>J<|.r9 b
 |.float b _=>J<|.ui b
 |.ref a=>J<|.ref a
 |.type n=>J<|.ty n
 |_=>C
def cU.abs(r:cU x u):aeX u=J x:=by
 induction x using a9.V.casesOn with
 |bR=>ext r;rfl
 |a5 _=>ext r;rfl
 |int _=>let(t,rfl):=r;rfl
 |str _=>let(t,rfl):=r;rfl
 |r9 _=>let(t,rfl):=r;rfl
 |ui _=>let(t,rfl):=r;rfl
 |ref _=>ext r;rfl
 |ty _=>ext r;rfl
def cU.inj(r:cU x u)(q:cU y u):x=y:=Yt<|r.abs.symm.trans q.abs
theorem cA.inj:∀{xs aQ:O V} {us:O ay},cA xs us->cA aQ us->xs=aQ
 |_,_,_,.nil,.nil=>rfl
 |_,_,_,.cons r t,.cons bY t'=>by rw[r.inj bY,cA.inj t t']
section
variable {X:bL}{ae:O Z2}{U:St}{H:aI}{s:aL}{a:X7}{xs aQ:O V}
def fw.of{K:Yk}(h:H a=J (.aj xs)):fw K H a xs:=.inl<|.inl h
def eC.of{K:Yk}(h:H a=J (.aE xs)):eC K H a xs:=.inl<|.inl h
def aO.list(I:aO X ae U H s)(h:fw X.K H a xs):∃aX:O ay,cA xs aX/\PlainL s.Q a aX.D/\xs.H<=c3:=by
 rcases h with h|⟨o,aX,n,aY,aN,hd,aM,hz,r⟩|h
 .let(z,aX,n,r,e):=h.ok I.bE;show{aX,r,{_,n,e,D,D,D},z}
 .show{aX.B,r,{o,n,I.ib a o aY,aN,hd,by simpa using aM},?_};let e:=r.H;erw[fP]at e;lia
 .let(z,aX,n,r,e):=I.bE a _ h;show{aX,r,{_,n,e,D,D,D},z}
def aO.tuple(I:aO X ae U H s)(h:eC X.K H a xs):∃aX:O ay,cA xs aX/\nY s.Q a aX.D/\xs.H<=c3:=by
 rcases h with h|⟨o,aX,n,aY,aN,aM,hz,r⟩
 .let(z,aX,r,p):=h.ok I.bE;show{(aX),r,p.aE,z}
 .show{aX.B,r,{o,I.ib a o aY,aN,n,by simpa using aM},?_};let e:=r.H;erw[fP]at e;lia
def aO.akR(I:aO X ae U H s)(h:fw X.K H a xs)(h':fw X.K H a aQ):xs=aQ:=by
 let(aX,r,(o,n,e,_,_,d),_):=I.list h;let(its',bY,(cW,n',bH,_,_,d'),_):=I.list h';rw[e]at bH;ext bH;rw[d]at d';injection d' with fy _;let:aX=its':=by simpa using Yx Array.B fy
 subst this;show r.inj bY
def aO.Uh(I:aO X ae U H s)(h:eC X.K H a xs)(h':eC X.K H a aQ):xs=aQ:=by
 let(aX,r,(o,e,_,n,d),_):=I.tuple h;let(its',bY,(cW,bH,_,n',d'),_):=I.tuple h';rw[e]at bH;ext bH;rw[d]at d';injection d' with fy _;let:aX=its':=by simpa using Yx Array.B fy
 subst this;show r.inj bY
end
noncomputable abbrev bL.nG(X:bL)(E:ay->aL->Prop):bL:={ X with cu:=E}
abbrev bL.nj(X:bL):bL:=X.nG λ_ _=>Ym
theorem bL.Ok.nG{X:bL}(ok:X.Ok)(E:ay->aL->Prop):(X.nG E).Ok :=
 {(ok.mod),ok.kind,ok.glob,ok.blt,ok.above,ok.inj,ok.has,ok.sb,ok.hd,ok.frames,ok.uj,ok.uk,ok.bs,ok.nh,ok.sU,ok.sV,ok.kM,ok.ni}
def bL.Ok.p9{X:bL}(ok:(X.nG E).Ok):X.Ok :=
 {(ok.mod),ok.kind,ok.glob,ok.blt,ok.above,ok.inj,ok.has,ok.sb,ok.hd,ok.frames,ok.uj,ok.uk,ok.bs,ok.nh,ok.sU,ok.sV,ok.kM,ok.ni}
section
variable {X:bL}{ae:O Z2}{U:St}{H:aI}{s:aL}{E:ay->aL->Prop}
theorem aO.nG(I:aO X ae U H s)(E:ay->aL->Prop):aO (X.nG E) ae U H s:={I.ok.nG E,I.os,I.dE,I.d,I.loc,I.cell,I.free,I.kO,I.pin,I.bE,I.len}
theorem aO.p9(I:aO (X.nG E) ae U H s):aO X ae U H s:={(I.ok.p9),I.os,I.dE,I.d,I.loc,I.cell,I.free,I.kO,I.pin,I.bE,I.len}
theorem nZ.p9(h:nZ (X.nG E) ae Lk f s'):nZ X ae Lk f s':=by
 cases f with
 |next=>let(U',ak,I,q):=h;show{(U'),ak,I.p9,q}
 |brk=>let(U',ak,I,q):=h;show{(U'),ak,I.p9,q}
 |cont=>let(U',ak,I,q):=h;show{(U'),ak,I.p9,q}
 |ret u=>let(v,U',ak,I,r,q):=h;show{(v),U',ak,I.p9,r,q}
theorem jZ.nj{st:O Yf}{t:jW}(h:jZ X.nj st t):jZ X st t:=λae s U H Lk I hw =>
 g5 (h ae s U H Lk (I.nG _) hw) (λ_ _ q=>q.p9) λ_ _ z=>Yz z
end
section
variable {X:bL}{st:Yf}{rest:O Yf}{t u:jW}{e:Yd}{te:TE}{pos:Yh}
def afQ:jW:=λLk U H=>Lk.bS U H
def aeY(t u:jW):jW:=λLk U H=>t { Lk with bS:=u Lk} U H
def aiS:jZ X [] afQ:=λ_ _ U H _ I h=>vM {(U),H,I,h}
def pD(af:jX X st t)(ao:jZ X rest u):jZ X (st::rest)<|aeY t u:=by
 intro ae s U H Lk I h;show wpAny_execs_cons (bZ (af ae s U H { Lk with bS:=u Lk} I h) λf s1 q=>?_);cases f with
 |next =>
  let(U',ak,d1,q):=q;show ao ae s1 U' ak Lk d1 q
 |ret v=>show q
 |brk=>show q
 |cont=>show q
def GW(af:jX X st t):jZ X [st] t:=by
 intro ae s U H Lk I h;show wpAny_execs_cons (bZ (af ae s U H Lk I h) λf s1 q=>?_);cases f with
 |next=>show vM q
 |ret v=>show q
 |brk=>show q
 |cont=>show q
def aO.quiet{ae:O Z2}{U:St}{H:aI}{s:aL}(I:aO X ae U H s):interactive X.I=Y1:=by simp[interactive,I.ok.kind]
def afR(te:TE):jW:=λLk U H=>te U H λ_ H1=>Lk.bS U H1
def uo(he:dH X e te)(aM:X9 (nW e C pos.line X.I=pure Y1) bo):jX X (.Expr e pos)<|afR te:=by intro ae s U H Lk I h;show wpAny_Expr_any (bZ (he ae s U H _ I h) λv s1 ⟨x,H1,bf,bp,aR⟩=>{(U),H1,bf,aR}) I.quiet aM
def aeZ(te:TE):jW:=λLk U H=>te U H Lk.aZ
def GX(he:dH X e te):jX X (.Return (J e) pos)<|aeZ te:=by intro ae s U H Lk I h;show wpAny_Return_some (bZ (he ae s U H _ I h) λv s1 ⟨x,H1,bf,bp,aR⟩=>{(x),U,H1,bf,bp,aR})
def ag1:jW:=λ_ _ _=>Ym
def Cm{qI:O Yf}:jZ X qI ag1:=λ_ _ _ _ _ _ h=>h.elim
end
abbrev pe:=V->St->aI->(St->aI->Prop)->Prop
abbrev zd:=O V->St->aI->(St->aI->Prop)->Prop
def pf(X:bL)(target:Yd)(t:pe):Prop :=
 ∀(ae:O Z2) (s:aL) (U:St) (H:aI) (v:V) (u:ay) (Q:St->aI->Prop),aO X ae U H s->cU v u->t v U H Q ->
  ba Z3 X.A (lC target X.I u) (λ_ s'=>∃U' ak,aO X ae U' ak s'/\Q U' ak) X.cu s
def Cn(X:bL)(aD:O Yd)(t:zd):Prop :=
 ∀(ae:O Z2) (s:aL) (U:St) (H:aI) (aa:O V) (us:O ay) (Q:St->aI->Prop),aO X ae U H s->cA aa us->t aa U H Q ->
  ba Z3 X.A (assignInOrder ((lB aD X.I).map (·.2)) us) (λ_ s'=>∃U' ak,aO X ae U' ak s'/\Q U' ak) X.cu s
abbrev Eo:=V->V->V->aI->(aI->Prop)->Prop
def Ep(X:bL)(t:Eo):Prop :=
 ∀(ae:O Z2) (s:aL) (U:St) (H:aI) (o i v:V) (hu hv u:ay) (Q:aI->Prop),aO X ae U H s->cU o hu->cU i hv->cU v u->t o i v H Q ->
  ba Z3 X.A (setItem hu hv u) (λ_ s'=>∃ak,aO X ae U ak s'/\Q ak) X.cu s
section
variable {X:bL}{pos:Yh}
def Kv(i:Y):pe:=λv U H Q=>Q (U.set i<|some v) H
def Co{i:Y}(dA:X.N.Nodup)(hi:X.N[i]?=J x)(ax:Loc X.I.Y x)(hf:X9 (X.fn x=Y0\/X.env.scope.names.lookup x=J .local) qk):pf X (.Name x pos)<|Kv i:=by intro ae s U H v u Q I r h;show wpAny_assign_Name<|Mz I dA hi ax r (λs' d1=>{_,H,d1,h}) hf
def ae0:zd:=λaa U H Q=>aa=[]/\Q U H
def afS(t:pe)(u:zd):zd:=λaa U H Q=>∃v r,aa=v::r/\t v U H λU' ak=>u r U' ak Q
def aiT:Cn X [] ae0:=by
 intro ae s U H aa us Q I r h;let(e,h):=h;subst e
 ext r
 show assignInOrder_nil {(U),H,I,h}
def MA(af:pf X e t)(ao:Cn X es u)
  (aM:X9 ((lB (e::es) X.I).map (·.2)=lC e X.I::(lB es X.I).map (·.2)) bo):Cn X (e::es)<|afS t u:=by
 intro ae s U H aa us Q I r h;let(v,amZ,aA,h):=h;subst aA;cases r with
 |cons r iw =>
  rw[aM];show assignInOrder_cons (bZ (af ae s U H _ _ _ I r h) λ_ s1 ⟨U1,H1,bf,aR⟩=>?_);show ao ae s1 U1 H1 _ _ Q bf iw aR
def ae1(K:Yk)(n:Y)(t:zd):pe:=λv U H Q=>∃a xs,v=.ref a/\eC K H a xs/\xs.H=n/\t xs U H Q
def ag2{k:Y}{n:Y}(aN:X.calm=Y0)(h:Cn X es t)
  (bq:X9 ((lB es X.I).H=n) bo) (k4:X9 ((lB es X.I).findIdx? (·.1)=C) bo):pf X (.Tuple es k pos)<|ae1 X.K n t:=by
 intro ae s U H v u Q I r hw;let(a,xs,aA,a8,aC,hw):=hw;subst aA
 ext r
 let(aX,bb,cE,hz):=I.tuple a8;show assign_Tuple_tuple (I.ok.hd aN) cE (by simp[bq,<-aC,bb.H]) k4 λh' ax=>?_;let bf:aO X ae U H { s with heap:=h'}:=I.kept (t':=s.toks) λb o e=>ax b o (eE<|d6 e) e;show h ae _ U H xs _ Q bf (by simpa using bb) hw
def ae2(to yy:TE)(t:Eo):pe:=λv U H Q=>to U H λo H1=>yy U H1 λi br=>t o i v br λdr=>Q U dr
def Ti(aV:dH X o to)(hi:dH X i yy)(aM:Ep X t)
  (bx:X9 (∀v,lC (.Subscript o i pos) X.I v=(do
   let hu<-me [v] (Ur o X.I)
   let hv<-me [v,hu] (Ur i X.I)
   standAt pos
   me [v,hu,hv] (setItem hu hv v)
   release [v,hu,hv] [])) qx):pf X (.Subscript o i pos)<|ae2 to yy t:=by
 intro ae s U H v u Q I r h;rw[bx];show aU<|jT (bZ (aV ae s U H _ I h) λhu s1 ⟨x,H1,bf,bp,aR⟩=>?_);show aU<|jT (bZ (hi ae s1 U H1 _ bf aR) λhv s2 ⟨y,br,cI,b8,a4⟩=>?_);show aU<|F4<|aU<|jT (bZ (aM ae s2 U br x y v hu hv u _ cI bp b8 r a4) λ_ s3 ⟨dr,fz,cQ⟩=>?_);show wpAny_release {(U),dr,fz,cQ}
def Ke(te:TE)(g:pe):jW:=λLk U H=>te U H λx H1=>g x U H1 Lk.bS
def Tj(he:dH X e te)(bQ:pf X dj g)(aM:X9 (F5 [dj] e pos.line X.I=pure Y1) bo)(hw:X9 (F6 [dj] e X.I=pure C) bo)
  (af:X9 ((lB [dj] X.I).map (·.2)=[lC dj X.I]) bo):jX X (.Assign [dj] e pos)<|Ke te g:=by
 intro ae s U H Lk I h;show wpAny_Assign_stores (bZ (he ae s U H _ I h) λv s1 ⟨x,H1,bf,bp,aR⟩=>?_) aM hw;rw[af];show bZ (bQ ae s1 U H1 x v _ bf bp aR) λ_ s2 q=>q
def Cp{i:Y}(dA:X.N.Nodup)(hi:X.N[i]?=J x)(ax:Loc X.I.Y x)(he:dH X e te)(aM:X9 (nW e (J<|.Name x pos') pos.line X.I=pure Y1) bo)(hf:X9 (X.fn x=Y0\/X.env.scope.names.lookup x=J .local) qk) :
  jX X (.Assign [.Name x pos'] e pos) (Ke te<|Kv i):=by
 intro ae s U H Lk I h;show wpAny_Assign_Name (bZ (he ae s U H _ I h) λv s1 ⟨y,H1,bf,bp,aR⟩=>?_) aM;show Mz bf dA hi ax bp (λs2 cI=>{_,H1,cI,aR}) hf
def ag3(c:TT)(cn:jW):jW:=λLk U H=>∃W:Y->St->aI->Prop,(∃m,W m U H)/\∀m U H,W m U H ->
 c U H λb H1=>if b=Y0 then ∃N:St->aI->Prop,(∀U' ak,N U' ak->∃fG,fG<m/\W fG U' ak)/\cn { Lk with bS:=N,eI:=N,e1:=Lk.bS} U H1 else Lk.bS U H1
def akS(aF:vT Z3 X.A X.I X.cu)(aN:m2 X c hR)(aq:jZ X body cn):jX X (.While c body [] pos)<|ag3 hR cn:=by
 intro ae s U H Lk I h;let(W,(m0,tL),turn):=h;show wpAny_While<|codeAny_whileLoop (λn s'=>∃U' ak,aO X ae U' ak s'/\W n U' ak) ?_ m0 {(U),H,I,tL};rintro n s1 ⟨U1,H1,bf,fs⟩;show tF aF (bZ (aN ae s1 U1 H1 _ bf<|turn n U1 H1 fs) λb s2 ⟨br,cI,a4⟩=>?_);cases b with
 |true =>
  let(N,dA,a4):=a4;rw[Y2 D];show tF aF (bZ (aq ae s2 U1 br _ cI a4) λf s3 cQ=>?_);cases f with
  |next =>
   let(U3,dr,fz,hH):=cQ;let(fG,hm,rR):=dA U3 dr hH;show{(fG),hm,U3,dr,fz,rR}
  |cont =>
   let(U3,dr,fz,hH):=cQ;let(fG,hm,rR):=dA U3 dr hH;show{(fG),hm,U3,dr,fz,rR}
  |brk=>show cQ
  |ret v=>show cQ
 |false =>
  rw[Y3 mT];show vM {(U1),br,cI,a4}
end
structure kj where
 go:Y->aI->Prop
 Cq:Y->aI->V->aI->Prop
 stop:Y->aI->Prop
def oF(X:bL)(ae:O Z2)(H:aI)(b:X7):Prop :=
 H b=C/\b≠X.I.locals/\b∉X.cq/\(b∈X.ex\/X.cH.L<=b)/\(∀x c,X.env.cells.lookup x=J c->c≠b)/\∀p∈X.h5++ae,p.1≠b
def aO.ve{X:bL}{ae:O Z2}{U:St}{H ak:aI}{s:aL}{b:X7}(I:aO X ae U H s)(aq:s.L<=b)(bq:ak b=C):oF X ae ak b:=by
 show{bq,oW<|d0 I.lt aq,I.aeR aq,.inr<|bF I.b9 aq,λx c e z=>?_,λp aF z=>?_}
 .let(v,q):=I.cell x c e;show Yi (d0 q.lt<|by rw[z];show aq)<|nR _
 .show Yi (d0 (d6 (I.pin p aF).1)<|by rw[z];show aq)<|nR _
structure Turn (P:di) (w:cL) (K:Yk) (dj:Yd) (dg:kj) (fp:O X7) (it:X7) (aJ:Y->Yg->Prop):Prop where
 mem:it∈fp
 obj:∀i h,aJ i h->∀b∈fp,∃o,h.get? b=J o/\∀v,o.e≠.cell v
 keep:∀i h h',aJ i h->(∀b∈fp,∀o,h.get? b=J o->h'.get? b=J o)->aJ i h'
 item:∀(X:bL),X.R=P->X.w=w->X.K=K->X.calm=Y0->∀(i:Y) (ae:O Z2) (s:aL) (U:St) (H:aI) (E:ay->aL->Prop),aO X ae U H s->(∀b∈fp,oF X ae H b)->aJ i s.Q->dg.go i H ->
  ba (bg P w) X.A (kT<|.ref it) (λr s1=>∃u,r=J u /\
   ba (bg P w) X.A (BB dj (.ref it) u) (λ_ s2=>∃x ak,aO X ae U ak s2/\cU x u/\dg.Cq i H x ak/\aJ (i+1) s2.Q/\∀b∈fp,ak b=C) E s1) E s
 done:∀(X:bL),X.R=P->X.w=w->X.K=K->X.calm=Y0->∀(i:Y) (ae:O Z2) (s:aL) (U:St) (H:aI) (E:ay->aL->Prop),aO X ae U H s->(∀b∈fp,oF X ae H b)->aJ i s.Q->dg.stop i H ->
  ba (bg P w) X.A (kT<|.ref it) (λr s1=>r=C/\aO X ae U H s1) E s
 self:∀(A:dz) (i:Y) (s:aL) (Q:ay->aL->Prop) (E:ay->aL->Prop),aJ i s.Q->Q (.ref it) s->ba (bg P w) A (kh<|.ref it) Q E s
abbrev TI:=St->aI->(kj->aI->Prop)->Prop
def se(X:bL)(ae:O Z2)(U:St)(dj:Yd)(R:kj->aI->Prop)(GY:ay)(s2:aL):Prop :=
 ∃(it:X7) (fp:O X7) (aJ:Y->Yg->Prop) (dg:kj) (ak:aI),GY=.ref it/\aO X ae U ak s2/\Turn X.R X.w X.K dj dg fp it aJ/\aJ 0 s2.Q/\(∀b∈fp,oF X ae ak b)/\R dg ak
def m4(X:bL)(dj iter:Yd)(lD:TI):Prop :=
 ∀(ae:O Z2) (s:aL) (U:St) (H:aI) (R:kj->aI->Prop),aO X ae U H s->lD U H R ->
  ba Z3 X.A (Ur iter X.I) (λv s1=>ba Z3 X.A (kh v) (se X ae U dj R) X.cu s1) X.cu s
def EJ(aV:s.heap.get? it=J o)(aN:o.cls=.type n)(hd:o.e=.fields aa)
  (bq:["enumerate","zip","dict_itemiterator","dict_reverseitemiterator","odict_iterator","itertools.zip_longest","itertools.pairwise"].contains n=Y1) (g7:Q () s):ba M A (BB dj (.ref it) u) Q E s:=by
 delta BB
 ext dj<;>first
  |show bG g7
  | (ext u<;>first
    |show bG g7
    | (show aU (wpAny_load aV ?_)
       rw[aN,hd];show ba M A (if(["enumerate","zip","dict_itemiterator","dict_reverseitemiterator","odict_iterator","itertools.zip_longest","itertools.pairwise"].contains n&&aa[0]?==J (fF _))=Y0 then _ else _) Q E s;rw[Y3<|by intro h;rw[bq,Bool.false_and]at h;ext h]
       show bG g7))
noncomputable def Cr(K:Yk)(a:X7):kj :=
 {λi H=>∃xs x,fw K H a xs/\xs[i]?=J x,λi H x ak=>ak=H/\∀xs,fw K H a xs->xs[i]?=J x,λi H=>∃xs,fw K H a xs/\xs.H<=i}
noncomputable def GZ(K:Yk)(a:X7):kj :=
 {λi H=>∃xs x,eC K H a xs/\xs[i]?=J x,λi H x ak=>ak=H/\∀xs,eC K H a xs->xs[i]?=J x,λi H=>∃xs,eC K H a xs/\xs.H<=i}
noncomputable def ze(lo:X6)(n:Y):kj:={λi _=>i<n,λi H x ak=>ak=H/\x=.int (lo+i),λi _=>n<=i}
def MB{P:di}{w:cL}{K:Yk}{dj:Yd}(a it:X7):Turn P w K dj (Cr K a) [it] it (λi h=>h.IsListIter it a i) where
 mem:=by simp
 obj:=λi h st b aq=>by
  let e:b=it:=by simpa using aq
  subst e;let(o,e,c,d):=st;show⟨o,e,λv z=>by rw[d]at z;ext z⟩
 keep:=λi h h' st k=>st.at λo e=>k it Z6 o e
 item:=by intro X ez hw ix aN i ae s U H E I hf st bQ;subst ez hw ix;let(xs,x,a8,ax):=bQ;let(aX,bb,p,hz):=I.list a8;let(u,b1,eF):=bb.get ax;let(f0,f1,f2,dW,f4,gT):=hf it Z6;show wpAny_pyNext_list_item st p.isList (x:=u) (by simpa using b1) λh' c5 cX=>?_;let bf:aO X ae U H { s with heap:=h'}:=I.turned (t':=s.toks) (λb o aq e=>(cX.2 b aq).trans e) f0 f1 dW f4 gT;let(o,e,c,d):=id c5;show{u,D,EJ (s:={ s with heap:=h'}) e c d Z0 ⟨x,H,bf,eF,⟨rfl,λaQ aP=>by rw[I.akR aP a8];show ax⟩,c5,λb aq=>(hf b aq).1⟩}
 done:=by intro X ez hw ix aN i ae s U H E I hf st bQ;subst ez hw ix;let(xs,a8,ax):=bQ;let(aX,bb,p,hz):=I.list a8;let(f0,f1,f2,dW,f4,gT):=hf it Z6;let aC:=bb.H;show wpAny_pyNext_list_end (I.ok.hd aN) st p.isList (by simp;show bF (dK aC.symm) ax) λh' h8=>{D,I.turned (t':=s.toks) (λb o aq e=>h8 b o aq e) f0 f1 dW f4 gT}
 self:=λ_ _ _ _ _ st h=>wpAny_pyIter_listiter st h
def qaj{P:di}{w:cL}{K:Yk}{dj:Yd}(a it:X7):Turn P w K dj (GZ K a) [it] it (λi h=>h.IsTupleIter it a i) where
 mem:=by simp
 obj:=λi h st b aq=>by
  let e:b=it:=by simpa using aq
  subst e;let(o,e,c,d):=st;show⟨o,e,λv z=>by rw[d]at z;ext z⟩
 keep:=λi h h' st k=>st.at λo e=>k it Z6 o e
 item:=by intro X ez hw ix aN i ae s U H E I hf st bQ;subst ez hw ix;let(xs,x,a8,ax):=bQ;let(aX,bb,p,hz):=I.tuple a8;let(u,b1,eF):=bb.get ax;let(f0,f1,f2,dW,f4,gT):=hf it Z6;show wpAny_pyNext_tuple_item st (show s.heap.IsTuple a aX.D from p) (x:=u) (by simpa using b1) λh' c5 cX=>?_;let bf:aO X ae U H { s with heap:=h'}:=I.turned (t':=s.toks) (λb o aq e=>(cX.2 b aq).trans e) f0 f1 dW f4 gT;let(o,e,c,d):=id c5;show{u,D,EJ (s:={ s with heap:=h'}) e c d Z0 ⟨x,H,bf,eF,⟨rfl,λaQ aP=>by rw[I.Uh aP a8];show ax⟩,c5,λb aq=>(hf b aq).1⟩}
 done:=by intro X ez hw ix aN i ae s U H E I hf st bQ;subst ez hw ix;let(xs,a8,ax):=bQ;let(aX,bb,p,hz):=I.tuple a8;let(f0,f1,f2,dW,f4,gT):=hf it Z6;let aC:=bb.H;show wpAny_pyNext_tuple_end (I.ok.hd aN) st (show s.heap.IsTuple a aX.D from p) (by simp;show bF (dK aC.symm) ax) λh' h8=>{D,I.turned (t':=s.toks) (λb o aq e=>h8 b o aq e) f0 f1 dW f4 gT}
 self:=λ_ _ _ _ _ st h=>wpAny_pyIter_tupleiter st h
def qak{P:di}{w:cL}{K:Yo}{dj:Yd}(it:X7)(lo:X6)(n:Y):Turn P w K dj (ze lo n) [it] it (λi h=>IsRangeIter h it (lo+(i:Y)*1) ((n:X6)-(i:Y)) 1) where
 mem:=by simp
 obj:=λi h st b aq=>by
  let e:b=it:=by simpa using aq
  subst e
  show⟨_,st,λv z=>by
   let jV:Data.fields _=Data.cell v:=z
   ext jV⟩
 keep:=λi h h' st k=>k it Z6 _ st
 item:=by intro X ez hw ix aN i ae s U H E I hf st bQ;subst ez hw ix;let(f0,f1,f2,dW,f4,gT):=hf it Z6;let W:=Walks.range (prog:=X.R) (w:=X.w) (I.ok.hd aN) it lo 1 n;show W.item i s _ _ bQ st λv h' tk bX c5 kk=>?_;let(t,rfl):=bX;let bf:aO X ae U H { s with heap:=h',toks:=tk}:=I.turned (λb o aq e=>kk b o (by simpa using aq) e) f0 f1 dW f4 gT;show⟨_,D,EJ (s:={ s with heap:=h',toks:=tk}) (n:="range_iterator") c5 D D Z0 ⟨.int<|lo+i,H,bf,⟨t,?_⟩,⟨D,D⟩,c5,λb aq=>(hf b aq).1⟩⟩;rw[Int.mul_one]
 done:=by intro X ez hw ix aN i ae s U H E I hf st bQ;subst ez hw ix;let(f0,f1,f2,dW,f4,gT):=hf it Z6;show wpAny_pyNext_range_end (I.ok.hd aN) st (by let:n<=i:=bQ;lia) λh' h8=>{D,I.turned (t':=s.toks) (λb o aq e=>h8 b o aq e) f0 f1 dW f4 gT}
 self:=λ_ _ _ _ _ st h=>wpAny_pyIter_rangeiter st h
section
variable {X:bL}{dj:Yd}
def afT(K:Yk)(fA:TE):TI:=λU H R=>fA U H λx H1=>∃a,x=.ref a/\(∃xs,fw K H1 a xs)/\R (Cr K a) H1
def aiU(aC:dH X l fA):m4 X dj l<|afT X.K fA:=by
 intro ae s U H R I h;show bZ (aC ae s U H _ I h) λv s1 ⟨x,H1,bf,bp,aR⟩=>?_;let(a,e,(xs,a8),q):=aR;subst e
 ext bp
 let(aX,bb,p,hz):=bf.list a8;show yn p.isList ?_;show{s1.L,[s1.L],_,_,H1,D,bf.kept (t':=s1.toks) λb o e=>dG _ e,MB a _,{_,fa _ D,D,D},λb aq=>?_,q};let e:b=s1.L:=by simpa using aq
 subst e;show bf.ve (b3 _)<|bf.bE.fresh<|b3 _
def MC{ae:O Z2}{U:St}{H:aI}{s:aL}{R:kj->aI->Prop}{E:ay->aL->Prop}{lo hi:X6}{t u v:Tok}{tk:Y}(I:aO X ae U H s)(af:-(2^62)<=lo)(ao:lo<2^62)(a6:-(2^62)<=hi)(cS:hi<2^62)
  (q:R (ze lo (hi-lo).M) H):ba Z3 X.A (kh<|.ref s.L) (se X ae U dj R) E { s with heap:=s.heap.push { cls:=.type "range",data:=.fields #[.int lo t,.int hi u,.int 1 v]},toks:=tk}:=by
 show wpAny_pyIter_range (IsRange.new ..) (small_one af ao a6 cS) ?_;let bf:aO X ae U H { s with heap:=s.heap.push { cls:=.type "range",data:=.fields #[.int lo t,.int hi u,.int 1 v]},toks:=tk}:=I.kept λb o e=>dG _ e
 show⟨(s.heap.push { cls:=.type "range",data:=.fields #[.int lo t,.int hi u,.int 1 v]}).E.O,[(s.heap.push { cls:=.type "range",data:=.fields #[.int lo t,.int hi u,.int 1 v]}).E.O],_,_,H,D,
  bf.kept (t':=tk) λb o e=>dG _ e,qak _ lo (hi-lo).M,?_,λb aq=>?_,q⟩
 .let aA:lo+((0:Y):X6)*1=lo:=by simp
  let av:(((hi-lo).M:Y):X6)-((0:Y):X6)=Builtin.Range.rangeSize lo hi 1:=by rw[rangeSize_one];split<;>lia
  show IsRangeIter _ _ (lo+((0:Y):X6)*1) ((((hi-lo).M:Y):X6)-((0:Y):X6)) 1;rw[aA,av];show fa _ D
 .let e:b=(s.heap.push { cls:=.type "range",data:=.fields #[.int lo t,.int hi u,.int 1 v]}).E.O:=by simpa using aq
  subst e;show bf.ve (b3 _)<|bf.bE.fresh<|b3 _
def afU(ta:ki):TI:=λU H R=>ta U H λaa H1=>∃j:X6,aa=[.int j] /\ -(2^62)<=j/\j<2^62/\R (ze 0 j.M) H1
def afV(ta:ki):TI:=λU H R=>ta U H λaa H1=>∃i j:X6,aa=[.int i,.int j]/\(-(2^62)<=i/\i<2^62 /\ -(2^62)<=j/\j<2^62)/\R (ze i (j-i).M) H1
def qal(bQ:fI X "range")(hm:X.bj "range" = C)(bx:m3 X [a] ta)(aM:X9 (cc [a] X.I=[(Y1,Ur a X.I)]) bo):m4 X dj (.Call (.Name "range" p) [a] [] pos)<|afU ta:=by
 intro ae s U H R I h;show Call_<|kZ I bQ hm boot_range<|K4 (bZ (bx pos ae s U H _ I h) λus s1 ⟨aa,H1,bf,bp,aR⟩=>?_) aM D;let(j,e,aR,a4,q):=aR;subst e;cases bp with
 |cons r iw =>
  ext iw
  let(t,rfl):=r;show call_range_1 (MC bf Z0 Z0 aR a4<|by simpa using q)
def qam(bQ:fI X "range")(hm:X.bj "range" = C)(bx:m3 X [a,b] ta)(aM:X9 (cc [a,b] X.I=[(Y1,Ur a X.I),(Y1,Ur b X.I)]) bo)(iR:X9 (cc [b] X.I=[(Y1,Ur b X.I)]) bo) :
  m4 X dj (.Call (.Name "range" p) [a,b] [] pos) (afV ta):=by
 intro ae s U H R I h;show Call_<|kZ I bQ hm boot_range (K4 (bZ (bx pos ae s U H _ I h) λus s1 ⟨aa,H1,bf,bp,aR⟩=>?_) (by rw[aM,iR])<|by rw[iR];rfl);let(i,j,e,(aR,a4,cQ,fQ),q):=aR;subst e;cases bp with
 |cons r iw =>
  cases iw with
  |cons bY iw =>
   ext iw
   let(t,rfl):=r;let(t',rfl):=bY;show call_range_2<|MC bf aR a4 cQ fQ q
def ae3(lD:TI)(g:pe)(cn:jW):jW:=λLk U H=>lD U H λdg H1=>∃W:Y->Y->St->aI->Prop,(∃m,W 0 m U H1)/\∀i m U H,W i m U H ->
 (dg.stop i H/\Lk.bS U H)\/(dg.go i H/\∃N:St->aI->Prop,(∀U' ak,N U' ak->∃fG,fG<m/\W (i+1) fG U' ak)/\∀x ak,dg.Cq i H x ak->g x U ak λU2 br=>cn { Lk with bS:=N,eI:=N,e1:=Lk.bS} U2 br)
noncomputable def zf(fp:O X7)(h:Yg):O Z2:=fp.filterMap λb=>(h.get? b).map λo=>(b,o)
def Cs(aq:b∈fp)(e:h.get? b=J o):(b,o)∈zf fp h:=Fb.mpr {b,aq,by rw[e];rfl}
def qan(aF:p∈zf fp h):p.1∈fp/\h.get? p.1=J p.2:=by
 let(b,aq,e):=Fb.mp aF;cases q:h.get? b with
 |none=>rw[q]at e;ext e
 |some o =>
  rw[q]at e;let bH:(b,o)=p:=Yt e;subst bH;show{(aq),q}
def aO.pinned{ae:O Z2}{U:St}{H:aI}{s:aL}{fp:O X7}(I:aO X ae U H s)(hf:∀b∈fp,oF X ae H b)(aV:∀b∈fp,∃o,s.heap.get? b=J o/\∀v,o.e≠.cell v):aO X (ae++zf fp s.Q) U H s :=
 I.Ud λp aF=>(iY.mp aF).elim (λz=>I.pin p<|l6 _ z) λz=>by let(aq,e):=qan z;let(f0,f1,f2,_):=hf p.1 aq;let(o,bH,d):=aV p.1 aq;rw[e]at bH;ext bH;show{(e),f0,f1,f2,d}
def aO.E5{ae cm:O Z2}{U:St}{H:aI}{s:aL}(I:aO X (ae++cm) U H s):aO X ae U H s:=I.Ud λp aF=>I.pin p<|l6 _<|ry _ aF
def G0(aF:vT Z3 X.A X.I X.cu)(aN:X.calm=Y0)(hi:m4 X dj iter lD)(bQ:pf X dj g)(aq:jZ X body cn)
  (aM:X9 (∀x,lA iter X.I x=pure x) qx):jX X (.For dj iter body [] pos)<|ae3 lD g cn:=by
 intro ae s U H Lk I h;show wpAny_For (bZ (hi ae s U H _ I h) λv s1 af=>bZ af λGY s2 ao=>?_) aM;let(it,fp,aJ,dg,br,e,cI,T,gX,f2,W,(m0,tL),turn):=ao;subst e;let stat:∀{ak:aI},(∀b∈fp,ak b=C)->∀b∈fp,oF X ae ak b:=λbq b aq=>{bq b aq,(f2 b aq).2}
 show codeAny_forLoop_any (λn s'=>∃i U' ak,aO X ae U' ak s'/\aJ i s'.Q/\(∀b∈fp,ak b=C)/\W i n U' ak) ?_ m0 {0,U,br,cI,gX,λb aq=>(f2 b aq).1,tL};rintro n s3 ⟨i,U3,dr,fz,wU,MD,rR⟩;rcases turn i n U3 dr rR with⟨stop,tM⟩|⟨go,N,dA,step⟩
 .show tF aF (bZ (T.done X D D D aN i ae s3 U3 dr X.cu fz (stat MD) wU stop) λr s4 ⟨hr,gU⟩=>?_);subst hr;show vM {(U3),dr,gU,tM}
 .show tF aF (bZ (T.item X D D D aN i ae s3 U3 dr X.cu fz (stat MD) wU go) λr s4 ⟨u,hr,cS⟩=>?_);subst hr;show tF aF (bZ cS λ_ s5 ⟨x,i4,wa,yz,lE,wV,Ct⟩=>?_);let Yb:=wa.pinned (stat Ct)<|T.obj _ _ wV;show tF aF (bZ (bQ _ s5 U3 i4 x u _ Yb yz<|step x i4 lE) λ_ lF ⟨U6,Uo,n1,BP⟩=>?_);show tF aF (bZ (aq _ lF U6 Uo _ n1 BP) λf rS rT=>?_);let again:∀{U7:St} {lG:aI},aO X (ae++zf fp s5.Q) U7 lG rS->N U7 lG->∃m,m<n/\∃i U' ak,aO X ae U' ak rS/\aJ i rS.Q/\(∀b∈fp,ak b=C)/\W i m U' ak:=λ{U7 lG} kW yA=>by let(fG,hm,Up):=dA U7 lG yA;show{fG,hm,i+1,U7,lG,kW.E5,T.keep _ _ _ wV λb aq o e=>(kW.pin (b,o)<|l6 _<|l6 _<|Cs aq e).1,λb aq=>?_,Up};let(o,e,d):=T.obj _ _ wV b aq;show(kW.pin (b,o)<|l6 _<|l6 _<|Cs aq e).2.1
  cases f with
  |next=>let(U7,lG,kW,yA):=rT;show again kW yA
  |cont=>let(U7,lG,kW,yA):=rT;show again kW yA
  |brk=>let(U7,lG,kW,rT):=rT;show{(U7),lG,kW.E5,rT}
  |ret v=>let(dR,U7,lG,kW,wb,rT):=rT;show{(dR),U7,lG,kW.E5,wb,rT}
end
abbrev de:=V->V->aI->eW->Prop
def jd(X:bL)(f:ay->ay->Sem ay)(r:de):Prop :=
 ∀(ae:O Z2) (s:aL) (U:St) (H:aI) (x y:V) (v u:ay) (Q:eW),aO X ae U H s->cU x v->cU y u->r x y H Q ->
  ba Z3 X.A (f v u) (fH X ae U Q) X.cu s
def G1(X:bL)(f:ay->Sem ay)(r:V->aI->eW->Prop):Prop :=
 ∀(ae:O Z2) (s:aL) (U:St) (H:aI) (x:V) (v:ay) (Q:eW),aO X ae U H s->cU x v->r x H Q ->
  ba Z3 X.A (f v) (fH X ae U Q) X.cu s
def zg(X:bL)(f:ay)(r:O V->aI->eW->Prop):Prop :=
 ∀(ae:O Z2) (s:aL) (U:St) (H:aI) (xs:O V) (us:O ay) (Q:eW),aO X ae U H s->cA xs us->r xs H Q ->
  ba Z3 X.A (call f us) (fH X ae U Q) X.cu s
def ae4(X:bL)(r:V->aI->(Yc->aI->Prop)->Prop):Prop :=
 ∀(ae:O Z2) (s:aL) (U:St) (H:aI) (x:V) (v:ay) (Q:Yc->aI->Prop),aO X ae U H s->cU x v->r x H Q ->
  ba Z3 X.A (truthy v) (BO X ae U Q) X.cu s
def qao(r:V->aI->eW->Prop)(ta:TE):TE:=λU H Q=>ta U H λx H1=>r x H1 Q
def BQ(bc:X6->X6->Prop)(g:X6->X6->V):de:=λx y H Q=>∃i j,x=.int i/\y=.int j/\bc i j/\Q (g i j) H
def G2(g:X6->X6->V):de:=λx y H Q=>∃i j,x=.int i/\y=.int j/\Q (g i j) H
def Ly(g:X6->V):V->aI->eW->Prop:=λx H Q=>∃i,x=.int i/\Q (g i) H
section
variable {X:bL}{a b c:Yd}{ta cn hR:TE}{pos:Yh}
def SD(aV:G1 X (unaryOp op) r)(bx:dH X a ta):dH X (.UnaryOp op a pos)<|qao r ta:=by intro ae s U H Q I h;show UnaryOp_ (bZ (bx ae s U H _ I h) λv s1 ⟨x,H1,bf,bp,aR⟩=>aV ae s1 U H1 x v Q bf bp aR)
def G3{bc:X6->X6->Prop}{g:X6->X6->X6}
  (rule:∀(i j:X6) (t u:Tok) (s:aL) (Q:ay->aL->Prop) (E:ay->aL->Prop),bc i j->Q (.int (g i j) s.toks) { s with toks:=s.toks+1}->ba (bg X.R X.w) X.A (f (.int i t) (.int j u)) Q E s) :
  jd X f (BQ bc λi j=>.int<|g i j):=by
 intro ae s U H x y v u Q I cJ d8 h;let(i,j,rfl,rfl,aN,q):=h;let(t,rfl):=cJ;let(t',rfl):=d8;show rule i j t t' s _ _ aN {.int<|g i j,H,I.tok _,{_,D},q}
def R3{g:X6->X6->X6}
  (rule:∀(i j:X6) (t u:Tok) (s:aL) (Q:ay->aL->Prop) (E:ay->aL->Prop),Q (.int (g i j) s.toks) { s with toks:=s.toks+1}->ba (bg X.R X.w) X.A (f (.int i t) (.int j u)) Q E s) :
  jd X f (G2 λi j=>.int<|g i j):=by
 intro ae s U H x y v u Q I cJ d8 h;let(i,j,rfl,rfl,q):=h;let(t,rfl):=cJ;let(t',rfl):=d8;show rule i j t t' s _ _ {.int<|g i j,H,I.tok _,{_,D},q}
def ae5(i j:X6):Prop:=0<j/\j<1073741824
def Er(i j:X6):Prop:=(-(2^64)<i/\i<2^64)\/(-(2^64)<j/\j<2^64)
def Er.ok{i j:X6}(h:Er i j):IntMulOk i j:=by
 rcases h with⟨af,ao⟩|⟨af,ao⟩
 .show .of_left<|intBits_le_64 af ao
 .show .of_right<|intBits_le_64 af ao
def ag4:jd X (mX .Add) (G2 λi j=>.int<|i+j):=R3 λ_ _ _ _ _ _ _ q=>add_int q
def ag5:jd X (mX .Sub) (G2 λi j=>.int<|i-j):=R3 λ_ _ _ _ _ _ _ q=>sub_int q
def ag6:jd X (mX .Mult) (BQ Er λi j=>.int<|i*j):=G3 λ_ _ _ _ _ _ _ aN q=>mul_int q aN.ok
def aiV:jd X (mX .FloorDiv) (BQ ae5 λi j=>.int<|i / j):=G3 λi j _ _ _ _ _ aN q=>by let af:(0:X6)<j:=aN.1;let ao:j<1073741824:=aN.2;show floordiv_int (vK af) (by rw[Int.fdiv_eq_ediv_of_nonneg i<|lx af];show q)<|.inl<|PyProof.noPylong_small Z5
def ag7:jd X (mX .Mod) (BQ (λ_ j=>0<j) λi j=>.int<|i%j):=G3 λi j _ _ _ _ _ aN q=>by let af:(0:X6)<j:=aN;show mod_int' (vK af) (by rw[Int.fmod_eq_emod_of_nonneg i<|lx af];show q)
def qap{g:X6->X6}
  (rule:∀(i:X6) (t:Tok) (s:aL) (Q:ay->aL->Prop) (E:ay->aL->Prop),Q (.int (g i) s.toks) { s with toks:=s.toks+1}->ba (bg X.R X.w) X.A (f (.int i t)) Q E s) :
  G1 X f (Ly λi=>.int<|g i):=by
 intro ae s U H x v Q I cJ h;let(i,rfl,q):=h;let(t,rfl):=cJ;show rule i t s _ _ {.int<|g i,H,I.tok _,{_,D},q}
def Tn:G1 X (unaryOp .USub) (Ly λi=>.int<|-i):=qap λ_ _ _ _ _ q=>neg_int q
def afW(t:TE):TT:=λU H Q=>t U H λx ak=>∃k,x=.a5 k/\Q k ak
def G4(r bY:de)(ta cn hR:TE):TE:=λU H Q=>ta U H λx H1=>cn U H1 λy br=>r x y br λz dr=>∃k,z=.a5 k /\
 (if k=Y0 then hR U dr λeM pg=>bY y eM pg Q else Q (.a5 Y1) dr)
def akT(aV:jd X (gJ op) r)(jc:jd X (gJ op') bY)(bx:dH X a ta)(aq:dH X b cn)(aN:dH X c hR)
  (hm:X9 (lastMarks [op,op'] [b,c]=Y1) az5._auto_1):dH X (.Compare a [op,op'] [b,c] pos)<|G4 r bY ta cn hR:=by
 intro ae s U H Q I h
 show Compare_chain (bZ (bx ae s U H _ I h) λv s1 ⟨x,H1,bf,bp,aR⟩=>chain_link (bZ (aq ae s1 U H1 _ bf aR) λu s2 ⟨y,br,cI,b8,a4⟩ =>
  bZ (aV ae s2 U br x y v u _ cI bp b8 a4) λd s3 ⟨z,dr,fz,hI,k,e,cQ⟩=>?_)) hm
 subst e
 ext hI
 show qg ?_;cases k with
 |false=>show ite_ff {.a5 Y1,dr,fz,D,cQ}
 |true=>show ite_tt<|chain_last (bZ (aN ae s3 U dr _ fz cQ) λeM s4 ⟨jV,pg,gU,ph,fQ⟩=>jc ae s4 U pg y jV u eM Q gU b8 ph fQ)
def akU(aV:jd X (gJ op) r)(jc:jd X (gJ op') bY)(bx:dH X a ta)(aq:dH X b cn)(aN:dH X c hR)
  (hm:X9 (lastMarks [op,op'] [b,c]=Y1) az5._auto_1):m2 X (.Compare a [op,op'] [b,c] pos)<|afW<|G4 r bY ta cn hR:=by
 intro ae s U H Q I h
 show isTrue_chain (bZ (bx ae s U H _ I h) λv s1 ⟨x,H1,bf,bp,aR⟩=>test_link (bZ (aq ae s1 U H1 _ bf aR) λu s2 ⟨y,br,cI,b8,a4⟩ =>
  bZ (aV ae s2 U br x y v u _ cI bp b8 a4) λd s3 ⟨z,dr,fz,hI,k,e,cQ⟩=>?_)) hm
 subst e
 ext hI
 show qg ?_;cases k with
 |false =>
  let(gD,bH,ee):=cQ
  ext bH
  show ite_ff {(dr),fz,ee}
 |true =>
  show ite_tt<|test_last (bZ (aN ae s3 U dr _ fz cQ) λeM s4 ⟨jV,pg,gU,ph,fQ⟩=>bZ (jc ae s4 U pg y jV u eM _ gU b8 ph fQ) λd' s5 ⟨da,i4,wa,yz,k2,av,hk⟩=>?_);subst av
  ext yz
  show qg {(i4),wa,hk}
def R4(K:Yk)(x:V)(H:aI)(k:Yc):Prop :=
 match x with
 |.bR=>k=Y1
 |.a5 b=>k=b
 |.int i=>k=(i != 0)
 |.str y=>y.H<=c3/\k=((y.H:X6) != 0)
 |.r9 y=>y.O<=c3/\k=((y.O:X6) != 0)
 |.ref p=>(∃xs,fw K H p xs/\k=!xs.isEmpty)\/(∃xs,eC K H p xs/\k=!xs.isEmpty)\/∃au,H p=J (.aS au)/\k=!au.isEmpty
 |_=>Ym
def qaq{κ:Type}{au:O<|κ×V}{aa:O<|κ×ay}(r:e6 au aa):(!aa.isEmpty)=!au.isEmpty:=by
 ext r<;>rfl
def ME(r:cA xs aX):(!aX.D.isEmpty)=!xs.isEmpty:=by
 ext r<;>simp
def zh:(c3:Y)<2^63:=by rw[kR];decide
def ag8:ae4 X (λx H Q=>∃k,R4 X.K x H k/\Q k H):=by
 intro ae s U H x v Q I cJ h;let(k,e,q):=h;let aC:=zh;let aM:c3=16777216:=kR
 induction x using a9.V.casesOn with
 |bR =>
  ext cJ
  let bH:k=Y1:=e;subst bH;show truthy_none {(H),I,q}
 |a5 b =>
  ext cJ
  let bH:k=b:=e;subst bH;show qg {(H),I,q}
 |int i =>
  let(t,rfl):=cJ;let bH:k=(i != 0):=e;subst bH;show PySem.P.truthy_int {(H),I,q}
 |str y =>
  let(t,rfl):=cJ;obtain⟨aP,bH⟩:y.H<=c3/\k=((y.H:X6) != 0):=e;subst bH;show PySem.P.truthy_str Z5 {H,I.tok _,q}
 |r9 y =>
  let(t,rfl):=cJ;obtain⟨aP,bH⟩:y.O<=c3/\k=((y.O:X6) != 0):=e;subst bH;show W.truthy_bytes Z5 {H,I.tok _,q}
 |ref p =>
  ext cJ
  let bH:(∃xs,fw X.K H p xs/\k=!xs.isEmpty)\/(∃xs,eC X.K H p xs/\k=!xs.isEmpty)\/∃au,H p=J (.aS au)/\k=!au.isEmpty:=e;rcases bH with⟨xs,ax,bH⟩|⟨xs,ax,bH⟩|⟨au,ax,bH⟩
  .subst bH;let(aX,r,cm,hz):=I.list ax;let d5:=r.H;show wpAny_truthy_list cm.isList (by erw[eL];lia) {H,I.tok _,by rw[ME r];show q}
  .subst bH;let(aX,r,cm,hz):=I.tuple ax;let d5:=r.H;show truthy_tuple cm (by erw[eL];lia) {H,I.tok _,by rw[ME r];show q}
  .subst bH;obtain⟨hz,fc,aa,r,m⟩:au.H<=c3/\(p==md)=Y1/\∃aa,e6 au aa/\s.heap.DictOf (gF X.R X.w) p aa:=I.bE p _ ax;let d5:au.H=aa.H:=KQ r;show wpAny_truthy_dict fc m Z5 {H,I.tok _,by rw[qaq r];show q}
 |_=>show(show Ym from e).elim
def vals1(r:cA [x] us):∃u,us=[u]/\cU x u:=by
 cases r with
 |cons bp b8=>ext b8;show{_,D,bp}
def vals2(r:cA [x,y] us):∃u eM,us=[u,eM]/\cU x u/\cU y eM:=by
 cases r with
 |cons bp b8 =>
  cases b8 with
  |cons hI ph=>ext ph;show{_,_,D,bp,hI}
def qar(aN:X.calm=Y0):zg X (.builtin "min") (λxs H Q=>∃i j,xs=[.int i,.int j]/\Q (.int (if j<i then j else i)) H):=by
 intro ae s U H xs us Q I r h;let(i,j,rfl,q):=h;let(u,eM,rfl,(t,rfl),(t',rfl)):=vals2 r;show min_two_ints (I.ok.hd aN) λh' tk k=>{_,H,I.kept k,?_,q}
 by_cases bO:j<i
 .rw[Y2 bO,Y2 bO];show{_,D}
 .rw[Y3 bO,Y3 bO];show{_,D}
def qas:zg X (.type "str") (λxs H Q=>∃i,xs=[.int i]/\i.natAbs.log2<1920/\Q (.str<|toString i) H):=by intro ae s U H xs us Q I r h;let(i,rfl,hz,q):=h;let(u,rfl,t,rfl):=vals1 r;show PySem.P.str_of_int hz {.str _,H,I.tok _,{_,D},q}
def ae6(K:Yk)(x:V)(H:aI)(n:Y):Prop :=
 match x with
 |.str y=>y.H<=c3/\n=y.H
 |.r9 y=>y.O<=c3/\n=y.O
 |.ref p=>(∃xs,fw K H p xs/\n=xs.H)\/∃xs,eC K H p xs/\n=xs.H
 |_=>Ym
def G5:zg X (.builtin "len") (λxs H Q=>∃x n,xs=[x]/\ae6 X.K x H n/\Q (.int n) H):=by
 intro ae s U H xs us Q I r h;let(x,n,rfl,e,q):=h;let(u,rfl,cJ):=vals1 r;let aC:=zh;let aM:c3=16777216:=kR
 induction x using a9.V.casesOn with
 |str y =>
  let(t,rfl):=cJ;obtain⟨aP,bH⟩:y.H<=c3/\n=y.H:=e;subst bH;show len_str Z5 {.int _,H,I.tok _,{_,D},q}
 |r9 y =>
  let(t,rfl):=cJ;obtain⟨aP,bH⟩:y.O<=c3/\n=y.O:=e;subst bH;show W.len_bytes Z5 {.int _,H,I.tok _,{_,D},q}
 |ref p =>
  ext cJ
  let bH:(∃xs,fw X.K H p xs/\n=xs.H)\/∃xs,eC X.K H p xs/\n=xs.H:=e;rcases bH with⟨xs,ax,bH⟩|⟨xs,ax,bH⟩
  .subst bH;let(aX,bY,cm,hz):=I.list ax;let d5:=bY.H;show Calls.call_len_list cm.isList (by erw[eL];lia) {.int xs.H,H,I.tok _,{_,by erw[eL];rw[d5]},q}
  .subst bH;let(aX,bY,cm,hz):=I.tuple ax;let d5:=bY.H;show len_tuple cm (by erw[eL];lia) {.int xs.H,H,I.tok _,{_,by erw[eL];rw[d5]},q}
 |_=>show(show Ym from e).elim
end
structure R5 (h:Yg) (x n2 bc:X7) (yB:Ya->X8 ay):Prop where
 obj:h.get? x=J (W.instObj bc n2)
 ns:h.Ns1 n2 yB
 ne:n2≠x
def qat{h:Yg}(n:h.Ns1 n2 yB):∃hS,h.get? n2=J hS/\∀name,W.lookIn name hS=J (yB name):=by
 let(o,es,ep,aV,hd,aY,_,hm):=n;show{o,aV,λname=>?_};let e:=hm name;delta nsFind findBy at e;rw[<-Array.find?_toList]at e;delta W.lookIn;rw[hd];dsimp only;split
 .rename_i y q;rw[q]at e;show Yx J e
 .rename_i q;rw[q]at e;let a:es.toList.any (·.refKey)=Y1:=by rw[qbd];intro y aP;let(z,t,lg):=aY y<|Array.mem_toList_iff.mp aP;simp[DictEntry.refKey,lg]
  let gV:¬es.toList.any (·.refKey)=Y0:=by rw[a];show mT
  rw[Y3 gV];show Yx J e
def R5.look(I:R5 h x n2 bc yB):∃hS,W.InstAt h x (W.instObj bc n2) bc (J hS)/\∀name,W.lookIn name hS=J (yB name) :=
 let ⟨hS,aV,aC⟩:=qat I.ns
 {hS,{(I.obj),D,D,aV},aC}
def xM.some_of(r:xM (J v) o):∃u,o=J u/\cU v u:=by
 cases o with
 |none=>show(show Ym from r).elim
 |some u=>show{(u),D,r}
structure MF (K:Yk) (bc:X7):Prop where
 Uq:W.plainGet K bc Str.empty=Y0
 hd:W.hasDictIn K bc=Y0
 po:W.plainOver K bc=Y0
 a0:W.findIn K (.ref bc) "__setattr__" = J (J<|.builtin "object.__setattr__")
def MF.get{K:Yk}{bc:X7}(c:MF K bc)(f:Ya):W.plainGet K bc f=Y0:=c.Uq
section
variable {X:bL}{ae:O Z2}{U:St}{H:aI}{s:aL}{A:dz}{E:ay->aL->Prop}{Q:ay->aL->Prop}{c:ay}{b:Yc}
inductive p2 (K:Yk) (H:aI):V->ay->Prop where
 |bR:p2 K H .bR<|.type "NoneType"
 |a5 (x:Yc):p2 K H (.a5 x)<|.type "bool"
 |int (i:X6):p2 K H (.int i)<|.type "int"
 |str (x:Ya):p2 K H (.str x)<|.type "str"
 |ui (x:UInt64):p2 K H (.ui x)<|.type "float"
 |aj {a:X7} {xs:O V} (e:H a=J (.aj xs)):p2 K H (.ref a)<|.type "list"
 |d3 {a:X7} {o:Yp} {xs:O V} (e:H a=J (.d3 o<|.aj xs)):p2 K H (.ref a)<|.type "list"
 |aE {a:X7} {xs:O V} (e:H a=J (.aE xs)):p2 K H (.ref a)<|.type "tuple"
 |aS {a:X7} {au:O<|Key×V} (e:H a=J (.aS au)):p2 K H (.ref a)<|.type "dict"
def zi(I:aO X ae U H s)(cJ:cU x u)(ty:p2 X.K H x t)(e:W.kitOne X.K t c=J b)(h:∀tk,Q (.bool b) { s with toks:=tk}) :
  ba Z3 A (call (.builtin "isinstance") [u,c]) Q E s:=by
 cases ty with
 |bR=>cases (show u=YC from cJ);show KP W.kitx_none I.ib KR e (λz=>nomatch z) h
 |a5 y=>cases (show u=Value.bool y from cJ);show KP W.kitx_bool I.ib KR e (λz=>nomatch z) h
 |int i=>let(t,q):=(show ∃t,u=Value.int i t from cJ);ext q;show KP W.kitx_int I.ib KR e (λz=>nomatch z) h
 |str y=>let(t,q):=(show ∃t,u=Value.str y t from cJ);ext q;show KP W.kitx_str I.ib KR e (λz=>nomatch z) h
 |ui y=>let(t,q):=(show ∃t,u=Value.float y t from cJ);ext q;show KP W.kitx_float I.ib KR e (λz=>nomatch z) h
 |@aj a xs cf =>
  cases (show u=Uu a from cJ);let(_,_,n,_,af):=(show fN X.R X.w H s.Q a (.aj xs) from I.bE a _ cf)
  show KP W.kitx_list I.ib {_,af,D} e (λz=>nomatch z) h
 |@d3 a b2 xs cf =>
  cases (show u=Uu a from cJ);let(_,_,_,n,_,af):=(show fN X.R X.w H s.Q a (.d3 b2<|.aj xs) from I.bE a _ cf)
  show KP W.kitx_list I.ib {_,af,D} e (λz=>nomatch z) h
 |@aE a xs cf =>
  cases (show u=Uu a from cJ);let(_,_,_,p):=(show fN X.R X.w H s.Q a (.aE xs) from I.bE a _ cf)
  let(o,af,ao,_):=p;show KP W.kitx_tuple I.ib {(o),af,ao} e (λz=>nomatch z) h
 |@aS a au cf =>
  cases (show u=Uu a from cJ);let(_,_,aa,_,p):=(show fN X.R X.w H s.Q a (.aS au) from I.bE a _ cf)
  let(o,es,ep,af,ao,_):=p;show KP W.kitx_dict I.ib {(o),af,ao.1} e (λz=>nomatch z) h
end
structure fb (k:Y) (A:dz):Prop where
 hd:A.handled=C
 tN:A.depth+3*k+5<recursionLimit
 un:A.units+16*k+200<fh
def fb.mono{j k:Y}(r:fb k A)(h:j<=k):fb j A:={r.hd,by let:=r.tN;lia,by let:=r.un;lia}
theorem fb.deeper{k:Y}(r:fb (k+1) A)(env:Env):fb k (A.deeper env) :=
 {r.hd,by let:=r.tN;show A.depth+1+3*k+5<_;lia,by let:=r.un;show A.units+3+16*k+200<_;lia}
theorem fb.depth{k:Y}(r:fb k A):A.depth<recursionLimit:=by let:=r.tN;lia
def fb.KO{k:Y}(r:fb k A):A.units<fh:=by let:=r.un;lia
def ae7:ki:=λ_ H Q=>Q [] H
def afX(ta:TE)(lH:ki):ki:=λU H Q=>ta U H λx H1=>lH U H1 λxs br=>Q (x::xs) br
section
variable {X:bL}{e:Yd}{es:O Yd}{te:TE}{t:ki}{pos:Yh}
def uq:m3 X [] ae7:=λ_ _ _ _ H Q I h=>ly {[],H,I,.nil,h}
def zj(bx:dH X e te)(hr:m3 X es t)(aM:X9 (cc (e::es) X.I=(Y1,Ur e X.I)::cc es X.I) bo):m3 X (e::es)<|afX te t:=by intro pos ae s U H Q I h;rw[aM];show ba _ _ (rN<|(Y1,Ur e X.I)::fE pos (cc es X.I)) _ _ s;show i0 (bZ (bx ae s U H _ I h) λu s1 ⟨x,H1,bf,bp,aR⟩=>?_);show bZ (hr pos ae s1 U H1 _ bf aR) λus s2 ⟨xs,br,cI,b8,a4⟩=>⟨x::xs,br,cI,.cons bp b8,a4⟩
def ae8(t:ki):TE:=λU H Q=>t U H λxs H1=>xs.H<=c3/\∀p,H1 p=C->Q (.ref p) (cO H1 p<|.aE xs)
def ae9(t:ki):TE:=λU H Q=>t U H λxs H1=>xs.H<=c3/\∀p,H1 p=C->Q (.ref p) (cO H1 p<|.aj xs)
def ag9{x1}(h:m3 X es t):dH X (.Tuple es x1 pos)<|ae8 t:=by intro ae s U H Q I a8;show wpAny_Tuple_spliced (bZ (h pos ae s U H _ I a8) λus s1 ⟨xs,H1,bf,r,z,q⟩=>{by rw[<-r.H];show z,?_});let hf:H1 s1.L=C:=bf.bE.fresh<|b3 _;show{.ref s1.L,cO H1 s1.L<|.aE xs,bf.laid (t':=s1.toks) (λb u e=>dG _ e) (b3 _) ?_,D,q _ hf};show{z,us,r,{_,fa _ D,D,D,_,D}}
def To(h:m3 X es t):dH X (.List es pos)<|ae9 t:=by intro ae s U H Q I a8;show wpAny_List_spliced (bZ (h pos ae s U H _ I a8) λus s1 ⟨xs,H1,bf,r,z,q⟩=>{by rw[<-r.H];show z,?_});let hf:H1 s1.L=C:=bf.bE.fresh<|b3 _;show{.ref s1.L,cO H1 s1.L<|.aj xs,bf.laid (t':=s1.toks) (λb u e=>dG _ e) (b3 _) ?_,D,q _ hf};show{z,us,0,r,fa _ D}
end
abbrev kX:=O V->aI->eW->h7->Prop
abbrev n8:=O Env->aI->aL->h7->ay->aL->Prop
structure AQ (P:di) (w:cL) (K:Yk) (bj:Ya->X8 ay) (base:Yg) (A:dz) (cP:O Env) (s:aL) (H:aI):Prop where
 frames:A.frames=J cP
 mod:Mod K bj base
 bs:∀b o,base.get? b=J o->s.heap.get? b=J o/\H b=C
 nh:base.E.O<=s.L
 kM:s.heap.FunFrames base cP
 ni:∀b∈hb cP,H b=C
 bE:eY P w H s.Q
 dE:nX s.gens
def BR(cP:O Env)(P:di)(w:cL)(H:aI)(s:aL)(Q:eW)(u:ay)(s':aL):Prop :=
 ∃v ak,s'.os=s.os/\nX s'.gens/\fq (hb cP) [] H ak s.Q s'.Q/\eY P w ak s'.Q/\cU v u/\Q v ak
def qau(CX:n8)(cP:O Env)(P:di)(w:cL)(H:aI)(s:aL)(Q:eW)(E:h7)(r:Result)(s':aL):Prop :=
 match r with
 |.ok (.ret u)=>BR cP P w H s Q u s'
 |.ok _=>Ym
 |.error e=>CX cP H s E e s'
structure j9 (P:di) (w:cL) (K:Yk) (bj:Ya->X8 ay) (base:Yg) (CX:n8) (k:Y) (f:X7) (fd:i2) (ps:O Ya) (sp:kX):Prop where
 len:∀aa H Q E,sp aa H Q E->aa.H=ps.H
 run:∀(A:dz) (cP:O Env) (s:aL) (H:aI) (args:Args) (us:O ay) (aa:O V) (Q:eW) (E:h7),fb k A->AQ P w K bj base A cP s H->vX s fd args (ps.zip us)->cA aa us->sp aa H Q E ->
  kS (bg P w) A (.call (.ref f) args) (qau CX cP P w H s Q E) s
section
variable {X:bL}{ae:O Z2}{U:St}{H:aI}{s s':aL}
def aO.Kf(I:aO X ae U H s):AQ X.R X.w X.K X.bj X.d X.A X.stack s H :=
 {I.ok.frames,I.ok.mod,I.bs,bF I.ok.nh I.b9,I.stack,I.E3,I.bE,I.dE}
def aO.after(I:aO X ae U H s)(h:BR X.stack X.R X.w H s Q u s'):fH X ae U Q u s':=by let(v,ak,os,dE,un,bE,r,q):=h;let(bh,g,d,t,G6):=s';obtain rfl:G6=s.os:=os;show{v,ak,I.call (h':=bh) (g':=g) (d':=d) (t':=t) (ch:=[]) un bE dE λb z=>Yi z Z6,r,q}
end
def afY(sp:kX)(sg:O V)(E:h7)(t:ki):TE:=λU H Q=>t U H λaa H1=>sp (aa++sg) H1 Q E
def Binds(K:Yk)(fd:i2)(ps:O Ya)(ds:O ay):Prop :=
 ∀(s:aL) (us:O ay),K.In s.Q->(us++ds).H=ps.H->vX s fd {us,[]} (ps.zip<|us++ds)
def Binds.all{K:Yk}{fd:i2}{ps:O Ya}(h:∀us:O ay,us.H=ps.H->tJ fd {us,[]}=pure (ps.zip us)):Binds K fd ps []:=λs us _ aC=>by rw[rC]at aC |-;show .of_eq<|h us aC
def G7(CX:n8)(X:bL)(E:h7):Prop:=∀(ae:O Z2) (U:St) (H:aI) (s:aL) (e:ay) (s':aL),aO X ae U H s->CX X.stack H s E e s'->X.cu e s'
section
variable {X:bL}{CX:n8}{k:Y}{f bc:X7}{fd:i2}{ps:O Ya}{sp:kX}{sg:O V}{ds:O ay}{E:h7}{x m:Ya}{p pos apos:Yh}{e o:Yd}{es:O Yd}{ta:TE}{t:ki}
def aha{ae:O Z2}{U:St}{H:aI}{s:aL}{Q:eW}{us:O ay}{aa:O V}(F:j9 X.R X.w X.K X.bj X.d CX k f fd ps sp)(hr:fb k X.A)(aq:Binds X.K fd ps ds)(hd:cA sg ds)(ax:G7 CX X E)
  (I:aO X ae U H s) (r:cA aa us) (h:sp (aa++sg) H Q E):ba Z3 X.A (call (.ref f) us) (fH X ae U Q) X.cu s:=by
 let b8:cA (aa++sg)<|us++ds:=r.append hd;let aC:(us++ds).H=ps.H:=by rw[<-b8.H];show F.len _ _ _ _ h
 show yt (rK (F.run X.A X.stack s H {us,[]} (us++ds) (aa++sg) Q E hr I.Kf (aq s us I.ib aC) b8 h) λr s' a8=>?_);cases r with
 |error e=>show ax ae U H s e s' I a8
 |ok cM =>
  cases cM with
  |ret u=>show I.after a8
  |next=>show Yz a8
  |brk=>show Yz a8
  |cont=>show Yz a8
def aiW(F:j9 X.R X.w X.K X.bj X.d CX k f fd ps sp)(hr:fb k X.A)(bQ:fI X x)(hm:X.bj x=J (.ref f))(aY:KW X.K (.ref f)=Y0)(aq:Binds X.K fd ps ds)(hd:cA sg ds)(ax:G7 CX X E)
  (bx:m3 X (e::es) t) (gz:X9 ((x==("__debug__" : Ya))=Y1) d7) (he:X9 (cc (e::es) X.I=(Y1,Ur e X.I)::cc es X.I) bo) (fS:X9 ((fE pos<|cc es X.I).any (·.1)=Y1) bo) :
  dH X (.Call (.Name x p) (e::es) [] pos) (afY sp sg E t):=by
 intro ae s U H Q I h;show lz<|wR I bQ hm ?_ gz;show W.callWith_K (h₀:=X.d) I.ok.mod.ky aY (bZ (bx pos ae s U H _ I h) λus s1 ⟨aa,H1,bf,r,q⟩=>{bf.ib,?_}) he fS;show aha F hr aq hd ax bf r q
end
structure mM (N P:O Ya) (sc:ju):Prop where
 kind:sc.kind=.function
 co:sc.isCoroutine=Y1
 gen:sc.isGenerator=Y1
 bN:N.Nodup
 pre:N.take P.H=P
 par:∀x∈P,sc.names.lookup x=J .local\/sc.names.lookup x=J .cell
 ahb:∀y∈sc.h,y.2≠.free
theorem MG{g6:Ya->X8 rM}:∀{binds:O (Ya×ay)} {m:Ya->X8 ay},(∀v,(x,v)∉binds)->bindL g6 binds m x=m x
 |[],_,_=>rfl
 |(n,v)::r,m,h=>by
  delta bindL;rw[MG λw hw=>h w<|dZ _ hw];split
  .let:x≠n:=by rintro rfl;show h v dF
   simp[this]
  .rfl
theorem MH{g6:Ya->X8 rM}:∀{binds:O (Ya×ay)} {m:Ya->X8 ay},(∀v,(x,v)∉binds)->bindC g6 binds m x=m x
 |[],_,_=>rfl
 |(n,v)::r,m,h=>by
  delta bindC;rw[MH λw hw=>h w<|dZ _ hw];split
  .rfl
  .let:x≠n:=by rintro rfl;show h v dF
   simp[this]
theorem MI{g6:Ya->X8 rM}:∀{P:O Ya} {aa:O ay} {i:Y} {m:Ya->X8 ay},P.Nodup->P[i]?=J x->aa[i]?=J v->g6 x=J .local ->
  bindL g6 (P.zip aa) m x=J v
 |[],_,_,_,_,h,_,_=>by simp at h
 |_::_,[],_,_,_,_,h,_=>by simp at h
 |p::P,w::aa,0,m,bN,af,ao,aY=>by simp at af ao;subst af;subst ao;show bindL g6 ((p,w)::P.zip aa) m p=_;delta bindL;rw[MG λv bX=>(mP.mp bN).1 (Fh bX).1,Y2 aY];simp
 |p::P,w::aa,i+1,m,bN,af,ao,aY=>by show bindL g6 ((p,w)::P.zip aa) m x=_;delta bindL;show MI (i:=i) (mP.mp bN).2 (by simpa using af) (by simpa using ao) aY
theorem MJ{g6:Ya->X8 rM}:∀{P:O Ya} {aa:O ay} {i:Y} {m:Ya->X8 ay},P.Nodup->P[i]?=J x->aa[i]?=J v->g6 x≠J .local ->
  bindC g6 (P.zip aa) m x=J v
 |[],_,_,_,_,h,_,_=>by simp at h
 |_::_,[],_,_,_,_,h,_=>by simp at h
 |p::P,w::aa,0,m,bN,af,ao,aY=>by simp at af ao;subst af;subst ao;show bindC g6 ((p,w)::P.zip aa) m p=_;delta bindC;rw[MH λv bX=>(mP.mp bN).1 (Fh bX).1,Y3 aY];simp
 |p::P,w::aa,i+1,m,bN,af,ao,aY=>by show bindC g6 ((p,w)::P.zip aa) m x=_;delta bindC;show MJ (i:=i) (mP.mp bN).2 (by simpa using af) (by simpa using ao) aY
noncomputable def start(N:O Ya)(aa:O V):St:=aa.map J++Yj (N.H-aa.H) C
noncomputable def ka(CX:n8)(P:di)(w:cL)(K:Yk)(bj:Ya->X8 ay)(base:Yg)(N:O Ya)(qual:Ya)(scope:ju)(f:X7)(cd:ay)(A:dz)(cP:O Env)(s:aL)(H:aI)(E:h7):bL where
 prog:=P
 w:=w
 K:=K
 bj:=bj
 base:=base
 A:=A.deeper<|jv qual scope s.L f cd
 N:=N
 cH:=s
 du:=H
 env:=jv qual scope s.L f cd
 cP:=cP
 stack:=jv qual scope s.L f cd::cP
 ex:=[]
 calm:=Y0
 fn:=λ_=>Y0
 h5:=[]
 cu:=λe s'=>ba (bg P w) (A.deeper<|jv qual scope s.L f cd) (leaving (jv qual scope s.L f cd) e) (λ_ kA=>CX cP H s E e kA) (λbH kA=>CX cP H s E bH kA) s'
def MK{sc:ju}{n:Y}(h:sc.names.lookup x=J .cell):∃c,(cellsFrom n sc.h []).lookup x=J c:=by let q:=W.cellsFrom_some sc.h n []<|.inl h;show qbq.mp q
def qav{CX:n8}{P:di}{w:cL}{K:Yk}{bj:Ya->X8 ay}{base:Yg}{N ps:O Ya}{qual:Ya}{scope:ju}{f:X7}{cd:ay}{A:dz}{cP:O Env}{s s1:aL}{H:aI}{E:h7}{us:O ay}{aa:O V}
  (cZ:mM N ps scope) (hd:A.handled=C) (eA:AQ P w K bj base A cP s H) (aC:aa.H=ps.H) (r:cA aa us)
  (x:InCallC s s.L (bindL (jv qual scope s.L f cd).kindOf (ps.zip us) λ_=>C) (cellsFrom (s.L+1) scope.h []) (bindC (jv qual scope s.L f cd).kindOf (ps.zip us) λ_=>C) s1) :
  aO (ka CX P w K bj base N qual scope f cd A cP s H E) [] (start N aa) H s1:=by
 let fS:ps.H<=N.H:=by let:=Yx List.H cZ.pre;rw[lr]at this;show bF (dK this.symm)<|Bp _ _
 let(af,tk,rfl,aY):=x.done;let zk:∀b:X7,b∉(ka CX P w K bj base N qual scope f cd A cP s H E).ex:=λb z=>Yi (show b∈([]:O X7) from z) Z6
 show⟨{eA.mod,cZ.kind,D,D,b3 _,λy z c af ao=>?_,λy aP=>?_,λy c _ h=>?_,λ_=>hd,Around.frames_deeper eA.frames,.inr {(D),D},λb z=>Yi z<|zk b,eA.bs,eA.nh,λb _ _=>zk b,λb z=>Yi z<|zk b,eA.kM,eA.ni},
  rfl,eA.dE,fq.kept aY,{_,x.toInCall.ns,λi y v af ao a6=>?_},λy c h=>{_,x.cell y c h},eA.bE.fresh<|b3 _,λy c h=>?_,λp aF=>Yi (show p∈([]:O Z2) from aF) Z6,eA.bE.kept aY,?_⟩
 .show name_of_addr x.apart (KS af)<|KS ao
 .let aP:scope.names.lookup y=J .cell\/scope.names.lookup y=J .free:=aP;rcases aP with aP|aP
  .show MK aP
  .show Yi D<|cZ.ahb _<|KS aP
 .show ed<|x.above y c<|KS h
 .let hi:i<aa.H:=by
   delta start at ao;by_cases hi:i<aa.H
   .show hi
   .rw[Ba<|by simpa using hi]at ao;rw[xY]at ao;split at ao<;>ext ao
  let bx:aa[i]?=J v:=by
   delta start at ao;rw[xX (by simpa using hi),hN]at ao;cases e:aa[i]? with
   |none=>rw[e]at ao;ext ao
   |some a=>rw[e]at ao;cases ao;rfl
  let(u,b1,bb):=r.get bx;let aF:ps[i]?=J y:=by rw[<-cZ.pre,qa1<|d0 hi<|dK aC];show af
  let ML:ps.Nodup:=by rw[<-cZ.pre];show cZ.bN.sublist<|x6 _ _
  show{u,bb,?_};rcases cZ.par y (Be aF) with k|k
  .show .inl {k,MI ML aF b1 k}
  .let(c,e):=MK (n:=s.L+1) k;show .inr {.inl k,c,e,?_};let q:=x.cell y c e;rw[MJ ML aF b1<|by show scope.names.lookup y≠_;rw[k];decide]at q;show q
 .show eA.bE.fresh<|ed<|x.above y c<|KS h
 .delta start;show _=N.H;rw[hM,cj,mO];show mQ<|bF (dK aC) fS
def SE{CX:n8}{P:di}{w:cL}{K:Yk}{bj:Ya->X8 ay}{base:Yg}{k:Y}{f:X7}{name qual:Ya}{params:Arguments}{body:O Yf}{scope:ju}{wc eH doc pm dw eI jw:ay}{an hS:X8 X7}
  {qJ:Ye<|X8 ay} {N ps:O Ya} {sp:kX} (kl:K.lookup f=J {jw,hS,.func<|YW name qual params body scope wc eH doc pm an dw eI,qJ}) (f3:W.codeIn K dw qual=Y0) (cZ:mM N ps scope)
  (len:∀aa H Q E,sp aa H Q E->aa.H=ps.H)
  (lk:∀(A:dz) (cP:O Env) (s:aL) (H:aI) (aa:O V) (Q:eW) (E:h7),fb k (A.deeper<|jv qual scope s.L f dw)->sp aa H Q E ->
   ∃t,jZ (ka CX P w K bj base N qual scope f dw A cP s H E) body t/\t { bS:=λ_ ak=>Q .bR ak,aZ:=Q} (start N aa) H) :
  j9 P w K bj base CX (k+1) f (YW name qual params body scope wc eH doc pm an dw eI) ps sp:=by
 show{len,λA cP s H args us aa Q E hr eA aq r n9=>?_};let aC:=len _ _ _ _ n9;let i5:K.In s.Q:=eA.mod.ky.keeps λb o e=>(eA.bs b o e).1;let lim:s.Q.NoLimit:=eA.mod.nolimit.keeps λb o e=>(eA.bs b o e).1;let afZ:∀y∈ps.zip us,scope.names.lookup y.1=J .local\/(scope.names.lookup y.1=J .cell/\((cellsFrom (s.L+1) scope.h []).lookup y.1).isSome=Y0):=λ⟨n,v⟩ aP=>by
  rcases cZ.par n (Fh aP).1 with q|q
  .show .inl q
  .show .inr {q,W.cellsFrom_some _ _ _<|.inl q}
 show codeAny_call_function hr.depth (i5 _ _ kl) D cZ.co cZ.gen D (W.codeRec_of i5 f3)<|aq _ _ _ _ ?_;show wpAny_newFunctionEnv_cells cZ.kind afZ λenv he s1 x=>?_;subst he;show{lim.keeps x.toInCall.keep,codeAny_func ?_};let(t,cE,a8):=lk A cP s H aa Q E (hr.deeper _) n9;let I:aO (ka CX P w K bj base N qual scope f dw A cP s H E) [] (start N aa) H s1:=qav cZ hr.hd eA aC r x;show g5 (cE [] s1 (start N aa) H _ I a8) (λcM s' aM=>?_) λe s' aM=>aM;let fin:∀{U':St} {ak:aI} {v:V} {u:ay},aO (ka CX P w K bj base N qual scope f dw A cP s H E) [] U' ak s'->cU v u->Q v ak->BR cP P w H s Q u s' :=
  λ{U' ak v u} dg bb q=>{(v),ak,dg.os,dg.dE,dg.d,dg.bE,bb,q}
 cases cM with
 |ret u =>
  let(v,U',ak,dg,bb,q):=aM;show fin dg bb q
 |next =>
  let(U',ak,dg,q):=aM;show fin (v:=V.bR) (u:=YC) dg D q
 |brk =>
  let(_,_,_,q):=aM;show Yz q
 |cont =>
  let(_,_,_,q):=aM;show Yz q
end a9
namespace ft
open PySem PyProof.Rows
noncomputable def ec:O X6->O X6->Yc
 |[],[]=>Y1
 |[],_::_=>Y0
 |_::_,[]=>Y1
 |x::xs,y::aQ=>if x=y then ec xs aQ else decide (x<y)
section
variable {prog:di}{w:cL}{A:dz}{E:ay->aL->Prop}{s:aL}
noncomputable def dS(n d:Y):X8 X6->Y
 |none=>d
 |some v=>if v<0 then(v+(n:X6)).M else min v.M n
def ahc(n d:Y)(hd:d<=n)(o:X8 X6):dS n d o<=n:=by
 cases o with
 |none=>show hd
 |some v =>
  show(if v<0 then(v+(n:X6)).M else min v.M n)<=n;by_cases bX:v<0
  .rw[Y2 bX];lia
  .rw[Y3 bX];show Bp _ _
def MM(v:X6)(n d:Y):(if v<0 then max (v+(n:X6)) 0 else min v (n:X6))=((dS n d (J v):Y):X6):=by
 show(if v<0 then max (v+(n:X6)) 0 else min v (n:X6))=(((if v<0 then(v+(n:X6)).M else min v.M n):Y):X6)
 by_cases bX:v<0
 .erw[Y2 bX];lia
 .erw[Y3 bX];lia
def qaw(lo hi:X8 X6)(n:Y):Builtin.Slice.sliceAdjust lo hi 1 (n:X6)=(((dS n 0 lo:Y):X6),((dS n n hi:Y):X6)):=by
 let af:¬ ((1:X6)<0):=by decide
 delta Builtin.Slice.sliceAdjust;erw[af,Ys];show Prod.ext ?_ ?_
 .cases lo with
  |none=>rfl
  |some v=>show MM v n 0
 .cases hi with
  |none=>rfl
  |some v=>show MM v n n
def qax(i j:Y):lf (i:X6) (j:X6) 1=j-i:=by
 delta lf;let af:(1:X6)>0:=by decide
 erw[af,Yq,Int.ediv_one];split<;>lia
def A8(p:o8 v o)(h:Q o s):ba Z7 A (Builtin.Slice.slicePartIndex v) Q E s:=by
 cases p with
 |none=>show slicePart_none h
 |int i t=>show slicePart_int h
def Uk{lo hi:X8 X6}{n:Y}{Q:X6×X6×Y->aL->Prop}(aM:s.heap.IsSliceOf c8 iM iN .none)(cm:o8 iM lo)(pu:o8 iN hi)
  (h:Q (((dS n 0 lo:Y):X6),1,dS n n hi-dS n 0 lo) s):ba Z7 A (Builtin.Slice.sliceApplied (.ref c8)<|pure (n:X6)) Q E s:=by
 let(os,mu,qK,hC):=id aM;delta Builtin.Slice.sliceApplied Builtin.Slice.sliceFields;show aU<|aU<|o2 mu hC (x:=iM) D<|aU<|o2 mu hC (x:=iN) D<|aU<|o2 mu hC (x:=.none) D<|bG ?_;show aU<|slicePart_none ?_;show ba _ _ (if((1:X6)==0)=Y0 then _ else _) _ _ s;rw[Y3 Z0];show aU<|A8 cm<|aU<|A8 pu<|aU<|bG ?_;show ba _ _ (match Builtin.Slice.sliceAdjust lo hi 1 (n:X6) with|(lo,hi)=>pure (lo,(1:X6),lf lo hi 1)) _ _ s;rw[qaw lo hi n];show ba _ _ (pure (((dS n 0 lo:Y):X6),(1:X6),lf ((dS n 0 lo:Y):X6) ((dS n n hi:Y):X6) 1)) _ _ s;rw[qax];show bG h
def akV(xs:Ye ay)(i k:Y):((Yr k).filterMap λ(m:Y)=>xs[((i:X6)+(m:X6)*1).M]?).D=((xs.toList.drop i).take k).D:=by
 let e:(λ(m:Y)=>xs[((i:X6)+(m:X6)*1).M]?)=λm=>xs[i+m]?:=by
  funext m;let:((i:X6)+(m:X6)*1).M=i+m:=by lia
  rw[this]
 rw[e];let:=pick_run xs i k;rw[qba]at this;let av:((λx=>xs[x]?)∘λx=>i+x)=λm=>xs[i+m]?:=rfl;rw[av]at this;rw[this]
def amW{lo hi:X8 X6}(cE:nY s.Q t XZ)(aM:s.heap.IsSliceOf c8 iM iN .none)(cm:o8 iM lo)(pu:o8 iN hi)
  (hw:¬ (dS XZ.O 0 lo=0/\dS XZ.O XZ.O hi=XZ.O))
  (h:Q (.ref s.L) { s with heap:=s.heap.push { cls:=.type "tuple",data:=.seq ((XZ.toList.drop (dS XZ.O 0 lo)).take (dS XZ.O XZ.O hi-dS XZ.O 0 lo)).D}})
  (hsz:XZ.O<=c3):ba Z7 A (mY (.ref t)<|.ref c8) Q E s:=by
 let rt:sizeOk<|.seq ((XZ.toList.drop<|dS XZ.O 0 lo).take (dS XZ.O XZ.O hi-dS XZ.O 0 lo)).D:=by show((XZ.toList.drop<|dS XZ.O 0 lo).take (dS XZ.O XZ.O hi-dS XZ.O 0 lo)).D.O<=c3;rw[eL,lr,oS,fP];lia
 let bO:dS XZ.O XZ.O hi<=XZ.O:=ahc _ _ (b3 _) hi;let(os,mu,qK,hC):=id aM;let zl:s.TypeIs (.ref c8) "slice":={(os),mu,qK}
 delta mY
 try with_reducible show jT ?_
 first|show aU (bG ?_)|skip
 show aU<|FU cE.typeIs Z0 ?_
 show aU (rJ (name:=YF "__getitem__") cE.typeIs K6
  (mt K6 cE.typeIs F9 ?_<|Ga _ _))
 show ba _ _ (Builtin.Tuple.tupleItemsOf (.ref t) >>= _) _ _ s;show aU<|Gd cE ?_;show aU<|qh zl ?_;rw[Y2 Z0];show aU<|Uk aM cm pu ?_;let Yl:¬ ((((dS XZ.O 0 lo:Y):X6)==0&&(1:X6)==1&&(dS XZ.O XZ.O hi-dS XZ.O 0 lo)==XZ.O)=Y0):=by intro q;rw[gS,gS]at q;let aR:((dS XZ.O 0 lo:Y):X6)=0:=eq_of_beq q.1.1;let a4:dS XZ.O XZ.O hi-dS XZ.O 0 lo=XZ.O:=eq_of_beq q.2;show hw {by lia,by lia}
 show ba _ _ (if(((dS XZ.O 0 lo:Y):X6)==0&&(1:X6)==1&&(dS XZ.O XZ.O hi-dS XZ.O 0 lo)==XZ.O)=Y0 then _ else _) _ _ s;rw[Y3 Yl,akV]
 first
  |show aU (m:=KZ _)<|i1 (bG {_,D,bG h}) rt
  |show aU (m:=KZ _)<|i1 (aU<|bG<|bG {_,D,bG h}) rt
  |show aU<|aU (m:=KZ _)<|i1 (bG<|bG {_,D,bG h}) rt
  |show aU<|aU (m:=KZ _)<|i1 (bG {_,D,bG h}) rt
end
end ft
namespace a9
open PySem PySem.Spec PyProof.Rows
abbrev yC:=St->aI->(X8 X6->aI->Prop)->Prop
def yD(X:bL)(e:X8 Yd)(t:yC):Prop :=
 ∀(ae:O Z2) (s:aL) (U:St) (H:aI) (Q:X8 X6->aI->Prop),aO X ae U H s->t U H Q ->
  ba Z3 X.A (evalPart e X.I) (λu s'=>∃o ak,aO X ae U ak s'/\o8 u o/\Q o ak) X.cu s
def aiX:yC:=λ_ H Q=>Q C H
def af0(t:TE):yC:=λU H Q=>t U H λx H1=>∃i,x=.int i/\Q (J i) H1
section
variable {X:bL}{e:Yd}{te:TE}{lo hi:X8 Yd}{fA wd:yC}{pos cy:Yh}
def aiY:yD X C aiX:=by intro ae s U H Q I h;rw[F7];show bG {C,H,I,.none,h}
def aiZ(h:dH X e te):yD X (J e)<|af0 te:=by intro ae s U H Q I hw;rw[evalPart_some];show bZ (h ae s U H _ I hw) λu s1 ⟨x,H1,bf,bp,aR⟩=>?_;let(i,rfl,q):=aR;let(t,rfl):=bp;show{J i,H1,bf,.int i t,q}
def sh(X:bL)(r:V->X8 X6->X8 X6->aI->eW->Prop):Prop :=
 ∀(ae:O Z2) (s:aL) (U:St) (H:aI) (x:V) (v iM iN:ay) (lo hi:X8 X6) (c8:X7) (Q:eW),aO X ae U H s->cU x v->s.heap.IsSliceOf c8 iM iN .none->o8 iM lo->o8 iN hi->r x lo hi H Q ->
  ∃T id,typeLookup (.type T) "__getitem__" = pure (J<|.builtin id)/\s.TypeIs v T/\ba Z3 X.A (mY v<|.ref c8) (fH X ae U Q) X.cu s
def sh.or(h:sh X r)(h':sh X bY):sh X (λx lo hi H Q=>r x lo hi H Q\/bY x lo hi H Q):=by
 intro ae s U H x v iM iN lo hi c8 Q I cJ aM cm pu q;rcases q with q|q
 .show h ae s U H x v iM iN lo hi c8 Q I cJ aM cm pu q
 .show h' ae s U H x v iM iN lo hi c8 Q I cJ aM cm pu q
def qay(r:V->X8 X6->X8 X6->aI->eW->Prop)(te:TE)(fA wd:yC):TE:=λU H Q=>te U H λx H1=>fA U H1 λl br=>wd U br λu dr=>r x l u dr Q
def akW(hr:sh X r)(he:dH X e te)(aC:yD X lo fA)(b1:yD X hi wd):dH X (.Subscript e (.Slice lo hi C cy) pos)<|qay r te fA wd:=by intro ae s U H Q I h;show Subscript_ (bZ (he ae s U H _ I h) λv s1 ⟨x,H1,bf,bp,aR⟩=>?_);show wpAny_Slice (bZ (aC ae s1 U H1 _ bf aR) λiM s2 ⟨l,br,cI,cm,a4⟩=>bZ (b1 ae s2 U br _ cI a4) λiN s3 ⟨u,dr,fz,pu,cQ⟩=>?_);rw[F7];show bG ?_;let gU:aO X ae U dr { s3 with heap:=s3.heap.push { cls:=.type "slice",data:=.fields #[iM,iN,.none]}}:=fz.kept (t':=s3.toks) λb b2 q=>dG _ q;let(T,id,gg,cE,bQ):=hr ae { s3 with heap:=s3.heap.push { cls:=.type "slice",data:=.fields #[iM,iN,.none]}} U dr x v iM iN l u s3.L Q gU bp (Heap.IsSliceOf.new ..) cm pu cQ;show ba Z3 X.A (BN e (.Slice lo hi C cy) v<|.ref s3.L) (fH X ae U Q) X.cu { s3 with heap:=s3.heap.push { cls:=.type "slice",data:=.fields #[iM,iN,.none]}};show tail_any (ops:=[.ref s3.L,v]) cE gg bQ (by with_unfolding_all rfl)
def sW(xs:O V)(lo hi:X8 X6):O V:=(xs.drop<|ft.dS xs.H 0 lo).take (ft.dS xs.H xs.H hi-ft.dS xs.H 0 lo)
def MN(xs:O V)(lo hi:X8 X6):(sW xs lo hi).H<=xs.H:=by delta sW;rw[lr,oS];lia
def afa(K:Yk):V->X8 X6->X8 X6->aI->eW->Prop:=λx lo hi H Q=>∃a xs,x=.ref a/\eC K H a xs /\
 ¬ (ft.dS xs.H 0 lo=0/\ft.dS xs.H xs.H hi=xs.H)/\∀p,H p=C->Q (.ref p) (cO H p<|.aE<|sW xs lo hi)
def ahd:sh X<|afa X.K:=by
 intro ae s U H x v iM iN lo hi c8 Q I cJ aM cm pu h;let(a,xs,rfl,ax,hw,q):=h
 ext cJ
 let(aX,r,cE,hz):=I.tuple ax;let d5:aX.D.O=xs.H:=by rw[eL];show r.length.symm
 show{"tuple",_,PyProof.Rows.slot_tuple_getitem.lookup,cE.typeIs,?_};show ft.amW cE aM cm pu (by rw[d5];show hw) ?_ (by rw[d5];show hz);rw[d5];show{.ref s.L,_,I.laid (t':=s.toks) (o:=.aE<|sW xs lo hi) (λb b2 q=>dG _ q) (b3 _) ?_,D,q _<|I.bE.fresh<|b3 _};show{bF (MN xs lo hi) hz,_,(r.drop<|ft.dS xs.H 0 lo).take (ft.dS xs.H xs.H hi-ft.dS xs.H 0 lo),lK.new _ _}
end
noncomputable def si(n:Y)(i:X6):X8 Y:=if 0<=i then(if i<n then J i.M else C) else if-(n:X6)<=i then J (i+n).M else C
def wW{α:Type}(xs:O α)(i:X6):X8 α:=(si xs.H i).bind λj=>xs[j]?
def MO{n:Y}{i:X6}{j:Y}(h:si n i=J j):seqIndex? i n=J j/\j<n /\ -(n:X6)<=i/\i<n:=by
 delta si at h;by_cases h0:0<=i
 .rw[Y2 h0]at h;by_cases af:i<n
  .rw[Y2 af]at h;let e:i.M=j:=Yt h;show{by rw[seqIndex_of h0 af,e],by lia,(iv (Int.neg_nonpos_of_nonneg<|h3 _) h0),af}
  .rw[Y3 af]at h;ext h
 .rw[Y3 h0]at h;by_cases af:-(n:X6)<=i
  .rw[Y2 af]at h;let e:(i+n).M=j:=Yt h;show{by rw[seqIndex_neg (rI h0) af,e],by lia,af,(Bx (rI h0)<|h3 _)}
  .rw[Y3 af]at h;ext h
def MP{α:Type}{xs:O α}{i:X6}{v:α}(h:wW xs i=J v):∃j,seqIndex? i xs.H=J j/\xs[j]?=J v/\j<xs.H /\ -(xs.H:X6)<=i/\i<xs.H:=by
 delta wW at h;cases e:si xs.H i with
 |none=>rw[e]at h;ext h
 |some j =>
  rw[e]at h;let(af,ao,a6,cS):=MO e;show{(j),af,h,ao,a6,cS}
def ai0(b:Yd):Prop:=∀o i,BK b Y1 o i=operate [o,i] (mY o i)
def MQ(X:bL)(r:de):Prop :=
 ∀(value slice:Yd) (ae:O Z2) (s:aL) (U:St) (H:aI) (x y:V) (v u:ay) (Q:eW),aO X ae U H s->cU x v->cU y u->r x y H Q ->
  BK slice Y1 v u=operate [v,u] (mY v u)->ba Z3 X.A (BN value slice v u) (fH X ae U Q) X.cu s
def MR(X:bL)(id:YD)(r:V->O V->aI->eW->Prop):Prop :=
 ∀(ae:O Z2) (s:aL) (U:St) (H:aI) (x:V) (xs:O V) (v:ay) (us:O ay) (Q:eW),aO X ae U H s->cU x v->cA xs us->r x xs H Q ->
  ba Z3 X.A (call (.builtin id)<|v::us) (fH X ae U Q) X.cu s
section
variable {X:bL}{a b:Yd}{ta cn:TE}{pos:Yh}
def afb(K:Yk):de:=λx y H Q=>∃p xs i v,x=.ref p/\y=.int i/\fw K H p xs/\wW xs i=J v/\Q v H
def afc(K:Yk):de:=λx y H Q=>∃p xs i v,x=.ref p/\y=.int i/\eC K H p xs/\wW xs i=J v/\Q v H
def ai1:MQ X<|afb X.K:=by
 intro value slice ae s U H x y v u Q I cJ d8 h aM;let(p,xs,i,z,rfl,rfl,a8,he,q):=h
 ext cJ
 let(t,rfl):=d8;let(aX,r,cm,hz):=I.list a8;let(j,af,ao,a6,cS,fB):=MP he;let(w,m5,kB):=r.get ao;let aC:=r.H;let bq:=zh;let fin:fH X ae U Q w s:={(z),H,I,kB,q}
 by_cases h0:0<=i
 .let bO:i.M=j:=by rw[seqIndex_of h0 fB]at af;show Yt af
  show item_listR cm.isList h0 Z5 (by rw[bO];simpa using m5) fin aM
 .let bO:(i+(aX.D.O:X6)).M=j:=by rw[seqIndex_neg (rI h0) cS]at af;rw[eL,<-aC];show Yt af
  show Lx (x:=w) cm.isList.typeIs slot_list_getitem.lookup
   (wpAny_getItem_list_neg (Q:=λr s'=>r=w/\fH X ae U Q r s') cm.isList (rI h0) (by rw[eL]<;>lia) Z5 (by rw[bO];simpa using m5) {(D),fin}) aM
def ahe:MQ X<|afc X.K:=by
 intro value slice ae s U H x y v u Q I cJ d8 h aM;let(p,xs,i,z,rfl,rfl,a8,he,q):=h
 ext cJ
 let(t,rfl):=d8;let(aX,r,cm,hz):=I.tuple a8;let(j,af,ao,a6,cS,fB):=MP he;let(w,m5,kB):=r.get ao;let aC:=r.H;let bq:=zh;let fin:fH X ae U Q w s:={(z),H,I,kB,q}
 show Lx (x:=w) cm.typeIs slot_tuple_getitem.lookup
  (getItem_tuple (j:=j) (Q:=λr s'=>r=w/\fH X ae U Q r s') cm Z5 Z5 (by rw[eL,<-aC];show af) (by simpa using m5) {(D),fin}) aM
def qaz(aX:O ay)(n j:Y)(u:ay):UJ (·.setIfInBounds j u) { cls:=.type "list",data:=.seq aX.D n}={ cls:=.type "list",data:=.seq (aX.set j u).D n}:=by simp[UJ]
theorem aO.aj{ae:O Z2}{U:St}{H:aI}{s:aL}{p:X7}{xs:O V}(I:aO X ae U H s)(h:H p=J (.aj xs)) :
  ∃(aX:O ay) (n:Y),cA xs aX/\s.heap.get? p=J { cls:=.type "list",data:=.seq aX.D n}/\xs.H<=c3:=by
 let(z,aX,n,r,e):=I.bE p _ h;show{(aX),n,r,e,z}
def aO.ahf{ae:O Z2}{U:St}{H:aI}{s:aL}{p:X7}{xs aQ:O V}{aX its':O ay}{n n':Y}{f:Yp->Yp}(I:aO X ae U H s)(h:H p=J (.aj xs))
  (aV:s.heap.get? p=J { cls:=.type "list",data:=.seq aX.D n}) (hf:f { cls:=.type "list",data:=.seq aX.D n}={ cls:=.type "list",data:=.seq its'.D n'}) (r:cA aQ its') (hz:aQ.H<=c3) (t:Y) :
  aO X ae U (cO H p<|.aj aQ) { s with heap:=s.heap.update p f,toks:=t}:=by
 let e:(s.heap.update p f).get? p=J { cls:=.type "list",data:=.seq its'.D n'}:=by rw[nS f aV (by rw[hf]<;>rfl),hf]
 show I.write (x:=p) (by rw[h];trivial) (λb u aq q=>(rG _ _<|Yw aq).trans q) {_,e} ?_;show{(hz),its',n',r,e}
def SF:V->V->V->aI->(aI->Prop)->Prop:=λo i v H Q=>∃p xs k j,o=.ref p/\i=.int k/\H p=J (.aj xs)/\si xs.H k=J j/\Q (cO H p<|.aj<|xs.set j v)
def set_list:Ep X SF:=by
 intro ae s U H o i v hu hv u Q I we rU bb h;let(p,xs,k,j,rfl,rfl,aF,bO,q):=h
 ext we
 let(t,rfl):=rU;let(aX,n,r,aV,hz):=I.aj aF;let(af,ao,a6,cS):=MO bO;let aC:=r.H;let bq:=zh;let d1:aO X ae U (cO H p<|.aj<|xs.set j v) { s with heap:=s.heap.update p (UJ (·.setIfInBounds j u))} :=
  I.ahf aF aV (qaz aX n j u) (r.set bb j) (by rw[jQ];show hz) s.toks
 by_cases h0:0<=k
 .let aY:k.M=j:=by rw[seqIndex_of h0 cS]at af;show Yt af
  show W.ki_setAt aV h0 Z5 (by rw[eL,<-aC];show cS) (by rw[aY];show{_,d1,q})
 .let aY:(k+(aX.D.O:X6)).M=j:=by rw[seqIndex_neg (rI h0) a6]at af;rw[eL,<-aC];show Yt af
  show W.ki_setBack aV (rI h0) (by rw[eL,<-aC];show a6) Z5 (by rw[aY];show{_,d1,q})
def qaA(lo hi:X8 X6)(n:Y):(tI lo hi C n).1=((ft.dS n 0 lo:Y):X6)/\(tI lo hi C n).2.1=((ft.dS n n hi:Y):X6)/\(tI lo hi C n).2.2=1:=by
 show{?_,?_,D}
 .cases lo with
  |none=>simp[tI,ft.dS]
  |some i =>
   erw[tI,ft.dS,qbs,show(1:X6)>0 by decide,Yq];by_cases h:i<0
   .erw[h,Yq]<;>lia
   .erw[h,Ys]<;>lia
 .cases hi with
  |none=>simp[tI,ft.dS]
  |some i =>
   erw[tI,ft.dS,qbs,show(1:X6)>0 by decide,Yq];by_cases h:i<0
   .erw[h,Yq]<;>lia
   .erw[h,Ys]<;>lia
def qaB(aX:O ay)(lo hi:X8 X6):slicePick aX.D lo hi C=((aX.drop<|ft.dS aX.H 0 lo).take (ft.dS aX.H aX.H hi-ft.dS aX.H 0 lo)).D:=by let(af,ao,a6):=qaA lo hi aX.D.O;delta slicePick;rw[af,ao,a6];erw[sliceRange_one,pick_run,eL]<;>rfl
def afd(K:Yk):V->X8 X6->X8 X6->aI->eW->Prop:=λx lo hi H Q=>∃a xs,x=.ref a/\fw K H a xs/\∀p,H p=C->Q (.ref p) (cO H p<|.aj<|sW xs lo hi)
def ai2:sh X<|afd X.K:=by
 intro ae s U H x v iM iN lo hi c8 Q I cJ aM cm pu h;let(a,xs,rfl,ax,q):=h
 ext cJ
 let(aX,r,cE,hz):=I.list ax;let d5:=r.H;show{"list",_,slot_list_getitem.lookup,cE.isList.typeIs,?_};show Lw cE.isList aM cm pu .none Z6 ?_ (by rw[eL]<;>lia);rw[qaB,<-d5];show{.ref s.L,_,I.laid (t':=s.toks) (o:=.aj<|sW xs lo hi) (λb b2 q=>dG _ q) (b3 _) ?_,D,q _<|I.bE.fresh<|b3 _};show{bF (MN xs lo hi) hz,_,0,(r.drop<|ft.dS xs.H 0 lo).take (ft.dS xs.H xs.H hi-ft.dS xs.H 0 lo),fa _ D}
noncomputable def pE:V->Yc
 |.bR=>Y0
 |.a5 _=>Y0
 |.int _=>Y0
 |.str _=>Y0
 |_=>Y1
noncomputable def lM:V->V->Yc
 |.bR,.bR=>Y0
 |.a5 a,.a5 b=>a==b
 |.a5 a,.int b=>(if a then 1 else 0)==b
 |.int a,.a5 b=>a==(if b then 1 else 0)
 |.int a,.int b=>a==b
 |.str a,.str b=>a==b
 |_,_=>Y1
def ahg(d8:cU y u)(cJ:cU x v)(Us:pE y=Y0)(bU:pE x=Y0):SeqAt.EqAt A s u v<|lM y x:=by
 induction y using a9.V.casesOn with
 |bR =>
  ext d8
  induction x using a9.V.casesOn with
  |bR=>ext cJ;show SeqAt.EqAt.same _
  |a5 b=>ext cJ;show SeqAt.EqAt.none_bool b
  |int b=>let(t,rfl):=cJ;show SeqAt.EqAt.none_int b t
  |str b=>let(t,rfl):=cJ;show SeqAt.EqAt.none_str b t
  |_=>show Yi (show Y1=Y0 from bU) mT
 |a5 a =>
  ext d8
  induction x using a9.V.casesOn with
  |bR=>ext cJ;show SeqAt.EqAt.bool_none a
  |a5 b=>ext cJ;show SeqAt.EqAt.bool_bool a b
  |int b=>let(t,rfl):=cJ;show SeqAt.EqAt.bool_int a b t
  |str b=>let(t,rfl):=cJ;show SeqAt.EqAt.bool_str a b t
  |_=>show Yi (show Y1=Y0 from bU) mT
 |int a =>
  let(t',rfl):=d8
  induction x using a9.V.casesOn with
  |bR=>ext cJ;show SeqAt.EqAt.int_none a t'
  |a5 b=>ext cJ;show SeqAt.EqAt.int_bool a t' b
  |int b=>let(t,rfl):=cJ;show SeqAt.EqAt.int_int a t' b t
  |str b=>let(t,rfl):=cJ;show SeqAt.EqAt.int_str a t' b t
  |_=>show Yi (show Y1=Y0 from bU) mT
 |str a =>
  let(t',rfl):=d8
  induction x using a9.V.casesOn with
  |bR=>ext cJ;show SeqAt.EqAt.str_none a t'
  |a5 b=>ext cJ;show SeqAt.EqAt.str_bool a t' b
  |int b=>let(t,rfl):=cJ;show SeqAt.EqAt.str_int a t' b t
  |str b=>let(t,rfl):=cJ;show SeqAt.EqAt.str_str a t' b t
  |_=>show Yi (show Y1=Y0 from bU) mT
 |_=>show Yi (show Y1=Y0 from Us) mT
def qL(x:V)(u:ay):Yc:=match u with
 |.none=>lM .bR x
 |.bool b=>lM (.a5 b) x
 |.int i _=>lM (.int i) x
 |.str z _=>lM (.str z) x
 |_=>Y1
def Tp(r:cU y u)(f:pE y=Y0):qL x u=lM y x:=by
 induction y using a9.V.casesOn with
 |bR=>ext r;rfl
 |a5 b=>ext r;rfl
 |int i=>let(t,rfl):=r;rfl
 |str z=>let(t,rfl):=r;rfl
 |_=>show Yi (show Y1=Y0 from f) mT
theorem G8:∀{xs:O V} {us:O ay},cA xs us->xs.all pE=Y0->us.any (qL x)=xs.any λy=>lM y x
 |_,_,.nil,_=>rfl
 |y::xs,u::us,.cons r t,f=>by rw[ma,gS]at f;rw[oU,oU,Tp r f.1,G8 t f.2]
theorem G9(cJ:cU x v)(bU:pE x=Y0):∀{xs:O V} {us:O ay},cA xs us->xs.all pE=Y0->∀u∈us,SeqAt.EqAt A s u v (qL x u)
 |_,_,.nil,_=>λu b1=>by ext b1
 |y::xs,u::us,.cons r t,f=>λe7 b1=>by
  rw[ma,gS]at f;rcases ei.mp b1 with rfl|b1
  .rw[Tp r f.1];show ahg r cJ f.1 bU
  .show G9 cJ bU t f.2 e7 b1
def Cu(x:V)(xs:O V):Yc:=xs.any λy=>lM y x
def Ha(K:Yk)(neg:Yc):de:=λx y H Q=>∃p xs,y=.ref p/\(fw K H p xs\/eC K H p xs)/\pE x=Y0/\xs.all pE=Y0/\Q (.a5 (if neg then !Cu x xs else Cu x xs)) H
def qaC:jd X (gJ .NotIn)<|Ha X.K Y0:=by
 intro ae s U H x y v u Q I cJ d8 h;let(p,xs,rfl,a8,bU,cq,q):=h
 ext d8
 rcases a8 with a8|a8
 .let(aX,r,cm,hz):=I.list a8;show SeqAt.notIn_listAt (qL x) cm.isList (λw hw=>G9 cJ bU r cq w<|by simpa using hw) {.a5 _,H,I,D,?_};rw[show aX.toArray.any (qL x)=aX.any (qL x) by simp,G8 r cq];show q
 .let(aX,r,cm,hz):=I.tuple a8;show SeqAt.notIn_tupleAt (qL x) cm (λw hw=>G9 cJ bU r cq w<|by simpa using hw) {.a5 _,H,I,D,?_};rw[show aX.toArray.any (qL x)=aX.any (qL x) by simp,G8 r cq];show q
def MS:zg X (.type "list") (λxs H Q=>∃p aQ,xs=[.ref p]/\(fw X.K H p aQ\/eC X.K H p aQ)/\∀l,H l=C->Q (.ref l) (cO H l<|.aj aQ)):=by
 intro ae s U H xs us Q I r h;let(p,aQ,rfl,a8,q):=h;let(u,rfl,cJ):=vals1 r
 ext cJ
 let fin:∀(aX:O ay),cA aQ aX->aQ.H<=c3->∀(h':Yg) (c0:Y),(∀b cW,s.heap.get? b=J cW->h'.get? b=J cW) ->
   h'.get? s.L=J { cls:=.type "list",dict:=C,data:=.seq aX.D c0,slots:=#[]}->fH X ae U Q (.ref s.L) { s with heap:=h'}:=λaX bY hz h' c0 bP e =>
  {.ref s.L,_,I.laid (t':=s.toks) bP (b3 _) (show fN X.R X.w _ h' _ (.aj aQ) from{(hz),aX,c0,bY,e}),D,q _<|I.bE.fresh<|b3 _}
 rcases a8 with a8|a8
 .let(aX,bY,cm,hz):=I.list a8;let d5:=bY.H;let(o,aV,aN,n,hd):=cm.isList;show call_list_seq p (.inl D) aV aN hd (λh' c0 bP e=>fin aX bY hz h' c0 bP e) (by erw[eL]<;>lia)
 .let(aX,bY,cm,hz):=I.tuple a8;let d5:=bY.H;let(o,aV,aN,n,hd):=cm;show call_list_seq p (.inr D) aV aN hd (λh' c0 bP e=>fin aX bY hz h' c0 bP e) (by erw[eL]<;>lia)
def MT:zg X (.type "tuple") (λxs H Q=>∃p aQ,xs=[.ref p]/\((fw X.K H p aQ/\∀l,H l=C->Q (.ref l) (cO H l<|.aE aQ))\/(eC X.K H p aQ/\Q (.ref p) H))):=by
 intro ae s U H xs us Q I r h;let(p,aQ,rfl,h):=h;let(u,rfl,cJ):=vals1 r
 ext cJ
 rcases h with⟨a8,q⟩|⟨a8,q⟩
 .let(aX,bY,cm,hz):=I.list a8;let d5:=bY.H;show call_tuple_list cm.isList (λh' bP=>?_) (by erw[eL]<;>lia);let bf:aO X ae U H { s with heap:=h'}:=I.kept (t':=s.toks) bP;let cI:aO X ae U (cO H h'.E.O<|.aE aQ) { s with heap:=h'.push { cls:=.type "tuple",data:=.seq aX.D}} :=
   bf.laid (t':=s.toks) (λb o e=>dG _ e) (b3 _) (show fN X.R X.w _ _ _ (.aE aQ) from{hz,aX,bY,lK.new _ _})
  show{.ref h'.E.O,_,cI,D,q _<|bf.bE.fresh<|b3 _}
 .let(aX,bY,cm,hz):=I.tuple a8;show call_tuple_same cm {.ref p,H,I,D,q}
def Hb(K:Yk)(T:YD)(x:V)(H:aI):Prop:=match x with
 |.str _=>T = "str"
 |.int _=>T = "int"
 |.ref p=>(T = "list" /\ ∃xs,fw K H p xs)\/(T = "tuple" /\ ∃o,K.lookup p=J o/\o.cls=.type "tuple" /\ o.dict=C) \/
   (T = "dict" /\ (∃au,H p=J (.aS au)))\/(T = "set" /\ ∃cZ n,H p=J (.set cZ n))
 |_=>Ym
def Tq{ae:O Z2}{U:St}{H:aI}{s:aL}{T:YD}{x:V}{v:ay}(I:aO X ae U H s)(r:cU x v)(ty:Hb X.K T x H) :
  s.TypeIs v T/\∀a,v=.ref a->∃b2,s.heap.get? a=J b2/\b2.dict=C:=by
 induction x using a9.V.casesOn with
 |str z =>
  let(t,rfl):=r;cases (show T = "str" from ty);show{vR s z t,λ_ e=>nomatch e}
 |int i =>
  let(t,rfl):=r;cases (show T = "int" from ty);show{typeIs_int s i t,λ_ e=>nomatch e}
 |ref p =>
  ext r
  rcases ty with⟨rfl,xs,a8⟩|⟨rfl,o,aY,aN,hd⟩|⟨rfl,aY⟩|⟨rfl,cZ,n,aY⟩
  .let(aX,_,cm,_):=I.list a8;show{cm.isList.typeIs,λa e=>?_}
   ext e
   let(o,n,e,c,hd,_):=cm;show{(o),e,hd}
  .show{{o,I.ib p o aY,aN},λa e=>?_}
   ext e
   show{o,I.ib _ o aY,hd}
  .let z:∃o,s.heap.get? p=J o/\o.ExactDict:=by let(au,aY):=aY;let(_,_,_,_,o,_,_,e,ex,_):=I.bE p _ aY;show{(o),e,ex}
   let(o,e,ex):=z;show{{(o),e,ex.1},λa av=>?_}
   ext av
   show{(o),e,ex.2.1}
  .let(o,_,_,_,e,ex,_):=I.bE p _ aY;show{{(o),e,ex.1},λa av=>?_}
   ext av
   show{(o),e,ex.2.1}
 |_=>show Yz ty
def afe(K:Yk)(T:YD)(r:V->O V->aI->eW->Prop)(to:TE):TE:=λU H Q=>to U H λx H1=>Hb K T x H1/\r x [] H1 Q
def qaD(K:Yk)(T:YD)(r:V->O V->aI->eW->Prop)(to:TE)(t:ki):TE:=λU H Q=>to U H λx H1=>Hb K T x H1/\t U H1 λxs br=>r x xs br Q
variable {o e:Yd}{es:O Yd}{to:TE}{t:ki}{name:Ya}{apos dk:Yh}{T id:YD}{r:V->O V->aI->eW->Prop}
def ahh(pa:PlainAttrs T)(slot:Slot T name id)(Hc:typeOf (.builtin id)=pure (.type "method_descriptor"))(hm:MR X id r)(aV:dH X o to)
  (jo:X9 (mU o name X.I (Ur o X.I)=Ur o X.I) bo) (jq:X9 ((apos.endLine==dk.line)=Y0) bo):dH X (.Call (.Attribute o name apos) [] [] dk)<|afe X.K T r to:=by
 intro ae s U H Q I h;show FO jo jq (bZ (aV ae s U H _ I h) λv s1 ⟨x,H1,bf,bp,ty,aR⟩=>?_);let(af,ao):=Tq bf bp ty;show{T,id,pa,slot,Hc,af,ao,qf D<|PySem.evalArgs_none<|hm ae s1 U H1 x [] v [] Q bf bp .nil aR}
def EK(pa:PlainAttrs T)(slot:Slot T name id)(Hc:typeOf (.builtin id)=pure (.type "method_descriptor"))(hm:MR X id r)(aV:dH X o to)(bx:m3 X (e::es) t)
  (jo:X9 (mU o name X.I (Ur o X.I)=Ur o X.I) bo)
  (vf:X9 (((fE dk<|cc (e::es) X.I).all (λx=>!x.1)&&(vV dk<|vP [] X.I).all (λx=>x.1.isSome)
   && decide ((e::es).H+([]:O mZ).H+(if([]:O mZ).isEmpty then 0 else 1)<30))=Y0) bo)
  (jq:X9 ((apos.endLine==dk.line)=Y0) bo) (aM:X9 (cc (e::es) X.I=(Y1,Ur e X.I)::cc es X.I) bo) (vq:X9 ((fE dk<|cc es X.I).any (·.1)=Y1) bo) :
  dH X (.Call (.Attribute o name apos) (e::es) [] dk) (qaD X.K T r to t):=by
 intro ae s U H Q I h;show wpAny_Call_method_late jo vf jq D (bZ (aV ae s U H _ I h) λv s1 ⟨x,H1,bf,bp,ty,aR⟩=>?_);let(af,ao):=Tq bf bp ty;show{T,id,pa,slot,Hc,af,ao,?_};let dt:=bx dk ae s1 U H1 _ bf aR;rw[aM]at dt |-;show qf (by show(Y1||(fE dk (cc es X.I)).any (·.1))=Y1;rw[vq]<;>rfl) (tD ?_);show bZ dt λus s2 ⟨aa,br,cI,b8,a4⟩=>hm ae s2 U br x aa v us Q cI bp b8 a4
end
def Hd(X:bL)(id:YD)(r:V->O V->aI->eW->Prop):Prop :=
 ∀(ae:O Z2) (s:aL) (U:St) (H:aI) (x:V) (xs:O V) (v:ay) (us:O ay) (Q:eW),aO X ae U H s->cU x v->cA xs us->r x xs H Q ->
  ba Z3 X.A (call (.builtin id)<|v::us) (fH X ae U Q) X.cu s
def cA.one:∀{x:V} {us:O ay},cA [x] us->∃u,us=[u]/\cU x u:=by intro x us h;cases h with|cons r h=>cases h;show{_,D,r}
def cA.two:∀{x y:V} {us:O ay},cA [x,y] us->∃u v,us=[u,v]/\cU x u/\cU y v:=by intro x y us h;cases h with|cons r h=>cases h with|cons q h=>cases h;show{_,_,D,r,q}
theorem cA.reverse(h:cA xs us):cA xs.reverse us.reverse:=by
 induction h with
 |nil=>show .nil
 |cons r t aT=>rw[Bf,Bf];show cA.append aT<|.cons r .nil
theorem cA.rep(h:cA xs us):∀k:Y,cA (Yj k xs).flatten (Yj k us).flatten
 |0=>.nil
 |k+1=>by rw[l7,l7,rz,rz];show cA.append h<|cA.rep h k
theorem foldl_rep(aX:O ay):∀(k:Y) (Fa:O ay),
  K9 (λx1 x2=>x1++x2) Fa.D (Yj k aX.D)=(Fa++(Yj k aX).flatten).D
 |0,Fa=>by simp
 |k+1,Fa=>by
  let e:Fa.D++aX.D=(Fa++aX).D:=by simp
  let av:(Fa++aX)++(Yj k aX).flatten=Fa++(Yj (k+1) aX).flatten:=by rw[l7,rz,hj]
  rw[<-av,<-foldl_rep aX k (Fa++aX),<-e,l7,jR]
section
variable {X:bL}{ae:O Z2}{U:St}{H:aI}{s:aL}{l b:X7}{xs aQ zs:O V}
def aO.Kg{aX its':O ay}{n:Y}{f:Ye ay->Ye ay}{t':Y}(I:aO X ae U H s)(m6:H l=J (.aj xs))
  (e:s.heap.get? l=J { cls:=.type "list",data:=.seq aX.D n}) (hf:f aX.D=its'.D) (bX:cA aQ its') (hz:aQ.H<=c3) :
  aO X ae U (cO H l<|.aj aQ) { s with heap:=s.heap.update l (UJ f),toks:=t'}:=by
 let q:=PySem.IsL.update e f;rw[hf]at q;show I.write (x:=l) (by rw[m6];show trivial) (λjx u aq b1=>(rG s.Q (UJ f)<|Yw aq).trans b1) {_,q} ?_;show{hz,its',_,bX,q}
def aO.R6{t':Y}(I:aO X ae U H s)(bX:cA aQ aX)(hz:aQ.H<=c3) :
  aO X ae U (cO H s.L<|.aj aQ) { s with heap:=s.heap.push { cls:=.type "list",data:=.seq aX.D},toks:=t'} :=
 I.laid (λ_ _ q=>dG _ q) (b3 _) {hz,aX,0,bX,fa _ D}
theorem aO.fresh(I:aO X ae U H s):H s.L=C:=I.bE.fresh<|b3 _
def aO.Kh(I:aO X ae U H s)(m6:H l=J (.aj xs)):xs.H<=c3/\∃(aX:O ay) (n:Y),cA xs aX/\xs.H=aX.H/\s.heap.get? l=J { cls:=.type "list",data:=.seq aX.D n}:=by let(z,aX,n,r,e):=I.bE l _ m6;show{(z),aX,n,r,r.H,e}
def akX{n:Y}(h:n<=c3):Lh n=Y1:=by delta Lh;show K1<|rE h
end
section
variable {X:bL}
def ai3:V->O V->aI->eW->Prop:=λx aa H Q=>∃l xs y,x=.ref l/\aa=[y]/\H l=J (.aj xs)/\xs.H<c3/\Q .bR (cO H l<|.aj<|xs++[y])
def Cv:Hd X "list.append" ai3:=by
 intro ae s U H x aa v us Q I cJ bb h;let(l,xs,y,rfl,rfl,m6,hz,q):=h
 ext cJ
 let(u,rfl,eF):=bb.one;let(z,aX,n,r,aC,e):=I.Kh m6;show mV F.slot_list_append {_,e,D} F.entry_list_append (F.args_list_append_2 _ _) (PySem.list_append l aX.D n u<|by rw[eL];lia) {e,?_};show{.bR,_,I.Kg (its':=aX++[u]) m6 e Z6 (r.append<|.cons eF .nil) ?_,D,q};rw[hM,xZ];show hz
def Tr:V->O V->aI->eW->Prop:=λx aa H Q=>∃l xs,x=.ref l/\aa=[]/\H l=J (.aj xs)/\Q .bR (cO H l<|.aj [])
def len_rep{α:Type}(xs:O α)(k:Y):(Yj k xs).flatten.H=k*xs.H:=by
 induction k with
 |zero=>simp
 |succ k aT=>rw[l7,rz,hM,aT,oX,vF]
end
section
variable {prog:di}{w:cL}{A:dz}{E:ay->aL->Prop}{s:aL}
set_option maxRecDepth 100000 in
end
section
variable {κ:Type}[DecidableEq κ]
noncomputable def oG(au:O<|κ×V)(k:κ):X8 V:=(au.find? λc4=>decide (c4.1=k)).map (·.2)
noncomputable def il(au:O<|κ×V)(k:κ)(v:V):O (κ×V) :=
 if(au.any λc4=>decide (c4.1=k))=Y0 then au.map (λc4=>if c4.1=k then(c4.1,v) else c4) else au++[(k,v)]
def MU{p:κ×V}{r:O<|κ×V}{k:κ}(e:p.1=k):oG (p::r) k=J p.2:=by simp[oG,oT,e]
def MV{p:κ×V}{r:O<|κ×V}{k:κ}(e:¬p.1=k):oG (p::r) k=oG r k:=by simp[oG,oT,e]
def MW(au:O<|κ×V)(k:κ)(v:V):(il au k v).H<=au.H+1:=by
 delta il;split
 .rw[cj];show hF _ _
 .rw[hM,d4,Bi];show b3 _
theorem xM.getD(r:xM o u)(tO:cU d d'):cU (o.getD d)<|u.getD d':=by
 cases o with
 |none=>cases u with
  |none=>show tO
  |some _=>show(show Ym from r).elim
 |some _=>cases u with
  |none=>show(show Ym from r).elim
  |some _=>show r
def e6.val(r:e6 au aa)(k:κ):xM (oG au k)<|tK aa k:=by
 delta e6 at r
 induction r with
 |nil=>show KR
 |@cons p q ps tP h t aT =>
  let(af,ao):=h;by_cases e:p.1=k
  .let bH:q.1=k:=af.symm.trans e;let b:tK (q::tP) k=J q.2:=by simp[tK,oT,bH]
   rw[MU e,b];show ao
  .let bH:¬q.1=k:=λz=>e<|af.trans z;let b:tK (q::tP) k=tK tP k:=by simp[tK,oT,bH]
   rw[MV e,b];show aT
theorem e6.any(r:e6 au aa)(k:κ):(au.any λc4=>decide (c4.1=k))=aa.any λc4=>decide (c4.1=k):=by
 delta e6 at r
 induction r with
 |nil=>rfl
 |cons h t aT=>rw[oU,oU,aT,h.1]
def e6.aff(r:e6 au aa)(k:κ)(d8:cU y u) :
  e6 (au.map λc4=>if c4.1=k then(c4.1,y) else c4) (aa.map λc4=>if c4.1=k then(c4.1,u) else c4):=by
 delta e6 at r |-
 induction r with
 |nil=>show .nil
 |@cons p q ps tP h t aT =>
  rw[cD,cD];show .cons ?_ aT;let(af,ao):=h;by_cases e:p.1=k
  .rw[Y2 e,Y2<|af.symm.trans e];show{(af),d8}
  .rw[Y3 e,Y3 λz=>e<|af.trans z];show{(af),ao}
def e6.put(r:e6 au aa)(k:κ)(d8:cU y u):e6 (il au k y)<|o9 aa k u:=by
 delta il o9;rw[r.any k];by_cases e:(aa.any λc4=>decide (c4.1=k))=Y0
 .rw[Y2 e,Y2 e];show r.aff k d8
 .rw[Y3 e,Y3 e];show Paired.snoc r {(D),d8}
def e6.length{au:O<|κ×V}{aa:O<|κ×ay}(r:e6 au aa):au.H=aa.H:=KQ r
end
def wX(r:cU (eH k) u):(gF P w).is k u=Y0:=by
 cases k with
 |inl i=>let(t,e):=(show ∃t,u=Value.int i t from r);subst e;show qad P w i t
 |inr x=>let(t,e):=(show ∃t,u=Value.str x t from r);subst e;show qae P w x t
section
variable {P:di}{w:cL}{H:aI}{h:Yg}{a:X7}
def af1(ok:eY P w H h)(e:hQ H a u):fN P w H h a u:=e.ok ok
def iA(ok:eY P w H h)(e:hQ H a<|.aS au):au.H<=c3/\(a==md)=Y1/\∃aa,e6 au aa/\h.DictOf (gF P w) a aa :=
 show fN P w H h a (.aS au) from af1 ok e
def SG(ok:eY P w H h)(e:H a=J (.aS au)):au.H<=c3/\(a==md)=Y1/\∃aa,e6 au aa/\h.DictOf (gF P w) a aa:=iA ok<|.inl e
end
def vg(H:aI)(a:X7)(y:V)(r:X8 V):Prop :=
 ∃au k,hQ H a (.aS au)/\y=eH k/\r=oG au k
def AR(H:aI)(a:X7)(y v:V)(ak:aI):Prop :=
 ∃au k,H a=J (.aS au)/\y=eH k/\au.H<c3/\ak=cO H a (.aS<|il au k v)
theorem AR.k{k:Key}(e:H a=J (.aS au))(aC:au.H<c3):AR H a (eH k) v<|cO H a<|.aS<|il au k v:={(au),k,e,D,aC,D}
section
variable {X:bL}{ae:O Z2}{U:St}{H:aI}{s:aL}{a:X7}{y v:V}{u r:ay}{o:X8 V}{A:dz}{E:ay->aL->Prop}
def aO.bl(I:aO X ae U H s):md<s.L:=by let h:kg<s.L:=(I.mod.glob.keeps I.e1).lt;show vG Z0 h
def qaE(b1:A.units+1<fh)(I:aO X ae U H s)(g:vg H a y<|some v)(d8:cU y u)(h:∀eM s',aO X ae U H s'->cU v eM->Q eM s') :
  ba Z3 A (mY (.ref a) u) Q E s:=by
 let(au,k,e,hx,l):=g;subst hx;let(z,hd,aa,rel,dd):=iA I.bE e;let(eM,hw,kB):=xM.some_of (v:=v) (o:=tK aa k) (by rw[l];show rel.val k);show wpAny_getItem_of (wX d8) dd.mapOf hw<|h eM _ (I.tok _) kB
def He{t':Y}(I:aO X ae U H s)(jU:za<|H a)(aM:Vh a s.Q h')(he:∃q,h'.get? a=J q)(new:fN X.R X.w (cO H a b2) h' a b2) :
  aO X ae U (cO H a b2) { s with heap:=h',toks:=t'} :=
 I.write (x:=a) jU (λb q aq z=>(aM.2 b aq).trans z) he new
def Cw(z:au.H<=c3)(hd:(a==md)=Y1)(rel:e6 au aa)(dd:h'.DictOf (gF P w) a aa) :
  fN P w ak h' a (.aS au):={(z),hd,aa,rel,dd}
def qaF(b1:A.units+1<fh)(I:aO X ae U H s)(g:AR H a y v ak)(d8:cU y u)(bb:cU v r)(h:∀s',aO X ae U ak s'->Q () s') :
  ba Z3 A (setItem (.ref a) u r) Q E s:=by
 let(au,k,e,hx,l,yE):=g;subst hx yE;let(z,hd,aa,rel,dd):=SG I.bE e;let hz:aa.H<=c3:=by rw[<-rel.H];show z
 let aC:(il au k v).H<=c3:=by let:=MW au k v;show bF this l
 show wpAny_setItem_pairs (hsz:=hz) (wX d8) dd λh' oa aM=>h _ ?_;let he:∃q,h'.get? a=J q:=let ⟨q,_,_,a8,_⟩:=oa;{(q),a8}
 show He I (by rw[e];show KR) aM he<|Cw aC hd (rel.put k bb) oa
end
section
variable {X:bL}{ae:O Z2}{U:St}{H:aI}{s:aL}{a:X7}{au:O<|Key×V}{k:Key}{u:ay}{A:dz}{E:ay->aL->Prop}
def af2(I:aO X ae U H s)(e:hQ H a<|.aS au)(h:∀t s',aO X ae U H s'->Q (.int au.H t) s'):ba Z3 A (call (.builtin "len") [.ref a]) Q E s:=by let(z,hd,aa,rel,dd):=iA I.bE e;show call_len_dict hd dd (by rw[<-rel.H];rw[kR]at z;lia) ?_;rw[<-rel.H];show h _ _<|I.tok _
def ai4{Q:Yc->aL->Prop}(I:aO X ae U H s)(e:hQ H a<|.aS au)(h:∀s',aO X ae U H s'->Q (!au.isEmpty) s'):ba Z3 A (truthy<|.ref a) Q E s:=by
 let(z,hd,aa,rel,dd):=iA I.bE e;show wpAny_truthy_dict hd dd (by rw[<-rel.H];rw[kR]at z;lia) ?_;let q:au.isEmpty=aa.isEmpty:=by ext rel<;>rfl
 rw[<-q];show h _<|I.tok _
end
def qaG{X:bL}{ae:O Z2}{U:St}{H:aI}{s:aL}{a:X7}{y:V}{o:X8 V}(I:aO X ae U H s)(g:vg H a y o):s.TypeIs (.ref a) "dict":=by let(au,k,e,_,_):=g;let(_,_,aa,_,dd):=iA I.bE e;show dd.typeIs
def Hf(h:Yg)(aq:md<h.E.O):fN P w H (h.push { cls:=.type "dict",data:=.dict #[]}) h.E.O (.aS []) :=
 {f9 _,beq_eq_false_iff_ne.mpr<|Yw<|eE aq,[],.nil,Heap.DictOf.new h}
def ahi:TE:=λ_ H Q=>∀p,H p=C->Q (.ref p) (cO H p<|.aS [])
section
variable {X:bL}{pos:Yh}
def akY:dH X (.Dict [] [] pos) ahi:=λae s U H Q I h =>
 wpAny_Dict_empty {.ref s.L,_,I.laid (a:=s.L) (o:=.aS []) (t':=s.toks) (λ_ _ q=>dG _ q) (b3 _)<|Hf s.Q I.bl,D,h _<|I.bE.fresh<|b3 _}
end
def Hg:O (TE×TE)->St->aI->(O (V×V)->aI->Prop)->Prop
 |[],_,H,Q=>Q [] H
 |(tk,g8)::r,U,H,Q=>tk U H λx H1=>g8 U H1 λy br=>Hg r U br λps dr=>Q ((x,y)::ps) dr
abbrev Lz:O (V×V)->O (ay×ay)->Prop:=Paired λp q=>cU p.1 q.1/\cU p.2 q.2
def Cx(X:bL)(pos:Yh)(keys:O<|X8 Yd)(values:O Yd)(ur:O<|TE×TE):Prop :=
 ∀(ae:O Z2) (s:aL) (U:St) (H:aI) (Q:O (V×V)->aI->Prop),aO X ae U H s->Hg ur U H Q ->
  ba Z3 X.A (evalPairs<|pairTrees keys values X.I pos) (λaa s'=>∃ps ak,aO X ae U ak s'/\Lz ps aa/\Q ps ak) X.cu s
def ai5:Cx X pos [] [] []:=λae s U H Q I h=>pairTrees_nil_walk {[],H,I,.nil,h}
def akZ(aY:dH X k tk)(bX:dH X v g8)(hr:Cx X pos ks aa ur) :
  Cx X pos (J k::ks) (v::aa) ((tk,g8)::ur):=λae s U H Q I h =>
 pairTrees_cons_walk (bZ (aY ae s U H _ I h) λu s1 ⟨x,H1,bf,cJ,aR⟩=>bZ (bX ae s1 U H1 _ bf aR) λgC s2 ⟨y,br,cI,d8,a4⟩ =>
  bZ (hr ae s2 U br _ cI a4) λws s3 ⟨ps,dr,fz,rel,cQ⟩=>{(x,y)::ps,dr,fz,.cons {(cJ),d8} rel,cQ})
def wY(au Um:O<|Key×V):O<|Key×V:=Um.foldl (λFa c4=>il Fa c4.1 c4.2) au
def e6.merge:∀{Um:O (Key×V)} {rs:O (Key×ay)} {au:O (Key×V)} {aa:O (Key×ay)},e6 Um rs->e6 au aa->e6 (wY au Um) (merged aa rs):=by
 intro Um rs au aa r;delta e6 at r
 induction r generalizing au aa with
 |nil=>intro q;show q
 |@cons p q ps tP h t aT =>
  intro BS;let e:e6 (il au p.1 p.2)<|o9 aa q.1 q.2:=by let:=BS.put p.1 h.2;rw[<-h.1];show this
  show aT e
theorem MX:∀(Um au:O (Key×V)),(wY au Um).H<=au.H+Um.H
 |[],au=>by show au.H<=au.H+0;show b3 _
 |p::r,au=>by let af:=MX r<|il au p.1 p.2;let ao:=MW au p.1 p.2;show(wY (il au p.1 p.2) r).H<=_;rw[d4];lia
theorem MY:∀{au:O (Key×V)} {ws:O (ay×ay)},Lz (au.map λc4=>(eH c4.1,c4.2)) ws->∃rs,Carries (gF P w) ws rs/\e6 au rs
 |[],_,r=>by rw[tn]at r;ext r;show⟨[],KR,.nil⟩
 |p::au,_,r=>by
  rw[cD]at r;cases r with
  |@cons a b as bs h t =>
   let(rs,c,q):=MY (P:=P) (w:=w) t;let(bT,cb):=b;show{(p.1,cb)::rs,{wX h.1,D,c},.cons {(D),h.2} q}
def af3(ur:O<|TE×TE):TE:=λU H Q=>∀p,H p=C->Hg ur U (cO H p<|.aS []) λps br=>br p=J (.aS [])/\∃au:O (Key×V),ps=au.map (λc4=>(eH c4.1,c4.2))/\au.H<=15/\Q (.ref p) (cO br p<|.aS<|wY [] au)
def ai6(h:Cx X pos keys values ur)(vh:keys.all (·.isSome)=Y0)(aC:keys.H=values.H)(h0:keys≠[])
  (Yv:keys.H<=15):dH X (.Dict keys values pos)<|af3 ur:=by
 intro ae s U H Q I q;let bq:=I.bE.fresh<|b3 s.L;let bf:=I.laid (a:=s.L) (o:=.aS []) (h':=s.heap.push { cls:=.type "dict",data:=.dict #[]}) (t':=s.toks) (λ_ _ q=>dG _ q) (b3 _)<|Hf s.Q I.bl;show wpAny_Dict_walk (knd:=gF X.R X.w) vh aC h0 Yv (bZ (h ae _ U _ _ bf<|q _ bq) λws s2 ⟨ps,br,cI,rel,e,au,ep,kl,a4⟩=>?_);subst ep;let(rs,c,rk):=MY (P:=X.R) (w:=X.w) rel;let(z,hd,anl,BS,dd):=SG cI.bE e
 ext BS
 show{rs,c,dd,λh' oa aM=>{.ref s.L,_,?_,D,a4}};let hz:(wY [] au).H<=c3:=by let af:=MX au [];rw[Bi]at af;rw[kR];lia
 let he:∃q,h'.get? s.L=J q:=let ⟨q,_,_,a8,_⟩:=oa;{(q),a8}
 show He cI (by rw[e];show KR) aM he<|Cw hz hd (rk.merge .nil) oa
structure yF (X:bL) (o:Yd) (m:Ya) (apos:Yh) (e:Yd) (dk:Yh):Prop where
 base:mU o m X.I (Ur o X.I)=Ur o X.I
 mv:((fE dk<|cc [e] X.I).all (λx=>!x.1)&&(vV dk<|vP [] X.I).all (λx=>x.1.isSome)
  && decide (([e]:O Yd).H+([]:O mZ).H+(if([]:O mZ).isEmpty then 0 else 1)<30))=Y0
 line:(apos.endLine==dk.line)=Y0
 trees:fE dk (cc [e] X.I)=[(Y1,Ur e X.I)]
structure M2 (X:bL) (o:Yd) (m:Ya) (apos:Yh) (e f:Yd) (dk:Yh):Prop where
 base:mU o m X.I (Ur o X.I)=Ur o X.I
 mv:((fE dk<|cc [e,f] X.I).all (λx=>!x.1)&&(vV dk<|vP [] X.I).all (λx=>x.1.isSome)
  && decide (([e,f]:O Yd).H+([]:O mZ).H+(if([]:O mZ).isEmpty then 0 else 1)<30))=Y0
 line:(apos.endLine==dk.line)=Y0
 trees:fE dk (cc [e,f] X.I)=[(Y1,Ur e X.I),(Y1,Ur f X.I)]
def Hh(H:aI)(a:X7):Prop:=∃au,hQ H a<|.aS au
def Ts{X:bL}{ae:O Z2}{U:St}{H:aI}{s:aL}{a:X7}(I:aO X ae U H s)(d:Hh H a) :
  s.TypeIs (.ref a) "dict" /\ (∀b,Uu a=.ref b->∃b2,s.heap.get? b=J b2/\b2.dict=C)/\(a==md)=Y1:=by
 let(au,e):=d;let(_,hd,aa,_,dd):=iA I.bE e;show{dd.typeIs,λb q=>?_,hd};cases q;let(b2,_,_,af,ao,_):=dd;show{(b2),af,ao.2.1}
section
variable {X:bL}{ae:O Z2}{U:St}{H:aI}{s:aL}{a:X7}{y d:V}{u r:ay}{o:X8 V}{A:dz}{E:ay->aL->Prop}
def ahj(b1:A.units+1<fh)(I:aO X ae U H s)(g:vg H a y o)(d8:cU y u)(h:∀eM s',aO X ae U H s'->cU (o.getD .bR) eM->Q eM s') :
  ba Z3 A (call (.builtin "dict.get") [.ref a,u]) Q E s:=by
 let(au,k,e,hx,l):=g;subst hx;let(z,hd,aa,rel,dd):=iA I.bE e;show BI PySem.F.slot_dict_get dd.typeIs PySem.F.entry_dict_get (PySem.F.args_dict_get_2 _ _) (meets_dict_get (gF X.R X.w) a (wX d8) hd) {_,dd.mapOf,h _ _ (I.tok _) ?_};rw[l];show(rel.val k).getD D
def ahk(b1:A.units+1<fh)(I:aO X ae U H s)(g:vg H a y o)(d8:cU y u)(tO:cU d r)(h:∀eM s',aO X ae U H s'->cU (o.getD d) eM->Q eM s') :
  ba Z3 A (call (.builtin "dict.get") [.ref a,u,r]) Q E s:=by
 let(au,k,e,hx,l):=g;subst hx;let(z,hd,aa,rel,dd):=iA I.bE e;show BI PySem.F.slot_dict_get dd.typeIs PySem.F.entry_dict_get (PySem.F.args_dict_get_3 _ _ _) (meets_dict_get_default (gF X.R X.w) a (wX d8) hd r) {_,dd.mapOf,h _ _ (I.tok _) ?_};rw[l];show(rel.val k).getD tO
end
def ahl(km ty:TE):TE:=λU H Q=>km U H λx H1=>∃a,x=.ref a/\Hh H1 a/\ty U H1 λy br=>∃o,vg br a y o/\Q (o.getD .bR) br
def ahm(km ty ql:TE):TE:=λU H Q=>km U H λx H1=>∃a,x=.ref a/\Hh H1 a/\ty U H1 λy br=>ql U br λz dr=>∃o,vg dr a y o/\Q (o.getD z) dr
section
variable {X:bL}{o e f:Yd}{apos dk:Yh}{km ty ql:TE}
def ak0(b1:X.A.units+1<fh)(aV:dH X o km)(he:dH X e ty)(m:yF X o "get" apos e dk):dH X (.Call (.Attribute o "get" apos) [e] [] dk)<|ahl km ty:=by intro ae s U H Q I h;show yo m.d m.mv m.line PySem.F.plainAttrs_dict PySem.F.slot_dict_get PySem.F.type_dict_get (bZ (aV ae s U H _ I h) λu s1 ⟨x,H1,bf,cJ,a,ex,d,aR⟩=>?_);subst ex;obtain rfl:u=Uu a:=cJ;let(t1,eB,_):=Ts bf d;show{t1,eB,?_};rw[m.trees];show qf D<|tD<|i0 (bZ (he ae s1 U H1 _ bf aR) λhv s2 ⟨y,br,cI,d8,hu,g,a4⟩=>ly ?_);show ahj b1 cI g d8 λeM s3 fz kB=>{_,br,fz,kB,a4}
def ak1(b1:X.A.units+1<fh)(aV:dH X o km)(he:dH X e ty)(hf:dH X f ql)(m:M2 X o "get" apos e f dk):dH X (.Call (.Attribute o "get" apos) [e,f] [] dk)<|ahm km ty ql:=by
 intro ae s U H Q I h;show yo m.d m.mv m.line PySem.F.plainAttrs_dict PySem.F.slot_dict_get PySem.F.type_dict_get (bZ (aV ae s U H _ I h) λu s1 ⟨x,H1,bf,cJ,a,ex,d,aR⟩=>?_);subst ex;obtain rfl:u=Uu a:=cJ;let(t1,eB,_):=Ts bf d;show{t1,eB,?_};rw[m.trees]
 show qf D (tD (i0 (bZ (he ae s1 U H1 _ bf aR) λhv s2 ⟨y,br,cI,d8,a4⟩ =>
  i0 (bZ (hf ae s2 U br _ cI a4) λam0 s3 ⟨z,dr,fz,Ut,hu,g,cQ⟩=>ly ?_))))
 show ahk b1 fz g d8 Ut λeM s4 gU kB=>{_,dr,gU,kB,cQ}
end
section
variable {X:bL}{ae:O Z2}{U:St}{H:aI}{s:aL}{a:X7}{au:O<|Key×V}{A:dz}{E:ay->aL->Prop}
def ak2(I:aO X ae U H s)(e:hQ H a<|.aS au)(h:∀p s',H p=C->aO X ae U (cO H p<|.aS au) s'->Q (.ref p) s'):ba Z3 A (call (.type "dict") [.ref a]) Q E s:=by let(z,hd,aa,rel,dd):=iA I.bE e;show kt_call_dict hd dd (by rw[<-rel.H];show z) λh' oa aM=>?_;show h _ _ (I.bE.fresh<|b3 _)<|I.laid (a:=s.L) (o:=.aS au) (t':=s.toks) (λb q a8=>?_) (b3 _)<|Cw z (beq_eq_false_iff_ne.mpr<|Yw<|eE I.bl) rel oa;show(aM.2 b<|eE<|d6 a8).trans (dG _ a8)
end
end a9
namespace MZ
open PySem PySem.W PySem.Calls PyProof.Rows
def qaH:∀(ns:O X6) (aa:O ay),WellAll P h aa (ns.map WData.int)->gf aa ns:=by
 intro ns
 induction ns with
 |nil =>
  intro aa w;rw[tn]at w
  ext w
  show .nil
 |cons n ns aT =>
  intro aa w;rw[cD]at w;cases w with
  |cons a b =>
   ext a
   show .cons _ _<|aT _ b
def qaI{l:OpenLaw}{n:Y}(bq:l.most=J n){P:Params}{args:O WData}
  (Es:l.row.toRowW.claim.pre args=Y0) (Cy:WellAll P h vals args) :
  ∃a aa ns,vals=[Uu a]/\args=[WData.list<|ns.map WData.int]/\h.get? a=J { cls:=.type "list",data:=.seq aa.D}/\gf aa ns/\ns.H<=n:=by
 let Yy:WShape.hasAll [] args [.list .int]=Y0:=(pre_splitW Es).1;let aN:l.pre.holds [] { args:=args}=Y0:=(pre_splitW Es).2;let(d,r,rfl,af,ao):=hasAllW_cons Yy;obtain rfl:=hasAllW_nil ao;let(xs,rfl,a6):=hasW_list af;let(ns,rfl):=items_int a6;let d5:ns.H<=n:=by
  delta OpenLaw.pre at aN;let cS:(WTm.not<|.lt (.lit<|.int (n:X6))<|.len<|.arg 0).holds [] { args:=[.list<|ns.map .int]}=Y0:=by let cS:=(holds_andW aN).1;rw[bq]at cS;show cS
  let fB:=condW_of cS<|w_not<|w_lt w_lit<|w_len_list<|w_arg D;rw[cj]at fB;show g4 λq=>?_;let ee:(n:X6)<((ns.H:Y):X6):=by lia
  first
   |(rw[XQ ee]at fB;show Yi fB Z0)
   |(simp at fB;lia)
 cases Cy with
 |cons fs gC =>
  ext gC
  cases fs with
  |list aV vh=>show{_,_,ns,D,D,aV,qaH ns _ vh,d5}
def qaJ(l:OpenLaw)(args:O WData):l.row.toRowW.claim.post args (.bool Y0) args=Y0 :=
 postW_of (r:=l.row.toRowW) (X:=(Y0==Y0))
  (show WShape.has [] (.bool Y0) .bool=Y0 by first|rfl|decide|simp[WShape.has,WShape.arms,WShape.armsAll])
  (show(WTm.eq .res<|.lit<|.bool Y0).value [] { args:=args,res:=J<|.bool Y0,after:=args}=J (.bool<|true==Y0) from w_eq_bool (w_res D) w_lit) D
def amV{l:OpenLaw}{n:Y}{wg:(Ya->X8 ay)->Yg->Prop}{rV:cL->Yg->Prop}{d:DefRec}
  (bq:l.most=J n) (sj:d.params.defaults=[])
  (call:∀(w:cL) (cH dO:aL) (bj kV:Ya->X8 ay) (e8:X7) (o:Yp) (pm cd doc:ay) (a:X7) (aa:O ay) (ns:O X6),
   Ground q loose [] wg w cH bj kV dO.Q->rV w dO.Q ->
   dO.heap.get? e8=J o->o.e=.func (docDef d.name d.params d.body d.Y pm cd doc)->dO.heap.CodeRec cd d.name->bj d.name=J (.ref e8) ->
   dO.heap.get? a=J { cls:=.type "list",data:=.seq aa.D}->gf aa ns->ns.H<=n->dO.gens=#[] ->
   kS (bg l.R w) rO (.call (.ref e8) {[.ref a],[]}) (λr s'=>r=.ok (.ret<|.bool Y0)/\OldK dO.Q s'.Q/\s'.os=dO.os/\nX s'.gens) dO) :
  WalkO q loose wg rV l.row.toRowW d [] (λf aa=>PySem.call f aa):=by
 intro w cH dO bj kV G Lj e8 o pm cd doc wc eH aV hd f3 hT zm bQ args vals as Es anC M0 Cy M1;obtain rfl:wc=.none:=Dflts.none hT sj;obtain rfl:eH=.none:=Dflts.noKw hT;let(a,aa,ns,rfl,rfl,Ki,hints,d5):=qaI bq Es Cy;show enter_call (rK (call w cH dO bj kV e8 o pm cd doc a aa ns G Lj aV (fd_plain hd) f3 zm Ki hints d5 bQ) λr s' a8=>?_);let(rfl,ao,a6,cS):=a8;show{.inl {.bool Y0,.bool Y0,[],D,λ_=>D,.bool Y0,qaJ l _,λ_=>{List.Pairwise.nil,λ_ hm=>(nomatch hm)}},ao,a6,cS}
end MZ
namespace a9
open PySem PySem.Spec PyProof.Rows
theorem ob:∀{aa:O ay} {ns:O X6},gf aa ns->cA (ns.map V.int) aa
 |_,_,.nil=>.nil
 |_,_,.cons n t h=>.cons {(t),D}<|ob h
def Kj(H:aI):Prop:=∀b,H b=C\/∃o xs,H b=J (.d3 o<|.aj xs)
def ak3{P:di}{w:cL}{K:Yk}{bj kV:Ya->X8 ay}{CX:n8}{k:Y}{e8 a:X7}{fd:i2}{x:Ya}{sp:kX}{dO:aL}{aa:O ay}{ns:O X6}
  (i5:K.In dO.Q) (qM:dO.heap.Ns kg bj) (aq:dO.heap.Ns builtinsNs kV) (YA:∀x:Ya,x ≠ "__name__" -> kV x=nV x) (afg:dO.Q.NoLimit) (bQ:dO.gens=#[])
  (bx:dO.heap.get? a=J { cls:=.type "list",data:=.seq aa.D}) (hi:gf aa ns) (aC:ns.H<=c3) (hr:fb k rO)
  (F:∀base:Yg,K.In base->base.Ns kg bj->j9 P w K bj base CX k e8 fd [x] sp) (af4:∀(s:aL) (u:ay),vX s fd {[u],[]} [(x,u)])
  (n9:∀H:aI,Kj H->fw K H a (ns.map V.int)->sp [.ref a] H (λv _=>v=.a5 Y0) λ_ _ _=>Ym)
  (Hi:∀H e s',CX [] H dO (λ_ _ _=>Ym) e s'->Ym) :
  kS (bg P w) rO (.call (.ref e8) {[.ref a],[]}) (λr s'=>r=.ok (.ret<|.bool Y0)/\OldK dO.Q s'.Q/\s'.os=dO.os/\nX s'.gens) dO:=by
 let bb:=ob hi;let afh:=hi.H;let core:∀H:aI,Kj H->fw K H a (ns.map V.int)->eY P w H dO.Q->(∀b,H b≠C->b=a)->(H a≠C->K.lookup a=C) ->
   kS (bg P w) rO (.call (.ref e8) {[.ref a],[]}) (λr s'=>r=.ok (.ret<|.bool Y0)/\OldK dO.Q s'.Q/\s'.os=dO.os/\nX s'.gens) dO:=by
  intro H BU fc bE dt ix;let Ue:∀{b:X7} {o:Yp},dO.heap.get? b=J o->H b=C->(rl dO.Q H).get? b=J o:=λe n=>akO e n;let zk:∀{b:X7} {o:Yp} {es:Ye DictEntry} {ep:Y},dO.heap.get? b=J o->o.e=.dict es ep->H b=C:=λ{b o es ep} e d=>by
   cases q:H b with
   |none=>rfl
   |some u =>
    let bH:b=a:=dt b (by rw[q];simp);subst bH;rw[bx]at e;ext e;let d':Data.seq aa.D _=Data.dict es ep:=d
    ext d'
  let Cz:∀{b:X7} {m:Ya->X8 ay},dO.heap.Ns b m->(rl dO.Q H).Ns b m:=λ{b m} ⟨o,es,ep,e,d,r⟩=>{o,es,ep,Ue e<|zk e d,d,r}
  let M3:K.In<|rl dO.Q H:=λb o e=>Ue (i5 b o e) (by
   cases q:H b with
   |none=>rfl
   |some u =>
    let bH:b=a:=dt b (by rw[q];simp);subst bH
    rw[ix<|by rw[q];simp]at e;ext e)
  let fJ:Mod K bj<|rl dO.Q H:={M3,Cz qM,{kV,Cz aq,YA},let ⟨Gg,af,ao⟩:=afg;{Gg,Cz af,ao}}
  let eA:AQ P w K bj (rl dO.Q H) rO [] dO H:={D,fJ,λb o e=>aiO e,dK<|qaf _ _,trivial,λb aq=>Yi (show b∈([]:O X7) from aq) Z6,bE,.of_eq bQ}
  show rK ((F _ M3<|Cz qM).run rO [] dO H {[.ref a],[]} [.ref a] [.ref a] _ _ hr eA (af4 dO<|.ref a) (.cons D .nil) (n9 H BU fc)) λr s' h=>?_;cases r with
  |error e=>show(Hi H e s' h).elim
  |ok cM =>
   cases cM with
   |next=>show Yz h
   |brk=>show Yz h
   |cont=>show Yz h
   |ret u =>
    let(v,ak,os,dE,un,Kk,bY,q):=h;let ee:v=.a5 Y0:=q;subst ee;obtain rfl:u=Value.bool Y0:=bY;show{D,OldK.of_keep λb o e=>?_,os,dE};cases q:H b with
    |none=>show un.keep b o e q (by intro z;show Yi (show b∈([]:O X7) from z) Z6) Z6
    |some u =>
     rcases BU b with z|⟨b2,xs,z⟩
     .rw[q]at z;ext z
     .let da:=un.l2 b b2 _ z;let(aA,_):=bE b _ z;let(av,_):=Kk b _ da;rw[e]at aA;ext aA;show av
 cases aY:K.lookup a with
 |some o =>
  let e:=i5 a o aY;rw[bx]at e
  ext e
  show core (λ_=>C) (λ_=>.inl D) (.inr<|.inl ⟨_,aa.D,_,aY,D,D,D,by rw[eL,afh];show aC,by simpa using bb⟩) (λb u z=>by let jV:(C:X8 h4)=J u:=z;ext jV) (λb z=>Yi rfl z) λz=>Yi rfl z
 |none =>
  show core (λb=>if b=a then J (.d3 { cls:=.type "list",data:=.seq aa.D}<|.aj<|ns.map V.int) else C) (λb=>?_) (.inl<|.inr ⟨{ cls:=.type "list",data:=.seq aa.D},Y2 D⟩) (λb u z=>?_) (λb z=>?_) λ_=>aY
  .by_cases aq:b=a
   .show .inr {_,_,Y2 aq}
   .show .inl<|Y3 aq
  .by_cases aq:b=a
   .let jV:=(Y2 aq).symm.trans z
    ext jV
    subst aq;show{bx,by rw[cj];show aC,aa,_,bb,bx}
   .let jV:=(Y3 aq).symm.trans z
    ext jV
  .by_cases aq:b=a
   .show aq
   .show Yi (Y3 aq) z
def ai7{l:W.OpenLaw}{n k:Y}{q:di}{loose:O Ya}{wg:(Ya->X8 ay)->Yg->Prop}{rV:cL->Yg->Prop}{d:DefRec}{K:Params->Yk}{CX:cL->n8}{sp:cL->kX}{x:Ya}
  (bq:l.most=J n) (YB:n<=c3) (sj:d.params.defaults=[]) (hr:fb k rO)
  (Gh:∀(w:cL) (h:Yg),rV w h->(K w.params).In h)
  (F:∀(w:cL) (bj:Ya->X8 ay) (e8:X7) (h:Yg),(K w.params).In h->h.Ns kg bj->bj d.name=J (.ref e8) ->
   ∃fd:i2,(∀(s:aL) (u:ay),vX s fd {[u],[]} [(x,u)]) /\
    ∀base:Yg,(K w.params).In base->base.Ns kg bj->j9 l.R w (K w.params) bj base (CX w) k e8 fd [x] (sp w))
  (n9:∀(w:cL) (H:aI) (a:X7) (ns:O X6),ns.H<=n->Kj H->fw (K w.params) H a (ns.map V.int)->sp w [.ref a] H (λv _=>v=.a5 Y0) λ_ _ _=>Ym)
  (Hi:∀(w:cL) (H:aI) (s:aL) (e:ay) (s':aL),CX w [] H s (λ_ _ _=>Ym) e s'->Ym) :
  W.WalkO q loose wg rV l.row.toRowW d [] (λf aa=>PySem.call f aa):=by
 show MZ.amV bq sj λw cH dO bj kV e8 o pm cd doc a aa ns G Lj aV hd f3 zm Ki hints d5 bQ=>?_;let i5:=Gh w _ Lj;let(fd,aq,dV):=F w bj e8 _ i5 G.T.g zm;show ak3 i5 G.T.g G.T.b G.T.builtins G.T.nolimit bQ Ki hints (bF d5 YB) hr dV aq (λH BU fc=>n9 w H a ns d5 BU fc) λH e s'=>Hi w H dO e s'
noncomputable def oc(s:Yf):Arguments:=match s with
 |.FunctionDef _ a _ _ _ _ _ _ _ _=>a
 |_=>{ posonlyargs:=[],args:=[],vararg:=C,kwonlyargs:=[],kw_defaults:=[],kwarg:=C,defaults:=[]}
noncomputable def iB(s:Yf):O Yf:=match s with
 |.FunctionDef _ _ b _ _ _ _ _ _ _=>b
 |_=>[]
noncomputable def e2(s:Yf):ju:=match s with
 |.FunctionDef _ _ _ _ _ _ sc _ _ _=>sc
 |_=>{ kind:=.function,names:=[],isGenerator:=Y1,isCoroutine:=Y1}
abbrev j0:n8:=λ_ _ _ _ _ _=>Ym
abbrev yG:h7:=λ_ _ _=>Ym
def af5:G7 j0 X yG:=λ_ _ _ _ _ _ _ h=>h.elim
structure qN (K:Yk) (x qual:Ya) (st:Yf) (f:X7) (fd:i2):Prop where
 ex:∃(jw:ay) (hS:X8 X7) (eH doc pm:ay) (an:X8 X7) (dw eI:ay) (qJ:Ye (X8 ay)),
  fd=YW x qual (oc st) (iB st) (e2 st) .none eH doc pm an dw eI/\K.lookup f=J {jw,hS,.func fd,qJ}/\W.codeIn K dw qual=Y0
 bP:KW K (.ref f)=Y0
section
variable {P:di}{w:cL}{K:Yk}{bj:Ya->X8 ay}{base:Yg}
def qN.ok{x qual:Ya}{st:Yf}{f:X7}{fd:i2}{N ps:O Ya}{k:Y}{sp:kX}(F:qN K x qual st f fd)(cZ:mM N ps<|e2 st)(len:∀aa H Q E,sp aa H Q E->aa.H=ps.H)
  (lk:∀(dw:ay) (A:dz) (cP:O Env) (s:aL) (H:aI) (aa:O V) (Q:eW) (E:h7),fb k (A.deeper<|jv qual (e2 st) s.L f dw)->sp aa H Q E ->
   ∃t,jZ (ka j0 P w K bj base N qual (e2 st) f dw A cP s H E).nj (iB st) t/\t { bS:=λ_ ak=>Q .bR ak,aZ:=Q} (start N aa) H):j9 P w K bj base j0 (k+1) f fd ps sp:=by
 let(jw,hS,eH,doc,pm,an,dw,eI,qJ,rfl,kl,f3):=F.ex;show SE kl f3 cZ len λA cP s H aa Q E hr n9=>?_;let(t,h,q):=lk dw A cP s H aa Q E hr n9;show{(t),h.nj,q}
def qN.binds{x qual:Ya}{st:Yf}{f:X7}{fd:i2}{ps:O Ya}(F:qN K x qual st f fd)
  (h:∀(eH doc pm:ay) (an:X8 X7) (dw eI:ay) (us:O ay),us.H=ps.H->tJ (YW x qual (oc st) (iB st) (e2 st) .none eH doc pm an dw eI) {us,[]}=pure (ps.zip us)):Binds K fd ps []:=by
 let(jw,hS,eH,doc,pm,an,dw,eI,qJ,rfl,kl,f3):=F.ex;show .all<|h eH doc pm an dw eI
def ahn{x qual:Ya}{st:Yf}{f:X7}{jw:ay}{hS an:X8 X7}{qJ:Ye<|X8 ay}{eH doc pm dw eI:ay}(l:K.lookup f=J {jw,hS,.func<|YW x qual (oc st) (iB st) (e2 st) .none eH doc pm an dw eI,qJ})
  (c:W.codeIn K dw qual=Y0) (k:KW K (.ref f)=Y0):qN K x qual st f<|YW x qual (oc st) (iB st) (e2 st) .none eH doc pm an dw eI:={{(jw),hS,eH,doc,pm,an,dw,eI,qJ,D,l,c},k}
end
def Et{A B:Prop}(h:B):if Y1=Y0 then A else B:=by rw[Y3 mT];show h
def Eu{A B:Prop}(h:A):if Y0=Y0 then A else B:=by rw[Y2 D];show h
end a9
end
namespace a9.bD
open PySem
noncomputable abbrev gE:=Sum X6 Ya
inductive T where
 |bR|a5 (b:Yc)|int (i:X6)|str (x:Ya)|aE (xs:O T)|aj (xs:O T)|a3 (au:O<|gE×T)|dQ
 |b2 (a:Y)
 |eh (ks:O<|O Z1)
inductive bk where
 |az|cV|iG|ah
 deriving DecidableEq
noncomputable def iC:T->Yc
 |.aj _=>Y0
 |.a3 _=>Y0
 |.eh _=>Y0
 |_=>Y1
noncomputable abbrev bA:=O<|X8<|T×bk
abbrev bK:=bA->Y->X8 (T×bk×Y)
abbrev eX:=bA->Y->X8 (Yc×Y)
abbrev gh:=bA->Y->X8 (O T×Y)
abbrev hU:=bA->Y->X8 (O T×Y)
inductive hJ where
 |bS|e1|eI|aZ (t:T) (az:Yc)
abbrev bw:=bA->Y->X8 (hJ×bA×Y)
noncomputable abbrev c1:=O (T×Yc)->Y->X8 (T×Yc×Y)
abbrev jy:=bA->Y->X8 (O (T×Yc)×Y)
noncomputable def qm(b:Yc):bk:=match b with
 |true=>.az
 |false=>.ah
noncomputable def bl:Y:=1000000
noncomputable def look(m:bk)(t:T):bk:=match m with
 |.az=>if iC t then .iG else .ah
 |.cV=>if iC t then .cV else .ah
 |.iG=>.iG
 |.ah=>.ah
def ai(i:Y):bK:=λS n=>match S[i]? with
 |some (J (t,m))=>J (t,look m t,n)
 |_=>C
noncomputable def aS(t:T):bK:=λ_ n=>J (t,.ah,n)
noncomputable def d3(t:T)(m:bk):X8 T:=match m with
 |.az=>J t
 |.ah=>J t
 |_=>if iC t then C else J t
def cg(d:bK):bK:=λS n=>(d S n).bind λr=>(d3 r.1 r.2.1).map λt=>(t,.ah,r.2.2)
noncomputable def aw:gh:=λ_ n=>J ([],n)
noncomputable def ag(d:bK)(r:gh):gh:=λS n=>(d S n).bind λa=>(r S a.2.2).map λb=>(a.1::b.1,b.2)
noncomputable abbrev d2:=Y->O T->X8 (T×bk)
noncomputable def aB(g:d2)(a:gh):bK:=λS n=>(a S n).bind λr=>(g r.2 r.1).map λx=>(x.1,x.2,r.2)
def flag(m:bk)(t:T):Yc:=match m with
 |.az=>Y0
 |.ah=>Y0
 |_=>!iC t
noncomputable def bz:jy:=λ_ n=>J ([],n)
def aG(d:bK)(r:jy):jy:=λS n=>(d S n).bind λa=>(r S a.2.2).map λb=>((a.1,flag a.2.1 a.1)::b.1,b.2)
def bB(e4:Y)(f:c1)(a:jy):bK:=λS n=>(a S n).bind λr=>if r.1.H=e4 then(f r.1 r.2).map λx=>(x.1,qm x.2.1,x.2.2) else C
def eD(a:gh):bK:=λS n=>(a S n).bind λr=>if r.1.H<=bl then J (.aE r.1,.ah,r.2) else C
def et(a:gh):bK:=λS n=>(a S n).bind λr=>if r.1.H<=bl then J (.aj r.1,.az,r.2) else C
noncomputable def uu(c:eX)(a b:bK):bK:=λS n=>(c S n).bind λr=>if r.1 then a S r.2 else b S r.2
noncomputable def uv(a b:bK):bK:=λS n=>(a S n).bind λr=>match r.1 with
 |.a5 Y0=>b S r.2.2
 |.a5 Y1=>J (.a5 Y1,.ah,r.2.2)
 |_=>C
noncomputable def k6:T->X8 Yc
 |.bR=>J Y1
 |.a5 b=>J b
 |.int i=>J<|i != 0
 |.aE xs=>J<|!xs.isEmpty
 |.aj xs=>J<|!xs.isEmpty
 |.a3 au=>J<|!au.isEmpty
 |_=>C
def b7(d:bK):eX:=λS n=>(d S n).bind λr=>(k6 r.1).map λb=>(b,r.2.2)
noncomputable def gr(c:eX):eX:=λS n=>(c S n).map λr=>(!r.1,r.2)
noncomputable def AS(a b:eX):eX:=λS n=>(a S n).bind λr=>if r.1 then b S r.2 else J (Y1,r.2)
noncomputable def gY(a b:eX):eX:=λS n=>(a S n).bind λr=>if r.1 then J (Y0,r.2) else b S r.2
noncomputable def SH(c:eX):bK:=λS n=>(c S n).map λr=>(.a5<|!r.1,.ah,r.2)
noncomputable def ip:gE->T
 |.inl i=>.int i
 |.inr x=>.str x
def Un(t:T)(m:bk):X8<|O T:=match t with
 |.aj xs=>J xs
 |.aE xs=>J xs
 |.a3 au=>match m with
  |.ah=>J (au.map λc4=>ip c4.1)
  |.az=>J (au.map λc4=>ip c4.1)
  |_=>C
 |_=>C
def eZ(d:bK):hU:=λS n=>(d S n).bind λr=>(Un r.1 r.2.1).map λxs=>(xs,r.2.2)
def hq(d:bK):hU:=λS n=>(d S n).bind λr=>match r.2.1 with
 |.iG=>C
 |m=>(Un r.1 m).map λxs=>(xs,r.2.2)
noncomputable def h1(lo hi:X6):O T:=(Yr (hi-lo).M).map λ(k:Y)=>.int<|lo+k
def kC(a:gh):hU:=λS n=>(a S n).bind λr=>match r.1 with
 |[.int j]=>if-bl<=j/\j<=bl then J (h1 0 j,r.2) else C
 |_=>C
def sk(a:gh):hU:=λS n=>(a S n).bind λr=>match r.1 with
 |[.int i,.int j]=>if-bl<=i/\i<=bl /\ -bl<=j/\j<=bl then J (h1 i j,r.2) else C
 |_=>C
def j1(put:T->bA->X8 bA)(c:eX)(e:bK):O T->bA->Y->O T->X8 (O T×Y)
 |[],_,n,Fa=>J (Fa,n)
 |x::xs,S,n,Fa=>(put x S).bind λS'=>(c S' n).bind λb=>if b.1 then(cg e S' b.2).bind λr=>if Fa.H<bl then j1 put c e xs S' r.2.2 (Fa++[r.1]) else C
  else j1 put c e xs S' b.2 Fa
def er(it:hU)(src:bA->bA)(put:T->bA->X8 bA)(c:eX)(e:bK):bK:=λS n =>
 (it S n).bind λr=>(j1 put c e r.1 (src S) r.2 []).map λa=>(.aj a.1,.az,a.2)
noncomputable def yes:eX:=λ_ n=>J (Y0,n)
noncomputable def cC(i:Y):T->bA->X8 bA:=λt S=>J<|S.set i<|some (t,.ah)
noncomputable def zo(i j:Y):T->bA->X8 bA:=λt S=>match t with
 |.aE [a,b]=>J<|(S.set i<|some (a,.ah)).set j (J (b,.ah))
 |_=>C
noncomputable def ck(l:O<|X8 Y):bA->bA:=λS=>l.map λo=>o.bind λj=>(S[j]?).join
noncomputable def e0:bw:=λS n=>J (.bS,S,n)
noncomputable def bC(a b:bw):bw:=λS n=>(a S n).bind λr=>match r.1 with
 |.bS=>b r.2.1 r.2.2
 |f=>J (f,r.2.1,r.2.2)
noncomputable def c2(i:Y)(d:bK):bw:=λS n=>(d S n).bind λr=>match r.2.1 with
 |.az=>J (.bS,S.set i<|some (r.1,.az),r.2.2)
 |.ah=>J (.bS,S.set i<|some (r.1,.ah),r.2.2)
 |_=>C
def R7(put:T->bA->X8 bA)(d:bK):bw:=λS n=>(cg d S n).bind λr=>(put r.1 S).map λS'=>(.bS,S',r.2.2)
noncomputable def eP(c:eX)(a b:bw):bw:=λS n=>(c S n).bind λr=>if r.1 then a S r.2 else b S r.2
noncomputable def dq(d:bK):bw:=λS n=>(d S n).bind λr=>match r.2.1 with
 |.az=>J (.aZ r.1 Y0,S,r.2.2)
 |.ah=>J (.aZ r.1 Y1,S,r.2.2)
 |_=>C
def lN(i:Y):bw:=λS n=>match S[i]? with
 |some (J (t,.az))=>J (.aZ t Y0,S,n)
 |some (J (t,.ah))=>J (.aZ t Y1,S,n)
 |some (J (t,.cV))=>if iC t then C else J (.aZ t Y1,S,n)
 |_=>C
noncomputable def fg(i:Y)(d:bw):bw:=λS n=>match S[i]? with
 |some (J (t,.az))=>d (S.set i<|some (t,.ah)) n
 |_=>d S n
noncomputable def ek(i:Y)(d:bw):bw:=λS n=>match S[i]? with
 |some (J (.a3 au,.az))=>d (S.set i<|some (.a3 au,.ah)) n
 |_=>d S n
noncomputable def fT(put:T->bA->X8 bA)(b:bw):O T->bA->Y->X8 (hJ×bA×Y)
 |[],S,n=>J (.bS,S,n)
 |x::xs,S,n=>(put x S).bind λS1=>(b S1 n).bind λr=>match r.1 with
  |.bS=>fT put b xs r.2.1 r.2.2
  |.eI=>fT put b xs r.2.1 r.2.2
  |.e1=>J (.bS,r.2.1,r.2.2)
  |.aZ t m=>J (.aZ t m,r.2.1,r.2.2)
def f7(it:hU)(put:T->bA->X8 bA)(b:bw):bw:=λS n=>(it S n).bind λr=>fT put b r.1 S r.2
noncomputable def lO(c:eX)(b:bw):Y->bA->Y->X8 (hJ×bA×Y)
 |0,_,_=>C
 |k+1,S,n=>(c S n).bind λt=>if t.1 then(b S t.2).bind λr=>match r.1 with
   |.bS=>lO c b k r.2.1 r.2.2
   |.eI=>lO c b k r.2.1 r.2.2
   |.e1=>J (.bS,r.2.1,r.2.2)
   |.aZ t m=>J (.aZ t m,r.2.1,r.2.2)
  else J (.bS,S,t.2)
def wZ(c:eX)(b:bw):bw:=λS n=>lO c b 100000 S n
def CA(i:Y):bw:=λS n=>match S[i]? with
 |some (J (.dQ,_))=>if n<bl then J (.bS,S,n+1) else C
 |_=>C
def h2(i:Y)(g:T->T->X8 T)(d:bK):bw:=λS n=>(cg d S n).bind λr=>match S[i]? with
 |some (J (t,.az))=>(g t r.1).map λt'=>(.bS,S.set i<|some (t',.az),r.2.2)
 |_=>C
def nH:T->T->X8 T
 |.aj xs,y=>if xs.H<bl then J (.aj<|xs++[y]) else C
 |_,_=>C
def kN:T->T->X8 T
 |.aj xs,.aj aQ=>if xs.H+aQ.H<=bl then J (.aj<|xs++aQ) else C
 |.aj xs,.aE aQ=>if xs.H+aQ.H<=bl then J (.aj<|xs++aQ) else C
 |_,_=>C
def mw(i:Y)(g:T->T->T->X8 T)(k v:bK):bw:=λS n=>(cg v S n).bind λr=>(k S r.2.2).bind λq=>match S[i]? with
 |some (J (t,.az))=>(g t q.1 r.1).map λt'=>(.bS,S.set i<|some (t',.az),q.2.2)
 |_=>C
noncomputable def dv(many:Y)(b:bw):c1:=λaD n =>
 (b (aD.map (λt=>J (t.1,if t.2 then .ah else .cV))++Yj (many-aD.H) C) n).bind λr=>match r.1 with
  |.aZ t m=>J (t,m,r.2.2)
  |.bS=>J (.bR,Y1,r.2.2)
  |_=>C
noncomputable def fW(bc:X6->X6->Yc)(g:X6->X6->T):d2:=λ_ aD=>match aD with
 |[.int a,.int b]=>if bc a b then J (g a b,.ah) else C
 |_=>C
def dN:d2:=λ_ aD=>match aD with
 |[.int a,.int b]=>J (.int<|a+b,.ah)
 |[.aE a,.aE b]=>if a.H+b.H<=bl then J (.aE<|a++b,.ah) else C
 |[.aj a,.aj b]=>if a.H+b.H<=bl then J (.aj<|a++b,.az) else C
 |_=>C
def fU:d2:=fW (λ_ _=>Y0) λa b=>.int<|a-b
noncomputable def X3(i:X6):Yc:=decide (i.natAbs<2^64)
def hh:d2:=λ_ aD=>match aD with
 |[.int a,.int b]=>if X3 a||X3 b then J (.int<|a*b,.ah) else C
 |[.aE a,.int k]=>if a.H<=1000 /\ -1000<=k/\k<=10000/\a.H*k.M<=bl then J (.aE (Yj k.M a).flatten,.ah) else C
 |_=>C
def sX:d2:=fW (λ_ b=>decide (0<b)) λa b=>.int<|a%b
def xN:d2:=fW (λ_ b=>decide (0<b)&&decide (b.natAbs<1073741824)) λa b=>.int<|a / b
def hX:d2:=fW (λ_ _=>Y0) λa b=>.a5<|decide (a<b)
def qO:d2:=fW (λ_ _=>Y0) λa b=>.a5<|decide (a<=b)
def jF:d2:=fW (λ_ _=>Y0) λa b=>.a5<|decide (b<a)
def qP:d2:=fW (λ_ _=>Y0) λa b=>.a5<|decide (b<=a)
noncomputable def zp:T->Yc
 |.bR=>Y0
 |_=>Y1
def sY:d2:=λ_ aD=>match aD with
 |[t]=>J (.a5<|zp t,.ah)
 |_=>C
noncomputable def dT:d2:=λn aD=>match aD with
 |[.aj xs]=>J (.int xs.H,.ah)
 |[.aE xs]=>J (.int xs.H,.ah)
 |[.a3 au]=>J (.int au.H,.ah)
 |[.dQ]=>J (.int n,.ah)
 |_=>C
noncomputable def hD(xs:O T)(i:X6):X8 T :=
 if 0<=i then(if i<xs.H then xs[i.M]? else C) else if-(xs.H:X6)<=i then xs[(i+xs.H).M]? else C
noncomputable def iI:T->X8 gE
 |.int i=>J<|.inl i
 |.str x=>J<|.inr x
 |_=>C
noncomputable def gZ(au:O<|gE×T)(k:gE):X8 T:=(au.find? λc4=>decide (c4.1=k)).map (·.2)
noncomputable def jG(au:O<|gE×T)(k:gE)(v:T):O (gE×T) :=
 if(au.any λc4=>decide (c4.1=k))=Y0 then au.map (λc4=>if c4.1=k then(c4.1,v) else c4) else au++[(k,v)]
def cB:d2:=λ_ aD=>match aD with
 |[.aj xs,.int i]=>(hD xs i).map λt=>(t,.ah)
 |[.aE xs,.int i]=>(hD xs i).map λt=>(t,.ah)
 |[.a3 au,k]=>(iI k).bind λk=>(gZ au k).map λt=>(t,.ah)
 |_=>C
def j2:d2:=λ_ aD=>match aD with
 |[.a3 au,k,x]=>if iC x then C else(iI k).map λk=>((gZ au k).getD x,.ah)
 |_=>C
def p3:T->T->T->X8 T
 |.aj xs,.int i,v=>if 0<=i/\i<xs.H then J (.aj<|xs.set i.M v) else C
 |.a3 au,k,v=>(iI k).bind λk=>if au.H<bl then J (.a3<|jG au k v) else C
 |_,_,_=>C
mutual
noncomputable def ey:T->T->Yc
 |.bR,.bR=>Y0
 |.a5 a,.a5 b=>a==b
 |.a5 a,.int b=>(if a then 1 else 0)==b
 |.int a,.a5 b=>a==(if b then 1 else 0)
 |.int a,.int b=>a==b
 |.str a,.str b=>a==b
 |.aE a,.aE b=>jn a b
 |.aj a,.aj b=>jn a b
 |_,_=>Y1
noncomputable def jn:O T->O T->Yc
 |[],[]=>Y0
 |x::xs,y::aQ=>ey x y&&jn xs aQ
 |_,_=>Y1
end
noncomputable def dJ:Y->T->Yc
 |_,.a3 _=>Y1
 |_,.dQ=>Y1
 |_,.b2 _=>Y1
 |_,.eh _=>Y1
 |0,.aE _=>Y1
 |0,.aj _=>Y1
 |k+1,.aE a=>a.all<|dJ k
 |k+1,.aj a=>a.all<|dJ k
 |_,_=>Y0
def nk:T->T->X8 Yc
 |.a3 a,.a3 b=>if b.isEmpty then J a.isEmpty else C
 |a,b=>if dJ 6 a&&dJ 6 b then J (ey a b) else C
def hY:d2:=λ_ aD=>match aD with
 |[a,b]=>(nk a b).map λr=>(.a5 r,.ah)
 |_=>C
def gn:d2:=λ_ aD=>match aD with
 |[a,b]=>(nk a b).map λr=>(.a5<|!r,.ah)
 |_=>C
inductive Ty where
 |int|bool|list|tuple|str|dict
noncomputable def sZ:Ty->T->X8 Yc
 |.int,.int _=>J Y0
 |.int,.a5 _=>J Y0
 |.bool,.a5 _=>J Y0
 |.list,.aj _=>J Y0
 |.tuple,.aE _=>J Y0
 |.str,.str _=>J Y0
 |.dict,.a3 _=>J Y0
 |_,.dQ=>C
 |_,.b2 _=>C
 |_,.eh _=>C
 |_,_=>J Y1
def iq(k:Ty):d2:=λ_ aD=>match aD with
 |[t]=>(sZ k t).map λb=>(.a5 b,.ah)
 |_=>C
noncomputable def nM:O T->X8 (O Yc)
 |[]=>J []
 |.a5 b::r=>(nM r).map (b::·)
 |_=>C
noncomputable def eU:O T->X8 Z1
 |[]=>J []
 |.int i::r=>(eU r).map (i::·)
 |_=>C
def s6:d2:=λ_ aD=>match aD with
 |[.aj xs]=>(nM xs).map λbs=>(.a5<|bs.all id,.ah)
 |_=>C
def od:d2:=λ_ aD=>match aD with
 |[.aj xs]=>J (.aj xs,.az)
 |[.aE xs]=>J (.aj xs,.az)
 |[.a3 au]=>J (.aj (au.map λc4=>ip c4.1),.az)
 |_=>C
noncomputable def kD:d2:=λ_ aD=>match aD with
 |[.aj xs]=>J (.aE xs,.ah)
 |[.aE xs]=>J (.aE xs,.ah)
 |_=>C
noncomputable def ins(x:X6):O X6->O X6
 |[]=>[x]
 |y::aQ=>if x<=y then x::y::aQ else y::ins x aQ
def sortI:O X6->O X6
 |[]=>[]
 |x::xs=>ins x<|sortI xs
noncomputable def ec:O X6->O X6->Yc
 |[],[]=>Y1
 |[],_::_=>Y0
 |_::_,[]=>Y1
 |x::xs,y::aQ=>if x==y then ec xs aQ else decide (x<y)
noncomputable def vi(x:O X6):O Z1->O Z1
 |[]=>[x]
 |y::aQ=>if ec y x then y::vi x aQ else x::y::aQ
noncomputable def hn:O Z1->O Z1
 |[]=>[]
 |x::xs=>vi x<|hn xs
noncomputable def ar(l:O X6):T:=.aE<|l.map .int
def bu(ls:O Z1):T:=.aE<|ls.map ar
def oe:O T->X8 (O Z1)
 |[]=>J []
 |.aE (x::xs)::r=>(eU<|x::xs).bind λl=>(oe r).map (l::·)
 |_=>C
def CB:d2:=λ_ aD=>match aD with
 |[.aj xs]=>match eU xs with
  |some ns=>J (.aj<|(sortI ns).map .int,.az)
  |none=>(oe xs).map λls=>(.aj<|(hn ls).map ar,.az)
 |[.aE xs]=>(eU xs).map λns=>(.aj<|(sortI ns).map .int,.az)
 |_=>C
noncomputable def iS(ns:O X6):O X6:=ns.foldr (λx r=>if x∈r then r else x::r) []
noncomputable def itemsOf:O (gE×T)->X8 (O Z4)
 |[]=>J []
 |(.inl k,.int v)::r=>(itemsOf r).map ((k,v)::·)
 |_=>C
noncomputable def hK(p:X6×X6):O X6:=[p.1,p.2]
def zq:d2:=λ_ aD=>match aD with
 |[.a3 au]=>(itemsOf au).map λps=>(.aj<|(hn<|ps.map hK).map ar,.az)
 |_=>C
def qa:O T->X8 (O<|gE×T)
 |[]=>J []
 |.aE [k,v]::r=>(iI k).bind λk=>(qa r).map ((k,v)::·)
 |_=>C
def qQ:d2:=λ_ aD=>match aD with
 |[.aj xs]=>(qa xs).bind λps=>if ps.H<bl then J (.a3<|ps.foldl (λd p=>jG d p.1 p.2) [],.az) else C
 |[.a3 au]=>J (.a3 au,.az)
 |_=>C
noncomputable def X0:O X6->X8 X6
 |[]=>C
 |x::xs=>J<|xs.foldl (λa b=>if b<a then b else a) x
noncomputable def ti:O (gE×T)->X8 Z1
 |[]=>J []
 |(.inl k,_)::r=>(ti r).map (k::·)
 |_=>C
def s7:d2:=λ_ aD=>match aD with
 |[.aj xs]=>(eU xs).bind λns=>(X0 ns).map λi=>(.int i,.ah)
 |[.a3 au]=>(ti au).bind λns=>(X0 ns).map λi=>(.int i,.ah)
 |[.int a,.int b]=>J (.int (if b<a then b else a),.ah)
 |_=>C
def uw:d2:=λ_ aD=>match aD with
 |[.aE xs,.int y]=>(eU xs).map λns=>(.int (ns.filter λx=>x==y).H,.ah)
 |_=>C
noncomputable def cx:O X6->X6
 |[]=>0
 |x::xs=>x+cx xs
noncomputable def bound(n d:Y):X8 X6->Y
 |none=>d
 |some v=>if v<0 then(v+(n:X6)).M else min v.M n
abbrev yH:=bA->Y->X8 (X8 X6×Y)
noncomputable def EL:yH:=λ_ n=>J (C,n)
noncomputable def EM(d:bK):yH:=λS n=>(d S n).bind λr=>match r.1 with
 |.int i=>J (J i,r.2.2)
 |_=>C
def oH(xs:O T)(lo hi:X8 X6):O T:=(xs.drop<|bound xs.H 0 lo).take (bound xs.H xs.H hi-bound xs.H 0 lo)
noncomputable def w0:bK:=λ_ n=>J (.a3 [],.az,n)
def Kw(k v:bK):bK:=λS n=>(k S n).bind λa=>(iI a.1).bind λk=>(v S a.2.2).map λb=>(.a3 [(k,b.1)],.az,b.2.2)
noncomputable def qR(g h:d2)(a b c:bK):bK:=λS n=>(a S n).bind λx=>(b S x.2.2).bind λy=>(g y.2.2 [x.1,y.1]).bind λr=>match r.1 with
 |.a5 Y0=>(c S y.2.2).bind λz=>(h z.2.2 [y.1,z.1]).map λq=>(q.1,q.2,z.2.2)
 |.a5 Y1=>J (.a5 Y1,.ah,y.2.2)
 |_=>C
noncomputable def ic:bw:=λ_ _=>C
noncomputable def f5(d:bK):bw:=λS n=>(d S n).map λr=>(.bS,S,r.2.2)
def qS(i j:Y):bw:=λS n=>match S[j]? with
 |some (J (t,.az))=>J (.bS,(S.set j C).set i (J (t,.az)),n)
 |some (J (t,.ah))=>J (.bS,S.set i<|some (t,.ah),n)
 |some (J (t,.cV))=>if iC t then C else J (.bS,S.set i<|some (t,.ah),n)
 |_=>C
noncomputable def Hj:bK:=λ_ n=>J (.eh [],.az,n)
def xU:T->X8 Z1
 |.aE xs=>eU xs
 |_=>C
noncomputable def ux:O T->X8 (O Z1)
 |[]=>J []
 |t::r=>(xU t).bind λl=>(ux r).map (l::·)
def vr:T->X8 (O Z1)
 |.aE xs=>ux xs
 |_=>C
noncomputable def ie(ks:O<|O Z1)(k:O Z1):O<|O Z1:=if(ks.any λx=>decide (x=k))=Y0 then ks else ks++[k]
def AU:T->T->T->X8 T
 |.eh ks,k,.a5 Y0=>(vr k).bind λls=>if ks.H<bl then J (.eh<|ie ks ls) else C
 |_,_,_=>C
def Hk:d2:=λ_ aD=>match aD with
 |[.eh ks]=>J (.aj<|ks.map bu,.az)
 |_=>C
theorem Hl(x:X6):∀l:O X6,(ins x l).Perm (x::l)
 |[]=>.refl _
 |y::aQ=>by
  delta ins;split
  .show .refl _
  .show((Hl x aQ).cons y).trans (.swap x y aQ)
theorem sortI_perm:∀l:O X6,(sortI l).Perm l
 |[]=>.refl _
 |x::xs=>(Hl x _).trans ((sortI_perm xs).cons x)
theorem M4(x:X6):∀{l:O X6},l.Pairwise (·<=·)->(ins x l).Pairwise (·<=·)
 |[],_=>by delta ins;simp
 |y::aQ,h=>by
  delta ins;let(af,ao):=l8.mp h;split
  .rename_i k7
   show l8.mpr ⟨λz hz=>by
    rcases ei.mp hz with rfl|hz
    .show k7
    .show iv k7<|af z hz,h⟩
  .rename_i k7;show l8.mpr {λz hz=>?_,M4 x ao};rcases ei.mp ((Hl x aQ).mem_iff.mp hz) with rfl|hz
   .show lx<|rI k7
   .show af z hz
theorem zr:∀l:O X6,(sortI l).Pairwise (·<=·)
 |[]=>.nil
 |x::xs=>M4 x<|zr xs
theorem M5:∀{a b:O X6},a.Pairwise (·<=·)->b.Pairwise (·<=·)->a.Perm b->a=b
 |[],b,_,_,p=>(p.nil_eq)
 |x::a,[],_,_,p=>by let:=p.length_eq;simp at this
 |x::a,y::b,bx,aq,p=>by
  let(w1,Hm):=l8.mp bx;let(w2,qT):=l8.mp aq;let k7:x<=y:=by
   rcases ei.mp (p.mem_iff.mpr (dF ..)) with e|e
   .show FK e.symm
   .show w1 y e
  let Hn:y<=x:=by
   rcases ei.mp (p.mem_iff.mp (dF ..)) with e|e
   .show FK e.symm
   .show w2 x e
  let:x=y:=(Int.le_antisymm k7 Hn)
  subst this;rw[M5 Hm qT<|(List.perm_cons x).mp p]
def Ho(p:a.Perm b)(h:a.Pairwise (·<=·)):a=sortI b:=M5 h (zr b)<|p.trans (sortI_perm b).symm
theorem zt:∀l:O X6,ec l l=Y1
 |[]=>rfl
 |x::xs=>by delta ec;simp[zt xs]
theorem zu:∀{a b c:O X6},ec a b=Y0->ec b c=Y0->ec a c=Y0
 |[],[],_,h,_=>by ext h
 |[],_::_,[],_,h=>by ext h
 |[],_::_,_::_,_,_=>rfl
 |_::_,[],_,h,_=>by ext h
 |_::_,_::_,[],_,h=>by ext h
 |x::xs,y::aQ,z::zs,h,h'=>by
  delta ec at h h' |-;by_cases e:x=y
  .subst e;erw[K2,Yq]at h;by_cases bH:x=z
   .subst bH;erw[K2,Yq]at h' |-;show zu h h'
   .erw[UI,bH,Ys]at h' |-;show h'
  .erw[UI,e,Ys,YZ]at h;by_cases bH:y=z
   .subst bH;erw[UI,e,Ys,YZ];show h
   .erw[UI,bH,Ys,YZ]at h';let:¬x=z:=(vL<|Bx h<|lx h')
    erw[UI,this,Ys,YZ];show Bx h<|lx h'
theorem CD:∀{a b:O X6},ec a b=Y1->ec b a=Y1->a=b
 |[],[],_,_=>rfl
 |[],_::_,h,_=>by ext h
 |_::_,[],_,h=>by ext h
 |x::xs,y::aQ,h,h'=>by
  delta ec at h h';by_cases e:x=y
  .subst e;erw[K2,Yq]at h h';rw[CD h h']
  .let av:¬y=x:=λz=>e z.symm;erw[UI,e,av,Ys,decide_eq_false_iff_not]at h h';lia
noncomputable def rank(nss:O Z1)(l:O X6):Y:=nss.countP λz=>ec z l
theorem M6{α:Type}{p q:α->Yc}{y:α}:∀{l:O α},(∀z,p z=Y0->q z=Y0)->y∈l->p y=Y1->q y=Y0->l.countP p<l.countP q
 |[],_,aP,_,_=>by simp at aP
 |x::xs,h,aP,af,ao=>by
  let mono:xs.countP p<=xs.countP q:=qa4 λz _ hz=>h z hz;rw[nP,nP];rcases ei.mp aP with rfl|aP
  .rw[af,ao];simp;show ts mono
  .let aT:=M6 h aP af ao;by_cases e:p x=Y0
   .rw[e,h x e];show ts aT
   .let:p x=Y1:=by cases z:p x<;>simp_all
    rw[this];simp;show qe aT
def zv(bx:a∈nss):decide (rank nss a<rank nss b)=ec a b:=by
 cases e:ec a b with
 |true =>
  let:=M6 (l:=nss) (y:=a) (p:=λz=>ec z a) (q:=λz=>ec z b) (λz hz=>zu hz e) bx (zt a) e;simp[rank,this]
 |false =>
  let:rank nss b<=rank nss a:=by
   delta rank;show qa4 λz _ hz=>?_;cases av:ec b a with
   |true=>show zu hz av
   |false=>rw[CD e av];show hz
  simp;show this
theorem Hp(x:O X6):∀l,(vi x l).Perm (x::l)
 |[]=>.refl _
 |y::aQ=>by
  delta vi;split
  .show((Hp x aQ).cons y).trans (.swap x y aQ)
  .show .refl _
theorem w3:∀l,(hn l).Perm l
 |[]=>.refl _
 |x::xs=>(Hp x<|hn xs).trans ((w3 xs).cons x)
abbrev nq(a b:O X6):Prop:=ec b a=Y1
def qaK(h:nq a b)(h':nq b c):nq a c:=by
 cases e:ec c a with
 |false=>show e
 |true =>
  cases av:ec a b with
  |true=>let:=zu e av;rw[h']at this;ext this
  |false=>let:=CD av h;subst this;rw[h']at e;ext e
theorem M7(x:O X6):∀{l:O Z1},l.Pairwise nq->(vi x l).Pairwise nq
 |[],_=>by delta vi;simp
 |y::aQ,h=>by
  let(af,ao):=l8.mp h;delta vi;split
  .rename_i k7;show l8.mpr {λz hz=>?_,M7 x ao};rcases ei.mp ((Hp x aQ).mem_iff.mp hz) with rfl|hz
   .cases e:ec z y with
    |false=>show e
    |true=>let:=zu k7 e;rw[zt]at this;ext this
   .show af z hz
  .rename_i k7;let k7:nq x y:=by simpa using k7
   show l8.mpr ⟨λz hz=>by
    rcases ei.mp hz with rfl|hz
    .show k7
    .show qaK k7<|af z hz,h⟩
theorem Hq:∀l,(hn l).Pairwise nq
 |[]=>.nil
 |x::xs=>M7 x<|Hq xs
theorem M8:∀{a b:O Z1},a.Pairwise nq->b.Pairwise nq->a.Perm b->a=b
 |[],b,_,_,p=>(p.nil_eq)
 |x::a,[],_,_,p=>by let:=p.length_eq;simp at this
 |x::a,y::b,bx,aq,p=>by
  let(w1,Hm):=l8.mp bx;let(w2,qT):=l8.mp aq;let k7:nq x y:=by
   rcases ei.mp (p.mem_iff.mpr (dF ..)) with e|e
   .rw[e];show zt _
   .show w1 y e
  let Hn:nq y x:=by
   rcases ei.mp (p.mem_iff.mp (dF ..)) with e|e
   .rw[e];show zt _
   .show w2 x e
  let:x=y:=CD Hn k7;subst this;rw[M8 Hm qT<|(List.perm_cons x).mp p]
def Hr(p:a.Perm b)(h:a.Pairwise nq):a=hn b:=M8 h (Hq b)<|p.trans (w3 b).symm
noncomputable def qU:O (gE×T)->X8 Z1
 |[]=>J []
 |(_,.int v)::r=>(qU r).map (v::·)
 |_=>C
def Hs:d2:=λ_ aD=>match aD with
 |[.a3 au]=>(qU au).bind λns=>if ns.H<100000/\(ns.all λx=>decide (-1000000<=x)&&decide (x<=1000000)) then J (.int<|cx ns,.ah) else C
 |_=>C
def pF(n:Y):O T->X8 Z1
 |[.aj xs]=>(eU xs).bind λns=>if ns.H+1<4096 then J ns else C
 |[.aE xs]=>(eU xs).bind λns=>if ns.H+1<4096 then J ns else C
 |_=>C
def qaL:d2:=λn aD=>(pF n aD).map λns=>(.aj<|(sortI<|iS ns).map .int,.az)
def M9:d2:=λn aD=>(pF n aD).map λns=>(.int (iS ns).H,.ah)
noncomputable def Kl:d2:=λ_ aD=>match aD with
 |[.int a]=>J (.int<|-a,.ah)
 |_=>C
def R8:d2:=λ_ aD=>match aD with
 |[.aj xs]=>(nM xs).map λbs=>(.a5<|bs.any id,.ah)
 |_=>C
noncomputable def mx:T->Yc
 |.bR=>Y0
 |.a5 _=>Y0
 |.int _=>Y0
 |.str _=>Y0
 |_=>Y1
def Km(xs:O T)(y:T):Y:=xs.countP λx=>ey x y
noncomputable def pG(ns:O X6)(many:Y):bA:=J (.aj<|ns.map .int,.cV)::J (.dQ,.ah)::Yj (many-2) C
def Ew(d:bK)(lo hi:yH):bK:=λS n=>(d S n).bind λx=>(lo S x.2.2).bind λl=>(hi S l.2).bind λh=>match x.1 with
 |.aj xs=>J (.aj<|oH xs l.1 h.1,.az,h.2)
 |.aE xs=>J (.aE<|oH xs l.1 h.1,.ah,h.2)
 |_=>C
def nr:d2:=λ_ aD=>match aD with
 |[.aE xs]=>(eU xs).bind λns=>if ns.H<100000/\(ns.all λx=>decide (x.natAbs<=10000000000000)) then J (.int<|cx ns,.ah) else C
 |[.aj xs]=>(eU xs).bind λns=>if ns.H<100000/\(ns.all λx=>decide (x.natAbs<=10000000000000)) then J (.int<|cx ns,.ah) else C
 |_=>C
noncomputable def Ex(d:bK):bK:=λS n=>(d S n).bind λx=>match x.1 with
 |.aj xs=>J (.aj xs.reverse,.az,x.2.2)
 |.aE xs=>J (.aE xs.reverse,.ah,x.2.2)
 |_=>C
noncomputable def pH(xs:O T):O T:=xs.zipIdx.map λp=>.aE [.int p.2,p.1]
def uy:d2:=λ_ aD=>match aD with
 |[.aj xs]=>(eU xs).bind λns=>if ns.H<64 then J (.aj<|(sortI ns).map .int,.az) else C
 |[.aE xs]=>(eU xs).bind λns=>if ns.H<64 then J (.aj<|(sortI ns).map .int,.az) else C
 |_=>C
abbrev gi:=bA->Y->X8 (Y×Y)
abbrev tQ:=bA->Y->X8 Y
abbrev lP:=O (T×Yc)->Y->X8 (Y×Y)
noncomputable def qV:Y->Ya
 |0=>"NoDie"
 |1=>"NoDice"
 |2=>"NoTotals"
 |3=>"NoNumber"
 |4=>"TooMany"
 |5=>"NoText"
 |6=>"NoSide"
 |7=>"NoRoll"
 |8=>"NoChoices"
 |9=>"Against"
 |_=>"Nothing"
noncomputable def j3:gi:=λ_ _=>C
noncomputable def lQ(e4:Y)(f:lP)(a:jy):gi:=λS n=>(a S n).bind λr=>if r.1.H=e4 then f r.1 r.2 else C
noncomputable def n3:tQ:=λ_ n=>J n
def yI(d:bK)(r:tQ):tQ:=λS n=>(d S n).bind λa=>match a.1 with
 |.int i=>if X3 i then r S a.2.2 else C
 |_=>C
noncomputable def pI(c:Y)(a:tQ):gi:=λS n=>(a S n).map λn'=>(c,n')
noncomputable def iV(cN:gi)(a:bw)(xr:gi):gi:=λS n=>match cN S n with
 |some r=>J r
 |none=>(a S n).bind λr=>match r.1 with
  |.bS=>xr r.2.1 r.2.2
  |_=>C
noncomputable def lR(c:eX)(cN eN:gi):gi:=λS n=>(c S n).bind λr=>if r.1 then cN S r.2 else eN S r.2
noncomputable def zw(put:T->bA->X8 bA)(b:bw)(eN:gi):O T->bA->Y->X8 (Y×Y)
 |[],_,_=>C
 |x::xs,S,n=>(put x S).bind λS1=>match eN S1 n with
  |some r=>J r
  |none=>(b S1 n).bind λr=>match r.1 with
   |.bS=>zw put b eN xs r.2.1 r.2.2
   |.eI=>zw put b eN xs r.2.1 r.2.2
   |_=>C
def Kn(it:hU)(put:T->bA->X8 bA)(b:bw)(eN:gi):gi:=λS n=>(it S n).bind λr=>zw put b eN r.1 S r.2
noncomputable def fnX(many:Y)(eN:gi):lP:=λaD n=>eN (aD.map (λt=>J (t.1,if t.2 then .ah else .cV))++Yj (many-aD.H) C) n
end a9.bD
namespace a9.bD
def EN(cs:O Y)(b:bw)(eN:gi)(cb:bw):bw:=λS n=>match eN S n with
 |some r=>if r.1∈cs then cb (Yj S.H C) r.2 else C
 |none=>b S n
end a9.bD
namespace a9.bD
open PySem
def Tt:d2:=λ_ aD=>match aD with
 |[.aj xs]=>(oe xs).bind λls=>if ls.H<64 then J (.aj<|(hn ls).map ar,.az) else C
 |_=>C
def Ht(d:bK):hU:=λS n=>(d S n).bind λr=>match r.1 with
 |.aE xs=>J (pH xs,r.2.2)
 |_=>C
def af6(l:O X6):T:=.aE [.int l.H,ar l]
def zx(a:gh):bK:=λS n=>(kC a S n).map λr=>(.aj r.1,.az,r.2)
def strsOf:O T->X8 (O Ya)
 |[]=>J []
 |.str x::r=>(strsOf r).map (x::·)
 |_=>C
def gG(i:X6):Ya:=YF<|toString i
def zy:d2:=λ_ aD=>match aD with
 |[.int i]=>if 0<=i/\i<=1000 then J (.str<|gG i,.ah) else C
 |_=>C
def zA:d2:=λ_ aD=>match aD with
 |[.str sep,.aj xs]=>(strsOf xs).bind λws=>if(ws.map (·.H)).sum+ws.H*sep.H<=bl then J (.str<|Str.join sep ws,.ah) else C
 |_=>C
def CE:d2:=λ_ aD=>match aD with
 |[.str x,.str y]=>if y.H=1/\x.H<=bl then J (.aj<|(Txt.split x y).map T.str,.az) else C
 |_=>C
def AV(x:Ya):X8 Y:=(Yr 31).find? λ(k:Y)=>gG (k:X6)==x
def Hu:d2:=λ_ aD=>match aD with
 |[.a3 au,k]=>(iI k).map λk=>((gZ au k).getD .bR,.ah)
 |_=>C
noncomputable def g0:O Z1->O X6
 |[]=>[]
 |l::ls=>l.map (·+1)++0::g0 ls
noncomputable def uz:O X6->O X6->O Z1
 |_,[]=>[]
 |Fa,x::r=>if x=0 then Fa.reverse::uz [] r else uz ((x-1)::Fa) r
def dec(c:O X6):O Z1:=uz [] c
def uA:O T->X8 (O<|O Z1)
 |[]=>J []
 |t::r=>(vr t).bind λl=>(uA r).map (l::·)
noncomputable def uB(ls:O Z1):Yc:=!ls.isEmpty&&ls.all λl=>l.all λx=>decide (0<=x)
def Hv:d2:=λ_ aD=>match aD with
 |[.aj xs]=>(uA xs).bind λls=>if(ls.all uB&&decide (ls.H<=bl))=Y0 then J (.aj ((hn<|ls.map g0).map λc=>bu<|dec c),.az) else C
 |_=>C
theorem Na:∀(l Fa r:O X6),(∀x∈l,0<=x)->uz Fa (l.map (·+1)++0::r)=(Fa.reverse++l)::uz [] r
 |[],Fa,r,_=>by simp[uz]
 |x::l,Fa,r,h=>by
  let h0:=h x<|dF ..;let n:¬x+1=0:=(vK<|Bz h0 Z0)
  let e:x+1-1=x:=(Int.add_sub_cancel _ _)
  rw[cD,rA,uz,Y3 n,e,Na l (x::Fa) r λy aP=>h y<|dZ _ aP];simp
theorem dec_enc:∀(ls:O Z1),(∀l∈ls,∀x∈l,0<=x)->dec (g0 ls)=ls
 |[],_=>rfl
 |l::ls,h=>by let aT:=dec_enc ls λm7 h'=>h m7<|dZ _ h';delta dec at*;rw[g0,Na l [] _<|h l<|dF ..,aT];simp
def Nb(h:uB ls=Y0):ls≠[]/\∀l∈ls,∀x∈l,0<=x:=by delta uB at h;rw[gS,hO]at h;show{λz=>by rw[z]at h;simp at h,λl aC x ax=>?_};let:=hO.mp (h.2 l aC) x ax;simpa using this
def AW:d2:=λn aD=>match aD with
 |[.bR,.a3 []]=>J (.a5 Y1,.ah)
 |aD=>hY n aD
end a9.bD
namespace a9.bD
open PySem PySem.Spec PyProof.Rows
section
variable (L:X7)(H:aI)
mutual
def aH:T->V->Prop
 |.bR,v=>v=.bR
 |.a5 b,v=>v=.a5 b
 |.int i,v=>v=.int i
 |.str x,v=>v=.str x
 |.aE xs,v=>∃a aa,v=.ref a/\H a=J (.aE aa)/\bJ xs aa
 |.aj xs,v=>∃a o aa,v=.ref a/\H a=J (.d3 o<|.aj aa)/\bJ xs aa
 |.a3 au,v=>∃a o ws,v=.ref a/\H a=J (.d3 o<|.aS ws)/\cG au ws
 |.dQ,v=>v=.ref L
 |.b2 a,v=>v=.ref a
 |.eh ks,v=>∃a o ws,v=.ref a/\H a=J (.d3 o<|.hG ws)/\ks=ws.map (·.1)
def bJ:O T->O V->Prop
 |[],aa=>aa=[]
 |x::xs,aa=>∃v r,aa=v::r/\aH x v/\bJ xs r
def cG:O (Key×T)->O (Key×V)->Prop
 |[],ws=>ws=[]
 |(k,x)::xs,ws=>∃v r,ws=(k,v)::r/\aH x v/\cG xs r
end
end
def eu(H ak:aI):Prop:=∀a,(∀aa,H a=J (.aE aa)->ak a=J (.aE aa))/\∀o u,H a=J (.d3 o u)->ak a=J (.d3 o u)
structure dc (L:X7) (H ak:aI):Prop where
 to:∀a o,H a=J o->a≠L->ak a=J o
def cR(L:X7)(n:Y)(H:aI):Prop:=H L=J (.aj<|Yj n<|.int 0)
def eu.refl(H:aI):eu H H:=λ_=>{λ_ h=>h,λ_ _ h=>h}
def eu.trans(a:eu H H1)(b:eu H1 br):eu H br:=λx=>{λaa h=>(b x).1 aa ((a x).1 aa h),λo u h=>(b x).2 o u ((a x).2 o u h)}
def dc.refl(L:X7)(H:aI):dc L H H:=⟨λ_ _ h _=>h⟩
def dc.trans(a:dc L H H1)(b:dc L H1 br):dc L H br:=⟨λx o h n=>b.to x o (a.to x o h n) n⟩
def dc.all(k:∀a o,H a=J o->ak a=J o):dc L H ak:=⟨λa o h _=>k a o h⟩
def dc.put(e:dc L B H)(dB:B a=C):dc L B<|cO H a o:=⟨λb u q nb=>by rw[ea<|by rintro rfl;rw[dB]at q;cases q];show e.to b u q nb⟩
def cR.E1{n:Y}(t:cR L n H)(h:H a=J (.aE aa)):a≠L:=by intro e;subst e;rw[cR]at t;rw[t]at h;ext h
def cR.A6{n:Y}(t:cR L n H)(h:H a=J (.d3 o u)):a≠L:=by intro e;subst e;rw[cR]at t;rw[t]at h;ext h
def dc.bU{n:Y}(t:cR L n H)(e:dc L H ak):eu H ak:=λa =>
 {λaa h=>e.to a _ h<|t.E1 h,λo u h=>e.to a _ h<|t.A6 h}
def eu.new(h:H p=C):eu H<|cO H p o:=λa =>
 {λaa e=>by rw[ea<|qG e h];show e,λ_ _ e=>by rw[ea<|qG e h];show e}
def dc.new(h:H p=C):dc L H<|cO H p o:=.all λa u e=>by rw[ea<|qG e h];show e
def cR.new{n:Y}(t:cR L n H)(h:H p=C):cR L n<|cO H p o:=by delta cR at*;rw[ea<|qG t h];show t
mutual
theorem aH.mono(h:eu H ak):∀(t:T) (v:V),aH L H t v->aH L ak t v
 |.bR,v,r=>by simpa[aH]using r
 |.a5 b,v,r=>by simpa[aH]using r
 |.int i,v,r=>by simpa[aH]using r
 |.str x,v,r=>by simpa[aH]using r
 |.dQ,v,r=>by simpa[aH]using r
 |.b2 a,v,r=>by simpa[aH]using r
 |.eh ks,v,r=>by rw[aH]at r |-;let(a,o,ws,e,p,q):=r;show{a,o,ws,e,(h a).2 _ _ p,q}
 |.aE xs,v,r=>by rw[aH]at r |-;let(a,aa,e,p,q):=r;show{a,aa,e,(h a).1 _ p,bJ.mono h xs aa q}
 |.aj xs,v,r=>by rw[aH]at r |-;let(a,o,aa,e,p,q):=r;show{a,o,aa,e,(h a).2 _ _ p,bJ.mono h xs aa q}
 |.a3 xs,v,r=>by rw[aH]at r |-;let(a,o,aa,e,p,q):=r;show{a,o,aa,e,(h a).2 _ _ p,cG.mono h xs aa q}
theorem bJ.mono(h:eu H ak):∀(t:O T) (v:O V),bJ L H t v->bJ L ak t v
 |[],v,r=>by rw[bJ]at r |-;show r
 |x::xs,v,r=>by rw[bJ]at r |-;let(w,iw,e,p,q):=r;show{w,iw,e,aH.mono h x w p,bJ.mono h xs iw q}
theorem cG.mono(h:eu H ak):∀(t:O (Key×T)) (v:O (Key×V)),cG L H t v->cG L ak t v
 |[],v,r=>by rw[cG]at r |-;show r
 |(k,x)::xs,v,r=>by rw[cG]at r |-;let(w,iw,e,p,q):=r;show{w,iw,e,aH.mono h x w p,cG.mono h xs iw q}
end
section
variable {L:X7}{H:aI}
def ig(r:bJ L H [] aa):aa=[]:=by rw[bJ]at r;show r
def gH(r:bJ L H (x::xs) aa):∃v w,aa=v::w/\aH L H x v/\bJ L H xs w:=by rw[bJ]at r;show r
def bJ.nil:bJ L H [] []:=by rw[bJ]
def bJ.cons{x:T}{v:V}{xs:O T}{aa:O V}(a:aH L H x v)(b:bJ L H xs aa):bJ L H (x::xs)<|v::aa:=by rw[bJ];show{(v),aa,D,a,b}
theorem bJ.length:∀{xs:O T} {aa:O V},bJ L H xs aa->xs.H=aa.H
 |[],_,r=>by rw[ig r];rfl
 |_::xs,_,r=>by let(v,w,rfl,_,q):=gH r;rw[d4,d4,bJ.length q]
theorem bJ.get:∀{xs:O T} {aa:O V} {i:Y} {x:T},bJ L H xs aa->xs[i]?=J x->∃v,aa[i]?=J v/\aH L H x v
 |[],_,_,_,_,e=>by simp at e
 |y::xs,_,0,x,r,e=>by let(v,w,rfl,p,q):=gH r;simp at e;subst e;show{(v),D,p}
 |y::xs,_,i+1,x,r,e=>by let(v,w,rfl,p,q):=gH r;let(u,af,ao):=bJ.get (i:=i) (x:=x) q (by simpa using e);show{u,by simpa using af,ao}
theorem bJ.append:∀{xs aQ:O T} {aa ws:O V},bJ L H xs aa->bJ L H aQ ws->bJ L H (xs++aQ) (aa++ws)
 |[],_,_,_,r,s=>by rw[ig r];show s
 |x::xs,aQ,_,ws,r,s=>by let(v,w,rfl,p,q):=gH r;show .cons p<|bJ.append q s
theorem bJ.take:∀{xs:O T} {aa:O V} (n:Y),bJ L H xs aa->bJ L H (xs.take n) (aa.take n)
 |_,_,0,_=>by simp;show .nil
 |[],_,_+1,r=>by rw[ig r];show .nil
 |x::xs,_,n+1,r=>by let(v,w,rfl,p,q):=gH r;show .cons p<|bJ.take n q
theorem bJ.drop:∀{xs:O T} {aa:O V} (n:Y),bJ L H xs aa->bJ L H (xs.drop n) (aa.drop n)
 |_,_,0,r=>r
 |[],_,_+1,r=>by rw[ig r];show .nil
 |x::xs,_,n+1,r=>by let(v,w,rfl,p,q):=gH r;show bJ.drop n q
theorem bJ.set(a:aH L H x v):∀{xs:O T} {aa:O V} (i:Y),bJ L H xs aa->bJ L H (xs.set i x) (aa.set i v)
 |[],_,_,r=>by rw[ig r];show .nil
 |y::xs,_,0,r=>by let(h6,w,rfl,p,q):=gH r;show .cons a q
 |y::xs,_,i+1,r=>by let(h6,w,rfl,p,q):=gH r;show .cons p<|bJ.set a i q
theorem bJ.reverse(r:bJ L H xs aa):bJ L H xs.reverse aa.reverse:=by
 induction xs generalizing aa with
 |nil=>rw[ig r];show .nil
 |cons x xs aT =>
  let(v,w,rfl,p,q):=gH r;rw[Bf,Bf];show(aT q).append (.cons p .nil)
theorem bJ.rep(r:bJ L H xs aa):∀k:Y,bJ L H (Yj k xs).flatten (Yj k aa).flatten
 |0=>.nil
 |k+1=>by rw[l7,l7,rz,rz];show r.append<|bJ.rep r k
def bJ.ints(ns:O X6):bJ L H (ns.map T.int)<|ns.map V.int:=by
 induction ns with
 |nil=>show .nil
 |cons n ns aT=>show .cons (by rw[aH]) aT
theorem sl:∀{ns:O X6} {aa:O V},bJ L H (ns.map T.int) aa->aa=ns.map V.int
 |[],_,r=>ig r
 |n::ns,_,r=>by let(v,w,rfl,p,q):=gH r;rw[aH]at p;rw[p,sl q];rfl
end
def uC(K:Yo)(L:X7)(H:aI)(a:X7)(aa:O V):Prop :=
 (a≠L/\hQ H a (.aj aa)) \/
  (∃(o:Yp) (aX:Ye ay) (n:Y),K.lookup a=J o/\o.cls=.type "list" /\ o.dict=C/\o.e=.seq aX n/\aX.O<=c3/\cA aa aX.B)\/(a≠L/\H a=J (.wO aa))
def uC.gK{K:Yo}{L:X7}{H:aI}{a:X7}{aa:O V}(h:uC K L H a aa):fw K H a aa:=h.imp (·.2) λz=>z.imp id (·.2)
def uC.ext{K:Yo}{L:X7}{H ak:aI}{a:X7}{aa:O V}(e:dc L H ak)(h:uC K L H a aa):uC K L ak a aa:=by
 rcases h with⟨n,h⟩|h|⟨n,h⟩
 .rcases h with h|⟨o,h⟩
  .show .inl {n,.inl<|e.to a _ h n}
  .show .inl {n,.inr {o,e.to a _ h n}}
 .show .inr<|.inl h
 .show .inr<|.inr {n,e.to a _ h n}
def eb(K:Yo)(L:X7)(H:aI):T->V->Prop
 |.aj xs,v=>∃a aa,v=.ref a/\uC K L H a aa/\bJ L H xs aa
 |.a3 au,v=>∃a ws,v=.ref a/\a≠L/\hQ H a (.aS ws)/\cG L H au ws
 |.eh ks,v=>∃a ws,v=.ref a/\a≠L/\hQ H a (.hG ws)/\ks=ws.map (·.1)
 |t,v=>aH L H t v
def lS(L:X7)(H:aI)(a:X7):T->Prop
 |.aj xs=>∃aa,H a=J (.aj aa)/\bJ L H xs aa
 |.a3 au=>∃ws,H a=J (.aS ws)/\cG L H au ws
 |.eh ks=>∃ws,H a=J (.hG ws)/\ks=ws.map (·.1)
 |_=>Ym
section
variable {K:Yo}{L:X7}{H ak:aI}{n:Y}
def eb.A7(aJ:cR L n H)(r:aH L H t v):eb K L H t v:=by
 induction t using T.casesOn with
 |aj xs =>
  rw[aH]at r;let(a,o,aa,e,h,q):=r;show{a,aa,e,.inl {aJ.A6 h,.inr {(o),h}},q}
 |a3 au =>
  rw[aH]at r;let(a,o,ws,e,h,q):=r;show{a,ws,e,aJ.A6 h,.inr {(o),h},q}
 |eh ks =>
  rw[aH]at r;let(a,o,ws,e,h,q):=r;show{a,ws,e,aJ.A6 h,.inr {(o),h},q}
 |_=>show r
def eb.rep(b:iC t=Y1)(r:eb K L H t v):aH L H t v:=by
 induction t using T.casesOn with
 |aj xs=>ext b
 |a3 au=>ext b
 |eh ks=>ext b
 |_=>show r
theorem eb.ext(aJ:cR L n H)(e:dc L H ak)(r:eb K L H t v):eb K L ak t v:=by
 induction t using T.casesOn with
 |aj xs =>
  let(a,aa,bH,h,q):=r;show⟨a,aa,bH,h.ext e,bJ.mono (e.bU aJ) _ _ q⟩
 |a3 au =>
  let(a,ws,bH,na,h,q):=r;show{a,ws,bH,na,?_,cG.mono (e.bU aJ) _ _ q};rcases h with h|⟨o,h⟩
  .show .inl<|e.to a _ h na
  .show .inr {o,e.to a _ h na}
 |eh ks =>
  let(a,ws,bH,na,h,q):=r;show{a,ws,bH,na,?_,q};rcases h with h|⟨o,h⟩
  .show .inl<|e.to a _ h na
  .show .inr {o,e.to a _ h na}
 |_=>show aH.mono (e.bU aJ) _ _ r
def lS.root(na:a≠L)(h:lS L H a t):eb K L H t<|.ref a:=by
 induction t using T.casesOn with
 |aj xs =>
  let(aa,e,q):=h;show{a,aa,D,.inl {na,.inl e},q}
 |a3 au =>
  let(ws,e,q):=h;show{a,ws,D,na,.inl e,q}
 |eh ks =>
  let(ws,e,q):=h;show{a,ws,D,na,.inl e,q}
 |_=>show h.elim
def lS.ext(na:a≠L)(aJ:cR L n H)(e:dc L H ak)(h:lS L H a t):lS L ak a t:=by
 induction t using T.casesOn with
 |aj xs =>
  let(aa,bH,q):=h;show{aa,e.to a _ bH na,bJ.mono (e.bU aJ) _ _ q}
 |a3 au =>
  let(ws,bH,q):=h;show{ws,e.to a _ bH na,cG.mono (e.bU aJ) _ _ q}
 |eh ks =>
  let(ws,bH,q):=h;show{ws,e.to a _ bH na,q}
 |_=>show h.elim
def lS.some(h:lS L H a t):H a≠C:=by
 intro z
 induction t using T.casesOn with
 |aj xs =>
  let(aa,bH,q):=h;rw[z]at bH;ext bH
 |a3 au =>
  let(ws,bH,q):=h;rw[z]at bH;ext bH
 |eh ks =>
  let(ws,bH,q):=h;rw[z]at bH;ext bH
 |_=>show h.elim
end
structure df (K:Yo) (B:aI) (L:X7) (S:bA) (n:Y) (U:St) (H:aI):Prop where
 ext:dc L B H
 aJ:cR L n H
 j4:∃n0,cR L n0 B
 len:S.H=U.H
 ah:∀(i:Y) (t:T),S[i]?=J (J (t,.ah))->∃v,U[i]?=J (J v)/\aH L H t v
 cV:∀(i:Y) (t:T),S[i]?=J (J (t,.cV))->∃v,U[i]?=J (J v)/\eb K L B t v
 az:∀(i:Y) (t:T),S[i]?=J (J (t,.az))->∃a,U[i]?=J (J<|.ref a)/\B a=C/\lS L H a t
 og:∀(i:Y) (t:T),S[i]?≠J (J (t,.iG))
 nt:∀(i j:Y) (t t':T) (a:X7),S[i]?=J (J (t,.az))->S[j]?=J (J (t',.az))->U[i]?=J (J<|.ref a)->U[j]?=J (J<|.ref a)->i=j
def Val(K:Yo)(B:aI)(L:X7)(h9 H:aI)(t:T)(m:bk)(v:V):Prop :=
 match m with
 |.ah=>aH L H t v
 |.cV=>eb K L B t v
 |.iG=>eb K L H t v
 |.az=>∃a,v=.ref a/\h9 a=C/\lS L H a t
section
variable {K:Yo}{B:aI}{L:X7}{S:bA}{n n' n0:Y}{U:St}{H ak h9 H1:aI}{t:T}{m:bk}{v:V}
def cR.qb(aJ:cR L n H)(h:H a=C):a≠L:=λe=>by subst e;delta cR at aJ;rw[h]at aJ;ext aJ
def dc.free(e:dc L h9 H)(aJ:cR L n H)(h:H a=C):h9 a=C:=by
 cases z:h9 a with
 |none=>rfl
 |some o=>let:=e.to a o z<|aJ.qb h;rw[h]at this;cases this
def df.tg(R:df K B L S n U H)(h:B a=C):a≠L:=let ⟨_,b⟩:=R.j4;b.qb h
theorem df.mono(R:df K B L S n U H)(e:dc L H ak)(Hw:cR L n' ak):df K B L S n' U ak :=
 ⟨R.ext.trans e,Hw,R.j4,R.len,λi t h=>let ⟨v,af,ao⟩:=R.ah i t h;{v,af,aH.mono (e.bU R.aJ) _ _ ao},R.cV,
  λi t h=>let ⟨a,af,ao,a6⟩:=R.az i t h;⟨a,af,ao,a6.ext (R.tg ao) R.aJ e⟩,R.og,R.nt⟩
def Val.back(e:dc L h9 H1)(af:cR L n H1)(h:Val K B L H1 H t m v):Val K B L h9 H t m v:=by
 cases m with
 |ah=>show h
 |cV=>show h
 |iG=>show h
 |az =>
  let(a,aR,a4,cQ):=h;show{a,aR,e.free af a4,cQ}
theorem Val.root(R:df K B L S n U H)(h0:cR L n0 h9)(h:Val K B L h9 H t m v):eb K L H t v:=by
 cases m with
 |ah=>show eb.A7 R.aJ h
 |cV=>show let ⟨_,b⟩:=R.j4;eb.ext (v:=v) b R.ext h
 |iG=>show h
 |az =>
  let(a,rfl,a4,cQ):=h;show cQ.root<|h0.qb a4
end
inductive ru (K:Yo) (L:X7) (H:aI):O T->O V->Prop
 |nil:ru K L H [] []
 |cons {t:T} {v:V} {aD:O T} {aa:O V}:eb K L H t v->ru K L H aD aa->ru K L H (t::aD) (v::aa)
def qn(K:Yo)(B:aI)(L:X7)(S:bA)(n:Y)(t:T)(m:bk)(n':Y):TE:=λU H Q =>
 df K B L S n U H/\∀v ak,dc L H ak->cR L n' ak->Val K B L H ak t m v->Q v ak
def qaM(K:Yo)(B:aI)(L:X7)(S:bA)(n:Y)(aD:O T)(n':Y):ki:=λU H Q =>
 df K B L S n U H/\∀aa ak,dc L H ak->cR L n' ak->ru K L ak aD aa->Q aa ak
def KF(K:Yo)(B:aI)(L:X7)(f:hJ)(S':bA)(n':Y)(Lk:Ends)(H:aI):Prop:=match f with
  |.bS=>∀U' ak,eu H ak->df K B L S' n' U' ak->Lk.bS U' ak
  |.e1=>∀U' ak,eu H ak->df K B L S' n' U' ak->Lk.e1 U' ak
  |.eI=>∀U' ak,eu H ak->df K B L S' n' U' ak->Lk.eI U' ak
  |.aZ t m=>∀v ak,eu H ak->dc L B ak->cR L n' ak->Val K B L B ak t (qm m) v->Lk.aZ v ak
def KF.bU{K:Yo}{B:aI}{L:X7}{f:hJ}{S':bA}{n':Y}{Lk:Ends}{H H1:aI}(e:eu H H1)(h:KF K B L f S' n' Lk H):KF K B L f S' n' Lk H1:=by
 cases f with
 |bS=>show λU' ak x y=>h U' ak (e.trans x) y
 |e1=>show λU' ak x y=>h U' ak (e.trans x) y
 |eI=>show λU' ak x y=>h U' ak (e.trans x) y
 |aZ t m=>show λv ak x y z w=>h v ak (e.trans x) y z w
def wh(K:Yo)(B:aI)(L:X7)(S:bA)(n:Y)(f:hJ)(S':bA)(n':Y):jW:=λLk U H =>
 df K B L S n U H/\KF K B L f S' n' Lk H
def bI(X:bL)(L:X7)(e:Yd)(d:bK):Prop:=∀B S n t m n',d S n=J (t,m,n')->dH X e (qn X.K B L S n t m n')
def mg(X:bL)(L:X7)(es:O Yd)(d:gh):Prop:=∀B S n aD n',d S n=J (aD,n')->m3 X es (qaM X.K B L S n aD n')
def gj(X:bL)(L:X7)(st:Yf)(d:bw):Prop:=∀B S n f S' n',d S n=J (f,S',n')->jX X st (wh X.K B L S n f S' n')
def ho(X:bL)(L:X7)(st:O Yf)(d:bw):Prop:=∀B S n f S' n',d S n=J (f,S',n')->jZ X st (wh X.K B L S n f S' n')
section
variable {X:bL}{L:X7}
def zB(i:Y){x:Ya}{pos:Yh}(dA:X9 (X.N[i]?=J x) bo)(bX:X9 (kz X.I.Y x) az7._auto_1)(hd:X9 ((x==("__debug__" : Ya))=Y1) d7)
  (f3:X9 ((x==("__classdict__" : Ya))=Y1) d7):bI X L (.Name x pos)<|ai i:=by
 intro B S n t m n' h ae s U H Q I ⟨R,k⟩;delta ai at h;cases e:S[i]? with
 |none=>rw[e]at h;ext h
 |some o =>
  cases o with
  |none=>rw[e]at h;ext h
  |some p =>
   let(t',fG):=p;rw[e]at h;let h:J (t',look fG t',n)=J (t,m,n'):=h;cases h;let fin:∃v,U[i]?=J (J v)/\Val X.K B L H H t (look fG t) v:=by
    cases fG with
    |ah=>show R.ah i t e
    |iG =>
     induction t using T.casesOn with
     |_=>show Yi e<|R.og i _
    |cV =>
     let(v,af,ao):=R.cV i t e;show{v,af,?_};delta look;cases b:iC t with
     |true=>show ao
     |false=>show let ⟨_,qo⟩:=R.j4;aH.mono (R.ext.bU qo) _ _ (ao.rep b)
    |az =>
     let(a,af,ao,a6):=R.az i t e;show{.ref a,af,?_};delta look;cases b:iC t with
     |true=>show a6.root<|R.tg ao
     |false=>ext t<;>first|show(show Ym from a6).elim|cases b
   let(v,af,ao):=fin;show lL dA bX hd f3 ae s U H Q I {v,af,k v H (.refl _ _) R.aJ ao}
def AX{e:Yd}{t:T}{v:V}(h:dH X e<|v8 v)(r:∀H,aH L H t v):bI X L e<|aS t:=by
 intro B S n t' m n' hd ae s U H Q I ⟨R,k⟩
 ext hd
 show h ae s U H Q I<|k v H (.refl _ _) R.aJ<|r H
def Hx{i:X6}{j pos}:bI X L (.Constant (.int i) j pos)<|aS<|.int i:=AX Ck λ_=>by rw[aH]
def af7{b:Yc}{j pos}:bI X L (.Constant (.bool b) j pos)<|aS<|.a5 b:=AX afP λ_=>by rw[aH]
def aho{j pos}:bI X L (.Constant .none j pos)<|aS .bR:=AX Tg λ_=>by rw[aH]
def Tu{x:Ya}{j pos}:bI X L (.Constant (.str x) j pos)<|aS<|.str x:=AX GV λ_=>by rw[aH]
def qW{x:Ya}{i:X6}{t:Tok}{pos:Yh}(hm:X.bj x=J (.int i t))(bQ:X9 (fI X x) bo)(hd:X9 ((x==("__debug__" : Ya))=Y1) d7):bI X L (.Name x pos) (aS<|.int i) :=
 AX (aiQ bQ hm (v:=.int i) {(t),D} hd) λ_=>by rw[aH]
end
section
variable {X:bL}{ae:O Z2}{U:St}{H:aI}{s:aL}{a:X7}{u:h4}{L:X7}
def _root_.a9.aO.freeze(I:aO X ae U H s)(h:H a=J u)(b1:(∃xs,u=.aj xs)\/(∃au,u=.aS au)\/∃ks,u=.hG ks):∃o,aO X ae U (cO H a<|.d3 o u) s:=by
 let ok:=I.bE a u h;have⟨o,aV⟩:∃o,s.heap.get? a=J o:=by
  rcases b1 with⟨xs,rfl⟩|⟨au,rfl⟩|⟨ks,rfl⟩
  .let(_,aX,n,_,e):=ok;show{_,e}
  .let(_,_,_,_,o,_,_,e,_):=ok;show{_,e}
  .let(_,_,_,_,o,_,_,e,_):=ok;show{_,e}
 let AY:∀b xs,H b=J (.aE xs)->b≠a:=λb xs e z=>by subst z;rw[h]at e;ext e;rcases b1 with⟨_,q⟩|⟨_,q⟩|⟨_,q⟩<;>ext q
 let afi:∀b cW e7,H b=J (.d3 cW e7)->b≠a:=λb cW e7 e z=>by subst z;rw[h]at e;ext e;rcases b1 with⟨_,q⟩|⟨_,q⟩|⟨_,q⟩<;>ext q
 let bq:∀b,H b=C->b≠a:=λb e z=>by subst z;rw[h]at e;ext e
 let bE:eY X.R X.w (cO H a<|.d3 o u) s.Q:=λb eM e=>by
  let st:∀(c:X7) (eM:h4),fN X.R X.w H s.Q c eM->fN X.R X.w (cO H a<|.d3 o u) s.Q c eM:=λc eM q =>
   q.j8 (λ_ z=>z) λc0 xs ee=>by rw[ea<|AY c0 xs ee];show ee
  by_cases aq:b=a
  .subst aq;rw[eS]at e;ext e;show{aV,st _ _ ok}
  .rw[ea aq]at e;show st _ _<|I.bE b eM e
 show{o,?_}
 let un:fq X.cq [] H (cO H a<|.d3 o u) s.Q s.Q:=⟨λb b2 e _ _ _=>e,λb b2 e _ _ _=>{(b2.slots),e},λb b2 e n _=>by rw[ea<|bq b n];show n,λb b2 e _=>{(b2),e},
  λb xs e=>by rw[ea<|AY b xs e];show e,λb cW e7 e=>by rw[ea<|afi b cW e7 e];show e⟩
 show I.un (h':=s.Q) (t':=s.toks) un bE
theorem eu.d3{o:Yp}(h:H a=J u)(b1:(∃xs,u=.aj xs)\/(∃au,u=.aS au)\/∃ks,u=.hG ks):eu H<|cO H a<|.d3 o u:=λb =>
 ⟨λaa e=>by rw[ea<|by rintro rfl;rw[h]at e;ext e;rcases b1 with⟨_,q⟩|⟨_,q⟩|⟨_,q⟩<;>ext q];show e,
  λcW e7 e=>by rw[ea<|by rintro rfl;rw[h]at e;ext e;rcases b1 with⟨_,q⟩|⟨_,q⟩|⟨_,q⟩<;>ext q];show e⟩
end
def qaN(h:∀y∈scope.h,y.2=.free->∃c,env.cells.lookup y.1=J c) :
  ∃cl,closureFor scope env=pure cl/\(∀x c,cl.lookup x=J c->env.cells.lookup x=J c)/\∀y∈scope.h,y.2=.free->∃c,cl.lookup y.1=J c:=by
 let key:∀(names:O (Ya×rM)) (Fa:O (Ya×X7)),(∀y∈names,y.2=.free->∃c,env.cells.lookup y.1=J c)->(∀x c,Fa.lookup x=J c->env.cells.lookup x=J c) ->
   ∃cl,(forIn names Fa λx cs=>match x with
    |(name,kind)=>if(kind==.free)=Y0 then(cellOf env name >>= λc=>pure<|Lb<|(name,c)::cs) else pure (Lb cs):Sem<|O<|Ya×X7)=pure cl /\
    (∀x c,cl.lookup x=J c->env.cells.lookup x=J c)/\(∀x c,Fa.lookup x=J c->∃c0,cl.lookup x=J c0)/\∀y∈names,y.2=.free->∃c,cl.lookup y.1=J c:=by
  intro names
  induction names with
  |nil=>intro Fa _ bx;show{Fa,D,bx,λx c e=>{(c),e},λy aP=>nomatch aP}
  |cons z r aT =>
   intro Fa bq bx;let(nm,hy):=z;by_cases aY:(hy==K8)=Y0
   .let zC:hy=.free:=by simpa using aY
    let(c,aN):=bq (nm,hy) dF zC;let aN:env.cells.lookup nm=J c:=aN
    let(cl,e,af,ao,a6):=aT ((nm,c)::Fa) (λy aP=>bq y<|dZ _ aP) (λx c0 e=>by
     rw[rB]at e;split at e
     .rename_i q;let q:x=nm:=by simpa using q
      ext e;rw[q];show aN
     .show bx x c0 e)
    show{cl,?_,af,λx c0 q=>?_,λy aP hf=>?_}
    .rw[List.forIn_cons];erw[aY,Yq];let aA:cellOf env nm=pure c:=by delta cellOf;rw[aN]
     rw[aA];show e
    .by_cases ax:x=nm
     .subst ax;show ao x c (by simp[rB])
     .show ao x c0 (by rw[rB,show(x==nm)=Y1 by simpa using ax];show q)
    .rcases ei.mp aP with rfl|aP
     .show ao nm c (by simp[rB])
     .show a6 y aP hf
   .let(cl,e,af,ao,a6):=aT Fa (λy aP=>bq y<|dZ _ aP) bx;show⟨cl,?_,af,ao,λy aP hf=>?_⟩
    .rw[List.forIn_cons];erw[aY];show e
    .rcases ei.mp aP with rfl|aP
     .show Yi (by simpa using hf) (by simpa using aY)
     .show a6 y aP hf
 let(cl,e,af,_,a6):=key scope.h [] h (λx c e=>by simp at e);show{cl,?_,af,a6};delta closureFor;dsimp only;rw[e];rfl
theorem CF{env:Env}:∀{names:O (Ya×rM)} {x:Ya} {k:rM},
  (names.map λ(n,k)=>if(k==K8&&env.Y.kind==.function&&env.kindOf n==J .cell) then(n,NameKind.cell) else(n,k)).lookup x=J k ->
  names.lookup x=J k\/(names.lookup x=J .free/\k=.cell)
 |[],_,_,h=>by simp at h
 |(n,k0)::r,x,k,h=>by
  let aT:=@CF env r x k;let ao:List.lookup x ((if(k0==K8&&env.Y.kind==.function&&env.kindOf n==J .cell)=Y0 then(n,NameKind.cell) else(n,k0))::(r.map λ(n,k)=>if(k==K8&&env.Y.kind==.function&&env.kindOf n==J .cell)=Y0 then(n,NameKind.cell) else(n,k)))=J k:=h;clear h;cases ax:x==n with
  |true =>
   by_cases aN:(k0==K8&&env.Y.kind==.function&&env.kindOf n==J .cell)=Y0
   .rw[Y2 aN]at ao;erw[rB,ax]at ao |-;let eA:k0=.free:=by erw[gS,UI]at aN;show aN.1.1
    subst eA;show .inr {D,(Yt ao).symm}
   .rw[Y3 aN]at ao;erw[rB,ax]at ao |-;show .inl ao
  |false =>
   by_cases aN:(k0==K8&&env.Y.kind==.function&&env.kindOf n==J .cell)=Y0
   .rw[Y2 aN]at ao;erw[rB,ax]at ao |-;show aT ao
   .rw[Y3 aN]at ao;erw[rB,ax]at ao |-;show aT ao
section
variable {prog:di}{w:cL}{A:dz}{R:Result->aL->Prop}{s:aL}
def qaO(I:Y->aL->Prop)
  (turn:∀n s,I n s->ba Z7 A (kT it) (λr dO=>match r with
   |none=>R (.ok .next) dO
   | some v=>ba Z7 A (BB target it v) (λ_ dO=>ba Z7 A (lC target env v) (λ_ fX =>
     ba Z7 A (forIn ifs Y0 λc r=>if r=Y0 then do let ok<-isTrue c env (Ur c env);pure (Lb ok) else pure (Lb r)) (λok Gi =>
      if ok=Y0 then ba Z7 A (Ur elt env) (λx LA =>
       ba Z7 A (call (.builtin "list.append") [Fa,x]) (λ_ LB=>∃m,m<n/\I m LB) (λ_ _=>Ym) LA) (λ_ _=>Ym) Gi
      else ∃m,m<n/\I m Gi) (λ_ _=>Ym) fX) (λ_ _=>Ym) dO) (λ_ _=>Ym) dO) (λ_ _=>Ym) s)
  (n:Y) (h:I n s) :
  kS Z7 A (.compLoop (.ListComp elt [{target,iter,ifs,0}] scope pos) 0 it Fa env) R s:=by
 show codeAny_loop D I (λn s rW=>?_) n h;show ba _ A ((compTurn (.ListComp elt [{target,iter,ifs,0}] scope pos) 0 it Fa env).onRaise (λx=>do noteFrame x env;theTreesLotGoes x)) _ _ s;show wpAny_noted ?_;rw[compTurn_list];show aU<|F4<|aU (g5 (turn n s rW) (λr dO h₁=>?_) λ_ _ h'=>h'.elim);cases r with
 |none=>show bG h₁
 |some v =>
  show aU (g5 h₁ (λ_ dO h₁=>?_) λ_ _ h'=>h'.elim);show aU (g5 h₁ (λ_ fX LC=>aU (g5 LC (λok Gi LD=>?_) λ_ _ h'=>h'.elim)) λ_ _ h'=>h'.elim);cases ok with
  |false=>show bG {(D),LD}
  |true =>
   show aU<|aU (g5 LD (λx LA Uv=>aU (g5 Uv (λ_ LB Uw=>bG<|bG ⟨D,Uw⟩) λ_ _ h'=>h'.elim)) λ_ _ h'=>h'.elim)
end
noncomputable def gp(X:bL)(N':O Ya)(scope:ju)(cl:O<|Ya×X7)(bc:X7)(cH:aL)(du:aI)(fp:O X7):bL :=
 { X with N:=N',cH:=cH,du:=du,env:=compEnvC scope cl bc X.I,cP:=X.stack,stack:=X.stack,ex:=fp,fn:=λ_=>Y1,h5:=[],cu:=λ_ _=>Ym}
structure lp (X:bL) (scope:ju) (N':O Ya) (e9:O<|X8 Y):Prop where
 kind:scope.kind=.function
 cell:∀y∈scope.h,y.2≠.cell
 names:∀y∈scope.h,y.2=.local->scope.names.lookup y.1=J .local
 free:∀y∈scope.h,y.2=.free->X.env.kindOf y.1=J .cell\/X.env.kindOf y.1=J .free
 len:e9.H=N'.H
 src:∀(i j:Y),e9[i]?=J (J j)->∃x,N'[i]?=J x/\X.N[j]?=J x/\scope.names.lookup x≠J .local
noncomputable def s8(l:O<|X8 Y)(U:St):St:=l.map λo=>o.bind λj=>(U[j]?).join
def Hy{i:Y}(h:(s8 l U)[i]?=J (J v)):∃j,l[i]?=J (J j)/\U[j]?=J (J v):=by
 delta s8 at h;rw[hN]at h;cases e:l[i]? with
 |none=>rw[e]at h;ext h
 |some o =>
  rw[e]at h;cases o with
  |none=>ext h
  |some j =>
   show{j,D,?_};let h:(U[j]?).join=J v:=Yt h;cases q:U[j]? with
   |none=>rw[q]at h;ext h
   |some p=>rw[q]at h;rw[show p=J v from h]
def qaP{X:bL}{scope:ju}{N':O Ya}{e9:O<|X8 Y}{cl:O<|Ya×X7}{ae:O Z2}{U:St}{H:aI}{s:aL}{h':Yg}{fp:O X7}{tk:Y}
  (bc:lp X scope N' e9) (I:aO X ae U H s) (my:∀x c,cl.lookup x=J c->X.env.cells.lookup x=J c) (uD:∀y∈scope.h,y.2=.free->∃c,cl.lookup y.1=J c)
  (hf:∀b∈fp,oF X ae H b) (aV:∀b∈fp,∃o,s.heap.get? b=J o)
  (bq:h'.Ns s.L λ_=>C) (bP:∀b o,s.heap.get? b=J o->h'.get? b=J o) :
  aO (gp X N' scope cl s.L s H fp) [] (s8 e9 U) H { s with heap:=h',toks:=tk}:=by
 let YH:∀b∈fp,b<s.L:=λb aq=>let ⟨o,e⟩:=aV b aq;d6 e
 let kinds:∀(x:Ya) (k:rM),(compEnvC scope cl s.L X.I).kindOf x=J k->(k=.cell\/k=.free)->scope.names.lookup x=J .free:=λx k h aY=>by
  rcases CF (env:=X.I) (names:=scope.h) (x:=x) (k:=k) h with e|⟨e,_⟩
  .rcases aY with rfl|rfl
   .show Yi D<|bc.cell _<|KS e
   .show e
  .show e
 let bE:(gp X N' scope cl s.L s H fp).Ok:=by
  show⟨I.ok.mod,bc.kind,I.ok.glob,I.ok.blt,b3 _,λx y c af ao=>I.ok.inj x y c (my x c af)<|my y c ao,λx h=>?_,λx c h=>(by ext h),I.ok.hd,I.ok.frames,.inl rfl,λb aq=>⟨?_,λx c e=>?_⟩,I.bs,bF I.ok.nh I.b9,λb o e aq=>?_,λb aq z=>?_,I.stack,I.E3⟩
  .rcases h with h|h
   .show uD _ (KS<|kinds x _ h<|.inl D) D
   .show uD _ (KS<|kinds x _ h<|.inr D) D
  .show eE<|YH b aq
  .show(hf b aq).2.2.2.2.1 x c (my x c e)
  .rcases(hf b aq).2.2.2.1 with z|z
   .show I.ok.sU b o e z
   .show Yi (d0 (d6 e)<|bF I.ok.nh z)<|nR _
  .let(_,f1,f2,_):=hf b aq;rcases ei.mp (I.KN b z) with q|q
   .show f1 q
   .show f2 q
 show{bE,D,I.dE,fq.kept bP,{_,bq,λi x v af ao a6=>?_},λx c h=>?_,I.bE.fresh<|b3 _,λx c h=>I.kO x c<|my x c h,λp aF=>(by ext aF),I.bE.kept bP,by show(e9.map _).H=N'.H;rw[cj,bc.len]}
 .let(j,aA,av):=Hy ao;let(y,aR,a4,cQ):=bc.src i j aA;let af:N'[i]?=J x:=af;rw[aR]at af;cases af;let EH:scope.names.lookup x=J .free:=by
   rcases a6 with k|k|k
   .rcases CF (env:=X.I) (names:=scope.h) (x:=x) (k:=.local) k with e|⟨e,z⟩
    .show Yi e cQ
    .cases z
   .show kinds x _ k<|.inl D
   .show kinds x _ k<|.inr D
  let zD:=bc.free _ (KS EH) D;let(m,_,aC):=I.loc;let(u,eF,kl):=aC j x v a4 av<|.inr zD;show{u,eF,.inr {?_,?_}}
  .rcases a6 with k|k|k
   .rcases CF (env:=X.I) (names:=scope.h) (x:=x) (k:=.local) k with e|⟨e,z⟩
    .show Yi e cQ
    .cases z
   .show .inl k
   .show .inr k
  .rcases kl with⟨k,_⟩|⟨_,c,aN,Ux⟩
   .let zD:X.env.kindOf x=J .cell\/X.env.kindOf x=J .free:=zD;rw[k]at zD;rcases zD with z|z<;>cases z
   .let(c0,qH):=uD _ (KS EH) D;let:=my _ _ qH;rw[show X.env.cells.lookup x=J c from aN]at this
    ext this
    let(o,e,d):=Ux;show{c,qH,o,bP c o e,d}
 .let(v,o,e,d):=I.cell x c<|my x c h;show{v,o,bP c o e,d}
def wi(X:bL)(ifs:O Yd)(t:TT):Prop :=
 ∀(ae:O Z2) (s:aL) (U:St) (H:aI) (Q:Yc->aI->Prop),aO X ae U H s->t U H Q ->
  ba Z3 X.A (forIn ifs Y0 λc r=>if r=Y0 then do let ok<-isTrue c X.I (Ur c X.I);pure (Lb ok) else pure (Lb r)) (BO X ae U Q) X.cu s
def ahp:wi X [] (λU H Q=>Q Y0 H):=λae s U H Q I h=>wpAny_tests_nil {(H),I,h}
def ahq(h:m2 X c t):wi X [c] t:=λae s U H Q I hw=>wpAny_tests_one<|h ae s U H Q I hw
def EO(lD:TI)(e9:O<|X8 Y)(g:pe)(tt:TT)(te:TE):TE:=λU H Q=>lD U H λdg H1=>∀Lk,H1 Lk=C ->
 ∃W:Y->Y->O V->St->aI->Prop,(∃m,W 0 m [] (s8 e9 U)<|cO H1 Lk<|.aj [])/\∀i m Fa U' ak,W i m Fa U' ak ->
  (dg.stop i ak/\Q (.ref Lk) ak)\/(dg.go i ak/\∃wj:O V->St->aI->Prop,(∀Fa U H,wj Fa U H->∃fG,fG<m/\W (i+1) fG Fa U H) /\
   ∀x br,dg.Cq i ak x br->g x U' br λU3 dr=>tt U3 dr λb pg=>if b=Y0 then te U3 pg λy i4=>i4 Lk=J (.aj Fa)/\Fa.H<c3/\wj (Fa++[y]) U3 (cO i4 Lk<|.aj<|Fa++[y]) else wj Fa U3 pg)
def Nc{X:bL}{elt dj iter:Yd}{ifs:O Yd}{scope:ju}{pos afj:Yh}{N':O Ya}{e9:O<|X8 Y}{lD:TI}{g:pe}{tt:TT}{te:TE}{use:X8<|ay->Sem Unit}{Qv:ay->aL->Prop}{Q:eW}{ae:O Z2}{s:aL}{U:St}{H:aI}(I:aO X ae U H s)(h:EO lD e9 g tt te U H Q)(aN:X.calm=Y0)
  (bc:lp X scope N' e9) (hi:m4 X dj iter lD) (bQ:∀cl bc cH du fp,pf (gp X N' scope cl bc cH du fp) dj g) (cE:∀cl bc cH du fp,wi (gp X N' scope cl bc cH du fp) ifs tt)
  (he:∀cl bc cH du fp,dH (gp X N' scope cl bc cH du fp) elt te) (aM:∀x,lA iter X.I x=pure x)
  (fin:∀(Lk:X7) (ak:aI) (lF:aL) (bc:X7),(∀h',Vh bc lF.Q h'->aO X ae U ak { lF with heap:=h'})->(∃m,lF.heap.Ns bc m)->oF X ae ak bc->Q (.ref Lk) ak->compPost (bg X.R X.w) X.A X.cu use Qv (.ref Lk) bc (.ok .next) lF) :
  ba Z3 X.A (comprehension (.ListComp elt [{dj,iter,ifs,0}] scope pos) scope X.I afj (newList []) Y1 (Ur iter X.I) use) Qv X.cu s:=by
 let(cl,af8,my,uD):=qaN (scope:=scope) (env:=X.I) λy aP hf=>I.ok.has _<|bc.free y aP hf;show wpAny_comprehension_free (use:=use) D aM af8 bc.kind bc.h (bZ (hi ae s U H _ I h) λam1 s1 af=>bZ af λGY s2 ao=>?_);let(it,fp,aJ,dg,H1,e,cI,T,gX,f2,q):=ao;subst e;show i1 ?_;let hT:H1 s2.L=C:=cI.fresh;let fz:aO X ae U (cO H1 s2.L<|.aj []) { s2 with heap:=s2.heap.push { cls:=.type "list",data:=.seq ([]:O ay).D}}:=cI.R6 (aX:=[]) (t':=s2.toks) .nil<|f9 _;let(W,(m0,tL),turn):=q _ hT;show wpAny_newFunctionEnv bc.cell (by intro y aP;simp at aP) (λcS qM kE=>?_) bc.kind;let anm:s2.L≠(s2.heap.push { cls:=.type "list",data:=.seq ([]:O ay).D}).E.O:=by rw[kQ];show eE<|mS _
 let YI:∀b∈fp,∃o,(s2.heap.push { cls:=.type "list",data:=.seq ([]:O ay).D}).get? b=J o:=λb aq=>let ⟨o,e,_⟩:=T.obj 0 _ gX b aq;{o,dG _ e}
 let YJ:∀b∈fp,b≠s2.L:=λb aq z=>by let(o,e,_):=T.obj 0 _ gX b aq;show Yi (d6 e) (by rw[z];show nR _)
 let dW:∀b∈fp,oF X ae (cO H1 s2.L<|.aj []) b:=λb aq=>{by rw[ea<|YJ b aq];show(f2 b aq).1,(f2 b aq).2}
 let Nd:∀b o,(s2.heap.push { cls:=.type "list",data:=.seq ([]:O ay).D}).get? b=J o->cS.get? b=J o:=λb o e =>
  kE.extBut b o (eE<|d6 e) (dG _ e)
 let gU:=qaP (tk:=s2.toks+([]:O<|Ya×ay).H) bc fz my uD dW YI (by simpa using qM) Nd;let Nf:aJ 0 cS:=T.keep 0 _ _ gX λb aq o e=>Nd b o<|dG _ e;let Hz:∀{ak:aI},(∀b∈fp,ak b=C)->∀b∈fp,oF (gp X N' scope cl (s2.heap.push { cls:=.type "list",data:=.seq ([]:O ay).D}).objs.size { s2 with heap:=s2.heap.push { cls:=.type "list",data:=.seq ([]:O ay).D}} (cO H1 s2.L<|.aj []) fp) [] ak b:=λ{ak} bq b aq=>by show⟨bq b aq,(gU.ok.uk b aq).1,gU.ok.sV b aq,.inl aq,λx c e z=>(gU.ok.uk b aq).2 x c e z,λp aF=>by ext aF⟩
 let loop:kS Z3 X.A (.compLoop (.ListComp elt [{dj,iter,ifs,0}] scope pos) 0 (.ref it) (.ref s2.L)<|compEnvC scope cl (s2.heap.push { cls:=.type "list",data:=.seq ([]:O ay).D}).objs.size X.I)
   (compPost Z3 X.A X.cu use Qv (.ref s2.L) (s2.heap.push { cls:=.type "list",data:=.seq ([]:O ay).D}).E.O) { s2 with heap:=cS,toks:=s2.toks+([]:O (Ya×ay)).H}:=by
  show qaO (λn s'=>∃i Fa U' ak,aO (gp X N' scope cl (s2.heap.push { cls:=.type "list",data:=.seq ([]:O ay).D}).objs.size { s2 with heap:=s2.heap.push { cls:=.type "list",data:=.seq ([]:O ay).D}} (cO H1 s2.L (.aj [])) fp) [] U' ak s'/\aJ i s'.Q/\(∀b∈fp,ak b=C)/\W i n Fa U' ak) ?_ m0
   {0,[],_,_,gU,Nf,λb aq=>(dW b aq).1,tL}
  rintro n s5 ⟨i,Fa,U5,i4,wa,wV,Ct,Uy⟩;rcases turn i n Fa U5 i4 Uy with⟨stop,tM⟩|⟨go,wj,dA,step⟩
  .show bZ (T.done (gp X N' scope cl _ _ _ fp) D D D aN i [] s5 U5 i4 (λ_ _=>Ym) wa (Hz Ct) wV stop) λr lF ⟨hr,n1⟩=>?_;subst hr;let(Uz,YK,_):=n1.loc;show fin _ i4 lF _ (λh' mz=>?_) {(Uz),YK} (fz.ve (b3 _) n1.free) tM;let UA:∀b u,i4 b=J u->b≠(s2.heap.push { cls:=.type "list",data:=.seq ([]:O ay).D}).E.O:=λb u e z=>by
    let:=n1.free;rw[show(gp X N' scope cl (s2.heap.push { cls:=.type "list",data:=.seq ([]:O ay).D}).objs.size { s2 with heap:=s2.heap.push { cls:=.type "list",data:=.seq ([]:O ay).D}} (cO H1 s2.L (.aj [])) fp).I.locals=(s2.heap.push { cls:=.type "list",data:=.seq ([]:O ay).D}).E.O from D,<-z,e]at this
    ext this
   let bE:eY X.R X.w i4 h':=λb u e=>(n1.bE b u e).j8 (λv q=>mz.extBut b v (UA b u e) q) λ_ _ q=>q;let un:fq (hb X.stack) fp (cO H1 s2.L<|.aj []) i4 (s2.heap.push { cls:=.type "list",data:=.seq ([]:O ay).D}) h':=by
    let lt:∀b o,(s2.heap.push { cls:=.type "list",data:=.seq ([]:O ay).D}).get? b=J o->b≠(s2.heap.push { cls:=.type "list",data:=.seq ([]:O ay).D}).E.O:=λb o e=>eE<|d6 e;let u:=n1.d
    show⟨λb o e n aq ax=>mz.extBut b o (lt b o e)<|u.keep b o e n aq ax,λb o e n aq ax=>let ⟨c8,q⟩:=u.slot b o e n aq ax;{c8,mz.extBut b _ (lt b o e) q},λb o e n ax=>u.free b o e n ax,
     λb o e ax=>let ⟨cW,q⟩:=u.there b o e ax;{cW,mz.extBut b _ (lt b o e) q},u.nF,u.l2⟩
   show fz.EI (s':={ lF with heap:=h'}) (ch:=fp) n1.os un bE n1.dE λb aq=>let ⟨_,g1,g2,g3,gv,m8⟩:=dW b aq;{(g3),g1,gv,m8}
  .show bZ (T.item (gp X N' scope cl _ _ _ fp) D D D aN i [] s5 U5 i4 (λ_ _=>Ym) wa (Hz Ct) wV go) λr lF ⟨u,hr,Gj⟩=>?_;subst hr;show bZ Gj λ_ rS ⟨x,lG,kW,wb,m9,HA,YL⟩=>?_;let YM:=kW.pinned (Hz YL)<|T.obj _ _ HA;show bZ (bQ _ _ _ _ _ _ rS U5 lG x u _ YM wb<|step x lG m9) λ_ UB ⟨U8,UC,UD,UE⟩=>?_;show bZ (cE _ _ _ _ _ _ UB U8 UC _ UD UE) λb UG ⟨UH,LF,BV⟩=>?_;let again:∀{U0:St} {h9:aI} {Ey:O V} {s0:aL},aO (gp X N' scope cl (s2.heap.push { cls:=.type "list",data:=.seq ([]:O ay).D}).objs.size { s2 with heap:=s2.heap.push { cls:=.type "list",data:=.seq ([]:O ay).D}} (cO H1 s2.L (.aj [])) fp) ([]++zf fp rS.Q) U0 h9 s0->wj Ey U0 h9 ->
     ∃m,m<n/\∃i Fa U' ak,aO (gp X N' scope cl (s2.heap.push { cls:=.type "list",data:=.seq ([]:O ay).D}).objs.size { s2 with heap:=s2.heap.push { cls:=.type "list",data:=.seq ([]:O ay).D}} (cO H1 s2.L<|.aj []) fp) [] U' ak s0/\aJ i s0.Q/\(∀b∈fp,ak b=C)/\W i m Fa U' ak:=λ{U0 h9 Ey s0} Gk n0=>by
    let(fG,hm,YN):=dA Ey U0 h9 n0;show{fG,hm,i+1,Ey,U0,h9,Gk.E5,T.keep _ _ _ HA λb aq o e=>(Gk.pin (b,o)<|l6 _<|l6 _<|Cs aq e).1,λb aq=>?_,YN};let(o,e,d):=T.obj _ _ HA b aq;show(Gk.pin (b,o)<|l6 _<|l6 _<|Cs aq e).2.1
   cases b with
   |false =>
    rw[Y3 Z0]at BV |-;show again LF BV
   |true =>
    rw[Y2 D]at BV |-;show bZ (he _ _ _ _ _ _ UG U8 UH _ LF BV) λn4 YO ⟨y,YP,YQ,d8,sm,YR,YS⟩=>?_;show bZ (Cv (X:=gp X N' scope cl _ _ _ fp) _ YO U8 YP (.ref s2.L) [y] (.ref s2.L) [n4] (λ_ H=>wj (Fa++[y]) U8 H) YQ D (.cons d8 .nil) {_,Fa,y,D,D,sm,YR,YS}) λ_ ano ⟨v11,anp,YT,_,YU⟩=>?_;show again YT YU
 show codeAny_compStart_list loop<|T.self _ 0 _ _ _ Nf loop
def ai8(aN:X.calm=Y0)
  (bc:lp X scope N' e9) (hi:m4 X dj iter lD) (bQ:∀cl bc cH du fp,pf (gp X N' scope cl bc cH du fp) dj g) (cE:∀cl bc cH du fp,wi (gp X N' scope cl bc cH du fp) ifs tt)
  (he:∀cl bc cH du fp,dH (gp X N' scope cl bc cH du fp) elt te) (aM:X9 (∀x,lA iter X.I x=pure x) qx) :
  dH X (.ListComp elt [{dj,iter,ifs,0}] scope pos) (EO lD e9 g tt te):=by
 intro ae s U H Q I h;rw[eval_ListComp];show Nc (use:=C) I h aN bc hi bQ cE he aM λLk ak lF bc Gl tR _ q=>let ⟨m,hm⟩:=tR;{m,hm,λh' mz=>{.ref Lk,ak,Gl h' mz,D,q}}
def ai9{i:Y}(aN:X.calm=Y0)
  (dA:X.N.Nodup) (fD:X.N[i]?=J y) (aP:X.env.scope.names.lookup y=J .local)
  (bc:lp X scope N' e9) (hi:m4 X dj iter lD) (bQ:∀cl bc cH du fp,pf (gp X N' scope cl bc cH du fp) dj g) (cE:∀cl bc cH du fp,wi (gp X N' scope cl bc cH du fp) ifs tt)
  (he:∀cl bc cH du fp,dH (gp X N' scope cl bc cH du fp) elt te)
  (uE:nW (.ListComp elt [{dj,iter,ifs,0}] scope pos) (J<|.Name y py) vj.line X.I=pure Y0) (aM:X9 (∀x,lA iter X.I x=pure x) qx) :
  jX X (.Assign [.Name y py] (.ListComp elt [{dj,iter,ifs,0}] scope pos) vj) (Ke (EO lD e9 g tt te)<|Kv i):=by
 intro ae s U H Lk I h;rw[exec_Assign_Name_used _ _ _ _ uE];show aU<|F4<|aU ?_;show ba _ X.A (do let _<-comprehension (.ListComp elt [{dj,iter,ifs,0}] scope pos) scope X.I _ (newList []) Y1 (Ur iter X.I) (J (lC (.Name y py) X.I))) _ _ s;show aU (g5 (Nc (use:=J<|lC (.Name y py) X.I) (Qv:=λ_ s'=>nZ X ae Lk .next s') I h aN bc hi bQ cE he aM λDa ak lF bc Gl tR pj q=>?_) (λ_ s' a8=>bG<|bG a8) λ_ _ e=>e);let(m,hm):=tR;let n1:aO X ae U ak lF:=Gl lF.Q<|.refl ..;show ba _ X.A (lC (.Name y py) X.I<|.ref Da) _ _ _;show wpAny_assign_Name<|Mv n1 dA fD (.inl aP) (v:=.ref Da) D (λrS kW cX=>?_)<|.inr aP;let(a,cX,bx):=cX;let na:bc≠a:=by
  rcases bx with e|e
  .rw[e];show pj.2.1
  .show(pj.2.2.2.2.1 y a e).symm
 show{m,hm.sameBut cX na,λh' mz=>{_,ak,?_,q}};let(f0,f1,f2,dW,f4,gT):=pj;show kW.turned (t':=rS.toks) (λb o aq e=>mz.extBut b o aq e) f0 f1 dW f4 gT
section
variable {X:bL}{L:X7}
def b5{α β:Type}{o:X8 α}{f:α->X8 β}{b:β}(h:o.bind f=J b):∃a,o=J a/\f a=J b:=by
 cases o with
 |none=>ext h
 |some a=>show{(a),D,h}
def dm{α β:Type}{o:X8 α}{f:α->β}{b:β}(h:o.map f=J b):∃a,o=J a/\f a=b:=by
 cases o with
 |none=>ext h
 |some a=>show{a,D,Yt h}
def HB{n n':Y}(h:aB g a S n=J (t,m,n')):∃aD,a S n=J (aD,n')/\g n' aD=J (t,m):=by let(r,aA,av):=b5 h;let(x,a7,bM):=dm av;let q:=Yx (λz:T×bk×Y=>z.2.2) bM;let q:r.2=n':=q;subst q;let p:=Yx (λz:T×bk×Y=>(z.1,z.2.1)) bM;let p:x=(t,m):=p;subst p;show{(r.1),aA,a7}
def w4{n n':Y}(h:ag d a S n=J (l,n')):∃t m aW m7,d S n=J (t,m,aW)/\a S aW=J (m7,n')/\l=t::m7:=by let(r,aA,av):=b5 h;let(x,a7,bM):=dm av;let q:x.2=n':=Yx Prod.snd bM;subst q;show{_,_,_,x.1,aA,a7,(Yx Prod.fst bM).symm}
def HC{n n':Y}(h:aw S n=J (l,n')):l=[]/\n=n':={(Yx (λz:X8 (O T×Y)=>(z.getD ([],0)).1) h).symm,Yx (λz:X8 (O T×Y)=>(z.getD ([],0)).2) h}
def CG{n n':Y}(h:aB g (ag en aw) S n=J (t,m,n')):∃t0 m0,en S n=J (t0,m0,n')/\g n' [t0]=J (t,m):=by let(aD,af,e):=HB h;let(_,_,_,_,f0,ao,rfl):=w4 af;let(rfl,rfl):=HC ao;show{_,_,f0,e}
def aja{n n':Y}(h:aB g (ag en<|ag fy aw) S n=J (t,m,n')):∃t0 m0 n0 t1 c9,en S n=J (t0,m0,n0)/\fy S n0=J (t1,c9,n')/\g n' [t0,t1]=J (t,m):=by let(aD,af,e):=HB h;let(_,_,_,_,f0,ao,rfl):=w4 af;let(_,_,_,_,f1,a6,rfl):=w4 ao;let(rfl,rfl):=HC a6;show{_,_,_,_,_,f0,f1,e}
def ajb{n n':Y}(h:aB g (ag en<|ag fy<|ag g9 aw) S n=J (t,m,n')):∃t0 m0 n0 t1 c9 aW eB fY,en S n=J (t0,m0,n0)/\fy S n0=J (t1,c9,aW)/\g9 S aW=J (eB,fY,n')/\g n' [t0,t1,eB]=J (t,m):=by let(aD,af,e):=HB h;let(_,_,_,_,f0,ao,rfl):=w4 af;let(_,_,_,_,f1,a6,rfl):=w4 ao;let(_,_,_,_,f2,cS,rfl):=w4 a6;let(rfl,rfl):=HC cS;show{_,_,_,_,_,_,_,_,f0,f1,f2,e}
def bI.run{e:Yd}{d:bK}(h:bI X L e d){B:aI}{S:bA}{n:Y}{t:T}{m:bk}{n':Y}(hd:d S n=J (t,m,n')){ae:O Z2}{s:aL}{U:St}{H:aI}(I:aO X ae U H s)(R:df X.K B L S n U H) :
  ba Z3 X.A (Ur e X.I) (λu s'=>∃v ak,aO X ae U ak s'/\cU v u/\dc L H ak/\df X.K B L S n' U ak/\Val X.K B L H ak t m v) X.cu s :=
 bZ (h B S n t m n' hd ae s U H (λv ak=>dc L H ak/\cR L n' ak/\Val X.K B L H ak t m v) I {R,λv ak a b c=>{(a),b,c}}) λu s' ⟨v,ak,d1,r,a,b,c⟩=>{v,ak,d1,r,a,R.mono a b,c}
def mg.run{es:O Yd}{d:gh}(h:mg X L es d){B:aI}{S:bA}{n:Y}{aD:O T}{n':Y}(hd:d S n=J (aD,n'))(pos:Yh){ae:O Z2}{s:aL}{U:St}{H:aI}(I:aO X ae U H s)(R:df X.K B L S n U H) :
  ba Z3 X.A (rN<|fE pos<|cc es X.I) (λus s'=>∃aa ak,aO X ae U ak s'/\cA aa us/\dc L H ak/\df X.K B L S n' U ak/\ru X.K L ak aD aa) X.cu s :=
 bZ (h B S n aD n' hd pos ae s U H (λaa ak=>dc L H ak/\cR L n' ak/\ru X.K L ak aD aa) I {R,λv ak a b c=>{(a),b,c}}) λu s' ⟨v,ak,d1,r,a,b,c⟩=>{v,ak,d1,r,a,R.mono a b,c}
def uF{e:Yd}{d:bK}(h:bI X L e d):bI X L e<|cg d:=by
 intro B S n t m n' hd ae s U H Q I ⟨R,k⟩;let((t0,m0,n0),af,ao):=b5 hd;let(t1,a6,cS):=dm ao;cases cS;show bZ (h.run af I R) λu s' ⟨v,ak,d1,r,a,tS,c⟩=>?_;let same:∀(q:t0=t),aH L ak t0 v->fH X ae U Q u s':=λq c=>{v,ak,d1,r,k v ak a tS.aJ<|q▸c}
 cases m0 with
 |ah=>show same (Yt a6) c
 |iG =>
  let a6:(if iC t0 then C else J t0)=J t:=a6;split at a6
  .cases a6
  .rename_i b;show same (Yt a6)<|eb.rep (by simpa using b) c
 |cV =>
  let a6:(if iC t0 then C else J t0)=J t:=a6;split at a6
  .cases a6
  .rename_i b;show same (Yt a6)<|eb.rep (by simpa using b) (let ⟨_,qo⟩:=R.j4;eb.ext (v:=v) qo tS.ext c)
 |az =>
  let(ad,rfl,a4,cQ):=c;obtain rfl:t0=t:=Yt a6
  induction t0 using T.casesOn with
  |aj xs =>
   let(aa,aA,av):=cQ;let(o,cI):=d1.freeze aA<|.inl {(aa),D};let na:ad≠L:=R.aJ.qb a4;show{_,_,cI,r,k _ _ (a.put a4) ?_ ?_}
   .show cO ak ad _ L=_;rw[ea na.symm];show tS.aJ
   .show aH L _ (.aj xs) _;rw[aH];show{ad,o,aa,D,eS,bJ.mono (eu.d3 aA<|.inl {(aa),D}) _ _ av}
  |a3 au =>
   let(aa,aA,av):=cQ;let(o,cI):=d1.freeze aA<|.inr<|.inl {(aa),D};let na:ad≠L:=R.aJ.qb a4;show{_,_,cI,r,k _ _ (a.put a4) ?_ ?_}
   .show cO ak ad _ L=_;rw[ea na.symm];show tS.aJ
   .show aH L _ (.a3 au) _;rw[aH];show{ad,o,aa,D,eS,cG.mono (eu.d3 aA<|.inr<|.inl {(aa),D}) _ _ av}
  |eh ks =>
   let(aa,aA,av):=cQ;let(o,cI):=d1.freeze aA<|.inr<|.inr {(aa),D};let na:ad≠L:=R.aJ.qb a4;show{_,_,cI,r,k _ _ (a.put a4) ?_ ?_}
   .show cO ak ad _ L=_;rw[ea na.symm];show tS.aJ
   .show aH L _ (.eh ks) _;rw[aH];show{(ad),o,aa,D,eS,av}
  |_=>show cQ.elim
def Tv:mg X L [] aw:=by
 intro B S n aD n' hd pos ae s U H Q I ⟨R,k⟩
 ext hd
 show uq pos ae s U H Q I<|k [] H (.refl _ _) R.aJ .nil
def Ng{e:Yd}{es:O Yd}{d:bK}{r:gh}(af:bI X L e d)(ao:mg X L es r)(aM:X9 (cc (e::es) X.I=(Y1,Ur e X.I)::cc es X.I) bo):mg X L (e::es)<|ag d r:=by
 intro B S n aD n' hd pos ae s U H Q I ⟨R,k⟩;let((t,m,aW),aA,av):=b5 hd;let((mA,bW),a7,bM):=dm av
 ext bM
 rw[aM];show ba _ _ (rN<|(Y1,Ur e X.I)::fE pos (cc es X.I)) _ _ s;show i0 (bZ (af.run aA I R) λu s1 ⟨v,H1,bf,bp,a1,bt,b0⟩=>?_);show bZ (ao.run a7 pos bf bt) λus s2 ⟨aa,br,cI,b8,a2,de,dP⟩=>?_;show⟨v::aa,br,cI,.cons bp b8,k _ _ (a1.trans a2) de.aJ<|.cons (eb.ext bt.aJ a2<|b0.root bt R.aJ) dP⟩
def ff(X:bL)(L:X7)(f:O ay->Sem ay)(g:d2):Prop :=
 ∀(B:aI) (ae:O Z2) (s:aL) (U:St) (H:aI) (aa:O V) (us:O ay) (aD:O T) (n:Y) (t:T) (m:bk) (Q:eW),aO X ae U H s->cA aa us->ru X.K L H aD aa->cR L n H->g n aD=J (t,m) ->
  (∀v ak,dc L H ak->cR L n ak->Val X.K B L H ak t m v->Q v ak)->ba Z3 X.A (f us) (fH X ae U Q) X.cu s
def qX{x:Ya}{id:YD}{g:d2}{p pos:Yh}{e:Yd}{es:O Yd}{a:gh}(aF:ff X L (λus=>call (.builtin id) us) g)(hm:X.bj x=C)(bX:nV x=J (.builtin id))(bx:mg X L (e::es) a)(bQ:X9 (fI X x) bo)(bq:X9 (x ≠ "__name__") d7)
  (gz:X9 ((x==("__debug__" : Ya))=Y1) d7) (he:X9 (cc (e::es) X.I=(Y1,Ur e X.I)::cc es X.I) bo) (fS:X9 ((fE pos<|cc es X.I).any (·.1)=Y1) bo):bI X L (.Call (.Name x p) (e::es) [] pos)<|aB g a:=by
 intro B S n t m n' hd ae s U H Q I ⟨R,k⟩;let((aD,aW),aA,av):=b5 hd;let((t1,c9),a7,bM):=dm av;cases bM;show lz<|kZ I bQ hm bX ?_ bq gz;show K7 (bZ (bx.run aA pos I R) λus s1 ⟨aa,H1,bf,bp,a1,bt,b0⟩=>?_) he fS;show aF B ae s1 U H1 aa us aD _ _ _ Q bf bp b0 bt.aJ a7 λv ak a b c=>k v ak (a1.trans a) b<|c.back a1 bt.aJ
def zE{x:Ya}{i6:YD}{g:d2}{p pos:Yh}{e:Yd}{es:O Yd}{a:gh}(aF:ff X L (λus=>call (.type i6) us) g)(hm:X.bj x=C)(bX:nV x=J (.type i6))(bx:mg X L (e::es) a)(bQ:X9 (fI X x) bo)(bq:X9 (x ≠ "__name__") d7)
  (gz:X9 ((x==("__debug__" : Ya))=Y1) d7) (he:X9 (cc (e::es) X.I=(Y1,Ur e X.I)::cc es X.I) bo) (fS:X9 ((fE pos<|cc es X.I).any (·.1)=Y1) bo):bI X L (.Call (.Name x p) (e::es) [] pos)<|aB g a:=by
 intro B S n t m n' hd ae s U H Q I ⟨R,k⟩;let((aD,aW),aA,av):=b5 hd;let((t1,c9),a7,bM):=dm av;cases bM;show lz<|kZ I bQ hm bX ?_ bq gz;show K4 (bZ (bx.run aA pos I R) λus s1 ⟨aa,H1,bf,bp,a1,bt,b0⟩=>?_) he fS;show aF B ae s1 U H1 aa us aD _ _ _ Q bf bp b0 bt.aJ a7 λv ak a b c=>k v ak (a1.trans a) b<|c.back a1 bt.aJ
noncomputable def two(f:ay->ay->Sem ay):O ay->Sem ay
 |[a,b]=>f a b
 |_=>unsupported "two"
def CH{a b:Yd}{dC db:bK}{f:ay->ay->Sem ay}{g:d2}(aF:ff X L (two f) g)(bx:bI X L a dC)(aq:bI X L b db){B:aI}{S:bA}{n:Y}{t:T}{m:bk}{n':Y}(hd:aB g (ag dC<|ag db aw) S n=J (t,m,n'))
  {ae:O Z2} {s:aL} {U:St} {H:aI} {Q:eW} (I:aO X ae U H s) (R:df X.K B L S n U H) (k:∀v ak,dc L H ak->cR L n' ak->Val X.K B L H ak t m v->Q v ak) :
  ba Z3 X.A (Ur a X.I) (λv dO=>ba Z3 X.A (Ur b X.I) (λu fX=>ba Z3 X.A (f v u) (fH X ae U Q) X.cu fX) X.cu dO) X.cu s:=by
 let((aD,aW),aA,av):=b5 hd;let((t1,c9),a7,bM):=dm av;cases bM;let((ta,LG,na),f1,f2):=b5 aA;let((cn,nb),dW,f4):=dm f2;cases f4;let((YV,kV,w5),g1,g2):=b5 dW;cases g2;show bZ (bx.run f1 I R) λfR s1 ⟨v1,H1,bf,bp,a1,bt,b0⟩=>?_;show bZ (aq.run g1 bf bt) λgw s2 ⟨v2,br,cI,b8,a2,de,dP⟩=>?_;show aF B ae s2 U br [v1,v2] [fR,gw] [ta,YV] _ _ _ Q cI (.cons bp<|.cons b8 .nil) (.cons (eb.ext bt.aJ a2<|b0.root bt R.aJ)<|.cons (dP.root de bt.aJ) .nil) de.aJ a7
  λv ak x y z=>k v ak (a1.trans<|a2.trans x) y<|(z.back a2 de.aJ).back a1 bt.aJ
def zF{a b:Yd}{dC db:bK}{op:Operator}{g:d2}{pos:Yh}(aF:ff X L (two<|mX op) g)(bx:bI X L a dC)(aq:bI X L b db):bI X L (.BinOp a op b pos)<|aB g<|ag dC<|ag db aw:=by intro B S n t m n' hd ae s U H Q I ⟨R,k⟩;show wpAny_BinOp<|CH aF bx aq hd I R k
def Tw{a b:Yd}{dC db:bK}{op:CmpOp}{g:d2}{pos:Yh}(aF:ff X L (two<|gJ op) g)(bx:bI X L a dC)(aq:bI X L b db)(af:X9 (vN op b=Y1) az8._auto_1) :
  bI X L (.Compare a [op] [b] pos) (aB g<|ag dC<|ag db aw):=by
 intro B S n t m n' hd ae s U H Q I ⟨R,k⟩;show wpAny_Compare1 (CH aF bx aq hd I R k) af
def af9{a b:Yd}{dC db:bK}{g:d2}{pos:Yh}(aF:∀value slice,(∀v u,BK slice Y1 v u=operate [v,u] (mY v u))->ff X L (two λv u=>BN value slice v u) g)(bx:bI X L a dC)(aq:bI X L b db)(aM:ai0 b) :
  bI X L (.Subscript a b pos) (aB g<|ag dC<|ag db aw):=by
 intro B S n t m n' hd ae s U H Q I ⟨R,k⟩;show Subscript_<|CH (aF a b aM) bx aq hd I R k
def wk(K:Yo)(B:aI)(L:X7)(S:bA)(n:Y)(b:Yc)(n':Y):TT:=λU H Q=>df K B L S n U H/\∀ak,dc L H ak->cR L n' ak->Q b ak
def ST(X:bL)(L:X7)(e:Yd)(d:eX):Prop:=∀B S n b n',d S n=J (b,n')->m2 X e (wk X.K B L S n b n')
def pk(X:bL)(L:X7)(e:Yd)(d:eX):Prop:=∀B S n b n',d S n=J (b,n')->yw X e (wk X.K B L S n b n')
def pk.st{e:Yd}{d:eX}(h:pk X L e d):ST X L e d:=λB S n b n' hd=>(h B S n b n' hd).pt
def ST.run{e:Yd}{d:eX}(h:ST X L e d){B:aI}{S:bA}{n:Y}{b:Yc}{n':Y}(hd:d S n=J (b,n')){ae:O Z2}{s:aL}{U:St}{H:aI}(I:aO X ae U H s)(R:df X.K B L S n U H) :
  ba Z3 X.A (isTrue e X.I<|Ur e X.I) (λc s'=>c=b/\∃ak,aO X ae U ak s'/\dc L H ak/\df X.K B L S n' U ak) X.cu s :=
 bZ (h B S n b n' hd ae s U H (λc ak=>c=b/\dc L H ak/\cR L n' ak) I {R,λak x y=>{(D),x,y}}) λc s' ⟨ak,d1,e,x,y⟩=>{e,ak,d1,x,R.mono x y}
def w6{t:T}{b:Yc}{v:V}{u:ay}{ae:O Z2}{s:aL}{U:St}{H:aI}{Q:Yc->aL->Prop}(I:aO X ae U H s)(r:cU v u)(aZ:eb X.K L H t v)(h:k6 t=J b)(k:∀s',aO X ae U H s'->Q b s') :
  ba Z3 X.A (truthy u) Q X.cu s:=by
 let go:R4 X.K v H b->ba Z3 X.A (truthy u) Q X.cu s:=λq =>
  bZ (ag8 ae s U H v u (λc ak=>c=b/\ak=H) I r {(b),q,D,D}) λc s' ⟨ak,d1,aA,av⟩=>by subst aA av;show k s' d1
 induction t using T.casesOn with
 |bR =>
  let aZ:aH L H .bR v:=aZ;rw[aH]at aZ;subst aZ;ext h;show go D
 |a5 c =>
  let aZ:aH L H (.a5 c) v:=aZ;rw[aH]at aZ;subst aZ;ext h;show go D
 |int i =>
  let aZ:aH L H (.int i) v:=aZ;rw[aH]at aZ;subst aZ;ext h;show go D
 |aE xs =>
  let aZ:aH L H (.aE xs) v:=aZ;rw[aH]at aZ;let(a,aa,rfl,e,q):=aZ
  ext h
  show go<|.inr<|.inl {aa,eC.of e,?_};let:=q.H
  ext xs<;>ext aa<;>first|rfl|(simp at this)
 |aj xs =>
  let(a,aa,rfl,e,q):=aZ
  ext h
  show go<|.inl {aa,e.gK,?_};let:=q.H
  ext xs<;>ext aa<;>first|rfl|(simp at this)
 |a3 au =>
  let(a,ws,rfl,na,e,q):=aZ
  ext h
  ext r
  show ai4 I e λs' d1=>?_;let:(!ws.isEmpty)=!au.isEmpty:=by
   cases au with
   |nil=>rw[cG]at q;rw[q];rfl
   |cons p r=>let(k,x):=p;rw[cG]at q;let(_,_,e,_):=q;rw[e];rfl
  rw[this];show k s' d1
 |_=>ext h
def ahr{e:Yd}{d:bK}(h:bI X L e d)(he:X9 (∀whole,isTrue e X.I whole=(do let v<-whole;standAt e.pos;me [v] (truthy v))) qx):ST X L e<|b7 d:=by
 intro B S n b n' hd ae s U H Q I ⟨R,k⟩;let((t,m,aW),aA,av):=b5 hd;let(jx,a7,bM):=dm av
 ext bM
 show isTrue_plain (bZ (h.run aA I R) λu s1 ⟨v,H1,bf,bp,a1,bt,b0⟩=>w6 bf bp (b0.root bt R.aJ) a7 λs2 cI=>{H1,cI,k H1 a1 bt.aJ})<|he _
def uG{a b:Yd}{dC db:bK}{op:CmpOp}{g:d2}{pos:Yh}(aF:ff X L (two<|gJ op) g)(bx:bI X L a dC)(aq:bI X L b db)(af:X9 (vN op b=Y1) az8._auto_1) :
  ST X L (.Compare a [op] [b] pos) (b7<|aB g<|ag dC<|ag db aw):=by
 intro B S n c n' hd ae s U H Q I ⟨R,k⟩;let((t,m,aW),aA,av):=b5 hd;let(jx,a7,bM):=dm av
 ext bM
 show wpAny_isTrue_Compare1 (bZ (CH aF bx aq aA (Q:=λv ak=>dc L H ak/\cR L aW ak/\Val X.K B L H ak t m v) I R λv ak x y z=>{(x),y,z}) λv s1 aR=>bZ aR λu s2 a4=>bZ a4 λw s3 ⟨x,ak,d1,bY,gV,jx,c0⟩=>?_) af;show w6 d1 bY (c0.root (R.mono gV jx) R.aJ) a7 λs4 gU=>{ak,gU,k ak gV jx}
def ahs{e:Yd}{d:eX}{pos:Yh}(h:ST X L e d):ST X L (.UnaryOp .Not e pos)<|gr d:=by
 intro B S n b n' hd ae s U H Q I ⟨R,k⟩;let((c,aW),aA,av):=dm hd
 ext av
 show agZ (h B S n c aW aA) ae s U H Q I {R,λak x y=>k ak x y}
def ajc{e:Yd}{d:eX}{pos:Yh}(h:ST X L e d):pk X L (.BoolOp .And [e] pos) d:=λB S n b n' hd=>aiR<|h B S n b n' hd
def aht{e:Yd}{d:eX}{pos:Yh}(h:ST X L e d):pk X L (.BoolOp .Or [e] pos) d:=λB S n b n' hd=>agY<|h B S n b n' hd
def ahu{a b:Yd}{rest:O Yd}{dC db:eX}{pos:Yh}(af:ST X L a dC)(ao:pk X L (.BoolOp .And (b::rest) pos) db):pk X L (.BoolOp .And (a::b::rest) pos)<|AS dC db:=by
 intro B S n c n' hd yx ae s U H Q I ⟨R,k⟩;let((x,aW),aA,av):=b5 hd;show isTrue_and (bZ (af.run aA I R) λy s1 ⟨hx,H1,bf,a1,bt⟩=>?_);subst hx;cases y with
 |true =>
  let av:db S aW=J (c,n'):=av;show ao B S aW c n' av yx ae s1 U H1 Q bf {bt,λak p q=>k ak (a1.trans p) q}
 |false =>
  let av:J (Y1,aW)=J (c,n'):=av
  ext av
  show{H1,bf,k H1 a1 bt.aJ}
def aga{a b:Yd}{rest:O Yd}{dC db:eX}{pos:Yh}(af:ST X L a dC)(ao:pk X L (.BoolOp .Or (b::rest) pos) db):pk X L (.BoolOp .Or (a::b::rest) pos)<|gY dC db:=by
 intro B S n c n' hd yx ae s U H Q I ⟨R,k⟩;let((x,aW),aA,av):=b5 hd;show isTrue_or (bZ (af.run aA I R) λy s1 ⟨hx,H1,bf,a1,bt⟩=>?_);subst hx;cases y with
 |false =>
  let av:db S aW=J (c,n'):=av;show ao B S aW c n' av yx ae s1 U H1 Q bf {bt,λak p q=>k ak (a1.trans p) q}
 |true =>
  let av:J (Y0,aW)=J (c,n'):=av
  ext av
  show{H1,bf,k H1 a1 bt.aJ}
def ahv{e:Yd}{d:bK}{pos:Yh}(h:bI X L e d):bI X L (.UnaryOp .Not e pos)<|SH<|b7 d:=by intro B S n t m n' hd ae s U H Q I ⟨R,k⟩;let((b,aW),aA,av):=dm hd;cases av;let((t,m,bW),a7,bM):=b5 aA;let(jx,d9,fV):=dm bM;cases fV;show UnaryOp_ (bZ (h.run a7 I R) λu s1 ⟨v,H1,bf,bp,a1,bt,b0⟩=>not_of (w6 bf bp (b0.root bt R.aJ) d9 λs2 cI=>?_));show{.a5<|!b,H1,cI,D,k _ H1 a1 bt.aJ<|by show aH L H1 (.a5<|!b) _;rw[aH]}
def agb{c a b:Yd}{fZ:eX}{dC db:bK}{pos:Yh}(aN:ST X L c fZ)(bx:bI X L a dC)(aq:bI X L b db):bI X L (.IfExp c a b pos)<|uu fZ dC db:=by
 intro B S n t m n' hd ae s U H Q I ⟨R,k⟩;let((x,aW),aA,av):=b5 hd;show akQ (tA:=wk X.K B L S n x aW) (ta:=λU H Q=>x=Y0/\qn X.K B L S aW t m n' U H Q) (cn:=λU H Q=>x=Y1/\qn X.K B L S aW t m n' U H Q) (aN B S n x aW aA) ?_ ?_ ae s U H Q I {R,λak p q=>?_}
 .rintro ae s U H Q I ⟨rfl,h⟩;show bx B S aW t m n' av ae s U H Q I h
 .rintro ae s U H Q I ⟨rfl,h⟩;show aq B S aW t m n' av ae s U H Q I h
 .let bt:=R.mono p q;cases x with
  |true=>show Eu {D,bt,λv br a b c=>k v br (p.trans a) b<|c.back p q}
  |false=>show Et {D,bt,λv br a b c=>k v br (p.trans a) b<|c.back p q}
def HD{op}{e:Yd}{d:bK}{pos:Yh}(h:bI X L e d):bI X L (.BoolOp op [e] pos) d:=λB S n t m n' hd=>ag0<|h B S n t m n' hd
def ahw{a b:Yd}{rest:O Yd}{dC db:bK}{pos:Yh}(af:bI X L a dC)(ao:bI X L (.BoolOp .And (b::rest) pos) db):bI X L (.BoolOp .And (a::b::rest) pos)<|uv dC db:=by
 intro B S n t m n' hd ae s U H Q I ⟨R,k⟩;let((x,c9,aW),aA,av):=b5 hd;show BoolOp_and (bZ (af.run aA I R) λu s1 ⟨v,H1,bf,bp,a1,bt,b0⟩=>?_);let aZ:=b0.root bt R.aJ
 induction x using T.casesOn with
 |a5 c =>
  let aZ:aH L H1 (.a5 c) v:=aZ;rw[aH]at aZ;subst aZ;ext bp;show qg ?_;cases c with
  |true =>
   let av:db S aW=J (t,m,n'):=av;show ao B S aW t m n' av ae s1 U H1 Q bf {bt,λv ak p q r=>k v ak (a1.trans p) q<|r.back a1 bt.aJ}
  |false =>
   let av:J (T.a5 Y1,bk.ah,aW)=J (t,m,n'):=av
   ext av
   show{.a5 Y1,H1,bf,D,k _ H1 a1 bt.aJ<|by show aH L H1 (.a5 Y1) _;rw[aH]}
 |_=>ext av
def qaQ(K:Yo)(B:aI)(L:X7)(S:bA)(n:Y)(aD:O T)(n':Y):ki:=λU H Q =>
 df K B L S n U H/\∀aa ak,dc L H ak->cR L n' ak->bJ L ak aD aa->Q aa ak
def rX(X:bL)(L:X7)(es:O Yd)(d:gh):Prop:=∀B S n aD n',d S n=J (aD,n')->m3 X es (qaQ X.K B L S n aD n')
def CI:rX X L [] aw:=by
 intro B S n aD n' hd pos ae s U H Q I ⟨R,k⟩
 ext hd
 show uq pos ae s U H Q I<|k [] H (.refl _ _) R.aJ .nil
def CJ{e:Yd}{es:O Yd}{d:bK}{r:gh}(af:bI X L e d)(ao:rX X L es r)(aM:X9 (cc (e::es) X.I=(Y1,Ur e X.I)::cc es X.I) bo):rX X L (e::es)<|ag (cg d) r:=by
 intro B S n aD n' hd pos ae s U H Q I ⟨R,k⟩;let((t,m,aW),aA,av):=b5 hd;let((mA,bW),a7,bM):=dm av
 ext bM
 obtain rfl:m=.ah:=by let(_,_,q):=b5 aA;let(_,_,q):=dm q;cases q;rfl
 rw[aM];show ba _ _ (rN<|(Y1,Ur e X.I)::fE pos (cc es X.I)) _ _ s;show i0 (bZ ((uF af).run aA I R) λu s1 ⟨v,H1,bf,bp,a1,bt,b0⟩=>?_);show bZ (ao B S aW mA bW a7 pos ae s1 U H1 (λaa br=>dc L H1 br/\cR L bW br/\bJ L br mA aa) bf {bt,λaa ak x y z=>{(x),y,z}}) λus s2 ⟨aa,br,cI,b8,a2,eB,dP⟩=>?_;show⟨v::aa,br,cI,.cons bp b8,k _ _ (a1.trans a2) eB<|.cons (aH.mono (a2.bU bt.aJ) _ _ b0) dP⟩
def pJ{k:Y}(h:k<=bl):k<=c3:=bF h (by rw[kR];decide)
def zG{k:Y}(h:k<bl):k<c3:=d0 h (by rw[kR];decide)
def ahx{es:O Yd}{a:gh}{x1}{pos:Yh}(h:rX X L es a):bI X L (.Tuple es x1 pos)<|eD a:=by
 intro B S n t m n' hd ae s U H Q I ⟨R,k⟩;let((aD,aW),aA,av):=b5 hd;by_cases aq:aD.H<=bl
 .rw[Y2 aq]at av
  ext av
  show ag9 (h B S n aD aW aA) ae s U H Q I {R,λaa ak x y z=>{by rw[<-z.H];show pJ aq,λp aF=>k _ _ (x.trans<|.new aF) (y.new aF) ?_}};show aH L _ (.aE aD) _;rw[aH];show{p,aa,D,eS,bJ.mono (.new aF) _ _ z}
 .rw[Y3 aq]at av;ext av
def Tx{es:O Yd}{a:gh}{pos:Yh}(h:rX X L es a):bI X L (.List es pos)<|et a:=by
 intro B S n t m n' hd ae s U H Q I ⟨R,k⟩;let((aD,aW),aA,av):=b5 hd;by_cases aq:aD.H<=bl
 .rw[Y2 aq]at av
  ext av
  show To (h B S n aD aW aA) ae s U H Q I {R,λaa ak x y z=>{by rw[<-z.H];show pJ aq,λp aF=>k _ _ (x.trans<|.new aF) (y.new aF) ?_}};show{p,D,x.free y aF,aa,eS,bJ.mono (.new aF) _ _ z}
 .rw[Y3 aq]at av;ext av
inductive Args (K:Yo) (L:X7) (H:aI):O (T×Yc)->O V->Prop
 |nil:Args K L H [] []
 |cons {t:T} {b:Yc} {v:V} {aD:O<|T×Yc} {aa:O V}:(b=Y0->aH L H t v)->eb K L H t v->Args K L H aD aa->Args K L H ((t,b)::aD) (v::aa)
theorem Args.length{K:Yo}{H:aI}:∀{aD:O (T×Yc)} {aa:O V},Args K L H aD aa->aD.H=aa.H
 |_,_,.nil=>rfl
 |_,_,.cons _ _ b=>by rw[d4,d4,Args.length b]
def qaR(K:Yo)(B:aI)(L:X7)(S:bA)(n:Y)(aD:O<|T×Yc)(n':Y):ki:=λU H Q =>
 df K B L S n U H/\∀aa ak,dc L H ak->cR L n' ak->Args K L ak aD aa->Q aa ak
def SB(X:bL)(L:X7)(es:O Yd)(d:jy):Prop:=∀B S n aD n',d S n=J (aD,n')->m3 X es (qaR X.K B L S n aD n')
def HE:SB X L [] bz:=by
 intro B S n aD n' hd pos ae s U H Q I ⟨R,k⟩
 ext hd
 show uq pos ae s U H Q I<|k [] H (.refl _ _) R.aJ .nil
noncomputable def CK:bk->bk
 |.az=>.ah
 |.cV=>.cV
 |.iG=>.iG
 |.ah=>.ah
def vk(d:bK):bK:=λS n=>(d S n).map λr=>(r.1,CK r.2.1,r.2.2)
def HF{e:Yd}{d:bK}(h:bI X L e d):bI X L e<|vk d:=by
 intro B S n t m n' hd;let((t0,m0,n0),af,ao):=dm hd;cases ao;cases m0 with
 |az=>show uF h B S n _ _ _ (by delta cg;rw[af];rfl)
 |cV=>show h B S n _ _ _ af
 |iG=>show h B S n _ _ _ af
 |ah=>show h B S n _ _ _ af
def uH{e:Yd}{es:O Yd}{d:bK}{r:jy}(af:bI X L e d)(ao:SB X L es r)(aM:X9 (cc (e::es) X.I=(Y1,Ur e X.I)::cc es X.I) bo):SB X L (e::es)<|aG d r:=by
 intro B S n aD n' hd pos ae s U H Q I ⟨R,k⟩;let((t,m,aW),aA,av):=b5 hd;let((mA,bW),a7,bM):=dm av
 ext bM
 rw[aM];show ba _ _ (rN<|(Y1,Ur e X.I)::fE pos (cc es X.I)) _ _ s;let oh:vk d S n=J (t,CK m,aW):=by delta vk;rw[aA];rfl
 show i0 (bZ ((HF af).run oh I R) λu s1 ⟨v,H1,bf,bp,a1,bt,b0⟩=>?_);show bZ (ao B S aW mA bW a7 pos ae s1 U H1 (λaa br=>dc L H1 br/\cR L bW br/\Args X.K L br mA aa) bf {bt,λaa ak x y z=>{(x),y,z}}) λus s2 ⟨aa,br,cI,b8,a2,eB,dP⟩=>?_;show⟨v::aa,br,cI,.cons bp b8,k _ _ (a1.trans a2) eB<|.cons (λaq=>?_) (eb.ext bt.aJ a2<|b0.root bt R.aJ) dP⟩;let aZ:eb X.K L H1 t v:=b0.root bt R.aJ;cases m with
 |az=>show aH.mono (a2.bU bt.aJ) _ _ b0
 |ah=>show aH.mono (a2.bU bt.aJ) _ _ b0
 |cV=>show aH.mono (a2.bU bt.aJ) _ _ (aZ.rep<|by simpa[flag]using aq)
 |iG=>show aH.mono (a2.bU bt.aJ) _ _ (aZ.rep<|by simpa[flag]using aq)
def w7(K:Yo)(L:X7)(e4:Y)(f:c1):kX:=λaa H Q _=>aa.H=e4/\∃aD n t m n',Args K L H aD aa/\cR L n H/\f aD n=J (t,m,n') /\
 ∀v ak,dc L H ak->cR L n' ak->Val K H L H ak t (qm m) v->Q v ak
def Val.base{K:Yo}{B tT:aI}{h9 H:aI}{t:T}{m:Yc}{v:V}(h:Val K B L h9 H t (qm m) v):Val K tT L h9 H t (qm m) v:=by
 ext m<;>show h
def ajd{f:c1}{lv:Y}{e8:X7}{fd:i2}{ps:O Ya}{x:Ya}{p pos:Yh}{e:Yd}{es:O Yd}{a:jy}{e4:Y}(F:j9 X.R X.w X.K X.bj X.d j0 lv e8 fd ps<|w7 X.K L e4 f)(hr:fb lv X.A)(hm:X.bj x=J (.ref e8))(aY:PySem.W.keepIn X.K (.ref e8)=Y0)
  (aq:Binds X.K fd ps []) (bx:SB X L (e::es) a) (bQ:X9 (fI X x) bo) (gz:X9 ((x==("__debug__" : Ya))=Y1) d7) (he:X9 (cc (e::es) X.I=(Y1,Ur e X.I)::cc es X.I) bo)
  (fS:X9 ((fE pos<|cc es X.I).any (·.1)=Y1) bo):bI X L (.Call (.Name x p) (e::es) [] pos)<|bB e4 f a:=by
 intro B S n t m n' hd ae s U H Q I ⟨R,k⟩;let((aD,aW),aA,av):=b5 hd;by_cases aC:aD.H=e4
 .rw[Y2 aC]at av;let((t1,c9,bW),a7,bM):=dm av;cases bM;show aiW (E:=yG) (sp:=w7 X.K L e4 f) F hr bQ hm aY aq .nil af5 (bx B S n aD aW aA) gz he fS ae s U H Q I {R,λaa ak x y z=>?_};show w7 X.K L e4 f (aa++[]) ak Q yG;rw[rC];show{z.H▸aC,aD,aW,t1,c9,bW,z,y,a7,λv eG a b c=>k v eG (x.trans a) b<|c.base.back x y}
 .rw[Y3 aC]at av;ext av
section
variable {K:Yo}{B:aI}{S:bA}{n:Y}{U:St}{H:aI}{i j:Y}{t t':T}{m:bk}{v:V}
def hc{α:Type}{l:O α}{i j:Y}{x y:α}(h:(l.set i x)[j]?=J y):(j=i/\y=x/\i<l.H)\/(j≠i/\l[j]?=J y):=by
 rw[Bg]at h;by_cases e:i=j
 .subst e;rw[Y2 D]at h;split at h
  .rename_i aC;show .inl {D,(Yt h).symm,aC}
  .ext h
 .rw[Y3 e]at h;show .inr {λz=>e z.symm,h}
def CL{α:Type}{l:O α}{i:Y}{x:α}(h:i<l.H):(l.set i x)[i]?=J x:=by rw[Bg,Y2 D,Y2 h]
def nu{α:Type}{l:O α}{i j:Y}{x:α}(h:j≠i):(l.set i x)[j]?=l[j]?:=by rw[Bg,Y3<|Yw h]
def df.p4(R:df K B L S n U H)(h:aH L H t v):df K B L (S.set i<|some (t,.ah)) n (U.set i<|some v) H:=by
 show{R.ext,R.aJ,R.j4,by rw[jQ,jQ];show R.len,λj t' e=>?_,λj t' e=>?_,λj t' e=>?_,λj t' e=>?_,λj k t1 eB a aA av s1 s2=>?_}
 .rcases hc e with⟨rfl,q,aC⟩|⟨ne,e⟩
  .ext q;show{v,CL<|R.len▸aC,h}
  .let(w,af,ao):=R.ah j t' e;show{w,by rw[nu ne];show af,ao}
 .rcases hc e with⟨rfl,q,aC⟩|⟨ne,e⟩
  .cases q
  .let(w,af,ao):=R.cV j t' e;show{w,by rw[nu ne];show af,ao}
 .rcases hc e with⟨rfl,q,aC⟩|⟨ne,e⟩
  .cases q
  .let(w,af,ao):=R.az j t' e;show{w,by rw[nu ne];show af,ao}
 .rcases hc e with⟨rfl,q,aC⟩|⟨ne,e⟩
  .cases q
  .show R.og j t' e
 .rcases hc aA with⟨rfl,q,aC⟩|⟨aW,aA⟩
  .cases q
  .rcases hc av with⟨rfl,q,aC⟩|⟨bW,av⟩
   .cases q
   .rw[nu aW]at s1;rw[nu bW]at s2;show R.nt j k t1 eB a aA av s1 s2
def df.R9(R:df K B L S n U H)(dB:B a=C)(h:lS L H a t)(hd:∀(j:Y) (t':T),j≠i->S[j]?=J (J (t',.az))->U[j]?≠J (J<|.ref a)) :
  df K B L (S.set i<|some (t,.az)) n (U.set i<|some<|.ref a) H:=by
 show{R.ext,R.aJ,R.j4,by rw[jQ,jQ];show R.len,λj t' e=>?_,λj t' e=>?_,λj t' e=>?_,λj t' e=>?_,λj k t1 eB b aA av s1 s2=>?_}
 .rcases hc e with⟨rfl,q,aC⟩|⟨ne,e⟩
  .cases q
  .let(w,af,ao):=R.ah j t' e;show{w,by rw[nu ne];show af,ao}
 .rcases hc e with⟨rfl,q,aC⟩|⟨ne,e⟩
  .cases q
  .let(w,af,ao):=R.cV j t' e;show{w,by rw[nu ne];show af,ao}
 .rcases hc e with⟨rfl,q,aC⟩|⟨ne,e⟩
  .ext q;show{a,CL<|R.len▸aC,dB,h}
  .let(w,af,ao):=R.az j t' e;show{w,by rw[nu ne];show af,ao}
 .rcases hc e with⟨rfl,q,aC⟩|⟨ne,e⟩
  .cases q
  .show R.og j t' e
 .rcases hc aA with⟨rfl,q,aC⟩|⟨aW,oh⟩
  .rw[CL<|R.len▸aC]at s1
   ext s1
   rcases hc av with⟨rfl,q,aC⟩|⟨bW,av⟩
   .rfl
   .rw[nu bW]at s2;show Yi s2<|hd k eB bW av
  .rw[nu aW]at s1;rcases hc av with⟨rfl,q,aC⟩|⟨bW,av⟩
   .rw[CL<|R.len▸aC]at s2
    ext s2
    show Yi s1<|hd j t1 aW oh
   .rw[nu bW]at s2;show R.nt j k t1 eB b oh av s1 s2
def df.drop(R:df K B L S n U H)(i:Y):df K B L (S.set i C) n U H:=by
 let key:∀(j:Y) (p:T×bk),(S.set i C)[j]?=J (J p)->S[j]?=J (J p):=λj p e=>by
  rcases hc e with⟨rfl,q,aC⟩|⟨ne,e⟩
  .ext q
  .show e
 show⟨R.ext,R.aJ,R.j4,by rw[jQ];show R.len,λj t' e=>R.ah j t'<|key j _ e,λj t' e=>R.cV j t'<|key j _ e,λj t' e=>R.az j t'<|key j _ e,λj t' e=>R.og j t'<|key j _ e,
  λj k t1 eB a aA av s1 s2=>R.nt j k t1 eB a (key j _ aA) (key k _ av) s1 s2⟩
end
def aje:ho X L [] e0:=by
 intro B S n f S' n' hd ae s U H Lk I ⟨R,k⟩
 ext hd
 show aiS ae s U H Lk I<|k U H (.refl _) R
def CM{st:Yf}{d:bw}(h:gj X L st d):ho X L [st] d:=λB S n f S' n' hd=>GW<|h B S n f S' n' hd
def ak4{st:Yf}{qI:O Yf}{d e:bw}(af:gj X L st d)(ao:ho X L qI e):ho X L (st::qI)<|bC d e:=by
 intro B S n f S' n' hd ae s U H Lk I ⟨R,k⟩;let((f1,S1,aW),aA,av):=b5 hd;cases f1 with
 |bS =>
  let av:e S1 aW=J (f,S',n'):=av;show pD (af B S n .bS S1 aW aA) (ao B S1 aW f S' n' av) ae s U H Lk I {R,λU' ak x y=>{y,k.bU x}}
 |e1=>ext av;show pD (af B S n .e1 S1 aW aA) Cm ae s U H Lk I {(R),k}
 |eI=>ext av;show pD (af B S n .eI S1 aW aA) Cm ae s U H Lk I {(R),k}
 |aZ t m=>ext av;show pD (af B S n (.aZ t m) S1 aW aA) Cm ae s U H Lk I {(R),k}
def ak5{st:Yf}:gj X L st ic:=by
 intro B S n f S' n' hd
 ext hd
def agc{c:Yd}{a b:O Yf}{fZ:eX}{dC db:bw}{pos:Yh}(aN:ST X L c fZ)(bx:ho X L a dC)(aq:ho X L b db):gj X L (.If c a b pos)<|eP fZ dC db:=by
 intro B S n f S' n' hd ae s U H Lk I ⟨R,k⟩;let((x,aW),aA,av):=b5 hd;show wpAny_If (bZ (aN.run aA I R) λy s1 ⟨hx,H1,bf,a1,bt⟩=>?_);subst hx;cases y with
 |true=>show bx B S aW f S' n' av ae s1 U H1 Lk bf {bt,k.bU<|a1.bU R.aJ}
 |false=>show aq B S aW f S' n' av ae s1 U H1 Lk bf {bt,k.bU<|a1.bU R.aJ}
def ajf{e:Yd}{d:bK}{pos:Yh}(h:bI X L e d)(aM:X9 (nW e C pos.line X.I=pure Y1) bo):gj X L (.Expr e pos)<|f5 d:=by intro B S n f S' n' hd ae s U H Lk I ⟨R,k⟩;let((t,m,aW),aA,av):=dm hd;cases av;show uo (h B S n t m aW aA) aM ae s U H Lk I ⟨R,λv ak x y z=>k U ak (x.bU R.aJ)<|R.mono x y⟩
def HG{e:Yd}{d:bK}{pos:Yh}(h:bI X L e d):gj X L (.Return (J e) pos)<|dq d:=by
 intro B S n f S' n' hd ae s U H Lk I ⟨R,k⟩;let((t,m,aW),aA,av):=b5 hd;show GX (h B S n t m aW aA) ae s U H Lk I {R,λv ak x y z=>?_};cases m with
 |az =>
  ext av
  show k v ak (x.bU R.aJ) (R.ext.trans x) y<|z.back R.ext R.aJ
 |ah =>
  ext av
  show k v ak (x.bU R.aJ) (R.ext.trans x) y z
 |_=>ext av
def qaS(i:Y){x:Ya}{pos pos':Yh}(dA:X9 (X.N[i]?=J x) bo)(bX:X9 (kz X.I.Y x) az7._auto_1)(hd:X9 ((x==("__debug__" : Ya))=Y1) d7)
  (f3:X9 ((x==("__classdict__" : Ya))=Y1) d7):gj X L (.Return (J<|.Name x pos') pos)<|lN i:=by
 intro B S n f S' n' bh ae s U H Lk I ⟨R,k⟩;let fin:∃v,U[i]?=J (J v)/\Lk.aZ v H:=by
  delta lN at bh;cases e:S[i]? with
  |none=>rw[e]at bh;ext bh
  |some o =>
   cases o with
   |none=>rw[e]at bh;ext bh
   |some p =>
    let(t,m):=p;rw[e]at bh;cases m with
    |az =>
     ext bh
     let(a,af,ao,a6):=R.az i t e;show⟨_,af,k _ H (.refl _) R.ext R.aJ ⟨a,rfl,ao,a6⟩⟩
    |ah =>
     ext bh
     let(v,af,ao):=R.ah i t e;show⟨_,af,k _ H (.refl _) R.ext R.aJ ao⟩
    |cV =>
     let bh:(if iC t then C else J (hJ.aZ t Y1,S,n))=J (f,S',n'):=bh;split at bh
     .ext bh
     .rename_i b
      ext bh
      let(v,af,ao):=R.cV i t e;show⟨_,af,k _ H (.refl _) R.ext R.aJ (let ⟨_,qo⟩:=R.j4;aH.mono (R.ext.bU qo) _ _ (ao.rep<|by simpa using b))⟩
    |iG=>ext bh
 let(v,af,ao):=fin;show GX (lL dA bX hd f3) ae s U H Lk I {(v),af,ao}
def Nh{K:Yo}{B:aI}{S:bA}{n:Y}{U:St}{H:aI}{a:X7}(R:df K B L S n U H)(h:H a=C):∀(j:Y) (t':T),S[j]?=J (J (t',.az))->U[j]?≠J (J<|.ref a):=λj t' e z=>by let(b,af,_,a6):=R.az j t' e;rw[z]at af;ext af;show a6.some h
def df.store{K:Yo}{B:aI}{S S':bA}{n n':Y}{U:St}{H ak:aI}{i:Y}{t:T}{m:bk}{v:V}(R:df K B L S n U H)(x:dc L H ak)(y:cR L n' ak)(z:Val K B L H ak t m v)
  (h:(match m with|.az=>J (S.set i<|some (t,bk.az))|.ah=>J (S.set i<|some (t,bk.ah))|_=>C)=J S'):df K B L S' n' (U.set i<|some v) ak:=by
 let bt:=R.mono x y;cases m with
 |az =>
  ext h
  let(a,rfl,a4,cQ):=z;show bt.R9 (R.ext.free R.aJ a4) cQ λj t' _ e z=>Nh R a4 j t' e z
 |ah =>
  ext h
  show bt.p4 z
 |_=>ext h
def ahy(i:Y){x:Ya}{e:Yd}{d:bK}{pos pos':Yh}(h:bI X L e d)(dA:X.N.Nodup)(hi:X9 (X.N[i]?=J x) bo)(ax:X9 (Loc X.I.Y x) az4._auto_1)(aM:X9 (nW e (J<|.Name x pos') pos.line X.I=pure Y1) bo)
  (hf:X9 (X.fn x=Y0\/X.env.scope.names.lookup x=J .local) qk):gj X L (.Assign [.Name x pos'] e pos)<|c2 i d:=by
 intro B S n f S' n' hd ae s U H Lk I ⟨R,k⟩;let((t,m,aW),aA,av):=b5 hd;show Cp dA hi ax (h B S n t m aW aA) aM hf ae s U H Lk I {R,λv ak x y z=>?_};cases m with
 |az=>ext av;show k _ ak (x.bU R.aJ)<|R.store x y z D
 |ah=>ext av;show k _ ak (x.bU R.aJ)<|R.store x y z D
 |_=>ext av
def qaT(i j:Y){x y:Ya}{pos pos' py:Yh}(dA:X.N.Nodup)(iD:X9 (i≠j) d7)(hi:X9 (X.N[i]?=J x) bo)(ax:X9 (Loc X.I.Y x) az4._auto_1)(bO:X9 (X.N[j]?=J y) bo)(bX:X9 (kz X.I.Y y) az7._auto_1)
  (hd:X9 ((y==("__debug__" : Ya))=Y1) d7) (f3:X9 ((y==("__classdict__" : Ya))=Y1) d7) (aM:X9 (nW (.Name y py) (J<|.Name x pos') pos.line X.I=pure Y1) bo)
  (hf:X9 (X.fn x=Y0\/X.env.scope.names.lookup x=J .local) qk):gj X L (.Assign [.Name x pos'] (.Name y py) pos)<|qS i j:=by
 intro B S n f S' n' bh ae s U H Lk I ⟨R,k⟩;let fin:∃v,U[j]?=J (J v)/\Lk.bS (U.set i<|some v) H:=by
  delta qS at bh;cases e:S[j]? with
  |none=>rw[e]at bh;ext bh
  |some o =>
   cases o with
   |none=>rw[e]at bh;ext bh
   |some p =>
    let(t,m):=p;rw[e]at bh;cases m with
    |az =>
     ext bh
     let(a,af,ao,a6):=R.az j t e;show{_,af,k _ H (.refl _) ((R.drop j).R9 ao a6 λl t' _ aA av=>?_)};rcases hc aA with⟨_,q,_⟩|⟨ne,aA⟩
     .ext q
     .show ne<|R.nt l j t' t a aA e av af
    |ah =>
     ext bh
     let(v,af,ao):=R.ah j t e;show{_,af,k _ H (.refl _)<|R.p4 ao}
    |cV =>
     let bh:(if iC t then C else J (hJ.bS,S.set i<|some (t,bk.ah),n))=J (f,S',n'):=bh;split at bh
     .ext bh
     .rename_i b
      ext bh
      let(v,af,ao):=R.cV j t e;show⟨_,af,k _ H (.refl _)<|R.p4 (let ⟨_,qo⟩:=R.j4;aH.mono (R.ext.bU qo) _ _ (ao.rep<|by simpa using b))⟩
    |iG=>ext bh
 let(v,af,ao):=fin;show Cp dA hi ax (lL bO bX hd f3) aM hf ae s U H Lk I {(v),af,ao}
theorem HH{i:Y}{S:bA}{n:Y}{f:hJ}{S':bA}{n':Y}{g:T->X8 T}(h:(match S[i]? with
  |some (J (t,.az))=>(g t).map λt'=>(hJ.bS,S.set i<|some (t',bk.az),n)
  |_=>C)=J (f,S',n')):∃t t',S[i]?=J (J (t,bk.az))/\g t=J t'/\f=.bS/\S'=S.set i (J (t',bk.az))/\n'=n:=by
 cases e:S[i]? with
 |none=>rw[e]at h;ext h
 |some o =>
  cases o with
  |none=>rw[e]at h;ext h
  |some p =>
   let(t,m):=p;rw[e]at h;cases m with
   |az =>
    let(t',af,ao):=dm h;cases ao;show{(t),t',D,af,D,D,D}
   |_=>ext h
def w8{n:Y}{n':Y}(e:cg d S n=J (t,m,n')):m=.ah:=by let(_,_,q):=b5 e;let(_,_,q):=dm q;cases q;rfl
def lS.other(h:lS L H b t)(bU:eu H<|cO H a o)(nb:b≠a):lS L (cO H a o) b t:=by
 induction t using T.casesOn with
 |aj xs=>let(aa,cT,da):=h;show{aa,by rw[ea nb];show cT,bJ.mono bU _ _ da}
 |a3 au=>let(aa,cT,da):=h;show{aa,by rw[ea nb];show cT,cG.mono bU _ _ da}
 |eh ks=>let(aa,cT,da):=h;show{aa,by rw[ea nb];show cT,da}
 |_=>show h.elim
def df.write{K:Yo}{B:aI}{S:bA}{n:Y}{U:St}{H:aI}{i:Y}{t t':T}{a:X7}{o:h4}(R:df K B L S n U H)(e:S[i]?=J (J (t,.az)))(es:U[i]?=J (J<|.ref a))(h:eu H (cO H a o)->lS L (cO H a o) a t') :
  df K B L (S.set i<|some (t',.az)) n U (cO H a o)/\eu H (cO H a o):=by
 let(gV,aA,dB,i7):=R.az i t e;rw[es]at aA;ext aA;let na:=R.tg dB
 let bU:eu H<|cO H a o:=λb=>⟨λaa q=>by rw[ea<|by rintro rfl;ext t<;>first|(show(show Ym from i7).elim)|(let(_,z,_):=i7;rw[q]at z;ext z)];show q,
  λcW u q=>by
   rw[ea<|by rintro rfl;ext t<;>first|(show(show Ym from i7).elim)|(let(_,z,_):=i7;rw[q]at z;ext z)];show q⟩
 let tU:i<S.H:=(bv.mp e).1;show{{R.ext.put dB,by show cO H a o L=_;rw[ea na.symm];show R.aJ,R.j4,by rw[jQ];show R.len,λj t1 q=>?_,λj t1 q=>?_,λj t1 q=>?_,λj t1 q=>?_,λj k t1 eB b aR a4 s1 s2=>?_},bU}
 .rcases hc q with⟨_,z,_⟩|⟨ne,q⟩
  .cases z
  .let(v,af,ao):=R.ah j t1 q;show{v,af,aH.mono bU _ _ ao}
 .rcases hc q with⟨_,z,_⟩|⟨ne,q⟩
  .cases z
  .show R.cV j t1 q
 .rcases hc q with⟨rfl,z,_⟩|⟨ne,q⟩
  .ext z;show{a,es,dB,h bU}
  .let(b,af,ao,a6):=R.az j t1 q;show{b,af,ao,a6.other bU<|by rintro rfl;show ne<|R.nt j i t1 t b q e af es}
 .rcases hc q with⟨_,z,_⟩|⟨ne,q⟩
  .cases z
  .show R.og j t1 q
 .let back:∀(l:Y) (t0:T),(S.set i<|some (t',bk.az))[l]?=J (J (t0,bk.az))->∃YY,S[l]?=J (J (YY,bk.az)):=λl t0 z=>by
   rcases hc z with⟨rfl,_,_⟩|⟨_,z⟩
   .show{(t),e}
   .show{(t0),z}
  let(fR,cT):=back j t1 aR;let(gw,da):=back k eB a4;show R.nt j k fR gw b cT da s1 s2
def agd:Eo:=λo i v H Q=>SF o i v H Q\/∃a ak,o=.ref a/\AR H a i v ak/\Q ak
def ak6(b1:X.A.units+1<fh):Ep X agd:=by
 intro ae s U H o i v hu hv u Q I we rU bb h;rcases h with h|⟨a,ak,rfl,g,q⟩
 .show set_list ae s U H o i v hu hv u Q I we rU bb h
 .ext we
  show qaF b1 I g rU bb λs' d1=>{(ak),d1,q}
theorem cG.length:∀{au:O (Key×T)} {ws:O (Key×V)},cG L H au ws->au.H=ws.H
 |[],_,r=>by rw[cG]at r;rw[r];rfl
 |(k,x)::xs,_,r=>by rw[cG]at r;let(v,w,rfl,p,q):=r;rw[d4,d4,cG.length q]
def w9(a:aH L H x v)(b:cG L H xs ws):cG L H ((k,x)::xs)<|(k,v)::ws:=by rw[cG];show{(v),ws,D,a,b}
theorem cG.at(k:Key):∀{au:O (Key×T)} {ws:O (Key×V)},cG L H au ws->(gZ au k=C/\oG ws k=C)\/∃t v,gZ au k=J t/\oG ws k=J v/\aH L H t v
 |[],_,r=>by rw[cG]at r;rw[r];show .inl {(D),D}
 |(gD,x)::xs,_,r=>by
  rw[cG]at r;let(v,w,rfl,p,q):=r;by_cases e:gD=k
  .subst e;show .inr {x,v,by simp[gZ,oT],MU D,p}
  .let aA:gZ ((gD,x)::xs) k=gZ xs k:=by simp[gZ,oT,e]
   rw[aA,MV (show ¬ (gD,v).1=k from e)];show cG.at k q
theorem cG.any(k:Key)(r:cG L H au ws):(au.any λc4=>decide (c4.1=k))=(ws.any λc4=>decide (c4.1=k)):=by
 induction au generalizing ws with
 |nil=>rw[cG]at r;rw[r];rfl
 |cons p xs aT =>
  let(gD,x):=p;rw[cG]at r;let(v,w,rfl,p,q):=r;rw[oU,oU,aT q]
def cG.put(k:Key)(ax:aH L H x v)(r:cG L H au ws):cG L H (jG au k x)<|il ws k v:=by
 delta jG il;rw[<-r.any k];let mapped:∀{au:O (Key×T)} {ws:O (Key×V)},cG L H au ws->cG L H (au.map λc4=>if c4.1=k then(c4.1,x) else c4) (ws.map λc4=>if c4.1=k then(c4.1,v) else c4):=by
  intro au
  induction au with
  |nil=>intro ws r;rw[cG]at r;rw[r];rw[tn,tn,cG]
  |cons p xs aT =>
   intro ws r;let(gD,y):=p;rw[cG]at r;let(h6,w,rfl,p,q):=r;rw[cD,cD];by_cases e:gD=k
   .rw[Y2 e,Y2 e];show w9 ax<|aT q
   .rw[Y3 e,Y3 e];show w9 p<|aT q
 let snoc:∀{au:O (Key×T)} {ws:O (Key×V)},cG L H au ws->cG L H (au++[(k,x)]) (ws++[(k,v)]):=by
  intro au
  induction au with
  |nil=>intro ws r;rw[cG]at r;rw[r];show w9 ax (by rw[cG])
  |cons p xs aT =>
   intro ws r;let(gD,y):=p;rw[cG]at r;let(h6,w,rfl,p,q):=r;show w9 p<|aT q
 split
 .show mapped r
 .show snoc r
def CN{H:aI}{t:T}{k:Key}{v:V}{K:Yo}(h:iI t=J k)(r:eb K L H t v):v=eH k:=by
 induction t using T.casesOn with
 |int i=>ext h;let r:aH L H (.int i) v:=r;rw[aH]at r;show r
 |str x=>ext h;let r:aH L H (.str x) v:=r;rw[aH]at r;show r
 |_=>ext h
def ahz{n:Y}{i:X6}(h0:0<=i)(af:i<n):si n i=J i.M:=by delta si;rw[Y2 h0,Y2 af]
def ak7(i:Y){x:Ya}{hA e:Yd}{yJ d:bK}{pos pos' dD:Yh}(b1:X.A.units+1<fh)(bX:bI X L e d)(aY:bI X L hA yJ)(dA:X9 (X.N[i]?=J x) bo)(mH:X9 (kz X.I.Y x) az7._auto_1)(hd:X9 ((x==("__debug__" : Ya))=Y1) d7)
  (f3:X9 ((x==("__classdict__" : Ya))=Y1) d7)
  (bx:X9 (∀v,lC (.Subscript (.Name x dD) hA pos') X.I v=(do
   let hu<-me [v] (Ur (.Name x dD) X.I)
   let hv<-me [v,hu] (Ur hA X.I)
   standAt pos'
   me [v,hu,hv] (setItem hu hv v)
   release [v,hu,hv] [])) qx)
  (aM:X9 (F5 [.Subscript (.Name x dD) hA pos'] e pos.line X.I=pure Y1) bo) (hw:X9 (F6 [.Subscript (.Name x dD) hA pos'] e X.I=pure C) bo)
  (af:X9 ((lB [.Subscript (.Name x dD) hA pos'] X.I).map (·.2)=[lC (.Subscript (.Name x dD) hA pos') X.I]) bo):gj X L (.Assign [.Subscript (.Name x dD) hA pos'] e pos)<|mw i p3 yJ d:=by
 intro B S n f S' n' bh ae s U H Lk I ⟨R,k⟩;let((g8,wm,aW),aA,av):=b5 bh;let((tk,mk,bW),a7,bM):=b5 av;obtain rfl:=w8 aA;let(t,t',gL,ef,rfl,rfl,rfl):=HH (g:=λt=>p3 t tk g8) bM;let(a,es,dB,_):=R.az i t gL;show Tj ((uF bX) B S n g8 .ah aW aA) (Ti (lL dA mH hd f3) (aY B S aW tk mk _ a7) (ak6 b1) bx) aM hw af ae s U H Lk I {R,λv H1 x1 dI cT=>?_};let bt:=R.mono x1 dI;show{.ref a,es,bt,λc4 br x2 iy da=>?_};let de:=bt.mono x2 iy;let rk:=da.root de bt.aJ;let bb:aH L br g8 v:=aH.mono (x2.bU bt.aJ) _ _ cT;let(gV,hW,_,i7):=de.az i t gL;rw[es]at hW;ext hW;let lT:eu H br:=(x1.trans x2).bU R.aJ
 induction t using T.casesOn with
 |aj xs =>
  let(aa,af,ao):=i7
  induction tk using T.casesOn with
  |int j =>
   let ef:(if 0<=j/\j<xs.H then J (T.aj<|xs.set j.M g8) else C)=J t':=ef;split at ef
   .rename_i bO
    ext ef
    let rk:aH L br (.int j) c4:=rk;rw[aH]at rk;subst rk;let aC:=ao.H;show .inl {a,aa,j,j.M,D,D,af,ahz bO.1 (by rw[<-aC];show bO.2),?_};let(W,bU):=de.write (t':=.aj<|xs.set j.M g8) (o:=.aj<|aa.set j.M v) gL es λbU=>{_,eS,bJ.set (aH.mono bU _ _ bb) _<|bJ.mono bU _ _ ao}
    show k U _ (lT.trans bU) W
   .ext ef
  |_=>ext ef
 |a3 au =>
  let(ws,af,ao):=i7;let ef:(iI tk).bind (λk=>if au.H<bl then J (T.a3<|jG au k g8) else C)=J t':=ef;let(eo,aR,a4):=b5 ef;split at a4
  .rename_i aq
   ext a4
   let:=CN aR rk;subst this;show .inr {a,_,D,AR.k af (by rw[<-cG.length ao];show zG aq),?_};let(W,bU):=de.write (t':=.a3<|jG au eo g8) (o:=.aS<|il ws eo v) gL es λbU=>{_,eS,cG.put eo (aH.mono bU _ _ bb)<|cG.mono bU _ _ ao}
   show k U _ (lT.trans bU) W
  .ext a4
 |eh ks=>ext ef
 |_=>show(show Ym from i7).elim
def ahA(i:Y){x:Ya}{e:Yd}{d:bK}{pos dD apos dk:Yh}(bX:bI X L e d)(dA:X9 (X.N[i]?=J x) bo)(mH:X9 (kz X.I.Y x) az7._auto_1)(hd:X9 ((x==("__debug__" : Ya))=Y1) d7)
  (f3:X9 ((x==("__classdict__" : Ya))=Y1) d7) (jo:X9 (mU (.Name x dD) "append" X.env (Ur (.Name x dD) X.I)=Ur (.Name x dD) X.I) bo)
  (vf:X9 (((fE dk<|cc [e] X.I).all (λx=>!x.1)&&(vV dk<|vP [] X.I).all (λx=>x.1.isSome)
   && decide (([e]:O Yd).H+([]:O mZ).H+(if([]:O mZ).isEmpty then 0 else 1)<30))=Y0) bo)
  (jq:X9 ((apos.endLine==dk.line)=Y0) bo) (aM:X9 (cc [e] X.I=(Y1,Ur e X.I)::cc [] X.I) bo) (vq:X9 ((fE dk<|cc [] X.I).any (·.1)=Y1) bo) :
  gj X L (.Expr (.Call (.Attribute (.Name x dD) "append" apos) [e] [] dk) pos) (h2 i nH d):=by
 intro B S n f S' n' bh ae s U H Lk I ⟨R,k⟩;let((g8,wm,aW),aA,av):=b5 bh;obtain rfl:=w8 aA;let(t,t',gL,ef,rfl,rfl,rfl):=HH av;let(a,es,dB,i7):=R.az i t gL;let dV:rX X L [e]<|ag (cg d) aw:=CJ bX CI aM;let a7:ag (cg d) aw S n=J ([g8],n'):=by delta ag;rw[aA];rfl
 show uo (EK PySem.F.plainAttrs_list PySem.F.slot_list_append PySem.F.type_list_append Cv (lL dA mH hd f3) (dV B S n [g8] _ a7) jo vf jq aM vq) (by rfl) ae s U H Lk I ?_
 induction t using T.casesOn with
 |aj xs =>
  let(aa,af,ao):=i7;let ef:(if xs.H<bl then J (T.aj<|xs++[g8]) else C)=J t':=ef;split at ef
  .rename_i aq
   ext ef
   show{.ref a,es,.inl {D,aa,fw.of af},R,λws H1 x1 dI cT=>?_};let bt:=R.mono x1 dI;let(v,w,rfl,bb,kB):=gH cT;obtain rfl:=ig kB;let mB:=x1.to a _ af<|R.tg dB;let pK:=bJ.mono (x1.bU R.aJ) _ _ ao;show{a,aa,v,D,D,mB,by rw[<-ao.H];show zG aq,?_};let(W,bU):=bt.write (t':=.aj<|xs++[g8]) (o:=.aj<|aa++[v]) gL es λbU=>{_,eS,(bJ.mono bU _ _ pK).append (.cons (aH.mono bU _ _ bb) .nil)}
   show k U _ ((x1.bU R.aJ).trans bU) W
  .ext ef
 |_=>ext ef
section
open PySem.AutoSeq1
def ajg(l:X7)(XZ:Ye ay)(n:Y)(b:X7)(xV:Ye ay)(bW:Y)(c:YD)(aN:c = "list" \/ c = "tuple")(n2:X8 X7)(c8:Ye<|X8 ay)(HI:¬(!XZ.isEmpty&&Lh (XZ.O+xV.O))=Y0)(CO:XZ.O<=c3)(iR:XZ.O+xV.O<=c3+1) :
  Meets (Builtin.«list.extend» {[.ref l,.ref b],[]}) (λ_ R s=>s.heap.get? l=J { cls:=.type "list",dict:=C,data:=.seq XZ n,slots:=#[]}/\s.heap.get? b=J { cls:=.type c,dict:=n2,data:=.seq xV bW,slots:=c8}/\R (.ok<|.ret YC) { s with heap:=s.heap.update l (UJ λx=>x++xV),toks:=s.toks}):=by
 rcases aN with rfl|rfl
 .show .of_wp λprog w A R s h=>by
   let(aF,g,d,tk,os):=s;let(aC,aq,h):=h;let f1:=idx_int;let f2:=PySem.AutoSeq1.sub_tuple_tuple;let dW:=PySem.AutoSeq1.sub_list_list;let f4:=PySem.AutoSeq1.sub_tuple_list;let gT:=PySem.AutoSeq1.sub_list_tuple;
   let pM:(XZ++xV).O<=c3+1:=by rw[Lp];show iR
   wp_walk using (tG aC D (hz:=CO) (_hz':=pM)),BC aC,BC aq;show{_,D,h}
 .show .of_wp λprog w A R s h=>by
   let(aF,g,d,tk,os):=s;let(aC,aq,h):=h;let f1:=idx_int;let f2:=PySem.AutoSeq1.sub_tuple_tuple;let dW:=PySem.AutoSeq1.sub_list_list;let f4:=PySem.AutoSeq1.sub_tuple_list;let gT:=PySem.AutoSeq1.sub_list_tuple;
   let pM:(XZ++xV).O<=c3+1:=by rw[Lp];show iR
   wp_walk using (tG aC D (hz:=CO) (_hz':=pM)),BC aC,BC aq;show{_,D,h}
end
def Sa(K:Yo):V->O V->aI->eW->Prop:=λx aa H Q=>∃l b xs zs,x=.ref l/\aa=[.ref b]/\H l=J (.aj xs)/\(fw K H b zs\/eC K H b zs)/\xs.H+zs.H<=c3/\Q .bR (cO H l<|.aj<|xs++zs)
def ahB:Hd X "list.extend"<|Sa X.K:=by
 intro ae s U H x aa v us Q I cJ bb h;let(l,b,xs,zs,rfl,rfl,m6,dB,hz,q):=h
 ext cJ
 let(u,rfl,eF):=bb.one
 ext eF
 let(z,aX,n,r,aC,e):=I.Kh m6;let key:∀(ir:O ay),cA zs ir->(∃(o:Yp) (c:YD) (bW:Y),s.heap.get? b=J o/\(c = "list" \/ c = "tuple")/\o.cls=.type c/\o.e=.seq ir.D bW) ->
   ba Z3 X.A (call (.builtin "list.extend") [.ref l,.ref b]) (fH X ae U Q) X.cu s:=λir b8 aV=>by
  let Ni:=b8.H;let hsz:aX.D.O+ir.D.O<=c3:=by rw[eL,eL];lia
  let age:¬ (!aX.D.isEmpty&&Lh (aX.D.O+ir.D.O))=Y0:=by rw[akX hsz,FE];show mT
  let((cl,n2,yK,c8),c,bW,av,aN,rfl,rfl):=aV;show mV F.slot_list_extend {_,e,D} F.entry_list_extend (F.args_list_extend_2 _ _) (ajg l aX.D n b ir.D bW c aN n2 c8 age (by rw[eL];show nQ hsz)<|qe hsz) {e,av,?_};show{.bR,_,I.Kg (its':=aX++ir) m6 e Z6 (r.append b8) (by rw[hM];show hz),D,q}
 rcases dB with dB|dB
 .let(ir,b8,(o,bW,av,dP,_,g9),_):=I.list dB;show key ir b8 {o,"list",bW,av,.inl D,dP,g9}
 .let(ir,b8,(o,av,dP,bW,g9),_):=I.tuple dB;show key ir b8 {o,"tuple",bW,av,.inr D,dP,g9}
def ahC(i:Y){x:Ya}{e:Yd}{d:bK}{pos dD apos dk:Yh}(bX:bI X L e d)(dA:X9 (X.N[i]?=J x) bo)(mH:X9 (kz X.I.Y x) az7._auto_1)(hd:X9 ((x==("__debug__" : Ya))=Y1) d7)
  (f3:X9 ((x==("__classdict__" : Ya))=Y1) d7) (jo:X9 (mU (.Name x dD) "extend" X.env (Ur (.Name x dD) X.I)=Ur (.Name x dD) X.I) bo)
  (vf:X9 (((fE dk<|cc [e] X.I).all (λx=>!x.1)&&(vV dk<|vP [] X.I).all (λx=>x.1.isSome)
   && decide (([e]:O Yd).H+([]:O mZ).H+(if([]:O mZ).isEmpty then 0 else 1)<30))=Y0) bo)
  (jq:X9 ((apos.endLine==dk.line)=Y0) bo) (aM:X9 (cc [e] X.I=(Y1,Ur e X.I)::cc [] X.I) bo) (vq:X9 ((fE dk<|cc [] X.I).any (·.1)=Y1) bo) :
  gj X L (.Expr (.Call (.Attribute (.Name x dD) "extend" apos) [e] [] dk) pos) (h2 i kN d):=by
 intro B S n f S' n' bh ae s U H Lk I ⟨R,k⟩;let((g8,wm,aW),aA,av):=b5 bh;obtain rfl:=w8 aA;let(t,t',gL,ef,rfl,rfl,rfl):=HH av;let(a,es,dB,i7):=R.az i t gL;let dV:rX X L [e]<|ag (cg d) aw:=CJ bX CI aM;let a7:ag (cg d) aw S n=J ([g8],n'):=by delta ag;rw[aA];rfl
 show uo (EK PySem.F.plainAttrs_list PySem.F.slot_list_extend PySem.F.type_list_extend ahB (lL dA mH hd f3) (dV B S n [g8] _ a7) jo vf jq aM vq) (by rfl) ae s U H Lk I ?_
 induction t using T.casesOn with
 |aj xs =>
  let(aa,af,ao):=i7;show{.ref a,es,.inl {D,aa,fw.of af},R,λws H1 x1 dI cT=>?_};let bt:=R.mono x1 dI;let(v,w,rfl,bb,kB):=gH cT;obtain rfl:=ig kB;let mB:=x1.to a _ af<|R.tg dB;let pK:=bJ.mono (x1.bU R.aJ) _ _ ao;let fin:∀(aQ:O T) (b:X7) (ws:O V),v=.ref b->bJ L H1 aQ ws->(fw X.K H1 b ws\/eC X.K H1 b ws)->(if xs.H+aQ.H<=bl then J (T.aj<|xs++aQ) else C)=J t'->Sa X.K (.ref a) [v] H1 (λ_ br=>Lk.bS U br):=λaQ b ws ev rws gK ef=>by
   split at ef
   .rename_i aq
    ext ef
    subst ev;show{a,b,aa,ws,D,D,mB,gK,by rw[<-ao.H,<-rws.H];show pJ aq,?_};let(W,bU):=bt.write (t':=.aj<|xs++aQ) (o:=.aj<|aa++ws) gL es λbU=>{_,eS,(bJ.mono bU _ _ pK).append (bJ.mono bU _ _ rws)}
    show k U _ ((x1.bU R.aJ).trans bU) W
   .ext ef
  induction g8 using T.casesOn with
  |aj aQ =>
   rw[aH]at bb;let(b,o,ws,ev,aq,rws):=bb;show fin aQ b ws ev rws (.inl<|.inl<|.inr {(o),aq}) ef
  |aE aQ =>
   rw[aH]at bb;let(b,ws,ev,aq,rws):=bb;show fin aQ b ws ev rws (.inr<|eC.of aq) ef
  |_=>ext ef
 |_=>ext ef
def ajh(i:Y){x:Ya}{j:Y}{pos dD apos dk pc:Yh}(dA:X9 (X.N[i]?=J x) bo)(mH:X9 (kz X.I.Y x) az7._auto_1)(hd:X9 ((x==("__debug__" : Ya))=Y1) d7)
  (f3:X9 ((x==("__classdict__" : Ya))=Y1) d7) (jo:X9 (mU (.Name x dD) "append" X.env (Ur (.Name x dD) X.I)=Ur (.Name x dD) X.I) bo)
  (jq:X9 ((apos.endLine==dk.line)=Y0) bo) :
  gj X L (.Expr (.Call (.Attribute (.Name x dD) "append" apos) [.Constant (.int 0) j pc] [] dk) pos) (CA i):=by
 intro B S n f S' n' bh ae s U H Lk I ⟨R,k⟩;have⟨m,gL,aq,Gm,yL,qp⟩:∃m,S[i]?=J (J (T.dQ,m))/\n<bl/\f=.bS/\S'=S/\n'=n+1:=by
  delta CA at bh;cases e:S[i]? with
  |none=>rw[e]at bh;ext bh
  |some o =>
   cases o with
   |none=>rw[e]at bh;ext bh
   |some p =>
    let(t,m):=p;rw[e]at bh
    induction t using T.casesOn with
    |dQ =>
     let bh:(if n<bl then J (hJ.bS,S,n+1) else C)=J (f,S',n'):=bh;split at bh
     .rename_i aq;ext bh;show{(m),D,aq,D,D,D}
     .ext bh
    |_=>ext bh
 subst Gm yL qp;let es:U[i]?=J (J<|.ref L):=by
  cases m with
  |ah=>let(v,af,ao):=R.ah i _ gL;rw[aH]at ao;rw[af,ao]
  |cV=>let(v,af,ao):=R.cV i _ gL;let ao:aH L B .dQ v:=ao;rw[aH]at ao;rw[af,ao]
  |az=>let(a,af,ao,a6):=R.az i _ gL;show(show Ym from a6).elim
  |iG=>show Yi gL<|R.og i _
 show uo (EK PySem.F.plainAttrs_list PySem.F.slot_list_append PySem.F.type_list_append Cv (lL dA mH hd f3) (zj Ck uq) jo (by rfl) jq (by rfl)<|by rfl) (by rfl) ae s U H Lk I ?_;let aJ:=R.aJ;delta cR at aJ;show{.ref L,es,.inl {D,_,fw.of aJ},L,_,.int 0,D,D,aJ,by rw[mO];show zG aq,?_};let aA:Yj n (V.int 0)++[V.int 0]=Yj (n+1) (V.int 0):=by rw[qa5]
 rw[aA];let bU:eu H<|cO H L<|.aj<|Yj (n+1)<|V.int 0:=λb=>{λaa q=>by rw[ea<|R.aJ.E1 q];show q,λ_ _ q=>by rw[ea<|R.aJ.A6 q];show q}
 show k U _ bU<|R.mono ⟨λb u q nb=>by rw[ea nb];show q⟩ ?_;show eS
def Tz(i:Y){st:Yf}{d:bw}(h:gj X L st d):gj X L st<|fg i d:=by
 intro B S n f S' n' bh ae s U H Lk I ⟨R,k⟩;delta fg at bh;cases e:S[i]? with
 |none=>rw[e]at bh;show h B S n f S' n' bh ae s U H Lk I {(R),k}
 |some o =>
  cases o with
  |none=>rw[e]at bh;show h B S n f S' n' bh ae s U H Lk I {(R),k}
  |some p =>
   let(t,m):=p;rw[e]at bh;cases m with
   |az =>
    let bh:d (S.set i<|some (t,bk.ah)) n=J (f,S',n'):=bh;let(a,es,dB,i7):=R.az i t e;let na:=R.tg dB;let go:∀u,H a=J u->((∃xs,u=.aj xs)\/(∃au,u=.aS au)\/∃ks,u=.hG ks)->(∀o,aH L (cO H a<|.d3 o u) t<|.ref a)->ba Z3 X.A (exec st X.I) (nZ X ae Lk) X.cu s:=λu b1 Nj hr=>by
     let(o,cI):=I.freeze b1 Nj;let bU:eu H<|cO H a<|.d3 o u:=eu.d3 b1 Nj;show h B _ n f S' n' bh ae s U _ Lk cI ⟨?_,k.bU bU⟩;show⟨R.ext.put dB,by show cO H a _ L=_;rw[ea na.symm];show R.aJ,R.j4,by rw[jQ];show R.len,λj t1 q=>?_,λj t1 q=>?_,λj t1 q=>?_,λj t1 q=>?_,λj k t1 eB b aR a4 s1 s2=>?_⟩
     .rcases hc q with⟨rfl,z,_⟩|⟨ne,q⟩
      .ext z;show{_,es,hr o}
      .let(v,af,ao):=R.ah j t1 q;show{v,af,aH.mono bU _ _ ao}
     .rcases hc q with⟨_,z,_⟩|⟨ne,q⟩
      .cases z
      .show R.cV j t1 q
     .rcases hc q with⟨rfl,z,_⟩|⟨ne,q⟩
      .cases z
      .let(b,af,ao,a6):=R.az j t1 q;show{b,af,ao,a6.other bU<|by rintro rfl;show ne<|R.nt j i t1 t b q e af es}
     .rcases hc q with⟨_,z,_⟩|⟨ne,q⟩
      .cases z
      .show R.og j t1 q
     .rcases hc aR with⟨_,z,_⟩|⟨_,aR⟩
      .cases z
      .rcases hc a4 with⟨_,z,_⟩|⟨_,a4⟩
       .cases z
       .show R.nt j k t1 eB b aR a4 s1 s2
    induction t using T.casesOn with
    |aj xs =>
     let(aa,af,ao):=i7;show go _ af (.inl {(aa),D}) λo=>by rw[aH];show{a,o,aa,D,eS,bJ.mono (eu.d3 af<|.inl {(aa),D}) _ _ ao}
    |a3 au =>
     let(aa,af,ao):=i7;show go _ af (.inr<|.inl ⟨aa,D⟩) λo=>by rw[aH];show{a,o,aa,D,eS,cG.mono (eu.d3 af<|.inr<|.inl {(aa),D}) _ _ ao}
    |eh ks =>
     let(aa,af,ao):=i7;show go _ af (.inr<|.inr ⟨aa,D⟩) λo=>by rw[aH];show{(a),o,aa,D,eS,ao}
    |_=>show(show Ym from i7).elim
   |ah=>show h B S n f S' n' bh ae s U H Lk I {(R),k}
   |cV=>show h B S n f S' n' bh ae s U H Lk I {(R),k}
   |iG=>show h B S n f S' n' bh ae s U H Lk I {(R),k}
end
section
variable {X:bL}{L:X7}{dj:Yd}
def p5(L:X7)(dg:kj)(H:aI)(aD:O T):Prop:=∀(i:Y),
 (∀t,aD[i]?=J t->dg.go i H/\∀x br,dg.Cq i H x br->dc L H br/\(∀n,cR L n H->cR L n br)/\aH L br t x)/\(aD.H<=i->dg.stop i H)
def qY(X:bL)(L:X7)(dj iter:Yd)(d:hU):Prop:=∀B S n aD n',d S n=J (aD,n')->m4 X dj iter (λU H R=>df X.K B L S n U H /\
 ∀dg ak,dc L H ak->cR L n' ak->(∀eG pN,cR L pN eG->dc L ak eG->p5 L dg eG aD)->R dg ak)
def zH(X:bL)(L:X7)(dj iter:Yd)(d:hU):Prop:=∀B S n aD n',d S n=J (aD,n')->m4 X dj iter (λU H R=>df X.K B L S n U H /\
 ∀dg ak,dc L H ak->cR L n' ak->(∀eG pN,cR L pN eG->eu ak eG->dc L B eG->p5 L dg eG aD)->R dg ak)
def CP{ae:O Z2}{U:St}{H:aI}{s:aL}{a:X7}{aa:O V}{R:kj->aI->Prop}(I:aO X ae U H s)(a8:fw X.K H a aa)(q:R (Cr X.K a) H):ba Z3 X.A (kh<|.ref a) (se X ae U dj R) X.cu s:=by
 let(aX,bb,p,hz):=I.list a8;show yn p.isList ?_;show{s.L,[s.L],_,_,H,D,I.kept (t':=s.toks) λb o e=>dG _ e,MB a _,{_,fa _ D,D,D},λb aq=>?_,q};let e:b=s.L:=by simpa using aq
 subst e;show I.ve (b3 _)<|I.bE.fresh<|b3 _
def ahD{ae:O Z2}{U:St}{H:aI}{s:aL}{a:X7}{aa:O V}{R:kj->aI->Prop}(I:aO X ae U H s)(a8:eC X.K H a aa)(q:R (GZ X.K a) H):ba Z3 X.A (kh<|.ref a) (se X ae U dj R) X.cu s:=by
 let(aX,bb,p,hz):=I.tuple a8;show FR (show s.heap.IsTuple a aX.D from p) ?_;show{s.L,[s.L],_,_,H,D,I.kept (t':=s.toks) λb o e=>dG _ e,qaj a _,{_,fa _ D,D,D},λb aq=>?_,q};let e:b=s.L:=by simpa using aq
 subst e;show I.ve (b3 _)<|I.bE.fresh<|b3 _
noncomputable def HJ(a:X7)(o:Yp)(ws:O<|Key×V):kj :=
 {λi H=>H a=J (.d3 o<|.aS ws)/\i<ws.H,λi H x ak=>ak=H/\∃k v,ws[i]?=J (k,v)/\x=eH k,λi H=>H a=J (.d3 o<|.aS ws)/\ws.H<=i}
def HK{ep:Y}(bE:eY P w H h)(e:H a=J (.d3 o<|.aS ws))(hd:o.e=.dict es ep) :
  ∃aa,e6 ws aa/\h.DictAt (gF P w) a aa ep/\(a==md)=Y1:=by
 let(af,_,a6,aa,cS,cW,hW,sd,aR,a4,cQ,fQ):=(show fN P w H h a (.d3 o<|.aS ws) from bE a _ e)
 rw[af]at aR;ext aR;rw[hd]at cQ;ext cQ;show{aa,cS,{(o),es,af,a4,hd,fQ},a6}
def HL(r:e6 ws aa):∀{i:Y} {k:Key} {v:V},ws[i]?=J (k,v)->∃u,aa[i]?=J (k,u):=by
 delta e6 at r
 induction r with
 |nil=>intro i k v e;simp at e
 |@cons p q ps tP h t aT =>
  intro i k v e;cases i with
  |zero =>
   simp at e;subst e;show{q.2,?_};let:k=q.1:=h.1;rw[this];rfl
  |succ i=>let(u,b1):=aT (i:=i) (k:=k) (v:=v) (by simpa using e);show{u,by simpa using b1}
def HM(h:(gF P w).is k u=Y0):cU (eH k) u:=by
 rcases pB (show uh k u=Y0 from h) with⟨i,t,rfl,rfl⟩|⟨x,t,rfl,rfl⟩
 .show{(t),D}
 .show{(t),D}
def qaU{P:di}{w:cL}{K:Yo}{dj:Yd}(a it:X7)(o:Yp)(ws:O<|Key×V)(es:Ye DictEntry)(ep:Y)(hd:o.e=.dict es ep):Turn P w K dj (HJ a o ws) [it] it (λi h=>h.IsKeyIter it a i ws.H ep) where
 mem:=by simp
 obj:=λi h st b aq=>by
  let e:b=it:=by simpa using aq
  subst e;let(o,e,c,d):=st;show⟨o,e,λv z=>by rw[d]at z;ext z⟩
 keep:=λi h h' st k=>st.at λo e=>k it Z6 o e
 item:=by
  intro X ez hw ix aN i ae s U H E I hf st bQ;subst ez hw ix;let(a8,ax):=bQ;let(aa,bb,dd,_):=HK I.bE a8 hd;let aC:ws.H=aa.H:=KQ bb;obtain⟨k,v,aY⟩:∃k v,ws[i]?=J (k,v):={ws[i].1,ws[i].2,by simp[ax]}
  let(u,b1):=HL bb aY;let(f0,f1,f2,dW,f4,gT):=hf it Z6;rw[aC]at st;show wpAny_pyNext_dict_item st dd b1 λkey h' lg c5 cX=>?_;let bf:aO X ae U H { s with heap:=h'}:=I.turned (t':=s.toks) (λb o aq e=>(cX.2 b aq).trans e) f0 f1 dW f4 gT;let(cW,e,c,d):=id c5;show{key,D,EJ (s:={ s with heap:=h'}) e c d Z0 ⟨eH k,H,bf,HM lg,⟨rfl,k,v,aY,rfl⟩,by rw[aC];show c5,λb aq=>(hf b aq).1⟩}
 done:=by intro X ez hw ix aN i ae s U H E I hf st bQ;subst ez hw ix;let(a8,ax):=bQ;let(aa,bb,dd,_):=HK I.bE a8 hd;let aC:ws.H=aa.H:=KQ bb;let(f0,f1,f2,dW,f4,gT):=hf it Z6;rw[aC]at st;show wpAny_pyNext_dict_end (I.ok.hd aN) st dd (Bd<|bF (dK aC.symm) ax) λh' h8=>{D,I.turned (t':=s.toks) (λb o aq e=>h8 b o aq e) f0 f1 dW f4 gT}
 self:=λ_ _ _ _ _ st h=>wpAny_pyIter_keyiter st h
def aji{ae:O Z2}{U:St}{H:aI}{s:aL}{a:X7}{o:Yp}{ws:O<|Key×V}{R:kj->aI->Prop}(I:aO X ae U H s)(a8:H a=J (.d3 o<|.aS ws))(q:R (HJ a o ws) H):ba Z3 X.A (kh<|.ref a) (se X ae U dj R) X.cu s:=by
 let(af,_,a6,aa,cS,cW,es,ep,aR,a4,cQ,fQ):=(show fN X.R X.w H s.Q a (.d3 o<|.aS ws) from I.bE a _ a8)
 rw[af]at aR;ext aR;let(aa,bb,dd,_):=HK I.bE a8 cQ;let aC:ws.H=aa.H:=KQ bb;show wpAny_pyIter_dict a6 dd ?_;show{s.L,[s.L],_,_,H,D,I.kept (t':=s.toks) λb o e=>dG _ e,qaU a _ o ws es ep cQ,{_,fa _ D,D,by rw[aC];rfl},λb aq=>?_,q};let e:b=s.L:=by simpa using aq
 subst e;show I.ve (b3 _)<|I.bE.fresh<|b3 _
def CQ{K:Yo}{H:aI}{a:X7}{aa:O V}{xs:O T}(aM:fw K H a aa)(r:bJ L H xs aa):p5 L (Cr K a) H xs:=λi=>by show{λt e=>?_,λaC=>{aa,aM,by rw[<-r.H];show aC}};let(v,af,ao):=r.get e;show{{(aa),v,aM,af},λx br y=>?_};let(rfl,y):=y;let:=y aa aM;rw[af]at this;ext this;show{.refl _ _,λ_ z=>z,ao}
def ahE{K:Yo}{H:aI}{a:X7}{aa:O V}{xs:O T}(aM:eC K H a aa)(r:bJ L H xs aa):p5 L (GZ K a) H xs:=λi=>by show{λt e=>?_,λaC=>{aa,aM,by rw[<-r.H];show aC}};let(v,af,ao):=r.get e;show{{(aa),v,aM,af},λx br y=>?_};let(rfl,y):=y;let:=y aa aM;rw[af]at this;ext this;show{.refl _ _,λ_ z=>z,ao}
theorem CR:∀{au:O (Key×T)} {ws:O (Key×V)} {i:Y} {k:Key} {t:T},cG L H au ws->au[i]?=J (k,t)->∃v,ws[i]?=J (k,v)/\aH L H t v
 |[],_,_,_,_,_,e=>by simp at e
 |(gD,x)::xs,_,0,k,t,r,e=>by rw[cG]at r;let(v,w,rfl,p,q):=r;simp at e;let(rfl,rfl):=e;show{(v),D,p}
 |(gD,x)::xs,_,i+1,k,t,r,e=>by rw[cG]at r;let(v,w,rfl,p,q):=r;let(u,af,ao):=CR (i:=i) (k:=k) (t:=t) q (by simpa using e);show{u,by simpa using af,ao}
def HN(k:Key):aH L H (ip k)<|eH k:=by
 cases k with
 |inl i=>show aH L H (.int i) (.int i);rw[aH]
 |inr x=>show aH L H (.str x) (.str x);rw[aH]
def ajj(aM:H a=J (.d3 o<|.aS ws))(r:cG L H au ws):p5 L (HJ a o ws) H (au.map λc4=>ip c4.1):=λi=>by
 let aC:=cG.length r;show{λt e=>?_,λh=>{aM,by rw[<-aC];simpa using h}};rw[hN]at e;cases q:au[i]? with
 |none=>rw[q]at e;ext e
 |some p =>
  let(k,t'):=p;rw[q]at e;let e:ip k=t:=Yt e;subst e;let(v,af,ao):=CR r q;show{{aM,(bv.mp af).1},λx br y=>?_};let(rfl,k2,v2,dI,rfl):=y;rw[af]at dI;ext dI;show{.refl _ _,λ_ z=>z,HN k}
def Nk(lo:X6)(m:Y):p5 L (ze lo m) H ((Yr m).map λ(k:Y)=>T.int<|lo+k):=λi=>by
 show{λt e=>?_,λh=>by show m<=i;simpa using h};rw[hN]at e;cases q:(Yr m)[i]? with
 |none=>rw[q]at e;ext e
 |some j =>
  rw[q]at e;let e:T.int (lo+j)=t:=Yt e;subst e;let(hi,bO):=bv.mp q;rw[List.getElem_range]at bO;subst bO;rw[vw]at hi;show{hi,λx br y=>?_};let(rfl,rfl):=y;show{.refl _ _,λ_ z=>z,by rw[aH]}
def Nl{ae:O Z2}{U:St}{H:aI}{s:aL}{t:T}{m:bk}{xs:O T}{v:V}{u:ay}{R:kj->aI->Prop}(I:aO X ae U H s)(bb:cU v u)(r:aH L H t v)(h:Un t m=J xs)
  (k:∀dg,(∀eG,eu H eG->p5 L dg eG xs)->R dg H):ba Z3 X.A (kh u) (se X ae U dj R) X.cu s:=by
 induction t using T.casesOn with
 |aj aQ =>
  ext h
  rw[aH]at r;let(a,o,aa,rfl,e,q):=r
  ext bb
  show CP I (.inl<|.inr ⟨o,e⟩) (k _ λeG bU=>CQ (.inl<|.inr {o,(bU a).2 _ _ e})<|bJ.mono bU _ _ q)
 |aE aQ =>
  ext h
  rw[aH]at r;let(a,aa,rfl,e,q):=r
  ext bb
  show ahD I (eC.of e) (k _ λeG bU=>ahE (eC.of<|(bU a).1 _ e)<|bJ.mono bU _ _ q)
 |a3 au =>
  rw[aH]at r;let(a,o,ws,rfl,e,q):=r
  ext bb
  let av:xs=au.map λc4=>ip c4.1:=by ext m<;>first|(ext h;rfl)|ext h
  subst av;show aji I e (k _ λeG bU=>ajj ((bU a).2 _ _ e)<|cG.mono bU _ _ q)
 |_=>ext h
def afk{e:Yd}{d:bK}(h:bI X L e d):qY X L dj e<|eZ d:=by
 intro B S n aD n' hd ae s U H R I ⟨jz,k⟩;let((t,m,aW),aA,av):=b5 hd;let(xs,a7,bM):=dm av
 ext bM
 let oh:vk d S n=J (t,CK m,aW):=by delta vk;rw[aA];rfl
 show bZ ((HF h).run oh I jz) λu s1 ⟨v,H1,bf,bp,a1,bt,b0⟩=>?_;let aZ:=b0.root bt jz.aJ;let tf:aH L H1 t v->ba Z3 X.A (kh u) (se X ae U dj R) X.cu s1:=λjA =>
  Nl bf bp jA a7 λdg Gn=>k dg H1 a1 bt.aJ λeG pN CS ext=>Gn eG<|ext.bU bt.aJ
 cases m with
 |az=>show tf b0
 |ah=>show tf b0
 |cV =>
  induction t using T.casesOn with
  |aj aQ =>
   ext a7
   let(a,aa,rfl,e,q):=aZ
   ext bp
   show CP bf e.gK (k _ H1 a1 bt.aJ λeG pN CS ext=>CQ (e.ext ext).gK (bJ.mono (ext.bU bt.aJ) _ _ q))
  |aE aQ=>show tf aZ
  |_=>ext a7
 |iG =>
  induction t using T.casesOn with
  |aj aQ =>
   ext a7
   let(a,aa,rfl,e,q):=aZ
   ext bp
   show CP bf e.gK (k _ H1 a1 bt.aJ λeG pN CS ext=>CQ (e.ext ext).gK (bJ.mono (ext.bU bt.aJ) _ _ q))
  |aE aQ=>show tf aZ
  |_=>ext a7
def afl{e:Yd}{d:bK}(h:bI X L e d):zH X L dj e<|hq d:=by
 intro B S n aD n' hd ae s U H R I ⟨jz,k⟩;let((t,m,aW),aA,av):=b5 hd;let oh:vk d S n=J (t,CK m,aW):=by delta vk;rw[aA];rfl
 show bZ ((HF h).run oh I jz) λu s1 ⟨v,H1,bf,bp,a1,bt,b0⟩=>?_;let aZ:=b0.root bt jz.aJ;let tf:∀xs,Un t m=J xs->(xs,aW)=(aD,n')->aH L H1 t v->ba Z3 X.A (kh u) (se X ae U dj R) X.cu s1:=λxs a7 bM jA=>by
  ext bM
  show Nl bf bp jA a7 λdg Gn=>k dg H1 a1 bt.aJ λeG pN CS bU _=>Gn eG bU
 cases m with
 |az=>let(xs,a7,bM):=dm av;show tf xs a7 bM b0
 |ah=>let(xs,a7,bM):=dm av;show tf xs a7 bM b0
 |cV =>
  let(xs,a7,bM):=dm av
  induction t using T.casesOn with
  |aj aQ =>
   ext a7
   ext bM
   let b0:eb X.K L B (.aj _) v:=b0;let(n0,qo):=jz.j4;let(a,aa,rfl,e,q):=b0
   ext bp
   show CP bf (e.ext bt.ext).gK (k _ H1 a1 bt.aJ λeG pN CS bU ext=>CQ (e.ext ext).gK (bJ.mono (ext.bU qo) _ _ q))
  |aE aQ=>show tf xs a7 bM aZ
  |_=>ext a7
 |iG=>ext av
def qZ(X:bL)(L:X7)(dj iter:Yd)(d:hU):Prop:=∀B S n aD n',d S n=J (aD,n')->m4 X dj iter (λU H R=>df X.K B L S n U H/\∀dg ak,dc L H ak->cR L n' ak->(∀eG,p5 L dg eG aD)->R dg ak)
theorem qZ.c{iter:Yd}{d:hU}(h:qZ X L dj iter d):qY X L dj iter d:=λB S n aD n' hd ae s U H R I ⟨jz,k⟩=>h B S n aD n' hd ae s U H R I {jz,λdg ak a b c=>k dg ak a b λeG _ _ _=>c eG}
theorem qZ.s{iter:Yd}{d:hU}(h:qZ X L dj iter d):zH X L dj iter d:=λB S n aD n' hd ae s U H R I ⟨jz,k⟩=>h B S n aD n' hd ae s U H R I {jz,λdg ak a b c=>k dg ak a b λeG _ _ _ _=>c eG}
def iT{K:Yo}{H:aI}{i:X6}{v:V}(r:eb K L H (.int i) v):v=.int i:=by let r:aH L H (.int i) v:=r;rw[aH]at r;show r
def ajk{pos p:Yh}{a:Yd}{dC:gh}(bx:mg X L [a] dC)(hm:X.bj "range" = C)(bQ:X9 (fI X "range") bo)(aM:X9 (cc [a] X.I=[(Y1,Ur a X.I)]) bo):qZ X L dj (.Call (.Name "range" p) [a] [] pos)<|kC dC:=by
 intro B S n aD n' hd ae s U H R I ⟨jz,k⟩;let((mA,aW),aA,av):=b5 hd;show qal bQ hm (bx B S n mA aW aA) aM ae s U H R I {jz,λaa ak x y z=>?_};cases z with
 |nil=>ext av
 |@cons t v anD iU cT da =>
  cases da with
  |nil =>
   induction t using T.casesOn with
   |int j =>
    let av:(if-bl<=j/\j<=bl then J (h1 0 j,aW) else C)=J (aD,n'):=av;split at av
    .rename_i aq
     ext av
     let dB:(bl:X6)=1000000:=rfl;show{j,by rw[iT cT],(iv Z0 aq.1),(oY aq.2 Z0),k _ ak x y λeG=>?_};let:=Nk (L:=L) (H:=eG) 0 j.M
     delta h1;rw[Int.sub_zero];show this
    .ext av
   |_=>ext av
  |cons a b=>ext t<;>ext av
def ak8{mA aD:O T}{aW n':Y}(av:(match mA with|[.int i,.int j]=>if-bl<=i/\i<=bl /\ -bl<=j/\j<=bl then J (h1 i j,aW) else C|_=>C)=J (aD,n')):∃i j,mA=[.int i,.int j]/\(-bl<=i/\i<=bl /\ -bl<=j/\j<=bl)/\aD=h1 i j/\n'=aW:=by
 split at av
 .rename_i i j;split at av
  .rename_i aq;ext av;show{(i),j,D,aq,D,D}
  .ext av
 .ext av
def ajl{pos p:Yh}{a b:Yd}{dC:gh}(bx:mg X L [a,b] dC)(hm:X.bj "range" = C)(bQ:X9 (fI X "range") bo)(aM:X9 (cc [a,b] X.I=[(Y1,Ur a X.I),(Y1,Ur b X.I)]) bo)(iR:X9 (cc [b] X.I=[(Y1,Ur b X.I)]) bo) :
  qZ X L dj (.Call (.Name "range" p) [a,b] [] pos) (sk dC):=by
 intro B S n aD n' hd ae s U H R I ⟨jz,k⟩;let((mA,aW),aA,av):=b5 hd;show qam bQ hm (bx B S n mA aW aA) aM iR ae s U H R I {jz,λaa ak x y z=>?_};let(i,j,rfl,aq,rfl,rfl):=ak8 av;let dB:(bl:X6)=1000000:=rfl;cases z with
 |cons cT da =>
  cases da with
  |cons da gM =>
   ext gM
   show{i,j,by rw[iT cT,iT da],{(iv Z0 aq.1),(oY aq.2.1 Z0),(iv Z0 aq.2.2.1),(oY aq.2.2.2 Z0)},k _ ak x y λeG=>?_};show Nk i (j-i).M
def so(S':bA)(U':St)(S:bA)(U:St):Prop:=∀(j:Y) (t:T) (a:X7),S'[j]?=J (J (t,.az))->U'[j]?=J (J<|.ref a)->∃(qq:Y) (t':T),S[qq]?=J (J (t',.az))/\U[qq]?=J (J<|.ref a)
def so.p4(i:Y)(t:T)(v:V):so (S.set i<|some (t,.ah)) (U.set i<|some v) S U:=λj t' a e bH=>by
 rcases hc e with⟨_,z,_⟩|⟨ne,e⟩
 .cases z
 .rw[nu ne]at bH;show{(j),t',e,bH}
def so.trans(a:so S2 U2 S1 U1)(b:so S1 U1 S U):so S2 U2 S U:=λj t x e bH=>let ⟨qq,t',af,ao⟩:=a j t x e bH;b qq t' x af ao
def BW(X:bL)(L:X7)(put:T->bA->X8 bA):pe:=λv U H Q=>∃B S n t S',df X.K B L S n U H/\aH L H t v/\put t S=J S'/\∀U',df X.K B L S' n U' H->so S' U' S U->Q U' H
def rY(X:bL)(L:X7)(dj:Yd)(put:T->bA->X8 bA):Prop:=pf X dj<|BW X L put
def Nm(i:Y){x:Ya}{pos:Yh}(dA:X.N.Nodup)(hi:X9 (X.N[i]?=J x) bo)(ax:X9 (Loc X.I.Y x) az4._auto_1)(hf:X9 (X.fn x=Y0\/X.env.scope.names.lookup x=J .local) qk):rY X L (.Name x pos)<|cC i:=by
 intro ae s U H v u Q I r h;let(B,S,n,t,S',R,aZ,aF,k):=h
 ext aF
 show Co dA hi ax hf ae s U H v u Q I r<|k _ (R.p4 aZ)<|.p4 _ _ _
def ahF(i j:Y){x y:Ya}{dD py pos:Yh}{kk:Y}(aN:X.calm=Y0)(dA:X.N.Nodup)(hi:X9 (X.N[i]?=J x) bo)(bO:X9 (X.N[j]?=J y) bo)(ax:X9 (Loc X.I.Y x) az4._auto_1)(aP:X9 (Loc X.I.Y y) az4._auto_1)
  (hf:X9 (X.fn x=Y0\/X.env.scope.names.lookup x=J .local) qk) (HO:X9 (X.fn y=Y0\/X.env.scope.names.lookup y=J .local) qk)
  (bq:X9 ((lB [.Name x dD,.Name y py] X.I).H=2) bo) (k4:X9 ((lB [.Name x dD,.Name y py] X.I).findIdx? (·.1)=C) bo)
  (af:X9 ((lB [.Name x dD,.Name y py] X.I).map (·.2)=lC (.Name x dD) X.I::(lB [.Name y py] X.I).map (·.2)) bo) (ao:X9 ((lB [.Name y py] X.I).map (·.2)=lC (.Name y py) X.I::(lB [] X.I).map (·.2)) bo):rY X L (.Tuple [.Name x dD,.Name y py] kk pos)<|zo i j:=by
 intro ae s U H v u Q I r h;let(B,S,n,t,S',R,aZ,aF,k):=h;have⟨a,b,ef,yL⟩:∃a b,t=.aE [a,b]/\S'=(S.set i (J (a,.ah))).set j (J (b,.ah)):=by
  match t,aF with
  |.aE [a,b],aF=>ext aF;show{(a),b,D,D}
 subst ef yL;rw[aH]at aZ;let(ad,aa,rfl,e,q):=aZ;let(fK,fs,rfl,UK,q):=gH q;let(wo,gC,rfl,UL,q):=gH q;obtain rfl:=ig q;show ag2 aN (MA (Co dA hi ax hf) (MA (Co dA bO aP HO) aiT ao) af) bq k4 ae s U H _ u Q I r {ad,[fK,wo],D,eC.of e,D,fK,[wo],D,wo,[],D,D,?_};show k _ ((R.p4 UK).p4 UL)<|(so.p4 _ _ _).trans (.p4 _ _ _)
def ahG{iter:Yd}{body:O Yf}{d:hU}{put:T->bA->X8 bA}{b:bw}{pos:Yh}(aN:X.calm=Y0)(ax:X.cu=λ_ _=>Ym)(hi:zH X L dj iter d)(bQ:rY X L dj put)(aq:ho X L body b)(aM:X9 (∀x,lA iter X.I x=pure x) qx) :
  gj X L (.For dj iter body [] pos) (f7 d put b):=by
 intro B S n f S' n' hd ae s U H Lk I ⟨R,k⟩;let((aD,aW),aA,av):=b5 hd;let aF:vT Z3 X.A X.I X.cu:=by rw[ax];show PassesOwn.never
 let lk:jZ X body (λLk U H=>∃S n f S' n',b S n=J (f,S',n')/\wh X.K B L S n f S' n' Lk U H):=λae s U H Lk I h=>by let(S,n,f,S',n',e,h):=h;show aq B S n f S' n' e ae s U H Lk I h
 show G0 aF aN (hi B S n aD aW aA) bQ lk aM ae s U H Lk I {R,λdg H1 x1 dI it=>?_};let bt:=R.mono x1 dI;let k1:KF X.K B L f S' n' Lk H1:=k.bU<|x1.bU R.aJ;show⟨λi m U' ak=>m=aD.H-i/\i<=aD.H/\eu H1 ak/\∃Si kn,df X.K B L Si kn U' ak/\fT put b (aD.drop i) Si kn=J (f,S',n'),{aD.H,by simp,f9 _,.refl _,S,aW,bt,by simpa using av},?_⟩;rintro i m U2 br ⟨rfl,jH,lT,S2,bW,de,a7⟩;let at2:=it br bW de.aJ lT de.ext i;by_cases dp:i<aD.H
 .right;let(go,wq):=at2.1 aD[i] (by simp[dp]);let yM:aD.drop i=aD[i]::aD.drop (i+1):=oP dp;rw[yM]at a7;let(S3,bM,d9):=b5 (show(put aD[i] S2).bind _=_ from a7);let((f4,S4,gW),fV,fC):=b5 d9;show{go,λU' ak=>eu H1 ak/\df X.K B L S4 gW U' ak/\fT put b (aD.drop<|i+1) S4 gW=J (f,S',n'),λU' ak ⟨cT,da,gM⟩=>{aD.H-(i+1),by lia,D,dp,cT,S4,gW,da,gM},λx ak tV=>?_};let(cu,n5,xr):=wq x ak tV;let k8:eu H1 ak:=lT.trans<|cu.bU de.aJ;show{B,S2,bW,aD[i],S3,de.mono cu<|n5 bW de.aJ,xr,bM,λU3 mh _=>{S3,bW,f4,S4,gW,fV,mh,?_}};cases f4 with
  |bS=>show λU' eG cT da=>{k8.trans cT,da,fC}
  |eI=>show λU' eG cT da=>{k8.trans cT,da,fC}
  |e1 =>
   let fC:J (hJ.bS,S4,gW)=J (f,S',n'):=fC
   ext fC
   show λU' eG cT da=>k1 U' eG (k8.trans cT) da
  |aZ t ko =>
   let fC:J (hJ.aZ t ko,S4,gW)=J (f,S',n'):=fC
   ext fC
   show λv eG cT da gM tW=>k1 v eG (k8.trans cT) da gM tW
 .left;let je:aD.H<=i:=g4 dp;show{at2.2 je,?_};rw[vt je]at a7;let a7:J (hJ.bS,S2,bW)=J (f,S',n'):=a7
  ext a7
  show k1 U2 br lT de
def ak9{c:Yd}{body:O Yf}{fZ:eX}{b:bw}{pos:Yh}(ax:X.cu=λ_ _=>Ym)(aN:ST X L c fZ)(aq:ho X L body b):gj X L (.While c body [] pos)<|wZ fZ b:=by
 intro B S n f S' n' hd ae s U H Lk I ⟨R,k⟩;let aF:vT Z3 X.A X.I X.cu:=by rw[ax];show PassesOwn.never
 let lk:jZ X body (λLk U H=>∃S n f S' n',b S n=J (f,S',n')/\wh X.K B L S n f S' n' Lk U H):=λae s U H Lk I h=>by let(S,n,f,S',n',e,h):=h;show aq B S n f S' n' e ae s U H Lk I h
 let agf:m2 X c (λU H Q=>∃S n b n',fZ S n=J (b,n')/\wk X.K B L S n b n' U H Q):=λae s U H Q I h=>by let(S,n,b,n',e,h):=h;show aN B S n b n' e ae s U H Q I h
 show akS aF agf lk ae s U H Lk I {λm U' ak=>eu H ak/\∃Si kn,df X.K B L Si kn U' ak/\lO fZ b m Si kn=J (f,S',n'),{100000,.refl _,S,n,R,hd},?_};rintro m U2 br ⟨lT,S2,bW,de,a7⟩;cases m with
 |zero=>ext a7
 |succ m =>
  let((t,hH),bM,d9):=b5 (show(fZ S2 bW).bind _=_ from a7);show{S2,bW,t,hH,bM,de,λdr cY kp=>?_};let mh:=de.mono cY kp;let k8:eu H dr:=lT.trans<|cY.bU de.aJ;cases t with
  |false =>
   let d9:J (hJ.bS,S2,hH)=J (f,S',n'):=d9
   ext d9
   show Et<|k U2 dr k8 mh
  |true =>
   let((f4,S4,gW),fV,fC):=b5 (show(b S2 hH).bind _=_ from d9);show Eu {λU' ak=>eu H ak/\df X.K B L S4 gW U' ak/\lO fZ b m S4 gW=J (f,S',n'),λU' ak ⟨cT,da,gM⟩=>{m,mS _,cT,S4,gW,da,gM},S2,hH,f4,S4,gW,fV,mh,?_};cases f4 with
   |bS=>show λU' eG cT da=>{k8.trans cT,da,fC}
   |eI=>show λU' eG cT da=>{k8.trans cT,da,fC}
   |e1 =>
    let fC:J (hJ.bS,S4,gW)=J (f,S',n'):=fC
    ext fC
    show λU' eG cT da=>k U' eG (k8.trans cT) da
   |aZ t ko =>
    let fC:J (hJ.aZ t ko,S4,gW)=J (f,S',n'):=fC
    ext fC
    show λv eG cT da gM tW=>k v eG (k8.trans cT) da gM tW
def sq(X:bL)(L:X7)(ifs:O Yd)(d:eX):Prop:=∀B S n b n',d S n=J (b,n')->wi X ifs (wk X.K B L S n b n')
def ajm:sq X L [] yes:=by
 intro B S n b n' hd ae s U H Q I ⟨R,k⟩
 ext hd
 show ahp ae s U H Q I<|k H (.refl _ _) R.aJ
def ajn{c:Yd}{d:eX}(h:ST X L c d):sq X L [c] d:=λB S n b n' hd=>ahq<|h B S n b n' hd
def xa{i:Y}(h:(ck l S)[i]?=J (J p)):∃j,l[i]?=J (J j)/\S[j]?=J (J p):=by
 delta ck at h;rw[hN]at h;cases e:l[i]? with
 |none=>rw[e]at h;ext h
 |some o =>
  rw[e]at h;cases o with
  |none=>ext h
  |some j =>
   show{j,D,?_};let h:(S[j]?).join=J p:=Yt h;cases q:S[j]? with
   |none=>rw[q]at h;ext h
   |some ee=>rw[q]at h;rw[show ee=J p from h]
def HP{i j:Y}(h:l[i]?=J (J j))(e:U[j]?=J (J v)):(s8 l U)[i]?=J (J v):=by delta s8;rw[hN,h];show J ((U[j]?).join)=_;rw[e];rfl
def df.src{K:Yo}{B:aI}{S:bA}{n:Y}{U:St}{H:aI}{l:O<|X8 Y}(R:df K B L S n U H)(inj:∀(i qr j:Y),l[i]?=J (J j)->l[qr]?=J (J j)->i=qr):df K B L (ck l S) n (s8 l U) H:=by
 show{R.ext,R.aJ,R.j4,by delta ck s8;rw[cj,cj],λi t e=>?_,λi t e=>?_,λi t e=>?_,λi t e=>?_,λi qr t t' a e bH s s'=>?_}
 .let(j,af,ao):=xa e;let(v,aR,a4):=R.ah j t ao;show{v,HP af aR,a4}
 .let(j,af,ao):=xa e;let(v,aR,a4):=R.cV j t ao;show{v,HP af aR,a4}
 .let(j,af,ao):=xa e;let(v,aR,a4):=R.az j t ao;show{v,HP af aR,a4}
 .let(j,af,ao):=xa e;show R.og j t ao
 .let(j,af,ao):=xa e;let(qq,mB,pK):=xa bH;let(k,k1,k2):=Hy s;let(gD,Nn,aaa):=Hy s';rw[af]at k1;ext k1;rw[mB]at Nn;ext Nn;obtain rfl:=R.nt j qq t t' a ao pK k2 aaa;show inj i qr j af mB
def df.amS{K:Yo}{B:aI}{S:bA}{n:Y}{U:St}{H:aI}{Lk:X7}{Fa:O V}{o:h4}(R:df K B L S n U H)(hT:H Lk=J (.aj Fa))(dB:B Lk=C)(bN:∀(j:Y) (t:T),S[j]?=J (J (t,.az))->U[j]?≠J (J<|.ref Lk)):df K B L S n U<|cO H Lk o:=by
 let bU:eu H<|cO H Lk o:=λa=>{λaa q=>by rw[ea<|by rintro rfl;rw[hT]at q;ext q];show q,λ_ _ q=>by rw[ea<|by rintro rfl;rw[hT]at q;ext q];show q}
 show{R.ext.put dB,by show cO H Lk o L=_;rw[ea (R.tg dB).symm];show R.aJ,R.j4,R.len,λi t e=>let ⟨v,af,ao⟩:=R.ah i t e;{v,af,aH.mono bU _ _ ao},R.cV,λi t e=>?_,R.og,R.nt};let(a,af,ao,a6):=R.az i t e;let na:a≠Lk:=by rintro rfl;show bN i t e af
 show{a,af,ao,?_}
 induction t using T.casesOn with
 |aj xs=>let(aa,cT,da):=a6;show{aa,by rw[ea na];show cT,bJ.mono bU _ _ da}
 |a3 au=>let(aa,cT,da):=a6;show{aa,by rw[ea na];show cT,cG.mono bU _ _ da}
 |eh ks=>let(aa,cT,da):=a6;show{aa,by rw[ea na];show cT,da}
 |_=>show a6.elim
def lp.inj{scope:ju}{N':O Ya}{e9:O<|X8 Y}(bc:lp X scope N' e9)(bN:N'.Nodup):∀(i qr j:Y),e9[i]?=J (J j)->e9[qr]?=J (J j)->i=qr:=λi qr j h h'=>by let(x,aR,a4,_):=bc.src i j h;let(nc,HQ,CT,_):=bc.src qr j h';rw[a4]at CT;ext CT;show GS bN aR HQ
def Gp(X:bL)(B:aI)(L:X7)(S:bA)(n:Y)(aD:O T)(n':Y):TI:=λU H R=>df X.K B L S n U H/\∀dg ak,dc L H ak->cR L n' ak->(∀eG pN,cR L pN eG->dc L ak eG->p5 L dg eG aD)->R dg ak
def yN(X:bL)(B:aI)(L:X7)(c:eX):TT:=λU H Q=>∃S n b n',c S n=J (b,n')/\wk X.K B L S n b n' U H Q
def yO(X:bL)(B:aI)(L:X7)(e:bK):TE:=λU H Q=>∃S n t m n',cg e S n=J (t,m,n')/\qn X.K B L S n t m n' U H Q
def Np{n aW bW:Y}(bc:lp X scope N' e9)(bN:N'.Nodup)(R:df X.K B L S n U H)(a7:j1 put c e aD (ck e9 S) aW []=J (out,bW))
  (k:∀v ak,dc L H ak->cR L bW ak->Val X.K B L H ak (.aj out) .az v->Q v ak):EO (Gp X B L S n aD aW) e9 (BW X L put) (yN X B L c) (yO X B L e) U H Q:=by
 show{R,λdg H1 x1 dI it Lk hT=>?_};let bt:=R.mono x1 dI;let LH:Lk≠L:=bt.aJ.qb hT;show{λi m Fa U' ak=>m=aD.H-i/\i<=aD.H/\ak Lk=J (.aj Fa)/\dc L H1 ak/\∃Si kn as,df X.K B L Si kn U' ak/\(∀(j:Y) (t:T),Si[j]?=J (J (t,bk.az))->U'[j]?≠J (J<|V.ref Lk))/\bJ L ak as Fa/\j1 put c e (aD.drop i) Si kn as=J (out,bW),{aD.H,by simp,f9 _,eS,.new hT,ck e9 S,aW,[],(bt.src<|bc.inj bN).mono (.new hT) (bt.aJ.new hT),Nh (bt.src<|bc.inj bN) hT,.nil,by simpa using a7},?_};rintro i m Fa U2 br ⟨rfl,jH,uI,x2,S2,hH,as,de,aab,rZ,d9⟩;let at2:=it br hH de.aJ x2 i;by_cases dp:i<aD.H
 .right;let(go,wq):=at2.1 aD[i] (by simp[dp]);let yM:aD.drop i=aD[i]::aD.drop (i+1):=oP dp;rw[yM]at d9;let(S3,fV,fC):=b5 (show(put aD[i] S2).bind _=_ from d9);let((b,gW),mi,nd):=b5 fC;show{go,λs9 U' ak=>ak Lk=J (.aj s9)/\dc L H1 ak/\∃Si kn CU,df X.K B L Si kn U' ak/\(∀(j:Y) (t:T),Si[j]?=J (J (t,bk.az))->U'[j]?≠J (J<|V.ref Lk))/\bJ L ak CU s9/\j1 put c e (aD.drop<|i+1) Si kn CU=J (out,bW),λs9 U' ak ⟨cT,da,Si,kn,CU,gM,UM,tW,tX⟩=>{aD.H-(i+1),by lia,D,dp,cT,da,Si,kn,CU,gM,UM,tW,tX},λx dr tV=>?_};let(cu,n5,xr):=wq x dr tV;show{B,S2,hH,aD[i],S3,de.mono cu<|n5 hH de.aJ,xr,fV,λU3 mh aac=>{S3,hH,b,gW,mi,mh,λpg x4 lI=>?_}};let Gq:=mh.mono x4 lI;let HR:∀(j:Y) (t:T),S3[j]?=J (J (t,bk.az))->U3[j]?≠J (J<|V.ref Lk):=λj t q ee=>let ⟨qq,t',af,ao⟩:=aac j t Lk q ee;aab qq t' af ao
  let CV:dc L br pg:=cu.trans x4;cases b with
  |false =>
   let nd:j1 put c e (aD.drop<|i+1) S3 gW as=J (out,bW):=nd;show Et {CV.to Lk _ uI LH,x2.trans CV,S3,gW,as,Gq,HR,bJ.mono (CV.bU de.aJ) _ _ rZ,nd}
  |true =>
   let((mj,am2,r0),sm,zI):=b5 (show(cg e S3 gW).bind _=_ from nd);obtain rfl:=w8 sm;let zI:(if as.H<bl then j1 put c e (aD.drop<|i+1) S3 r0 (as++[mj]) else C)=J (out,bW):=zI;split at zI
   .rename_i aq;show Eu {S3,gW,mj,.ah,r0,sm,Gq,λv i4 e5 lE tX=>?_};let HS:=CV.trans e5;let CW:i4 Lk=J (.aj Fa):=HS.to Lk _ uI LH;let UN:=Gq.mono e5 lE;let bU:eu i4<|cO i4 Lk<|.aj<|Fa++[v]:=λa=>{λaa q=>by rw[ea<|by rintro rfl;rw[CW]at q;ext q];show q,λ_ _ q=>by rw[ea<|by rintro rfl;rw[CW]at q;ext q];show q}
    let aad:B Lk=C:=R.ext.free R.aJ<|x1.free dI hT;show{CW,by rw[<-rZ.H];show zG aq,eS,(x2.trans HS).put hT,S3,r0,as++[mj],?_,HR,(bJ.mono bU _ _<|bJ.mono (HS.bU de.aJ) _ _ rZ).append (.cons (aH.mono bU _ _ tX) .nil),zI}
    .show UN.amS CW aad HR
   .ext zI
 .left;let je:aD.H<=i:=g4 dp;show{at2.2 je,?_};rw[vt je]at d9;let d9:J (as,hH)=J (out,bW):=d9
  ext d9
  show k _ br (x1.trans x2) de.aJ {Lk,D,x1.free dI hT,Fa,uI,rZ}
def HT{elt iter:Yd}{ifs:O Yd}{scope:ju}{pos:Yh}{N':O Ya}{e9:O<|X8 Y}{d:hU}{put:T->bA->X8 bA}{c:eX}{e:bK}(aN:X.calm=Y0)(bc:lp X scope N' e9)(bN:N'.Nodup)(hi:qY X L dj iter d)
  (bQ:∀cl bc cH du fp,rY (gp X N' scope cl bc cH du fp) L dj put) (cE:∀cl bc cH du fp,sq (gp X N' scope cl bc cH du fp) L ifs c) (he:∀cl bc cH du fp,bI (gp X N' scope cl bc cH du fp) L elt e)
  (aM:X9 (∀x,lA iter X.I x=pure x) qx):bI X L (.ListComp elt [{dj,iter,ifs,0}] scope pos)<|er d (ck e9) put c e:=by
 intro B S n t m n' hd ae s U H Q I ⟨R,k⟩;let((aD,aW),aA,av):=b5 hd;let((out,bW),a7,bM):=dm av;cases bM;show ai8 aN bc (hi B S n aD aW aA) (g:=BW X L put) (tt:=yN X B L c) (te:=yO X B L e) (λcl bc cH du fp=>bQ cl bc cH du fp) (λcl bc cH du fp ae s U H Q I h=>?_) (λcl bc cH du fp ae s U H Q I h=>?_) aM ae s U H Q I<|Np bc bN R a7 k
 .let(S,n,b,n',e,h):=h;show cE cl bc cH du fp B S n b n' e ae s U H Q I h
 .let(S,n,t,m,n',bH,h):=h;show uF (he cl bc cH du fp) B S n t m n' bH ae s U H Q I h
def aae(i:Y){y:Ya}{elt iter:Yd}{ifs:O Yd}{scope:ju}{pos vj py:Yh}{N':O Ya}{e9:O<|X8 Y}{d:hU}{put:T->bA->X8 bA}{c:eX}{e:bK}(aN:X.calm=Y0)(dA:X.N.Nodup)(bc:lp X scope N' e9)(bN:N'.Nodup)(hi:qY X L dj iter d)
  (bQ:∀cl bc cH du fp,rY (gp X N' scope cl bc cH du fp) L dj put) (cE:∀cl bc cH du fp,sq (gp X N' scope cl bc cH du fp) L ifs c) (he:∀cl bc cH du fp,bI (gp X N' scope cl bc cH du fp) L elt e)
  (fD:X9 (X.N[i]?=J y) bo) (aP:X9 (X.env.scope.names.lookup y=J .local) bo) (uE:X9 (nW (.ListComp elt [{dj,iter,ifs,0}] scope pos) (J<|.Name y py) vj.line X.I=pure Y0) bo) (aM:X9 (∀x,lA iter X.I x=pure x) qx) :
  gj X L (.Assign [.Name y py] (.ListComp elt [{dj,iter,ifs,0}] scope pos) vj) (c2 i<|er d (ck e9) put c e):=by
 intro B S n f S' n' hd ae s U H Lk I ⟨R,k⟩;let((t,m,n0),eA,aaf):=b5 hd;let((aD,aW),aA,av):=b5 eA;let((out,bW),a7,bM):=dm av;cases bM;cases aaf;show ai9 aN dA fD aP bc (hi B S n aD aW aA) (g:=BW X L put) (tt:=yN X B L c) (te:=yO X B L e) (λcl bc cH du fp=>bQ cl bc cH du fp) (λcl bc cH du fp ae s U H Q I h=>?_) (λcl bc cH du fp ae s U H Q I h=>?_) uE aM ae s U H Lk I (Np bc bN R a7 λv ak x y z=>k _ ak (x.bU R.aJ)<|R.store x y z D)
 .let(S,n,b,n',e,h):=h;show cE cl bc cH du fp B S n b n' e ae s U H Q I h
 .let(S,n,t,m,n',bH,h):=h;show uF (he cl bc cH du fp) B S n t m n' bH ae s U H Q I h
def ajo(i:Y){st:Yf}{d:bw}(h:gj X L st d):gj X L st<|ek i d:=by
 intro B S n f S' n' bh;let key:ek i d S n=d S n\/ek i d S n=fg i d S n:=by
  delta ek fg;cases S[i]? with
  |none=>show .inl D
  |some o =>
   cases o with
   |none=>show .inl D
   |some p =>
    let(t,m):=p
    ext t<;>ext m<;>first|show .inl D|show .inr D
 rcases key with e|e
 .show h B S n f S' n'<|e▸bh
 .show Tz i h B S n f S' n'<|e▸bh
theorem HU{K:Yo}{H:aI}:∀{aD:O (T×Yc)} {aa:O V},Args K L H aD aa->∀(i:Y) (t:T) (b:Yc),aD[i]?=J (t,b)->∃v,aa[i]?=J v/\(b=Y0->aH L H t v)/\eb K L H t v
 |_,_,.nil,_,_,_,e=>by simp at e
 |_,_,.cons af ao _,0,_,_,e=>by simp at e;let(rfl,rfl):=e;show{_,D,af,ao}
 |_,_,.cons _ _ r,i+1,t,b,e=>by let(v,aR,a4):=HU r i t b (by simpa using e);show{v,by simpa using aR,a4}
def Nq{K:Yo}{H:aI}{N:O Ya}{aD:O<|T×Yc}{aa:O V}{n:Y}(a:Args K L H aD aa)(aJ:cR L n H) :
  df K H L (aD.map (λt=>J (t.1,if t.2 then bk.ah else bk.cV))++Yj (N.H-aD.H) C) n (start N aa) H:=by
 let aC:=a.H;let get:∀(i:Y) (p:T×bk),(aD.map (λt=>J (t.1,if t.2 then bk.ah else bk.cV))++Yj (N.H-aD.H) C)[i]?=J (J p)->∃b,aD[i]?=J (p.1,b)/\p.2=(if b then bk.ah else bk.cV):=λi p e=>by
  by_cases h:i<aD.H
  .rw[xX (by simpa using h),hN]at e;cases q:aD[i]? with
   |none=>rw[q]at e;ext e
   |some t=>rw[q]at e;ext e;show{(t.2),D,D}
  .rw[Ba (by simpa using h),xY]at e;split at e<;>ext e
 let val:∀(i:Y) (v:V),aa[i]?=J v->(start N aa)[i]?=J (J v):=λi v e=>by let h:i<aa.H:=(bv.mp e).1;delta start;rw[xX (by simpa using h),hN,e];rfl
 show{.refl _ _,aJ,{(n),aJ},by delta start;rw[hM,hM,cj,cj,mO,mO,aC],λi t e=>?_,λi t e=>?_,λi t e=>?_,λi t e=>?_,λi j t t' a e bH=>?_}
 .let(b,aR,a4):=get i _ e;let(v,af,ao,a6):=HU a i t b aR;cases b with
  |true=>show{v,val i v af,ao D}
  |false=>ext a4
 .let(b,aR,a4):=get i _ e;let(v,af,ao,a6):=HU a i t b aR;show{v,val i v af,a6}
 .let(b,aR,a4):=get i _ e;ext b<;>ext a4
 .let(b,aR,a4):=get i _ e;ext b<;>ext a4
 .let(b,aR,a4):=get i _ e;ext b<;>ext a4
def agg{P:di}{w:cL}{K:Yo}{bj:Ya->X8 ay}{base:Yg}{x qual:Ya}{st:Yf}{f:X7}{fd:i2}{N ps:O Ya}{lv:Y}{b:bw}(F:qN K x qual st f fd)(cZ:mM N ps<|e2 st)
  (lk:∀(dw:ay) (A:dz) (cP:O Env) (s:aL) (H:aI) (E:h7),fb lv (A.deeper<|jv qual (e2 st) s.L f dw)->ho (ka j0 P w K bj base N qual (e2 st) f dw A cP s H E).nj L (iB st) b):j9 P w K bj base j0 (lv+1) f fd ps<|w7 K L ps.H<|dv N.H b:=by
 show F.ok cZ (λaa H Q E h=>h.1) λdw A cP s H aa Q E hr h=>?_;let(aC,aD,n,t,m,n',a,aJ,e,k):=h;let((cM,S',aW),aA,av):=b5 e;show{_,lk dw A cP s H E hr H _ n cM S' aW aA,Nq a aJ,?_};cases cM with
 |aZ t0 m0=>ext av;show λv ak _ x y z=>k v ak x y z
 |bS=>ext av;show λU' ak _ R=>k .bR ak R.ext R.aJ (by show aH L ak .bR _;rw[aH])
 |e1=>ext av
 |eI=>ext av
end
section
variable {X:bL}{L:X7}
def lU{K:Yo}{H:aI}{a b:T}{aa:O V}(r:ru K L H [a,b] aa):∃v w,aa=[v,w]/\eb K L H a v/\eb K L H b w:=by
 cases r with
 |cons bp b8=>cases b8 with
  |cons b8 hI=>ext hI;show{_,_,D,bp,b8}
def hL{K:Yo}{H:aI}{a:T}{aa:O V}(r:ru K L H [a] aa):∃v,aa=[v]/\eb K L H a v:=by
 cases r with
 |cons bp b8=>ext b8;show{_,D,bp}
def xb{f:ay->ay->Sem ay}{bc:X6->X6->Yc}{g:X6->X6->T}{Gr:X6->X6->V}{r:de}(aV:jd X f r)(hr:∀a b H Q,bc a b=Y0->Q (Gr a b) H->r (.int a) (.int b) H Q)(bQ:∀a b H,aH L H (g a b)<|Gr a b):ff X L (two f)<|fW bc g:=by
 intro B ae s U H aa us aD n t m Q I bb aZ aJ e k;have⟨a,b,q0,Gs,ef,em⟩:∃a b,aD=[.int a,.int b]/\bc a b=Y0/\t=g a b/\m=.ah:=by
  clear k aZ bb
  induction aD using Yn with
  |nil=>ext e
  |cons x r=>induction x using T.casesOn with
   |int a=>induction r using Yn with
    |nil=>ext e
    |cons y r=>induction y using T.casesOn with
     |int b=>induction r using Yn with
      |nil =>
       let e:(if bc a b then J (g a b,bk.ah) else C)=J (t,m):=e;split at e
       .rename_i h;ext e;show{(a),b,D,h,D,D}
       .ext e
      |cons _ _=>ext e
     |_=>ext e
   |_=>ext e
 subst q0 ef em;let(v,w,rfl,bp,b8):=lU aZ;obtain rfl:=iT bp;obtain rfl:=iT b8;let(fR,gw,rfl,aR,a4):=bb.two;show aV ae s U H _ _ fR gw Q I aR a4<|hr a b H Q Gs<|k _ H (.refl _ _) aJ<|bQ a b H
def ahH:ff X L (two<|mX .Sub) fU:=xb ag5 (λa b H Q _ q=>{(a),b,D,D,q}) λa b H=>by rw[aH]
def ahI:ff X L (two<|mX .Mod) sX:=xb ag7 (λa b H Q h q=>{a,b,D,D,by simpa using h,q}) λa b H=>by rw[aH]
def ahJ:ff X L (two<|mX .FloorDiv) xN:=xb aiV (λa b H Q h q=>⟨a,b,D,D,by
 erw[gS,YZ]at h
 show{h.1,by let:=h.2;lia},q⟩) λa b H=>by rw[aH]
def CY{p:X6->X6->Yc}(rule:∀(i j:X6) (t u:Tok) (Q:ay->aL->Prop) (s:aL),Q (.bool<|p i j) s->ba Z3 X.A (gJ op (.int i t)<|.int j u) Q X.cu s):jd X (gJ op) (λx y H Q=>∃i j,x=.int i/\y=.int j/\Q (.a5<|p i j) H):=by intro ae s U H x y v u Q I cJ d8 h;let(i,j,rfl,rfl,q):=h;let(t,rfl):=cJ;let(t',rfl):=d8;show rule i j t t' _ s {.a5 _,H,I,D,q}
def agh:ff X L (two<|gJ .Lt) hX:=xb (CY λ_ _ _ _ _ _ h=>lt_int h) (λa b H Q _ q=>{(a),b,D,D,q}) λa b H=>by rw[aH]
def SI:ff X L (two<|gJ .Gt) jF:=xb (CY λ_ _ _ _ _ _ h=>gt_int h) (λa b H Q _ q=>{(a),b,D,D,q}) λa b H=>by rw[aH]
def agi:ff X L (two<|gJ .GtE) qP:=xb (CY λ_ _ _ _ _ _ h=>ge_int h) (λa b H Q _ q=>{(a),b,D,D,q}) λa b H=>by rw[aH]
def ahK{e:Yd}{d:bK}{j pos pos'}(h:bI X L e d):bI X L (.Compare e [.Is] [.Constant .none j pos'] pos)<|aB sY<|ag d aw:=by
 intro B S n t m n' hd ae s U H Q I ⟨R,k⟩;let((aD,aW),aA,av):=b5 hd;let((t0,m0,n0),f1,f2):=b5 aA
 ext f2
 ext av
 show agW (Th<|h B S n t0 m0 _ f1) (by rfl) ae s U H Q I ⟨R,λv ak x y z=>k _ ak x y ?_⟩;let bt:=R.mono x y;let aZ:=z.root bt R.aJ;let:decide (v=.bR)=zp t0:=by
  induction t0 using T.casesOn with
  |bR=>let aZ:aH L ak .bR v:=aZ;rw[aH]at aZ;subst aZ;rfl
  |a5 b=>let aZ:aH L ak (.a5 b) v:=aZ;rw[aH]at aZ;subst aZ;rfl
  |int b=>let aZ:aH L ak (.int b) v:=aZ;rw[aH]at aZ;subst aZ;rfl
  |str b=>let aZ:aH L ak (.str b) v:=aZ;rw[aH]at aZ;subst aZ;rfl
  |aE b=>let aZ:aH L ak (.aE b) v:=aZ;rw[aH]at aZ;let(_,_,rfl,_):=aZ;rfl
  |dQ=>let aZ:aH L ak .dQ v:=aZ;rw[aH]at aZ;subst aZ;rfl
  |b2 b=>let aZ:aH L ak (.b2 b) v:=aZ;rw[aH]at aZ;subst aZ;rfl
  |aj b=>let(_,_,rfl,_):=aZ;rfl
  |a3 b=>let(_,_,rfl,_):=aZ;rfl
  |eh b=>let(_,_,rfl,_):=aZ;rfl
 rw[this];show aH L ak (.a5 _) _;rw[aH]
abbrev tY(p:X6->X6->Yc):de:=λx y H Q=>∃i j,x=.int i/\y=.int j/\Q (.a5<|p i j) H
abbrev tZ(p:X6->X6->Yc):d2:=fW (λ_ _=>Y0) λa b=>.a5<|p a b
def CZ{p:X6->X6->Yc}{n:Y}(h:tZ p n [a,b]=J (t,m)):∃i j,a=.int i/\b=.int j/\t=.a5 (p i j)/\m=.ah:=by
 match a,b,h with
 |.int i,.int j,h=>ext h;show{(i),j,D,D,D,D}
def Nr{dh cy:X6->X6->Yc}{n:Y}{n':Y}(hd:qR (tZ dh) (tZ cy) dC db fZ S n=J (t,m,n'))(R:df X.K B L S n U H)(k:∀v ak,dc L H ak->cR L n' ak->Val X.K B L H ak t m v->Q v ak) :
  G4 (tY dh) (tY cy) (λU H Q=>∃n t m n',dC S n=J (t,m,n')/\qn X.K B L S n t m n' U H Q) (λU H Q=>∃n t m n',db S n=J (t,m,n')/\qn X.K B L S n t m n' U H Q) (λU H Q=>∃n t m n',fZ S n=J (t,m,n')/\qn X.K B L S n t m n' U H Q) U H Q:=by
 let((ta,LG,na),aA,av):=b5 hd;let((cn,kV,nb),a7,bM):=b5 av;let((lH,UO),d9,fV):=b5 bM;let(i,j,rfl,rfl,rfl,rfl):=CZ d9;show{n,_,_,_,aA,R,λv1 H1 x1 dI cT=>{_,_,_,_,a7,R.mono x1 dI,λv2 br x2 iy da=>?_}};let bt:=R.mono x1 dI;let de:=bt.mono x2 iy;obtain rfl:=iT<|cT.root bt R.aJ;obtain rfl:=iT<|da.root de bt.aJ;show{i,j,D,D,dh i j,D,?_};let Nt:=x1.trans x2;cases aF:dh i j with
 |false =>
  rw[aF]at fV;let fV:J (T.a5 Y1,bk.ah,nb)=J (t,m,n'):=fV
  ext fV
  show Et (k _ br Nt iy<|by show aH L br (.a5 Y1) _;rw[aH])
 |true =>
  rw[aF]at fV;let((hR,Gg,Gu),fC,mi):=b5 (show(fZ S nb).bind _=_ from fV);let((UP,UQ),nd,sm):=dm mi;let(wt,qs,LI,rfl,rfl,rfl):=CZ nd
  ext LI
  cases sm;show Eu {_,_,_,_,fC,de,λwu dr cY kp gM=>?_};obtain rfl:=iT<|gM.root (de.mono cY kp) de.aJ;show{j,qs,D,D,k _ dr (Nt.trans cY) kp<|by show aH L dr (.a5 _) _;rw[aH]}
def xd{e:Yd}{d:bK}(h:bI X L e d)(B:aI)(S:bA):dH X e (λU H Q=>∃n t m n',d S n=J (t,m,n')/\qn X.K B L S n t m n' U H Q):=λae s U H Q I ⟨n,t,m,n',e,q⟩=>h B S n t m n' e ae s U H Q I q
def ala{a b c:Yd}{dC db fZ:bK}{fu hB:CmpOp}{dh cy:X6->X6->Yc}{pos:Yh}(af:jd X (gJ fu)<|tY dh)(ao:jd X (gJ hB)<|tY cy)(bx:bI X L a dC)(aq:bI X L b db)(aN:bI X L c fZ)
  (hm:X9 (lastMarks [fu,hB] [b,c]=Y1) az5._auto_1):bI X L (.Compare a [fu,hB] [b,c] pos)<|qR (tZ dh) (tZ cy) dC db fZ:=by
 intro B S n t m n' hd ae s U H Q I ⟨R,k⟩;show akT af ao (xd bx B S) (xd aq B S) (xd aN B S) hm ae s U H Q I<|Nr hd R k
def alb{a b c:Yd}{dC db fZ:bK}{fu hB:CmpOp}{dh cy:X6->X6->Yc}{pos:Yh}(af:jd X (gJ fu)<|tY dh)(ao:jd X (gJ hB)<|tY cy)(bx:bI X L a dC)(aq:bI X L b db)(aN:bI X L c fZ)
  (hm:X9 (lastMarks [fu,hB] [b,c]=Y1) az5._auto_1):ST X L (.Compare a [fu,hB] [b,c] pos)<|b7<|qR (tZ dh) (tZ cy) dC db fZ:=by
 intro B S n am3 n' hd ae s U H Q I ⟨R,k⟩;let((t,m,aW),aA,av):=b5 hd;let(jx,a7,bM):=dm av
 ext bM
 show akU af ao (xd bx B S) (xd aq B S) (xd aN B S) hm ae s U H Q I (Nr aA R λv ak x y z=>?_);let aag:∃q,t=.a5 q:=by
  let((ta,LG,na),g1,g2):=b5 aA;let((cn,kV,nb),g3,gv):=b5 g2;let((lH,UO),m8,qt):=b5 gv;let(i,j,rfl,rfl,rfl,rfl):=CZ m8;cases aF:dh i j with
  |false =>
   rw[aF]at qt;let qt:J (T.a5 Y1,bk.ah,nb)=J (t,m,aW):=qt
   ext qt;show{_,D}
  |true =>
   rw[aF]at qt;let((hR,Gg,Gu),am4,UR):=b5 (show(fZ S nb).bind _=_ from qt);let((UP,UQ),US,aah):=dm UR;let(_,_,_,_,rfl,_):=CZ US
   ext aah;show{_,D}
 let(q,rfl):=aag
 ext a7
 let aZ:aH L ak (.a5 _) v:=(z.root (R.mono x y) R.aJ)
 rw[aH]at aZ;subst aZ;show{_,D,k ak x y}
def pO(h:H a=J (.aE aa))(r:bJ L H xs aa):aH L H (.aE xs)<|.ref a:=by rw[aH];show{(a),aa,D,h,r}
def jf{K:Yo}{H:aI}{xs:O T}{v:V}(r:eb K L H (.aE xs) v):∃a aa,v=.ref a/\H a=J (.aE aa)/\bJ L H xs aa:=by let r:aH L H (.aE xs) v:=r;rw[aH]at r;show r
end
end a9.bD
namespace a9.bD
open PySem PySem.Spec PyProof.Rows PySem.SeqAt
section
variable {X:bL}{L:X7}
theorem HV(ez:∀t t' v,P t=Y0->P t'=Y0->aH L H t v->aH L H t' v->t=t'):∀(xs aQ:O T) (aa:O V),xs.all P=Y0->aQ.all P=Y0->bJ L H xs aa->bJ L H aQ aa->xs=aQ
 |[],aQ,aa,p,fv,r,bY=>by
  obtain rfl:=ig r;cases aQ with
  |nil=>rfl
  |cons y aQ=>let(_,_,e,_):=gH bY;ext e
 |x::xs,aQ,aa,p,fv,r,bY=>by
  let(v,w,rfl,aR,a4):=gH r;cases aQ with
  |nil=>cases ig bY
  |cons y aQ =>
   let(h6,eM,e,HQ,CT):=gH bY;cases e;rw[ma,gS]at p fv;rw[ez x y v p.1 fv.1 aR HQ,HV ez xs aQ w p.2 fv.2 a4 CT]
def Nu(bX:∀a,v≠.ref a)(r:aH L H t v)(bY:aH L H t' v):t=t':=by
 ext t<;>rw[aH]at r<;>first|(show Yz r)|(subst r;ext t'<;>rw[aH]at bY<;>first|rfl|(show Yz bY)|(ext bY;rfl)|(ext bY;done)|(let(_,_,e,_):=bY;ext e;done)|(let(_,_,_,e,_):=bY;ext e;done))|(let(_,_,e,_):=r;show Yi e<|bX _)|(let(_,_,_,e,_):=r;show Yi e<|bX _)|(show Yi r<|bX _)
def ajp:∀(k:Y) (t t':T) (v:V),dJ k t=Y0->dJ k t'=Y0->aH L H t v->aH L H t' v->t=t':=by
 intro k
 induction k with
 |zero =>
  intro t t' v p fv r bY;show Nu (λa e=>?_) r bY;subst e
  ext t<;>first|(ext p;done)|(rw[aH]at r;ext r;done)
 |succ k aT =>
  intro t t' v p fv r bY
  induction t using T.casesOn with
  |aE xs =>
   rw[aH]at r;let(a,aa,rfl,e,q):=r
   induction t' using T.casesOn with
   |aE aQ =>
    rw[aH]at bY;let(gV,iU,cf,bH,ee):=bY
    ext cf
    rw[e]at bH;ext bH;rw[HV (P:=dJ k) (aT) xs aQ aa p fv q ee]
   |aj aQ=>rw[aH]at bY;let(gV,o,iU,cf,bH,_):=bY;ext cf;rw[e]at bH;ext bH
   |a3 aQ=>ext fv
   |dQ=>ext fv
   |b2 _=>ext fv
   |eh _=>ext fv
   |_=>rw[aH]at bY;ext bY
  |aj xs =>
   rw[aH]at r;let(a,o,aa,rfl,e,q):=r
   induction t' using T.casesOn with
   |aj aQ =>
    rw[aH]at bY;let(gV,cW,iU,cf,bH,ee):=bY
    ext cf
    rw[e]at bH;ext bH;rw[HV (P:=dJ k) (aT) xs aQ aa p fv q ee]
   |aE aQ=>rw[aH]at bY;let(gV,iU,cf,bH,_):=bY;ext cf;rw[e]at bH;ext bH
   |a3 aQ=>ext fv
   |dQ=>ext fv
   |b2 _=>ext fv
   |eh _=>ext fv
   |_=>rw[aH]at bY;ext bY
  |a3 _=>ext p
  |dQ=>ext p
  |b2 _=>ext p
  |eh _=>ext p
  |_ =>
   show Nu (λa e=>?_) r bY;subst e;rw[aH]at r;ext r
theorem HW(ez:∀t,P t=Y0->ey t t=Y0):∀(xs:O T),xs.all P=Y0->jn xs xs=Y0
 |[],_=>by rw[jn]
 |x::xs,p=>by rw[ma,gS]at p;rw[jn,ez x p.1,HW ez xs p.2];rfl
def alc:∀(k:Y) (t:T),dJ k t=Y0->ey t t=Y0:=by
 intro k
 induction k with
 |zero=>intro t p;ext t<;>first|(ext p;done)|(rw[ey];done)|(rw[ey];simp)
 |succ k aT =>
  intro t p
  induction t using T.casesOn with
  |aE xs=>rw[ey];show HW aT xs p
  |aj xs=>rw[ey];show HW aT xs p
  |a3 _=>ext p
  |dQ=>ext p
  |b2 _=>ext p
  |eh _=>ext p
  |bR=>rw[ey]
  |_=>rw[ey];simp
theorem HX:∀(xs aQ:O T),xs.H≠aQ.H->jn xs aQ=Y1
 |[],[],h=>Yi D h
 |[],_::_,_=>by simp[jn]
 |_::_,[],_=>by simp[jn]
 |x::xs,y::aQ,h=>by rw[jn,HX xs aQ (λe=>h<|by rw[d4,d4,e]),FE]
theorem HY:∀(xs aQ:O T),xs.H=aQ.H->jn xs aQ=(Yr xs.H).all λj=>ey (xs.getD j .bR) (aQ.getD j .bR)
 |[],[],_=>by rw[jn];rfl
 |[],_::_,h=>by ext h
 |_::_,[],h=>by ext h
 |x::xs,y::aQ,h=>by rw[jn,HY xs aQ (by simpa using h),d4,E6,ma,vB];rfl
def HZ(r:bJ L H xs aa)(bb:cA aa us){j:Y}(h:j<us.H):∃v,aH L H (xs.getD j .bR) v/\cU v us[j]:=by
 let af:j<aa.H:=by rw[bb.H];show h
 let ao:j<xs.H:=by rw[r.H];show af
 let(v,aA,av):=r.get (i:=j) (x:=xs[j]) (by simp[ao]);let(u,a7,bM):=bb.get aA;let:us[j]=u:=by let:=gB h;rw[this]at a7;show Yt a7
 show{v,?_,this▸bM};rw[iu,gB ao];show av
inductive n6 (s:aL) (L:X7) (H:aI):T->ay->Prop
 |bR:n6 s L H .bR .none
 |a5 (b:Yc):n6 s L H (.a5 b)<|.bool b
 |int (i:X6) (t:Tok):n6 s L H (.int i)<|.int i t
 |str (x:Ya) (t:Tok):n6 s L H (.str x)<|.str x t
 |aE {xs:O T} {a:X7} {us:O ay} {aa:O V}:s.heap.IsTuple a us.D->bJ L H xs aa->cA aa us->n6 s L H (.aE xs) (.ref a)
 |aj {xs:O T} {a:X7} {us:O ay} {aa:O V}:s.heap.IsList a us.D->bJ L H xs aa->cA aa us->n6 s L H (.aj xs) (.ref a)
def xe{ae:O Z2}{s:aL}{U:St}{H:aI}{k:Y}{t:T}{v:V}{u:ay}(I:aO X ae U H s)(p:dJ k t=Y0)(r:eb X.K L H t v)(bb:cU v u):n6 s L H t u:=by
 induction t using T.casesOn with
 |bR=>let r:aH L H .bR v:=r;rw[aH]at r;subst r;ext bb;show .bR
 |a5 b=>let r:aH L H (.a5 b) v:=r;rw[aH]at r;subst r;ext bb;show .a5 b
 |int i=>let r:aH L H (.int i) v:=r;rw[aH]at r;subst r;let(t,rfl):=bb;show .int i t
 |str x=>let r:aH L H (.str x) v:=r;rw[aH]at r;subst r;let(t,rfl):=bb;show .str x t
 |aE xs =>
  let(a,aa,rfl,e,q):=jf r
  ext bb
  let(aX,bp,dh,_):=I.tuple<|eC.of e;show .aE dh q bp
 |aj xs =>
  let(a,aa,rfl,e,q):=r
  ext bb
  let(aX,bp,dh,_):=I.list e.gK;show .aj dh.isList q bp
 |a3 _=>ext k<;>ext p
 |dQ=>ext k<;>ext p
 |b2 _=>ext k<;>ext p
 |eh _=>ext k<;>ext p
def in1_units{A:dz}:A.in1.units=A.units+1:=rfl
def Sz{A:dz}{s:aL}{u e7:ay}{b c:Yc}(h:RcNeAt A s u e7 b)(e:b=c):RcNeAt A s u e7 c:=e▸h
def H0(L:X7)(H:aI)(A:dz)(s:aL)(t t':T)(u e7:ay):Prop:=RcAt A s u e7 (ey t t')/\RcNeAt A s u e7 (!ey t t')/\((∃v,aH L H t v/\cU v u)->(∃v,aH L H t' v/\cU v e7)->EqAt A s u e7 (ey t t'))
def eq3{b:Yc}(af:RcAt A s u e7 b)(ao:RcNeAt A s u e7<|!b)(a6:EqAt A s u e7 b)(e:ey t t'=b:=by first|rfl|rw[ey]):H0 L H A s t t' u e7:=by subst e;show⟨af,ao,λ_ _=>a6⟩
def SJ{ae:O Z2}{s:aL}{U:St}{H:aI}{n:Y}(I:aO X ae U H s)(aJ:cR L n H)(k:Y):∀(A:dz) (t t':T) (u e7:ay),A.units+k<fh->dJ k t=Y0->dJ k t'=Y0->n6 s L H t u->n6 s L H t' e7->H0 L H A s t t' u e7:=by
 induction k using Nat.strongRecOn with
 |_ k aT =>
 intro A t t' u e7 b1 p fv d d';let dt:A.units<fh:=gR (hF _ _) b1
 let refs:∀{a b:X7} {t t':T},dJ k t=Y0->dJ k t'=Y0->RcAt A s (.ref a) (.ref b) (ey t t')->RcNeAt A s (.ref a) (.ref b) (!ey t t')->H0 L H A s t t' (.ref a) (.ref b):=λ{a b t t'} p fv h h'=>⟨h,h',λ⟨v,bb,ev⟩ ⟨h6,aai,aaj⟩=>by
  by_cases uJ:a=b
  .subst uJ;obtain rfl:=ev.inj aaj;obtain rfl:=ajp k t t' v p fv bb aai;rw[alc k t p];show EqAt.same _
  .show .of_refs uJ h⟩
 let XZ:∀{xs aQ:O T} {us ws:O ay} {aa iU:O V} {gD:Y},k=gD+1->xs.all (dJ gD)=Y0->aQ.all (dJ gD)=Y0->bJ L H xs aa->cA aa us->bJ L H aQ iU->cA iU ws->∀j (af:j<us.D.O) (ao:j<ws.D.O),EqAt A.in1 s us.D[j] ws.D[j] (ey (xs.getD j .bR)<|aQ.getD j .bR):=λ{xs aQ us ws aa iU gD} qu dD py cJ r1 d8 pl j af ao=>by
  subst qu;let mB:j<us.H:=by simpa using af
  let pK:j<ws.H:=by simpa using ao
  let(v1,a1,bT):=HZ cJ r1 mB;let(v2,a2,cb):=HZ d8 pl pK;let g:∀{xs:O T},xs.all (dJ gD)=Y0->j<xs.H->dJ gD (xs.getD j .bR)=Y0:=λdD aC=>by rw[iu,gB aC];show hO.mp dD _<|l9 _
  let g1:=g dD (by rw[cJ.H,r1.H];show mB);let g2:=g py (by rw[d8.H,pl.H];show pK);let:=(aT gD (mS _) A.in1 _ _ _ _ (by rw[in1_units];lia) g1 g2 (xe I g1 (eb.A7 aJ a1) bT)<|xe I g2 (eb.A7 aJ a2) cb).2.2 {(v1),a1,bT} {(v2),a2,cb};simpa using this
 cases d with
 |bR =>
  cases d' with
  |bR=>show eq3 (RcAt.none_none) (RcNeAt.none_none)<|EqAt.same _
  |a5 b=>show eq3 (RcAt.none_bool b) (RcNeAt.none_bool b)<|EqAt.none_bool b
  |int b cn=>show eq3 (RcAt.none_int b cn) (RcNeAt.none_int b cn)<|EqAt.none_int b cn
  |str b cn=>show eq3 (RcAt.none_str b cn) (RcNeAt.none_str b cn)<|EqAt.none_str b cn
  |aE b4=>show eq3 (RcAt.none_tuple b4 dt) (RcNeAt.none_tuple b4 dt)<|EqAt.none_tuple b4 dt
  |aj b4=>show eq3 (RcAt.none_list b4 dt) (RcNeAt.none_list b4 dt)<|EqAt.none_list b4 dt
 |a5 a =>
  cases d' with
  |bR=>show eq3 (RcAt.bool_none a) (RcNeAt.bool_none a)<|EqAt.bool_none a
  |a5 b=>show eq3 (RcAt.bool_bool a b) (RcNeAt.bool_bool a b)<|EqAt.bool_bool a b
  |int b cn=>show eq3 (RcAt.bool_int a b cn) (RcNeAt.bool_int a b cn)<|EqAt.bool_int a b cn
  |str b cn=>show eq3 (RcAt.bool_str a b cn) (RcNeAt.bool_str a b cn)<|EqAt.bool_str a b cn
  |aE b4=>show eq3 (RcAt.bool_tuple a b4 dt) (RcNeAt.bool_tuple a b4 dt)<|EqAt.bool_tuple a b4 dt
  |aj b4=>show eq3 (RcAt.bool_list a b4 dt) (RcNeAt.bool_list a b4 dt)<|EqAt.bool_list a b4 dt
 |int a ta =>
  cases d' with
  |bR=>show eq3 (RcAt.int_none a ta) (RcNeAt.int_none a ta)<|EqAt.int_none a ta
  |a5 b=>show eq3 (RcAt.int_bool a ta b) (RcNeAt.int_bool a ta b)<|EqAt.int_bool a ta b
  |int b cn=>show eq3 (RcAt.int_int a ta b cn) (RcNeAt.int_int a ta b cn)<|EqAt.int_int a ta b cn
  |str b cn=>show eq3 (RcAt.int_str a ta b cn) (RcNeAt.int_str a ta b cn)<|EqAt.int_str a ta b cn
  |aE b4=>show eq3 (RcAt.int_tuple a ta b4 dt) (RcNeAt.int_tuple a ta b4 dt)<|EqAt.int_tuple a ta b4 dt
  |aj b4=>show eq3 (RcAt.int_list a ta b4 dt) (RcNeAt.int_list a ta b4 dt)<|EqAt.int_list a ta b4 dt
 |str a ta =>
  cases d' with
  |bR=>show eq3 (RcAt.str_none a ta) (RcNeAt.str_none a ta)<|EqAt.str_none a ta
  |a5 b=>show eq3 (RcAt.str_bool a ta b) (RcNeAt.str_bool a ta b)<|EqAt.str_bool a ta b
  |int b cn=>show eq3 (RcAt.str_int a ta b cn) (RcNeAt.str_int a ta b cn)<|EqAt.str_int a ta b cn
  |str b cn=>show eq3 (RcAt.str_str a ta b cn) (RcNeAt.str_str a ta b cn)<|EqAt.str_str a ta b cn
  |aE b4=>show eq3 (RcAt.str_tuple a ta b4 dt) (RcNeAt.str_tuple a ta b4 dt)<|EqAt.str_tuple a ta b4 dt
  |aj b4=>show eq3 (RcAt.str_list a ta b4 dt) (RcNeAt.str_list a ta b4 dt)<|EqAt.str_list a ta b4 dt
 |@aE xs a us aa b6 cJ r1 =>
  cases k with
  |zero=>ext p
  |succ k =>
  cases d' with
  |bR=>show eq3 (RcAt.tuple_none b6 dt) (RcNeAt.tuple_none b6 dt)<|EqAt.tuple_none b6 dt
  |a5 b=>show eq3 (RcAt.tuple_bool b b6 dt) (RcNeAt.tuple_bool b b6 dt)<|EqAt.tuple_bool b b6 dt
  |int b cn=>show eq3 (RcAt.tuple_int b cn b6 dt) (RcNeAt.tuple_int b cn b6 dt)<|EqAt.tuple_int b cn b6 dt
  |str b cn=>show eq3 (RcAt.tuple_str b cn b6 dt) (RcNeAt.tuple_str b cn b6 dt)<|EqAt.tuple_str b cn b6 dt
  |@aj aQ b ws iU b4 d8 pl=>show refs p fv (t:=.aE xs) (t':=.aj aQ) (RcAt.tuple_list b6 b4 dt)<|RcNeAt.tuple_list b6 b4 dt
  |@aE aQ b ws iU b4 d8 pl =>
   let ex:xs.H=us.H:=cJ.length.trans r1.H;let hx:aQ.H=ws.H:=d8.length.trans pl.H;let it:=XZ D p fv cJ r1 d8 pl;let e:((Yr<|min us.D.O ws.D.O).all (λj=>ey (xs.getD j .bR)<|aQ.getD j .bR)&&us.D.O==ws.D.O)=ey (.aE xs) (.aE aQ):=by
    rw[eL,eL,<-ex,<-hx,ey];by_cases aC:xs.H=aQ.H
    .rw[HY xs aQ aC,<-aC,Nat.min_self,K2,Bool.and_true]
    .rw[HX xs aQ aC,beq_eq_false_iff_ne.mpr aC,FE]
   let af:=RcAt.tuples (A:=A) b6 b4 dt it;let ao:=RcNeAt.tuples (A:=A) b6 b4 dt it;rw[e]at af ao;show refs p fv af ao
 |@aj xs a us aa b6 cJ r1 =>
  cases k with
  |zero=>ext p
  |succ k =>
  cases d' with
  |bR=>show eq3 (RcAt.list_none b6 dt) (RcNeAt.list_none b6 dt)<|EqAt.list_none b6 dt
  |a5 b=>show eq3 (RcAt.list_bool b b6 dt) (RcNeAt.list_bool b b6 dt)<|EqAt.list_bool b b6 dt
  |int b cn=>show eq3 (RcAt.list_int b cn b6 dt) (RcNeAt.list_int b cn b6 dt)<|EqAt.list_int b cn b6 dt
  |str b cn=>show eq3 (RcAt.list_str b cn b6 dt) (RcNeAt.list_str b cn b6 dt)<|EqAt.list_str b cn b6 dt
  |@aE aQ b ws iU b4 d8 pl=>show refs p fv (t:=.aj xs) (t':=.aE aQ) (RcAt.list_tuple b6 b4 dt)<|RcNeAt.list_tuple b6 b4 dt
  |@aj aQ b ws iU b4 d8 pl =>
   let ex:xs.H=us.H:=cJ.length.trans r1.H;let hx:aQ.H=ws.H:=d8.length.trans pl.H;by_cases aC:xs.H=aQ.H
   .let it:=XZ D p fv cJ r1 d8 pl;let aM:us.D.O=ws.D.O:=by rw[eL,eL,<-ex,<-hx,aC]
    let e:(Yr us.D.O).all (λj=>ey (xs.getD j .bR)<|aQ.getD j .bR)=ey (.aj xs) (.aj aQ):=by rw[eL,<-ex,ey,HY xs aQ aC]
    let af:=RcAt.lists (A:=A) b6 b4 aM dt it;let ao:=RcNeAt.lists (A:=A) b6 b4 aM dt it;rw[e]at af ao;show refs p fv af ao
   .let e:ey (.aj xs) (.aj aQ)=Y1:=by rw[ey,HX xs aQ aC]
    let aM:(us.D.O != ws.D.O)=Y0:=bne_iff_ne.mpr (by rw[eL,eL,<-ex,<-hx];show aC);show refs p fv (e▸RcAt.lists_lengths b6 b4 aM dt) (Sz (RcNeAt.lists_lengths b6 b4 aM dt)<|by rw[e];rfl)
def agj{ae:O Z2}{s:aL}{U:St}{H:aI}{n:Y}(I:aO X ae U H s)(aJ:cR L n H)(k:Y)(A:dz)(t t':T)(u e7:ay)(b1:A.units+(k+1)<fh)(p:dJ (k+1) t=Y0)(fv:dJ (k+1) t'=Y0)(d:n6 s L H t u)(d':n6 s L H t' e7):RcNeAt A s u e7 (!ey t t') :=
 (SJ I aJ (k+1) A t t' u e7 b1 p fv d d').2.1
def Nv{r:Yc}(h:nk a b=J r):(∃au,a=.a3 au/\b=.a3 []/\r=au.isEmpty)\/(dJ 6 a=Y0/\dJ 6 b=Y0/\r=ey a b):=by
 let gen:(if dJ 6 a&&dJ 6 b then J (ey a b) else C)=J r->(dJ 6 a=Y0/\dJ 6 b=Y0/\r=ey a b):=λh=>by
  split at h
  .rename_i q;rw[gS]at q
   ext h;show{(q.1),q.2,D}
  .ext h
 induction a using T.casesOn with
 |a3 au =>
  induction b using T.casesOn with
  |a3 ws =>
   let h:(if ws.isEmpty then J au.isEmpty else C)=J r:=h;cases ws with
   |nil=>ext h;show .inl {(au),D,D,D}
   |cons p q=>ext h
  |_=>show .inr<|gen h
 |_=>show .inr<|gen h
end
end a9.bD
namespace a9.bD
open PySem PySem.Spec PyProof.Rows
section
variable {X:bL}{L:X7}
def SK(b1:X.A.units+6<fh)(hd:∀(ae:O Z2) (s:aL) (U:St) (H:aI) (a b:X7) (ws:O (Key×V)) (Q:ay->aL->Prop),aO X ae U H s->hQ H a (.aS ws)->hQ H b (.aS [])->(∀s',aO X ae U H s'->Q (.bool ws.isEmpty) s')->ba Z3 X.A (gJ .Eq (.ref a)<|.ref b) Q X.cu s) :
  ff X L (two<|gJ .Eq) hY:=by
 intro B ae s U H aa us aD n t m Q I bb aZ aJ e k;have⟨a,b,r,q0,gL,ef,em⟩:∃a b r,aD=[a,b]/\nk a b=J r/\t=.a5 r/\m=.ah:=by
  match aD,e with
  |[a,b],e=>let(r,af,ao):=dm e;ext ao;show{(a),b,r,D,af,D,D}
 subst q0 ef em;let(v,w,rfl,bp,b8):=lU aZ;let(fR,gw,rfl,aR,a4):=bb.two;let fin:∀s',aO X ae U H s'->fH X ae U Q (.bool r) s':=λs' d1=>{.a5 r,H,d1,D,k _ H (.refl _ _) aJ<|by show aH L H (.a5 r) _;rw[aH]}
 rcases Nv gL with⟨au,rfl,rfl,rfl⟩|⟨p,fv,rfl⟩
 .let(a1,fs,rfl,_,aA,x1):=bp;let(a2,gC,rfl,_,av,x2):=b8
  ext aR;ext a4
  rw[cG]at x2;subst x2;let:fs.isEmpty=au.isEmpty:=by let:=cG.length x1;ext au<;>ext fs<;>first|rfl|(simp at this)
  show hd ae s U H a1 a2 fs _ I aA av λs' d1=>by rw[this];show fin s' d1
 .show(SJ I aJ 6 X.A a b fR gw b1 p fv (xe I p bp aR)<|xe I fv b8 a4).1 X.R X.w X.cu _ (fin s I)
def agk(b1:X.A.units+6<fh)(hd:∀(ae:O Z2) (s:aL) (U:St) (H:aI) (a b:X7) (ws:O (Key×V)) (Q:ay->aL->Prop),aO X ae U H s->hQ H a (.aS ws)->hQ H b (.aS [])->(∀s',aO X ae U H s'->Q (.bool<|!ws.isEmpty) s')->ba Z3 X.A (gJ .NotEq (.ref a)<|.ref b) Q X.cu s) :
  ff X L (two<|gJ .NotEq) gn:=by
 intro B ae s U H aa us aD n t m Q I bb aZ aJ e k;have⟨a,b,r,q0,gL,ef,em⟩:∃a b r,aD=[a,b]/\nk a b=J r/\t=.a5 (!r)/\m=.ah:=by
  match aD,e with
  |[a,b],e=>let(r,af,ao):=dm e;ext ao;show{(a),b,r,D,af,D,D}
 subst q0 ef em;let(v,w,rfl,bp,b8):=lU aZ;let(fR,gw,rfl,aR,a4):=bb.two;let fin:∀s',aO X ae U H s'->fH X ae U Q (.bool<|!r) s':=λs' d1=>{.a5<|!r,H,d1,D,k _ H (.refl _ _) aJ<|by show aH L H (.a5<|!r) _;rw[aH]}
 rcases Nv gL with⟨au,rfl,rfl,rfl⟩|⟨p,fv,rfl⟩
 .let(a1,fs,rfl,_,aA,x1):=bp;let(a2,gC,rfl,_,av,x2):=b8
  ext aR;ext a4
  rw[cG]at x2;subst x2;let:fs.isEmpty=au.isEmpty:=by let:=cG.length x1;ext au<;>ext fs<;>first|rfl|(simp at this)
  show hd ae s U H a1 a2 fs _ I aA av λs' d1=>by rw[this];show fin s' d1
 .show(agj I aJ 5 X.A a b fR gw b1 p fv (xe I p bp aR)<|xe I fv b8 a4) X.R X.w X.cu _ (fin s I)
def ahL:ff X L (two<|mX .Add) dN:=by
 intro B ae s U H aa us aD n t m Q I bb aZ aJ e k
 induction aD using Yn with
 |nil=>ext e
 |cons dI e3 =>
  induction dI using T.casesOn with
  |int a =>
   induction e3 using Yn with
   |nil=>ext e
   |cons iy zJ =>
    induction iy using T.casesOn with
    |int b =>
     induction zJ using Yn with
     |nil =>
      ext e
      let(v,w,rfl,bp,b8):=lU aZ;obtain rfl:=iT bp;obtain rfl:=iT b8;let(fR,gw,rfl,aR,a4):=bb.two;show ag4 ae s U H _ _ fR gw Q I aR a4 {a,b,D,D,k _ H (.refl _ _) aJ<|by show aH L H (.int _) _;rw[aH]}
     |cons _ _=>ext e
    |_=>ext e
  |aE xs =>
   induction e3 using Yn with
   |nil=>ext e
   |cons kp H2 =>
    induction kp using T.casesOn with
    |aE aQ =>
     induction H2 using Yn with
     |nil =>
      let e:(if xs.H+aQ.H<=bl then J (T.aE<|xs++aQ,bk.ah) else C)=J (t,m):=e;split at e
      .rename_i aq
       ext e
       let(v,w,rfl,bp,b8):=lU aZ;let(a,fK,rfl,cf,cN):=jf bp;let(b,wo,rfl,h8,eN):=jf b8;let(fR,gw,rfl,aR,a4):=bb.two
       ext aR;ext a4
       let(aX,q1,dh,_):=I.tuple<|eC.of (K:=X.K) cf;let(ir,q2,cy,_):=I.tuple<|eC.of (K:=X.K) h8;let((cls,dd,data,c8),aV,aN,aW,hd):=id dh;let((afm,q3,data2,zK),oj,zL,bW,hd2):=id cy;simp only at aN hd zL hd2;subst aN hd zL hd2;let fL:=cN.H;let eQ:=eN.H;let kq:=q1.H;let nf:=q2.H;by_cases h0:aX=[]
       .show BJ {_,aV,D} {_,oj,D} FY F8 PySem.F.slot_tuple_add PySem.F.entry_tuple_add (PySem.F.args_tuple_add_2 _ _) (tuple_addW0 a b aX.D ir.D aW bW dd q3 c8 zK<|by simp[h0]) {aV,oj,?_};let:xs=[]:=vs (by rw[fL,kq,h0];rfl);subst this;show{.ref b,H,I,D,k _ H (.refl _ _) aJ<|pO h8 eN}
       .by_cases af:ir=[]
        .show BJ {_,aV,D} {_,oj,D} FY F8 PySem.F.slot_tuple_add PySem.F.entry_tuple_add (PySem.F.args_tuple_add_2 _ _) (tuple_addW1 a b aX.D ir.D aW bW dd q3 c8 zK (by simpa using h0)<|by simp[af]) {aV,oj,?_};let:aQ=[]:=vs (by rw[eQ,nf,af];rfl);subst this;rw[rC]at k;show{.ref a,H,I,D,k _ H (.refl _ _) aJ<|pO cf cN}
        .show BJ {_,aV,D} {_,oj,D} FY F8 PySem.F.slot_tuple_add PySem.F.entry_tuple_add (PySem.F.args_tuple_add_2 _ _) (tuple_addW2 a b aX.D ir.D aW bW dd q3 c8 zK (by simpa using h0) (by simpa using af)<|by rw[eL,eL,<-kq,<-nf,<-fL,<-eQ];show pJ aq) {aV,oj,?_};let t2:aX.D++ir.D=(aX++ir).D:=by simp
         rw[t2];let aF:H s.L=C:=I.bE.fresh<|b3 _;show{.ref s.L,_,I.laid (t':=s.toks) (o:=.aE<|fK++wo) (λb b2 q=>dG _ q) (b3 _) {by rw[hM,<-fL,<-eQ];show pJ aq,_,q1.append q2,lK.new _ _},D,k _ _ (.new aF) (aJ.new aF)<|pO eS<|(bJ.mono (.new aF) _ _ cN).append (bJ.mono (.new aF) _ _ eN)}
      .ext e
     |cons _ _=>ext e
    |_=>ext e
  |aj xs =>
   induction e3 using Yn with
   |nil=>ext e
   |cons lI aak =>
    induction lI using T.casesOn with
    |aj aQ =>
     induction aak using Yn with
     |nil =>
      let e:(if xs.H+aQ.H<=bl then J (T.aj<|xs++aQ,bk.az) else C)=J (t,m):=e;split at e
      .rename_i aq
       ext e
       let(v,w,rfl,bp,b8):=lU aZ;let(a,fK,rfl,cf,cN):=bp;let(b,wo,rfl,h8,eN):=b8;let(fR,gw,rfl,aR,a4):=bb.two
       ext aR;ext a4
       let(aX,q1,((cls,dd,data,c8),aW,aV,aN,_,hd),_):=I.list cf.gK;let(ir,q2,((afm,q3,data2,zK),bW,oj,zL,_,hd2),_):=I.list h8.gK;simp only at aN hd zL hd2;subst aN hd zL hd2;let fL:=cN.H;let eQ:=eN.H;let kq:=q1.H;let nf:=q2.H;show BJ {_,aV,D} {_,oj,D} noFill_list_add seq_list_add PySem.F.slot_list_add PySem.F.entry_list_add (PySem.F.args_list_add_2 _ _) (list_addW a b aX.D ir.D aW bW dd q3 c8 zK<|by rw[eL,eL,<-kq,<-nf,<-fL,<-eQ];show pJ aq) {aV,oj,?_};let t2:aX.D++ir.D=(aX++ir).D:=by simp
       rw[t2];let aF:H s.L=C:=I.bE.fresh<|b3 _;show{.ref _,_,I.R6 (t':=s.toks) (q1.append q2) (by rw[hM,<-fL,<-eQ];show pJ aq),D,k _ _ (.new aF) (aJ.new aF) {_,D,aF,_,eS,(bJ.mono (.new aF) _ _ cN).append (bJ.mono (.new aF) _ _ eN)}}
      .ext e
     |cons _ _=>ext e
    |_=>ext e
  |_=>ext e
def ahM:ff X L (λus=>call (.builtin "len") us) dT:=by
 intro B ae s U H aa us aD n t m Q I bb aZ aJ e k;let num:∀(i:X6),Val X.K B L H H (.int i) .ah<|.int i:=λi=>by show aH L H (.int i) _;rw[aH]
 induction aD using Yn with
 |nil=>ext e
 |cons dI e3 =>
  induction dI using T.casesOn with
  |aj xs =>
   induction e3 using Yn with
   |nil =>
    ext e
    let(v,rfl,a,fK,rfl,cf,cN):=hL aZ;show G5 ae s U H _ us Q I bb {_,fK.H,D,.inl {(fK),cf.gK,D},by rw[<-cN.H];show k _ H (.refl _ _) aJ<|num _}
   |cons _ _=>ext e
  |aE xs =>
   induction e3 using Yn with
   |nil =>
    ext e
    let(v,rfl,r):=hL aZ;let(a,fK,rfl,cf,cN):=jf r;show G5 ae s U H _ us Q I bb {_,fK.H,D,.inr {fK,eC.of cf,D},by rw[<-cN.H];show k _ H (.refl _ _) aJ<|num _}
   |cons _ _=>ext e
  |a3 au =>
   induction e3 using Yn with
   |nil =>
    ext e
    let(v,rfl,a,fK,rfl,_,cf,cN):=hL aZ;let(u,rfl,eF):=bb.one
    ext eF
    show af2 I cf λt' s' d1=>{.int fK.H,H,d1,{(t'),D},by rw[<-cG.length cN];show k _ H (.refl _ _) aJ<|num _}
   |cons _ _=>ext e
  |dQ  =>
   induction e3 using Yn with
   |nil =>
    ext e
    let(v,rfl,r):=hL aZ;let r:aH L H .dQ v:=r;rw[aH]at r;subst r;show G5 ae s U H _ us Q I bb {_,n,D,.inl {_,fw.of aJ,by rw[mO]},k _ H (.refl _ _) aJ<|num _}
   |cons _ _=>ext e
  |_=>ext e
def ald:ff X L (λus=>call (.type "tuple") us) kD:=by
 intro B ae s U H aa us aD n t m Q I bb aZ aJ e k
 induction aD using Yn with
 |nil=>ext e
 |cons dI e3 =>
  induction dI using T.casesOn with
  |aj xs =>
   induction e3 using Yn with
   |nil =>
    ext e
    let(v,rfl,a,fK,rfl,cf,cN):=hL aZ;show MT ae s U H _ us Q I bb {a,fK,D,.inl {cf.gK,λl aC=>k _ _ (.new aC) (aJ.new aC)<|pO eS<|bJ.mono (.new aC) _ _ cN}}
   |cons _ _=>ext e
  |aE xs =>
   induction e3 using Yn with
   |nil =>
    ext e
    let(v,rfl,r):=hL aZ;let(a,fK,rfl,cf,cN):=jf r;show MT ae s U H _ us Q I bb {a,fK,D,.inr {eC.of cf,k _ H (.refl _ _) aJ<|pO cf cN}}
   |cons _ _=>ext e
  |_=>ext e
def uK:T->X8 (O T)
 |.aj xs=>J xs
 |.aE xs=>J xs
 |.a3 au=>J (au.map λc4=>ip c4.1)
 |_=>C
def zM{A':dz}{E:ay->aL->Prop}{ae:O Z2}{s:aL}{U:St}{H:aI}{t:T}{v:V}{u:ay}{xs:O T}(bh:A'.handled=C)(I:aO X ae U H s)(r:eb X.K L H t v)(bb:cU v u)(h:uK t=J xs) :
  ba Z3 A' (kh u) (λit fX=>∃kr fp wr P St,it=.ref kr/\Walks X.R X.w A' kr fp wr xs.H P St/\St 0 fX.Q/\(∀b∈fp,b<fX.L)/\(∀i u,P i u->∃v x,cU v u/\xs[i]?=J x/\aH L H x v) /\
   ∀h' tk,(∀b o,b∉wr->fX.heap.get? b=J o->h'.get? b=J o)->aO X ae U H { fX with heap:=h',toks:=tk}) E s:=by
 let fin:∀{o:Yp} {h':Yg} {tk:Y},(∀b cW,b∉[s.L]->(s.heap.push o).get? b=J cW->h'.get? b=J cW)->aO X ae U H { s with heap:=h',toks:=tk}:=λ{o h' tk} bP =>
  I.kept λb cW e=>bP b cW (by simp;show eE<|d6 e)<|dG _ e
 let item:∀{us:O ay} {aa:O V} {aQ:O T},cA aa us->bJ L H aQ aa->∀(i:Y) (w:ay),us.D[i]?=J w->∃v x,cU v w/\aQ[i]?=J x/\aH L H x v:=λ{us aa aQ} bb rs i w e=>by
  let e:us[i]?=J w:=by simpa using e
  let hi:i<us.H:=(bv.mp e).1;let(v,af,ao):=HZ rs bb hi;let jH:i<aQ.H:=by rw[rs.H,bb.H];show hi
  show{v,aQ[i],?_,by simp[jH],?_}
  .let:=(bv.mp e).2;rw[<-this];show ao
  .rw[iu,gB jH]at af;show af
 induction t using T.casesOn with
 |aj aQ =>
  cases h;let(a,aa,rfl,e,q):=r;cases bb;let(aX,bb,p,hz):=I.list e.gK;let bx:a≠s.L:=eE (let ⟨o,aV,_⟩:=p.isList;d6 aV);show yn p.isList {s.L,[s.L,a],[s.L],λi v=>aX.D[i]?=J v,λi h=>h.IsListIter s.L a i/\h.IsList a aX.D,D,?_,{{_,fa _ D,D,D},p.isList.push _},λb aq=>?_,item bb q,λh' tk bP=>fin bP}
  .let:=Walks.list (prog:=X.R) (w:=X.w) bh s.L a bx aX.D;rw[show aX.D.O=xs.length by rw[eL,<-bb.H,<-q.H]]at this;show this
  .rw[kQ];simp at aq;rcases aq with rfl|rfl
   .show mS _
   .show lu (let ⟨o,aV,_⟩:=p.isList;d6 aV)
 |aE aQ =>
  cases h;let(a,aa,rfl,e,q):=jf r;cases bb;let(aX,bb,p,hz):=I.tuple<|eC.of (K:=X.K) e;let p:s.heap.IsTuple a aX.D:=p;let bx:a≠s.L:=eE (let ⟨o,aV,_⟩:=p;d6 aV);show FR p ⟨s.L,[s.L,a],[s.L],λi v=>aX.D[i]?=J v,λi h=>h.IsTupleIter s.L a i/\h.IsTuple a aX.D,D,?_,{{_,fa _ D,D,D},let ⟨o,aV,r⟩:=p;{o,dG _ aV,r}},λb aq=>?_,item bb q,λh' tk bP=>fin bP⟩
  .let:=Walks.tuple (prog:=X.R) (w:=X.w) bh s.L a bx aX.D;rw[show aX.D.O=xs.length by rw[eL,<-bb.H,<-q.H]]at this;show this
  .rw[kQ];simp at aq;rcases aq with rfl|rfl
   .show mS _
   .show lu (let ⟨o,aV,_⟩:=p;d6 aV)
 |a3 au =>
  ext h
  let(a,ws,rfl,na,e,q):=r
  ext bb
  let(z,hd,us,rel,dd):=iA I.bE e;let(ep,dC):=dd.dictAt;let aC:ws.H=us.H:=KQ rel;let bx:a≠s.L:=eE dC.lt_size;show wpAny_pyIter_dict hd dC {s.L,[s.L,a],[s.L],λi v=>∃k x,us[i]?=J (k,x)/\(gF X.R X.w).is k v=Y0,λi h=>h.IsKeyIter s.L a i us.H ep/\h.DictAt (gF X.R X.w) a us ep,D,?_,{{_,fa _ D,D,D},dC.push _},λb aq=>?_,λi w aF=>?_,λh' tk bP=>fin bP}
  .let:=Walks.dictKeys (prog:=X.R) (w:=X.w) (knd:=gF X.R X.w) bh s.L a bx us ep;let aY:us.H=(au.map λc4=>ip c4.1).H:=by rw[cj,cG.length q,aC]
   rw[<-aY];show this
  .rw[kQ];simp at aq;rcases aq with rfl|rfl
   .show mS _
   .show lu dC.lt_size
  .let(k,x,af,ao):=aF;show{eH k,ip k,HM ao,?_,HN k};rw[hN];let hi:i<us.H:=(bv.mp af).1;let jH:i<au.H:=by rw[cG.length q,aC];show hi
   let(v,g1,_):=CR (k:=au[i].1) (t:=au[i].2) q (show au[i]?=J (au[i].1,au[i].2) by simp[jH]);let(e7,g2):=HL rel g1;rw[af]at g2;let:k=au[i].1:=by injection g2 with g2;injection g2
   rw[gB jH];show J (ip au[i].1)=J (ip k);rw[this]
 |_=>ext h
theorem nv:∀{xs:O T} {ns:O X6},eU xs=J ns->xs=ns.map T.int
 |[],_,h=>by ext h;rfl
 |.int i::r,ns,h=>by let(ms,af,ao):=dm (show(eU r).map (i::·)=J ns from h);subst ao;rw[cD,nv af]
 |.bR::_,_,h=>by ext h
 |.a5 _::_,_,h=>by ext h
 |.str _::_,_,h=>by ext h
 |.aE _::_,_,h=>by ext h
 |.aj _::_,_,h=>by ext h
 |.a3 _::_,_,h=>by ext h
 |.dQ::_,_,h=>by ext h
theorem Nw:∀{au:O (Key×T)} {ns:O X6},ti au=J ns->(au.map λc4=>ip c4.1)=ns.map T.int
 |[],_,h=>by ext h;rfl
 |(.inl k,x)::r,ns,h=>by let(ms,af,ao):=dm (show(ti r).map (k::·)=J ns from h);subst ao;rw[cD,cD,Nw af];rfl
 |(.inr k,x)::r,ns,h=>by ext h
def C1{ns:O X6}{i:Y}(h:∃v x,cU v u/\(ns.map T.int)[i]?=J x/\aH L H x v):∃t,u=.int (ns.getD i 0) t:=by
 let(v,x,af,ao,a6):=h;rw[hN]at ao;cases e:ns[i]? with
 |none=>rw[e]at ao;ext ao
 |some z =>
  rw[e]at ao;let ao:T.int z=x:=Yt ao;subst ao;rw[aH]at a6;subst a6;let(t,rfl):=af;show{t,?_};rw[iu,e];rfl
def aal(lt:X6->X6->Yc)(ns:O X6):∀(m:Y),m<ns.H->ns.getD (argBest (λi j=>lt (ns.getD i 0)<|ns.getD j 0) m) 0=((ns.take<|m+1).tail).foldl (λa b=>if lt b a then b else a) (ns.getD 0 0):=by
 intro m
 induction m with
 |zero =>
  intro h;cases ns with
  |nil=>simp at h
  |cons x xs=>rfl
 |succ m aT =>
  intro h;let aT:=aT<|ed h;let e:(ns.take<|m+1+1).tail=(ns.take<|m+1).tail++[ns.getD (m+1) 0]:=by
   cases ns with
   |nil=>simp at h
   |cons x xs =>
    rw[qa8,qa8,List.tail_cons,List.tail_cons];let h':m<xs.H:=by simpa using h
    rw[Fi,gB h',iu,qa2,gB h'];rfl
  rw[e,Fe,<-aT];show ns.getD (if lt (ns.getD (m+1) 0) (ns.getD (argBest (λi j=>lt (ns.getD i 0)<|ns.getD j 0) m) 0)=Y0 then m+1 else argBest (λi j=>lt (ns.getD i 0)<|ns.getD j 0) m) 0=_;rw[jR,List.foldl_nil];split<;>rfl
def aam{i:X6}(h:X0 ns=J i):0<ns.H/\ns.getD (argBest (λi j=>decide (ns.getD i 0<ns.getD j 0))<|ns.H-1) 0=i:=by
 cases ns with
 |nil=>ext h
 |cons x xs =>
  show{Nat.succ_pos _,?_};let:=aal (λa b=>decide (a<b)) (x::xs) xs.H<|mS _;show(x::xs).getD (argBest _<|xs.H+1-1) 0=i;rw[Nat.add_sub_cancel];show Eq.trans this ?_;rw[show(x::xs).take (xs.H+1)=x::xs from vu<|b3 _];let h:xs.foldl (λa b=>if b<a then b else a) x=i:=Yt h;rw[<-h];show xs.foldl (λa b=>if decide (b<a)=Y0 then b else a) x=_;erw[YZ]
def Nx{t:T}{xs:O T}{ns:O X6}{i:X6}{ae:O Z2}{s:aL}{U:St}{H:aI}{v:V}{u:ay}{Q:eW}(bh:X.A.handled=C)(I:aO X ae U H s)(r:eb X.K L H t v)(bb:cU v u)(h:uK t=J xs)(ax:xs=ns.map T.int)(aC:X0 ns=J i)(q:Q (.int i) H) :
  ba Z3 X.A (call (.builtin "min") [u]) (fH X ae U Q) X.cu s:=by
 subst ax;let(h0,aq):=aam aC;show call_min_walk (bZ (zM (A':=X.A.in1) bh I r bb h) λit fX ⟨kr,fp,wr,P,St,e,W,st,om,ez,fin⟩=>?_);show{kr,fp,wr,_,P,St,_,e,W,st,om,by simpa using h0,CmpOf.ints_lt (λi=>ns.getD i 0) λi v bX=>C1<|ez i v bX,λh6 h' tk bX bP=>?_};let(C2,rfl):=C1<|ez _ _ bX;rw[cj];show{.int i,H,fin h' tk bP,{C2,by rw[aq]},q}
def ahN(aN:X.calm=Y0):ff X L (λus=>call (.builtin "min") us) s7:=by
 intro B ae s U H aa us aD n t m Q I bb aZ aJ e k;let num:∀(i:X6),Val X.K B L H H (.int i) .ah<|.int i:=λi=>by show aH L H (.int i) _;rw[aH]
 let bh:=I.ok.hd aN
 induction aD using Yn with
 |nil=>ext e
 |cons dI e3 =>
  induction dI using T.casesOn with
  |aj xs =>
   induction e3 using Yn with
   |nil =>
    let(ns,aA,av):=b5 (show(eU xs).bind _=_ from e);let(i,a7,bM):=dm av
    ext bM
    let(v,rfl,r):=hL aZ;let(u,rfl,eF):=bb.one;show Nx bh I r eF D (nv aA) a7<|k _ H (.refl _ _) aJ<|num i
   |cons _ _=>ext e
  |a3 au =>
   induction e3 using Yn with
   |nil =>
    let(ns,aA,av):=b5 (show(ti au).bind _=_ from e);let(i,a7,bM):=dm av
    ext bM
    let(v,rfl,r):=hL aZ;let(u,rfl,eF):=bb.one;show Nx bh I r eF D (Nw aA) a7<|k _ H (.refl _ _) aJ<|num i
   |cons _ _=>ext e
  |int a =>
   induction e3 using Yn with
   |nil=>ext e
   |cons iy zJ =>
    induction iy using T.casesOn with
    |int b =>
     induction zJ using Yn with
     |nil =>
      ext e
      let(v,w,rfl,bp,b8):=lU aZ;obtain rfl:=iT bp;obtain rfl:=iT b8;show qar aN ae s U H _ us Q I bb {a,b,D,k _ H (.refl _ _) aJ<|num _}
     |cons _ _=>ext e
    |_=>ext e
  |_=>ext e
def C3(ns:O X6):∀(m:Y),m<=ns.H->preSum (λi=>ns.getD i 0) m=cx (ns.take m):=by
 let app:∀(a b:O X6),cx (a++b)=cx a+cx b:=λa b=>by
  induction a with
  |nil=>simp[cx]
  |cons x xs aT=>rw[rA,cx,aT,cx];lia
 intro m
 induction m with
 |zero=>intro _;rfl
 |succ m aT =>
  intro h;let h':m<ns.H:=h;rw[preSum,aT<|ed h',Fi,gB h',app,iu,gB h'];simp[cx]
def aan(h:∀x∈ns,-1000000<=x/\x<=1000000):-(1000000*(ns.H:X6))<=cx ns/\cx ns<=1000000*(ns.H:X6):=by
 induction ns with
 |nil=>simp[cx]
 |cons x xs aT =>
  let:=aT λy aP=>h y<|dZ _ aP;let:=h x dF;rw[cx,d4]
  push_cast
  lia
theorem H3:∀{xs:O T} {bs:O Yc},nM xs=J bs->xs=bs.map T.a5
 |[],_,h=>by ext h;rfl
 |.a5 i::r,ns,h=>by let(ms,af,ao):=dm (show(nM r).map (i::·)=J ns from h);subst ao;rw[cD,H3 af]
 |.bR::_,_,h=>by ext h
 |.int _::_,_,h=>by ext h
 |.str _::_,_,h=>by ext h
 |.aE _::_,_,h=>by ext h
 |.aj _::_,_,h=>by ext h
 |.a3 _::_,_,h=>by ext h
 |.dQ::_,_,h=>by ext h
def Ny{bs:O Yc}{i:Y}(h:∃x y,cU x v/\(bs.map T.a5)[i]?=J y/\aH L H y x):v=.bool (bs.getD i Y1):=by let(x,y,af,ao,a6):=h;rw[hN]at ao;let(z,e,rfl):=dm ao;rw[aH]at a6;subst a6;rw[iu,e];show af
theorem Nz:∀bs:O Yc,((Yr bs.H).all λi=>bs.getD i Y1)=bs.all id
 |[]=>rfl
 |b::bs=>by rw[d4,E6,ma,vB,ma,<-Nz bs];rfl
def ahO(aN:X.calm=Y0):ff X L (λus=>call (.builtin "all") us) s6:=by
 intro B ae s U H aa us aD n t m Q I bb aZ aJ e k;let bh:=I.ok.hd aN
 induction aD using Yn with
 |nil=>ext e
 |cons dI e3 =>
  induction dI using T.casesOn with
  |aj xs =>
   induction e3 using Yn with
   |nil =>
    let(bs,aA,av):=dm (show(nM xs).map _=_ from e)
    ext av
    obtain rfl:=H3 aA;let(v,rfl,r):=hL aZ;let(u,rfl,eF):=bb.one;show call_all_walk (bZ (zM (A':=X.A.in1) bh I r eF D) λit fX ⟨kr,fp,wr,P,St,e,W,st,om,ez,fin⟩=>?_);show{kr,fp,wr,_,P,St,λi=>bs.getD i Y1,e,W,st,λi v s' eJ ng bX ee=>?_,λh' tk bP=>?_}
    .rw[Ny<|ez i v bX];show qg ee
    .rw[cj,Nz bs];show{.a5 _,H,fin h' tk bP,D,k _ H (.refl _ _) aJ<|by show aH L H (.a5 _) _;rw[aH]}
   |cons _ _=>ext e
  |_=>ext e
def TA{i:X6}(r:bJ L H xs aa)(h:hD xs i=J t):∃v,wW aa i=J v/\aH L H t v:=by
 let aC:=r.H;delta hD at h;delta wW si;by_cases h0:0<=i
 .rw[Y2 h0]at h |-;by_cases af:i<xs.H
  .rw[Y2 af]at h;rw[Y2<|by rw[<-aC];show af];let(v,aA,av):=r.get h;show{(v),aA,av}
  .rw[Y3 af]at h;ext h
 .rw[Y3 h0]at h |-;by_cases af:-(xs.H:X6)<=i
  .rw[Y2 af]at h;rw[Y2<|by rw[<-aC];show af];let(v,aA,av):=r.get h;show{v,by rw[<-aC];show aA,av}
  .rw[Y3 af]at h;ext h
def ahP(b1:X.A.units+1<fh)(value slice:Yd)(aM:∀v u,BK slice Y1 v u=operate [v,u] (mY v u)):ff X L (two λv u=>BN value slice v u) cB:=by
 intro B ae s U H aa us aD n t m Q I bb aZ aJ e k
 match aD,e with
 |[.aj xs,.int i],e =>
  let(t0,aA,av):=dm (show(hD xs i).map _=_ from e)
  ext av
  let(v,w,rfl,bp,b8):=lU aZ;obtain rfl:=iT b8;let(a,fK,rfl,cf,cN):=bp;let(fR,gw,rfl,aR,a4):=bb.two;let(x,af,ao):=TA cN aA;show ai1 value slice ae s U H _ _ fR gw Q I aR a4 {a,fK,i,x,D,D,cf.gK,af,k _ H (.refl _ _) aJ ao}<|aM _ _
 |[.aE xs,.int i],e =>
  let(t0,aA,av):=dm (show(hD xs i).map _=_ from e)
  ext av
  let(v,w,rfl,bp,b8):=lU aZ;obtain rfl:=iT b8;let(a,fK,rfl,cf,cN):=jf bp;let(fR,gw,rfl,aR,a4):=bb.two;let(x,af,ao):=TA cN aA;show ahe value slice ae s U H _ _ fR gw Q I aR a4 {a,fK,i,x,D,D,eC.of cf,af,k _ H (.refl _ _) aJ ao}<|aM _ _
 |[.a3 au,kt],e =>
  let(eo,aA,av):=b5 (show(iI kt).bind _=_ from e);let(t0,a7,bM):=dm av
  ext bM
  let(v,w,rfl,bp,b8):=lU aZ;obtain rfl:=CN aA b8;let(a,ws,rfl,_,cf,cN):=bp;let(fR,gw,rfl,aR,a4):=bb.two
  ext aR
  rcases cG.at eo cN with⟨z,_⟩|⟨t1,x,af,ao,a6⟩
  .rw[a7]at z;ext z
  .rw[a7]at af;ext af;let g:vg H a (eH eo)<|some x:={(ws),eo,cf,D,ao.symm}
   show tail_any (ops:=[.ref a,gw]) (qaG I g) PySem.F.slot_dict_getitem.lookup (qaE b1 I g a4 λeM s' d1 kB=>{x,H,d1,kB,k _ H (.refl _ _) aJ a6})<|aM _ _
def yP(X:bL)(L:X7)(e:X8 Yd)(d:yH):Prop:=∀B S n i n',d S n=J (i,n')->yD X e (λU H Q=>df X.K B L S n U H/\∀ak,dc L H ak->cR L n' ak->Q i ak)
def ajq:yP X L C EL:=by
 intro B S n i n' hd ae s U H Q I ⟨R,k⟩
 ext hd
 show aiY ae s U H Q I<|k H (.refl _ _) R.aJ
def ajr(h:bI X L e d):yP X L (J e)<|EM d:=by
 intro B S n i n' hd ae s U H Q I ⟨R,k⟩;let((t,m,aW),aA,av):=b5 hd
 induction t using T.casesOn with
 |int j =>
  ext av
  show aiZ (h B S n _ m aW aA) ae s U H Q I {R,λv ak x y z=>?_};obtain rfl:=iT<|z.root (R.mono x y) R.aJ;show{j,D,k ak x y}
 |_=>ext av
def sr(n d:Y)(o:X8 X6):bound n d o=ft.dS n d o:=by ext o<;>rfl
def ajs{o e f:Yd}{en hV LJ:bK}{apos dk:Yh}(b1:X.A.units+1<fh)(aV:bI X L o en)(he:bI X L e hV)(hf:bI X L f LJ)(m:M2 X o "get" apos e f dk):bI X L (.Call (.Attribute o "get" apos) [e,f] [] dk)<|aB j2<|ag en<|ag hV<|ag LJ aw:=by
 intro B S n t ko n' hd ae s U H Q I ⟨R,k⟩;let(to,mo,no,te,wx,ne,t5,UT,f1,g1,af,a7):=ajb hd;show ak1 b1 (aV B S n to mo no f1) (he B S no te wx ne g1) (hf B S ne t5 UT n' af) m ae s U H Q I {R,λv H1 x1 dI cT=>?_};let bt:=R.mono x1 dI
 induction to using T.casesOn with
 |a3 au =>
  let a7:(if iC t5 then C else(iI te).map λk=>((gZ au k).getD t5,bk.ah))=J (t,ko):=a7;split at a7
  .ext a7
  .rename_i aq;let(eo,aR,a4):=dm a7
   ext a4
   let aZ:=cT.root bt R.aJ;let(a,ws,rfl,na,cf,cN):=id aZ;show{a,D,{(ws),cf},bt,λv2 br x2 iy da=>?_};let de:=bt.mono x2 iy;show{de,λwu dr cY kp gM=>?_};let mh:=de.mono cY kp;obtain rfl:=CN aR<|da.root de bt.aJ;let zN:=x2.trans cY;let(gV,su,H4,_,h8,eN):=eb.ext bt.aJ zN aZ
   ext H4
   show{oG su eo,{(su),eo,h8,D,D},k _ dr (x1.trans zN) kp ?_};rcases cG.at eo eN with⟨b0,dP⟩|⟨t,x,b0,dP,iO⟩
   .rw[b0,dP];show(gM.root mh de.aJ).rep (by simpa using aq)
   .rw[b0,dP];show iO
 |_=>ext a7
noncomputable def tyName:Ty->YD
 |.int=>"int"
 |.bool=>"bool"
 |.list=>"list"
 |.tuple=>"tuple"
 |.str=>"str"
 |.dict=>"dict"
noncomputable def Ug:T->YD
 |.bR=>"NoneType"
 |.a5 _=>"bool"
 |.int _=>"int"
 |.str _=>"str"
 |.aE _=>"tuple"
 |.aj _=>"list"
 |.a3 _=>"dict"
 |.dQ=>"list"
 |.b2 _=>"object"
 |.eh _=>"object"
def ahQ(K:Yk)(k:Ty)(t:T)(b:Yc)(h:sZ k t=J b):W.kitOne K (.type<|Ug t) (.type<|tyName k)=J b:=by
 ext k<;>ext t<;>first|(ext h;done)|(ext h;first|rfl|decide+kernel|kernel_rfl)
def ale{ae:O Z2}{s:aL}{U:St}{H:aI}{t:T}{v:V}{u c:ay}{b:Yc}{Q:ay->aL->Prop}(I:aO X ae U H s)(r:eb X.K L H t v)(bb:cU v u)(cE:t≠.dQ)(bx:∀a,t≠.b2 a)(M0:∀a,t≠.eh a)(e:W.kitOne X.K (.type<|Ug t) c=J b)(h:∀tk,Q (.bool b) { s with toks:=tk}) :
  ba Z3 X.A (call (.builtin "isinstance") [u,c]) Q X.cu s:=by
 induction t using T.casesOn with
 |bR=>let r:aH L H .bR v:=r;rw[aH]at r;subst r;show zi I bb .bR e h
 |a5 b=>let r:aH L H (.a5 b) v:=r;rw[aH]at r;subst r;show zi I bb (.a5 b) e h
 |int i=>let r:aH L H (.int i) v:=r;rw[aH]at r;subst r;show zi I bb (.int i) e h
 |str x=>let r:aH L H (.str x) v:=r;rw[aH]at r;subst r;show zi I bb (.str x) e h
 |aE xs=>let(a,aa,rfl,cf,q):=jf r;show zi I bb (.aE cf) e h
 |dQ=>show Yi D cE
 |b2 a=>show Yi D<|bx a
 |eh a=>show Yi D<|M0 a
 |aj xs =>
  let(a,aa,rfl,cf,q):=r
  ext bb
  let(aX,_,(o,n,aV,aN,_),_):=I.list cf.gK;show KP W.kitx_list I.ib {(o),aV,aN} e (λz=>nomatch z) h
 |a3 au =>
  let(a,ws,rfl,_,cf,q):=r
  ext bb
  let(_,_,aa,_,o,es,ep,af,ao,_):=iA I.bE cf;show KP W.kitx_dict I.ib {(o),af,ao.1} e (λz=>nomatch z) h
def zO{e:Yd}{d:bK}{k:Ty}{i6:Ya}{p r2 pos:Yh}(h:bI X L e d)(hm:X.bj "isinstance" = C)(gg:X.bj i6=C)(bX:nV i6=J (.type<|tyName k))(bQ:X9 (fI X "isinstance") bo)(aao:X9 (fI X i6) bo)(bq:X9 (i6 ≠ "__name__") d7)(gz:X9 ((i6==("__debug__" : Ya))=Y1) d7)
  (he:X9 (cc [e,.Name i6 r2] X.I=(Y1,Ur e X.I)::cc [.Name i6 r2] X.I) bo) (lV:X9 (cc [.Name i6 r2] X.I=(Y1,Ur (.Name i6 r2) X.I)::cc [] X.I) bo) (fS:X9 ((fE pos<|cc [.Name i6 r2] X.I).any (·.1)=Y1) bo) (aq:X9 (nV "isinstance" = J (.builtin "isinstance")) az11._auto_1) :
  bI X L (.Call (.Name "isinstance" p) [e,.Name i6 r2] [] pos) (aB (iq k)<|ag d aw):=by
 intro B S n t m n' hd ae s U H Q I ⟨R,kk⟩;let(t0,m0,f1,a7):=CG hd;let(b,g1,g2):=dm (show(sZ k t0).map _=_ from a7)
 ext g2
 show lz<|kZ I bQ hm aq ?_ Z0 Z0;show K7 ?_ he fS;rw[he];show ba _ _ (rN<|(Y1,Ur e X.I)::fE pos (cc [.Name i6 r2] X.I)) _ _ s;show i0 (bZ (h.run f1 I R) λu s1 ⟨v,H1,bf,bp,a1,bt,b0⟩=>?_);rw[lV];show ba _ _ (rN<|(Y1,Ur (.Name i6 r2) X.I)::fE pos (cc [] X.I)) _ _ s1;show i0<|kZ bf aao gg bX (ly ?_) bq gz;show ale bf (b0.root bt R.aJ) bp (λz=>by subst z;cases k<;>cases g1) (λa z=>by subst z;cases k<;>cases g1) (λa z=>by subst z;cases k<;>cases g1) (ahQ X.K k t0 b g1) λtk=>?_;show{.a5 b,H1,bf.tok tk,D,kk _ H1 a1 bt.aJ<|by show aH L H1 (.a5 b) _;rw[aH]}
def NA(b1:X.A.units<fh):∀(ae:O Z2) (s:aL) (U:St) (H:aI) (a b:X7) (ws:O (Key×V)) (Q:ay->aL->Prop),aO X ae U H s->hQ H a (.aS ws)->hQ H b (.aS [])->(∀s',aO X ae U H s'->Q (.bool ws.isEmpty) s')->ba Z3 X.A (gJ .Eq (.ref a)<|.ref b) Q X.cu s:=by
 intro ae s U H a b ws Q I cf h8 k;let(_,bx,us,rZ,dC):=iA I.bE cf;let(_,aq,q4,r3,db):=iA I.bE h8
 ext r3
 show W.keq_eq (r:=Y0) bx aq dC db b1 (λaC=>?_) ?_
 .obtain rfl:=vs aC;show .nil
 .cases rZ with
  |nil=>show k s I
  |cons _ _=>show k s I
def alf(b1:X.A.units<fh):∀(ae:O Z2) (s:aL) (U:St) (H:aI) (a b:X7) (ws:O (Key×V)) (Q:ay->aL->Prop),aO X ae U H s->hQ H a (.aS ws)->hQ H b (.aS [])->(∀s',aO X ae U H s'->Q (.bool<|!ws.isEmpty) s')->ba Z3 X.A (gJ .NotEq (.ref a)<|.ref b) Q X.cu s:=by
 intro ae s U H a b ws Q I cf h8 k;let(_,bx,us,rZ,dC):=iA I.bE cf;let(_,aq,q4,r3,db):=iA I.bE h8
 ext r3
 show W.keq_ne (r:=Y0) bx aq dC db b1 (λaC=>?_) ?_
 .obtain rfl:=vs aC;show .nil
 .cases rZ with
  |nil=>show k s I
  |cons _ _=>show k s I
def ajt{pos:Yh}:bI X L (.Dict [] [] pos) w0:=by
 intro B S n t m n' hd ae s U H Q I ⟨R,k⟩
 ext hd
 show akY ae s U H Q I λp aF=>k _ _ (.new aF) (R.aJ.new aF) {p,D,aF,[],eS,by rw[cG]}
def aju{i:X6}{j:Y}{pi pos:Yh}{e:Yd}{d:bK}(h:bI X L e d):bI X L (.Dict [J<|.Constant (.int i) j pi] [e] pos)<|Kw (aS<|.int i)<|cg d:=by
 intro B S n t m n' hd ae s U H Q I ⟨R,k⟩;let((tk,mk,LK),aA,av):=b5 hd
 ext aA
 let(eo,a7,bM):=b5 av
 ext a7
 let((g8,wm,LM),d9,fV):=dm bM;cases fV;obtain rfl:=w8 d9;show ai6 (akZ Ck ((uF h) B S n g8 .ah LM d9) ai5) D D Z6 Z6 ae s U H Q I λp aF=>?_;let bt:=R.mono (.new (o:=.aS []) aF)<|R.aJ.new aF;show qn X.K B L S n g8 .ah LM U (cO H p<|.aS []) _;show⟨bt,λv br x y z=>?_⟩;let np:p≠L:=R.aJ.qb aF;let H5:br p=J (.aS []):=x.to p _ eS np;show{H5,[(.inl i,v)],D,by simp,?_};let dB:eu br<|cO br p<|.aS<|wY [] [(.inl i,v)]:=λb=>{λaa q=>by rw[ea<|by rintro rfl;rw[H5]at q;cases q];show q,λ_ _ q=>by rw[ea<|by rintro rfl;rw[H5]at q;cases q];show q}
 show k _ _ (((dc.new aF).trans x).put aF) ?_ {p,D,aF,_,eS,?_}
 .show cO br p _ L=_;rw[ea np.symm];show y
 .show cG L _ [(.inl i,g8)] [(.inl i,v)];show w9 (aH.mono dB _ _ z) (by rw[cG])
def aap:fillsNumberSlot (.type "tuple") "mul" = pure Y1 :=
 PySem.fillsNumberSlot_seq (id:="tuple.__mul__") (r:=J<|.builtin "tuple.__rmul__") PySem.F.slot_tuple_mul.lookup (by decide+kernel) PySem.F.slot_tuple_rmul.lookup (by decide+kernel)
def aaq:seqRepeat? (.type "tuple")=pure (J<|.builtin "tuple.__mul__"):=by delta seqRepeat?;rw[PySem.seqSlot_of (T:="tuple") (name:="__mul__") (id:="tuple.__mul__") PySem.F.slot_tuple_mul.lookup (by decide+kernel),PySem.seqSlot_of (T:="tuple") (name:="__rmul__") (id:="tuple.__rmul__") PySem.F.slot_tuple_rmul.lookup<|by decide+kernel];rfl
def alg(a:X6)(t:Tok)(l:X7)(XZ:Ye ay)(n:Y)(dd:X8 X7)(c8:Ye<|X8 ay) :
  Meets (Builtin.«int.__rmul__» {[.int a t,.ref l],[]}) (λ_ R s=>s.heap.get? l=J { cls:=.type "tuple",dict:=dd,data:=.seq XZ n,slots:=c8}/\R (.ok<|.ret Value.notImplemented) s) :=
 .of_wp λprog w A R s h=>by let(aF,g,d,tk,os):=s;let(aC,h):=h;wp_walk;show{_,D,h}
def aar(l:X7)(XZ:Ye ay)(n:Y)(dd:X8 X7)(c8:Ye<|X8 ay)(x:X6)(u:Tok)(h0:XZ.isEmpty=Y1)(af:(x==1)=Y1)(ao:¬x<=0)(a6:x<2^63)(cS:XZ.O*x.M<=c3) :
  Meets (Builtin.«tuple.__mul__» {[.ref l,.int x u],[]}) (λ_ R s=>s.heap.get? l=J { cls:=.type "tuple",dict:=dd,data:=.seq XZ n,slots:=c8}/\R (.ok<|.ret<|Uu s.L) { s with heap:=s.heap.push { cls:=YX "tuple",data:=Data.seq (K9 (λx1 x2=>x1++x2) #[] (Yj x.M XZ))},toks:=s.toks}) :=
 .of_wp λprog w A R s h=>by
  let(aF,g,d,tk,os):=s;let(aC,h):=h;let f1:=PySem.AutoSeq1.idx_int
  let aA:¬ (decide (x < -2^63)||decide (x>=2^63))=Y0:=by simp;lia
  let av:¬ (XZ.isEmpty||x==1)=Y0:=by rw[h0,af];decide
  let a7:¬ (decide (x<=0)||XZ.isEmpty)=Y0:=by rw[h0];simp;show rI ao
  let eA:(XZ.O:X6)*x<=c3:=by
   let:x=(x.M:X6):=by lia
   rw[this];exact_mod_cast cS
  let bM:¬ ↑XZ.O*x>(2^63-1) / 8:=by
   let:((c3:Y):X6)<=(2^63-1) / 8:=by decide
   show tC<|iv eA this
  let d9:¬Builtin.Tuple.tupleTooMany (↑XZ.O*x)=Y0:=by delta Builtin.Tuple.tupleTooMany;simp;show eA
  let fV:¬ (K9 (λx1 x2=>x1++x2) #[] (Yj x.M XZ)).O>c3:=by
   let:=foldl_rep XZ.B x.M []
   rw[qc,yk]at this;let e:(#[]:Ye ay)=([]:O ay).D:=rfl;rw[e,this,eL,len_rep,Bq,fP];show rE cS
  wp_walk using PySem.AutoSeq1.wpAny_loadPart' aC
  rw[Y3 aA]
  wp_walk using PySem.AutoSeq1.wpAny_loadPart' aC
  rw[Y3 bM]
  wp_walk
  show{_,D,h}
def aas(l:X7)(XZ:Ye ay)(n:Y)(dd:X8 X7)(c8:Ye<|X8 ay)(x:X6)(u:Tok)(af:(XZ.isEmpty||x==1)=Y0)(a6:x<2^63)(cS:-(2^63)<=x) :
  Meets (Builtin.«tuple.__mul__» {[.ref l,.int x u],[]}) (λ_ R s=>s.heap.get? l=J { cls:=.type "tuple",dict:=dd,data:=.seq XZ n,slots:=c8}/\R (.ok<|.ret<|Uu l) s) :=
 .of_wp λprog w A R s h=>by
  let(aF,g,d,tk,os):=s;let(aC,h):=h;let f1:=PySem.AutoSeq1.idx_int
  let aA:¬ (decide (x < -2^63)||decide (x>=2^63))=Y0:=by simp;show Lc cS a6
  wp_walk using PySem.AutoSeq1.wpAny_loadPart' aC
  rw[Y3 aA]
  wp_walk using PySem.AutoSeq1.wpAny_loadPart' aC
  show{_,D,h}
def aat(l:X7)(XZ:Ye ay)(n:Y)(dd:X8 X7)(c8:Ye<|X8 ay)(x:X6)(u:Tok)(h0:XZ.isEmpty=Y1)(ao:x<=0)(cS:-(2^63)<=x) :
  Meets (Builtin.«tuple.__mul__» {[.ref l,.int x u],[]}) (λ_ R s=>s.heap.get? l=J { cls:=.type "tuple",dict:=dd,data:=.seq XZ n,slots:=c8}/\R (.ok<|.ret<|Uu s.L) { s with heap:=s.heap.push { cls:=YX "tuple",data:=Data.seq #[]},toks:=s.toks}) :=
 .of_wp λprog w A R s h=>by
  let(aF,g,d,tk,os):=s;let(aC,h):=h;let f1:=PySem.AutoSeq1.idx_int
  let aA:¬ (decide (x < -2^63)||decide (x>=2^63))=Y0:=by simp;show Lc cS<|oY ao Z0
  let av:¬ (XZ.isEmpty||x==1)=Y0:=by rw[h0];simp;show vL<|oY ao Z0
  let a7:(decide (x<=0)||XZ.isEmpty)=Y0:=by simp[ao]
  wp_walk using PySem.AutoSeq1.wpAny_loadPart' aC
  rw[Y3 aA]
  wp_walk using PySem.AutoSeq1.wpAny_loadPart' aC
  rw[Y3 av]
  wp_walk
  show{_,D,h}
def aau{n:Y}{x:X6}(aC:s.heap.get? l=J { cls:=.type "tuple",dict:=dd,data:=.seq aX.D n,slots:=c8})
  (af:-(2^63)<=x) (ao:x<2^63) (cS:aX.H*x.M<=c3) (h:(aX=[]\/x=1)->Q (.ref l) s) (h':Q (.ref s.L) { s with heap:=s.heap.push { cls:=YX "tuple",data:=Data.seq (Yj x.M aX).flatten.D},toks:=s.toks}) :
  ba Z3 X.A (mX .Mult (.ref l)<|.int x u) Q X.cu s:=by
 show wpAny_binaryOp_repeat_ref (T:="tuple") (U:="int") Z0 {_,aC,D} (λs'=>typeIs_int s' x u) aap F.fills_int_mul F.slot_int_rmul aaq F.slot_int_index.lookup
  (mV F.slot_int_rmul (typeIs_int s x u) F.entry_int_rmul (F.args_int_rmul_2 _ _) (alg x u l aX.D n dd c8) {aC,D,{_,aC,D},?_})
 let f0:K9 (λx1 x2=>x1++x2) #[] (Yj x.M aX.D)=(Yj x.M aX).flatten.D:=by
  let:=foldl_rep aX x.M []
  rw[qc]at this;show this
 by_cases b0:aX=[]\/x=1
 .show mV F.slot_tuple_mul {_,aC,D} F.entry_tuple_mul (F.args_tuple_mul_2 _ _) (aas l aX.D n dd c8 x u ?_ ao af) {aC,h b0};rcases b0 with c|c<;>simp[c]
 .let dP:aX≠[]:=λz=>b0<|.inl z;let iO:x≠1:=λz=>b0<|.inr z;let ha:aX.D.isEmpty=Y1:=by cases aX with
   |nil=>show Yi D dP
   |cons a r=>simp
  by_cases BX:x<=0
  .show mV F.slot_tuple_mul {_,aC,D} F.entry_tuple_mul (F.args_tuple_mul_2 _ _) (aat l aX.D n dd c8 x u ha BX af) {aC,?_};let:x.M=0:=by lia
   rw[this]at h';show h'
  .show mV F.slot_tuple_mul {_,aC,D} F.entry_tuple_mul (F.args_tuple_mul_2 _ _) (aar l aX.D n dd c8 x u ha (by simpa using iO) BX ao<|by rw[eL];show cS) {aC,?_};rw[f0];show h'
def ahR:ff X L (two<|mX .Mult) hh:=by
 intro B ae s U H aa us aD n t m Q I bb aZ aJ e k
 induction aD using Yn with
 |nil=>ext e
 |cons dI e3 =>
  induction dI using T.casesOn with
  |int a =>
   induction e3 using Yn with
   |nil=>ext e
   |cons iy zJ =>
    induction iy using T.casesOn with
    |int b =>
     induction zJ using Yn with
     |nil =>
      let e:(if X3 a||X3 b then J (T.int<|a*b,bk.ah) else C)=J (t,m):=e;split at e
      .rename_i aM
       ext e
       let(v,w,rfl,bp,b8):=lU aZ;obtain rfl:=iT bp;obtain rfl:=iT b8;let(fR,gw,rfl,aR,a4):=bb.two;let aN:Er a b:=by
        erw[X3,Bool.or_eq_true,YZ]at aM;rcases aM with aM|aM
        .show .inl {by lia,by lia}
        .show .inr {by lia,by lia}
       show ag6 ae s U H _ _ fR gw Q I aR a4 {a,b,D,D,aN,k _ H (.refl _ _) aJ<|by show aH L H (.int _) _;rw[aH]}
      .ext e
     |cons _ _=>ext e
    |_=>ext e
  |aE xs =>
   induction e3 using Yn with
   |nil=>ext e
   |cons kp H2 =>
    induction kp using T.casesOn with
    |int j =>
     induction H2 using Yn with
     |nil =>
      let e:(if xs.H<=1000 /\ -1000<=j/\j<=10000/\xs.H*j.M<=bl then J (T.aE (Yj j.M xs).flatten,bk.ah) else C)=J (t,m):=e;split at e
      .rename_i aq;let(_,bT,cb,fe):=aq
       ext e
       let(v,w,rfl,bp,b8):=lU aZ;let(a,fK,rfl,cf,cN):=jf bp;obtain rfl:=iT b8;let(fR,gw,rfl,aR,a4):=bb.two
       ext aR
       let(tk,rfl):=a4;let(aX,q1,dh,_):=I.tuple<|eC.of (K:=X.K) cf;let((cls,dd,data,c8),aV,aN,aW,hd):=id dh;simp only at aN hd;subst aN hd;let fL:=cN.H;let kq:=q1.H;let hz:aX.H*j.M<=c3:=by rw[<-kq,<-fL];show pJ fe
       let aF:H s.L=C:=I.bE.fresh<|b3 _;show aau aV (iv Z0 bT) (oY cb Z0) hz (λc=>?_) ?_
       .let:(Yj j.M xs).flatten=xs:=by
         rcases c with c|c
         .let:xs=[]:=vs (by rw[fL,kq,c];rfl);subst this;simp
         .subst c;simp
        rw[this]at k;show{.ref a,H,I,D,k _ H (.refl _ _) aJ<|pO cf cN}
       .show{.ref s.L,_,I.laid (t':=s.toks) (o:=.aE (Yj j.M fK).flatten) (λb b2 q=>dG _ q) (b3 _) {by rw[len_rep,Bq,kq];show hz,_,q1.rep _,lK.new _ _},D,k _ _ (.new aF) (aJ.new aF)<|pO eS<|(bJ.mono (.new aF) _ _ cN).rep _}
      .ext e
     |cons _ _=>ext e
    |_=>ext e
  |_=>ext e
theorem sv:∀{xs:O T} {us:O ay},us.H=xs.H->(∀(i:Y) (u:ay),us[i]?=J u->∃v x,cU v u/\xs[i]?=J x/\aH L H x v)->∃aa,cA aa us/\bJ L H xs aa
 |[],[],_,_=>{[],.nil,.nil}
 |x::xs,u::us,aC,h=>by
  let(v,nc,r,e,q):=h 0 u D;let e:x=nc:=by simpa using e
  subst e;let(aa,af,ao):=sv (xs:=xs) (us:=us) (by simpa using aC) λi u e=>by let(v,x,r,bH,q):=h (i+1) u (by simpa using e);show{v,x,r,by simpa using bH,q}
  show⟨v::aa,.cons r af,.cons q ao⟩
 |[],_::_,aC,_=>by simp at aC
 |_::_,[],aC,_=>by simp at aC
def NB{a:X7}{s:aL}{ae:O Z2}{U:St}{au:O<|Key×T}{us:O<|Key×ay}(q:cG L H au ws)(rel:e6 ws us)(i:Y)(w:ay)
  (aF:∃k x,us[i]?=J (k,x)/\(gF X.R X.w).is k w=Y0):∃v x,cU v w/\(au.map λc4=>ip c4.1)[i]?=J x/\aH L H x v:=by
 let(k,x,af,ao):=aF;let aC:ws.H=us.H:=KQ rel;show{eH k,ip k,HM ao,?_,HN k};rw[hN];let hi:i<us.H:=(bv.mp af).1;let jH:i<au.H:=by rw[cG.length q,aC];show hi
 let(v,g1,_):=CR (k:=au[i].1) (t:=au[i].2) q (show au[i]?=J (au[i].1,au[i].2) by simp[jH]);let(e7,g2):=HL rel g1;rw[af]at g2;let:k=au[i].1:=by injection g2 with g2;injection g2
 rw[gB jH];show J (ip au[i].1)=J (ip k);rw[this]
def NC{A':dz}{E:ay->aL->Prop}{ae:O Z2}{s:aL}{U:St}{H:aI}{t:T}{v:V}{u:ay}{xs:O T}{Q:O ay->aL->Prop}(bh:A'.handled=C)(I:aO X ae U H s)(r:eb X.K L H t v)(bb:cU v u)(h:uK t=J xs)
  (k:∀us aa h' tk,cA aa us->bJ L H xs aa->us.H<=c3->(∀b o,s.heap.get? b=J o->h'.get? b=J o)->Q us { s with heap:=h',toks:=tk}):ba (bg X.R X.w) A' (collect u) Q E s:=by
 induction t using T.casesOn with
 |aj aQ =>
  ext h
  let(a,aa,rfl,e,q):=r
  ext bb
  let(aX,bb,p,hz):=I.list e.gK;let(o,aV,aN,n,hd):=p.isList;let pM:aX.D.O<=c3:=by rw[eL];first|show hz|(rw[<-bb.H];show hz)
  show wpAny_collect_seq a (.inl D) aV aN hd (λh' bP=>k aX aa h' s.toks bb q (by simpa using pM) bP) pM
 |aE aQ =>
  ext h
  let(a,aa,rfl,e,q):=jf r
  ext bb
  let(aX,bb,p,hz):=I.tuple<|eC.of (K:=X.K) e;let(o,aV,aN,n,hd):=id p;let pM:aX.D.O<=c3:=by rw[eL];first|show hz|(rw[<-bb.H];show hz)
  show wpAny_collect_seq a (.inr D) aV aN hd (λh' bP=>k aX aa h' s.toks bb q (by simpa using pM) bP) pM
 |a3 au =>
  ext h
  let(a,ws,rfl,na,e,q):=r
  ext bb
  let(z,hd,us,rel,dd):=iA I.bE e;let(ep,dC):=dd.dictAt;let aC:ws.H=us.H:=KQ rel;show W.kdu_collect (W.kdl_dict (knd:=gF X.R X.w) («kvs»:=us) (ep:=ep) hd) bh dC (by rw[<-aC];show z) λh' tk Fa bP hi=>?_;let(aa,af,ao):=sv (L:=L) (H:=H) (xs:=au.map λc4=>ip c4.1) (us:=Fa.B) (by rw[fP,hi.1,cj,cG.length q,aC]) λi w e =>
   NB (X:=X) (a:=a) (s:=s) (ae:=ae) (U:=U) q rel i w (hi.2 i w<|by rw[<-js];show e)
  show k _ aa h' tk af ao (by rw[fP,hi.1,<-aC];show z) bP
 |_=>ext h
theorem ND:∀{us:O ay} {ns:O X6},gf us ns->cA (ns.map V.int) us
 |_,_,.nil=>.nil
 |_,_,.cons n t h=>.cons {(t),D}<|ND h
theorem ob:∀{ns:O X6} {us:O ay},cA (ns.map V.int) us->gf us ns
 |[],_,.nil=>.nil
 |n::ns,_,.cons ⟨t,e⟩ h=>by subst e;show .cons n t<|ob h
def ajv(bh:X.A.handled=C):ff X L (λus=>call (.type "list") us) od:=by
 intro B ae s U H aa us aD n t m Q I bb aZ aJ e k
 induction aD using Yn with
 |nil=>ext e
 |cons dI e3 =>
  induction dI using T.casesOn with
  |aj xs =>
   induction e3 using Yn with
   |nil =>
    ext e
    let(v,rfl,a,fK,rfl,cf,cN):=hL aZ;show MS ae s U H _ us Q I bb {a,fK,D,.inl cf.gK,λl aC=>k _ _ (.new aC) (aJ.new aC) {l,D,aC,_,eS,bJ.mono (.new aC) _ _ cN}}
   |cons _ _=>ext e
  |aE xs =>
   induction e3 using Yn with
   |nil =>
    ext e
    let(v,rfl,r):=hL aZ;let(a,fK,rfl,cf,cN):=jf r;show MS ae s U H _ us Q I bb {a,fK,D,.inr<|eC.of cf,λl aC=>k _ _ (.new aC) (aJ.new aC) {l,D,aC,_,eS,bJ.mono (.new aC) _ _ cN}}
   |cons _ _=>ext e
  |a3 au =>
   induction e3 using Yn with
   |nil =>
    ext e
    let(v,rfl,a,ws,rfl,na,cf,q):=hL aZ;let(u,rfl,eF):=bb.one
    ext eF
    let(z,hd,us,rel,dd):=iA I.bE cf;let(ep,dC):=dd.dictAt;let aC:ws.H=us.H:=KQ rel;show W.kdl_call (W.kdl_dict (knd:=gF X.R X.w) («kvs»:=us) (ep:=ep) hd) bh dC (by rw[<-aC];show z) λh' tk Fa c bP fc hi=>?_;let(aa,af,ao):=sv (L:=L) (H:=H) (xs:=au.map λc4=>ip c4.1) (us:=Fa.B) (by rw[fP,hi.1,cj,cG.length q,aC]) λi w e =>
     NB (X:=X) (a:=a) (s:=s) (ae:=ae) (U:=U) q rel i w (hi.2 i w<|by rw[<-js];show e)
    let aF:H s.L=C:=I.bE.fresh<|b3 _;let d1:=I.laid (a:=s.L) (o:=.aj aa) (t':=tk) (h':=h') bP (b3 _) {by rw[af.H,fP,hi.1,<-aC];show z,Fa.B,c,af,by simpa using fc};show{.ref s.L,_,d1,D,k _ _ (.new aF) (aJ.new aF) {_,D,aF,_,eS,bJ.mono (.new aF) _ _ ao}}
   |cons _ _=>ext e
  |_=>ext e
def _root_.a9.aO.xW(I:aO X ae U H s)(h:H a=J (.aE xs)):∃aX:O ay,cA xs aX/\lK s.Q a aX.D/\xs.H<=c3:=by let(z,aX,r,p):=I.bE a _ h;show{(aX),r,p,z}
noncomputable def isInt(j:X6):ay->Yc
 |.int i _=>i==j
 |_=>Y1
def aav(j:X6)(h:gf us ns):us.countP (isInt j)=(ns.filter λx=>x==j).H:=by
 induction h with
 |nil=>rfl
 |cons n t h aT =>
  rw[nP,tm,aT];show _+(if(n==j)=Y0 then 1 else 0)=_;cases n==j<;>simp
def alh(h:gf us ns)(aP:y∈us):∃i t,y=.int i t:=by
 induction h with
 |nil=>ext aP
 |cons n t h aT =>
  rcases ei.mp aP with rfl|aP
  .show{(n),t,D}
  .show aT aP
def aaw{k:Y}(a7:uw k [to,te]=J (t1,c9)):∃xs j ns,to=.aE xs/\te=.int j/\eU xs=J ns/\t1=.int (ns.filter λx=>x==j).H/\c9=.ah:=by
 induction to using T.casesOn with
 |aE xs =>
  induction te using T.casesOn with
  |int j =>
   let(ns,af,ao):=dm (show(eU xs).map _=_ from a7)
   ext ao
   show{(xs),j,ns,D,D,af,D,D}
  |_=>ext a7
 |_=>ext a7
def ali{o e:Yd}{en hV:bK}{apos dk:Yh}(aV:bI X L o en)(he:bI X L e hV)(m:yF X o "count" apos e dk):bI X L (.Call (.Attribute o "count" apos) [e] [] dk)<|aB uw<|ag en<|ag hV aw:=by
 intro B S n t ko n' hd ae s U H Q I ⟨R,k⟩;let(to,mo,no,te,wx,f1,g1,a7):=aja hd;let(xs,j,ns,qv,t2,hi,ef,em):=aaw a7;subst qv t2 ef em;show yo m.d m.mv m.line PySem.F.plainAttrs_tuple PySem.F.slot_tuple_count PySem.F.type_tuple_count (bZ (aV.run f1 I R) λu s1 ⟨v,H1,bf,bp,a1,bt,b0⟩=>?_);let(a,fK,rfl,cf,cN):=jf<|b0.root bt R.aJ
 ext bp
 let(aX,q1,(fu,nx,aax,H6,_),_):=bf.xW cf;show{{(fu),nx,aax},λb e=>?_,?_}
 .ext e;show{(fu),nx,H6}
 .rw[m.trees];show qf D<|tD<|i0 (bZ (he.run g1 bf bt) λhv s2 ⟨y,br,cI,d8,a2,de,dP⟩=>ly ?_);obtain rfl:=iT<|dP.root de bt.aJ;let(tk,rfl):=d8;let aay:br a=J (.aE fK):=a2.to a _ cf<|bt.aJ.E1 cf;let(aX,q2,((cls,dd,data,c8),aV,aN,hd,nn,nI),_):=cI.xW aay;simp only at aN nI
  subst aN nI
  let UU:=nv hi;subst UU;let aaz:=sl cN;subst aaz;let rW:=ob q2;let afn:=aav j rW;show mV PySem.F.slot_tuple_count {_,aV,D} PySem.F.entry_tuple_count (PySem.F.args_tuple_count_2 _ _) (PySem.SeqAt.tuple_countAt a aX.D nn dd c8 (.int j tk)<|isInt j) ⟨aV,λy aP=>?_,?_⟩
  .let aP:y∈aX:=by simpa using aP
   let:=alh rW aP;let(i,t,rfl):=this;show PySem.SeqAt.EqAt.int_int i t j tk
  .show{.int _,br,cI.tok _,{_,D},?_};show Q (.int ((List.countP (isInt j) aX.D.B:Y):X6)) br;rw[show aX.D.B=aX from D,afn];show k _ br (a1.trans a2) de.aJ (by show aH L br (.int _) _;rw[aH])
def aaA:typeLookup (.type "list") "keys" = pure C:=by rw[BD,BA];kernel_rfl
def aaB{k:Y}
  (ax:s.heap.get? a=J o) (aN:o.cls=.type "list") (nI:o.e=.seq xs k) (hd:o.dict=C) (dt:A.handled=C)
  (h:∀h' tk,(∀b o,s.heap.get? b=J o->h'.get? b=J o)->Q C { s with heap:=h',toks:=tk}) :
  ba Z7 A (getAttr? (.ref a) "keys") Q E s:=by
 let(c,aaC,dat,c8):=o;simp only at aN nI hd;subst aN nI hd;let(aF,g,d,tk,os):=s;let gg:∀C2,({(aF),g,d,C2,os}:aL).TypeIs (.ref a) "list":=λ_=>{_,ax,D}
 let f1:=sub_AttributeError;let dW:=F.slot_list_getattribute.lookup;let f4:=F.slot_list_getattribute.bind<|.ref a;let gT:=am_list_getattr_none;delta getAttr? getAttrBy? getAttrBy
 repeat (any_goals (first|assumption|show gg _|((with_reducible show ba _ _ (call (Value.builtin "list.__getattribute__") _ _) _ _ _);show mV F.slot_list_getattribute (gg _) am_entry_list_getattribute (F.args_list_getattribute_2 _ _) (meets_getattribute_miss_list a xs k c8 "keys" _ aaA (by decide)) ⟨ax,dt,λh' C2 e eT=>?_⟩)|wp_step))
 let(t',e7,he):=eT.there;show ba _ _ (getattributeRaised _ _ _ _ _ _ _) _ _ _;delta getattributeRaised
 repeat (any_goals (first|assumption|wp_step))
 show h _ _ eT.keeps
def NF:yu table "dict.update.loop" = J Builtin.«dict.update.loop»:=entryFor_of_tree (by kernel_rfl)
def C4:plainId "dict.update.loop" = Y0:=by decide+kernel
section
variable {prog:di}{w:cL}{K:Type}[DecidableEq K]{knd:KeyKind prog w K}{A:dz}{R:Result->aL->Prop}{I d:X7}{fp wr:O X7}{P:Y->ay->Prop}{St:Y->Yg->Prop}
noncomputable def th(ps:O<|K×ay):O<|K×ay:=ps.foldl (λm p=>o9 m p.1 p.2) []
def aaD(m:O<|K×ay)(k:K)(v:ay):(o9 m k v).H<=m.H+1:=by
 delta o9;split
 .rw[cj];show hF _ _
 .rw[hM];simp
def aaE(ps:O<|K×ay):∀m:O (K×ay),(ps.foldl (λm p=>o9 m p.1 p.2) m).H<=m.H+ps.H:=by
 induction ps with
 |nil=>intro m;simp
 |cons p ps aT =>
  intro m;rw[jR];let af:=aT<|o9 m p.1 p.2;let ao:=aaD m p.1 p.2;rw[d4];lia
def aaF{h₀:Yg}{ps:O<|K×ay}(W:Walks prog w A.in1 I fp wr ps.H P St)(sj:d∉fp)(res:ay)(bq:ps.H<=c3)
  (ez:∀i v,P i v->∃b k key x o m,v=.ref b/\b≠d/\b∉wr/\h₀.get? b=J o/\o.cls=.type "tuple" /\ o.e=.seq #[key,x] m/\knd.is k key=Y0/\ps[i]?=J (k,x)) :
  ∀(j i:Y) (s:aL),ps.H-i=j->i<=ps.H->St i s.Q->(∀b o,b≠d->b∉wr->h₀.get? b=J o->s.heap.get? b=J o)->s.heap.DictOf knd d (th<|ps.take i) ->
  (∀h' tk,(∀b o,b≠d->b∉wr->h₀.get? b=J o->h'.get? b=J o)->h'.DictOf knd d (th ps)->R (.ok<|.ret res) { s with heap:=h',toks:=tk}) ->
  kS Z7 A (.builtin "dict.update.loop" {[.ref d,.ref I,fF i,res],[]}) R s:=by
 let NG:d∉wr:=λh=>sj<|W.sub _ h;intro j
 induction j with
 |zero =>
  intro i s bO hi k4 aY hT gk;let lW:i=ps.H:=(iZ hi<|ii bO)
  subst lW;show oZ NF ?_;rw[KV C4 _];show ba _ A.in1 (kT (.ref I) >>= _) _ _ s;show aU (W.done s _ _ k4 λh' tk hm=>?_);rw[vz]at hT;show aU<|bG ?_;show bG<|gk h' tk (λb o aq hw e=>hm b o hw<|aY b o aq hw e) (let ⟨o,es,ep,aV,r⟩:=hT;{o,es,ep,hm d o NG aV,r})
 |succ j aT =>
  intro i s bO hi k4 aY hT gk;let dp:i<ps.H:=(Fs<|vC<|dK bO.symm)
  show oZ NF ?_;rw[KV C4 _];show ba _ A.in1 (kT (.ref I) >>= _) _ _ s;show aU (W.item i s _ _ dp k4 λv h' tk aF afo hm=>?_);let(b,k,key,x,o,m,rfl,aaG,aaH,aV,aN,nI,lg,C5):=ez i v aF;let oo:∀b o,b≠d->b∉wr->h₀.get? b=J o->h'.get? b=J o:=λb o aq hw e=>hm b o hw<|aY b o aq hw e;let w2:=oo b o aaG aaH aV;let aaI:h'.DictOf knd d<|th<|ps.take i:=let ⟨o,es,ep,aV,r⟩:=hT;{o,es,ep,hm d o NG aV,r}
  show aU<|jT ?_;show aU<|BF ?_;delta Builtin.Dict.pairItems;show aU<|qh (T:="tuple") {(o),w2,aN} ?_;rw[Y2 Z0];show aU<|tH w2 nI ?_;show bG ?_;show ba _ _ (me [key,x]<|dictSet d key x) _ _ _;let d5:(th<|ps.take i).H<=c3:=by let:=aaE (ps.take i) [];rw[lr]at this;delta th;simp at this;lia
  show jT<|wpAny_dictSet_pairs (s:={ s with heap:=h',toks:=tk}) lg aaI (λao uI iR=>?_) d5;let Kx:th (ps.take<|i+1)=o9 (th<|ps.take i) k x:=by
   let:ps.take (i+1)=ps.take i++[(k,x)]:=by rw[qbe,C5];rfl
   delta th;rw[this,Fe];rfl
  show bG {nU C4 _,?_};show aT (i+1) { s with heap:=ao,toks:=tk+1} Z5 dp (W.frame _ _ _ afo λc qH cW e=>?_) (λc cW aq hw e=>?_) (by rw[Kx];show uI) λa6 H7 uL aaJ=>gk a6 H7 uL aaJ
  .let:c≠d:=λz=>sj<|z▸qH;show(iR.2 c this).trans e
  .show(iR.2 c aq).trans (oo c cW aq hw e)
end
def alj{k:Key}(h:iI t=J k)(r:aH L H t v):v=eH k:=by
 induction t using T.casesOn with
 |int i=>ext h;rw[aH]at r;show r
 |str x=>ext h;rw[aH]at r;show r
 |_=>ext h
def ahS(H:aI)(P:di)(w:cL)(h:Yg)(v:V)(u:ay)(k:Key)(x:V)(y:ay):Prop :=
 ∃b o m key,v=.ref b/\u=.ref b/\H b=J (.aE [eH k,x])/\h.get? b=J o/\o.cls=.type "tuple" /\ o.e=.seq #[key,y] m/\(gF P w).is k key=Y0/\cU x y
theorem pairs_at{ae:O Z2}{s:aL}{U:St}{H:aI}(I:aO X ae U H s):∀{xs:O T} {ps:O (Key×T)} {aa:O V} {us:O ay},qa xs=J ps->bJ L H xs aa->cA aa us ->
  ∃(ws:O (Key×V)) (aQ:O (Key×ay)),cG L H ps ws/\e6 ws aQ/\aQ.H=us.H/\∀(i:Y) (u:ay),us[i]?=J u->∃v k x y,ahS H X.R X.w s.Q v u k x y/\aQ[i]?=J (k,y)
 |[],ps,aa,us,h,r,bb=>by
  ext h
  cases ig r
  ext bb
  show{[],[],by rw[cG],.nil,D,λi u e=>by simp at e}
 |t::xs,ps,aa,us,h,r,bb=>by
  have⟨kt,wz,k,xf,aA,av,a7,bM⟩:∃kt wz k xf,t=.aE [kt,wz]/\iI kt=J k/\qa xs=J xf/\ps=(k,wz)::xf:=by
   match t,h with
   |.aE [kt,wz],h =>
    let(k,af,ao):=b5 (show(iI kt).bind _=_ from h);let(xf,a6,cS):=dm ao;show{(kt),wz,k,xf,D,af,a6,cS.symm}
  subst aA bM;let(v,iU,rfl,bp,b8):=gH r;cases bb with
  |cons aaK aaL =>
   rename_i u q4;let(ws,aQ,g1,g2,g3,gv):=pairs_at I a7 b8 aaL;let(b,fK,rfl,aq,q):=jf (K:=X.K) bp;let(aaM,anq,rfl,aR,a4):=gH q;let(NH,anE,rfl,cQ,fQ):=gH a4;cases ig fQ;let qu:aaM=eH k:=alj av aR;subst qu
   ext aaK
   let(aX,rU,(o,aV,aN,NI,m,nI),_):=I.xW aq;let(UW,LN,rfl,rk,d8):=rU.two;show{(k,NH)::ws,(k,LN)::aQ,w9 cQ g1,.cons {(D),d8} g2,by rw[d4,d4,g3],λi u e=>?_};cases i with
   |zero =>
    let e:Uu b=u:=by simpa using e
    subst e;show{.ref b,k,NH,LN,{b,o,m,UW,D,D,aq,aV,aN,nI,wX rk,d8},D}
   |succ i =>
    let(v,gD,x,y,dh,cy):=gv i u (by simpa using e);show{v,gD,x,y,dh,by simpa using cy}
theorem cG.fold:∀{ps:O (Key×T)} {ws:O (Key×V)},cG L H ps ws->∀{d:O (Key×T)} {e:O (Key×V)},cG L H d e->cG L H (ps.foldl (λd p=>jG d p.1 p.2) d) (ws.foldl (λd p=>il d p.1 p.2) e)
 |[],_,r,_,_,q=>by rw[cG]at r;subst r;show q
 |(k,x)::ps,_,r,d,e,q=>by rw[cG]at r;let(v,eM,rfl,bp,b8):=r;show cG.fold b8<|cG.put k bp q
def e6.fold:∀{ws:O (Key×V)} {aQ:O (Key×ay)},e6 ws aQ->∀{d:O (Key×V)} {e:O (Key×ay)},e6 d e->e6 (ws.foldl (λd p=>il d p.1 p.2) d) (aQ.foldl (λd p=>o9 d p.1 p.2) e):=by
 intro ws aQ r;delta e6 at r
 induction r with
 |nil=>intro d e q;show q
 |cons h t aT =>
  intro d e q;rename_i a b as bs;let(k,v):=a;let(gD,y):=b;let(af,ao):=h;simp only at af ao;subst af;show aT<|e6.put q k ao
def alk(ws:O<|Key×V):∀d:O (Key×V),(ws.foldl (λd p=>il d p.1 p.2) d).H<=d.H+ws.H:=by
 induction ws with
 |nil=>intro d;simp
 |cons p ps aT =>
  intro d;rw[jR];let af:=aT<|il d p.1 p.2;let ao:(il d p.1 p.2).H<=d.H+1:=by
   delta il;split
   .rw[cj];show hF _ _
   .rw[hM];simp
  rw[d4];lia
theorem NJ:∀{xs:O T} {ps:O (Key×T)},qa xs=J ps->ps.H=xs.H
 |[],_,h=>by ext h;rfl
 |t::xs,ps,h=>by
  match t,h with
  |.aE [kt,wz],h =>
   let(k,af,ao):=b5 (show(iI kt).bind _=_ from h);let(xf,a6,cS):=dm ao;subst cS;rw[d4,d4,NJ a6]
def ajw(bh:X.A.handled=C):ff X L (λus=>call (.type "dict") us) qQ:=by
 intro B ae s U H aa us aD n t m Q I bb aZ aJ e k
 induction aD using Yn with
 |nil=>ext e
 |cons dI e3 =>
  induction dI using T.casesOn with
  |a3 au =>
   induction e3 using Yn with
   |nil =>
    ext e
    let(v,rfl,a,ws,rfl,na,cf,q):=hL aZ;let(u,rfl,eF):=bb.one
    ext eF
    show ak2 I cf λp s' aF d1=>{.ref p,_,d1,D,k _ _ (.new aF) (aJ.new aF) {p,D,aF,_,eS,cG.mono (.new aF) _ _ q}}
   |cons _ _=>ext e
  |aj xs =>
   induction e3 using Yn with
   |nil =>
    let(ps,aA,av):=b5 (show(qa xs).bind _=_ from e);split at av
    .rename_i afp
     ext av
     let(v,rfl,a,fK,rfl,cf,cN):=hL aZ;let(u,rfl,eF):=bb.one
     ext eF
     let(aX,bp,(o,nn,aV,aN,NI,nI),hz):=I.list cf.gK;let(ws,aQ,g1,g2,g3,gv):=pairs_at I aA cN bp;let fS:=NJ aA;let aaN:aQ.H=ps.H:=by rw[g3,<-bp.H,<-cN.H,fS]
     let Cy:ws.H=ps.H:=(cG.length g1).symm;let aaO:ps.H<=c3:=pJ<|ed afp;show callType_codes (Q₁:=λobj dO=>obj=.ref s.L/\dO={ s with heap:=s.heap.push { cls:=.type "dict",data:=.dict #[]}}) F.kt_called_dict (F.kt_typeCall_dict_1 _) F.entry_dict_init (kt_code_dict_new _ ⟨D,D⟩) ?_;rintro obj dO ⟨rfl,rfl⟩;let Ko:(s.heap.push { cls:=.type "dict",data:=.dict #[]}).DictOf (gF X.R X.w) s.L []:=Heap.DictOf.new s.Q;show{Ko.typeIs,F.args_dict_init_2 _ _,?_};let NK:a<s.L:=d6 aV;let nx:=dG { cls:=.type "dict",data:=.dict #[]} aV;delta Builtin.«dict.__init__»;show aU ?_;delta Builtin.Dict.selfAndRest;show aU<|FP Ko.typeIs ?_;show ba _ _ (pure (s.L,[Uu a])) _ _ _;show bG ?_;show ba _ _ (Builtin.Dict.updateFrom "dict.__init__" s.heap.objs.size (.ref a) [] .none) _ _ _;delta Builtin.Dict.updateFrom;show aU<|qh (T:="list") ⟨o,nx,aN⟩ ?_;rw[Y2 Z0];show aU (aaB nx aN nI NI bh λh' tk bP=>?_);rw[Y2<|by rfl];show aU<|jt ?_;let kF:h'.IsList a aX.D:={o,bP a o nx,aN,nn,nI}
     let NL:h'.DictOf (gF X.R X.w) s.L []:=let ⟨cW,es,ep,jc,r⟩:=Ko;{cW,es,ep,bP _ _ jc,r}
     let Ez:s.L<h'.E.O:=let ⟨cW,es,ep,jc,r⟩:=NL;d6 jc
     let hsz:aX.D.O=aQ.H:=by rw[eL,g3]
     let bx:a≠h'.E.O:=eE<|vG NK Ez;show aU<|yn kF ?_;show bG ⟨nU C4 _,?_⟩;let W:=Walks.list (prog:=X.R) (w:=X.w) (A:=X.A.in1.in1) bh h'.E.O a bx aX.D;rw[hsz]at W;show aaF (knd:=gF X.R X.w) (h₀:=h') (ps:=aQ) W (λhm=>?_) .none (by rw[aaN];show aaO) (λi v aF=>?_) aQ.H 0 _ D (f9 _) {{_,fa _ D,D,D},kF.push _} (λb cW _ _ e=>dG _ e) (NL.push _) λao xg jg uI=>?_
     .simp at hm;rcases hm with hm|hm
      .show Yi Ez (by rw[<-hm];show nR _)
      .show Yi NK (by rw[<-hm];show nR _)
     .let(h6,gD,x,y,(b,cW,fG,key,rfl,rfl,_,aq,aaP,gz,lg,_),aP):=gv i v (by simpa using aF);let Sb:b<s.L:=d6 aq;show{b,gD,key,y,cW,fG,D,eE Sb,by simp;show eE<|vG Sb Ez,bP b cW<|dG _ aq,aaP,gz,lg,aP}
     .let aF:H s.L=C:=I.bE.fresh<|b3 _;let H8:(ws.foldl (λd p=>il d p.1 p.2) []).H<=c3:=by let:=alk ws [];simp at this;lia
      let d1:=I.laid (a:=s.L) (o:=.aS<|ws.foldl (λd p=>il d p.1 p.2) []) (t':=xg) (h':=ao) (λb u q=>jg b u (eE<|d6 q) (by simp;show eE<|vG (d6 q) Ez)<|bP b u<|dG _ q) (b3 _)
       (Cw H8 (beq_eq_false_iff_ne.mpr<|Yw<|eE I.bl) (e6.fold g2 .nil) uI)
      show{D,.ref s.L,_,d1,D,k _ _ (.new aF) (aJ.new aF) {_,D,aF,_,eS,cG.mono (.new aF) _ _ (cG.fold g1<|by rw[cG])}}
    .ext av
   |cons _ _=>ext e
  |_=>ext e
end
end a9.bD
namespace a9.Tm
open PySem PyProof.Rows
section
variable {U:Type}{M:Model}{A:dz}{E:ay->aL->Prop}{s:aL}{α β:Type}{Q:α->U->Prop}{st:U}
def sx(h:wpS M A E s m Q st):ba M A (m st) (λr s'=>s'=s/\Q r.1 r.2) E s:=h
end
section
variable {U:Type}{M:Model}{A:dz}{E:ay->aL->Prop}{s:aL}{α:Type}{Q:α->U->Prop}{st:U}{m₁ m₂:StateT U Sem α}
def ih[Decidable c](af:c->wpS M A E s m₁ Q st)(ao:¬c->wpS M A E s m₂ Q st):wpS M A E s (if c then m₁ else m₂) Q st:=by
 split
 .show af ‹_›
 .show ao ‹_›
def jh{x y:Y}(af:x=y->wpS M A E s m₁ Q st)(ao:x≠y->wpS M A E s m₂ Q st):wpS M A E s (if(x==y)=Y0 then m₁ else m₂) Q st :=
 ih (λc=>af<|eq_of_beq c) λc=>ao λe=>c<|beq_iff_eq.mpr e
def sy[Decidable p](af:p->wpS M A E s m₁ Q st)(ao:¬p->wpS M A E s m₂ Q st):wpS M A E s (if decide p=Y0 then m₁ else m₂) Q st :=
 ih (λc=>af<|Ld c) λc=>ao λe=>c<|XQ e
end
def oq{U:Type}{M:Model}{α:Type}{m:StateT U Sem α}{Q:α->U->Prop}{st:U}(h:∀eJ,eJ=Q->wpS M A E s m eJ st):wpS M A E s m Q st:=h Q D
def ot{β:Type}{v:β}{G:β->Prop}(P:β->Prop)(bX:P v)(h:∀x,P x->G x):∀x,x=v->G x:=λx e=>h x<|e▸bX
def NM:Yc->bV->Ye bV->Y->Y->Y->StateT dM Sem (X8 Y):=sortPriv% PySem.Builtin.gallop
section
variable {prog:di}{w:cL}{A:dz}{E:ay->aL->Prop}{s:aL}{κ:v7}{dx:Ye bV}{rk:bV->Y}
def mI(prog:di)(w:cL)(A:dz)(E:ay->aL->Prop)(s:aL)(κ:v7)(dx:Ye bV)(rk:bV->Y):Prop :=
 ∀(st:dM) (x y:bV) (Q:X8 Yc->dM->Prop),g6 st=κ->x∈dx->y∈dx->Q (J<|decide (rk x<rk y)) st->wpS Z7 A E s (lt' x y) Q st
noncomputable def at_(rk:bV->Y)(xs:Ye bV)(i:Y):Y:=(xs[i]?.map rk).getD 0
def fO(rk:bV->Y)(xs:Ye bV)(lo hi:Y):Prop:=∀i j,lo<=i->i<=j->j<hi->at_ rk xs i<=at_ rk xs j
def hZ{arr:Ye bV}{i:Y}{st:dM}{Q:bV->dM->Prop}(h:i<arr.O)(q:Q arr[i] st):wpS Z7 A E s (elem' arr i) Q st:=by rw[elem'_eq,rH h];show c7 q
def hp(rk:bV->Y)(left:Yc)(key:bV)(arr:Ye bV)(i:Y):Yc:=if left then decide (at_ rk arr i<rk key) else !decide (rk key<at_ rk arr i)
def gI{i:Y}(h:i<xs.O):at_ rk xs i=rk xs[i]:=by delta at_;rw[rH h];rfl
def alm{left:Yc}{base n:Y}(aM:fO rk arr base<|base+n){i j:Y}(iD:i<=j)(bO:j<n)(h:hp rk left key arr (base+j)=Y0):hp rk left key arr (base+i)=Y0:=by
 let:=aM (base+i) (base+j) (hF _ _) (hP iD _)<|mR bO _;delta hp at *
 ext left
 .simp at h |-;show bF this h
 .simp at h |-;show gR this h
def aaQ(eV:mI prog w A E s κ dx rk){st:dM}(aY:g6 st=κ){left:Yc}{key:bV}{arr:Ye bV}{i:Y}(lg:key∈dx)(Kp:∀x∈arr,x∈dx)(hi:i<arr.O)
  {Q:X8 Yc->dM->Prop} (h:Q (J<|hp rk left key arr i) st):wpS Z7 A E s (do
   let x<-elem' arr i
   if left=Y0 then lt' x key else do
    let y<-lt' key x
    pure (Option.map (λx=>!x) y)) Q st:=by
 show cz<|hZ hi ?_;let hm:arr[i]∈dx:=Kp _<|ci hi;delta hp at h;rw[gI hi]at h;cases left with
 |true=>rw[Y2 D]at h |-;show eV st _ _ _ aY hm lg h
 |false =>
  rw[Y3 Z0]at h |-;show cz<|eV st _ _ _ aY lg hm<|c7 h
inductive r4 {S:Type} (tw R:Y->Prop) (cH:dM) (n d:Y):X8 S×Y×Y->dM->Prop
 |mk (l r:Y) (af:l<=r) (ao:r<=n) (a6:r-l<=d) (gv:∀i,i<l->tw i) (m8:∀i,r<=i->i<n->R i):r4 tw R cH n d (C,l,r) cH
inductive yQ {S:Type} (T F:Y->Prop) (cH:dM) (x:Y):X8 S×Y×Y->dM->Prop
 |mk (cw f:Y) (af:T cw) (a6:cw<f) (cS:x+1<=f\/F f):yQ T F cH x (C,cw,f) cH
def SM{l r:Y}(h:l<r):(r-l) / 2<r-l:=Nat.div_lt_self (Ft h) Z0
def half{l r:Y}(h:l<r):l<=l+(r-l) / 2/\l+(r-l) / 2<r:={hF _ _,Nat.add_lt_of_lt_sub'<|SM h}
def TB{l r n x:Y}(h:l<r)(d:r-l<=n-x):r-(l+(r-l) / 2+1)<=n-(x+1)/\l+(r-l) / 2-l<=n-(x+1):=by let e:r-(l+1)<=n-(x+1):=Fn d 1;show{bF (Fq (vD (half h).1) r) e,bF (by rw[yc];show Fo<|SM h) e}
def twice{x f:Y}(h:x+1<=f):f<2*f+1/\x+1+1<=2*f+1:={ts<|qbl _ Z0,vD<|bF h<|qbl _ Z0}
def xh(eV:mI prog w A E s κ dx rk){st:dM}(aY:g6 st=κ){left:Yc}{key:bV}{arr:Ye bV}{base n hint:Y}(lg:key∈dx)(Kp:∀x∈arr,x∈dx)(aq:base+n<=arr.O)(bh:hint<n)(aM:fO rk arr base<|base+n)
  {Q:X8 Y->dM->Prop} (h:∀k,k<=n->(∀i,i<k->hp rk left key arr (base+i)=Y0)->(∀i,k<=i->i<n->hp rk left key arr (base+i)=Y1)->Q (J k) st):wpS Z7 A E s (NM left key arr base n hint) Q st:=by
 delta NM;delta wpS;wp_delta;wp_delta;show sx ?_;dsimp only;let pos:∀{i j:Y},i<=j->j<n->hp rk left key arr (base+j)=Y0->hp rk left key arr (base+i)=Y0:=λiD bO=>alm aM iD bO;let neg:∀{i j:Y},i<=j->j<n->hp rk left key arr (base+i)=Y1->hp rk left key arr (base+j)=Y1:=λ{i j} iD bO hf=>by
  cases e:hp rk left key arr (base+j) with
  |false=>rfl
  |true=>rw[pos iD bO e]at hf;show hf
 let at':∀{i:Y},i<n->base+i<arr.O:=λhi=>d0 (mR hi _) aq;revert pos neg;generalize dB:(λi=>hp rk left key arr<|base+i)=B;let NN:∀i,hp rk left key arr (base+i)=B i:=λi=>congrFun dB i;erw[NN]at h |-;intro pos neg
 let ask:∀{i:Y} {Q:X8 Yc->dM->Prop},i<n->Q (J<|B i) st->wpS Z7 A E s (do
   let x<-elem' arr (base+i)
   if left=Y0 then lt' x key else do
    let y<-lt' key x
    pure (Option.map (λx=>!x) y)) Q st:=λ{i Q} hi q=>aaQ eV aY lg Kp (at' hi) (by rw[NN];show q)
 show cz<|ask bh ?_;dsimp only;let fin:∀{c:X8 (X8 Y)×Y×Y} {c5:dM},r4 (λi=>B i=Y0) (λi=>B i=Y1) st n 0 c c5->∃k,c=(C,k,k)/\c5=st/\Q (J k) st:=λh'=>by let(l,r,af,ao,a6,cS,fB):=h';let:l=r:=iZ af<|ii<|iZ a6<|f9 _;subst this;show{l,D,D,h l ao cS fB}
 cases hr:B hint with
 |true =>
  rw[Y2 D]
  show cz (kU (mf
   (I:=yQ (λcw=>hint+cw<n/\B (hint+cw)=Y0) (λ_=>Ym) st)
   (Q:=yQ (λcw=>hint+cw<n/\B (hint+cw)=Y0) (λf=>n-hint<=f\/hint+f<n/\B (hint+f)=Y1) st n) ?step ?fin (.mk 0 1 {(bh),hr} Z0<|.inl Z0)) ?post)
  case fin =>
   intro c c5 fl;let(cw,f,af,ao,a6):=fl;show .mk cw f af ao<|.inr<|.inl<|a6.elim (λz=>by lia) Yz
  case step =>
   intro x c c5 _ ax fl;let(cw,f,af,ao,a6):=fl;dsimp only;show ih (λaV=>c7<|.mk cw f af ao<|.inr<|.inl aV) λaV=>?_;let hf:hint+f<n:=by lia
   show cz<|ask hf ?_;dsimp only;cases hm:B (hint+f) with
   |true =>
    rw[Y3 Z0];let t:=twice<|a6.elim id Yz;show c7<|.mk f (2*f+1) {(hf),hm} t.1<|.inl t.2
   |false =>
    rw[Y2 Z0];show c7<|.mk cw f af ao<|.inr<|.inr {(hf),hm}
  case post =>
   intro c c5 fl;let(cw,f,(af,mB),ao,a6):=fl;dsimp only
   show cz (kU (mf (I:=λx=>r4 (λi=>B i=Y0) (λi=>B i=Y1) st n<|n-x) (Q:=r4 (λi=>B i=Y0) (λi=>B i=Y1) st n 0) ?Ky ?fin2
    (.mk (hint+cw+1) (hint+min f (n-hint)) Z5 Z5 Z5 (λi hi=>pos (oV hi) af mB) λi hi lW=>?up)) ?Kz)
   case up =>
    rcases a6 with a6|a6|⟨cS,fB⟩
    .lia
    .lia
    .show neg Z5 lW fB
   case fin2 =>
    intro c c5 h';rw[Br,Bs]at h';show h'
   case Kz =>
    intro c c5 h';let(k,rfl,rfl,q):=fin h';show c7 q
   case Ky =>
    intro x c c5 _ ax h';let(l,r,af,ao,a6,cS,fB):=h';dsimp only;show ih (λje=>c7<|.mk l r af ao (dK<|Fm je) cS fB) λje=>?_;let dp:=tu je;let(c9,fY):=half dp;let(fy,g9):=TB dp a6;let i8:=d0 fY ao;show cz<|ask i8 ?_;dsimp only;cases hm:B (l+(r-l) / 2) with
    |true =>
     rw[Y2 D];show c7<|.mk _ r fY ao fy (λi fD=>pos (oV fD) i8 hm) fB
    |false =>
     rw[Y3 Z0];show c7 (.mk l _ c9 (ed i8) g9 cS λi fD lW=>neg fD lW hm)
 |false =>
  rw[Y3 Z0]
  show cz (kU (mf
   (I:=yQ (λcw=>cw<=hint/\B (hint-cw)=Y1) (λ_=>Ym) st)
   (Q:=yQ (λcw=>cw<=hint/\B (hint-cw)=Y1) (λf=>hint+1<=f\/f<=hint/\B (hint-f)=Y0) st n) ?step ?fin (.mk 0 1 {f9 _,hr} Z0<|.inl Z0)) ?post)
  case fin =>
   intro c c5 fl;let(cw,f,af,ao,a6):=fl;show .mk cw f af ao<|.inr<|.inl<|a6.elim (λz=>by lia) Yz
  case step =>
   intro x c c5 _ ax fl;let(cw,f,af,ao,a6):=fl;dsimp only;show ih (λaV=>c7<|.mk cw f af ao<|.inr<|.inl aV) λaV=>?_;let hf:f<=hint:=by lia
   show cz<|ask (gR (mc _ _) bh) ?_;dsimp only;cases hm:B (hint-f) with
   |true =>
    rw[Y2 D];show c7<|.mk cw f af ao<|.inr<|.inr {(hf),hm}
   |false =>
    rw[Y3 Z0];let t:=twice<|a6.elim id Yz;show c7<|.mk f (2*f+1) {(hf),hm} t.1<|.inl t.2
  case post =>
   intro c c5 fl;let(cw,f,(af,mB),ao,a6):=fl;dsimp only
   show cz (kU (mf (I:=λx=>r4 (λi=>B i=Y0) (λi=>B i=Y1) st n<|n-x) (Q:=r4 (λi=>B i=Y0) (λi=>B i=Y1) st n 0) ?Ky ?fin2
    (.mk (hint+1-min f (hint+1)) (hint-cw) Z5 Z5 Z5 (λi hi=>?ml) λi hi lW=>neg hi lW mB)) ?Kz)
   case ml =>
    rcases a6 with a6|a6|⟨cS,fB⟩
    .lia
    .lia
    .show pos Z5 (gR (mc _ _) bh) fB
   case fin2 =>
    intro c c5 h';rw[Br,Bs]at h';show h'
   case Kz =>
    intro c c5 h';let(k,rfl,rfl,q):=fin h';show c7 q
   case Ky =>
    intro x c c5 _ ax h';let(l,r,af,ao,a6,cS,fB):=h';dsimp only;show ih (λje=>c7<|.mk l r af ao (dK<|Fm je) cS fB) λje=>?_;let dp:=tu je;let(c9,fY):=half dp;let(fy,g9):=TB dp a6;let i8:=d0 fY ao;show cz<|ask i8 ?_;dsimp only;cases hm:B (l+(r-l) / 2) with
    |true =>
     rw[Y2 D];show c7<|.mk _ r fY ao fy (λi fD=>pos (oV fD) i8 hm) fB
    |false =>
     rw[Y3 Z0];show c7 (.mk l _ c9 (ed i8) g9 cS λi fD lW=>neg fD lW hm)
end
def NO:Ye bV->Ye bV->StateT dM Sem (Ye bV):=sortPriv% PySem.Builtin.mergeLo
def NP:Ye bV->Ye bV->StateT dM Sem (Ye bV):=sortPriv% PySem.Builtin.mergeHi
section
variable {rk:bV->Y}{cw eK o:O bV}{b6 b4:Y}
structure gx (rk:bV->Y) (cw eK o:O bV) (b6 b4:Y):Prop where
 perm:o.Perm<|cw.take b6++eK.take b4
 mC:o.Pairwise λx y=>rk x<=rk y
 pn:∀x∈o,∀y∈cw.drop b6,rk x<=rk y
 pq:∀x∈o,∀y∈eK.drop b4,rk x<=rk y
abbrev eR(rk:bV->Y)(l:O bV):Prop:=l.Pairwise λx y=>rk x<=rk y
def gx.swap(h:gx rk cw eK o b6 b4):gx rk eK cw o b4 b6:={h.perm.trans rx,h.mC,h.pq,h.pn}
def gx.app(h:gx rk cw eK o b6 b4)(a0:eR rk cw)(k:Y)(ax:∀x∈(cw.drop b6).take k,∀y∈eK.drop b4,rk x<=rk y):gx rk cw eK (o++(cw.drop b6).take k) (b6+k) b4:=by
 let hd:eR rk<|cw.drop b6:=a0.sublist<|vx _ _;let ahT:(cw.drop b6).take k++(cw.drop b6).drop k=cw.drop b6:=oQ k _;rw[<-ahT]at hd;let(af,ao,a6):=oR.mp hd;show{?_,?_,?_,?_}
 .let:cw.take (b6+k)=cw.take b6++(cw.drop b6).take k:=Fj;rw[this];show(h.perm.append_right _).trans ?_;rw[hj,hj];show(rx).append_left _
 .show oR.mpr {h.mC,af,λx ax y aP=>h.pn x ax y<|x3 aP}
 .intro x eT y aP;let uM:y∈(cw.drop b6).drop k:=by rw[Bk];show aP
  rcases iY.mp eT with eT|eT
  .show h.pn x eT y<|qa6 uM
  .show a6 x eT y uM
 .intro x eT y aP;rcases iY.mp eT with eT|eT
  .show h.pq x eT y aP
  .show ax x eT y aP
def gx.TC(h:gx rk cw eK o b6 b4)(a0:eR rk cw)(aq:eK.H<=b4):eR rk (o++cw.drop b6)/\(o++cw.drop b6).Perm (cw++eK):=by show{oR.mpr {h.mC,a0.sublist<|vx _ _,h.pn},?_};show(h.perm.append_right _).trans ?_;rw[vu aq,hj];show((rx).append_left _).trans ?_;rw[<-hj,oQ]
end
def gx.last{b6 b4:Y}(h:gx rk cw eK o b6 b4)(a0:eR rk cw)(cX:eR rk eK)(ax:∀x∈eK.drop b4,∀y∈cw.drop b6,rk x<=rk y):eR rk (o++eK.drop b4++cw.drop b6)/\(o++eK.drop b4++cw.drop b6).Perm (cw++eK):=by
 show{oR.mpr {oR.mpr {h.mC,cX.sublist<|vx _ _,h.pq},a0.sublist<|vx _ _,λx eT y aP=>?_},?_}
 .rcases iY.mp eT with eT|eT
  .show h.pn x eT y aP
  .show ax x eT y aP
 .show((h.perm.append_right _).append_right _).trans ?_;rw[hj<|cw.take b6,oQ,hj];show(Lf _ rx).trans ?_;rw[<-hj,oQ]
def gx.good{rk:bV->Y}{cw eK o:O bV}{b6 b4:Y}(h:gx rk cw eK o b6 b4)(a0:eR rk cw)(cX:eR rk eK)(ax:eK.H<=b4\/cw.H<=b6):eR rk (o++cw.drop b6++eK.drop b4)/\(o++cw.drop b6++eK.drop b4).Perm (cw++eK):=by
 rcases ax with ax|ax
 .rw[vt ax,rC];show h.TC a0 ax
 .rw[vt ax,rC];let(af,ao):=h.swap.TC cX ax;show{af,ao.trans rx}
def aaR(out:Ye bV)(x:bV):(out.push x).B=out.B++[x]:=by simp
def NQ(out a:Ye bV)(i j:Y):(out++a.extract i j).B=out.B++(a.toList.drop i).take (j-i):=by rw[vJ,Bu,Bb]
def C6(out a:Ye bV)(i:Y):(out++a.extract i a.O).B=out.B++a.toList.drop i:=by rw[NQ,vu<|by rw[oS,fP];show b3 _]
def C7(a:Ye bV){i:Y}(h:i<a.O):(a.toList.drop i).take 1=[a[i]]:=by
 let h':i<a.B.H:=by simpa using h
 rw[oP h'];simp
abbrev iW(st:dM)(g:Y):dM:=SortSt.mk' (g6 st) (cF st) (fj st) g<|qi st
inductive Gv {α β γ ζ:Type} (In:Y->α->β->γ->Prop) (st:dM) (n:Y):X8 (Ye bV)×α×β×γ×ζ->dM->Prop
 |mk (g:Y) (u:α) (v:β) (w:γ) (z:ζ) (h:In n u v w):Gv In st n (C,u,v,w,z)<|iW st g
inductive BY {α β γ ζ:Type} (G:Ye bV->Prop) (In:Y->α->β->γ->Prop) (st:dM) (n:Y):X8 (Ye bV)×α×β×γ×ζ->dM->Prop
 |ret (g:Y) (r:Ye bV) (z:α×β×γ×ζ) (h:G r):BY G In st n (J r,z)<|iW st g
 |go (g:Y) (u:α) (v:β) (w:γ) (z:ζ) (h:In n u v w):BY G In st n (C,u,v,w,z)<|iW st g
def xi{M:Model}{A:dz}{E:ay->aL->Prop}{s:aL}{α β γ ζ:Type}{In:Y->α->β->γ->Prop}{G:Ye bV->Prop}{st:dM}(m:Y->Y)(q:Y){N:Y}{f:Y->X8 (Ye bV)×α×β×γ×ζ->StateT dM Sem (ForInStep<|X8 (Ye bV)×α×β×γ×ζ)}{g:Y}{u:α}{v:β}{w:γ}{z:ζ}
  {Q:X8 (Ye bV)×α×β×γ×ζ->dM->Prop} (h:In (m 0) u v w)
  (Kx:∀x g u v w z,x<N->In (m x) u v w->wpS M A E s (f x (C,u,v,w,z)) (λr c5=>match r with|.done c0=>BY G In st q c0 c5|.yield c0=>Gv In st (m<|x+1) c0 c5) (iW st g))
  (afq:∀u v w,In (m N) u v w->In q u v w) (afr:∀g r z,G r->Q (J r,z) (iW st g)) (aaS:∀g u v w z,In q u v w->Q (C,u,v,w,z) (iW st g)):wpS M A E s (forIn [0:N] (C,u,v,w,z) f) Q<|iW st g:=by
 show kU (mf (I:=λx=>Gv In st<|m x) (Q:=BY G In st q) (λx c c5 _ ax h=>?_) (λc c5 h=>?_)<|.mk g u v w z h) λc c5 h=>?_
 .let(g,u,v,w,z,h):=h;show kU (Kx x g u v w z ax h) λr c5 h=>by ext r<;>show h
 .rw[Br]at h;let(g,u,v,w,z,h):=h;show .go g u v w z<|afq u v w h
 .rcases h with⟨g,r,z,h⟩|⟨g,u,v,w,z,h⟩
  .show afr g r z h
  .show aaS g u v w z h
section
variable {prog:di}{w:cL}{A:dz}{E:ay->aL->Prop}{s:aL}{κ:v7}{dx:Ye bV}{rk:bV->Y}
def iz(rk:bV->Y)(a b r:Ye bV):Prop:=eR rk r.B/\r.toList.Perm (a.B++b.B)
def SN(h:eR rk l){i:Y}(hi:i<l.H):∀y∈l.drop i,rk l[i]<=rk y:=by
 intro y aP;rw[oP hi]at aP;let hd:eR rk<|l.drop i:=h.sublist<|vx _ _;rw[oP hi]at hd;rcases ei.mp aP with rfl|aP
 .show b3 _
 .show(l8.mp hd).1 y aP
def gx.vn{a b out:Ye bV}{b6 b4:Y}(h:gx rk a.B b.B out.B b6 b4)(cX:eR rk b.B)(aq:b4<b.O)(ax:∀y∈a.toList.drop b6,rk b[b4]<=rk y):gx rk a.B b.B (out.push b[b4]).B b6 (b4+1):=by let:=h.swap.app cX 1 (by rw[C7 b aq];intro x eT y aP;rw[jP.mp eT];show ax y aP);rw[C7 b aq]at this;rw[aaR];show this.swap
def gx.vo{a b out:Ye bV}{b6 b4:Y}(h:gx rk a.B b.B out.B b6 b4)(a0:eR rk a.B)(bx:b6<a.O)(ax:∀y∈b.toList.drop b4,rk a[b6]<=rk y):gx rk a.B b.B (out.push a[b6]).B (b6+1) b4:=(gx.vn (a:=b) (b:=a) h.swap a0 bx ax).swap
def gx.AZ{a b out:Ye bV}{b6 b4 k:Y}(h:gx rk a.B b.B out.B b6 b4)(a0:eR rk a.B)(ax:∀x∈(a.toList.drop b6).take k,∀y∈b.toList.drop b4,rk x<=rk y):gx rk a.B b.B (out++a.extract b6 (b6+k)).B (b6+k) b4:=by rw[NQ,yc];show h.app a0 k ax
def gx.Kq{a b out:Ye bV}{b6 b4 k:Y}(h:gx rk a.B b.B out.B b6 b4)(cX:eR rk b.B)(ax:∀x∈(b.toList.drop b4).take k,∀y∈a.toList.drop b6,rk x<=rk y):gx rk a.B b.B (out++b.extract b4 (b4+k)).B b6 (b4+k):=(gx.AZ (a:=b) (b:=a) h.swap cX ax).swap
def zP{b6 b4:Y}(h:gx rk a.B b.B out.B b6 b4)(a0:eR rk a.B)(cX:eR rk b.B)(ax:b.O<=b4\/a.O<=b6):iz rk a b<|out++a.extract b6 a.O++b.extract b4 b.O:=by delta iz;rw[C6,C6];show h.good a0 cX (by simpa using ax)
def C8{b6 b4:Y}(h:gx rk a.B b.B out.B b6 b4)(a0:eR rk a.B)(cX:eR rk b.B)(ax:∀x∈b.toList.drop b4,∀y∈a.toList.drop b6,rk x<=rk y):iz rk a b<|out++b.extract b4 b.O++a.extract b6 a.O:=by delta iz;rw[C6,C6];show h.last a0 cX ax
def uN{a:Ye bV}(h:eR rk a.B){i:Y}(hi:i<a.O):∀y∈a.toList.drop i,rk a[i]<=rk y:=λy aP=>by let:=SN h (i:=i) (by simpa using hi) y aP;simpa using this
def xj{lo hi:Y}(h:eR rk a.B)(bh:hi<=a.O):fO rk a lo hi:=λi j _ iD bO=>by
 let af:i<a.O:=(gR iD<|d0 bO bh)
 let ao:j<a.O:=(d0 bO bh)
 rw[gI af,gI ao]
 let:=SN h (i:=i) (by simpa using af) a[j] (by
  rw[x5]
  show{j-i,by rw[oS,fP];lia,by rw[x7];simp;congr 1;show mQ iD})
 simpa using this
def zQ{a:Ye bV}{i k:Y}{x:bV}(h:x∈(a.toList.drop i).take k):∃j,j<k/\∃aM:i+j<a.O,x=a[i+j]:=by let(j,bO,rfl):=x5.mp h;rw[lr,oS,fP]at bO;show{j,(d0 bO<|Nat.min_le_left _ _),by lia,by rw[x8,x7];simp}
def NR:Y->StateT dM Sem Unit:=sortPriv% PySem.Builtin.setMinGallop
def C9{st:dM}{g:Y}{Q:Unit->dM->Prop}(h:Q ()<|iW st g):wpS Z7 A E s (NR g) Q st:=by delta NR;delta wpS;wp_delta;wp_delta;show sx ?_;show vZ h
structure qw (rk:bV->Y) (a b:Ye bV) (n:Y) (out:Ye bV) (b6 b4:Y):Prop where
 m:gx rk a.B b.B out.B b6 b4
 p:b6+1<a.O
 q:b4<b.O
 s:n<=b6+b4
def qw.le{n m b6 b4:Y}(h:qw rk a b n out b6 b4)(l:m<=n):qw rk a b m out b6 b4:={h.m,h.p,h.q,bF l h.s}
def aaT(eV:mI prog w A E s κ dx rk){st:dM}(aY:g6 st=κ){a b:Ye bV}(bx:∀x∈a,x∈dx)(aq:∀x∈b,x∈dx)(a0:eR rk a.B)(cX:eR rk b.B)(na:0<a.O)(nb:0<b.O)
  (hf:rk b[0]<rk a[0]) (aC:∀x∈b,rk x<rk a[a.O-1])
  {Q:Ye bV->dM->Prop} (h:∀r g,iz rk a b r->Q r (iW st g)):wpS Z7 A E s (NO a b) Q st:=by
 let same:∀r,iz rk a b r->Q r st:=λr hr=>h r (rQ st) hr;let EP:∀(b6 b4:Y),b6+1=a.O->∀x∈b.toList.drop b4,∀y∈a.toList.drop b6,rk x<=rk y:=λb6 b4 he x ax y aP=>by
  let hi:b6<a.B.H:=by rw[fP];show d0 (mS _)<|dK he
  let hd:a.toList.drop b6=[a[a.O-1]]:=by rw[oP hi,vt<|by rw[fP,he];show b3 _];simp[<-he]
  rw[hd]at aP;rw[jP.mp aP];show ed (aC x<|by simpa using qa6 ax)
 let start:gx rk a.B b.B (#[b[0]]:Ye bV).B 0 1:=gx.vn (out:=#[]) {by simp,.nil,by simp,by simp} cX nb λy aP=>bF (ed hf)<|uN a0 na y aP;delta NO;delta wpS;wp_delta;wp_delta;show sx ?_;show cz<|qj<|jt {D,?_}
 repeat fail
 show cz<|hZ nb ?_
 repeat fail
 show jh (λb0=>c7<|same _<|zP start a0 cX<|.inl<|dK b0.symm) λb0=>jh (λdP=>c7<|same _<|C8 start a0 cX<|EP 0 1 dP) λdP=>?_;show cz<|m1 ?_
 repeat fail
 show cz (xi (In:=qw rk a b) (G:=iz rk a b) (λx=>x+1) (a.O+b.O) {start,rD na dP,rD nb b0,b3 _} ?step (λ_ _ _ h=>h.le<|tB _) (λg r _ hr=>c7<|h r g hr) λg out b6 b4 bj h=>?post)
 case post =>
  let af:=h.p;let ao:=h.q;let a6:=h.s;lia
 case step =>
  intro x g out b6 b4 bj ax af;show wpS _ _ _ _ (K0 _ _) _ _;dsimp (zeta:=Y1) (zetaHave:=Y1) only;show cz (xi (G:=iz rk a b) (z:=(0,0)) (λy=>x+1+y) (x+2) af ?s1 (λ_ _ _ h=>h.le<|Bn<|qe na) (λg r z hr=>?bp) λg out b6 b4 z af=>?dh)
  case s1 =>
   intro y g out b6 b4 z aP ew;let(g1,g2,g3,gv):=ew;let(ac,qy):=z;let sz:=jr g2;show wpS _ _ _ _ (K0 _ _) _ _;dsimp (zeta:=Y1) (zetaHave:=Y1) only;show cz<|hZ g3<|cz<|hZ sz<|cz<|eV _ _ _ _ aY (aq _<|ci _) (bx _<|ci _) ?_;dsimp (zeta:=Y1) (zetaHave:=Y1) only;show sy (λhw=>?_) λhw=>?_
   .show cz (hZ g3 ?_)
    repeat fail
    let c9:=g1.vn cX g3 λy aP=>bF (ed hw)<|uN a0 sz y aP;show jh (λc=>c7<|.ret _ _ _<|zP c9 a0 cX<|.inl<|dK c.symm) λc=>?_;let bq:qw rk a b (x+1+y+1) _ b6<|b4+1:={c9,g2,rD g3 c,vD gv}
    show ih (λ_=>c7<|.go _ _ _ _ _<|bq.le Z5) λ_=>c7<|.mk _ _ _ _ _ bq
   .show cz (hZ sz ?_)
    repeat fail
    let c9:=g1.vo a0 sz λy aP=>bF (g4 hw)<|uN cX g3 y aP;show jh (λc=>c7<|.ret _ _ _<|C8 c9 a0 cX<|EP _ _ c) λc=>?_;let bq:qw rk a b (x+1+y+1) _ (b6+1) b4:={c9,rD g2 c,g3,by lia}
    show ih (λ_=>c7<|.go _ _ _ _ _<|bq.le Z5) λ_=>c7<|.mk _ _ _ _ _ bq
  case bp =>
   repeat fail
   show c7<|.ret _ _ _ hr
  case dh =>
   let(ac,qy):=z;show wpS _ _ _ _ (K0 _ _) _ _;dsimp (zeta:=Y1) (zetaHave:=Y1) only;show cz<|qj<|jt {D,?_}
   repeat fail
   show cz (xi (G:=iz rk a b) (z:=(_,ac,qy)) (λ_=>x+2) (x+2) af ?s2 (λ_ _ _ h=>h) (λg r z hr=>?b8) λg out b6 b4 z af=>?cy)
   case b8 =>
    repeat fail
    show c7<|.ret _ _ _ hr
   case cy =>
    let(bj,ac,qy):=z;show wpS _ _ _ _ (K0 _ _) _ _;dsimp (zeta:=Y1) (zetaHave:=Y1) only
    repeat fail
    show cz<|C9<|c7<|.mk _ _ _ _ _ af
   case s2 =>
     intro y g out b6 b4 z aP ew;let(g1,g2,g3,gv):=ew;let(bj,ac,qy):=z;let sz:=jr g2
     fail;fail;fail;fail;fail;fail;fail;fail;fail;fail;fail
     dsimp (zeta:=Y1) (zetaHave:=Y1) only;show oq ?_;intro eJ gq;extract_lets+onlyGivenNames-underBinder jpv;clear_value (hjpv:jpv=_);revert jpv;show ot (P:=λjp=>∀u m,wpS Z7 A E s (jp u m) eJ<|iW st g) ?qz ?k0
     case k0 =>
      subst gq;intro jp bO;show ih (λ_=>?_) λ_=>bO _ _
      fail
      show bO _ _
     case qz =>
      subst gq;intro u q5;show cz<|C9<|cz<|hZ g3<|cz (xh (st:=iW st q5) (arr:=a) (base:=b6) (n:=a.O-b6) eV aY (aq _<|ci _) bx Z5 (Ft sz) (xj a0 Z5) λk oo pP uL=>?_);dsimp (zeta:=Y1) (zetaHave:=Y1) only;let lo:∀x∈(a.toList.drop b6).take k,∀y∈b.toList.drop b4,rk x<=rk y:=λx ax y aP=>by let(j,bO,aM,rfl):=zQ ax;let:=pP j bO;delta hp at this;rw[gI aM]at this;simp at this;show bF this<|uN cX g3 y aP
      let hi:∀(aM:b6+k<a.O),rk b[b4]<rk a[b6+k]:=λaM=>by let:=uL k (b3 _) Z5;delta hp at this;rw[gI aM]at this;simpa using this
      fail
      show oq ?_;intro eJ gq;extract_lets+onlyGivenNames-underBinder jpv;clear_value (hjpv:jpv=_);revert jpv;show ot (P:=λjp=>∀u (oI:Ye bV) (pQ:Y),qw rk a b (x+2) oI pQ b4->(dp:pQ<a.O)->rk b[b4]<rk a[pQ]->wpS Z7 A E s (jp u oI pQ) eJ (iW st q5)) ?qA ?k1
      case k1 =>
       subst gq;intro jp bO;show ih (λaY=>?_) λaY=>?_
       .fail;fail
        let c9:=g1.AZ a0 lo;show jh (λc=>c7<|.ret _ _ _<|C8 c9 a0 cX<|EP _ _ c) λc=>jh (λc0=>c7<|.ret _ _ _<|zP c9 a0 cX<|.inr<|dK c0.symm) λc0=>?_;show bO _ _ _ {c9,by lia,g3,by lia} Z5<|hi Z5
       .let:k=0:=(iZ (g4 aY)<|f9 _)
        subst this;show bO _ _ _ {(g1),g2,g3,gv} sz<|hi sz
      case qA =>
       subst gq;intro u oI pQ aW zR hH;show cz<|hZ g3 ?_
       fail;fail
       let c9:=aW.m.vn cX g3 λy aP=>bF (ed hH)<|uN a0 zR y aP;show jh (λc=>c7<|.ret _ _ _<|zP c9 a0 cX<|.inl<|dK c.symm) λc=>?_;let r0:=rD g3 c;show cz<|hZ zR<|cz (xh (st:=iW st q5) (arr:=b) (base:=b4+1) (n:=b.O-(b4+1)) eV aY (bx _<|ci _) aq Z5 (Ft r0) (xj cX Z5) λk2 ny uO zS=>?_);dsimp (zeta:=Y1) (zetaHave:=Y1) only;let uP:∀x∈(b.toList.drop (b4+1)).take k2,∀y∈a.toList.drop pQ,rk x<=rk y:=λx ax y aP=>by let(j,bO,aM,rfl):=zQ ax;let:=uO j bO;delta hp at this;rw[gI aM]at this;simp at this;show bF (ed this)<|uN a0 zR y aP
       let jH:∀(aM:b4+1+k2<b.O),rk a[pQ]<=rk b[b4+1+k2]:=λaM=>by let:=zS k2 (b3 _) Z5;delta hp at this;rw[gI aM]at this;simpa using this
       fail
       show oq ?_;intro eJ gq;extract_lets+onlyGivenNames-underBinder jpv;clear_value (hjpv:jpv=_);revert jpv;show ot (P:=λjp=>∀u (vp:Ye bV) (xk:Y),qw rk a b (x+3) vp pQ xk->(dp:xk<b.O)->rk a[pQ]<=rk b[xk]->wpS Z7 A E s (jp u vp xk) eJ (iW st q5)) ?qs ?k2
       case k2 =>
        subst gq;intro jp bO;show ih (λaY=>?_) λaY=>?_
        .fail;fail
         let fY:=c9.Kq cX uP;show jh (λc0=>c7<|.ret _ _ _<|zP fY a0 cX<|.inl<|dK c0.symm) λc0=>?_;let tR:b4+1+k2<b.O:=by lia
         show bO _ _ _ {fY,aW.p,tR,by let:=aW.s;lia} tR<|jH tR
        .let:k2=0:=(iZ (g4 aY)<|f9 _)
         subst this;show bO _ _ _ {c9,aW.p,r0,vD aW.s} r0<|jH r0
       case qs =>
        subst gq;intro u vp xk dh cy gN;show cz<|hZ zR ?_
        fail;fail
        let i8:=dh.m.vo a0 zR λy aP=>bF gN<|uN cX cy y aP;show jh (λc0=>c7<|.ret _ _ _<|C8 i8 a0 cX<|EP _ _ c0) λc0=>?_;let bq:qw rk a b (x+2) _ (pQ+1) xk:={i8,rD aW.p c0,cy,by let:=dh.s;lia}
        show ih (λ_=>c7<|.go _ _ _ _ _ bq) λ_=>c7<|.mk _ _ _ _ _ bq
end
section
variable {rk:bV->Y}{cw eK R:O bV}{na nb:Y}
structure gO (rk:bV->Y) (cw eK R:O bV) (na nb:Y):Prop where
 perm:R.Perm<|cw.drop na++eK.drop nb
 mC:eR rk R
 pn:∀x∈cw.take na,∀y∈R,rk x<=rk y
 pq:∀x∈eK.take nb,∀y∈R,rk x<=rk y
def gO.swap(h:gO rk cw eK R na nb):gO rk eK cw R nb na:={h.perm.trans rx,h.mC,h.pq,h.pn}
def gO.app(h:gO rk cw eK R na nb)(a0:eR rk cw)(m:Y)(hm:m<=na)(ax:∀x∈(cw.drop m).take (na-m),∀y∈eK.take nb,rk y<=rk x):gO rk cw eK ((cw.drop m).take (na-m)++R) m nb:=by
 let hd:cw.drop m=(cw.drop m).take (na-m)++cw.drop na:=by
  let:(cw.drop m).drop (na-m)=cw.drop na:=by rw[Bk];congr 1;show mQ hm
  rw[<-this,oQ]
 let cE:cw.take na=cw.take m++(cw.drop m).take (na-m):=by let:=Fj (l:=cw) (i:=m) (j:=na-m);rw[show m+(na-m)=na from(mQ hm)]at this;show this
 let st:eR rk<|cw.take na:=a0.sublist<|x6 _ _;rw[cE]at st;let(s1,s2,s3):=oR.mp st;show{?_,?_,?_,?_}
 .show(h.perm.append_left _).trans ?_;rw[<-hj,<-hd]
 .show oR.mpr {s2,h.mC,λx eT y aP=>h.pn x (by rw[cE];show l6 _ eT) y aP}
 .intro x eT y aP;rcases iY.mp aP with aP|aP
  .show s3 x eT y aP
  .show h.pn x (by rw[cE];show ry _ eT) y aP
 .intro x eT y aP;rcases iY.mp aP with aP|aP
  .show ax y aP x eT
  .show h.pq x eT y aP
def gO.fin(h:gO rk cw eK R na nb)(a0:eR rk cw)(cX:eR rk eK)(ax:∀x∈cw.take na,∀y∈eK.take nb,rk x<=rk y):eR rk (cw.take na++eK.take nb++R)/\(cw.take na++eK.take nb++R).Perm (cw++eK):=by
 show{oR.mpr {oR.mpr ⟨a0.sublist<|x6 _ _,cX.sublist<|x6 _ _,ax⟩,h.mC,λx eT y aP=>?_},?_}
 .rcases iY.mp eT with eT|eT
  .show h.pn x eT y aP
  .show h.pq x eT y aP
 .show(h.perm.append_left _).trans ?_;let p:(cw.take na++eK.take nb++(cw.drop na++eK.drop nb)).Perm (cw.take na++cw.drop na++(eK.take nb++eK.drop nb)):=by rw[hj,hj];show Lf _ ?_;rw[<-hj,<-hj];show rx.append_right _
  rw[oQ,oQ]at p;show p
end
section
variable {prog:di}{w:cL}{A:dz}{E:ay->aL->Prop}{s:aL}{κ:v7}{dx:Ye bV}{rk:bV->Y}
def zT(a:Ye bV)(m n:Y):(a.extract m n).B=(a.toList.drop m).take (n-m):=by rw[Bu,Bb]
def aln(out:Ye bV)(x:bV):(out.push x).B.reverse=[x]++out.B.reverse:=by simp
def ajx(out c:Ye bV):(out++c.reverse).B.reverse=c.B++out.B.reverse:=by simp
def Dc(a:Ye bV)(n:Y):(a.extract 0 n).B=a.toList.take n:=by rw[zT];simp
def gO.vo{a b out:Ye bV}{na nb:Y}(h:gO rk a.B b.B out.B.reverse na nb)(a0:eR rk a.B)(h0:0<na)(bx:na-1<a.O)(ax:∀y∈b.toList.take nb,rk y<=rk a[na-1]):gO rk a.B b.B (out.push a[na-1]).B.reverse (na-1) nb:=by
 let e:(a.toList.drop<|na-1).take (na-(na-1))=[a[na-1]]:=by rw[show na-(na-1)=1 from(Nat.sub_sub_self h0),C7 a bx]
 let:=h.app a0 (na-1) (mc _ _) (by rw[e];intro x eT y aP;rw[jP.mp eT];show ax y aP);rw[e]at this;rw[aln];show this
def gO.vn{a b out:Ye bV}{na nb:Y}(h:gO rk a.B b.B out.B.reverse na nb)(cX:eR rk b.B)(h0:0<nb)(aq:nb-1<b.O)(ax:∀y∈a.toList.take na,rk y<=rk b[nb-1]):gO rk a.B b.B (out.push b[nb-1]).B.reverse na (nb-1):=(gO.vo (a:=b) (b:=a) h.swap cX h0 aq ax).swap
def gO.AZ{a b out:Ye bV}{na nb m:Y}(h:gO rk a.B b.B out.B.reverse na nb)(a0:eR rk a.B)(hm:m<=na)(ax:∀x∈(a.toList.drop m).take (na-m),∀y∈b.toList.take nb,rk y<=rk x):gO rk a.B b.B (out++(a.extract m na).reverse).B.reverse m nb:=by rw[ajx,zT];show h.app a0 m hm ax
def gO.Kq{a b out:Ye bV}{na nb m:Y}(h:gO rk a.B b.B out.B.reverse na nb)(cX:eR rk b.B)(hm:m<=nb)(ax:∀x∈(b.toList.drop m).take (nb-m),∀y∈a.toList.take na,rk y<=rk x):gO rk a.B b.B (out++(b.extract m nb).reverse).B.reverse na m:=(gO.AZ (a:=b) (b:=a) h.swap cX hm ax).swap
def zU{a b out:Ye bV}{na nb:Y}(h:gO rk a.B b.B out.B.reverse na nb)(a0:eR rk a.B)(cX:eR rk b.B)(ax:na=0\/nb=0):iz rk a b<|a.extract 0 na++b.extract 0 nb++out.reverse:=by
 delta iz;rw[vJ,vJ,Dc,Dc,Lm];show h.fin a0 cX ?_;rcases ax with rfl|rfl
 .intro x ax;simp at ax
 .intro x _ y aP;simp at aP
def Dd{a b out:Ye bV}{na nb:Y}(h:gO rk a.B b.B out.B.reverse na nb)(a0:eR rk a.B)(cX:eR rk b.B)(ax:∀x∈b.toList.take nb,∀y∈a.toList.take na,rk x<=rk y):iz rk a b<|b.extract 0 nb++a.extract 0 na++out.reverse:=by delta iz;rw[vJ,vJ,Dc,Dc,Lm];let(af,ao):=h.swap.fin cX a0 ax;show{af,ao.trans rx}
def xl{a:Ye bV}(h:eR rk a.B){n:Y}(h0:0<n)(bq:n-1<a.O):∀y∈a.toList.take n,rk y<=rk a[n-1]:=by intro y aP;let(j,bO,rfl):=x5.mp aP;rw[lr,fP]at bO;rw[x8];let:=xj (rk:=rk) (lo:=0) (hi:=a.O) h (b3 _) j (n-1) (f9 _) Z5<|bq;rw[gI<|d0 bO<|Bp _ _,gI bq]at this;simpa using this
structure jB (rk:bV->Y) (a b:Ye bV) (n na nb:Y) (out:Ye bV):Prop where
 m:gO rk a.B b.B out.B.reverse na nb
 p:0<na
 q:na<=a.O
 r:1<nb
 t:nb<=b.O
 s:n+na+nb<=a.O+b.O
def jB.le{n m na nb:Y}(h:jB rk a b n na nb out)(l:m<=n):jB rk a b m na nb out:={h.m,h.p,h.q,h.r,h.t,by let:=h.s;lia}
def jB.ga{n na nb:Y}(h:jB rk a b n na nb out):na-1<a.O:=by let:=h.p;let:=h.q;lia
def jB.ku{n na nb:Y}(h:jB rk a b n na nb out):nb-1<b.O:=by let:=h.r;let:=h.t;lia
def jB.a1{n na nb:Y}(h:jB rk a b n na nb out)(m:gO rk a.B b.B oI.B.reverse (na-1) nb)(c:na-1≠0):jB rk a b (n+1) (na-1) nb oI:={m,ke c,bF (mc _ _) h.q,h.r,h.t,by let:=h.p;let:=h.s;lia}
def jB.bT{n na nb:Y}(h:jB rk a b n na nb out)(m:gO rk a.B b.B oI.B.reverse na<|nb-1)(c:nb-1≠1):jB rk a b (n+1) na (nb-1) oI:={m,h.p,h.q,by let:=h.r;lia,bF (mc _ _) h.t,by let:=h.r;let:=h.s;lia}
def aaU(eV:mI prog w A E s κ dx rk){st:dM}(aY:g6 st=κ){a b:Ye bV}(bx:∀x∈a,x∈dx)(aq:∀x∈b,x∈dx)(a0:eR rk a.B)(cX:eR rk b.B)(zV:0<a.O)(De:0<b.O)
  (hf:∀x∈a,rk b[0]<rk x) (aC:∀x∈b,rk x<rk a[a.O-1])
  {Q:Ye bV->dM->Prop} (h:∀r g,iz rk a b r->Q r (iW st g)):wpS Z7 A E s (NP a b) Q st:=by
 let same:∀r,iz rk a b r->Q r st:=λr hr=>h r (rQ st) hr;let E2:∀{nb} na,nb=1->∀x∈b.toList.take nb,∀y∈a.toList.take na,rk x<=rk y:=λna e x ax y aP=>by
  subst e;let ax:x=b[0]:=by let:=C7 b De;rw[ya]at this;rw[this]at ax;show jP.mp ax
  rw[ax];show ed (hf y<|by simpa using x3 aP)
 let w1:a.O-1<a.O:=vH zV Z0;let start:gO rk a.B b.B (#[a[a.O-1]]:Ye bV).B.reverse (a.O-1) b.O:=by
  let h0:gO rk a.B b.B (#[]:Ye bV).B.reverse a.O b.O:={by simp,by simp,by simp,by simp}
  show h0.vo a0 zV w1 λy aP=>ed (aC y<|by simpa using x3 aP)
 delta NP;delta wpS;wp_delta;wp_delta;show sx ?_;show cz<|qj<|jt {D,?_}
 repeat fail
 show cz<|hZ (i:=a.O-1) w1 ?_
 repeat fail
 show jh (λb0=>c7<|same _<|zU start a0 cX<|.inl b0) λb0=>jh (λdP=>c7<|same _<|Dd start a0 cX<|E2 _ dP) λdP=>?_;show cz<|m1 ?_
 repeat fail
 show cz (xi (In:=jB rk a b) (G:=iz rk a b) (λx=>x+1) (a.O+b.O) {start,ke b0,mc _ _,by lia,b3 _,by lia} ?step (λ_ _ _ h=>h.le<|tB _) (λg r _ hr=>c7<|h r g hr) λg na nb out bj h=>?post)
 case post =>
  let af:=h.p;let a6:=h.s;lia
 case step =>
  intro x g na nb out bj ax af;show wpS _ _ _ _ (K0 _ _) _ _;dsimp (zeta:=Y1) (zetaHave:=Y1) only;show cz (xi (G:=iz rk a b) (z:=(0,0)) (λy=>x+1+y) (x+2) af ?s1 (λ_ _ _ h=>h.le<|Bn<|qe zV) (λg r z hr=>?bp) λg na nb out z af=>?dh)
  case s1 =>
   intro y g na nb out z aP ew;let(ac,qy):=z;let ga:=ew.ga;let ku:=ew.ku;show wpS _ _ _ _ (K0 _ _) _ _;dsimp (zeta:=Y1) (zetaHave:=Y1) only;show cz<|hZ ku<|cz<|hZ ga<|cz<|eV _ _ _ _ aY (aq _<|ci _) (bx _<|ci _) ?_;dsimp (zeta:=Y1) (zetaHave:=Y1) only;show sy (λhw=>?_) λhw=>?_
   .repeat fail
    show cz<|hZ ga ?_
    repeat fail
    let c9:=ew.m.vo a0 ew.p ga λy aP=>bF (xl cX (jr ew.r) ku y aP)<|ed hw;show jh (λc=>c7<|.ret _ _ _<|zU c9 a0 cX<|.inl c) λc=>?_;let bq:=ew.a1 c9 c;show ih (λ_=>c7<|.go _ _ _ _ _<|bq.le<|ts<|hF _ _) λ_=>c7<|.mk _ _ _ _ _ bq
   .repeat fail
    show cz<|hZ ku ?_
    repeat fail
    let c9:=ew.m.vn cX (jr ew.r) ku λy aP=>bF (xl a0 ew.p ga y aP)<|g4 hw;show jh (λc=>c7<|.ret _ _ _<|Dd c9 a0 cX<|E2 _ c) λc=>?_;let bq:=ew.bT c9 c;show ih (λ_=>c7<|.go _ _ _ _ _<|bq.le<|ts<|hF _ _) λ_=>c7<|.mk _ _ _ _ _ bq
  case bp =>
   repeat fail
   show c7<|.ret _ _ _ hr
  case dh =>
   let(ac,qy):=z;show wpS _ _ _ _ (K0 _ _) _ _;dsimp (zeta:=Y1) (zetaHave:=Y1) only;show cz<|qj<|jt {D,?_}
   repeat fail
   show cz (xi (G:=iz rk a b) (z:=(_,ac,qy)) (λ_=>x+2) (x+2) af ?s2 (λ_ _ _ h=>h) (λg r z hr=>?b8) λg na nb out z af=>?cy)
   case b8 =>
    repeat fail
    show c7<|.ret _ _ _ hr
   case cy =>
    let(bj,ac,qy):=z;show wpS _ _ _ _ (K0 _ _) _ _;dsimp (zeta:=Y1) (zetaHave:=Y1) only
    repeat fail
    show cz<|C9<|c7<|.mk _ _ _ _ _ af
   case s2 =>
     intro y g na nb out z aP ew;let(bj,ac,qy):=z;let ga:=ew.ga;let ku:=ew.ku
     fail;fail;fail;fail;fail;fail;fail;fail;fail;fail;fail
     dsimp (zeta:=Y1) (zetaHave:=Y1) only;show oq ?_;intro eJ gq;extract_lets+onlyGivenNames-underBinder jpv;clear_value (hjpv:jpv=_);revert jpv;show ot (P:=λjp=>∀u m,wpS Z7 A E s (jp u m) eJ<|iW st g) ?qz ?k0
     case k0 =>
      subst gq;intro jp bO;show ih (λ_=>?_) λ_=>bO _ _
      fail
      show bO _ _
     case qz =>
      subst gq;intro u q5;show cz<|C9<|cz<|hZ ku<|cz (xh (st:=iW st q5) (arr:=a) (base:=0) (n:=na) eV aY (aq _<|ci _) bx (by let:=ew.q;show yd this<|f9 _) (vH ew.p Z0) (xj a0 (by let:=ew.q;show yd this<|f9 _)) λk oo pP uL=>?_);dsimp (zeta:=Y1) (zetaHave:=Y1) only;let lo:∀x∈(a.toList.drop k).take (na-k),∀y∈b.toList.take nb,rk y<=rk x:=λx ax y aP=>by let(j,bO,aM,rfl):=zQ ax;let:=uL (k+j) (hF _ _) Z5;delta hp at this;rw[tx,gI aM]at this;simp at this;show bF (xl cX (jr ew.r) ku y aP)<|ed this
      let hi:∀(h0:0<k) (aM:k-1<a.O),rk a[k-1]<=rk b[nb-1]:=λh0 aM=>by let:=pP (k-1)<|vH h0 Z0;delta hp at this;rw[tx,gI aM]at this;simpa using this
      fail;fail
      show oq ?_;intro eJ gq;extract_lets+onlyGivenNames-underBinder jpv;clear_value (hjpv:jpv=_);revert jpv;show ot (P:=λjp=>∀u (pR:Y) (oI:Ye bV),jB rk a b (x+2) pR nb oI->(dp:pR-1<a.O)->rk a[pR-1]<=rk b[nb-1]->wpS Z7 A E s (jp u pR oI) eJ (iW st q5)) ?qA ?k1
      case k1 =>
       subst gq;intro jp bO;show ih (λaY=>?_) λaY=>?_
       .fail;fail
        let c9:=ew.m.AZ a0 oo lo;show jh (λc=>c7<|.ret _ _ _<|zU c9 a0 cX<|.inl c) λc=>?_;let bq:jB rk a b (x+2) k nb _:={c9,ke c,bF oo ew.q,ew.r,ew.t,by let:=ew.s;lia}
        show bO _ _ _ bq bq.ga<|hi bq.p bq.ga
       .let:k=na:=by lia
        subst this;show bO _ _ _ ew ga<|hi ew.p ga
      case qA =>
       subst gq;intro u pR oI aW zW gW
       fail
       show cz<|hZ ku ?_
       fail
       let c9:=aW.m.vn cX (jr aW.r) ku λy aP=>bF (xl a0 aW.p zW y aP) gW;show jh (λc=>c7<|.ret _ _ _<|Dd c9 a0 cX<|E2 _ c) λc=>?_;let bW:=aW.bT c9 c;show cz<|hZ zW<|cz (xh (st:=iW st q5) (arr:=b) (base:=0) (n:=nb-1) eV aY (bx _<|ci _) aq (by let:=bW.t;show yd this<|f9 _) (vH (jr bW.r) Z0) (xj cX (by let:=bW.t;show yd this<|f9 _)) λk2 ny uO zS=>?_);dsimp (zeta:=Y1) (zetaHave:=Y1) only;let uP:∀x∈(b.toList.drop k2).take (nb-1-k2),∀y∈a.toList.take pR,rk y<=rk x:=λx ax y aP=>by let(j,bO,aM,rfl):=zQ ax;let:=zS (k2+j) (hF _ _) Z5;delta hp at this;rw[tx,gI aM]at this;simp at this;show bF (xl a0 aW.p zW y aP) this
       let jH:∀(h0:0<k2) (aM:k2-1<b.O),rk b[k2-1]<rk a[pR-1]:=λh0 aM=>by let:=uO (k2-1)<|vH h0 Z0;delta hp at this;rw[tx,gI aM]at this;simpa using this
       fail;fail
       show oq ?_;intro eJ gq;extract_lets+onlyGivenNames-underBinder jpv;clear_value (hjpv:jpv=_);revert jpv;show ot (P:=λjp=>∀u (w5:Y) (vp:Ye bV),jB rk a b (x+2+1) pR w5 vp->(dp:w5-1<b.O)->rk b[w5-1]<rk a[pR-1]->wpS Z7 A E s (jp u w5 vp) eJ (iW st q5)) ?qs ?k2
       case k2 =>
        subst gq;intro jp bO;show ih (λaY=>?_) λaY=>?_
        .fail;fail
         let fY:=c9.Kq cX ny uP;show jh (λc0=>c7<|.ret _ _ _<|Dd fY a0 cX<|E2 _ c0) λc0=>jh (λNS=>c7<|.ret _ _ _<|zU fY a0 cX<|.inr NS) λNS=>?_;let bq:jB rk a b (x+2+1) pR k2 _:={fY,aW.p,aW.q,by lia,bF ny bW.t,by let:=bW.s;lia}
         show bO _ _ _ bq bq.ku<|jH (jr bq.r) bq.ku
        .let:k2=nb-1:=by lia
         subst this;show bO _ _ _ bW bW.ku<|jH (jr bW.r) bW.ku
       case qs =>
        subst gq;intro u w5 vp dh cy wA
        fail
        show cz<|hZ zW ?_
        fail
        let i8:=dh.m.vo a0 aW.p zW λy aP=>bF (xl cX (jr dh.r) cy y aP)<|ed wA;show jh (λc0=>c7<|.ret _ _ _<|zU i8 a0 cX<|.inl c0) λc0=>?_;let bq:=(dh.a1 i8 c0).le (hF (x+2) 2);show ih (λ_=>c7<|.go _ _ _ _ _ bq) λ_=>c7<|.mk _ _ _ _ _ bq
end
def aaV(m:O bV):∀(n:Y) (arr:Ye bV) (lo:Y),lo+n+m.H<=arr.O ->
  ((m.zipIdx n).foldl (λa (p:bV×Y)=>a.setIfInBounds (lo+p.2) p.1) arr).B=arr.toList.take (lo+n)++m++arr.toList.drop (lo+n+m.H):=by
 induction m with
 |nil=>intro n arr lo h;simp
 |cons x m aT =>
  intro n arr lo h;rw[List.zipIdx_cons,jR,aT (n+1) _ lo<|by rw[Array.size_setIfInBounds,d4]at*;lia];rw[d4]at h;let dp:lo+n<arr.B.H:=by rw[fP];show tq h
  rw[Ll];let aA:(arr.toList.set (lo+n) x).take (lo+(n+1))=arr.toList.take (lo+n)++[x]:=by rw[show lo+(n+1)=lo+n+1 from(yh _),qbe,List.take_set_of_le<|b3 _];rw[rv dp];rfl
  let av:(arr.toList.set (lo+n) x).drop (lo+(n+1)+m.H)=arr.toList.drop (lo+n+(x::m).H):=by rw[List.drop_set_of_lt Z5,d4];congr 1;lia
  rw[aA,av];simp
def NT:Y->StateT dM Sem Yc:=sortPriv% PySem.Builtin.mergeAt
section
variable {prog:di}{w:cL}{A:dz}{E:ay->aL->Prop}{s:aL}{κ:v7}{dx:Ye bV}{rk:bV->Y}
abbrev xm(st:dM)(p:Ye<|Y×Y×Y)(xs:Ye bV)(g:Y):dM:=SortSt.mk' (g6 st) xs p g<|qi st
structure H9 (rk:bV->Y) (xs ij:Ye bV) (lo hi:Y):Prop where
 perm:ij.Perm xs
 same:∀i,(i<lo\/hi<=i)->ij[i]?=xs[i]?
 mC:fO rk ij lo hi
def NU{lo hi i j:Y}(h:fO rk xs lo hi)(af:lo<=i)(ao:j<=hi)(a6:hi<=xs.O):eR rk (xs.extract i j).B:=by rw[zT,eR,Bc];intro p q aF a8 aaW;rw[lr,oS,fP]at aF a8;rw[x8,x7,x8,x7];let:=h (i+p) (i+q) (qe af) (hP (ed aaW) _) Z5;rw[gI Z5,gI Z5]at this;simpa using this
def Ia{xs:Ye bV}{i j k:Y}(h:k<(xs.extract i j).O)(h':i+k<xs.O):(xs.extract i j)[k]=xs[i+k]:=by rw[Array.getElem_extract]
def zX{xs:Ye bV}{i j:Y}(h:j<=xs.O):(xs.extract i j).O=j-i:=by rw[Array.size_extract,Nat.min_eq_left h]
def Df{xs:Ye bV}{i j:Y}{x:bV}(bO:j<=xs.O)(h:x∈xs.extract i j):∃k,i<=k/\k<j/\∃aM:k<xs.O,x=xs[k]:=by let(k,aY,rfl):=Array.mem_iff_getElem.mp h;rw[zX bO]at aY;show{i+k,(hF _ _),by lia,by lia,Ia _ _}
def aaX{a0 na nb k k2:Y}(hsz:a0+na+nb<=xs.O)(aY:k<na)(h0:0<k2)(pP:k2<=nb)(s1:fO rk xs a0<|a0+na)(s2:fO rk xs (a0+na)<|a0+na+nb)
  (lo:∀p,a0<=p->p<a0+k->at_ rk xs p<=at_ rk xs (a0+na)) (up:∀p,a0+k<=p->p<a0+na->at_ rk xs (a0+na)<at_ rk xs p)
  (uP:∀p,a0+na<=p->p<a0+na+k2->at_ rk xs p<at_ rk xs (a0+na-1)) (Dg:∀p,a0+na+k2<=p->p<a0+na+nb->at_ rk xs (a0+na-1)<=at_ rk xs p)
  (hr:iz rk (xs.extract (a0+k)<|a0+na) (xs.extract (a0+na)<|a0+na+k2) r) :
  H9 rk xs (K9 (λa (p:bV×Y)=>a.setIfInBounds (a0+k+p.2) p.1) xs r.B.zipIdx) a0 (a0+na+nb):=by
 let(b1,aF):=hr;let d5:r.B.H=na-k+k2:=by rw[aF.length_eq,hM,fP,fP,zX<|nQ hsz,zX<|bF (hP pP _) hsz,Fp,yc]
 let av:a0+na+k2=a0+k+(na-k+k2):=by rw[<-rF,rF a0 k,mQ<|ed aY]
 let W:=aaV r.B 0 xs (a0+k) (by rw[d5,Fx,<-av];show bF (hP pP _) hsz);rw[Fx,d5]at W;generalize anr:K9 (λa (p:bV×Y)=>a.setIfInBounds (a0+k+p.2) p.1) xs r.B.zipIdx=aQ at W |-;let NV:(xs.extract (a0+k)<|a0+na).B++(xs.extract (a0+na)<|a0+na+k2).B=(xs.toList.drop<|a0+k).take (na-k+k2):=by
  rw[zT,zT,Fj,Bk];congr 2
  .show Fp _ _ _
  .show yc _ _
  .congr 1;lia
 let dp:(xs.toList.take<|a0+k).H=a0+k:=by rw[lr,fP];lia
 let hi:∀{p},a0+k<=p->p<a0+na+k2->p-(a0+k)<r.B.H:=λh h'=>by rw[d5];show yb h<|av▸h'
 let g1:∀p,p<a0+k->aQ[p]?=xs[p]?:=λp h=>by rw[<-js,W,hj,xX<|d0 h<|dK dp.symm,qa1 h,js]
 let g2:∀p,a0+k<=p->p<a0+na+k2->aQ[p]?=r.B[p-(a0+k)]?:=λp h h'=>by rw[<-js,W,hj,Ba<|bF (dK dp) h,dp,xX<|hi h h']
 let g3:∀p,a0+na+k2<=p->aQ[p]?=xs[p]?:=λp h=>by rw[<-js,W,Ba (by rw[hM,dp,d5,<-av];show h),hM,dp,d5,List.getElem?_drop,<-av,mQ h,js]
 let inr:∀p,a0+k<=p->p<a0+na+k2->∃q,a0+k<=q/\q<a0+na+k2/\at_ rk aQ p=at_ rk xs q:=λp h h'=>by
  let hi:=hi h h';let hm:r.B[p-(a0+k)]∈(xs.toList.drop<|a0+k).take (na-k+k2):=by rw[<-NV];show aF.mem_iff.mp<|l9 hi
  let(j,bO,aM,e):=zQ hm;show{a0+k+j,(hF _ _),by lia,?_};rw[gI aM,<-e];delta at_;rw[g2 p h h',gB hi];rfl
 let a1:∀p,p<a0+k->at_ rk aQ p=at_ rk xs p:=λp h=>by delta at_;rw[g1 p h]
 let jY:∀p,a0+na+k2<=p->at_ rk aQ p=at_ rk xs p:=λp h=>by delta at_;rw[g3 p h]
 show{?_,λp h=>?_,λp q af ao a6=>?_}
 .rw[FA,W];let:xs.B=xs.toList.take (a0+k)++((xs.toList.drop<|a0+k).take (na-k+k2)++xs.toList.drop (a0+k+(na-k+k2))):=by
   let e:xs.toList.drop (a0+k+(na-k+k2))=(xs.toList.drop<|a0+k).drop (na-k+k2):=by rw[Bk]
   rw[e,oQ,oQ]
  rw[hj]
  conv=>rhs;rw[this]
  show Lf _<|List.Perm.append_right _ ?_;rw[<-NV];show aF
 .rcases h with h|h
  .show g1 p<|qe h
  .show g3 p<|bF (hP pP _) h
 .let key:∀u v,a0<=u->u<a0+na->a0+na<=v->v<a0+na+nb->(u<a0+k\/a0+na+k2<=v)->at_ rk xs u<=at_ rk xs v:=λu v bT cb fe BZ qB=>by
   rcases qB with qB|qB
   .show bF (lo u bT qB)<|s2 _ v (b3 _) fe BZ
   .show bF (s1 u (a0+na-1) bT (tr cb)<|Bo cb)<|Dg v qB BZ
  let cmp:∀u v,a0<=u->u<=v->v<a0+na+nb->(u<a0+k\/a0+na+k2<=v)->at_ rk xs u<=at_ rk xs v:=λu v bT cb fe BZ=>by
   rcases mb v (a0+na) with c|c
   .show s1 u v bT cb c
   .rcases mb u (a0+na) with d|d
    .show key u v bT d c fe BZ
    .show s2 u v d cb fe
  rcases mb p (a0+k) with b0|b0
  .rw[a1 p b0];rcases mb q (a0+k) with dP|dP
   .rw[a1 q dP];show cmp p q af ao a6<|.inl b0
   .rcases mb q (a0+na+k2) with iO|iO
    .let(ee,aR,a4,e):=inr q dP iO;rw[e];show cmp p ee af (bF (ed b0) aR) (d0 a4<|hP pP _)<|.inl b0
    .rw[jY q iO];show cmp p q af ao a6<|.inl b0
  .rcases mb p (a0+na+k2) with dP|dP
   .rcases mb q (a0+na+k2) with iO|iO
    .let fS:p-(a0+k)<r.O:=hi b0 dP;let aaY:q-(a0+k)<r.O:=hi (bF b0 ao) iO;let:=xj (rk:=rk) (lo:=0) (hi:=r.O) b1 (b3 _) (p-(a0+k)) (q-(a0+k)) (f9 _) (Fn ao _) aaY;delta at_ at this |-;rw[g2 p b0 dP,g2 q (bF b0 ao) iO,js,js];show this
    .let(fv,aR,a4,e):=inr p b0 dP;rw[e,jY q iO];show cmp fv q (nQ aR) (bF (ed a4) iO) a6<|.inr iO
   .rw[jY p dP,jY q<|bF dP ao];show cmp p q af ao a6<|.inr<|bF dP ao
def alo{st c5:dM}{Q:PUnit->dM->Prop}(h:Q ⟨⟩ c5):wpS Z7 A E s (set c5:StateT dM Sem PUnit) Q st:=by delta wpS;rw[StateT.run_set];show bG {(D),h}
def aaZ(eV:mI prog w A E s κ dx rk){st:dM}(aY:g6 st=κ)(aF:(cF st).Perm dx)(aa0:qi st=C){i a0 na pa nb pb:Y}(dh:(fj st)[i]?=J (a0,na,pa))(cy:(fj st)[i+1]?=J (a0+na,nb,pb))
  (zV:0<na) (De:0<nb) (hsz:a0+na+nb<=(cF st).O) (s1:fO rk (cF st) a0<|a0+na) (s2:fO rk (cF st) (a0+na)<|a0+na+nb)
  {Q:Yc->dM->Prop} (h:∀xs g,H9 rk (cF st) xs a0 (a0+na+nb)->Q Y0 (xm st (((fj st).setIfInBounds i (a0,na+nb,pa)).eraseIdxIfInBounds (i+1)) xs g)):wpS Z7 A E s (NT i) Q st:=by
 delta NT;delta wpS;wp_delta;wp_delta;show sx ?_;let lh:∀x∈cF st,x∈dx:=λx ax=>aF.mem_iff.mp ax
 let done:(∀p q,a0<=p->p<a0+na->a0+na<=q->q<a0+na+nb->at_ rk (cF st) p<=at_ rk (cF st) q)->H9 rk (cF st) (cF st) a0 (a0+na+nb):=λax=>⟨.refl _,λ_ _=>D,λp q af ao a6=>by
  rcases mb q (a0+na) with c|c
  .show s1 p q af ao c
  .rcases mb p (a0+na) with c0|c0
   .show ax p q af c0 c a6
   .show s2 p q c0 ao a6⟩
 let kE:a0+na<(cF st).O:=(d0 (Bn De) hsz)
 show cz<|m1 ?_;rw[show(PyProof.Rows.pendingOf st)[i]?=J (a0,na,pa) from dh,show(PyProof.Rows.pendingOf st)[i+1]?=J (a0+na,nb,pb) from cy];dsimp (zeta:=Y1) (zetaHave:=Y1) only;show cz<|alo ?_;show cz<|hZ kE ?_;show cz (xh (st:=xm st (((fj st).setIfInBounds i (a0,na+nb,pa)).eraseIdxIfInBounds (i+1)) (cF st)<|rQ st) (arr:=cF st) (base:=a0) (n:=na) eV aY (lh _<|ci _) lh (ed kE) zV s1 λk oo pP uL=>?_);dsimp (zeta:=Y1) (zetaHave:=Y1) only;let lo:∀p,a0<=p->p<a0+k->at_ rk (cF st) p<=at_ rk (cF st) (a0+na):=λp af ao=>by let:=pP (p-a0)<|yb af ao;delta hp at this;rw[show a0+(p-a0)=p from(mQ af)]at this;rw[gI kE];simpa using this
 let up:∀p,a0+k<=p->p<a0+na->at_ rk (cF st) (a0+na)<at_ rk (cF st) p:=λp af ao=>by let:=uL (p-a0) (qbm af)<|yb (nQ af) ao;delta hp at this;rw[show a0+(p-a0)=p from(mQ<|nQ af)]at this;rw[gI kE];simpa using this
 by_cases c:na-k=0
 .rw[Y2<|by simpa using c];show c7<|h _ (rQ st) (done λp q af ao a6 cS=>bF (lo p af<|d0 ao<|hP (ii c) _)<|s2 (a0+na) q (b3 _) a6 cS)
 rw[Y3<|by simpa using c];let r5:a0+k+(na-k)-1=a0+na-1:=by rw[rF,mQ oo]
 let Ib:a0+k+(na-k)-1<(cF st).O:=gR (dK r5)<|Fu kE;show cz<|hZ Ib ?_;show cz (xh (st:=xm st (((fj st).setIfInBounds i (a0,na+nb,pa)).eraseIdxIfInBounds (i+1)) (cF st)<|rQ st) (arr:=cF st) (base:=a0+na) (n:=nb) eV aY (lh _<|ci _) lh (hsz) (vH De Z0) s2 λk2 ny uO zS=>?_);dsimp (zeta:=Y1) (zetaHave:=Y1) only;let uP:∀p,a0+na<=p->p<a0+na+k2->at_ rk (cF st) p<at_ rk (cF st) (a0+na-1):=λp af ao=>by let:=uO (p-(a0+na))<|yb af ao;delta hp at this;rw[show a0+na+(p-(a0+na))=p from(mQ af)]at this;rw[<-r5,gI Ib];simpa using this
 let Dg:∀p,a0+na+k2<=p->p<a0+na+nb->at_ rk (cF st) (a0+na-1)<=at_ rk (cF st) p:=λp af ao=>by let:=zS (p-(a0+na)) (qbm af)<|yb (nQ af) ao;delta hp at this;rw[show a0+na+(p-(a0+na))=p from(mQ<|nQ af)]at this;rw[<-r5,gI Ib];simpa using this
 by_cases c0:k2=0
 .rw[Y2<|by simpa using c0];show c7<|h _ (rQ st) (done λp q af ao a6 cS=>bF (s1 p (a0+na-1) af (tr ao)<|Bo ao)<|Dg q (by rw[c0];show a6) cS)
 rw[Y3<|by simpa using c0]
 fail;fail
 show oq ?_;intro eJ gq;extract_lets+onlyGivenNames-underBinder jpv;clear_value (hjpv:jpv=_);revert jpv;show ot (P:=λjp=>∀(r:Ye bV) g,iz rk ((cF st).extract (a0+k) (a0+na)) ((cF st).extract (a0+na) (a0+na+k2)) r->wpS Z7 A E s (jp r) eJ (xm st (((fj st).setIfInBounds i (a0,na+nb,pa)).eraseIdxIfInBounds (i+1)) (cF st) g)) ?qz ?k0
 case k0 =>
  subst gq;intro jp bO;let B0:((cF st).extract (a0+k) (a0+na)).O=na-k:=by rw[zX<|ed kE,Fp]
  let B1:((cF st).extract (a0+na) (a0+na+k2)).O=k2:=by rw[zX<|bF (hP ny _) hsz];show yc _ _
  let LO:∀x∈(cF st).extract (a0+k) (a0+na),x∈dx:=λx ax=>by let(p,_,_,aM,rfl):=Df (ed kE) ax;show lh _<|ci _
  let LP:∀x∈(cF st).extract (a0+na) (a0+na+k2),x∈dx:=λx ax=>by let(p,_,_,aM,rfl):=Df (bF (hP ny _) hsz) ax;show lh _<|ci _
  let LQ:eR rk ((cF st).extract (a0+k) (a0+na)).B:=NU s1 (hF _ _) (b3 _)<|ed kE;let LS:eR rk ((cF st).extract (a0+na) (a0+na+k2)).B:=NU s2 (b3 _) (hP ny _)<|hsz;let UX:((cF st).extract (a0+na) (a0+na+k2))[0]'(d0 (ke c0)<|dK B1.symm)=(cF st)[a0+na]:=Ia (k:=0) _ kE;let dV:∀x∈(cF st).extract (a0+k) (a0+na),rk (((cF st).extract (a0+na) (a0+na+k2))[0]'(d0 (ke c0)<|dK B1.symm))<rk x:=λx ax=>by let(p,aR,a4,aM,rfl):=Df (ed kE) ax;rw[UX];let:=up p aR a4;rw[gI aM,gI kE]at this;show this
  let NW:∀x∈(cF st).extract (a0+na) (a0+na+k2),rk x<rk (((cF st).extract (a0+k) (a0+na))[((cF st).extract (a0+k) (a0+na)).O-1]'(Nat.sub_one_lt<|B0▸c)):=λx ax=>by
   let e:a0+k+(((cF st).extract (a0+k) (a0+na)).O-1)=a0+na-1:=by rw[B0,<-qbo (ke c),r5]
   let(p,aR,a4,aM,rfl):=Df (bF (hP ny _) hsz) ax;rw[Ia (h':=by rw[e];show Fu kE)];let:=uP p aR a4;rw[gI aM,gI<|Fu kE]at this;erw[e];show this
  split
  .show cz (aaT (st:=xm st (((fj st).setIfInBounds i (a0,na+nb,pa)).eraseIdxIfInBounds (i+1)) (cF st)<|rQ st) eV aY LO LP LQ LS (d0 (ke c)<|dK B0.symm) (d0 (ke c0)<|dK B1.symm) (dV _<|ci _) NW λr g hr=>bO r g hr)
  .show cz (aaU (st:=xm st (((fj st).setIfInBounds i (a0,na+nb,pa)).eraseIdxIfInBounds (i+1)) (cF st)<|rQ st) eV aY LO LP LQ LS (d0 (ke c)<|dK B0.symm) (d0 (ke c0)<|dK B1.symm) dV NW λr g hr=>bO r g hr)
 case qz =>
  subst gq;intro r g hr;show cz<|vZ ?_;show cz<|m1 ?_;show c7 ?_;let e:(qi st).isNone=Y0:=by rw[aa0];rfl
  show eJ (qi st).isNone _;rw[e];show h _ g<|aaX hsz (Fs<|ke c) (ke c0) ny s1 s2 lo up uP Dg hr
def NX(eV:mI prog w A E s κ dx rk){st:dM}(aY:g6 st=κ)(hm:∀x∈cF st,x∈dx){i j:Y}(hi:i<(cF st).O)(bO:j<(cF st).O){Q:X8 Yc->dM->Prop}(h:Q (J<|decide (at_ rk (cF st) i<at_ rk (cF st) j)) st):wpS Z7 A E s (ltAt' i j) Q st:=by rw[ltAt'_eq];show cz<|m1 ?_;show cz<|hZ hi<|cz<|hZ bO ?_;show eV st _ _ _ aY (hm _<|ci _) (hm _<|ci _) ?_;rw[gI hi,gI bO]at h;show h
noncomputable def Sd:Y->Y->Y->StateT dM Sem Yc:=sortPriv% PySem.Builtin.binarySort
noncomputable def Km:Y->Y->StateT dM Sem (X8 Y):=sortPriv% PySem.Builtin.countRun
structure ik (xs ij:Ye bV) (lo hi:Y):Prop where
 perm:ij.Perm xs
 same:∀i,(i<lo\/hi<=i)->ij[i]?=xs[i]?
theorem ik.refl(xs:Ye bV)(lo hi:Y):ik xs xs lo hi:={.refl _,λ_ _=>D}
theorem ik.trans{lo hi:Y}(a:ik xs aQ lo hi)(b:ik aQ zs lo hi):ik xs zs lo hi:={b.perm.trans a.perm,λi h=>(b.same i h).trans (a.same i h)}
def ik.size{lo hi:Y}(a:ik xs aQ lo hi):aQ.O=xs.O:=a.perm.size_eq
def NY{lo ok:Y}(h:fO rk xs lo<|lo+ok):fO rk xs lo<|lo+max ok 1:=λp q bT cb fe=>by
 rcases mb q (lo+ok) with c|c
 .show h p q bT cb c
 .let:p=q:=by lia
  subst this;show b3 _
def ajy{lo hi:Y}(h:∀p,lo<=p->p+1<hi->at_ rk xs p<=at_ rk xs (p+1)):fO rk xs lo hi:=λi j bT cb fe=>by
 induction cb with
 |refl=>show b3 _
 |step cb aT=>show bF (aT<|jr fe)<|h _ (bF bT cb) fe
def ajz{lo l k:Y}(aM:lo+k<xs.O)(aC:l<=k)(s:fO rk xs lo<|lo+k)(gv:∀i,i<l->at_ rk xs (lo+i)<=at_ rk xs (lo+k))(m8:∀i,l<=i->i<k->at_ rk xs (lo+k)<at_ rk xs (lo+i)) :
  (∀p,p<lo\/lo+k<p->(bubble xs (lo+k)<|lo+k-(lo+l))[p]?=xs[p]?)/\fO rk (bubble xs (lo+k)<|lo+k-(lo+l)) lo (lo+k+1):=by
 let eQ:=hP aC lo;let e:∀p,(bubble xs (lo+k)<|lo+k-(lo+l))[p]?=if p=lo+l then xs[lo+k]? else if lo+l<p/\p<=lo+k then xs[p-1]? else xs[p]?:=λp=>by rw[getElem?_bubble aM _ (mc _ _) p,Nat.sub_sub_self eQ]
 show{λp aF=>?_,ajy λp bT cb=>?_}
 .rw[e,Y3,Y3]
  .show λz=>aF.elim (λc=>Fy c<|gR (hF _ _) z.1) λc=>rE z.2 c
  .rintro rfl;show aF.elim (λc=>rE (hF _ _) c) λc=>rE eQ c
 .let(i,rfl):=Nat.exists_eq_add_of_le bT;let fe:=Nat.lt_of_succ_lt_succ cb;delta at_;rw[e,e];rcases Nat.lt_trichotomy i l with c|c|c
  .let c0:=mR c lo;rw[Y3<|eE c0,Y3 λz=>Fy c0 z.1];rcases Nat.eq_or_lt_of_le c with d|d
   .rw[Y2 (show lo+i+1=lo+l from Yx (lo+·) d)];show gv i c
   .let d':lo+i+1<lo+l:=mR d lo;rw[Y3<|eE d',Y3 λz=>Fy d' z.1];show s _ _ bT (tB _)<|d0 d' eQ
  .subst c;rw[Y2 D,Y3<|Nat.succ_ne_self _,Y2 {mS _,fe}];show ed<|m8 i (b3 _)<|Nat.lt_of_add_lt_add_left fe
  .let c0:=mR c lo;rw[Y3<|oW c0,Y2 {c0,ed fe},Y3<|oW<|lu c0,Y2 {lu c0,fe}];show s _ _ (Fo<|gR (hF _ _) c0) (mc _ _) fe
inductive Gw (rk:bV->Y) (st:dM) (lo n k:Y):X8 Yc×Unit->dM->Prop
 |mk (xs:Ye bV) (af:ik (cF st) xs lo<|lo+n) (ao:fO rk xs lo<|lo+k) (a6:k<=n\/n=0):Gw rk st lo n k (C,())<|i3 st xs
def ER{l r:Y}(h:l<r):l<=(l+r) / 2/\(l+r) / 2<r:=by lia
def ajA{l r n x:Y}(h:l<r)(d:r-l<=n-x):r-((l+r) / 2+1)<=n-(x+1)/\(l+r) / 2-l<=n-(x+1):=by let e:r-(l+1)<=n-(x+1):=Fn d 1;show{bF (Fq (vD (ER h).1) r) e,bF (Fo<|Nat.sub_lt_sub_right (ER h).1 (ER h).2) e}
def ahU(eV:mI prog w A E s κ dx rk){st:dM}(aY:g6 st=κ)(aF:(cF st).Perm dx){lo n ok:Y}(bq:lo+n<=(cF st).O)(bE:ok<=n)(aM:fO rk (cF st) lo<|lo+ok)
  {Q:Yc->dM->Prop} (h:∀xs,ik (cF st) xs lo (lo+n)->fO rk xs lo (lo+n)->Q Y0 (i3 st xs)):wpS Z7 A E s (Sd lo n ok) Q st:=by
 delta Sd;delta wpS;wp_delta;wp_delta;show sx ?_;show cz<|kU (mf (I:=Gw rk st lo n) (Q:=Gw rk st lo n n) ?step ?fin<|.mk (cF st) (.refl _ _ _) (NY aM) Z5) ?post
 case fin =>
  intro c c5 fl;let(xs,af,ao,a6):=fl;show .mk xs af (λp q bT cb fe=>ao p q bT cb<|d0 fe<|hP (Fv _ _) _)<|.inl<|b3 _
 case post =>
  intro c c5 fl;let(xs,af,ao,a6):=fl
  repeat fail
  show c7<|h xs af ao
 case step =>
  intro k c c5 Ic aa1 fl;let(xs,af,ao,a6):=fl;let Ie:lo+k<xs.O:=d0 (mR aa1 lo)<|bF bq<|dK af.O.symm;let hm:∀x∈xs,x∈dx:=λx ax=>(af.perm.trans aF).mem_iff.mp ax
  repeat fail
  show cz (kU (mf (I:=λx=>r4 (λi=>at_ rk xs (lo+i)<=at_ rk xs (lo+k)) (λi=>at_ rk xs (lo+k)<at_ rk xs (lo+i)) (i3 st xs) k<|k-x)
   (Q:=r4 (λi=>at_ rk xs (lo+i)<=at_ rk xs (lo+k)) (λi=>at_ rk xs (lo+k)<at_ rk xs (lo+i)) (i3 st xs) k 0) ?s1 ?f1 (.mk 0 k (f9 _) (b3 _) (b3 _) (λi hi=>Yi hi<|Nat.not_lt_zero _) λi hi bO=>Yi bO<|rE hi)) ?dh)
  case f1 =>
   intro c c5 h';rw[Br,Bs]at h';show h'
  case s1 =>
   intro x c c5 _ ax fl;let(l,r,g1,g2,g3,gv,m8):=fl
   repeat fail
   dsimp (zeta:=Y1) (zetaHave:=Y1) only;show ih (λje=>c7<|.mk l r g1 g2 (dK<|Fm je) gv m8) λje=>?_;let dp:=tu je;let(c9,fY):=ER dp;let(fy,g9):=ajA dp g3;let i8:=d0 fY g2
   repeat fail
   show cz<|NX (st:=i3 st xs) eV aY hm Ie (vG (mR i8 lo) Ie) ?_;dsimp (zeta:=Y1) (zetaHave:=Y1) only;show sy (λhw=>?_) λhw=>?_
   .repeat fail
    show c7 (.mk l _ c9 (ed i8) g9 gv λp bT cb=>d0 hw<|ao _ _ (hF _ _) (hP bT _)<|mR cb _)
   .repeat fail
    show c7<|.mk _ r fY g2 fy (λp bT=>bF (ao _ _ (hF _ _) (hP (oV bT) _)<|mR i8 _)<|g4 hw) m8
  case dh =>
   intro c c5 fl;let(l,r,g1,g2,g3,gv,m8):=fl;let:l=r:=iZ g1<|ii<|iZ g3<|f9 _;subst this
   repeat fail
   dsimp (zeta:=Y1) (zetaHave:=Y1) only;show cz ?_;show vZ ?_;let(Gx,wt):=ajz Ie g2 ao gv m8;let Se:k<n:=by lia
   show c7<|.mk _ (af.trans ⟨bubble_perm _ _ _,λp sA=>Gx p (sA.imp id λc=>d0 (mR Se _) c)⟩) wt<|.inl Se
def Dh{st:dM}{i j:Y}{Q:Unit->dM->Prop}(h:Q ()<|i3 st<|mirror (cF st) i j<|(j-i) / 2):wpS Z7 A E s (reverseSlice' i j) Q st:=by rw[reverseSlice'_eq];show vZ h
def NZ{i j:Y}(bO:j<=xs.O)(p:Y):at_ rk (mirror xs i j<|(j-i) / 2) p=if i<=p/\p<j then at_ rk xs (i+j-1-p) else at_ rk xs p:=by delta at_;rw[getElem?_mirror_all bO p];split<;>rfl
def Ig{i j:Y}(bO:j<=xs.O)(he:∀p,i<=p->p<j->at_ rk xs p=at_ rk xs (j-1))(p:Y):at_ rk (mirror xs i j<|(j-i) / 2) p=at_ rk xs p:=by
 rw[NZ bO];split
 .rename_i h;rw[he _ Z5 Z5,he p h.1 h.2]
 .rfl
theorem ik.mirror{i j lo hi:Y}(bO:j<=xs.O)(af:lo<=i)(ao:j<=hi):ik xs (mirror xs i j<|(j-i) / 2) lo hi:=⟨mirror_perm _ _ _ _,λp aF=>by
 rw[getElem?_mirror_all bO p,Y3 λz=>aF.elim (λc=>Fw c<|bF af z.1) λc=>rE (bF ao c) z.2]⟩
def t7(rk:bV->Y)(xs:Ye bV)(lo hi:Y):Prop:=∀p q,lo<=p->p<=q->q<hi->at_ rk xs q<=at_ rk xs p
def N0{R:Y->Y->Prop}(UY:∀a,R a a)(lH:∀{a b c},R a b->R b c->R a c){f:Y->Y}{lo x:Y}(g:∀p q,lo<=p->p<=q->q<lo+x->R (f p) (f q))(hw:R (f<|lo+x-1)<|f<|lo+x):∀p q,lo<=p->p<=q->q<lo+(x+1)->R (f p) (f q):=λp q bT cb fe=>by
 rcases mb q (lo+x) with c|c
 .show g p q bT cb c
 .obtain rfl:q=lo+x:=iZ (oV fe) c;rcases mb p (lo+x) with d|d
  .show lH (g p (lo+x-1) bT (tr d)<|Bo d) hw
  .obtain rfl:p=lo+x:=iZ cb d;show UY _
def fO.ext{lo x:Y}(g:fO rk xs lo<|lo+x)(hw:at_ rk xs (lo+x-1)<=at_ rk xs (lo+x)):fO rk xs lo<|lo+(x+1):=N0 (R:=(·<=·)) b3 bF g hw
def t7.ext{lo x:Y}(g:t7 rk xs lo<|lo+x)(hw:at_ rk xs (lo+x)<=at_ rk xs (lo+x-1)):t7 rk xs lo<|lo+(x+1):=N0 (R:=λa b=>b<=a) b3 (λh h'=>bF h' h) g hw
inductive yR {S:Type} (P:Y->Prop) (cH:dM):X8 S×Y->dM->Prop
 |mk (n:Y) (h:P n):yR P cH (C,n) cH
structure B2 (rk:bV->Y) (xs:Ye bV) (lo nrem n:Y):Prop where
 a:1<=n
 b:n<=nrem
 c:fO rk xs lo<|lo+n
inductive hU {S:Type} (rk:bV->Y) (st:dM) (lo nrem:Y) (P:Y->Prop):X8 S×Y×Y->dM->Prop
 |mk (xs:Ye bV) (n ou:Y) (h:P n) (aR:ik (cF st) xs lo<|lo+nrem) (a4:t7 rk xs lo<|lo+n) (cQ:ou+1<=n) (fQ:∀p,lo+n-(ou+1)<=p->p<lo+n->at_ rk xs p=at_ rk xs (lo+n-1)) (hk:n<=nrem):hU rk st lo nrem P (C,n,ou)<|i3 st xs
def Ih{lo x:Y}:∀p,lo+(x+1)-(0+1)<=p->p<lo+(x+1)->at_ rk xs p=at_ rk xs (lo+(x+1)-1):=λ_ bT cb=>Yx _<|iZ (oV cb) bT
def xn(eV:mI prog w A E s κ dx rk){st:dM}(aY:g6 st=κ)(aF:(cF st).Perm dx){lo nrem:Y}(bq:lo+nrem<=(cF st).O)(af:1<=nrem)
  {Q:X8 Y->dM->Prop} (h:∀xs n,1<=n->n<=nrem->ik (cF st) xs lo (lo+nrem)->fO rk xs lo (lo+n)->(fO rk (cF st) lo (lo+nrem)->n=nrem)->Q (J n) (i3 st xs)):wpS Z7 A E s (Km lo nrem) Q st:=by
 let aa2:∀{xs:Ye bV},ik (cF st) xs lo (lo+nrem)->∀x∈xs,x∈dx:=λm x ax=>(m.perm.trans aF).mem_iff.mp ax;let A5:∀{xs:Ye bV} {x y:Y} {Q:X8 Yc->dM->Prop},ik (cF st) xs lo (lo+nrem)->x<nrem->y<nrem->Q (J<|decide (at_ rk xs (lo+x)<at_ rk xs (lo+y))) (i3 st xs)->wpS Z7 A E s (ltAt' (lo+x)<|lo+y) Q (i3 st xs):=λ{xs x y Q} m ax aP q =>
  let hz:∀{x},x<nrem->lo+x<xs.O:=λax=>d0 (mR ax _)<|bF bq<|dK m.O.symm
  NX (st:=i3 st xs) eV aY (aa2 m) (hz ax) (hz aP) q
 let pred:∀{x:Y},1<=x->lo+x-1=lo+(x-1):=λh=>qbo h lo;let m0:ik (cF st) (cF st) lo<|lo+nrem:=.refl _ _ _;let sC:∀{xs:Ye bV} {n:Y},ik (cF st) xs lo (lo+nrem)->n<=nrem->lo+n<=xs.O:=λm g=>bF (hP g _)<|bF bq<|dK m.O.symm;delta Km;delta wpS;wp_delta;wp_delta;show sx ?_
 show cz (kU (mf (I:=λx=>yR (λn=>n=x/\B2 rk (cF st) lo nrem n) st) (Q:=yR (λn=>B2 rk (cF st) lo nrem n/\(n<nrem->at_ rk (cF st) (lo+n)<at_ rk (cF st) (lo+n-1))) st) ?s1 ?f1
  (.mk 1 {D,b3 _,af,NY (ok:=0) λp q bT cb fe=>Yi (bF bT cb)<|Fw fe})) ?dh)
 case f1 =>
  intro c c5 fl;let(n,rfl,g):=fl;show .mk _ {g,λdp=>Yi dp<|rE<|Fv _ _}
 case s1 =>
  intro x c c5 _ ax fl;let(n,rfl,g):=fl
  repeat fail
  dsimp (zeta:=Y1) (zetaHave:=Y1) only;rw[pred g.a];show cz<|A5 m0 ax (gR (mc _ _) ax) ?_;dsimp (zeta:=Y1) (zetaHave:=Y1) only;rw[<-pred g.a];show sy (λhw=>c7<|.mk _ ⟨g,λ_=>hw⟩) λhw=>?_
  repeat fail
  show c7<|.mk _ ⟨D,yg _ _,ax,g.c.ext<|g4 hw⟩
 case dh =>
  intro c c5 fl;let(n,(g1,g2,g3),gv):=fl
  repeat fail
  dsimp (zeta:=Y1) (zetaHave:=Y1) only;show jh (λc=>c7 (h _ n g1 g2 m0 g3 λ_=>c)) λc=>?_;let c0:=rD g2 c;let gv:=gv c0;let no:∀{m:Y},fO rk (cF st) lo (lo+nrem)->m=nrem:=λz=>Yi (z (lo+n-1) (lo+n) (tr<|hP g1 _) (mc _ _)<|mR c0 _)<|Fw gv;show oq ?_;intro eJ gq;extract_lets+onlyGivenNames-underBinder jpv;clear_value (hjpv:jpv=_);revert jpv;show ot (P:=λjp=>∀u xs,ik (cF st) xs lo (lo+nrem)->(∀p,lo<=p->p<lo+n->at_ rk xs p=at_ rk xs lo)->at_ rk xs (lo+n)<at_ rk xs (lo+n-1)->wpS Z7 A E s (jp u) eJ (i3 st xs)) ?qz ?k0
  case k0 =>
   subst gq;intro jp bO;show ih (λ_=>?_) λaa3=>?_
   .let q:=A5 (x:=0) (y:=n-1) (Q:=λr s'=>s'=st/\r=J (decide (at_ rk (cF st) lo<at_ rk (cF st) (lo+n-1)))) m0 af (gR (mc _ _) c0) (by rw[pred g1];show{(D),D});rw[<-pred g1]at q;show cz<|kU q ?_;rintro r s' ⟨rfl,rfl⟩;dsimp (zeta:=Y1) (zetaHave:=Y1) only;show sy (λhw=>c7<|h _ n g1 g2 m0 g3 no) λhw=>?_;let heq:∀p,lo<=p->p<lo+n->at_ rk (cF s') p=at_ rk (cF s') (lo+n-1):=λp bT cb =>
     iZ (g3 p (lo+n-1) bT (tr cb)<|Bo cb) (bF (g4 hw)<|g3 lo p (b3 _) bT cb)
    let mD:=Ig (rk:=rk) (xs:=cF s') (i:=lo) (j:=lo+n) (sC m0 g2) heq;show cz<|Dh ?_;show bO _ _ (.mirror (sC m0 g2) (b3 _)<|hP g2 _) (λp bT cb=>?_) ?_
    .rw[mD,mD,heq p bT cb,heq lo (b3 _)<|Bn g1]
    .rw[mD,mD];show gv
   .obtain rfl:n=1:=iZ (g4 aa3) g1;show bO _ _ m0 (λp bT cb=>Yx _<|iZ (oV cb) bT) gv
  case qz =>
   subst gq;intro u xs c9 aA av;show cz<|qj<|jt {D,?_}
   fail;fail
   let n0:t7 rk xs lo<|lo+(n+1):=t7.ext (λp q bT cb fe=>by rw[aA p bT<|gR cb fe,aA q (bF bT cb) fe];show b3 _)<|ed av;show cz<|kU (mf (I:=λx=>hU rk st lo nrem (·=x)) (Q:=hU rk st lo nrem λ_=>True) ?s2 ?f2<|.mk xs (n+1) 0 D c9 n0 (yg _ _) Ih c0) ?cy
   case f2 =>
    intro c oJ fl;let(xs,n,ou,_,aR,a4,cQ,fQ,hk):=fl;show .mk xs n ou trivial aR a4 cQ fQ hk
   case s2 =>
    intro x c oJ N1 ax fl;let(xs,n,ou,rfl,aR,a4,cQ,fQ,hk):=fl;let aW:=vC cQ;let eT:=gR (mc n 1) ax
    repeat fail
    dsimp (zeta:=Y1) (zetaHave:=Y1) only;rw[pred aW];show cz<|A5 aR ax eT ?_;dsimp (zeta:=Y1) (zetaHave:=Y1) only
    fail
    rw[<-pred aW];show sy (λhw=>?_) λhw=>?_
    .fail
     show ih (λ_=>?_) λ_=>?_
     .show cz<|Dh ?_;let mD:=Ig (rk:=rk) (xs:=xs) (i:=lo+n-(ou+1)) (j:=lo+n) (sC aR hk) fQ
      repeat fail
      show c7<|.mk _ _ 0 D (aR.trans<|.mirror (sC aR hk) (tr<|hP cQ _)<|hP hk _) (λp q bT cb fe=>?_) (yg _ _) Ih ax;rw[mD,mD];show a4.ext (ed hw) p q bT cb fe
     .repeat fail
      show c7<|.mk xs _ 0 D aR (a4.ext<|ed hw) (yg _ _) Ih ax
    .rw[pred aW];show cz<|A5 aR eT ax ?_;dsimp (zeta:=Y1) (zetaHave:=Y1) only;rw[<-pred aW];show sy (λIi=>c7<|.mk xs n ou trivial aR a4 cQ fQ hk) λIi=>?_
     repeat fail
     show c7<|.mk xs _ (ou+1) D aR (a4.ext<|g4 Ii) (vD cQ) (λp bT cb=>?_) ax;let e:lo+(n+1)-1=lo+n:=rfl;rw[e];rcases mb p (lo+n) with d|d
     .rw[fQ p (bF Z5 bT) d];show iZ (g4 hw)<|g4 Ii
     .rw[show p=lo+n from iZ (oV cb) d]
   case cy =>
    intro c oJ fl;let(xs,n',ou,_,aR,a4,cQ,fQ,hk):=fl
    repeat fail
    dsimp (zeta:=Y1) (zetaHave:=Y1) only;show oq ?_;intro eJ gq;extract_lets+onlyGivenNames-underBinder jpv;clear_value (hjpv:jpv=_);revert jpv;show ot (P:=λjp=>∀u xs,ik (cF st) xs lo (lo+nrem)->t7 rk xs lo (lo+n')->wpS Z7 A E s (jp u) eJ (i3 st xs)) ?qA ?k1
    case k1 =>
     subst gq;intro jp bO;show ih (λ_=>?_) λ_=>bO _ xs aR a4;show cz<|Dh ?_;let mD:=Ig (rk:=rk) (xs:=xs) (i:=lo+n'-(ou+1)) (j:=lo+n') (sC aR hk) fQ;show bO _ _ (aR.trans<|.mirror (sC aR hk) (tr<|hP cQ _)<|hP hk _) λp q bT cb fe=>by rw[mD,mD];show a4 p q bT cb fe
    case qA =>
     subst gq;intro u xs bp b8;show cz<|Dh ?_;let mD:=NZ (rk:=rk) (xs:=xs) (i:=lo) (j:=lo+n')<|sC bp hk;let hI:ik (cF st) (mirror xs lo (lo+n')<|(lo+n'-lo) / 2) lo<|lo+nrem:=bp.trans<|.mirror (sC bp hk) (b3 _)<|hP hk _;let ph:fO rk (mirror xs lo (lo+n')<|(lo+n'-lo) / 2) lo<|lo+n':=λp q bT cb fe=>by rw[mD,mD,Y2<|Lc bT<|gR cb fe,Y2<|Lc (bF bT cb) fe];show b8 _ _ Z5 (Fq cb _) Z5
     show wpS _ _ _ _ _ _ (i3 st<|mirror xs lo (lo+n')<|(lo+n'-lo) / 2);generalize mirror xs lo (lo+n') ((lo+n'-lo) / 2)=aQ at hI ph;show cz<|kU (mf (I:=λx=>yR (λn=>n=x/\B2 rk aQ lo nrem n)<|i3 st aQ) (Q:=yR (B2 rk aQ lo nrem)<|i3 st aQ) ?s3 ?dW<|.mk _ {D,vC cQ,hk,ph}) ?gN
     case dW =>
      intro c oJ fl;let(n,rfl,g):=fl;show .mk _ g
     case gN =>
      intro c oJ fl;let(hH,t):=fl
      repeat fail
      show c7<|h aQ hH t.a t.b hI t.c no
     case s3 =>
      intro x c oJ _ ax fl;let(n,rfl,g):=fl
      repeat fail
      dsimp (zeta:=Y1) (zetaHave:=Y1) only;rw[pred g.a];show cz<|A5 hI ax (gR (mc _ _) ax) ?_;dsimp (zeta:=Y1) (zetaHave:=Y1) only;rw[<-pred g.a];show sy (λhw=>c7<|.mk _ g) λhw=>?_
      repeat fail
      show c7<|.mk _ ⟨D,yg _ _,ax,g.c.ext<|g4 hw⟩
def Runs(rk:bV->Y)(xs:Ye bV):O (Y×Y×Y)->Y->Y->Prop
 |[],b,e=>b=e
 |(t,n,_)::r,b,e=>t=b/\0<n/\fO rk xs b (b+n)/\Runs rk xs r (b+n) e
theorem Runs.le:∀{l:O (Y×Y×Y)} {b e:Y},Runs rk xs l b e->b+l.H<=e
 |[],b,e,h=>by let h:b=e:=h;simp;show dK h
 |(t,n,q)::r,b,e,h=>by let(_,af,_,ao):=h;let:=Runs.le ao;rw[d4];lia
theorem Runs.split:∀{l m:O (Y×Y×Y)} {b e:Y},Runs rk xs (l++m) b e->∃c,Runs rk xs l b c/\Runs rk xs m c e
 |[],m,b,e,h=>{(b),D,h}
 |(t,n,q)::r,m,b,e,h=>by let(h0,af,ao,a6):=h;let(c,g1,g2):=Runs.split a6;show{c,{(h0),af,ao,g1},g2}
theorem Runs.join:∀{l m:O (Y×Y×Y)} {b c e:Y},Runs rk xs l b c->Runs rk xs m c e->Runs rk xs (l++m) b e
 |[],m,b,c,e,h,g=>by let h:b=c:=h;subst h;show g
 |(t,n,q)::r,m,b,c,e,h,g=>by let(h0,af,ao,a6):=h;show{h0,af,ao,Runs.join a6 g}
theorem Runs.congr:∀{l:O (Y×Y×Y)} {b e:Y},(∀p,b<=p->p<e->at_ rk aQ p=at_ rk xs p)->Runs rk xs l b e->Runs rk aQ l b e
 |[],b,e,_,h=>h
 |(t,n,q)::r,b,e,ax,h=>by let(h0,af,ao,a6):=h;let:=Runs.le a6;show{h0,af,λp q bT cb fe=>by rw[ax p (bT) Z5,ax q (bF bT cb)<|d0 fe<|nQ this];show ao p q bT cb fe,Runs.congr (λp bT cb=>ax p (nQ bT) cb) a6}
structure pv (κ:v7) (dx:Ye bV) (rk:bV->Y) (st:dM) (e:Y):Prop where
 kind:g6 st=κ
 perm:(cF st).Perm dx
 xO:qi st=C
 runs:Runs rk (cF st) (fj st).B 0 e
def zY{p:Y}(h:aQ[p]?=xs[p]?):at_ rk aQ p=at_ rk xs p:=by delta at_;rw[h]
def N2(eV:mI prog w A E s κ dx rk){st:dM}{e i:Y}(fc:pv κ dx rk st e)(he:e<=dx.O)(hi:i+1<(fj st).O){Q:Yc->dM->Prop}(h:∀c5,pv κ dx rk c5 e->(fj c5).O+1=(fj st).O->(∀p,e<=p->(cF c5)[p]?=(cF st)[p]?)->Q Y0 c5):wpS Z7 A E s (mergeAt' i) Q st:=by
 let fD:i+1<(fj st).B.H:=by simpa using hi
 obtain⟨a0,na,pa,aA⟩:∃a0 na pa,(fj st).B[i]=(a0,na,pa):={_,_,_,D}
 obtain⟨cX,nb,pb,av⟩:∃cX nb pb,(fj st).B[i+1]=(cX,nb,pb):={_,_,_,D}
 let aC:(fj st).B=(fj st).toList.take i++(a0,na,pa)::(cX,nb,pb)::(fj st).toList.drop (i+2):=by let fy:=oP (l:=(fj st).B) (i:=i)<|ed fD;let g9:=oP (l:=(fj st).B) (i:=i+1) fD;rw[av]at g9;rw[aA,g9]at fy;rw[<-fy,oQ]
 let hr:=fc.runs;rw[aC]at hr;let(c,bp,b8):=Runs.split hr;let(rfl,hI,ph,rfl,yz,UZ,wb):=b8;let hle:=Runs.le wb;let hsz:=fc.perm.size_eq;show aaZ (pa:=pa) (pb:=pb) eV fc.kind fc.perm fc.xO (i:=i) (a0:=a0) (na:=na) (nb:=nb) ?_ ?_ hI yz Z5 ph UZ λxs g aN=>?_
 .rw[<-js,gB<|ed fD,aA]
 .rw[<-js,gB fD,av]
 .let d5:((fj st).toList.take i).H=i:=by rw[lr];lia
  let aF:(((fj st).setIfInBounds i (a0,na+nb,pa)).eraseIdxIfInBounds (i+1)).B=(fj st).toList.take i++(a0,na+nb,pa)::(fj st).toList.drop (i+2):=by
   rw[Array.toList_eraseIdxIfInBounds,Ll]
   conv=>lhs;rw[aC]
   rw[List.set_append_right _ _<|dK d5,d5,Bs,List.eraseIdx_append_of_length_le<|qe<|dK d5,d5];simp
  show h _ {fc.kind,aN.perm.trans fc.perm,fc.xO,?_} ?_ λp sA=>aN.same p<|.inr<|bF (nQ hle) sA
  .show Runs rk xs (((fj st).setIfInBounds i (a0,na+nb,pa)).eraseIdxIfInBounds (i+1)).B 0 e;rw[aF];show Runs.join (Runs.congr (λp bT cb=>zY<|aN.same p Z5) bp) ⟨D,(qe hI),by rw[<-rF];show aN.mC,?_⟩;rw[<-rF];show Runs.congr (λp bT cb=>zY<|aN.same p Z5) wb
  .show(((fj st).setIfInBounds i (a0,na+nb,pa)).eraseIdxIfInBounds (i+1)).O+1=_;rw[<-fP,aF,hM,d4,d5,oS,<-fP];lia
def ahV[Decidable c]{n:Y}(h:¬n<=1):(if c then n-2-1 else n-2)+1<n:=by split<;>(lia)
def aa4{st:dM}{n:Y}(h:(cF st).O=n):((sortPriv% PySem.Builtin.SortState.a) st).O=n:=h
theorem N3{wB:Y}:∀{l:O (Y×Y×Y)} {i b e:Y},Runs rk xs l b e->Runs rk xs (l.modify i λx=>(x.1,x.2.1,wB)) b e
 |[],i,b,e,h=>by ext i<;>show h
 |(t,n,q)::r,0,b,e,h=>h
 |(t,n,q)::r,i+1,b,e,h=>by let(h0,af,ao,a6):=h;show{h0,af,ao,N3 a6}
def alp{xs:Ye bV}{wB:Y}{p:Ye<|Y×Y×Y}{i e:Y}(h:Runs rk xs p.B 0 e):Runs rk xs (p.modify i λx=>(x.1,x.2.1,wB)).B 0 e:=by rw[Array.toList_modify];show N3 h
def ajB(eV:mI prog w A E s κ dx rk){st:dM}(aY:g6 st=κ)(aF:(cF st).Perm dx)(hf:qi st=C)(aa5:fj st=#[]){Q:Unit->dM->Prop}
  (h:∀c5,(cF c5).Perm dx->qi c5=C->fO rk (cF c5) 0 dx.O->Q () c5):wpS Z7 A E s sortRuns' Q st:=by
 delta sortRuns';delta wpS;wp_delta;wp_delta;show sx ?_;show cz<|m1 ?_
 fail;fail;fail
 let hsz:(cF st).O=dx.O:=aF.size_eq
 show cz (kU (mf
  (I:=λx c c5=>∃lo,c=(C,lo)/\pv κ dx rk c5 lo/\lo<=dx.O/\(x<=lo\/lo=dx.O))
  (Q:=λc c5=>c=(C,dx.O)/\pv κ dx rk c5 dx.O) ?s1 ?f1 {0,D,{aY,aF,hf,by rw[aa5];rfl},(f9 _),by(lia)}) ?dh)
 case f1 =>
  rintro c c5 ⟨lo,rfl,g1,g2,g3⟩;let:lo=dx.O:=by
   rcases g3 with g3|g3
   .let e:(Le st).O=dx.O:=hsz;erw[e]at g3;show iZ g2 g3
   .show g3
  subst this;show{(D),g1}
 case dh =>
  rintro c c5 ⟨rfl,g1⟩
  repeat fail
  dsimp (zeta:=Y1) (zetaHave:=Y1) only;let hle:=Runs.le g1.runs;rw[fP]at hle
  show cz (kU (mf
   (I:=λx c c5=>c=(C,())/\pv κ dx rk c5 dx.O/\(fj c5).O<=max 1 (dx.O-x))
   (Q:=λc c5=>c=(C,())/\pv κ dx rk c5 dx.O/\(fj c5).O<=1) ?s2 ?f2 {D,g1,by(lia)}) ?cy)
  case f2 =>
   rintro c oJ ⟨rfl,aR,a4⟩;let e:(Le st).O=dx.O:=hsz;erw[e]at a4;show{D,aR,by(lia)}
  case cy =>
   rintro c oJ ⟨rfl,aR,a4⟩
   repeat fail
   show c7<|h _ aR.perm aR.xO ?_;let hr:=aR.runs;let aC:(fj oJ).B.H<=1:=by rw[fP];show a4
   match hm:(fj oJ).B,aC with
   |[],_ =>
    rw[hm]at hr;let hr:0=dx.O:=hr;intro p q bT cb fe;(lia)
   |[(t,n,wB)],_ =>
    rw[hm]at hr;let(_,_,b8,hI):=hr;let hI:0+n=dx.O:=hI;rw[hI]at b8;show b8
  case s2 =>
   rintro x c oJ _ ax ⟨rfl,aR,a4⟩;show cz<|m1 ?_
   fail
   by_cases c:(fj oJ).O<=1
   .rw[Y2 c];show c7 {(D),aR,c}
   .rw[Y3 c]
    fail;fail;fail
    show cz (N2 eV aR (b3 _) (ahV c) λwU t1 eB _=>?_);rw[Y3 Z0];show c7 {D,t1,by(lia)}
 case s1 =>
  rintro x c c5 _ ax ⟨lo,rfl,g1,g2,g3⟩;let pM:(cF c5).O=dx.O:=g1.perm.size_eq
  repeat fail
  dsimp (zeta:=Y1) (zetaHave:=Y1) only;let e:(Le st).O=dx.O:=hsz;let bH:=aa4 hsz;by_cases c:lo>=dx.O
  .rw[Y2<|by rw[<-e]at c;show c];let:lo=dx.O:=(iZ g2 c)
   subst this;show c7 {(D),g1}
  rw[Y3<|by rw[<-e]at c;show c];show cz (xn (st:=c5) eV g1.kind g1.perm (lo:=lo) (nrem:=(Le st).O-lo) (by(lia)) (by(lia)) λxs n aW bW c9 s1 _=>?_);rw[e]at bW c9;rw[show lo+(dx.O-lo)=dx.O from(mQ g2)]at c9;dsimp (zeta:=Y1) (zetaHave:=Y1) only
  fail
  show oq ?_;intro eJ gq;extract_lets+onlyGivenNames-underBinder jpv;clear_value (hjpv:jpv=_);revert jpv;show ot (P:=λjp=>∀u n xs,1<=n->lo+n<=dx.O->ik (cF c5) xs lo dx.O->fO rk xs lo (lo+n)->wpS Z7 A E s (jp u n) eJ (i3 c5 xs)) ?qz ?k0
  case k0 =>
   subst gq;intro jp bO;split
   .rename_i anF;show cz (qj<|jt {D,?_})
    fail
    show cz (ahU (st:=i3 c5 xs) eV g1.kind (c9.perm.trans g1.perm) (by show _<=xs.O;rw[c9.O];let:=bH;(lia)) (by let:=bH;(lia)) s1 λaQ fY s2=>?_);rw[Y3 Z0]
    fail
    show bO _ _ aQ (by let:=bH;(lia)) (by let:=bH;(lia)) (c9.trans {fY.perm,λp sA=>fY.same p (by let:=bH;(lia))}) s2
   .show bO _ _ xs aW (by(lia)) c9 s1
  case qz =>
   subst gq;intro u n xs aW bW c9 s1;show cz<|m1 ?_;show oq ?_;intro eJ gq;extract_lets+onlyGivenNames-underBinder jpv;clear_value (hjpv:jpv=_);revert jpv;show ot (P:=λjp=>∀u gX,pv κ dx rk gX lo->fO rk (cF gX) lo (lo+n)->wpS Z7 A E s (jp u) eJ gX) ?qA ?k1
   case qA =>
    subst gq;intro u gX aR a4;show cz<|vZ ?_
    fail
    show c7 {lo+n,D,{aR.kind,aR.perm,aR.xO,?_},bW,by(lia)};show Runs rk (cF gX) ((fj gX).push (lo,n,0)).B 0 (lo+n);rw[Bv];show Runs.join aR.runs {(D),aW,a4,D}
   case k1 =>
    subst gq;intro jp bO;let LU:pv κ dx rk (i3 c5 xs) lo:={g1.kind,c9.perm.trans g1.perm,g1.xO,Runs.congr (λp bT cb=>zY<|c9.same p<|.inl cb) g1.runs}
    split
    .fail
     show cz (kU (mf
      (I:=λ_ c gX=>c=(C,())/\pv κ dx rk gX lo/\fO rk (cF gX) lo (lo+n))
      (Q:=λc gX=>c=(C,())/\pv κ dx rk gX lo/\fO rk (cF gX) lo (lo+n)) ?s3 ?dW {(D),LU,s1}) ?gN)
     case dW=>show λc gX z=>z
     case gN =>
      rintro c gX ⟨rfl,aR,a4⟩
      repeat fail
      dsimp (zeta:=Y1) (zetaHave:=Y1) only;show cz<|vZ ?_;show bO _ _ {aR.kind,aR.perm,aR.xO,?_} a4;show alp aR.runs
     case s3 =>
      rintro y c gX _ _ ⟨rfl,aR,a4⟩;show cz<|m1 ?_
      fail
      split
      .rename_i hm;split
       .show c7 {(D),aR,a4}
       .let hz:1<(fj gX).O:=by
         by_cases z:(fj gX).O>1
         .show z
         .rw[Y3 z]at hm;ext hm
        show cz (N2 eV aR (g2) (by show _<(fj gX).O;let:(fj gX).O-2+1<(fj gX).O:=(by(lia));show this)
         λwU t1 eB t3=>?_)
        rw[Y3 Z0];show c7 {D,t1,λp q bT cb fe=>by rw[zY<|t3 p bT,zY<|t3 q<|bF bT cb];show a4 p q bT cb fe}
      .show c7 {(D),aR,a4}
    .show bO _ _ LU s1
end
end a9.Tm
namespace a9.bD
open PySem PySem.Spec PyProof.Rows a9.Tm
def zZ(prog:di)(w:cL)(h:Yg)(aa:O ay)(rk:bV->Y):Prop :=
 2<=aa.H->∃κ,∀(A:dz) (E:ay->aL->Prop) (s:aL),(∀b o,h.get? b=J o->s.heap.get? b=J o) ->
  ba Z7 A (keyKind' aa.D) (λk s'=>k=κ/\s'=s) E s/\mI prog w A E s κ (YG aa) rk
def Di(prog:di)(w:cL)(A:dz)(E:ay->aL->Prop)(h:Yg)(aa:O ay)(rk:bV->Y):Prop :=
 2<=aa.H->∃κ,∀s:aL,(∀b o,h.get? b=J o->s.heap.get? b=J o) ->
  ba Z7 A (keyKind' aa.D) (λk s'=>k=κ/\s'=s) E s/\mI prog w A E s κ (YG aa) rk
def zZ.at(x:zZ prog w h aa rk):Di prog w A E h aa rk:=λao=>let ⟨κ,k⟩:=x ao;{κ,k A E}
section
variable {prog:di}{w:cL}{A:dz}{E:ay->aL->Prop}{s:aL}
def Ij{n:Y}{Q:Y->aL->Prop}(aV:s.heap.get? a=J o)(hd:o.e=.seq xs n)(q:Q n s):ba Z7 A (seqEpoch a) Q E s:=seqEpoch_at aV hd q
def alq{n:Y}(aV:s.heap.get? a=J (iL "list" aa.toArray n))(hz:aa.H<=c3)
  (aa6:∀b o,h0.get? b=J o->b≠a) (aa7:∀b o,h0.get? b=J o->s.heap.get? b=J o) (fc:Di prog w A E h0 aa rk)
  (h:∀xs:Ye bV,xs.Perm (YG aa)->fO rk xs 0 aa.H->P (.done<|.ret .none) { s with heap:=sortedHeap s.Q a aa (xs.map (·.2))}) :
  ba Z7 A (Builtin.«list.sort» {[.ref a],[]}) P E s:=by
 rw[list_sort_plain];let dp:a<s.L:=d6 aV;obtain⟨aA,k1⟩:∃aA,(s.heap.update a (UJ λ_=>#[])).get? a=J (iL "list" #[] aA):={_,get?_update_seq aV λ_=>#[]}
 show aU<|listItems_at aV D<|aU<|Ge aV D<|aU<|Ij k1 D<|aU<|wpAny_newTuple<|aU<|wpAny_newList<|jT ?_;let bP:∀b o,b≠a->s.heap.get? b=J o->(((s.heap.update a (UJ λ_=>#[])).push (iL "tuple" aa.toArray 0)).push (iL "list" #[] 0)).get? b=J o:=λb o nb q=>by let aq:b<s.L:=d6 q;rw[yj _ _ _ (by rw[size_push',Bt];show eE<|lu aq),yj _ _ _ (by rw[Bt];show eE aq),Heap.get?_update_ne _ _ _ _ nb];show q
 let k2:(((s.heap.update a (UJ λ_=>#[])).push (iL "tuple" aa.toArray 0)).push (iL "list" #[] 0)).get? a=J (iL "list" #[] aA):=by rw[yj _ _ _ (by rw[size_push',Bt];show eE<|lu dp),yj _ _ _<|by rw[Bt];show eE dp];show k1
 show ba Z7 A _ P E { s with heap:=((s.heap.update a (UJ λ_=>#[])).push (iL "tuple" aa.toArray 0)).push (iL "list" #[] 0)};dsimp only;let hsz:aa.D.O=aa.H:=by simp
 let C5:(YG aa).O=aa.H:=pairsOf_size aa;by_cases ao:aa.D.O<2
 .rw[Y2 ao,Y2 ao];show aU<|bG ?_;rw[StateT.run_pure];show aU<|bG<|aU<|Ij k2 D<|aU<|Ge k2 D ?_ (hsz2:=by rw[Array.size_map];show(YG aa).O<=_;lia);dsimp only;erw[bne_self_eq_false,iK,Ys];show bG (h (YG aa) (Array.Perm.refl _) λi j _ iD bO=>?_);let:i=j:=by lia
  rw[this];show b3 _
 .rw[Y3 ao,Y3 ao];let(κ,Va):=fc<|g4 ao;let(aR,a4):=Va { s with heap:=((s.heap.update a (UJ λ_=>#[])).push (iL "tuple" aa.toArray 0)).push (iL "list" #[] 0)} λb o e=>bP b o (aa6 b o e)<|aa7 b o e;show aU (g5 aR ?_ λ_ _ e=>e);rintro k s' ⟨rfl,rfl⟩;show aU (g5 (ajB a4 (st:=SortSt.mk' k (YG aa) #[] 7 C) D (Array.Perm.refl _) D D (Q:=λ_ c5=>(cF c5).Perm (YG aa)/\qi c5=C/\fO rk (cF c5) 0 aa.H) λc5 a1 a2 jY=>{a1,a2,by rw[C5]at jY;show jY}) ?_ λ_ _ e=>e);rintro⟨⟨⟩,c5⟩ s' ⟨rfl,aF,hf,aM⟩;dsimp only;show aU<|Ij k2 D<|aU<|Ge k2 D ?_ (hsz2:=bF (dK<|(Array.size_map ..).trans (aF.size_eq.trans C5))<|Nat.le_succ_of_le hz);rw[hf];erw[bne_self_eq_false,iK,Ys];show bG<|h _ aF aM
end
section
variable {X:bL}{L:X7}
def Dj
  (aN:ba Z3 A'.in1 (collect x) (λaa s1=>∃rk,aa.H<=c3/\(∀E,Di X.R X.w A'.in1.in1 E s1.Q aa rk)/\∀h' (xs:Ye bV) e,(∀b o,s1.heap.get? b=J o->h'.get? b=J o)->h'.get? s1.L=J (iL "list" (xs.map (·.2)) e)->xs.Perm (YG aa)->fO rk xs 0 aa.H->Q (.ref s1.L) { s1 with heap:=h'}) E s) :
  ba Z3 A' (call (.builtin "sorted") [x]) Q E s:=by
 show Calls.call_function_entry kind_sorted plain_sorted entry_sorted (args_sorted1 _) ?_;delta Builtin.«sorted»;show aU (m:=checkCount "sorted" 1 1 _)<|bG<|aU (g5 aN (λaa s1 h=>?_) λ_ _ e=>e);let(rk,hz,fc,k):=h;show aU<|wpAny_newList ?_ hz;let zc:(s1.heap.push<|iL "list" aa.toArray 0).get? s1.L=J (iL "list" aa.toArray 0):=fa _ D;show ba _ _ _ _ _ { s1 with heap:=s1.heap.push (iL "list" aa.toArray 0)};show aU<|jT<|mt slot_list_sort ⟨_,zc,D⟩ entry_list_sort (alq (h0:=s1.Q) zc hz (λb o aq=>eE<|d6 aq) (λb o aq=>dG _ aq) (fc _) λxs a1 a2=>{_,D,?_})<|args_list_sort _;let(e,he):=sortedHeap_at (out:=xs.map (·.2)) zc;show bG ⟨_,D,k _ xs e (λb o aq=>?_) he a1 a2⟩;let dp:b<s1.L:=d6 aq;rw[sortedHeap_old (eE dp)<|by rw[kQ];show lu dp];show dG _ aq
end
noncomputable def intOf?:ay->X8 X6
 |.int i _=>J i
 |_=>C
def hg(h:Yg):ay->O X6
 |.ref a=>match h.get? a with
  |some o=>match o.e with
   |.seq xs _=>xs.toList.filterMap intOf?
   |_=>[]
  |none=>[]
 |.int i _=>[i]
 |_=>[]
theorem Ik:∀{us:O ay} {ns:O X6},gf us ns->us.filterMap intOf?=ns
 |_,_,.nil=>rfl
 |_,_,.cons n t h=>by rw[tl];show n::_=_;rw[Ik h]
def rm(h:Yg)(v:ay)(l:O X6):Prop:=∃a o xs n,v=.ref a/\h.get? a=J o/\o.cls=.type "tuple" /\ o.e=.seq xs n/\gf xs.B l/\l≠[]
def rm.eo(t:rm h v l):hg h v=l:=by
 let(a,o,xs,n,rfl,aV,aN,hd,hi,_):=t
 show(match h.get? a with
  |some o=>match o.e with
   |.seq xs _=>xs.toList.filterMap intOf?
   |_=>[]
  |none=>[])=l
 rw[aV]
 show(match o.e with
   |.seq xs _=>xs.toList.filterMap intOf?
   |_=>[])=l
 rw[hd];show Ik hi
def rm.mono(k:∀b o,h.get? b=J o->h'.get? b=J o)(t:rm h v l):rm h' v l:=by let(a,o,xs,n,r,aV,q):=t;show{a,o,xs,n,r,k a o aV,q}
section
variable {prog:di}{w:cL}{A:dz}{E:ay->aL->Prop}{s:aL}
def alr{Q:Yc->aL->Prop}:∀{us aa:O ay} {as bs:O X6} (i:Y),gf us as->gf aa bs->Q (ec as bs) s->W.KatLex prog w A Y0 (decide (us.H<aa.H)) Q (us.zip aa) i s:=by
 let gen:∀{us aa:O ay} {as bs:O X6} (i:Y) (fin:Yc),gf us as->gf aa bs->(decide (us.H<aa.H)=fin)->Q (ec as bs) s->W.KatLex prog w A Y0 fin Q (us.zip aa) i s:=by
  intro us
  induction us with
  |nil =>
   intro aa as bs i fin af ao hf q
   ext af
   cases ao with
   |nil=>subst hf;show q
   |cons n t h=>subst hf;show q
  |cons u us aT =>
   intro aa as bs i fin af ao hf q;cases af with
   |cons n t h =>
    cases ao with
    |nil=>subst hf;show q
    |cons m r g =>
     show W.kat_cons<|FX ?_;delta ec at q;by_cases e:n=m
     .subst e;rw[K2]at q |-;show W.kat_yes (aT (i+1) fin h g (by simpa using hf)<|by simpa using q)
     .let bH:(n==m)=Y1:=by simpa using e
      rw[bH]at q |-;show W.kat_no ?_;let q:Q (decide (n<m)) s:=by simpa using q
      cases i with
      |zero=>show oneLt_int q
      |succ i=>show W.kat_one _ _<|lt_int q
 intro us aa as bs i af ao q;show gen i _ af ao D q
def ahW{Q:Yc->aL->Prop}(ax:rm s.Q x a)(aP:rm s.Q y b)(q:Q (ec a b) s):ba Z7 A (keyLt' (tuples' Y0) x y) Q E s:=by let(p,o,xs,n,rfl,aV,aN,hd,hi,_):=ax;let(fv,cW,aQ,n',rfl,jc,qH,mr,fD,_):=aP;show W.kat_lt aV hd jc mr ?_;let:=alr (prog:=prog) (w:=w) (A:=A) (s:=s) (Q:=Q) 0 hi fD q;simpa using this
end
def sD(h:x∈YG aa):x.1∈aa/\x.2=x.1:=by let h:x∈(YG aa).B:=Array.mem_def.mp h;rw[Gb]at h;let:=mem_zip_self h;show{(this.2),this.1.symm}
inductive lj (h:Yg):O ay->O Z1->Prop
 |nil:lj h [] []
 |cons {v:ay} {l:O X6} {aa:O ay} {ls:O Z1}:rm h v l->lj h aa ls->lj h (v::aa) (l::ls)
theorem lj.eo:∀{aa:O ay} {ls:O Z1},lj h aa ls->aa.map (hg h)=ls
 |_,_,.nil=>rfl
 |_,_,.cons t r=>by rw[cD,t.eo,r.eo]
theorem lj.mem:∀{aa:O ay} {ls:O Z1},lj h aa ls->v∈aa->rm h v (hg h v)
 |_,_,.cons t r,bX=>by
  rcases ei.mp bX with rfl|bX
  .rw[t.eo];show t
  .show r.mem bX
theorem lj.mono(k:∀b o,h.get? b=J o->h'.get? b=J o):∀{aa:O ay} {ls:O Z1},lj h aa ls->lj h' aa ls
 |_,_,.nil=>.nil
 |_,_,.cons t r=>.cons (t.mono k)<|r.mono k
theorem lj.gA:∀{aa:O ay} {ls:O Z1},lj h aa ls->∃cq,W.KatTups h aa cq/\cq.H=aa.H/\∀f∈cq,∃i t,f=.int i t
 |_,_,.nil=>{[],.nil,D,λf hf=>by simp at hf}
 |_,_,.cons t r=>by
  let(cq,k1,k2,k3):=r.gA;let(a,o,xs,n,rfl,aV,aN,hd,hi,sE):=t;have⟨i,u,ax⟩:∃i u,xs[0]?=J (.int i u):=by
   rw[<-js];cases fD:xs.B with
   |nil=>rw[fD]at hi;ext hi;show Yi D sE
   |cons v aa=>rw[fD]at hi;cases hi with
    |cons n t _=>show{(n),t,D}
  show{.int i u::cq,.cons aV aN hd ax k1,by simp[k2],λf hf=>?_};rcases ei.mp hf with rfl|hf
  .show{(i),u,D}
  .show k3 f hf
def N4(t:lj h aa ls):zZ prog w h aa λx=>rank ls<|hg h x.1:=by
 intro ao;show{tuples' Y0,λA E s bP=>{?_,λst x y Q aY ax aP q=>?_}}
 .let(cq,k1,k2,k3):=(t.mono bP).gA;show W.kat_kind (T:=.type "int") k1 (jr<|d0 ao<|dK k2.symm) (λv bX=>?_) Z0 {(D),D};let(i,u,rfl):=k3 v bX;show .now
 .let yS:=sD ax;let Vb:=sD aP;let ql:=(t.mem yS.1).mono bP;let ty:=(t.mem Vb.1).mono bP;rw[zv<|by rw[<-t.eo];show iJ yS.1]at q;rw[lt'_eq];show cz<|m1 ?_;rw[aY];show cz<|qj<|vO<|ahW ql ty {D,c7 q}
def Il(eo:aa.map (hg h)=ls)(p:xs.Perm<|YG aa)(Gy:fO (λx=>rank ls<|hg h x.1) xs 0 aa.H) :
  (xs.map (·.2)).toList.Perm aa/\(xs.map (·.2)).toList.map (hg h)=hn ls:=by
 let aC:xs.toList.Perm<|aa.zip aa:=by rw[<-Gb];show FA.mp p
 let cy:(xs.map (·.2)).toList.Perm aa:=by let:=aC.map (·.2);rw[qbi<|b3 _]at this;rw[Lq];show this
 show{cy,?_};let gN:=cy.map<|hg h;rw[eo]at gN;show Hr gN ?_;let hsz:xs.O=aa.H:=by rw[p.size_eq,pairsOf_size]
 let lh:∀x,x∈xs->x.1∈aa/\x.2=x.1:=λx ax=>sD<|p.mem_iff.mp ax;rw[Bc];intro i j hi bO iD;let fD:i<xs.O:=by simpa using hi
 let mE:j<xs.O:=by simpa using bO
 let q:=Gy i j (f9 _) (ed iD)<|d0 mE<|dK hsz;rw[gI fD,gI mE]at q;let c9:=lh _<|ci fD;let fY:=lh _<|ci mE;let aA:((xs.map (·.2)).toList.map (hg h))[i]=hg h xs[i].1:=by simp[c9.2]
 let av:((xs.map (·.2)).toList.map (hg h))[j]=hg h xs[j].1:=by simp[fY.2]
 show ec _ _=Y1;rw[aA,av,<-zv (nss:=ls) (by rw[<-eo];show iJ fY.1)];simpa using q
section
variable {X:bL}{L:X7}
def _root_.a9.aO.agl{t':Y}(I:aO X ae U H s)(k:∀b u,s.heap.get? b=J u->h'.get? b=J u)(old:∀b u,H b=J u->ak b=J u)
  (aF:∀b,b<s.L->H b=C->ak b=C) (new:∀b u,H b=C->ak b=J u->fN X.R X.w ak h' b u):aO X ae U ak { s with heap:=h',toks:=t'}:=by
 show I.un {λb u q _ _ _=>k b u q,λb u q _ _ _=>{u.slots,k b u q},λb u q n _=>aF b (d6 q) n,λb u q _=>{u,k b u q},λb xs q=>old b _ q,λb o u q=>old b _ q} λb u e=>?_;cases z:H b with
 |none=>show new b u z e
 |some b2 =>
  let:=old b b2 z;rw[this]at e;ext e;show(I.bE b _ z).j8 (k b) λc xs q=>old c _ q
def N5(ns:O X6):hn (ns.map λi=>[i])=(sortI ns).map λi=>[i]:=by
 show(Hr ((sortI_perm ns).map _) ?_).symm;rw[vy];show(zr ns).imp λ{a b} h=>?_;show ec [b] [a]=Y1;delta ec;by_cases e:b=a
 .subst e;simp[ec]
 .simp[e];show h
def N6(t:gf aa ns):zZ prog w h aa λx=>rank (ns.map λi=>[i])<|hg h x.1:=by
 intro ao;show{oneType',λA E s bP=>{?_,λst x y Q aY ax aP q=>?_}}
 .match aa,ao,t with
  |v1::v2::rest,_,t=>rw[keyKind_ints t];show bG {(D),D}
 .let get:∀{v:ay} {aa:O ay} {ns:O X6},gf aa ns->v∈aa->∃i u,v=.int i u/\i∈ns:=by
   intro v aa ns t
   induction t with
   |nil=>intro bX;simp at bX
   |cons n u r aT =>
    intro bX;rcases ei.mp bX with rfl|bX
    .show{n,u,D,dF ..}
    .let(i,u,e,m):=aT bX;show{i,u,e,dZ _ m}
  let(x1,x2):=x;let(dI,iy):=y;let(i,u,rfl,Vc):=get t (sD ax).1;let(j,e7,rfl,am5):=get t (sD aP).1;let q:Q (J<|decide (rank (ns.map λi=>[i]) [i]<rank (ns.map λi=>[i]) [j])) st:=q
  rw[zv<|iJ Vc,show ec [i] [j]=decide (i<j) from by
   delta ec;by_cases e:i=j
   .subst e;simp[ec]
   .simp[e]]at q
  rw[lt'_eq];show cz<|m1 ?_;rw[aY,keyLt'_oneType];show cz<|qj<|vO<|oneLt_int {D,c7 q}
theorem Dk:∀{aa:O ay} {ns:O X6},gf aa ns->aa.map (hg h)=ns.map λi=>[i]
 |_,_,.nil=>rfl
 |_,_,.cons n t r=>by rw[cD,cD,Dk r];rfl
theorem N7{ae:O Z2}{s:aL}{U:St}{H:aI}(I:aO X ae U H s):∀{xs:O T} {ls:O Z1} {aa:O V} {us:O ay},oe xs=J ls->bJ L H xs aa->cA aa us->lj s.Q us ls
 |[],ls,aa,us,e,r,bb=>by
  ext e
  cases ig r
  ext bb
  show .nil
 |.aE (x::xs)::rest,ls,aa,us,e,r,bb=>by
  let(l,aA,av):=b5 (show(eU<|x::xs).bind _=_ from e);let(xo,a7,bM):=dm av
  ext bM
  let(v,w,rfl,p,q):=gH r;cases bb with
  |cons bp b8 =>
   rw[aH]at p;let(a,fK,rfl,cf,cN):=p
   ext bp
   let(aX,aR,(o,aV,aN,_,n,hd),_):=I.xW cf;let ex:=nv aA;rw[ex]at cN;cases sl cN;show .cons {a,o,aX.D,n,D,aV,aN,hd,by simpa using ob aR,?_}<|N7 I a7 q b8;rintro rfl
   ext ex
 |.aE []::_,_,_,_,e,_,_=>by ext e
 |.bR::_,_,_,_,e,_,_=>by ext e
 |.a5 _::_,_,_,_,e,_,_=>by ext e
 |.int _::_,_,_,_,e,_,_=>by ext e
 |.str _::_,_,_,_,e,_,_=>by ext e
 |.aj _::_,_,_,_,e,_,_=>by ext e
 |.a3 _::_,_,_,_,e,_,_=>by ext e
 |.dQ::_,_,_,_,e,_,_=>by ext e
theorem N8:∀{xs:O T} {ls:O Z1},oe xs=J ls->xs=ls.map ar
 |[],ls,e=>by ext e;rfl
 |.aE (x::xs)::rest,ls,e=>by
  let(l,aA,av):=b5 (show(eU<|x::xs).bind _=_ from e);let(xo,a7,bM):=dm av
  ext bM
  rw[cD,<-N8 a7,ar,<-nv aA]
 |.aE []::_,_,e=>by ext e
 |.bR::_,_,e=>by ext e
 |.a5 _::_,_,e=>by ext e
 |.int _::_,_,e=>by ext e
 |.str _::_,_,e=>by ext e
 |.aj _::_,_,e=>by ext e
 |.a3 _::_,_,e=>by ext e
 |.dQ::_,_,e=>by ext e
def N9(bb:cA aa us)(r:bJ L H (ls.map mk) aa)(eo:us.map (hg h)=ls)(p:out.Perm us):∃ws,cA ws out/\bJ L H ((out.map<|hg h).map mk) ws:=by
 let all:∀{ls:O Z1} {aa:O V} {us:O ay},cA aa us->bJ L H (ls.map mk) aa->us.map (hg h)=ls->∀u∈us,∃v,cU v u/\aH L H (mk<|hg h u) v:=by
  intro ls aa us bb
  induction bb generalizing ls with
  |nil=>intro _ _ u b1;simp at b1
  |cons bp b8 aT =>
   rename_i v u aa us;intro jA qu e7 b1;subst qu;rw[cD,cD]at jA;let(h6,w,e,dh,cy):=gH jA;cases e;rcases ei.mp b1 with rfl|b1
   .show{(v),bp,dh}
   .show aT cy D e7 b1
 let vh:=all bb r eo;show sv Z6 λi u e=>?_;let(v,aR,a4):=vh u<|p.mem_iff.mp<|Be e;show{v,mk<|hg h u,aR,by simp[e],a4}
def Im(bh:X.A.handled=C):ff X L (λus=>call (.builtin "sorted") us) CB:=by
 intro B ae s U H aa us aD n t m Q I bb aZ aJ e k;let run:∀{t0:T} {xs:O T} {ls:O Z1} {mk:O X6->T} {v:V} {u:ay},eb X.K L H t0 v->cU v u->uK t0=J xs->xs=ls.map mk ->
   (∀(h':Yg) (aa:O V) (us:O ay),cA aa us->bJ L H xs aa->(∀b o,s.heap.get? b=J o->h'.get? b=J o)->us.map (hg h')=ls/\zZ X.R X.w h' us λx=>rank ls<|hg h' x.1) ->
   (∀v ak,dc L H ak->cR L n ak->Val X.K B L H ak (.aj<|(hn ls).map mk) .az v->Q v ak)->ba Z3 X.A (call (.builtin "sorted") [u]) (fH X ae U Q) X.cu s:=by
  intro t0 xs ls mk v u r eF hw ax aM kk;show Dj (NC bh I r eF hw λus aa h' tk af ao a6 bP=>?_);let(eo,fc):=aM h' aa us af ao bP;show{_,a6,λ_=>fc.at,λuQ ij e jg he aF uR=>?_};let sA:ij.Perm<|YG us:=aF;let(cy,av):=Il eo sA uR;subst ax;let(ws,fs,gC):=N9 af ao eo cy;rw[av]at gC;let bf:aO X ae U H { s with heap:=h',toks:=tk}:=I.kept bP;let hf:H h'.E.O=C:=bf.bE.fresh<|b3 _;let d1:=bf.laid (a:=h'.E.O) (o:=.aj ws) (t':=tk) (h':=uQ) jg (b3 _) {by rw[fs.H,cy.length_eq];show a6,(ij.map (·.2)).B,e,fs,by rw[yk];show he};show{.ref h'.E.O,_,d1,D,kk _ _ (.new hf) (aJ.new hf) {_,D,hf,_,eS,bJ.mono (.new hf) _ _ gC}}
 let Sf:∀{t0:T} {xs:O T} {ns:O X6} {v:V} {u:ay},eb X.K L H t0 v->cU v u->uK t0=J xs->eU xs=J ns ->
   (∀v ak,dc L H ak->cR L n ak->Val X.K B L H ak (.aj<|(sortI ns).map T.int) .az v->Q v ak)->ba Z3 X.A (call (.builtin "sorted") [u]) (fH X ae U Q) X.cu s:=by
  intro t0 xs ns v u r eF hw hi kk;let ax:=nv hi;show run (ls:=ns.map λi=>[i]) (mk:=λl=>.int<|l.headD 0) r eF hw (by rw[be];show ax) (λh' aa us af ao bP=>?_) λv ak a b c=>kk v ak a b (by rw[N5,be]at c;show c);rw[ax]at ao;cases sl ao;show{Dk<|ob af,N6<|ob af}
 induction aD using Yn with
 |nil=>ext e
 |cons dI e3 =>
  induction dI using T.casesOn with
  |aj xs =>
   induction e3 using Yn with
   |nil =>
    let(v,rfl,r):=hL aZ;let(u,rfl,eF):=bb.one;cases hi:eU xs with
    |some ns =>
     let e:(match eU xs with
      |some ns=>J (T.aj<|(sortI ns).map .int,bk.az)
      |none=>(oe xs).map λls=>(T.aj<|(hn ls).map ar,bk.az))=J (t,m):=e
     rw[hi]at e
     ext e
     show Sf r eF D hi k
    |none =>
     let e:(match eU xs with
      |some ns=>J (T.aj<|(sortI ns).map .int,bk.az)
      |none=>(oe xs).map λls=>(T.aj<|(hn ls).map ar,bk.az))=J (t,m):=e
     rw[hi]at e;let(ls,aA,av):=dm e
     ext av
     show run (mk:=ar) r eF D (N8 aA) (λh' aa us af ao bP=>let tt:=N7 (I.kept (t':=s.toks) bP) aA ao af;{tt.eo,N4 tt}) k
   |cons _ _=>ext e
  |aE xs =>
   induction e3 using Yn with
   |nil =>
    let(v,rfl,r):=hL aZ;let(u,rfl,eF):=bb.one;let(ns,aA,av):=dm (show(eU xs).map _=_ from e)
    ext av
    show Sf r eF D aA k
   |cons _ _=>ext e
  |_=>ext e
def als{qI:O Yf}:ho X L qI ic:=λ_ _ _ _ _ _ hd=>by ext hd
def _root_.a9.bD.ff.weak(h:ff X L f g)(w:∀n aD r,g' n aD=J r->g n aD=J r):ff X L f g':=λB ae s U H aa us aD n t m Q I bb aZ aJ e k=>h B ae s U H aa us aD n t m Q I bb aZ aJ (w _ _ _ e) k
def alu(bh:X.A.handled=C):ff X L (λus=>call (.builtin "sorted") us) uy:=(Im bh).weak λn aD r e=>by
 let fin:∀{xs:O T},((eU xs).bind λns=>if ns.H<64 then J (T.aj<|(sortI ns).map .int,bk.az) else C)=J r->∃ns,eU xs=J ns/\J (T.aj<|(sortI ns).map .int,bk.az)=J r:=λ{xs} e=>by
  let(ns,aA,av):=b5 e;split at av
  .show{(ns),aA,av}
  .ext av
 induction aD using Yn with
 |nil=>ext e
 |cons dI e3 =>
  induction dI using T.casesOn with
  |aj xs =>
   induction e3 using Yn with
   |nil =>
    let(ns,aA,av):=fin e
    show(match eU xs with
     |some ns=>J (T.aj<|(sortI ns).map .int,bk.az)
     |none=>_)=_
    rw[aA];show av
   |cons _ _=>ext e
  |aE xs =>
   induction e3 using Yn with
   |nil =>
    let(ns,aA,av):=fin e;show(eU xs).map _=_;rw[aA];show av
   |cons _ _=>ext e
  |_=>ext e
def alv(bh:X.A.handled=C):ff X L (λus=>call (.builtin "sorted") us) Tt:=(Im bh).weak λn aD r e=>by
 induction aD using Yn with
 |nil=>ext e
 |cons dI e3 =>
  induction dI using T.casesOn with
  |aj xs =>
   induction e3 using Yn with
   |nil =>
    let(ls,aA,av):=b5 (show(oe xs).bind _=_ from e);split at av
    .show(match eU xs with
      |some ns=>J (T.aj<|(sortI ns).map .int,bk.az)
      |none=>(oe xs).map λls=>(T.aj<|(hn ls).map ar,bk.az))=_
     match xs,aA with
     |[],aA=>ext aA;show av
     |.aE _::_,aA=>rw[aA];show av
    .ext av
   |cons _ _=>ext e
  |_=>ext e
theorem Oa:∀{au:O (gE×T)} {ps:O Z4},itemsOf au=J ps->au=ps.map λp=>(YE p.1,T.int p.2)
 |[],_,e=>by ext e;rfl
 |(.inl k,.int v)::r,_,e=>by
  let(ps,aA,av):=dm (show(itemsOf r).map _=_ from e)
  ext av
  rw[Oa aA];rfl
 |(.inr _,_)::_,_,e=>by ext e
 |(.inl _,.bR)::_,_,e=>by ext e
 |(.inl _,.a5 _)::_,_,e=>by ext e
 |(.inl _,.str _)::_,_,e=>by ext e
 |(.inl _,.aE _)::_,_,e=>by ext e
 |(.inl _,.aj _)::_,_,e=>by ext e
 |(.inl _,.a3 _)::_,_,e=>by ext e
 |(.inl _,.dQ)::_,_,e=>by ext e
theorem Ob:∀{ps:O Z4} {ws:O (Key×V)},cG L H (ps.map λp=>(YE p.1,T.int p.2)) ws->ws=ps.map λp=>(YE p.1,V.int p.2)
 |[],_,r=>by rw[tn,cG]at r;subst r;rfl
 |p::ps,_,r=>by rw[cD,cG]at r;let(v,bY,rfl,h,q):=r;rw[aH]at h;rw[Ob q,h];rfl
theorem Oc:∀{ps:O Z4} {us:O (Key×ay)},e6 (ps.map λp=>(YE p.1,V.int p.2)) us->∀(j:Y) (k:Key) (x:ay),us[j]?=J (k,x)->∃p t,ps[j]?=J p/\k=YE p.1/\x=.int p.2 t
 |[],_,r,j,k,x,e=>by ext r;simp at e
 |p::ps,_,r,j,k,x,e=>by
  rw[cD]at r;cases r with
  |cons h t =>
   rename_i q tP;cases j with
   |zero =>
    simp at e;subst e;let(af,u,ao):=h;show{(p),u,D,af.symm,ao}
   |succ j=>show Oc t j k x (by simpa using e)
noncomputable def q6(H:aI)(as:O X7)(ls:O Z1):aI:=λb=>match as.findIdx? (·==b) with
 |some j=>J<|.aE<|(ls.getD j []).map V.int
 |none=>H b
def z0(h:b∉as):q6 H as ls b=H b:=by
 delta q6;let:as.findIdx? (·==b)=C:=by rw[qaZ];intro x ax;simp;rintro rfl;show h ax
 rw[this]
def Od{j:Y}(bN:as.Nodup)(h:as[j]?=J b):q6 H as ls b=J (.aE<|(ls.getD j []).map V.int):=by
 delta q6;let:as.findIdx? (·==b)=J j:=by
  let(bO,e):=bv.mp h;rw[qaX];show{bO,by simp[e],λi hi=>?_};let:as[i]≠b:=λz=>by let:=(qbh (h₀:=(gR (ed hi) bO)) (h₁:=bO) bN).mp (z.trans e.symm);lia
  simpa using this
 rw[this]
def aa8{o:Yd}{en:bK}{p apos dk pos:Yh}(bh:X.A.handled=C)(aV:bI X L o en)(hm:X.bj "sorted" = C)(bQ:X9 (fI X "sorted") bo)(jo:X9 (mU o "items" X.env (Ur o X.I)=Ur o X.I) bo)(jq:X9 ((apos.endLine==dk.line)=Y0) bo)
  (he:X9 (cc [.Call (.Attribute o "items" apos) [] [] dk] X.I=(Y1,Ur (.Call (.Attribute o "items" apos) [] [] dk) X.I)::cc [] X.I) bo) :
  bI X L (.Call (.Name "sorted" p) [.Call (.Attribute o "items" apos) [] [] dk] [] pos) (aB zq<|ag en aw):=by
 intro B S n t ko n' hd ae s U H Q I ⟨R,k⟩;let(to,mo,f1,a7):=CG hd;have⟨au,ps,qv,hi,ef,em⟩:∃au ps,to=.a3 au/\itemsOf au=J ps/\t=.aj ((hn (ps.map hK)).map ar)/\ko=.az:=by
  induction to using T.casesOn with
  |a3 au =>
   let(ps,af,ao):=dm (show(itemsOf au).map _=_ from a7)
   ext ao
   show{(au),ps,D,af,D,D}
  |_=>ext a7
 subst qv ef em;show lz<|kZ I bQ hm vY ?_ Z0 Z0;show K7 (Q:=fH X ae U Q) ?_ he D;rw[he];show i0<|FO jo jq (bZ (aV.run f1 I R) λu s1 ⟨v,H1,bf,bp,a1,bt,b0⟩=>?_);let(a,ws,rfl,na,cf,cN):=b0.root bt R.aJ
 ext bp
 let(z,Io,us,rel,dd):=iA bf.bE cf;let(fu,gQ,z1,nx,Ip,_):=id dd;show⟨"dict","dict.items",PySem.F.plainAttrs_dict,PySem.F.slot_dict_items,PySem.F.type_dict_items,dd.typeIs,λb e=>by ext e;show{(fu),nx,Ip.2.1},qf D<|PySem.evalArgs_none ?_⟩;show BI PySem.F.slot_dict_items dd.typeIs PySem.F.entry_dict_items (PySem.F.args_dict_items_1 _) (meets_dict_items (gF X.R X.w) a Io) ⟨⟨us,dd⟩,?_⟩;show ly ?_;let cI:aO X ae U H1 { s1 with heap:=s1.heap.push { cls:=.type "dict_items",data:=.fields #[.ref a]}}:=bf.kept (t':=s1.toks) λb u q=>dG _ q;let q3:(s1.heap.push { cls:=.type "dict_items",data:=.fields #[.ref a]}).DictOf (gF X.R X.w) a us:=by let(_,_,q4,anG,oa):=iA cI.bE cf;let(fu,gQ,z1,aR,a4,cQ):=dd;show{fu,gQ,z1,dG _ aR,a4,cQ}
 let(ep,dC):=q3.dictAt;let aC:ws.H=us.H:=KQ rel;let qu:=Oa hi;subst qu;let m5:=Ob cN;subst m5;let Oe:ps.H=us.H:=by rw[<-aC,cj]
 show Dj (W.kdx_collect (d:=a) bh {_,fa _ D,D,D} dC (by rw[<-aC];show z) λh' tk as bP has r6=>?_);let pr:∀(j:Y) (b:X7),as[j]?=J b->∃(q:X6×X6) (t eB:Tok),ps[j]?=J q/\h'.get? b=J { cls:=.type "tuple",data:=.seq #[.int q.1 t,.int q.2 eB]}:=λj b e=>by
  let(key,kk,x,g1,g2,g3):=r6.pairs j b e;let(q,eB,af,rfl,rfl):=Oc rel j kk x g1;have⟨t,aY⟩:∃t,key=.int q.1 t:=by
   let g2:KX q.1 key=Y0:=g2
   ext key<;>simp[KX]at g2
   subst g2;show{_,D}
  subst aY;show{(q),t,eB,af,g3}
 let tt:∀{as:O X7} {ps:O Z4},as.H=ps.H->(∀(j:Y) (b:X7),as[j]?=J b->∃(q:X6×X6) (t eB:Tok),ps[j]?=J q/\h'.get? b=J { cls:=.type "tuple",data:=.seq #[.int q.1 t,.int q.2 eB]})->lj h' (as.map Uu) (ps.map hK):=by
  intro as
  induction as with
  |nil=>intro ps e _;cases ps with
   |nil=>show .nil
   |cons _ _=>simp at e
  |cons b as aT =>
   intro ps e h;cases ps with
   |nil=>simp at e
   |cons q ps =>
    let(ee,t,eB,g1,g2):=h 0 b D;simp at g1;subst g1
    show .cons ⟨b,_,_,_,D,g2,D,D,.cons _ _<|.cons _ _ .nil,by simp[hK]⟩ (aT (by simpa using e) λj jx bH=>by
     let(aa9,t,eB,g1,g2):=h (j+1) jx (by simpa using bH)
     show{aa9,t,eB,by simpa using g1,g2})
 let T0:=tt (by rw[has,Oe]) pr;let bN:as.Nodup:=r6.rise.imp λh=>eE h;show{_,by rw[cj,has,<-aC];show z,λ_=>(N4 T0).at,λuQ ij e jg ax aF uR=>?_};let(cy,av):=Il T0.eo aF uR;let above:∀b∈as,s1.L<=b:=λb aq=>by let:=r6.above b aq;rw[kQ]at this;show ed<|jr this
 let fr:∀b∈as,H1 b=C:=λb aq=>bf.bE.fresh<|above b aq;let fz:aO X ae U (q6 H1 as<|ps.map hK) { s1 with heap:=h',toks:=tk}:=by
  show bf.agl (λb u q=>bP b u<|dG _ q) (λb u q=>?_) (λb aq q=>?_) λb u q e=>?_
  .rw[z0 λaq=>by rw[fr b aq]at q;ext q];show q
  .rw[z0 λmF=>Yi aq<|Fz.mpr<|above b mF];show q
  .by_cases aq:b∈as
   .let(j,bO):=List.mem_iff_getElem?.mp aq;rw[Od bN bO]at e;ext e;let(ee,t,eB,g1,g2):=pr j b bO;let:(ps.map hK).getD j []=[ee.1,ee.2]:=by simp[List.getD,g1,hK]
    rw[this];show{by simp;decide,[.int ee.1 t,.int ee.2 eB],.cons {(t),D}<|.cons {(eB),D} .nil,_,g2,D,D,_,D}
   .rw[z0 aq,q]at e;ext e
 let cY:dc L H1<|q6 H1 as<|ps.map hK:=.all λb u q=>by rw[z0 λaq=>by rw[fr b aq]at q;ext q];show q
 let Of:cR L n'<|q6 H1 as<|ps.map hK:=by let:=bt.aJ;delta cR at this |-;rw[z0 (λaq=>by rw[fr L aq]at this;ext this)];show this
 let jA:∃aa,cA aa (as.map Uu)/\bJ L (q6 H1 as<|ps.map hK) ((ps.map hK).map ar) aa:=by
  show sv (by rw[cj,cj,cj,has,Oe]) λj u e=>?_;rw[hN]at e;cases q:as[j]? with
  |none=>rw[q]at e;ext e
  |some b =>
   rw[q]at e;ext e;let(ee,t,eB,g1,g2):=pr j b q;show{.ref b,ar<|hK ee,D,by simp[g1],?_};rw[ar,aH];show{b,_,D,Od bN q,?_};rw[show(ps.map hK).getD j []=hK ee by simp[List.getD,g1]];show bJ.ints _
 let(aa,v1,v2):=jA;let(su,fs,gC):=N9 v1 v2 T0.eo cy;rw[av]at gC;let hf:q6 H1 as (ps.map hK) h'.E.O=C:=fz.bE.fresh<|b3 _;let gU:=fz.laid (a:=h'.E.O) (o:=.aj su) (t':=tk) (h':=uQ) jg (b3 _) {by rw[fs.H,cy.length_eq,cj,has,<-aC];show z,(ij.map (·.2)).B,e,fs,by rw[yk];show ax};show{.ref h'.E.O,_,gU,D,k _ _ (a1.trans<|cY.trans<|.new hf) (Of.new hf) {_,D,a1.free bt.aJ<|cY.free Of hf,_,eS,bJ.mono (.new hf) _ _ gC}}
def _root_.a9.bD.bI.weak(h:bI X L e d)(w:∀S n r,d' S n=J r->d S n=J r):bI X L e d':=λB S n t m n' hd=>h B S n t m n'<|w _ _ _ hd
def ajC{g g':d2}(w:∀n aD r,g' n aD=J r->g n aD=J r){a:gh}{S:bA}{n:Y}{r:T×bk×Y}(e:aB g' a S n=J r):aB g a S n=J r:=by let((aD,aW),aA,av):=b5 e;let((t1,c9),a7,bM):=dm av;delta aB;rw[aA];show(g aW aD).map _=_;rw[w _ _ _ a7];show Yx J bM
end
end a9.bD
section
namespace a9.bD
open PySem PySem.Spec PyProof.Rows a9.Tm
def z2(K:Yk):kX:=λaa H Q _=>∃(a:X7) (ns:O X6),aa=[.ref a]/\fw K H a (ns.map V.int)/\ns.H<=63/\∀ak,Q (.a5 Y0) ak
def ahX{P:di}{w:cL}{K:Yk}{bj:Ya->X8 ay}{base:Yg}{st:Yf}{f:X7}{fd:i2}{N:O Ya}{lv:Y}{rest:O Yf}{b:bw}{dD cm pos:Yh}(F:qN K "law" "law" st f fd)(cZ:mM N ["_law_script"]<|e2 st)
  (aq:iB st=.Assign [.Name "_law_town" dD] (.List [] cm) pos::rest) (af:N[1]?=J ("_law_town" : Ya)) (ao:2<=N.H) (ax:Loc (e2 st) "_law_town")
  (aM:∀(dw:ay) (A:dz) (cP:O Env) (s:aL) (H:aI) (E:h7),nW (.List [] cm) (J<|.Name "_law_town" dD) pos.line (ka j0 P w K bj base N "law" (e2 st) f dw A cP s H E).nj.I=pure Y1)
  (lk:∀(L:X7) (dw:ay) (A:dz) (cP:O Env) (s:aL) (H:aI) (E:h7),fb lv (A.deeper<|jv "law" (e2 st) s.L f dw)->ho (ka j0 P w K bj base N "law" (e2 st) f dw A cP s H E).nj L rest b)
  (run:∀ns:O X6,ns.H<=63->∃S' n',b (pG ns N.H) 0=J (.aZ (.a5 Y0) Y1,S',n')):j9 P w K bj base j0 (lv+1) f fd ["_law_script"]<|z2 K:=by
 show F.ok cZ (λaa H Q E h=>?_) λdw A cP s H aa Q E hr h=>?_
 .let(a,ns,rfl,_):=h;rfl
 let(a,ns,rfl,fc,aba,q):=h;let(S',n',e):=run ns aba;rw[aq];show{_,pD (Cp (i:=1) cZ.bN af ax (To uq) (aM dw A cP s H E)<|.inl D) (u:=λLk U H=>∃L B,wh K B L (pG ns N.H) 0 (.aZ (.a5 Y0) Y1) S' n' Lk U H) λae s' U ak Lk I h=>?_,?_}
 .let(L,B,h):=h;show lk L dw A cP s H E hr B _ 0 _ _ _ e ae s' U ak Lk I h
 .show{by show 0<=c3;show f9 _,λp aF=>?_};let na:∀b o,H b=J o->b≠p:=λb o z=>by rintro rfl;rw[aF]at z;ext z
  let a8:uC K p (cO H p<|.aj []) a<|ns.map V.int:=by
   rcases fc with(z|⟨o,z⟩)|z|z
   .show .inl {na _ _ z,.inl<|by rw[ea<|na _ _ z];show z}
   .show .inl {na _ _ z,.inr {o,by rw[ea<|na _ _ z];show z}}
   .show .inr<|.inl z
   .show .inr<|.inr {na _ _ z,by rw[ea<|na _ _ z];show z}
  show{p,cO H p<|.aj [],{?_,?_}}
  .let aJ:cR p 0<|cO H p<|.aj []:=by delta cR;rw[eS];rfl
   let d5:(pG ns N.H).H=N.H:=by delta pG;simp;lia
   let k4:start N [V.ref a]=J (V.ref a)::Yj (N.H-1) C:=rfl;let CO:((start N [V.ref a]).set 1 (J<|V.ref p))=J (V.ref a)::J (V.ref p)::Yj (N.H-2) C:=by rw[k4,show N.H-1=(N.H-2)+1 by lia,l7];rfl
   let get:∀(i:Y) (x:T×bk),(pG ns N.H)[i]?=J (J x)->(i=0/\x=(.aj<|ns.map .int,.cV))\/(i=1/\x=(.dQ,.ah)):=λi x z=>by
    delta pG at z
    match i,z with
    |0,z=>simp at z;show .inl {(D),z.symm}
    |1,z=>simp at z;show .inr {(D),z.symm}
    |i+2,z =>
     let z:(Yj (N.H-2) (C:X8<|T×bk))[i]?=J (J x):=z;rw[xY]at z;split at z<;>ext z
   rw[CO];show{.refl _ _,aJ,{0,aJ},by rw[d5];simp;lia,λi t z=>?_,λi t z=>?_,λi t z=>?_,λi t z=>?_,λi j t t' a z=>?_}
   .rcases get i _ z with⟨rfl,z⟩|⟨rfl,z⟩
    .ext z
    .ext z;show{_,D,by rw[aH]}
   .rcases get i _ z with⟨rfl,z⟩|⟨rfl,z⟩
    .ext z;show{_,D,a,_,D,a8,bJ.ints ns}
    .ext z
   .rcases get i _ z with⟨rfl,z⟩|⟨rfl,z⟩<;>ext z
   .rcases get i _ z with⟨rfl,z⟩|⟨rfl,z⟩<;>ext z
   .rcases get i _ z with⟨rfl,z⟩|⟨rfl,z⟩<;>ext z
  .intro v ak _ _ _ z;let z:aH p ak (.a5 Y0) v:=z;rw[aH]at z;subst z;show q ak
def agm{l:W.OpenLaw}{q:di}{loose:O Ya}{wg:(Ya->X8 ay)->Yg->Prop}{rV:cL->Yg->Prop}{d:DefRec}{K:Params->Yk}(k:Y)(bq:l.most=J 63)(sj:d.params.defaults=[])(hr:fb k rO)
  (Gh:∀(w:cL) (h:Yg),rV w h->(K w.params).In h)
  (F:∀(w:cL) (bj:Ya->X8 ay) (e8:X7) (h:Yg),(K w.params).In h->h.Ns kg bj->bj d.name=J (.ref e8) ->
   ∃fd:i2,(∀(s:aL) (u:ay),vX s fd {[u],[]} [("_law_script",u)])/\∀base:Yg,(K w.params).In base->base.Ns kg bj->j9 l.R w (K w.params) bj base j0 k e8 fd ["_law_script"] (z2<|K w.params)) :
  W.WalkO q loose wg rV l.row.toRowW d [] (λf aa=>PySem.call f aa) :=
 a9.ai7 (n:=63) (k:=k) (x:="_law_script") (CX:=λ_=>j0) (sp:=λw=>z2<|K w.params) bq Z0 sj hr Gh F (λw _ a ns aC _ fc=>{a,ns,D,fc,aC,λ_=>D}) λ_ _ _ _ _ z=>z
def lp.of{X:bL}{scope:ju}{N':O Ya}{e9:O<|X8 Y}(af:X9 (scope.kind=.function) bo)(ao:X9 ((scope.names.all λy=>y.2 != .cell)=Y0) bo)
  (a6:X9 ((scope.names.all λy=>y.2 != .local||scope.names.lookup y.1==J .local)=Y0) bo)
  (cS:X9 ((scope.names.all λy=>y.2 != .free||X.env.kindOf y.1==J .cell||X.env.kindOf y.1==J .free)=Y0) bo)
  (fB:X9 (e9.H=N'.H) bo)
  (Gj:X9 (((Yr e9.H).all λi=>match e9[i]? with
   | some (J j)=>(match N'[i]? with
    |some x=>X.N[j]?==J x&&scope.names.lookup x != J .local
    |none=>Y1)
   |_=>Y0)=Y0) bo):lp X scope N' e9:=by
 show{af,λy aP z=>?_,λy aP z=>?_,λy aP z=>?_,fB,λi j e=>?_}
 .let:=hO.mp ao y aP;rw[z]at this;ext this
 .let:=hO.mp a6 y aP;rw[z]at this;show eq_of_beq (by simpa using this)
 .let:=hO.mp cS y aP;rw[z]at this;simpa using this
 .let hi:i<e9.H:=(bv.mp e).1;let:=hO.mp Gj i<|qd.mpr hi;rw[e]at this
  let:(match N'[i]? with
    |some x=>X.N[j]?==J x&&scope.names.lookup x != J .local
    |none=>Y1)=Y0:=this
  cases q:N'[i]? with
  |none=>rw[q]at this;ext this
  |some x =>
   rw[q]at this;erw[gS,UI,bne_iff_ne]at this;show{(x),D,this.1,this.2}
end a9.bD
namespace a9
open PySem
def fb.fR{k:Y}(r:fb k A):A.units+1<fh:=by let:=r.un;lia
def fb.yT{k:Y}(r:fb k A):A.units+6<fh:=by let:=r.un;lia
end a9
end
namespace a9.bD
open PySem PySem.Spec PyProof.Rows a9.Tm
section
variable {X:bL}{L:X7}
theorem Og:∀{au:O (gE×T)} {ns:O X6} {ws:O (Key×V)} {us:O (Key×ay)},qU au=J ns->cG L H au ws->e6 ws us->us.H=ns.H/\∀(i:Y) (k:Key) (v:ay),us[i]?=J (k,v)->∃t,v=.int (ns.getD i 0) t
 |[],ns,ws,us,e,r,rel=>by
  ext e
  rw[cG]at r;subst r
  ext rel
  show{D,λi k v e=>by simp at e}
 |(eo,.int x)::rest,ns,ws,us,e,r,rel=>by
  let(ms,aA,av):=dm (show(qU rest).map _=_ from e)
  ext av
  rw[cG]at r;let(v,bY,rfl,h,q):=r;rw[aH]at h;cases rel with
  |cons a b =>
   rename_i p ps;let(l,g):=Og aA q b;show{by simp[l],λi k u e=>?_};cases i with
   |zero =>
    simp at e;subst e;let(_,a2):=a;subst h;let(t,a2):=a2;show{(t),a2}
   |succ i=>simpa using g i k u (by simpa using e)
 |(_,.bR)::_,_,_,_,e,_,_=>by ext e
 |(_,.a5 _)::_,_,_,_,e,_,_=>by ext e
 |(_,.str _)::_,_,_,_,e,_,_=>by ext e
 |(_,.aE _)::_,_,_,_,e,_,_=>by ext e
 |(_,.aj _)::_,_,_,_,e,_,_=>by ext e
 |(_,.a3 _)::_,_,_,_,e,_,_=>by ext e
 |(_,.dQ)::_,_,_,_,e,_,_=>by ext e
def agn(X:bL)(ae:O Z2)(U:St)(H:aI)(ns:O X6)(A':dz)(s:aL)(u:ay):Prop :=
 ∀E,ba Z3 A' (kh u) (λit fX=>∃kr fp wr P St,it=.ref kr/\Walks X.R X.w A' kr fp wr ns.H P St/\St 0 fX.Q/\(∀b∈fp,b<fX.L)/\(∀i u,P i u->∃t,u=.int (ns.getD i 0) t) /\
   ∀h' tk,(∀b o,b∉wr->fX.heap.get? b=J o->h'.get? b=J o)->aO X ae U H { fX with heap:=h',toks:=tk}) E s
def ajD{x:Ya}{id:YD}{g:d2}{o:Yd}{en:bK}{p apos dk pos:Yh}(bh:X.A.handled=C)(aV:bI X L o en)(hm:X.bj x=C)(bX:nV x=J (.builtin id))
  (abb:∀n aD t m,g n aD=J (t,m)->∃au ns i,aD=[.a3 au]/\qU au=J ns/\t=.int i/\m=.ah/\∀ae U H s u (Q:ay->aL->Prop) E,agn X ae U H ns X.A.in1 s u->(∀s' t,aO X ae U H s'->Q (.int i t) s')->ba Z3 X.A (call (.builtin id) [u]) Q E s)
  (bQ:X9 (fI X x) bo) (bq:X9 (x ≠ "__name__") d7) (gz:X9 ((x==("__debug__" : Ya))=Y1) d7) (jo:X9 (mU o "values" X.env (Ur o X.I)=Ur o X.I) bo) (jq:X9 ((apos.endLine==dk.line)=Y0) bo)
  (he:X9 (cc [.Call (.Attribute o "values" apos) [] [] dk] X.I=(Y1,Ur (.Call (.Attribute o "values" apos) [] [] dk) X.I)::cc [] X.I) bo) :
  bI X L (.Call (.Name x p) [.Call (.Attribute o "values" apos) [] [] dk] [] pos) (aB g<|ag en aw):=by
 intro B S n t ko n' hd ae s U H Q I ⟨R,k⟩;let(to,mo,f1,a7):=CG hd;let(au,ns,i,qv,hi,rfl,rfl,go):=abb _ _ _ _ a7;let qv:to=.a3 au:=by simpa using qv
 subst qv;show lz<|kZ I bQ hm bX ?_ bq gz;show K7 (Q:=fH X ae U Q) ?_ he D;rw[he];show i0<|FO jo jq (bZ (aV.run f1 I R) λu s1 ⟨v,H1,bf,bp,a1,bt,b0⟩=>?_);let(a,ws,rfl,na,cf,cN):=b0.root bt R.aJ
 ext bp
 let(z,Io,us,rel,dd):=iA bf.bE cf;let(fu,gQ,z1,nx,Ip,_):=(show _ from dd)
 show⟨"dict","dict.values",PySem.F.plainAttrs_dict,PySem.F.slot_dict_values,PySem.F.type_dict_values,dd.typeIs,λb e=>by ext e;show{(fu),nx,Ip.2.1},qf D<|PySem.evalArgs_none ?_⟩;show BI PySem.F.slot_dict_values dd.typeIs PySem.F.entry_dict_values (PySem.F.args_dict_values_1 _) (meets_dict_values (gF X.R X.w) a Io) ⟨⟨us,dd⟩,?_⟩;show ly ?_;let cI:aO X ae U H1 { s1 with heap:=s1.heap.push { cls:=.type "dict_values",data:=.fields #[.ref a]}}:=bf.kept (t':=s1.toks) λb u q=>dG _ q;let q3:(s1.heap.push { cls:=.type "dict_values",data:=.fields #[.ref a]}).DictOf (gF X.R X.w) a us:=by let(fu,gQ,z1,aR,a4,cQ):=dd;show{fu,gQ,z1,dG _ aR,a4,cQ}
 let(ep,dC):=q3.dictAt;let(aC,Dl):=Og hi cN rel;show go ae U H1 _ _ (fH X ae U Q) X.cu (λE=>?_) λs' t d1=>{.int i,H1,d1,{(t),D},k _ H1 a1 bt.aJ<|by show aH L H1 (.int i) _;rw[aH]}
 let sE:a≠(s1.heap.push { cls:=.type "dict_values",data:=.fields #[.ref a]}).E.O:=eE dC.lt_size
 let' tw:=(s1.heap.push { cls:=.type "dict_values",data:=.fields #[.ref a]}).E.O
 show wpAny_pyIter_values {_,fa _ D,D,D} dC {tw,[tw,a],[tw],λi v=>∃k,us[i]?=J (k,v),λi h=>h.IsValIter tw a i us.H ep/\h.DictAt (gF X.R X.w) a us ep,D,?_,{{_,fa _ D,D,D},dC.push _},λb aq=>?_,λi u aF=>?_,λh' tk bP=>?_}
 .let:=Walks.dictValues (prog:=X.R) (w:=X.w) (A:=X.A.in1) (knd:=gF X.R X.w) bh tw a sE us ep;rw[<-aC];show this
 .rw[kQ];simp at aq;rcases aq with rfl|rfl
  .show mS _
  .show lu dC.lt_size
 .let(gD,aY):=aF;show Dl i gD u aY
 .show cI.kept λb cW e=>bP b cW (by simp;show eE<|d6 e)<|dG _ e
def abc{o:Yd}{en:bK}{p apos dk pos:Yh}(bh:X.A.handled=C)(aV:bI X L o en)(hm:X.bj "sum" = C)(bQ:X9 (fI X "sum") bo)(jo:X9 (mU o "values" X.env (Ur o X.I)=Ur o X.I) bo)(jq:X9 ((apos.endLine==dk.line)=Y0) bo)
  (he:X9 (cc [.Call (.Attribute o "values" apos) [] [] dk] X.I=(Y1,Ur (.Call (.Attribute o "values" apos) [] [] dk) X.I)::cc [] X.I) bo) :
  bI X L (.Call (.Name "sum" p) [.Call (.Attribute o "values" apos) [] [] dk] [] pos) (aB Hs<|ag en aw):=by
 show ajD bh aV hm boot_sum (λn aD t m e=>?_) bQ Z0 Z0 jo jq he
 induction aD using Yn with
 |nil=>ext e
 |cons dI e3 =>
  induction dI using T.casesOn with
  |a3 au =>
   induction e3 using Yn with
   |nil =>
    let(ns,af,ao):=b5 (show(qU au).bind _=_ from e);split at ao
    .rename_i aq
     ext ao
     show{au,ns,_,D,af,D,D,λae U H s u Q E wC fin=>?_};let qT:∀x∈ns,-1000000<=x/\x<=1000000:=λx ax=>by let:=hO.mp aq.2 x ax;simpa using this
     show call_sum_walk (bZ (wC E) λit fX ⟨kr,fp,wr,P,St,e,W,st,om,ez,bP⟩=>?_);show{kr,fp,wr,_,P,St,λi=>ns.getD i 0,e,W,st,om,λi v bX=>ez i v bX,λj bO=>?_,λh' tk t' abd=>?_}
     .let af:=qT (ns.getD j 0) (by rw[iu,gB bO];show l9 _);show InLong (ns.getD j 0)/\_;rw[C3 ns (j+1) bO];let ao:=aan (ns:=ns.take<|j+1) λx ax=>qT x<|x3 ax;let a6:((ns.take<|j+1).H:X6)<=100000:=by rw[lr];let:=aq.1;lia
      show{{(iv Z0 af.1),(oY af.2 Z0)},{by lia,by lia}}
     .rw[C3 ns ns.H<|b3 _,vz];show fin _ _<|bP h' tk abd
    .ext ao
   |cons _ _=>ext e
  |_=>ext e
end
end a9.bD
namespace a9.bD
open PySem PySem.Spec PyProof.Rows
def oK(xs:Ye Y):Prop:=∀(i j:Y) (hi:i<xs.O) (bO:j<xs.O),i<j->xs[i]<xs[j]
theorem Iq{j:Y}(hr:oK xs):∀(fuel lo hi:Y),hi-lo<=fuel->lo<=hi->hi<=xs.O->(∀i (h:i<xs.O),i<lo->xs[i]<j)->(∀i (h:i<xs.O),hi<=i->j<=xs[i]) ->
  ∃p,SetTable.below.go xs j fuel lo hi=p/\lo<=p/\p<=hi/\(∀i (h:i<xs.O),i<p->xs[i]<j)/\∀i (h:i<xs.O),p<=i->j<=xs[i]
 |0,lo,hi,hf,aC,aM,af,ao=>{lo,D,b3 _,aC,af,λi h fD=>ao i h Z5}
 |fuel+1,lo,hi,hf,aC,aM,af,ao=>by
  delta SetTable.below.go;by_cases c:lo<hi
  .rw[Y2 c];let hm:(lo+hi) / 2<xs.O:=by lia
   let bQ:xs.getD ((lo+hi) / 2) j=xs[(lo+hi) / 2]:=by simp[Array.getD,hm]
   dsimp only;rw[bQ];by_cases d:xs[(lo+hi) / 2]<j
   .rw[Y2 d]
    let(p,e,a,b,aR,a4):=Iq hr fuel ((lo+hi) / 2+1) hi Z5 Z5 aM (λi h fD=>by
     by_cases z:i=(lo+hi) / 2
     .subst z;show d
     .show vG (hr i _ h hm<|rD (oV fD) z) d) ao
    show{p,e,by lia,b,aR,a4}
   .rw[Y3 d]
    let(p,e,a,b,aR,a4):=Iq hr fuel lo ((lo+hi) / 2) Z5 Z5 (ed hm) af (λi h fD=>by
     by_cases z:i=(lo+hi) / 2
     .subst z;show g4 d
     .show bF (g4 d)<|ed<|hr _ i hm h Z5)
    show{p,e,a,by lia,aR,a4}
  .rw[Y3 c];show{lo,D,b3 _,aC,af,λi h fD=>ao i h<|bF (g4 c) fD}
def Ir(hr:oK xs)(j:Y):Yu xs j<=xs.O/\(∀i (h:i<xs.O),i<Yu xs j->xs[i]<j)/\∀i (h:i<xs.O),Yu xs j<=i->j<=xs[i]:=by let(p,e,_,b,aR,a4):=Iq hr (j:=j) xs.O 0 xs.O (b3 _) (f9 _) (b3 _) (λi h z=>by lia) (λi h z=>by lia);let e:Yu xs j=p:=e;rw[e];show{(b),aR,a4}
def xP(xs:Ye Y)(j:Y):Prop:=xs[Yu xs j]?≠J j
def ajE{α:Type}(xs:Ye α)(p:Y)(x:α)(aF:p<=xs.O):(SetTable.insertAt xs p x).B=xs.toList.take p++x::xs.toList.drop p:=by delta SetTable.insertAt;rw[vJ,Bv,Bu,Bu,Bb,Bb];erw[yh,ya,hj,List.singleton_append];congr 2;show vu Z6
def It:oK xs↔xs.toList.Pairwise (·<·):=by
 rw[Bc];constructor
 .intro h i j hi bO iD;simpa using h i j (by simpa using hi) (by simpa using bO) iD
 .intro h i j hi bO iD;let:=h i j (by simpa using hi) (by simpa using bO) iD;rw[Ln,Ln]at this;show this
def alw{j:Y}(hr:oK xs)(bq:xP xs j):oK<|SetTable.insertAt xs (Yu xs j) j:=by
 let(b,aR,a4):=Ir hr j;let cQ:∀i (h:i<xs.O),Yu xs j<=i->j<xs[i]:=λi h hi=>by
  let:=a4 i h hi;rcases Nat.lt_or_eq_of_le this with z|z
  .show z
  .by_cases e:i=Yu xs j
   .show Yi ?_ bq;rw[<-e,rH h,<-z]
   .let dp:Yu xs j<xs.O:=(gR hi h)
    let:=hr (Yu xs j) i dp h Z5;let:=a4 (Yu xs j) dp<|b3 _;lia
 rw[It,ajE _ _ _ b];let aC:=It.mp hr;rw[oR];let c9:∀a∈xs.toList.take (Yu xs j),a<j:=λa bx=>by let(i,hi,e):=x5.mp bx;rw[lr]at hi;rw[x8]at e;let:=aR i (by simp at hi;show d0 hi<|Bp _ _)<|d0 hi<|Nat.min_le_left _ _;simp at e;show gR (dK e.symm) this
 let fY:∀a∈xs.toList.drop (Yu xs j),j<a:=λa bx=>by let(i,hi,e):=x5.mp bx;rw[oS]at hi;rw[x7]at e;let:=cQ (Yu xs j+i) (by simp at hi;lia)<|hF _ _;simp at e;show d0 this<|dK e
 show{aC.sublist<|x6 _ _,l8.mpr ⟨fY,aC.sublist<|vx _ _⟩,λa bx c aN=>?_};let:=c9 a bx;rcases ei.mp aN with rfl|aN
 .show this
 .let:=fY c aN;lia
structure ll (led:Yc) (t:o7):Prop where
 led:t.led=led
 rise:t.plain=Y0->oK t.place
theorem ll.fresh(led:Yc):ll led<|.fresh 0 0 led:=⟨D,λ_ i j hi=>by simp[SetTable.fresh]at hi⟩
theorem ll.standIn{led:Yc}(g:ll led t)(n:Y):ll led<|t.standIn n:=⟨g.led,λz=>by ext z⟩
def Oh{t:o7}{j:Y}(h:∀i,t.slot j≠.live i):xP t.place j:=by intro z;show h (Yu t.place j) ?_;delta SetTable.slot;dsimp only;rw[z];simp
theorem Iu{t:o7}{f:Y->X6}{h:X6}:∀(fuel:Y) (p:SetTable.Probe) (j:Y) (d:X8 Y),(∀x,p.dummy=J x->xP t.place x)->SetTable.probe.go t f h fuel p=J (.empty j d)->xP t.place j/\∀x,d=J x->xP t.place x
 |0,p,j,d,_,e=>by ext e
 |fuel+1,p,j,d,hd,e=>by
  delta SetTable.probe.go at e;let Oi:∀q:SetTable.Probe,(t.advance q).dummy=q.dummy:=λq=>by delta SetTable.advance;split<;>rfl
  cases aM:t.slot p.j with
  |empty =>
   rw[aM]at e
   ext e
   show⟨Oh (λi z=>by rw[aM]at z;ext z),hd⟩
  |dummy =>
   rw[aM]at e
   show Iu fuel _ j d (λx ax=>by
    rw[Oi]at ax
    ext ax
    show Oh λi z=>by rw[aM]at z;ext z) e
  |live i =>
   rw[aM]at e;dsimp only at e;split at e
   .ext e
   .show Iu fuel _ j d (λx ax=>by rw[Oi]at ax;show hd x ax) e
def ajF{t:o7}{h:X6}{j:Y}{w:Yc}(e:t.freeSlot h=J (j,w)):xP t.place j:=by
 delta SetTable.freeSlot at e;split at e
 .rename_i qq d aF
  ext e
  let(aW,bW):=Iu _ _ _ _ (λx ax=>by ext ax) aF;cases d with
  |none=>show aW
  |some x=>show bW x D
 .ext e
def ll.lay{led:Yc}(g:ll led t)(es:Ye<|X6×ay)(h:X6)(x:ay):ll led (layNew t es h x).2.1:=by
 delta layNew;cases e:t.freeSlot h with
 |none=>show g.standIn _
 |some q =>
  let(j,w):=q;dsimp only;let g1:ll led (t.put j).1:={g.led,λz=>alw (g.rise z)<|ajF e}
  delta SetTable.orStandIn;split
  .show g1
  .show g1.standIn _
def abe(m:Y)(f:Y->X8 Y):((Yr m).filterMap λj=>(f j).map (j,·)).Pairwise (λa b=>a.1<b.1):=by
 rw[List.pairwise_filterMap];show List.pairwise_lt_range.imp λ{a b} uJ x ax y aP=>?_;cases bx:f a with
 |none=>rw[bx]at ax;ext ax
 |some u =>
  cases aq:f b with
  |none=>rw[aq]at aP;ext aP
  |some v=>rw[bx]at ax;rw[aq]at aP;ext ax;ext aP;show uJ
def ll.ago{led:Yc}(g:ll led t)(es:Ye<|X6×ay)(k:Y):ll led (vW t es k).2.1:=by
 delta vW;cases e:t.relaid (es.map (·.1)) k with
 |none=>show g.standIn _
 |some q =>
  let(t',order):=q;dsimp only;split
  .delta SetTable.relaid SetTable.laid at e;let(owner,_,av):=b5 (show(SetTable.layClean _ _).bind _=_ from e)
   ext av
   show{g.led,λz=>?_};rw[It];dsimp only;rw[vy];show abe _ _
  .show g.standIn _
def abf(hr:oK xs){k:Y}(aY:k<xs.O):Yu xs (xs[k]+1)=k+1:=by
 let(b,aR,a4):=Ir hr<|xs[k]+1;let af:k<Yu xs (xs[k]+1):=by
  by_cases c:k<Yu xs (xs[k]+1)
  .show c
  .let:=a4 k aY<|g4 c;lia
 let ao:Yu xs (xs[k]+1)<=k+1:=by
  by_cases c:Yu xs (xs[k]+1)<=k+1
  .show c
  .let oo:k+1<xs.O:=(d0 (tu c) b)
   let a1:=aR (k+1) oo<|tu c;let a2:=hr k (k+1) aY oo<|b3 _;lia
 show iZ ao af
def abg(hr:oK xs):Yu xs 0=0:=by
 let(b,aR,a4):=Ir hr 0;by_cases c:Yu xs 0=0
 .show c
 .let:=aR 0 (d0 (ke c) b)<|ke c;lia
noncomputable def lX(w:cL):Yc:=w.params.followText "set-order"
structure kb (prog:di) (w:cL) (h:Yg) (a:X7) (es:Ye<|X6×ay) (ep:Y) (t:o7):Prop where
 obj:∃o,h.get? a=J o/\o.ExactSet/\o.e=.set es ep t
 bd:es.O<mW
 fit:t.fits es.O=Y0
 good:ll (!lX w) t
def kb.kept{ep:Y}(g:kb prog w h a es ep t)(k:∀o,h.get? a=J o->h'.get? a=J o):kb prog w h' a es ep t:=by let(o,af,ao):=g.obj;show{{o,k o af,ao},g.bd,g.fit,g.good}
structure nJ (prog:di) (w:cL) (h:Yg) (a:X7) (es:Ye<|X6×ay) (ep:Y) (t:o7):Prop where
 obj:∃o,h.get? a=J o/\o.ExactSet/\o.e=.set es ep t
 wD:ElemsOf (gd prog w) es.B
 bd:es.O<mW
 fit:t.fits es.O=Y0
 good:ll (!lX w) t
def nJ.i{ep:Y}(g:nJ prog w h a es ep t):kb prog w h a es ep t:={(g.obj),g.bd,g.fit,g.good}
section
variable {prog:di}{w:cL}{A:dz}{E:ay->aL->Prop}{s:aL}{a:X7}{es:Ye<|X6×ay}{ep:Y}{t:o7}
def nJ.kept(g:nJ prog w h a es ep t)(k:∀o,h.get? a=J o->h'.get? a=J o):nJ prog w h' a es ep t:=by let(o,af,ao):=g.obj;show{{o,k o af,ao},g.wD,g.bd,g.fit,g.good}
def nJ.store(g:nJ prog w h a es ep t)(wD:ElemsOf (gd prog w) hW.B)(bd:hW.O<mW)(fit:t'.fits hW.O=Y0)(good:ll (!lX w) t') :
  nJ prog w (h.update a<|Obj.putSet hW t') a hW (ep+1) t':=by
 let(o,af,ao,a6):=g.obj;let:=nS (Obj.putSet hW t') af (by rw[putSet_of hW t' a6];rfl);rw[putSet_of hW t' a6]at this;show{{_,this,ao,D},wD,bd,fit,good}
def afs{v:X6}{Q:Yc->aL->Prop}(g:nJ prog w s.Q a es ep t)(room:es.O+1<mW)
  (af:(∃e∈es.B,(gd prog w).is v e.2=Y0)->Q Y1 s)
  (ao:(¬ ∃e∈es.B,(gd prog w).is v e.2=Y0)->∀h' hW sd t',Vh a s.Q h'->nJ prog w h' a hW sd t'->hW.toList.Perm (es.B++[((gd prog w).hash v,.int v tk)])->Q Y0 { s with heap:=h'}) :
  ba Z7 A (setAddHashed a (.int v tk)<|(gd prog w).hash v) Q E s:=by
 let lg:(gd prog w).is v (.int v tk)=Y0:=intKind_is _ _ _ _;let(o,aV,hex,hd):=g.obj;delta setAddHashed setAddHashedIn;show jT<|aU<|yp aV hd g.fit ?_;dsimp only;rw[byScan_of (x:=.int v tk) D g.bd g.wD,Y2 D];delta setAddByScan;show aU<|aU<|jt<|aU<|wpAny_setScan_of lg aV hd g.fit g.wD ?_;cases hr:List.findIdx? (λe=>(gd prog w).is v e.2) es.B with
 |some j =>
  let(bO,aF,_):=qaX.mp hr;show bG<|bG<|af {_,l9 bO,aF}
 |none =>
  let no:¬ ∃e∈es.B,(gd prog w).is v e.2=Y0:=λ⟨e,he,aF⟩=>by let:=qaZ.mp hr e he;rw[aF]at this;ext this
  let k2:=ao no;let dh:=layNew_perm t es ((gd prog w).hash v)<|.int v tk;let f1:=layNew_fits t es ((gd prog w).hash v)<|.int v tk;let g1:=g.good.lay es ((gd prog w).hash v)<|.int v tk;dsimp only;generalize layNew t es ((gd prog w).hash v) (.int v tk)=tw at dh f1 g1 |-;let(gQ,t1,t8,Gr):=tw;dsimp only at dh f1 g1 |-;rw[Bv]at dh;let b9:gQ.O=es.O+1:=by rw[<-fP,dh.length_eq];simp
  let Oj:ElemsOf (gd prog w) gQ.B:=(g.wD.push lg D).perm dh;let way:∀(b:Yc) {dO:aL} {eJ:Unit->aL->Prop},eJ () dO->ba Z7 A (match b with|true=>rule "set.scan.the-table-gave-way" |false=>pure ()) eJ E dO:=λb dO eJ a8=>by
   ext b
   .show bG a8
   .show jt a8
  let bT:gQ.O<mW:=(gR (dK b9) room)
  let Gz:nJ prog w (s.heap.update a<|Obj.putSet gQ t1) a gQ (ep+1) t1:=g.store Oj bT f1 g1;let Ol:=KU s.Q a<|Obj.putSet gQ t1
  let tail:ba Z7 A (do
    storeSet a gQ t1
    if(!t8&&t1.tooFull)=Y0 then do
      (match (vW t1 gQ<|K3 gQ.O).2.2 with|true=>rule "set.scan.the-table-gave-way" |false=>pure ())
      storeSet a (vW t1 gQ<|K3 gQ.O).1 (vW t1 gQ<|K3 gQ.O).2.1
      pure (J Y0)
     else pure (J Y0)) (λr s'=>r=J Y0/\Q Y0 s') E s:=by
   show aU<|wpAny_storeSet_of aV hd ?_<|yq bT;split
   .let cy:=relayAll_perm t1 gQ<|K3 gQ.O;let f2:=relayAll_fits t1 gQ<|K3 gQ.O;let g2:=g1.ago gQ<|K3 gQ.O;generalize vW t1 gQ (K3 gQ.O)=jz at cy f2 g2 |-;let(Iv,eB,ans):=jz;dsimp only at cy f2 g2 |-;let abh:Iv.O=gQ.O:=by rw[<-fP,cy.length_eq,fP]
    let cb:Iv.O<mW:=(gR (dK abh) bT)
    let(fu,nx,_,H6):=Gz.obj;show aU<|way _<|aU<|wpAny_storeSet_of nx H6 ?_<|yq cb;show bG {D,k2 _ Iv _ eB (Ol.trans<|KU _ a _) (Gz.store (Oj.perm cy) cb f2 g2)<|cy.trans dh}
   .show bG {D,k2 _ gQ _ t1 Ol Gz dh}
  show aU<|way _ ?_;let eq1:hashByValue 8 (.int v tk)=pure Y0:=rfl;split
  .rw[eq1];show aU<|bG ?_;erw[Yq];show g5 tail (λr s' z=>?_) λ_ _ e=>e;let(rfl,z):=z;show bG z
  .show aU<|bG ?_;erw[Yq];show g5 tail (λr s' z=>?_) λ_ _ e=>e;let(rfl,z):=z;show bG z
end
def nK(prog:di)(w:cL)(h:Yg)(a:X7)(ks:O X6):Prop:=∃es ep t,nJ prog w h a es ep t/\gf (es.toList.map (·.2)) ks/\ks.Nodup
section
variable {prog:di}{w:cL}{A:dz}{E:ay->aL->Prop}{s:aL}{a:X7}
theorem nK.kept(g:nK prog w h a ks)(k:∀o,h.get? a=J o->h'.get? a=J o):nK prog w h' a ks:=by let(es,ep,t,g1,g2):=g;show{es,ep,t,g1.kept k,g2}
def Iw(h:gf us ks)(p:q4.Perm us):∃k9,gf q4 k9/\k9.Perm ks:=by show{q4.map numOf,intsAre_map q4 λv bX=>h.all v<|p.mem_iff.mp bX,?_};let:=p.map numOf;rwa [h.nums]at this
def abi(h:gf us ks)(v:X6):(∃u∈us,(gd prog w).is v u=Y0)↔v∈ks:=by
 induction h with
 |nil=>simp
 |cons n t r aT =>
  let e:(gd prog w).is v (.int n t)=Y0↔v=n:=by show KX v (.int n t)=Y0↔v=n;simp[KX];show eq_comm
  rw[ei,<-aT];constructor
  .rintro⟨u,b1,z⟩;rcases ei.mp b1 with rfl|b1
   .show .inl<|e.mp z
   .show .inr {(u),b1,z}
  .rintro(z|⟨u,b1,z⟩)
   .show{_,dF ..,e.mpr z}
   .show{u,dZ _ b1,z}
theorem ints_snoc:∀{us:O ay} {ks:O X6},gf us ks->∀(v:X6) (tk:Tok),gf (us++[.int v tk]) (ks++[v])
 |_,_,.nil,v,tk=>.cons v tk .nil
 |_,_,.cons n t r,v,tk=>.cons n t<|ints_snoc r v tk
def aft{v:X6}{Q:Yc->aL->Prop}(g:nK prog w s.Q a ks)(room:ks.H+1<mW)
  (h:∀h' k9,Vh a s.Q h'->nK prog w h' a k9->(∀x,x∈k9↔x∈ks\/x=v)->k9.H<=ks.H+1->∀b,Q b { s with heap:=h'}) :
  ba Z7 A (setAddHashed a (.int v tk)<|(gd prog w).hash v) Q E s:=by
 let(es,ep,t,g1,g2,g3):=g;let aC:es.O=ks.H:=by rw[<-g2.H];simp
 let ex:(∃e∈es.B,(gd prog w).is v e.2=Y0)↔v∈ks:=by
  rw[<-abi (prog:=prog) (w:=w) g2 v];constructor
  .rintro⟨e,he,z⟩;show{e.2,iJ he,z}
  .rintro⟨u,b1,z⟩;let(e,he,rfl):=el.mp b1;show{(e),he,z}
 show afs g1 Z5 (λz=>?_) λz h' hW sd t' cX cZ p=>?_
 .let:s={ s with heap:=s.Q}:=rfl;rw[this];show h s.Q ks (Heap.SameBut.refl a s.Q) {(es),ep,t,g1,g2,g3} (λx=>{.inl,λq=>q.elim id λq=>by rw[q];show ex.mp z}) (tB _) Y1
 .let cy:=p.map (·.2);rw[jS]at cy;let gv:gf (es.toList.map (·.2)++[.int v tk])<|ks++[v]:=ints_snoc g2 v tk;let(k9,aR,a4):=Iw gv cy;show h h' k9 cX ⟨hW,sd,t',cZ,aR,?_⟩ (λx=>by rw[a4.mem_iff];simp) (by rw[a4.length_eq];simp) Y0;rw[a4.nodup_iff,Bh];show{g3,by simp,λx ax y aP e=>?_};simp at aP;subst aP e;show z<|ex.mpr ax
def alx{P:Y->ay->Prop}{St:Y->Yg->Prop}{ns:O X6}(W:Walks prog w A.in1 I fp wr ns.H P St)(fc:a∉fp)(ez:∀i v,P i v->∃t,v=.int (ns.getD i 0) t)(aq:ns.H+1<mW) :
  ∀(k i:Y) (s:aL) (ks:O X6),ns.H-i=k->i<=ns.H->St i s.Q->nK prog w s.Q a ks->(∀x,x∈ks↔x∈ns.take i)->ks.H<=i ->
   (∀h' tk k9,(∀b o,b≠a->b∉wr->s.heap.get? b=J o->h'.get? b=J o)->nK prog w h' a k9->(∀x,x∈k9↔x∈ns)->R (.ok<|.ret .none) { s with heap:=h',toks:=tk}) ->
   kS Z7 A (.builtin "set.update.loop" {[.ref a,.ref I],[]}) R s:=by
 let hw:a∉wr:=λz=>fc<|W.sub _ z;intro k
 induction k with
 |zero =>
  intro i s ks aY hi st g hm aC fin;let e:i=ns.H:=(iZ hi<|ii aY)
  subst e;show oZ F.entry_set_update_loop ?_;rw[KV F.plain_set_update_loop _];show aU (m:=kT<|.ref I) (W.done s _ _ st λh' tk bP=>?_);show bG (fin h' tk ks (λb o _ nb z=>bP b o nb z) (g.kept λo z=>bP a o hw z) λx=>by rw[hm x,vz])
 |succ k aT =>
  intro i s ks aY hi st g hm aC fin;let dp:i<ns.H:=(Fs<|vC<|dK aY.symm)
  show oZ F.entry_set_update_loop ?_;rw[KV F.plain_set_update_loop _];show aU (m:=kT<|.ref I) (W.item i s _ _ dp st λv h' tk bX c5 bP=>?_);let(t,rfl):=ez i v bX;show aU (m:=me [Value.int (ns.getD i 0) t]<|setAdd a<|.int (ns.getD i 0) t)<|jT ?_;delta setAdd;show jT<|aU<|(gd prog w).pyHash (k:=ns.getD i 0) (intKind_is _ _ _ _) ?_;show aft (s:={ s with heap:=h',toks:=tk+1}) (g.kept λo z=>bP a o hw z) Z5 λao Dm cX g2 fY eQ b=>?_;show bG {nU F.plain_set_update_loop _,aT (i+1) _ Dm Z5 dp (W.frame _ _ _ c5 λb aq o z=>?_) g2 (λx=>?_) (bF eQ<|ts aC) λa6 H7 abj abk g3 i8=>?_}
  .show ao.get? b=J o;rw[cX.2 b λq=>fc<|by rw[<-q];show aq];show z
  .rw[fY x,hm x,Fi,iY,gB dp];let:ns.getD i 0=ns[i]:=by simp[List.getD,dp]
   rw[this];simp
  .show fin a6 H7 abj (λb o nb nw z=>abk b o nb nw ?_) g3 i8;show ao.get? b=J o;rw[cX.2 b nb];show bP b o nw z
end
end a9.bD
section
set_option maxHeartbeats 8000000
namespace a9.bD
open PySem PySem.Spec PyProof.Rows
section
variable {prog:di}{w:cL}{A:dz}{E:ay->aL->Prop}{s:aL}
abbrev ji(w:cL):Yp:={ cls:=.type "set",dict:=C,data:=.set #[] 0 (.fresh 0 0<|!lX w)}
def ajG(x:ay)(h:Q₁ (.ref s.L) { s with heap:=s.heap.push (ji w)}) :
  kS Z7 A (.call (.builtin "set.__new__") {[.type "set",x],[]}) (wants Q₁ E) s:=by
 show codeAny_of_tree (show ba _ A.in1 (do checkBuiltinCall "set.__new__" {[.type "set",x],[]};again (.builtin "set.__new__" {[.type "set",x],[]})) _ _ s from ?_)
 show aU (vQ (F.newCall_set_1 x) (bG ⟨nU F.plain_set_new _,oZ F.entry_set_new (by
  rw[KV F.plain_set_new _];delta Builtin.«set.__new__» Builtin.Frozenset.newClass;let Sg:=sub_set_self;let(aF,g,d,tk,os):=s;dsimp only;wp_walk;show yr<|bG ?_;dsimp only;erw[newObj]
  show aU<|wpAny_alloc<|bG<|bG h)⟩))
def abl(bQ:h.get? a=J (ji w)):nK prog w h a [] :=
 {#[],0,_,{{_,bQ,{(D),D,D},D},λe he=>by simp at he,by decide,D,.fresh _},.nil,.nil}
def TF{XZ:Ye ay}{P:Y->ay->Prop}{St:Y->Yg->Prop}(pS:s.heap.get? l=J ol)(hi:gf XZ.B ns)(aq:ns.H+1<mW)
  (W:Walks prog w A.in1 (s.heap.push<|ji w).E.O [(s.heap.push<|ji w).E.O,l] [(s.heap.push<|ji w).E.O] ns.H P St) (st:St 0<|(s.heap.push<|ji w).push oi) (ez:∀i v,P i v->XZ[i]?=J v)
  (fin:∀h' tk ks,nK prog w h' s.L ks->(∀x,x∈ks↔x∈ns)->(∀b o,s.heap.get? b=J o->h'.get? b=J o)->R (.ok<|.ret .none) { s with heap:=h',toks:=tk}) :
  kS Z7 A (.builtin "set.update.loop" {[.ref s.L,.ref (s.heap.push<|ji w).E.O],[]}) R { s with heap:=(s.heap.push (ji w)).push oi}:=by
 let fc:(s.heap.push<|ji w).get? s.L=J (ji w):=fa _ D;let abm:l<s.L:=d6 pS;let Dn:s.L∉[(s.heap.push<|ji w).E.O,l]:=by rw[kQ];simp;show oW abm
 show alx W Dn (λi v bX=>IntsAre.int_at hi i v<|by rw[js];show ez i v bX) aq ns.H 0 _ [] (yh _) (f9 _) st (abl<|dG _ fc) (λx=>by simp) Z6 λh' tk ks bP g m=>fin h' tk ks g m λb o z=>?_;let aq:=d6 z;show bP b o (eE aq) (by rw[kQ];simp;show eE<|lu aq)<|dG _<|dG _ z
def ahY(aN:c = "list" \/ c = "tuple"){nl:Y}(bh:A.handled=C)(pS:s.heap.get? l=J ol)(my:ol.cls=.type c)(xp:ol.e=.seq XZ nl)(hi:gf XZ.B ns)(aq:ns.H+1<mW)
  (h:∀(h':Yg) (tk:Y) (ks:O X6),nK prog w h' s.L ks->(∀x,x∈ks↔x∈ns)->(∀b o,s.heap.get? b=J o->h'.get? b=J o)->Q (.ref s.L) { s with heap:=h',toks:=tk}) :
  ba Z7 A (call (.type "set") [.ref l]) Q E s:=by
 let d5:XZ.O=ns.H:=by rw[<-hi.H];simp
 let(c0,fA,anH):=F.called_set.mro;let anK:=F.called_set.made;let Sg:=F.called_set.sub;show yt<|codeAny_of_tree (show ba _ _ (callAny (.type "set") _) _ _ _ from bG {Code.quiet_builtin _ (by decide+kernel),oZ F.entry_type_call ?_});rw[Around.under_plain (weight_type_call_type "set" [.ref l] []) D];let k1:=F.called_set.notType;let k2:=F.called_set.canCreate;let k3:=F.typeCall_set_1<|.ref l
 repeat (any_goals (first|assumption|wp_step))
 show rK (ajG (.ref l) (E:=E) (Q₁:=λobj dO=>obj=.ref s.L/\dO={ s with heap:=s.heap.push (ji w)}) ⟨rfl,rfl⟩) λr dO hr=>?_;cases r with
 |error e=>show hr
 |ok cM =>
  cases cM with
  |ret obj =>
   let(rfl,rfl):=hr;let fc:(s.heap.push<|ji w).get? s.L=J (ji w):=fa _ D;let gg:Shared.TypeIs { s with heap:=s.heap.push (ji w)} (.ref s.L) "set":=⟨_,fc,D⟩
   let qC:=F.called_set.init.lookup;let k5:=F.called_set.init.bind<|.ref s.L
   repeat (any_goals (first|assumption|wp_step))
   show rK (codeAny_call_builtin (R:=wants (λr fX=>r=.none/\∃h' tk ks,fX={ s with heap:=h',toks:=tk}/\nK prog w h' s.L ks/\(∀x,x∈ks↔x∈ns)/\(∀b o,s.heap.get? b=J o->h'.get? b=J o)) E) F.called_set.init.plain F.entry_set_init<|check_set_init_1 gg ?_) λVd fX Iy=>?_
   .let Sh:(s.heap.push<|ji w).get? l=J ol:=dG _ pS;let Sj:l≠(s.heap.push<|ji w).E.O:=by rw[kQ];show eE (lu<|d6 pS)
    let Om:A.in1.in1.in1.handled=C:=by simp[bh]
    let(anI,anL,anM,anN):=ol;simp only at my xp;subst my;subst xp;rcases aN with rfl|rfl
    .let aR:=F.sub_list_set;let a4:=F.sub_list_frozenset;let cQ:(YX "list" == YX "dict")=Y1:=by decide
     let z3:(s.heap.push<|ji w).IsList l XZ:={_,Sh,D,nl,D}
     delta Builtin.«set.__init__» noKeywords Builtin.Frozenset.updateFrom;generalize Iz:kh=m4
     wp_walk
     subst Iz;show yn z3<|aU<|F1 ?_;let W:=Walks.list (prog:=prog) (w:=w) Om _ l Sj XZ;rw[d5]at W;show TF pS hi aq W ⟨⟨_,fa _ D,D,D⟩,z3.push _⟩ (λi v z=>z) λh' tk ks g m bP=>bG<|bG {(D),h',tk,ks,D,g,m,bP}
    .let aR:isSubtype (.type "tuple") (.type "set")=pure Y1:=by rw[ys];kernel_rfl
     let a4:isSubtype (.type "tuple") (.type "frozenset")=pure Y1:=by rw[ys];kernel_rfl
     let cQ:(YX "tuple" == YX "dict")=Y1:=by decide
     let z3:(s.heap.push<|ji w).IsTuple l XZ:={_,Sh,D,nl,D}
     delta Builtin.«set.__init__» noKeywords Builtin.Frozenset.updateFrom;generalize Iz:kh=m4
     wp_walk
     subst Iz;show FR z3<|aU<|F1 ?_;let W:=Walks.tuple (prog:=prog) (w:=w) Om _ l Sj XZ;rw[d5]at W;show TF pS hi aq W ⟨⟨_,fa _ D,D,D⟩,let ⟨o,aV,r⟩:=z3;⟨o,dG _ aV,r⟩⟩ (λi v z=>z) λh' tk ks g m bP=>bG<|bG {(D),h',tk,ks,D,g,m,bP}
   .cases Vd with
    |error e=>show Iy
    |ok abn =>
     cases abn with
     |ret r =>
      let(rfl,h',tk,ks,rfl,g,m,bP):=Iy
      repeat (any_goals (first|assumption|wp_step))
      show h _ _ _ g m bP
     |_=>show Iy.elim
  |_=>show hr.elim
end
end a9.bD
end
section
set_option maxHeartbeats 1000000
namespace a9.bD
open PySem PySem.Spec PyProof.Rows
def TG:Manifest.owners.lookup (String.ofList ['r','o','t','a','r','e','t','i','_','t','e','s'].reverse)=J Manifest.sig_set_iterator:=by kernel_rfl
def sF:Slot "set_iterator" "__next__" "set_iterator.__next__" :=
 .of (owner:="set_iterator") (n:="__next__") (by rw[BD,BA];kernel_rfl) (by decide+kernel) (by decide+kernel) (by decide+kernel) (by first|show .inl (by decide+kernel)|show .inr<|by decide+kernel) (by rw[ys];kernel_rfl)
def Oo:yu table "set_iterator.__next__" = J Builtin.«set_iterator.__next__»:=entryFor_of_tree (by kernel_rfl)
def Oq(a:ay):rP "set_iterator.__next__" {[a],[]}:=by delta rP;rw[signature?_of (id:="set_iterator.__next__") (n:=['_','_','t','x','e','n','_','_']) (o:=['r','o','t','a','r','e','t','i','_','t','e','s']) (by kernel_rfl) TG];kernel_rfl
def abo:yu table "set.__iter__" = J Builtin.«frozenset.__iter__»:=entryFor_alias (id':="frozenset.__iter__") (by kernel_rfl) D (by decide+kernel) (by kernel_rfl)
noncomputable abbrev pT(f:ay)(i:Y)(a:X7)(n ep:Y):Yp:={ cls:=.type "set_iterator",data:=.fields #[f,fF i,.ref a,fF n,fF ep]}
section
variable {prog:di}{w:cL}{A:dz}{E:ay->aL->Prop}{s:aL}{I a:X7}{es:Ye<|X6×ay}{ep i:Y}{t:o7}
def IA{α:Type}{Q:α->aL->Prop}(bh:A.handled=C)(h:∀e h',(∀b o,s.heap.get? b=J o->h'.get? b=J o)->Shared.TypeIs { s with heap:=h'} e "StopIteration" -> E e { s with heap:=h'}):ba Z7 A (newExc (.type "StopIteration") [] >>= λe=>(raiseNew e:Sem α)) Q E s:=by show aU ?_;erw[newExc,newTuple];show aU (i1 ?_<|by size_fits);show aU (m:=BG _ _)<|vQ (a:=YC) (by first|rfl|(erw[BG];rfl)) ?_;show i1 ?_ (by size_fits);erw[raiseNew];show aU (wpAny_handled ?_);rw[bh];show aU (bG (wpAny_throw (h (.ref _) _ (λb o z=>dG _<|dG _ z) {_,fa _ D,D})))
def Dp{slot Ot:Y}(g:kb prog w s.Q a es ep t)(hd:lX w=Y1->(!t.plain&&decide (es.O>1))=Y1)(abp:Ot=ep)
  (af:lX w=Y0->Q (((rL (w.params.setOrder a ep) es)[i]?).map λe=>(e.2,slot)) s)
  (ao:lX w=Y1->Q (match es[Yu t.place slot]?,t.place[Yu t.place slot]? with|some (_,x),J j=>J (x,j+1)|_,_=>C) s):ba Z7 A (setNext a slot i Ot) Q E s:=by
 subst abp;let(o,aV,ax,kG):=g.obj;delta setNext setsByText;show aU<|yp aV kG g.fit ?_;dsimp only;show aU<|aU<|yr<|bG ?_;show ba _ _ (if lX w=Y0 then _ else _) _ _ s;cases aq:lX w with
 |true =>
  rw[Y2 D,Y3 Z6];delta setWalk setsByText;show aU<|aU<|yp aV kG g.fit ?_;dsimp only;show aU<|aU<|yr<|bG ?_;show ba _ _ (if lX w=Y0 then _ else _) _ _ s;rw[aq,Y2 D];show aU<|yr<|bG<|bG<|af aq
 |false =>
  rw[Y3 Z6];let aA:=hd aq;let av:t.led=Y0:=by rw[g.good.led,aq];rfl
  show ba _ _ (if(!t.plain&&decide (es.O>1))=Y0 then _ else _) _ _ s;rw[aA,Y3 Z0];show aU ?_;wp_delta;rw[av,Y3 Z6];show bG<|bG<|ao aq
def Dq{slot:Y}{r:X8<|ay×Y}{Q:X8 ay->aL->Prop}(bh:A.handled=C)(hit:s.heap.get? I=J (pT (fF slot) i a es.O ep))(g:kb prog w s.Q a es ep t)
  (bq:∀(A':dz) (ng:ay->aL->Prop) (eJ:X8 (ay×Y)->aL->Prop),eJ r s->ba Z7 A' (setNext a slot i ep) eJ ng s)
  (af:∀x bS,r=J (x,bS)->∀h',h'.get? I=J (pT (fF bS) (i+1) a es.O ep)->Vh I s.Q h'->Q (J x) { s with heap:=h'})
  (ao:r=C->∀h',(∀b o,b≠I->s.heap.get? b=J o->h'.get? b=J o)->Q C { s with heap:=h'}):ba (bg prog w) A (kT (.ref I)) Q E s:=by
 let gg:s.TypeIs (.ref I) "set_iterator":={_,hit,D}
 let(o,aV,ax,kG):=g.obj;delta kT;show aU<|vO<|rJ (name:=YF "__next__") gg sF<|mt sF gg Oo ?_<|Oq _;delta Builtin.«set_iterator.__next__»;show aU<|bG<|aU<|F2 hit D ?_;dsimp only;show aU<|FQ aV kG g.fit ?_;rw[Y3 Z6];erw[fF,nT];show aU<|bq _ _ _ ?_;cases r with
 |some q =>
  let(x,bS):=q;dsimp only;show aU<|o1 hit D Z6<|aU ?_;let EA:=nS (Obj.mapFields (·.setIfInBounds 0 (fF bS))) hit D;show o1 EA D Z6<|bG {_,D,bG<|af x bS D _ ?_<|(KU ..).trans (KU ..)};show nS _ EA D
 |none =>
  dsimp only;show aU<|o1 hit D Z6 (IA (by simpa using bh) λe h' bP yU=>?_);show aU<|tE (T:="StopIteration") (b:=Y0) yU F3<|bG (ao D h' λb o nb z=>bP b o ?_);rw[(KU s.Q I _).2 b nb];show z
def Ou{tp:X7}{GA:Yp}{cm:Ye ay}{m:Y}{Q:X8 ay->aL->Prop}(bh:A.handled=C)(hit:s.heap.get? I=J (pT (.ref tp) i a es.O ep))(g:kb prog w s.Q a es ep t)(abq:s.heap.get? tp=J GA)(ant:GA.cls=.type "tuple")(afu:GA.e=.seq cm m)
  (af:∀p,cm[i]?=J (fF (p:Y))->∃ax x,es[p]?=J (ax,x)/\∀h',h'.get? I=J (pT (.ref tp) (i+1) a es.O ep)->Vh I s.Q h'->Q (J x) { s with heap:=h'})
  (h0:cm[i]?=C\/∃p:Y,cm[i]?=J (fF p))
  (ao:cm[i]?=C->∀h',(∀b o,b≠I->s.heap.get? b=J o->h'.get? b=J o)->Q C { s with heap:=h'}):ba (bg prog w) A (kT (.ref I)) Q E s:=by
 let gg:s.TypeIs (.ref I) "set_iterator":={_,hit,D}
 let(o,aV,ax,kG):=g.obj;delta kT;show aU<|vO<|rJ (name:=YF "__next__") gg sF<|mt sF gg Oo ?_<|Oq _;delta Builtin.«set_iterator.__next__»;show aU<|bG<|aU<|F2 hit D ?_;dsimp only;show aU<|FQ aV kG g.fit ?_;rw[Y3 Z6];show aU<|tH abq afu ?_;erw[fF,nT];rcases h0 with bq|⟨p,aF⟩
 .erw[bq];show aU<|o1 hit D Z6<|aU ?_;let EA:=nS (Obj.mapFields (·.setIfInBounds 0 (fF 0))) hit D;show o1 EA D Z6 (IA (by simpa using bh) λe h' bP yU=>?_);show aU<|tE (T:="StopIteration") (b:=Y0) yU F3<|bG (ao bq h' λb o nb z=>bP b o ?_);rw[(KU _ I _).2 b nb,(KU s.Q I _).2 b nb];show z
 .let(eT,x,e,k):=af p aF;erw[aF,fF,nT];delta setNextDrawn;show aU<|aU<|yp aV kG g.fit ?_;dsimp only;rw[Y3 Z6,e];show bG<|aU<|o1 hit D Z6<|bG {_,D,bG<|k _ ?_<|KU ..};show nS _ hit D
end
end a9.bD
end
section
set_option maxHeartbeats 1000000
namespace a9.bD
open PySem PySem.Spec PyProof.Rows
theorem IB{α:Type}:∀{l:O α} {i:Y} (h:i<l.H),(l[i]::l.eraseIdx i).Perm l
 |[],i,h=>by simp at h
 |x::l,0,h=>.refl _
 |x::l,i+1,h=>by rw[List.getElem_cons_succ,List.eraseIdx_cons_succ];show(List.Perm.swap _ _ _).trans ((IB<|by simpa using h).cons x)
theorem Ov{α:Type}(f:Y->Y):∀(fuel k:Y) (left:O α) (out:Ye α),fuel=left.H->(pickOrder.go f fuel k left out).toList.Perm (out.B++left)
 |0,k,left,out,h=>by let:left=[]:=qa3.mp h.symm;subst this;delta pickOrder.go;simp
 |fuel+1,k,left,out,h=>by delta pickOrder.go;let aC:f k%left.H<left.H:=Nat.mod_lt _<|vC<|dK h;rw[gB aC];dsimp only;show(Ov f fuel (k+1) _ _<|by rw[qaY aC];lia).trans ?_;rw[Bv,hj];show Lf _<|IB aC
def IC{α:Type}(f:Y->Y)(xs:Ye α):(rL f xs).toList.Perm xs.B:=by let:=Ov f xs.O 0 xs.B #[] Z6;simpa[rL]using this
section
variable {prog:di}{w:cL}{A:dz}{E:ay->aL->Prop}{s:aL}{I a:X7}{es:Ye<|X6×ay}{ep i:Y}{t:o7}
def abr{n:Y}{Q:Y->aL->Prop}(bq:n≠0)(h:∀k d,k<n->Q k { s with drawn:=d}):ba Z7 A (choose src n) Q E s:=by intro Γ p Ve;show Sem.wp _ _ (.choose src n _) _ _ _ _;rw[Sem.wp_choose];show{bq,?_};show bG (h _ _<|Nat.mod_lt _<|ke bq) Γ p Ve
theorem Ow{α:Type}:∀(n:Y) (xs:O α) (s:aL) (Q:O α->aL->Prop),n=xs.H->(∀l d,l.Perm xs->Q l { s with drawn:=d})->ba (bg prog w) A (drawOrder n xs) Q E s
 |0,xs,s,Q,e,h=>by let:xs=[]:=qa3.mp e.symm;subst this;delta drawOrder;show bG<|h [] s.drawn<|.refl _
 |n+1,[],s,Q,e,h=>by ext e
 |n+1,x::xs,s,Q,e,h=>by delta drawOrder;show aU (abr Z6 λk d aY=>?_);rw[gB aY];dsimp only;show aU (Ow n _ _ _ (by rw[qaY aY];show Nat.add_right_cancel e) λl d' p=>bG ?_);show h _ d'<|(p.cons _).trans (IB aY)
def Ox:Slot "set_iterator" "__iter__" "set_iterator.__iter__" :=
 .of (owner:="set_iterator") (n:="__iter__") (by rw[BD,BA];kernel_rfl) (by decide+kernel) (by decide+kernel) (by decide+kernel) (by first|show .inl (by decide+kernel)|show .inr<|by decide+kernel) (by rw[ys];kernel_rfl)
def aly(a:ay):rP "set_iterator.__iter__" {[a],[]}:=by delta rP;rw[signature?_of (id:="set_iterator.__iter__") (n:=['_','_','r','e','t','i','_','_']) (o:=['r','o','t','a','r','e','t','i','_','t','e','s']) (by kernel_rfl) TG];kernel_rfl
def abt:yu table "set_iterator.__iter__" = J Builtin.«dict_keyiterator.__iter__»:=entryFor_alias (id':="dict_keyiterator.__iter__") (by kernel_rfl) D (by decide+kernel) (by kernel_rfl)
def ID{o:Yp}{Q:ay->aL->Prop}(aV:s.heap.get? I=J o)(aN:o.cls=.type "set_iterator")(h:Q (.ref I) s):ba Z7 A (kh<|.ref I) Q E s:=by
 let gg:s.TypeIs (.ref I) "set_iterator":={_,aV,aN}
 show FV gg Ox<|mt Ox gg abt (show ba _ _ (ret<|.ref I) _ _ s from ?_)<|aly _;show bG {_,D,"set_iterator",_,gg,sF.lookup,h}
noncomputable def slotAt(cm:Ye Y):Y->Y
 |0=>0
 |i+1=>cm.getD i 0+1
def Oy(hr:oK cm)(hi:i<=cm.O):Yu cm (slotAt cm i)=i:=by
 cases i with
 |zero=>show abg hr
 |succ i =>
  let h:i<cm.O:=hi;let e:slotAt cm (i+1)=cm[i]+1:=by delta slotAt;simp[Array.getD,h]
  rw[e];show abf hr h
def abu(aq:lX w=Y1)(hr:oK t.place)(hd:(!t.plain&&decide (es.O>1))=Y1)(bh:A.handled=C)(z4:I≠a) :
  Walks prog w A I [I,a] [I] es.O (λi v=>(es.toList.map (·.2))[i]?=J v) (λi h=>h.get? I=J (pT (fF<|slotAt t.place i) i a es.O ep)/\kb prog w h a es ep t) where
 sub:=λb aq=>by simp at aq;simp[aq]
 frame:=λi h h' st k=>{k I Z6 _ st.1,st.2.kept λo z=>k a Z6 o z}
 item:=λi s Q E hi st g7=>by
  let hsz:t.place.O=es.O:=by let:=st.2.fit;simp[SetTable.fits]at this;show this.1
  let aF:i<t.place.O:=(d0 hi<|dK hsz.symm)
  show Dq (r:=J (es[i].2,t.place[i]+1)) bh st.1 st.2 (λA' ng eJ q=>Dp st.2 (λ_=>hd) D (λz=>by rw[aq]at z;ext z) λ_=>?_) (λx bS e h' af cX=>?_) λz=>by ext z
  .rw[Oy hr<|ed aF,rH hi,rH aF];show q
  .ext e
   show g7 _ h' s.toks (by simp[hi]) ⟨?_,st.2.kept λo z=>by rw[cX.2 a<|Yw z4];show z⟩ λb o nb z=>by rw[cX.2 b<|by simpa using nb];show z
   rw[af];simp[slotAt,Array.getD,aF]
 done:=λs Q E st g7=>by
  let hsz:t.place.O=es.O:=by let:=st.2.fit;simp[SetTable.fits]at this;show this.1
  show Dq (r:=C) bh st.1 st.2 (λA' ng eJ q=>Dp st.2 (λ_=>hd) D (λz=>by rw[aq]at z;ext z) λ_=>?_) (λx bS e=>by ext e) λ_ h' bP=>g7 h' s.toks λb o nb z=>bP b o (by simpa using nb) z;rw[Oy hr<|dK hsz.symm,FC<|b3 _];show q
 self:=λ_ s Q E st g7=>ID st.1 D g7
def abv(aq:lX w=Y0)(bh:A.handled=C)(z4:I≠a) :
  Walks prog w A I [I,a] [I] es.O (λi v=>((rL (w.params.setOrder a ep) es).toList.map (·.2))[i]?=J v) (λi h=>h.get? I=J (pT (fF (0:Y)) i a es.O ep)/\kb prog w h a es ep t) where
 sub:=λb aq=>by simp at aq;simp[aq]
 frame:=λi h h' st k=>{k I Z6 _ st.1,st.2.kept λo z=>k a Z6 o z}
 item:=λi s Q E hi st g7=>by
  let fS:(rL (w.params.setOrder a ep) es).O=es.O:=by let:=(IC (w.params.setOrder a ep) es).length_eq;simpa using this
  let aF:i<(rL (w.params.setOrder a ep) es).O:=(d0 hi<|dK fS.symm)
  show Dq (r:=J ((rL (w.params.setOrder a ep) es)[i].2,0)) bh st.1 st.2 (λA' ng eJ q=>Dp st.2 (λz=>by rw[aq]at z;ext z) rfl (λ_=>?_) λz=>by rw[aq]at z;ext z) (λx bS e h' af cX=>?_) λz=>by ext z
  .rw[rH aF];show q
  .ext e
   show g7 _ h' s.toks (by simp[aF]) ⟨af,st.2.kept λo z=>by rw[cX.2 a<|Yw z4];show z⟩ λb o nb z=>by rw[cX.2 b<|by simpa using nb];show z
 done:=λs Q E st g7=>by
  let fS:(rL (w.params.setOrder a ep) es).O=es.O:=by let:=(IC (w.params.setOrder a ep) es).length_eq;simpa using this
  show Dq (r:=C) bh st.1 st.2 (λA' ng eJ q=>Dp st.2 (λz=>by rw[aq]at z;ext z) rfl (λ_=>?_) λz=>by rw[aq]at z;ext z) (λx bS e=>by ext e) λ_ h' bP=>g7 h' s.toks λb o nb z=>bP b o (by simpa using nb) z;rw[FC<|dK fS];show q
 self:=λ_ s Q E st g7=>ID st.1 D g7
def abw{tp:X7}{l:O Y}(aC:l.Perm<|Yr es.O)(bh:A.handled=C)(z4:I≠a)(abx:I≠tp) :
  Walks prog w A I [I,a,tp] [I] es.O (λi v=>(l.map λp=>((es[p]?).map (·.2)).getD .none)[i]?=J v) (λi h=>h.get? I=J (pT (.ref tp) i a es.O ep)/\kb prog w h a es ep t/\∃m,h.get? tp=J { cls:=.type "tuple",data:=.seq (l.map λ(i:Y)=>fF i).D m}) where
 sub:=λb aq=>by simp at aq;simp[aq]
 frame:=λi h h' st k=>{k I Z6 _ st.1,st.2.1.kept λo z=>k a Z6 o z,let ⟨m,z⟩:=st.2.2;{m,k tp Z6 _ z}}
 item:=λi s Q E hi st g7=>by
  let(s1,s2,m,s3):=st;let xq:l.H=es.O:=by rw[aC.length_eq];simp
  let IE:i<l.H:=(d0 hi<|dK xq.symm)
  let dp:l[i]<es.O:=by simpa using aC.mem_iff.mp<|l9 IE
  let aF:(l.map λ(i:Y)=>fF i).D[i]?=J (fF l[i]):=by simp[IE]
  show Ou bh s1 s2 s3 D D (λp e=>?_) (.inr {_,aF}) λz=>by rw[aF]at z;ext z
  rw[aF]at e;let e:((l[i]:Y):X6)=p:=by simpa[fF]using e
  let e:l[i]=p:=by lia
  subst e;show{es[l[i]].1,es[l[i]].2,by simp[dp],λh' af cX=>g7 _ h' s.toks (by simp[IE,dp]) ⟨af,s2.kept λo z=>by rw[cX.2 a<|Yw z4];show z,m,by rw[cX.2 tp<|Yw abx];show s3⟩ λb o nb z=>by rw[cX.2 b<|by simpa using nb];show z}
 done:=λs Q E st g7=>by
  let(s1,s2,m,s3):=st;let xq:l.H=es.O:=by rw[aC.length_eq];simp
  let aF:(l.map λ(i:Y)=>fF i).D[es.O]?=C:=by simp[xq]
  show Ou bh s1 s2 s3 D D (λp e=>by rw[aF]at e;ext e) (.inl aF) λ_ h' bP=>g7 h' s.toks λb o nb z=>bP b o (by simpa using nb) z
 self:=λ_ s Q E st g7=>ID st.1 D g7
end
end a9.bD
end
section
set_option maxHeartbeats 1000000
namespace a9.bD
open PySem PySem.Spec PyProof.Rows
section
variable {prog:di}{w:cL}{A:dz}{E:ay->aL->Prop}{s:aL}{a:X7}{es:Ye<|X6×ay}{ep:Y}{t:o7}
def agp(prog:di)(w:cL)(s:aL)(a:X7)(us:O ay)(it:ay)(fX:aL):Prop :=
 ∃(aa:O ay) (I:X7) (fp:O X7) (St:Y->Yg->Prop) (d:Drawn),it=.ref I/\aa.Perm us/\s.L<=I/\(∀b∈fp,b=a\/s.L<=b)/\(∀A',A'.handled=C->Walks prog w A' I fp [I] aa.H (λi v=>aa[i]?=J v) St)/\St 0 fX.Q /\
  (∀b o,s.heap.get? b=J o->fX.heap.get? b=J o)/\fX={ s with heap:=fX.Q,drawn:=d}
def Oz(h:b∈[n,a]):b=a\/n<=b:=by
 rcases ei.mp h with rfl|h
 .show .inr<|b3 _
 .show .inl (by simpa using h)
def alz(g:kb prog w s.Q a es ep t):ba Z7 A (kh<|.ref a) (agp prog w s a<|es.toList.map (·.2)) E s:=by
 let(o,aV,ax,kG):=g.obj;let gg:s.TypeIs (.ref a) "set":={_,aV,ax.1}
 let bx:a<s.L:=d6 aV;let hsz:t.place.O=es.O:=by let:=g.fit;simp[SetTable.fits]at this;show this.1
 show FV gg F.slot_set_iter<|mt F.slot_set_iter gg abo ?_<|F.args_set_iter_1 _;delta Builtin.«frozenset.__iter__»;show aU (m:=Builtin.Frozenset.slot0 _ _)<|bG<|aU ?_;delta Builtin.Frozenset.sizeOf;show aU<|FQ aV kG g.fit<|bG<|aU ?_;delta setDrawn setsByText;show aU<|yp aV kG g.fit ?_;dsimp only;show aU<|aU<|yr<|bG<|bG ?_;show ba _ _ (if(!lX w&&(!t.plain&&decide (es.O>1)))=Y0 then _ else _) _ _ s;cases aq:lX w with
 |true =>
  rw[Y3 Z6];show aU<|bG<|aU<|FW aV kG g.fit<|aU<|i1<|bG ⟨_,D,"set_iterator",_,⟨_,fa _ D,D⟩,sF.lookup,?_⟩;let aF:=(IC (w.params.setOrder a ep) es).map (·.2);show⟨_,s.L,[s.L,a],λi h=>h.get? s.L=J (pT (fF (0:Y)) i a es.O ep)/\kb prog w h a es ep t,s.drawn,D,aF,b3 _,λb mF=>Oz mF,λA' bh=>?_,{fa _ D,g.kept λo z=>dG _ z},λb o z=>dG _ z,D⟩;let W:=abv (prog:=prog) (es:=es) (t:=t) (ep:=ep) aq bh<|oW bx;rw[aF.length_eq];simpa using W
 |false =>
  cases hd:(!t.plain&&decide (es.O>1)) with
  |false =>
   rw[Y3 Z6];show aU<|bG<|aU<|FW aV kG g.fit<|aU<|i1<|bG {_,D,"set_iterator",_,{_,fa _ D,D},sF.lookup,?_};let hr:oK t.place:=by
    cases fS:t.plain with
    |true=>show g.good.rise fS
    |false =>
     rw[fS]at hd;intro i j hi bO iD;let:¬es.O>1:=by simpa using hd
     omega
   show{_,s.L,[s.L,a],λi h=>h.get? s.L=J (pT (fF<|slotAt t.place i) i a es.O ep)/\kb prog w h a es ep t,s.drawn,D,.refl _,b3 _,λb mF=>Oz mF,λA' bh=>?_,{fa _ D,g.kept λo z=>dG _ z},λb o z=>dG _ z,D};let W:=abu (prog:=prog) (es:=es) (t:=t) (ep:=ep) aq hr hd bh<|oW bx;simpa using W
  |true =>
   rw[Y2 Z6];show aU (Ow es.O (Yr es.O) s _ Z6 λl d aC=>?_);let xq:l.H=es.O:=by rw[aC.length_eq];simp
   show aU (wpAny_newTuple ?_<|by rw[cj,xq];show yq g.bd);let g2:kb prog w (s.heap.push<|iL "tuple" (l.map λ(i:Y)=>fF i).toArray 0) a es ep t:=g.kept λo z=>dG _ z;let(hB,oj,OA,afv):=g2.obj;show aU<|FW oj afv g.fit<|aU<|i1<|bG ⟨_,D,"set_iterator",_,⟨_,fa _ D,D⟩,sF.lookup,?_⟩;let aF:(l.map λp=>((es[p]?).map (·.2)).getD .none).Perm (es.toList.map (·.2)):=by
    show(aC.map _).trans ?_;let:(Yr es.O).map (λp=>((es[p]?).map (·.2)).getD .none)=es.toList.map (·.2):=by
     show List.ext_getElem Z6 λi af ao=>?_;let:i<es.O:=by simpa using af
     simp[this]
    rw[this]
   show{_,(s.heap.push<|iL "tuple" (l.map λ(i:Y)=>fF i).toArray 0).E.O,[(s.heap.push<|iL "tuple" (l.map λ(i:Y)=>fF i).toArray 0).E.O,a,s.L],λi h=>h.get? (s.heap.push<|iL "tuple" (l.map λ(i:Y)=>fF i).toArray 0).E.O=J (pT (.ref s.L) i a es.O ep)/\kb prog w h a es ep t/\∃m,h.get? s.L=J { cls:=.type "tuple",data:=.seq (l.map λ(i:Y)=>fF i).D m},d,D,aF,by rw[kQ];show tB _,λb mF=>?_,λA' bh=>?_,⟨fa _ D,g2.kept λo z=>dG _ z,0,dG _<|fa _ D⟩,λb o z=>dG _<|dG _ z,D}
   .simp at mF;rcases mF with z|z|z
    .right;rw[z];show tB _
    .show .inl z
    .right;rw[z];show b3 _
   .let W:=abw (prog:=prog) (w:=w) (es:=es) (t:=t) (ep:=ep) aC bh (I:=(s.heap.push<|iL "tuple" (l.map λ(i:Y)=>fF i).toArray 0).E.O) (a:=a) (tp:=s.L) (by rw[kQ];show oW<|lu bx) (by rw[kQ];show oW<|mS _);rw[cj,xq];show W
def ajH:typeLookup (.type "set") "__len__" = pure (J<|.builtin "set.__len__"):=by rw[BD,BA];kernel_rfl
def alA(gg:s.TypeIs (.ref a) "set"){Q:Yc->aL->Prop}(h:Q Y1 s):ba Z7 A (Builtin.List.listLengthHint<|.ref a) Q E s:=by delta Builtin.List.listLengthHint;show aU<|BE gg ajH ?_;generalize OB:("set.__len__" : YD)=Dr;wp_delta;rw[show splitId Dr=J ("set","__len__") from by subst OB;decide+kernel];subst OB;show aU<|tE (T:="set") (b:=Y0) gg (by rw[ys];kernel_rfl) ?_;show F0 (λz=>Yi z Z0) λ_=>F0 (λ_=>aU<|qh gg<|bG h) λz=>Yi (by decide+kernel) z
def aby(bh:A.handled=C)(g:kb prog w s.Q a es ep t)(cZ:X7)(OC:cZ≠a)(res:ay)(c₀:Y)(fc:s.heap.get? cZ=J { cls:=.type "list",data:=.seq #[] c₀})
  (gk:∀h' tk d Fa c aa,(∀b o,b≠cZ->s.heap.get? b=J o->h'.get? b=J o)->h'.get? cZ=J { cls:=.type "list",dict:=C,data:=.seq Fa c,slots:=#[]}->aa.Perm (es.toList.map (·.2))->Fa.B=aa->R (.ok<|.ret res) { s with heap:=h',toks:=tk,drawn:=d}) :
  ba Z7 A.in1 (Builtin.List.listExtendWith (.ref cZ) (.ref a) res)
   (λfin s'=>match fin with|.done f=>R (.ok f) s'|.again c0=>c0.quiet=Y0/\kS Z7 A c0 R s') (λe s'=>R (.error e) s') s:=by
 let(o,aV,ax,kG):=g.obj;let gg:s.TypeIs (.ref a) "set":={_,aV,ax.1}
 let abz:=d6 fc;delta Builtin.List.listExtendWith;show aU<|qh (T:="set") gg ?_;simp only[show Builtin.List.listSameRef (.ref cZ) (.ref a)=Y1 from by simp[Builtin.List.listSameRef,OC],show(YX "set" == YX "list")=Y1 from by decide,show(YX "set" == YX "tuple")=Y1 from by decide,Bool.or_false,iK,Ys];show aU (g5 (alz g) (λit fX z=>?_) λ_ _ e=>e);let(aa,I,fp,St,d,rfl,aF,rW,om,wC,st,bP,Vf):=z;let(LC,am6,am7,k₂,am8):=fX
 ext Vf
 let Dn:cZ∉fp:=λz=>by rcases om cZ z with q|q;show OC q;show Yi abz<|Fz.mpr q
 let W:=wC A.in1 bh;let IF:aa.H<=c3:=by rw[aF.length_eq];simp;show yq g.bd
 let IG:=bP cZ _ fc;let key:∀(h:Yg) (c₁ tk:Y),St 0 h->(∀b o,b≠cZ->s.heap.get? b=J o->h.get? b=J o)->h.get? cZ=J { cls:=.type "list",data:=.seq #[] c₁}->kS Z7 A (.builtin "list.extend.loop" {[.ref cZ,.ref I,res],[]}) R { s with heap:=h,toks:=tk,drawn:=d}:=by
  intro h c₁ tk k4 aY IH;show codeAny_extend_loopS W.toS IF cZ Dn res aa.H 0 _ #[] c₁ D (f9 _) k4 IH (ItemsOf.nil _) λs' s9 c0 hm abA Sk=>?_;let e:=Moved.eq_with hm;rw[e];show gk s'.Q s'.toks d s9 c0 aa (λb o nb z=>hm.heap b o (λq=>?_)<|aY b o nb z) abA aF ?_
  .rcases ei.mp q with q|q
   .show nb q
   .let dp:=d6 z;let q:b=I:=by simpa using q
    rw[q]at dp;show Yi dp<|Fz.mpr rW
  .show qbf λi=>?_;by_cases hi:i<s9.O
   .let:=Sk.2 i s9[i] (by simp[hi]);rw[this,js];simp[hi]
   .let af:s9.B[i]?=C:=by simp;show g4 hi
    let ao:aa[i]?=C:=by let:=Sk.1;simp;show bF (dK this.symm)<|g4 hi
    rw[af,ao]
 show aU<|jT<|alA (let ⟨o,z,q⟩:=gg;⟨o,bP a o z,q⟩) ?_;show F0 (λ_=>?_) λ_=>bG {nU PySem.F.plain_extend_loop _,key _ c₀ _ st (λb o _ z=>bP b o z) IG};show aU<|jt<|aU (show ba _ _ (updateSeq cZ (·.push .none) >>= λ_=>updateSeq cZ (·.pop)) _ _ _ from ?_);let a4:=nS (UJ (·.push YC)) IG D;let cQ:=nS (UJ (·.pop)) a4 D;show aU<|tG IG D<|tG (hz:=by seq_fits) a4 D<|bG ⟨nU PySem.F.plain_extend_loop _,key _ _ _ ?_ (λb o nb z=>?_) cQ⟩
 .show W.frame 0 _ _ st λb aq o z=>?_;let nb:b≠cZ:=λq=>Dn<|q▸aq;show(rG _ _<|Yw nb).trans ((rG _ _<|Yw nb).trans z)
 .show(rG _ _<|Yw nb).trans ((rG _ _<|Yw nb).trans (bP b o z))
def abB(bh:A.handled=C)(g:kb prog w s.Q a es ep t)
  (h:∀h' tk d aa,(∀b o,s.heap.get? b=J o->h'.get? b=J o)->aa.Perm (es.toList.map (·.2))->R aa { s with heap:=h',toks:=tk,drawn:=d}):ba (bg prog w) A (collect (.ref a)) R E s:=by
 let(o,aV,ax,kG):=g.obj;let bx:=d6 aV;delta collect;show aU<|F1<|oZ PyProof.Rows.entry_proto_collect' ?_;rw[KV PySem.F.plain_proto_collect _];show(show ba _ A.in1 (newList [] >>= λl=>again<|.builtin "list.__iadd__" {[l,.ref a],[]}) _ _ s from aU<|i1<|bG {nU PySem.F.plain_list_iadd _,oZ PyProof.Rows.entry_list_iadd' ?_});rw[KV PySem.F.plain_list_iadd _];let IH:(s.heap.push { cls:=.type "list",data:=.seq ([]:O ay).D}).get? s.L=J { cls:=.type "list",data:=.seq #[]}:=fa _ D;let key:=aby (A:=A) (s:={ s with heap:=s.heap.push { cls:=.type "list",data:=.seq ([]:O ay).D}})
  (R:=λ(q:Result) (s':aL)=>∃h' tk d Fa c aa,q=.ok (.ret<|.ref s.L)/\s'={ s with heap:=h',toks:=tk,drawn:=d}/\(∀b o,s.heap.get? b=J o->h'.get? b=J o)/\h'.get? s.L=J { cls:=.type "list",dict:=C,data:=.seq Fa c,slots:=#[]}/\aa.Perm (es.toList.map (·.2))/\Fa.B=aa)
  bh (g.kept λo z=>dG _ z) s.L (oW bx) (.ref s.L) 0 IH
  (λh' tk d Fa c aa k1 k2 k3 qC=>{h',tk,d,Fa,c,aa,D,D,λb o z=>k1 b o (eE<|d6 z)<|dG _ z,k2,k3,qC})
 let fin:∀{q:Result} {s':aL},(∃h' tk d Fa c aa,q=.ok (.ret<|.ref s.L)/\s'={ s with heap:=h',toks:=tk,drawn:=d}/\(∀b o,s.heap.get? b=J o->h'.get? b=J o)/\h'.get? s.L=J { cls:=.type "list",dict:=C,data:=.seq Fa c,slots:=#[]}/\aa.Perm (es.toList.map (·.2))/\Fa.B=aa)->True:=λ_=>trivial;show g5 key (λf s' x=>?_) λe s' x=>?_
 .cases f with
  |done f =>
   let(h',tk,d,Fa,c,aa,e,rfl,k1,k2,k3,rfl):=x
   ext e
   show(show ba _ A (load s.L >>= _) _ _ _ from aU<|wpAny_load k2<|bG<|h h' tk d _ k1 k3)
  |again c₁ =>
   show{x.1,rK x.2 λq fX y=>?_};let(h',tk,d,Fa,c,aa,rfl,rfl,k1,k2,k3,rfl):=y;show(show ba _ A (load s.L >>= _) _ _ _ from aU<|wpAny_load k2<|bG<|h h' tk d _ k1 k3)
 .let(_,_,_,_,_,_,bH,_):=x
  ext bH
end
end a9.bD
end
namespace a9.bD
open PySem PySem.Spec PyProof.Rows a9.Tm
def _root_.a9.aO.ajI(I:aO X ae U H s)(d:Drawn):aO X ae U H { s with drawn:=d}:=⟨I.ok,I.os,I.dE,I.d,I.loc,I.cell,I.free,I.kO,I.pin,I.bE,I.len⟩
theorem II(x:X6):∀ns:O X6,x∈iS ns↔x∈ns
 |[]=>by simp[iS]
 |n::ns=>by
  let aT:=II x ns;delta iS at aT |-;rw[Bj];split
  .rename_i h;rw[aT,ei];show{.inr,λz=>z.elim (λe=>by rw[e];show(II n ns).mp h) id}
  .rw[ei,ei,aT]
theorem OD:∀ns:O X6,(iS ns).Nodup
 |[]=>by simp[iS]
 |n::ns=>by
  let aT:=OD ns;delta iS at aT |-;rw[Bj];split
  .show aT
  .rename_i h;show mP.mpr {(h),aT}
section
variable {X:bL}{L:X7}
def OE{e:Yd}{d:bK}{B:aI}{S:bA}{n aW:Y}{ns:O X6}{aD:O T}{ae:O Z2}{s:aL}{U:St}{H:aI}{Q:ay->aL->Prop}{cy iX:Yh}(bh:X.A.handled=C)(h:bI X L e d)(q7:X.bj "set" = C)(uS:fI X "set")(lV:cc [e] X.I=(Y1,Ur e X.I)::cc [] X.I)
  (aA:ag d aw S n=J (aD,aW)) (hi:pF aW aD=J ns) (I:aO X ae U H s) (R:df X.K B L S n U H)
  (k:∀s' ak a ks,aO X ae U ak s'->dc L H ak->df X.K B L S aW U ak->nK X.R X.w s'.Q a ks->ks.Perm (iS ns)->Q (.ref a) s') :
  ba Z3 X.A (Ur (.Call (.Name "set" cy) [e] [] iX) X.I) Q X.cu s:=by
 show lz<|kZ I uS q7 boot_set ?_ Z0 Z0;show K4 ?_ lV D;rw[lV];let((to,mo,no),f1,f2):=b5 aA
 ext f2
 show i0 (bZ (h.run f1 I R) λu s1 ⟨v,H1,bf,bp,a1,bt,b0⟩=>ly ?_);let aZ:=b0.root bt R.aJ;let fin:∀{c:YD} {l:X7} {ol:Yp} {XZ:Ye ay} {nl:Y},(c = "list" \/ c = "tuple")->s1.heap.get? l=J ol->ol.cls=.type c->ol.e=.seq XZ nl->gf XZ.B ns->ns.H+1<4096->ba Z3 X.A (call (.type "set") [.ref l]) Q X.cu s1:=λaN aV my hd rW aq=>by
  show ahY aN bh aV my hd rW (by delta mW;show aq) λh' tk ks g m bP=>?_;let cI:aO X ae U H1 { s1 with heap:=h',toks:=tk}:=bf.kept bP;let bN:ks.Nodup:=by let(_,_,_,_,_,z):=g;show z
  show k _ H1 _ ks cI a1 bt g ((List.perm_ext_iff_of_nodup bN<|OD ns).mpr λx=>by rw[m x,II])
 induction to using T.casesOn with
 |aj xs =>
  let(abC,af,ao):=b5 (show(eU xs).bind _=_ from hi);split at ao
  .rename_i aq
   ext ao
   let(l,aa,rfl,gK,jA):=aZ
   ext bp
   let ax:=nv af;subst ax;cases sl jA;let(aX,bb,cm,hz):=bf.list gK.gK;let(o,aV,aN,m,hd):=cm.isList;show fin (.inl D) aV aN hd (by simpa using ob bb) aq
  .ext ao
 |aE xs =>
  let(abC,af,ao):=b5 (show(eU xs).bind _=_ from hi);split at ao
  .rename_i aq
   ext ao
   let(l,aa,rfl,cf,jA):=jf aZ
   ext bp
   let ax:=nv af;subst ax;cases sl jA;let(aX,bb,(o,aV,aN,m,hd),hz):=bf.tuple<|eC.of (K:=X.K) cf;show fin (.inr D) aV aN hd (by simpa using ob bb) aq
  .ext ao
 |_=>ext hi
def abD{e:Yd}{d:bK}{p cy pos iX:Yh}(bh:X.A.handled=C)(h:bI X L e d)(hm:X.bj "len" = C)(q7:X.bj "set" = C)(bQ:X9 (fI X "len") bo)(uS:X9 (fI X "set") bo)(lV:X9 (cc [e] X.I=(Y1,Ur e X.I)::cc [] X.I) bo)
  (he:X9 (cc [.Call (.Name "set" cy) [e] [] iX] X.I=(Y1,Ur (.Call (.Name "set" cy) [e] [] iX) X.I)::cc [] X.I) bo) :
  bI X L (.Call (.Name "len" p) [.Call (.Name "set" cy) [e] [] iX] [] pos) (aB M9<|ag d aw):=by
 intro B S n t ko n' hd ae s U H Q I ⟨R,k⟩;let((aD,aW),aA,av):=b5 hd;let((t1,c9),a7,bM):=dm av;cases bM;let(ns,hi,d9):=dm (show(pF aW aD).map _=_ from a7);cases d9;show lz<|kZ I bQ hm boot_len ?_ Z0 Z0;show K7 (Q:=fH X ae U Q) ?_ he D;rw[he];show i0 (OE bh h q7 uS lV aA hi I R λs1 H1 a ks bf x1 bt g GB=>ly ?_);let(es,ep,tt,g1,g2,g3):=g;let(o,aV,ax,kG):=g1.obj;let aC:es.O=(iS ns).H:=by rw[<-GB.length_eq,<-g2.H];simp
 let aq:=g1.bd;let kE:mW=4096:=rfl;show call_len_set aV ax kG g1.fit (by omega) {.int (iS ns).H,H1,bf.tok _,{_,by rw[aC]},k _ _ x1 bt.aJ ?_};show aH L H1 (.int _) _;rw[aH]
def abE{e:Yd}{d:bK}{p cy pos iX:Yh}(bh:X.A.handled=C)(h:bI X L e d)(hm:X.bj "sorted" = C)(q7:X.bj "set" = C)(bQ:X9 (fI X "sorted") bo)(uS:X9 (fI X "set") bo)(lV:X9 (cc [e] X.I=(Y1,Ur e X.I)::cc [] X.I) bo)
  (he:X9 (cc [.Call (.Name "set" cy) [e] [] iX] X.I=(Y1,Ur (.Call (.Name "set" cy) [e] [] iX) X.I)::cc [] X.I) bo) :
  bI X L (.Call (.Name "sorted" p) [.Call (.Name "set" cy) [e] [] iX] [] pos) (aB qaL<|ag d aw):=by
 intro B S n t ko n' hd ae s U H Q I ⟨R,k⟩;let((aD,aW),aA,av):=b5 hd;let((t1,c9),a7,bM):=dm av;cases bM;let(ns,hi,d9):=dm (show(pF aW aD).map _=_ from a7);cases d9;show lz<|kZ I bQ hm vY ?_ Z0 Z0;show K7 (Q:=fH X ae U Q) ?_ he D;rw[he];show i0 (OE bh h q7 uS lV aA hi I R λs1 H1 a ks bf x1 bt g GB=>ly ?_);let(es,ep,tt,g1,g2,g3):=g;show Dj (abB (A:=X.A.in1) bh g1.i λh' tk dd aa bP t9=>?_);let(k9,aR,a4):=Iw g2 t9;let aC:aa.H<=c3:=by rw[t9.length_eq];simp;show yq g1.bd
 show{_,aC,λ_=>(N6 aR).at,λuQ ij t2 jg ax aF uR=>?_};let(OF,pU):=Il (Dk aR) aF uR;let cI:aO X ae U H1 { s1 with heap:=h',toks:=tk,drawn:=dd}:=(bf.kept bP).ajI dd;let hf:H1 h'.E.O=C:=cI.bE.fresh<|b3 _;let(Dm,fs,gC):=Iw aR OF;let abF:Dm=sortI (iS ns):=by
  let z:=Dk (h:=h') fs;rw[z,N5]at pU;let:Dm=sortI k9:=by let:=Yx (List.map λl:O X6=>l.headD 0) pU;simpa[be,Function.comp_def]using this
  rw[this];show Ho ((sortI_perm k9).trans (a4.trans GB))<|zr k9
 subst abF;let fz:=cI.laid (a:=h'.E.O) (o:=.aj<|(sortI<|iS ns).map V.int) (t':=tk) (h':=uQ) jg (b3 _) {by rw[cj,<-fs.H,OF.length_eq];show aC,(ij.map (·.2)).B,t2,ND fs,by rw[yk];show ax};show{.ref h'.E.O,_,fz,D,k _ _ (x1.trans<|.new hf) (bt.aJ.new hf) {_,D,x1.free bt.aJ hf,_,eS,bJ.ints _}}
end
def IJ:d2:=λn aD=>(pF n aD).bind λns=>if(iS ns).H<64 then J (.aj<|(sortI<|iS ns).map .int,.az) else C
section
variable {X:bL}{L:X7}
def abG{e:Yd}{d:bK}{p cy pos iX:Yh}(bh:X.A.handled=C)(h:bI X L e d)(hm:X.bj "sorted" = C)(q7:X.bj "set" = C)(bQ:X9 (fI X "sorted") bo)(uS:X9 (fI X "set") bo)(lV:X9 (cc [e] X.I=(Y1,Ur e X.I)::cc [] X.I) bo)
  (he:X9 (cc [.Call (.Name "set" cy) [e] [] iX] X.I=(Y1,Ur (.Call (.Name "set" cy) [e] [] iX) X.I)::cc [] X.I) bo) :
  bI X L (.Call (.Name "sorted" p) [.Call (.Name "set" cy) [e] [] iX] [] pos) (aB IJ<|ag d aw):=(abE bh h hm q7 bQ uS lV he).weak λS n r e=>ajC (λn aD r e=>by
 let(ns,aA,av):=b5 (show(pF n aD).bind _=_ from e);split at av
 .show(pF n aD).map _=_;rw[aA];show av
 .ext av) e
end
end a9.bD
namespace a9.bD
open PySem PySem.Spec PyProof.Rows
section
variable {X:bL}{L:X7}
def ajJ{k:Y}(a7:Kl k [to]=J (t1,c9)):∃i,to=.int i/\t1=.int (-i)/\c9=.ah:=by
 induction to using T.casesOn with
 |int i =>
  ext a7;show{(i),D,D,D}
 |_=>ext a7
def ajK{e:Yd}{d:bK}{pos:Yh}(h:bI X L e d):bI X L (.UnaryOp .USub e pos)<|aB Kl<|ag d aw:=by intro B S n t ko n' hd ae s U H Q I ⟨R,k⟩;let(to,mo,f1,a7):=CG hd;let(i,rfl,rfl,rfl):=ajJ a7;show SD Tn (h B S n (.int i) mo _ f1) ae s U H Q I ⟨R,λv ak x y z=>?_⟩;let:=iT<|z.root (R.mono x y) R.aJ;subst this;show{i,D,k _ ak x y<|by show aH L ak (.int _) _;rw[aH]}
theorem OG:∀bs:O Yc,((Yr bs.H).any λi=>bs.getD i Y1)=bs.any id
 |[]=>rfl
 |b::bs=>by rw[d4,E6,oU,Fl,oU,<-OG bs];rfl
def ahZ(aN:X.calm=Y0):ff X L (λus=>call (.builtin "any") us) R8:=by
 intro B ae s U H aa us aD n t m Q I bb aZ aJ e k;let bh:=I.ok.hd aN
 induction aD using Yn with
 |nil=>ext e
 |cons dI e3 =>
  induction dI using T.casesOn with
  |aj xs =>
   induction e3 using Yn with
   |nil =>
    let(bs,aA,av):=dm (show(nM xs).map _=_ from e)
    ext av
    obtain rfl:=H3 aA;let(v,rfl,r):=hL aZ;let(u,rfl,eF):=bb.one;show call_any_walk (bZ (zM (A':=X.A.in1) bh I r eF D) λit fX ⟨kr,fp,wr,P,St,e,W,st,om,ez,fin⟩=>?_);show{kr,fp,wr,_,P,St,λi=>bs.getD i Y1,e,W,st,λi v s' eJ ng bX ee=>?_,λh' tk bP=>?_}
    .rw[Ny<|ez i v bX];show qg ee
    .rw[cj,OG];show{.a5 _,H,fin h' tk bP,D,k _ H (.refl _ _) aJ<|by show aH L H (.a5 _) _;rw[aH]}
   |cons _ _=>ext e
  |_=>ext e
def OH(h:mx t=Y0)(r:aH L H t v):pE v=Y0:=by
 induction t using T.casesOn with
 |bR=>rw[aH]at r;subst r;rfl
 |a5 b=>rw[aH]at r;subst r;rfl
 |int i=>rw[aH]at r;subst r;rfl
 |str x=>rw[aH]at r;subst r;rfl
 |_=>ext h
def ajL(h:mx t=Y0)(h':mx t'=Y0)(r:aH L H t v)(bY:aH L H t' h6):lM v h6=ey t t':=by
 induction t using T.casesOn with
 |bR=>induction t' using T.casesOn with
  |bR=>rw[aH]at r;rw[aH]at bY;subst r bY;rfl
  |a5 b=>rw[aH]at r;rw[aH]at bY;subst r bY;rfl
  |int i=>rw[aH]at r;rw[aH]at bY;subst r bY;rfl
  |str x=>rw[aH]at r;rw[aH]at bY;subst r bY;rfl
  |_=>ext h'
 |a5 b=>induction t' using T.casesOn with
  |bR=>rw[aH]at r;rw[aH]at bY;subst r bY;rfl
  |a5 b=>rw[aH]at r;rw[aH]at bY;subst r bY;simp[lM,ey]
  |int i=>rw[aH]at r;rw[aH]at bY;subst r bY;simp[lM,ey]
  |str x=>rw[aH]at r;rw[aH]at bY;subst r bY;rfl
  |_=>ext h'
 |int i=>induction t' using T.casesOn with
  |bR=>rw[aH]at r;rw[aH]at bY;subst r bY;rfl
  |a5 b=>rw[aH]at r;rw[aH]at bY;subst r bY;simp[lM,ey]
  |int i=>rw[aH]at r;rw[aH]at bY;subst r bY;simp[lM,ey]
  |str x=>rw[aH]at r;rw[aH]at bY;subst r bY;rfl
  |_=>ext h'
 |str x=>induction t' using T.casesOn with
  |bR=>rw[aH]at r;rw[aH]at bY;subst r bY;rfl
  |a5 b=>rw[aH]at r;rw[aH]at bY;subst r bY;rfl
  |int i=>rw[aH]at r;rw[aH]at bY;subst r bY;rfl
  |str x=>rw[aH]at r;rw[aH]at bY;subst r bY;simp[lM,ey]
  |_=>ext h'
 |_=>ext h
theorem OI:∀{xs:O T} {aa:O V},(xs.all mx)=Y0->bJ L H xs aa->aa.all pE=Y0
 |[],aa,_,r=>by cases ig r;rfl
 |x::xs,aa,h,r=>by let(v,w,rfl,p,q):=gH r;rw[ma,gS]at h;rw[ma,OH h.1 p,OI h.2 q];rfl
def abH{K:Yk}{H:aI}{t:T}{v:V}(h:mx t=Y0)(r:eb K L H t v):aH L H t v:=by
 show eb.rep ?_ r
 induction t using T.casesOn with
 |bR=>rfl
 |a5 b=>rfl
 |int i=>rfl
 |str x=>rfl
 |_=>ext h
end
end a9.bD
section
namespace a9.z5
open PySem PySem.Spec PyProof.Rows
section
variable {prog:di}{w:cL}{A:dz}{E:ay->aL->Prop}{s:aL}
open ft in
def amY{lo hi:X8 X6}(cE:nY s.Q t XZ)(aM:s.heap.IsSliceOf c8 iM iN .none)(cm:o8 iM lo)(pu:o8 iN hi)
  (hw:ft.dS XZ.O 0 lo=0/\ft.dS XZ.O XZ.O hi=XZ.O)
  (h:Q (.ref t) s):ba Z7 A (mY (.ref t)<|.ref c8) Q E s:=by
 let(os,mu,qK,hC):=id aM;let zl:s.TypeIs (.ref c8) "slice":={(os),mu,qK}
 delta mY
 try with_reducible show jT ?_
 first|show aU (bG ?_)|skip
 show aU<|FU cE.typeIs Z0 ?_
 show aU (rJ (name:=YF "__getitem__") cE.typeIs K6
  (mt K6 cE.typeIs F9 ?_<|Ga _ _))
 show ba _ _ (Builtin.Tuple.tupleItemsOf (.ref t) >>= _) _ _ s;show aU<|Gd cE ?_;show aU<|qh zl ?_;rw[Y2 Z0];show aU<|ft.Uk aM cm pu ?_;let afw:(((ft.dS XZ.O 0 lo:Y):X6)==0&&(1:X6)==1&&(ft.dS XZ.O XZ.O hi-ft.dS XZ.O 0 lo)==XZ.O)=Y0:=by rw[hw.1,hw.2];simp
 show ba _ _ (if(((ft.dS XZ.O 0 lo:Y):X6)==0&&(1:X6)==1&&(ft.dS XZ.O XZ.O hi-ft.dS XZ.O 0 lo)==XZ.O)=Y0 then _ else _) _ _ s;rw[Y2 afw];show aU ?_;delta Builtin.Tuple.tupleIsExact;show aU<|qh cE.typeIs<|bG ?_;rw[Y2 Z0]
 first
  |show aU<|jt<|aU<|bG {_,D,bG h}
  |show aU<|jt<|bG {_,D,bG h}
  |show aU<|jt<|bG<|bG {_,D,bG h}
end
end a9.z5
namespace a9
open PySem PySem.Spec PyProof.Rows
section
variable {X:bL}
def agq(K:Yk):V->X8 X6->X8 X6->aI->eW->Prop:=λx lo hi H Q=>∃a xs,x=.ref a/\eC K H a xs/\(ft.dS xs.H 0 lo=0/\ft.dS xs.H xs.H hi=xs.H)/\Q x H
def ajM:sh X<|agq X.K:=by
 intro ae s U H x v iM iN lo hi c8 Q I cJ aM cm pu h;let(a,xs,rfl,ax,hw,q):=h
 ext cJ
 let(aX,r,cE,hz):=I.tuple ax;let d5:aX.D.O=xs.H:=by rw[eL];show r.length.symm
 show{"tuple",_,PyProof.Rows.slot_tuple_getitem.lookup,cE.typeIs,z5.amY cE aM cm pu (by rw[d5];show hw) {.ref a,H,I,D,q}}
end
end a9
namespace a9.bD
open PySem PySem.Spec PyProof.Rows
section
variable {X:bL}{L:X7}
def ah0{e:Yd}{lo hi:X8 Yd}{cy pos:Yh}{d:bK}{dl LV:yH}(h:bI X L e d)(aC:yP X L lo dl)(bh:yP X L hi LV):bI X L (.Subscript e (.Slice lo hi C cy) pos)<|Ew d dl LV:=by
 intro B S n t m n' hd ae s U H Q I ⟨R,k⟩;let((t0,m0,n0),aA,av):=b5 hd;let((l,aW),a7,bM):=b5 av;let((u,bW),d9,fV):=b5 bM;show akW (ai2.or<|ahd.or ajM) (h B S n t0 m0 n0 aA) (aC B S n0 l aW a7) (bh B S aW u bW d9) ae s U H Q I ⟨R,λv H1 x1 dI cT=>?_⟩;let bt:=R.mono x1 dI;show{bt,λbr x2 iy=>?_};let de:=bt.mono x2 iy;show{de,λdr cY kp=>?_};let zN:=x2.trans cY;let aZ:eb X.K L dr t0 v:=eb.ext bt.aJ zN<|cT.root bt R.aJ;let Ds:=x1.trans zN
 induction t0 using T.casesOn with
 |aj xs =>
  ext fV
  let(a,aa,rfl,cf,cN):=aZ;show .inl {a,aa,D,cf.gK,λp aF=>k _ _ (Ds.trans<|.new aF) (kp.new aF) {p,D,Ds.free kp aF,_,eS,?_}};delta oH sW;rw[sr,sr,cN.H];show bJ.take _<|bJ.drop _<|bJ.mono (.new aF) _ _ cN
 |aE xs =>
  ext fV
  let(a,aa,rfl,cf,cN):=jf aZ;by_cases hw:bound xs.H 0 l=0/\bound xs.H xs.H u=xs.H
  .show .inr (.inr {a,aa,D,eC.of cf,?_,k _ _ Ds kp<|pO cf ?_})
   .rw[<-cN.H,<-sr,<-sr];show hw
   .delta oH;rw[hw.1,hw.2,ya,yh,vz];show cN
  .show .inr (.inl {a,aa,D,eC.of cf,?_,λp aF=>k _ _ (Ds.trans<|.new aF) (kp.new aF)<|pO eS ?_})
   .rw[<-cN.H,<-sr,<-sr];show hw
   .delta oH sW;rw[sr,sr,cN.H];show bJ.take _<|bJ.drop _<|bJ.mono (.new aF) _ _ cN
 |_=>ext fV
def abI(h:∀x∈ns,-10000000000000<=x/\x<=10000000000000):-(10000000000000*(ns.H:X6))<=cx ns/\cx ns<=10000000000000*(ns.H:X6):=by
 induction ns with
 |nil=>simp[cx]
 |cons x xs aT =>
  let:=aT λy aP=>h y<|dZ _ aP;let:=h x dF;rw[cx,d4]
  push_cast
  lia
def alB{t:T}{xs:O T}{ns:O X6}{ae:O Z2}{s:aL}{U:St}{H:aI}{v:V}{u:ay}{Q:eW}(bh:X.A.handled=C)(I:aO X ae U H s)(r:eb X.K L H t v)(bb:cU v u)(h:uK t=J xs)(ax:xs=ns.map T.int)
  (aC:ns.H<100000) (aq:∀x∈ns,-10000000000000<=x/\x<=10000000000000) (q:Q (.int<|cx ns) H):ba Z3 X.A (call (.builtin "sum") [u]) (fH X ae U Q) X.cu s:=by
 subst ax;show call_sum_walk (bZ (zM (A':=X.A.in1) bh I r bb h) λit fX ⟨kr,fp,wr,P,St,e,W,st,om,ez,fin⟩=>?_);show{kr,fp,wr,_,P,St,λi=>ns.getD i 0,e,W,st,om,λi v bX=>C1<|ez i v bX,λj bO=>?_,λh' tk t' bP=>?_}
 .rw[cj]at bO;let af:=aq (ns.getD j 0) (by rw[iu,gB bO];show l9 _);show InLong (ns.getD j 0)/\_;rw[C3 ns (j+1) bO];let ao:=abI (ns:=ns.take<|j+1) λx ax=>aq x<|x3 ax;let a6:((ns.take<|j+1).H:X6)<=100000:=by rw[lr];lia
  show{{(iv Z0 af.1),(oY af.2 Z0)},{by lia,by lia}}
 .rw[cj,C3 ns ns.H<|b3 _,vz];show{.int _,H,fin h' tk bP,{(t'),D},q}
def ajN(aN:X.calm=Y0):ff X L (λus=>call (.builtin "sum") us) nr:=by
 intro B ae s U H aa us aD n t m Q I bb aZ aJ e k;let bh:=I.ok.hd aN;let go:∀(t0:T) (xs:O T),aD=[t0]->uK t0=J xs->((eU xs).bind λns=>if ns.H<100000/\(ns.all λx=>decide (x.natAbs<=10000000000000)) then J (T.int<|cx ns,bk.ah) else C)=J (t,m)->ba Z3 X.A (call (.builtin "sum") us) (fH X ae U Q) X.cu s:=λt0 xs q0 hw bH=>by
  subst q0;let(ns,aA,av):=b5 bH;split at av
  .rename_i aq
   ext av
   let(v,rfl,r):=hL aZ;let(u,rfl,eF):=bb.one;show alB bh I r eF hw (nv aA) aq.1 (λx ax=>?_) (k _ H (.refl _ _) aJ<|by show aH L H (.int _) _;rw[aH]);let:=hO.mp aq.2 x ax;erw[YZ]at this;lia
  .ext av
 induction aD using Yn with
 |nil=>ext e
 |cons dI e3 =>
  induction dI using T.casesOn with
  |aE xs =>
   induction e3 using Yn with
   |nil =>
    show go _ xs D D e
   |cons _ _=>ext e
  |aj xs =>
   induction e3 using Yn with
   |nil =>
    show go _ xs D D e
   |cons _ _=>ext e
  |_=>ext e
end
def yV(P:di)(w:cL)(K:Yk)(bj:Ya->X8 ay)(base:Yg)(lv:Y)(x:Ya)(ps:O Ya)(f:c1)(L:X7):Prop :=
 ∃(a:X7) (d:i2),j9 P w K bj base j0 lv a d ps (w7 K L ps.H f)/\Binds K d ps []/\KW K (.ref a)=Y0/\bj x=J (.ref a)
def alC{X:bL}{L:X7}{f:c1}{lv e4:Y}{ps:O Ya}{x:Ya}{p pos:Yh}{e:Yd}{es:O Yd}{a:jy}(G:yV X.R X.w X.K X.bj X.d lv x ps f L)(hr:fb lv X.A)(bx:SB X L (e::es) a)(bq:X9 (ps.H=e4) bo)(bQ:X9 (fI X x) bo)(gz:X9 ((x==("__debug__" : Ya))=Y1) d7)
  (he:X9 (cc (e::es) X.I=(Y1,Ur e X.I)::cc es X.I) bo) (fS:X9 ((fE pos<|cc es X.I).any (·.1)=Y1) bo):bI X L (.Call (.Name x p) (e::es) [] pos)<|bB e4 f a:=by
 let(e8,fd,F,aq,aY,hm):=G;subst bq;show ajd F hr hm aY aq bx bQ gz he fS
end a9.bD
namespace a9.z5
open PySem PySem.Spec PyProof.Rows
section
variable {prog:di}{w:cL}{A:dz}{E:ay->aL->Prop}{s:aL}
def abJ{n:Y}{Q:X6×X6×Y->aL->Prop}(aM:s.heap.IsSliceOf c8 .none .none<|.int (-1) tk)(h:Q ((n:X6)-1,-1,n) s):ba Z7 A (Builtin.Slice.sliceApplied (.ref c8)<|pure (n:X6)) Q E s:=by
 let(os,mu,qK,hC):=id aM;delta Builtin.Slice.sliceApplied Builtin.Slice.sliceFields;show aU<|aU<|o2 mu hC (x:=.none) D<|aU<|o2 mu hC (x:=.none) D<|aU<|o2 mu hC (x:=.int (-1) tk) D<|bG ?_;show aU<|ft.A8 (.int (-1) tk) ?_;show ba _ _ (if((-1:X6)==0)=Y0 then _ else _) _ _ s;rw[Y3 Z0];show aU<|ft.A8 .none<|aU<|ft.A8 .none<|aU<|bG ?_;show ba _ _ (pure ((n:X6)-1,(-1:X6),lf ((n:X6)-1) (-1)<|-1)) _ _ s;let e:lf ((n:X6)-1) (-1) (-1)=n:=by
  delta lf;rw[Y3 Z0];split
  .rw[show(-(-1):X6)=1 from D,Int.ediv_one];lia
  .lia
 rw[e];show bG h
def alD(xs:Ye ay):((Yr xs.O).filterMap λ(k:Y)=>xs[(((xs.O:X6)-1)+(k:X6) *-1).M]?).D=xs.B.reverse.D:=by
 let e:(Yr xs.O).filterMap (λ(k:Y)=>xs[(((xs.O:X6)-1)+(k:X6) *-1).M]?)=((Yr xs.O).map λk=>xs.O-1-k).filterMap (xs[·]?):=by
  rw[qba];let gen:∀l:O Y,(∀k∈l,k<xs.O)->l.filterMap (λ(k:Y)=>xs[(((xs.O:X6)-1)+(k:X6) *-1).M]?)=l.filterMap ((xs[·]?)∘λk=>xs.O-1-k):=by
   intro l
   induction l with
   |nil=>intro _;rfl
   |cons k l aT =>
    intro aC;let aY:=aC k<|dF ..;let e:(((xs.O:X6)-1)+(k:X6) *-1).M=xs.O-1-k:=by lia
    rw[tl,tl,aT λgD h'=>aC gD<|dZ _ h',e];rfl
  show gen _ λk aY=>qd.mp aY
 rw[e,W.krv_range,List.filterMap_reverse,W.krv_all]
def amX(cE:nY s.Q t XZ)(aM:s.heap.IsSliceOf c8 .none .none<|.int (-1) tk)
  (h:Q (.ref s.L) { s with heap:=s.heap.push { cls:=.type "tuple",data:=.seq XZ.B.reverse.D}}) (hsz:XZ.O<=c3):ba (bg prog w) A (mY (.ref t) (.ref c8)) Q E s:=by
 let rt:sizeOk<|.seq XZ.B.reverse.D:=by show XZ.B.reverse.D.O<=c3;rw[eL,E7,fP];show hsz
 let(os,mu,qK,hC):=id aM;let zl:s.TypeIs (.ref c8) "slice":={(os),mu,qK}
 delta mY
 try with_reducible show jT ?_
 first|show aU (bG ?_)|skip
 show aU<|FU cE.typeIs Z0 ?_
 show aU (rJ (name:=YF "__getitem__") cE.typeIs K6
  (mt K6 cE.typeIs F9 ?_<|Ga _ _))
 show ba _ _ (Builtin.Tuple.tupleItemsOf (.ref t) >>= _) _ _ s;show aU<|Gd cE ?_;show aU<|qh zl ?_;rw[Y2 Z0];show aU<|abJ aM ?_;show ba _ _ (if(((XZ.O:X6)-1==0)&&((-1:X6)==1)&&XZ.O==XZ.O)=Y0 then _ else _) _ _ s;rw[Y3 Z6,alD]
 first
  |show aU (m:=KZ _)<|i1 (bG {_,D,bG h}) rt
  |show aU (m:=KZ _)<|i1 (aU<|bG<|bG {_,D,bG h}) rt
  |show aU<|aU (m:=KZ _)<|i1 (bG<|bG {_,D,bG h}) rt
  |show aU<|aU (m:=KZ _)<|i1 (bG {_,D,bG h}) rt
end
end a9.z5
namespace a9.bD
open PySem PySem.Spec PyProof.Rows
section
variable {X:bL}{L:X7}
def ah1{e:Yd}{d:bK}{j}{dh cy gN pos:Yh}(h:bI X L e d):bI X L (.Subscript e (.Slice C C (J<|.UnaryOp .USub (.Constant (.int 1) j dh) cy) gN) pos)<|Ex d:=by
 intro B S n t m n' hd ae s U H Q I ⟨R,k⟩;let((t0,m0,n0),aA,av):=b5 hd;show Subscript_ (bZ (h.run aA I R) λv s1 ⟨x,H1,bf,bp,a1,bt,b0⟩=>?_);show wpAny_Slice ?_;rw[F7];show bG<|bG ?_;rw[evalPart_some];show bZ (SD Tn (Ck (i:=1)) ae s1 U H1 (λv ak=>v=.int (-1)/\ak=H1) bf {1,D,D,D}) λaa s3 ⟨wu,dr,fz,hI,a7,bM⟩=>?_;subst a7 bM;let(tk,rfl):=hI;let gU:aO X ae U dr { s3 with heap:=s3.heap.push { cls:=.type "slice",data:=.fields #[.none,.none,.int (-1) tk]}}:=fz.kept (t':=s3.toks) λb b2 q=>dG _ q;let aZ:=b0.root bt R.aJ;let aM:(s3.heap.push { cls:=.type "slice",data:=.fields #[.none,.none,.int (-1) tk]}).IsSliceOf s3.L .none .none (.int (-1) tk):=Heap.IsSliceOf.new ..
 induction t0 using T.casesOn with
 |aj xs =>
  ext av
  let(a,aa,rfl,cf,cN):=aZ
  ext bp
  let(aX,r,cE,hz):=gU.list cf.gK;show tail_any (ops:=[.ref a,.ref s3.L]) cE.isList.typeIs slot_list_getitem.lookup ?_ (by with_unfolding_all rfl);show Lw cE.isList aM .none .none (.int (-1) tk) Z6 ?_ (by rw[eL,<-r.H];show hz);rw[W.krv_pick];let hf:dr (s3.heap.push { cls:=.type "slice",data:=.fields #[.none,.none,.int (-1) tk]}).E.O=C:=gU.bE.fresh<|b3 _;show⟨.ref _,_,gU.laid (t':=s3.toks) (o:=.aj aa.reverse) (λb b2 q=>dG _ q) (b3 _) ?_,D,k _ _ (a1.trans<|.new hf) (bt.aJ.new hf) {_,D,a1.free bt.aJ hf,_,eS,bJ.mono (.new hf) _ _ cN.reverse}⟩;show{by rw[E7];show hz,_,0,r.reverse,fa _ D}
 |aE xs =>
  ext av
  let(a,aa,rfl,cf,cN):=jf aZ
  ext bp
  let(aX,r,cE,hz):=gU.tuple<|eC.of (K:=X.K) cf;show tail_any (ops:=[.ref a,.ref s3.L]) cE.typeIs PyProof.Rows.slot_tuple_getitem.lookup ?_ (by with_unfolding_all rfl);show z5.amX cE aM ?_ (by rw[eL,<-r.H];show hz);let hf:dr (s3.heap.push { cls:=.type "slice",data:=.fields #[.none,.none,.int (-1) tk]}).E.O=C:=gU.bE.fresh<|b3 _;show⟨.ref _,_,gU.laid (t':=s3.toks) (o:=.aE aa.reverse) (λb b2 q=>dG _ q) (b3 _) ?_,D,k _ _ (a1.trans<|.new hf) (bt.aJ.new hf)<|pO eS<|bJ.mono (.new hf) _ _ cN.reverse⟩;show{by rw[E7];show hz,_,r.reverse,lK.new _ _}
 |_=>ext av
end
end a9.bD
end
namespace a9.bD
open PySem PySem.Spec PyProof.Rows
section
variable {prog:di}{w:cL}{A:dz}{E:ay->aL->Prop}{s:aL}
abbrev SO(Q:ay->aL->Prop)(E:ay->aL->Prop):Result->aL->Prop:=λr s'=>match r with
 |.ok (.ret v)=>Q v s'
 |.ok _=>Ym
 |.error e=>E e s'
abbrev afx(prog:di)(w:cL)(A:dz)(Q:ay->aL->Prop)(E:ay->aL->Prop):Fin->aL->Prop:=λfin s'=>match fin with
 |.done f=>SO Q E (.ok f) s'
 |.again c0=>c0.quiet=Y0/\kS Z7 A c0 (SO Q E) s'
def alE{id:YD}{b:Builtin}{ks:O<|Ya×ay}(af:builtinKind id=C)(ao:plainId id=Y0)(a6:yu table id=J b)(cS:rP id {(ps),ks})
  (go:ba Z7 A.in1 (b {(ps),ks}) (afx prog w A Q E) E s):ba Z7 A (call (.builtin id) ps ks) Q E s:=by
 apply yt;apply codeAny_call_builtin ao a6;delta checkBuiltinCall;rw[af];delta rP at cS;generalize Manifest.signature? id=LW at cS |-;cases LW with
 |none=>show bG go
 |some y =>
  dsimp only at cS |-;rw[cS];show bG go
end
variable {X:bL}{L:X7}
def abK(a v:ay):rP "min" {[a],[(YF "default",v)]}:=by delta rP;kernel_rfl
def SP:X8 X6->X6->X8 X6
 |none,x=>J x
 |some a,x=>J (if x<a then x else a)
def q8(b:X8 X6)(ns:O X6):X8 X6:=ns.foldl SP b
def Cell(o:X8 X6)(cs:Ye ay):Prop:=match o with
 |none=>cs=#[]
 |some a=>∃t,cs=#[.int a t,.int a t]
section
variable {prog:di}{w:cL}{A:dz}{R:Result->aL->Prop}{I cZ:X7}{fp wr:O X7}{P:Y->ay->Prop}{St:Y->Yg->Prop}{ns:O X6}{d:ay}
def ajO{x y:X6}(q:Q (.bool<|decide (x<y)) s):ba Z7 A (richCompare .Lt (.int x t)<|.int y u) Q E s :=
 CmpOf.ints_lt (P:=λi v=>∃t,v=.int (if i=0 then x else y) t) (λi=>if i=0 then x else y) (λ_ _ h=>h) 0 1 _ _ s Q E {(t),D} {(u),D} q
def abL(W:Walks prog w A.in1 I fp wr ns.H P St)(num:∀i v,P i v->∃t,v=.int (ns.getD i 0) t)(out:cZ∉fp):∀(k i:Y) (s:aL) (cs:Ye ay) (c:Y) (o:X8 X6),i+k=ns.H->St i s.Q->Cell o cs ->
  s.heap.get? cZ=J { cls:=.type "list",dict:=C,data:=.seq cs c,slots:=#[]} ->
  (∀r h' tk,(match q8 o (ns.drop i) with|none=>r=d|some a=>∃t,r=.int a t)->(∀b b2,b∉wr->b≠cZ->s.heap.get? b=J b2->h'.get? b=J b2)->R (.ok<|.ret r) { s with heap:=h',toks:=tk}) ->
  kS Z7 A (.builtin "min.loop" {[.ref I,.none,.ref cZ],[(YF "default",d)]}) R s:=by
 let Sl:cZ∉wr:=λz=>out<|W.sub _ z;let away:∀{h:Yg} {g:Yp->Yp} {b:X7} {b2:Yp},b≠cZ->h.get? b=J b2->(h.update cZ g).get? b=J b2:=λne e=>(rG _ _ λz=>ne z.symm).trans e;let nm:(toString "min" ++ toString ".loop" : YD) = "min.loop":=by decide
 intro k
 induction k with
 |zero =>
  intro i s cs c o yW st ce at_ fin;let yW:i=ns.H:=yW;subst yW;rw[List.drop_length]at fin;show oZ F.entry_min_loop ?_;rw[KV F.plain_min_loop _];show aU (m:=seqItems?<|.ref cZ)<|tH at_ D<|aU (m:=tryCatch (kT<|.ref I) _)<|BF (W.done s _ _ st λh' tk bP=>?_);cases o with
  |none =>
   let ce:cs=#[]:=ce;subst ce;show aU<|jt<|bG (fin d h' tk D λb b2 aq _ e=>bP b b2 aq e)
  |some a =>
   let(t,rfl):=ce;show aU (m:=updateSeq cZ λ_=>#[])<|tG (bP cZ _ Sl at_) D<|aU<|BL<|bG ?_;show fin _ _ _ ⟨t,D⟩ λb b2 aq ne e=>away ne<|bP b b2 aq e
 |succ k aT =>
  intro i s cs c o yW st ce at_ fin;let lt:i<ns.H:=(tq<|dK yW)
  let split:ns.drop i=ns.getD i 0::ns.drop (i+1):=by rw[oP lt,iu,gB lt];rfl
  rw[split]at fin;show oZ F.entry_min_loop ?_;rw[KV F.plain_min_loop _];show aU (m:=seqItems?<|.ref cZ)<|tH at_ D<|aU (m:=tryCatch (kT<|.ref I) _)<|BF (W.item i s _ _ lt st λv h' tk t9 c5 bP=>?_);let(t,rfl):=num i v t9;let at2:=bP cZ _ Sl at_;let put:∀(Dt:Ye ay) (cW:X8 X6),Cell cW Dt->cW=SP o (ns.getD i 0)->kS Z7 A (.builtin "min.loop" {[.ref I,.none,.ref cZ],[(YF "default",d)]}) R { s with heap:=h'.update cZ (UJ λ_=>Dt),toks:=tk}:=λDt cW abM qv=>by show aT (i+1) _ Dt _ cW (by omega) (W.frame _ _ _ c5 λb aq b2 e=>away (by rintro rfl;show out aq) e) abM (nS _ at2 D) λr ao xg hr jg=>?_;show fin r ao xg ?_ λb b2 aq ne e=>jg b b2 aq ne<|away ne<|bP b b2 aq e;rw[qv]at hr;show hr
  cases o with
  |none =>
   let ce:cs=#[]:=ce;subst ce;show aU (m:=updateSeq cZ λ_=>#[_,_])<|tG at2 D ?_;rw[nm];show bG {nU F.plain_min_loop _,put _ (J<|ns.getD i 0) {(t),D} D}
  |some a =>
   let(u,rfl):=ce;show aU (m:=tryCatch (me [_,_]<|richCompare .Lt _ _ >>= _) _)<|BF<|jT<|aU<|ajO<|aU<|jT<|qg<|aU<|BL<|bG ?_;by_cases less:ns.getD i 0<a
   .rw[Y2<|XQ less];show aU<|tG at2 D<|aU<|BL ?_;rw[nm];show bG {nU F.plain_min_loop _,put _ (J<|ns.getD i 0) {(t),D}<|by show _=J (if _ then _ else _);rw[Y2 less]}
   .rw[Y3<|by simpa using less];show aU<|BL ?_;rw[nm];show bG ⟨nU F.plain_min_loop _,aT (i+1) _ _ _ (J a) (by omega) c5 ⟨u,D⟩ at2 λr ao xg hr jg=>fin r ao xg ?_ λb b2 aq ne e=>jg b b2 aq ne<|bP b b2 aq e⟩;show match q8 (J (if _ then _ else _)) _ with|none=>_|some a=>_
    rw[Y3 less];show hr
end
def KA:d2:=λ_ aD=>match aD with
 |[.aj xs]=>(eU xs).map λns=>(match q8 C ns with|none=>.bR|some i=>.int i,.ah)
 |_=>C
def alF{ae:O Z2}{s:aL}{U:St}{H:aI}{v:V}{u:ay}{ns:O X6}{Q:eW}(bh:X.A.handled=C)(I:aO X ae U H s)(r:eb X.K L H (.aj<|ns.map .int) v)(bb:cU v u)(q:Q (match q8 C ns with|none=>.bR|some i=>.int i) H) :
  ba Z3 X.A (call (.builtin "min") [u] [(YF "default",YC)]) (fH X ae U Q) X.cu s:=by
 show alE F.kind_min F.plain_min F.entry_min (abK _ _) ?_;show ba _ _ (Builtin.Builtins.bindParams "min" ["key","default"] 0 {[],[(YF "default",YC)]} >>= _) _ _ _;let Vg:Builtin.Builtins.bindParams "min" ["key","default"] 0 {[],[(YF "default",YC)]}=pure [C,J YC]:=rfl;show aU<|vQ Vg ?_;show aU<|bG ?_;show aU (bZ (zM (A':=X.A.in1) bh I r bb (xs:=ns.map .int) D) λit fX ⟨kr,fp,wr,P,St,e,W,st,om,ez,fin⟩=>?_);subst e;rw[cj]at W;show aU<|i1 ?_;rw[show(toString "min" ++ toString ".loop" : YD) = "min.loop" by decide];show bG ⟨nU F.plain_min_loop _,abL W (λi v bX=>C1<|ez i v bX) (λz=>nR _<|om _ z) ns.H 0 _ #[] _ C (tx _) (W.frame _ _ _ st λb _ o e=>dG _ e) D (fa _ D) λr h' tk hr bP=>?_⟩;let cI:=fin h' tk λb o aq e=>bP b o aq (eE<|d6 e)<|dG _ e;rw[ya]at hr;cases z:q8 C ns with
 |none=>rw[z]at hr q;subst hr;show{.bR,H,cI,D,q}
 |some a=>rw[z]at hr q;let(t,rfl):=hr;show{.int a,H,cI,{(t),D},q}
def ajP{p pos bP afy:Yh}{j:Y}{e:Yd}{a:gh}(aN:X.calm=Y0)(bx:mg X L [e] a)(hm:X.bj "min" = C)(bX:nV "min" = J (.builtin "min"))(bQ:X9 (fI X "min") bo)
  (he:X9 (fE pos (cc [e] X.I)=(Y1,Ur e X.I)::fE pos (cc [] X.I)) bo) (fS:X9 ((fE pos<|cc [e] X.I).any (·.1)=Y1) bo) :
  bI X L (.Call (.Name "min" p) [e] [{J "default",.Constant .none j afy,bP}] pos) (aB KA a):=by
 intro B S n t m n' hd ae s U H Q I ⟨R,k⟩;let((aD,aW),aA,av):=b5 hd;let((t1,c9),a7,bM):=dm av;cases bM;have⟨ns,ef,q⟩:∃ns:O X6,aD=[.aj (ns.map .int)]/\(match q8 C ns with|none=>T.bR|some i=>.int i,bk.ah)=(t1,c9):=by
  clear aA hd k
  induction aD using Yn with
  |nil=>ext a7
  |cons x r =>
   induction x using T.casesOn with
   |aj xs =>
    induction r using Yn with
    |nil =>
     let(ns,aR,a4):=dm (show(eU xs).map _=J (t1,c9) from a7);show{ns,by rw[nv aR],a4}
    |cons _ _=>ext a7
   |_=>ext a7
 subst ef;let bh:=I.ok.hd aN;show lz<|kZ I bQ hm bX ?_ Z0 Z0;show callWith_kw (bZ (bx.run aA pos I R) λus s1 ⟨aa,H1,bf,bp,a1,bt,b0⟩=>?_) he fS;show kws_cons<|wpAny_Constant_none<|kws_nil ?_;let(v,rfl,r):=hL b0;let(u,rfl,eF):=bp.one;show alF bh bf r eF ?_;cases z:q8 C ns with
 |none=>rw[z]at q;cases q;show k _ H1 a1 bt.aJ (by show aH L H1 .bR _;rw[aH])
 |some a=>rw[z]at q;cases q;show k _ H1 a1 bt.aJ (by show aH L H1 (.int a) _;rw[aH])
variable {X:bL}{L:X7}
def IK(x:T):T->X8 Yc
 |.aE xs=>if mx x&&xs.all mx then J (xs.any λy=>ey y x) else C
 |.aj xs=>if mx x&&xs.all mx then J (xs.any λy=>ey y x) else C
 |_=>C
def OJ:d2:=λ_ aD=>match aD with
 |[x,y]=>(IK x y).map λb=>(.a5<|!b,.ah)
 |_=>C
theorem TJ(ax:mx x=Y0)(cJ:aH L H x v):∀{xs:O T} {aa:O V},(xs.all mx)=Y0->bJ L H xs aa->Cu v aa=xs.any λy=>ey y x
 |[],aa,_,r=>by cases ig r;rfl
 |y::xs,aa,h,r=>by let(u,w,rfl,p,q):=gH r;rw[ma,gS]at h;let aT:=TJ ax cJ h.2 q;delta Cu at aT |-;rw[oU,oU,aT,ajL h.1 ax p cJ]
def ajQ{b:Yc}(e:IK x y=J b)(bp:eb X.K L H x v)(b8:eb X.K L H y w){neg:Yc}(q:Q (.a5 (if neg then !b else b)) H):Ha X.K neg v w H Q:=by
 let go:∀{xs:O T} {a:X7} {aa:O V},(if mx x&&xs.all mx then J (xs.any λy=>ey y x) else C)=J b->w=.ref a->(fw X.K H a aa\/eC X.K H a aa)->bJ L H xs aa->Ha X.K neg v w H Q:=λ{xs a aa} e m5 gK rs=>by
  split at e
  .rename_i hf
   ext e
   rw[gS]at hf;let cJ:=abH hf.1 bp;show{a,aa,m5,gK,OH hf.1 cJ,OI hf.2 rs,?_};rw[TJ hf.1 cJ hf.2 rs];show q
  .ext e
 induction y using T.casesOn with
 |aE xs =>
  let(a,aa,m5,cf,cN):=jf b8;show go e m5 (.inr<|eC.of cf) cN
 |aj xs =>
  let(a,aa,m5,cf,cN):=b8;show go e m5 (.inl cf.gK) cN
 |_=>ext e
def abN:ff X L (two<|gJ .NotIn) OJ:=by
 intro B ae s U H aa us aD n t m Q I bb aZ aJ e k
 match aD,e with
 |[x,y],e =>
  let(b,aA,av):=dm (show(IK x y).map _=_ from e)
  ext av
  let(v,w,rfl,bp,b8):=lU aZ;let(fR,gw,rfl,aR,a4):=bb.two;show qaC ae s U H v w fR gw Q I aR a4<|ajQ aA bp b8 (neg:=Y0) (k _ H (.refl _ _) aJ<|by show aH L H (.a5 _) _;rw[aH];rfl)
section
variable {X:bL}{L:X7}
def alG{K:Yk}{ak:aI}{t0:T}{v:V}(aZ:eb K L ak t0 v):decide (v=.bR)=zp t0:=by
 induction t0 using T.casesOn with
 |bR=>let aZ:aH L ak .bR v:=aZ;rw[aH]at aZ;subst aZ;rfl
 |a5 b=>let aZ:aH L ak (.a5 b) v:=aZ;rw[aH]at aZ;subst aZ;rfl
 |int b=>let aZ:aH L ak (.int b) v:=aZ;rw[aH]at aZ;subst aZ;rfl
 |str b=>let aZ:aH L ak (.str b) v:=aZ;rw[aH]at aZ;subst aZ;rfl
 |aE b=>let aZ:aH L ak (.aE b) v:=aZ;rw[aH]at aZ;let(_,_,rfl,_):=aZ;rfl
 |dQ=>let aZ:aH L ak .dQ v:=aZ;rw[aH]at aZ;subst aZ;rfl
 |b2 b=>let aZ:aH L ak (.b2 b) v:=aZ;rw[aH]at aZ;subst aZ;rfl
 |aj b=>let(_,_,rfl,_):=aZ;rfl
 |a3 b=>let(_,_,rfl,_):=aZ;rfl
 |eh b=>let(_,_,rfl,_):=aZ;rfl
def ah2{e:Yd}{d:bK}{j pos pos'}(h:bI X L e d):ST X L (.Compare e [.Is] [.Constant .none j pos'] pos)<|b7<|aB sY<|ag d aw:=by
 intro B S n b n' hd ae s U H Q I ⟨R,k⟩;let((t,m,hH),fy,g9):=b5 hd;let((aD,aW),aA,av):=b5 fy;let((t0,m0,n0),f1,f2):=b5 aA
 ext f2
 ext av
 ext g9
 show agX (Th<|h B S n t0 m0 _ f1) (by rfl) ae s U H Q I ⟨R,λv ak x y z=>{_,D,?_}⟩;rw[alG<|z.root (R.mono x y) R.aJ];show k ak x y
end
end a9.bD
namespace a9.bA
open PySem PySem.Spec PyProof.Rows
section
variable {prog:di}{w:cL}{A:dz}{E:ay->aL->Prop}{s:aL}
def ajR{i:Y}(hit:v3 s.Q it t i)(cE:nY s.Q t XZ)(ax:XZ[i]?=J x)
  (g7:∀h',v3 h' it t (i+1)->Vh it s.Q h'->Q x { s with heap:=h'}):ba (bg prog w) A (Lg (.ref it)) Q E s:=by
 let(o,aV,aN,hd):=id hit;let(ol,pS,_,nl,xp):=cE;delta Lg;show aU<|rJ (name:=YF "__next__") hit.typeIs BM<|mt BM hit.typeIs entry_tupleiter_next ?_<|args_tupleiter_next _;show ba _ _ (field (.ref it) 0 >>= _) _ _ s;show aU<|o2 aV hd (x:=.ref t) D ?_;show ba _ _ (if(Uu t==YC)=Y0 then _ else _) _ _ s;rw[Y3 (show ¬ ((Uu t==YC)=Y0) from mT)];show ba _ _ (field (.ref it) 1 >>= _) _ _ s;show aU<|o2 aV hd (x:=.int i 0) D ?_;show ba _ _ (seqItems? (.ref t) >>= _) _ _ s;show aU<|tH pS xp ?_;erw[nT,ax];show aU<|o1 aV hd Z6<|bG {x,D,bG<|g7 _ ?_<|KU ..};show{_,nS _ aV<|Obj.isFreed_of_fields<|Obj.data_mapFields hd _,(Obj.cls_mapFields ..).trans aN,by rw[Obj.data_mapFields hd];simp[fF]}
def ah3{i:Y}(bh:A.handled=C)(hit:v3 s.Q it t i)(cE:nY s.Q t XZ)(ax:XZ[i]?=C)
  (ua:∀h' e,Heap.ExtBut it s.Q h'->(∃o,h'.get? e=J o/\o.cls=.type "StopIteration")->E (.ref e) { s with heap:=h'}):ba (bg prog w) A (Lg (.ref it)) Q E s:=by
 let(o,aV,aN,hd):=id hit;let(ol,pS,_,nl,xp):=cE;delta Lg;show aU<|rJ (name:=YF "__next__") hit.typeIs BM<|mt BM hit.typeIs entry_tupleiter_next ?_<|args_tupleiter_next _;show ba _ _ (field (.ref it) 0 >>= _) _ _ s;show aU<|o2 aV hd (x:=.ref t) D ?_;show ba _ _ (if(Uu t==YC)=Y0 then _ else _) _ _ s;rw[Y3 (show ¬ ((Uu t==YC)=Y0) from mT)];show ba _ _ (field (.ref it) 1 >>= _) _ _ s;show aU<|o2 aV hd (x:=.int i 0) D ?_;show ba _ _ (seqItems? (.ref t) >>= _) _ _ s;show aU<|tH pS xp ?_;erw[nT,ax];show aU<|jt<|aU<|o1 aV hd Z6 ?_;show ba _ _ (newExc (.type "StopIteration") [] >>= _) _ _ _;show aU ?_;erw[newExc,newTuple];show aU (i1 ?_<|by size_fits);show aU (m:=BG _ _)<|vQ (a:=YC) (by first|rfl|(erw[BG];rfl)) ?_;show i1 ?_ (by size_fits);erw[raiseNew];show aU<|wpAny_handled ?_
 first|rw[show A.in1.handled=C from bh]|rw[bh]
 show aU<|bG<|wpAny_throw ?_;show ua _ _ (((KU ..).extBut.push _).push _) {_,fa _ D,D}
end
def draws(bh:A.handled=C)(it t:X7)(sE:t≠it)(XZ:Ye ay) :
  Draws prog w A it [it,t] XZ.O (λi v=>XZ[i]?=J v) (λi h=>v3 h it t i/\nY h t XZ) where
 live:=λ_ _ st=>let ⟨o,aV,_⟩:=st.1;{(o),aV}
 frame:=λ_ _ _ st aY=>{let ⟨o,aV,r⟩:=st.1;{o,aY it Z6 o aV,r},let ⟨o,aV,r⟩:=st.2;{o,aY t Z6 o aV,r}}
 item:=λi s Q E hi st g7=>ajR st.1 st.2 (x:=XZ[i]) (by simp[hi]) λh' afz mz=>g7 _ h' s.toks (by simp[hi]) {afz,st.2.extBut mz.extBut sE} mz
 done:=λs Q E st ua=>ah3 bh st.1 st.2 Z6 ua
def abO(t:X7)(XZ:Ye ay) :
  Meets (Builtin.«enumerate.__new__» {[.type "enumerate",.ref t],[]}) (λ_ R s=>nY s.Q t XZ /\
   R (.ok<|.ret<|.ref<|s.L+1) { s with heap:=(s.heap.push { cls:=.type "tuple_iterator",data:=.fields #[.ref t,.int 0 0]}).push { cls:=.type "enumerate",data:=.fields #[.none,.bool Y1,.ref s.L,fF 0,.none,.none]}}) :=
 .of_wp λprog w A R s h=>by
  let(aF,g,d,tk,os):=s;let(cE,h):=h;let Sg:=sub_enumerate;let gg:=cE;let(o,aV,aN,n,hd):=cE;let hz:(aF.push { cls:=.type "tuple_iterator",data:=.fields #[.ref t,.int 0 0]}).E.O=aF.E.O+1:=kQ ..;let(cls,aaC,data,c8):=o;let aN:cls=.type "tuple":=aN;let hd:data=.seq XZ n:=hd;subst aN hd;let IL:nY (Shared.heap {(aF),g,d,tk,os}) t XZ:=gg;rw[<-hz]at h
  wp_walk using AutoSeq1.wpAny_loadPart' aV
  show wpAny_stack_any λst=>bG ?_;split
  .rename_i c _ _ _ _ _;cases (c==YX "enumerate")
   .wp_walk using AutoSeq1.wpAny_loadPart' aV,iter_tuple IL
    show{_,D,h}
   .wp_walk using AutoSeq1.wpAny_loadPart' aV,iter_tuple IL
    show{_,D,h}
  .wp_walk using AutoSeq1.wpAny_loadPart' aV,iter_tuple IL
   show{_,D,h}
end a9.bA
section
namespace a9.bA
open PySem PySem.Spec PyProof.Rows
section
variable {prog:di}{w:cL}{A:dz}{E:ay->aL->Prop}{s:aL}
def amT(cE:nY s.Q t XZ)
  (h:∀h',IsEnum h' (s.L+1) s.L 0 .none->v3 h' s.L t 0->(∀b o,s.heap.get? b=J o->h'.get? b=J o)->Q (.ref<|s.L+1) { s with heap:=h'}):ba (bg prog w) A (call (.type "enumerate") [.ref t]) Q E s:=by
 show callType_new F.called_enumerate Z0 (F.typeCall_enumerate_1 _) (F.newCall_enumerate_1 _) (λobj=>F.args_object_init_2 obj _) F.entry_enumerate_new (abO t XZ) {cE,?_};let hz:(s.heap.push { cls:=.type "tuple_iterator",data:=.fields #[.ref t,.int 0 0]}).E.O=s.L+1:=kQ ..;let he:IsEnum ((s.heap.push { cls:=.type "tuple_iterator",data:=.fields #[.ref t,.int 0 0]}).push { cls:=.type "enumerate",data:=.fields #[.none,.bool Y1,.ref s.L,fF 0,.none,.none]}) (s.L+1) s.L 0 .none:=by let:=fa (s.heap.push { cls:=.type "tuple_iterator",data:=.fields #[.ref t,.int 0 0]}) (o:={ cls:=.type "enumerate",data:=.fields #[.none,.bool Y1,.ref s.L,fF 0,.none,.none]}) D;rw[hz]at this;show this
 show{{_,he,D},h _ he ⟨_,dG _<|fa _ D,D,D⟩ λb o x=>dG _<|dG _ x}
end
end a9.bA
namespace a9.bD
open PySem PySem.Spec PyProof.Rows
def _root_.a9.aO.ajS{X:bL}{ae:O Z2}{U:St}{H:aI}{s:aL}{h':Yg}{t':Y}{fp:O X7}(I:aO X ae U H s)(k:∀b o,b∉fp->s.heap.get? b=J o->h'.get? b=J o)(hf:∀b∈fp,oF X ae H b):aO X ae U H { s with heap:=h',toks:=t'}:=by
 let GR:∀b u,H b=J u->b∉fp:=λb u e z=>by rw[(hf b z).1]at e;ext e
 show I.step (g':=s.gens) (d':=s.drawn) (ch:=fp) (λb aq=>?_) (λb o _ _ aN e _=>k b o aN e) (λb o _ _ aN e _=>{o.slots,k b o aN e}) (λ_ _ _ _ n=>n)
  (λb o aN e=>{o,k b o aN e}) (λ_ _ e=>e) (λ_ _ _ e=>e) (λm hm=>?_) (λb u e=>?_) I.dE
 .let(_,f1,_,dW,f4,gT):=hf b aq;show{(dW),f1,f4,gT}
 .let(o,es,ep,aV,r):=hm;show{o,es,ep,k _ o (λz=>(hf _ z).2.1 D) aV,r}
 .show(I.bE b u e).j8 (λv q=>k b v (GR b u e) q) λ_ _ q=>q
noncomputable def OK(K:Yk)(a:X7)(m:Y):kj:={λi H=>∃xs x,eC K H a xs/\xs.H=m/\xs[i]?=J x,λi H x ak=>∃p v,H p=C/\x=.ref p/\ak=cO H p (.aE [.int i,v])/\∀aQ,eC K H a aQ->aQ[i]?=J v,λi H=>∃xs,eC K H a xs/\xs.H=m/\m<=i}
def abP{P:di}{w:cL}{K:Yk}{elts:O Yd}{x1}{tp:Yh}(a e it:X7)(m:Y)(IM:e≠it)(abQ:a≠e)(OL:a≠it) :
  Turn P w K (.Tuple elts x1 tp) (OK K a m) [e,it] e (λi h=>i<=m/\(∃old,IsEnum h e it (i:Y) old)/\v3 h it a i) where
 mem:=by simp
 obj:=λi h st b aq=>by
  let(_,(old,he),o,aV,aN,hd):=st;rcases ei.mp aq with rfl|aq
  .show⟨_,he,λv z=>by ext z⟩
  .let:=jP.mp aq;subst this;show⟨o,aV,λv z=>by rw[hd]at z;ext z⟩
 keep:=λi h h' st k=>by let(hi,(old,he),o,aV,r):=st;show{hi,{old,k e Z6 _ he},o,k it Z6 o aV,r}
 item:=by
  intro X ez hw ix aN i ae s U H E I hf st bQ;subst ez hw ix;let(xs,x,a8,aC,ax):=bQ;let(aX,bb,p,hz):=I.tuple a8;let(u,b1,eF):=bb.get ax;let(hi,(old,he),hit):=st;let dp:i<aX.D.O:=by let:=(bv.mp b1).1;simpa using this
  show wpAny_pyNext_enum_itemD (bA.draws (A:=X.A.in1) (show X.A.in1.handled=C from I.ok.hd aN) it a OL aX.D) he {(hit),p} dp IM (by simp[IM,abQ.symm]) λx2 h' tk ez aV mz gg hsz aY=>?_;let OA:x2=u:=by
   let ez:aX.D[i]?=J x2:=ez;rw[List.getElem?_toArray,b1]at ez
   ext ez
   rfl
  subst OA;show{_,D,wpAny_letOwnedTupleGo_enum aV λao lV iR=>?_};let iR:Vh e h' ao:=iR;let uD:H s.L=C:=I.bE.fresh<|b3 _;let elt:e<s.L:=d6 he;let OM:it<s.L:=by let(_,q,_):=hit;show d6 q
  let bf:aO X ae U (cO H s.L<|.aE [.int i,x]) { s with heap:=s.heap.push { cls:=.type "tuple",data:=.seq #[.int i tk,x2]},toks:=tk+1} :=
   I.laid (t':=tk+1) (λb o e=>dG _ e) (b3 _) {by show 2<=c3;decide,[.int i tk,x2],.cons {(tk),D}<|.cons eF .nil,lK.new _ _}
  let cI:=bf.ajS (fp:=[e,it]) (h':=ao) (t':=tk+1) (λb o aq q=>?_) λb aq=>?_
  .show{.ref s.L,_,cI,D,{s.L,x,uD,D,D,λaQ aP=>by rw[I.Uh aP a8];show ax},{?_,{x2,by simpa using lV},?_},λb aq=>?_}
   .let:=(bv.mp ax).1;show bF this<|dK aC
   .let(o,q,r):=mz.1;show{o,iR.extBut _ _ (Yw IM) q,r}
   .let bq:=(hf b aq).1;let nb:b≠s.L:=by
     rcases ei.mp aq with rfl|aq
     .show eE elt
     .let:=jP.mp aq;subst this;show eE OM
    rw[ea nb];show bq
  .let bT:b≠e:=λz=>aq (by simp[z]);let cb:b≠it:=λz=>aq (by simp[z]);by_cases z:b=s.L
   .subst z;rw[fa _ D]at q
    ext q
    show iR.extBut _ _ bT gg
   .let ee:s.heap.get? b=J o:=by let:=q;rw[yj _ _ _ z]at this;show this
    show iR.extBut _ _ bT<|aY b o bT cb ee
  .let(f0,f1,f2,dW,f4,gT):=hf b aq;let nb:b≠s.L:=by
    rcases ei.mp aq with rfl|aq
    .show eE elt
    .let:=jP.mp aq;subst this;show eE OM
   show{by rw[ea nb];show f0,f1,f2,dW,f4,gT}
 done:=by
  intro X ez hw ix aN i ae s U H E I hf st bQ;subst ez hw ix;let(xs,a8,aC,bQ):=bQ;let(aX,bb,p,hz):=I.tuple a8;let(hi,(old,he),hit):=st;let bq:i=aX.D.O:=by let:=bb.H;rw[eL];omega
  subst bq;let(f0,f1,f2,dW,f4,gT):=hf it Z6;show wpAny_pyNext_enum_endD (bA.draws (A:=X.A.in1) (show X.A.in1.handled=C from I.ok.hd aN) it a OL aX.D) he {(hit),p} λh' h8=>{D,I.turned (t':=s.toks) (λb o aq e=>h8 b o aq e) f0 f1 dW f4 gT}
 self:=λ_ _ _ _ _ st h=>let ⟨_,⟨_,he⟩,_⟩:=st;wpAny_pyIter_enum he h
section
variable {X:bL}{L:X7}
def alH{i:Y}(e:(pH xs)[i]?=J t):∃x,xs[i]?=J x/\t=.aE [.int i,x]:=by delta pH at e;rw[hN,List.getElem?_zipIdx,qbt]at e;let(x,ax,e):=Option.map_eq_some_iff.mp e;show{x,ax,?_};rw[<-e];show T.aE [.int ((0+i:Y):X6),x]=_;rw[tx]
def abR(xs:O T):(pH xs).H=xs.H:=by delta pH;rw[cj,Fc]
def ajT{K:Yk}{H:aI}{a:X7}{xs:O T}{aa:O V}(h:H a=J (.aE aa))(r:bJ L H xs aa):p5 L (OK K a xs.H) H<|pH xs:=λi=>by
 let aC:=r.H;show{λt e=>?_,λhi=>{aa,eC.of h,aC.symm,by rw[abR]at hi;show hi}};let(x,ax,rfl):=alH e;let(v,bX,bb):=r.get ax;show{{aa,v,eC.of h,aC.symm,bX},λx br y=>?_};let(p,u,aF,rfl,rfl,y):=y;let:=y aa<|eC.of h;rw[bX]at this
 ext this
 show{.new aF,λn aJ=>aJ.new aF,?_};rw[aH];show⟨p,_,D,eS,.cons (by rw[aH])<|.cons (aH.mono ?_ _ _ bb) .nil⟩;show λb=>{λws e=>by rw[ea<|qG e aF];show e,λo u e=>by rw[ea<|qG e aF];show e}
def ajU{elts:O Yd}{x1}{tp:Yh}{pos p:Yh}{a:Yd}{d:bK}(bx:bI X L a d)(hm:X.bj "enumerate" = C)(bQ:X9 (fI X "enumerate") bo)(aM:X9 (cc [a] X.I=(Y1,Ur a X.I)::cc [] X.I) bo)(iR:X9 ((fE pos<|cc [] X.I).any (·.1)=Y1) bo) :
  qY X L (.Tuple elts x1 tp) (.Call (.Name "enumerate" p) [a] [] pos) (Ht d):=by
 intro B S n aD n' hd ae s U H R I ⟨jz,k⟩;let((t0,m0,aW),aA,av):=b5 hd;have⟨xs,ef,q0,qp⟩:∃xs,t0=.aE xs/\aD=pH xs/\n'=aW:=by
  induction t0 using T.casesOn with
  |aE xs=>ext av;show{(xs),D,D,D}
  |_=>ext av
 subst ef q0 qp;let dt:mg X L [a]<|ag d aw:=Ng bx Tv aM;let a7:ag d aw S n=J ([.aE xs],n'):=by delta ag;rw[aA];rfl
 show Call_<|kZ I bQ hm boot_enumerate<|K4 (bZ (dt.run a7 pos I jz) λus s1 ⟨aa,H1,bf,bp,a1,bt,b0⟩=>?_) aM iR;let(v,rfl,r):=hL b0;let(u,rfl,eF):=bp.one;let(ad,fK,rfl,cf,cN):=jf r
 ext eF
 let(aX,bb,cE,hz):=bf.tuple<|eC.of (K:=X.K) cf;let dp:ad<s1.L:=by let(_,q,_):=cE;show d6 q
 show bA.amT cE λh' he hit aY=>?_;let cI:aO X ae U H1 { s1 with heap:=h'}:=bf.kept (t':=s1.toks) aY;show wpAny_pyIter_enum he ?_;show{s1.L+1,[s1.L+1,s1.L],_,_,H1,D,cI,abP ad (s1.L+1) s1.L xs.H (Nat.succ_ne_self _) (eE<|lu dp)<|eE dp,⟨f9 _,⟨_,he⟩,hit⟩,λb aq=>?_,k _ H1 a1 bt.aJ λbr bW eB x2=>ajT (x2.to ad _ cf<|bt.aJ.E1 cf)<|bJ.mono (x2.bU bt.aJ) _ _ cN};let aq:s1.L<=b:=by
  rcases ei.mp aq with rfl|aq
  .show hF _ _
  .let:=jP.mp aq;show dK this.symm
 show bf.ve aq<|bf.bE.fresh aq
end
end a9.bD
end
namespace a9.bD
open PySem PySem.Spec PyProof.Rows a9.Tm
def abS(n m:X6)(a b:O X6):ec (n::a) (m::b)=if n==m then ec a b else decide (n<m):=by rw[ec]
def kc(h:Yg)(v:ay)(l:O X6):Prop:=∃a o xs n,v=.ref a/\h.get? a=J o/\o.cls=.type "tuple" /\ o.e=.seq xs n/\gf xs.B l
def kc.eo(t:kc h v l):hg h v=l:=by
 let(a,o,xs,n,rfl,aV,aN,hd,hi):=t
 show(match h.get? a with
  |some o=>match o.e with
   |.seq xs _=>xs.toList.filterMap intOf?
   |_=>[]
  |none=>[])=l
 rw[aV]
 show(match o.e with
   |.seq xs _=>xs.toList.filterMap intOf?
   |_=>[])=l
 rw[hd];show Ik hi
def kc.mono(k:∀b o,h.get? b=J o->h'.get? b=J o)(t:kc h v l):kc h' v l:=by let(a,o,xs,n,r,aV,q):=t;show{a,o,xs,n,r,k a o aV,q}
theorem ON:∀{us:O ay} {l:O X6},gf us l->ItemsAre (gd prog w) l us
 |_,_,.nil=>.nil
 |_,_,.cons n t h=>.cons (show KX n (.int n t)=Y0 from by simp[KX])<|ON h
def kc.key(t:kc h (.ref a) l):vS (gd prog w) h l a:=by
 let(gV,o,xs,n,e,aV,aN,hd,hi):=t
 ext e
 show{o,xs,n,aV,aN,hd,ON hi}
section
variable {prog:di}{w:cL}{A:dz}{E:ay->aL->Prop}{s:aL}
def ajV{Q:Yc->aL->Prop}(b1:A.units<fh)(ax:kc s.Q x l)(aP:kc s.Q y k)(q:Q (decide (l=k)) s):ba Z7 A (eqBool x y) Q E s:=by let(a,o,xs,n,rfl,r):=id ax;let(b,cW,aQ,n',rfl,bY):=id aP;show wpAny_eqBool_tuple b1 ax.key aP.key q
def abT(ax:kc s.Q (.ref a) x)(aP:kc s.Q (.ref b) y)(h:P (.done<|.ret<|.bool<|ec x y) s) :
  ba Z7 A (Builtin.«tuple.__lt__» {[.ref a,.ref b],[]}) P E s:=by
 let abU:=(aP.key (prog:=prog) (w:=w)).typeIs;let(_,am9,xs,na,aA,abV,_,abW,abX):=ax
 ext aA
 let(_,b2,aQ,nb,av,nz,_,gz,abY):=aP
 ext av
 show ba _ _ (isInstance (.ref b) (.type "tuple") >>= _) _ _ s;show aU<|tE abU isSubtype_tuple_tuple ?_;erw[FG,iK,Ys];show aU<|FT abV abW ?_;show aU<|FT nz gz ?_;show aU ?_;show FZ _
  (λrest r s'=>r.1=C/\s'=s/\∃nc n4 ij z6,rest=List.zip ij z6/\gf ij nc/\gf z6 n4/\ec nc n4=ec x y/\(decide (ij.H<z6.H))=decide (xs.O<aQ.O))
  _ ?_ ?_ _ _ {D,D,x,y,xs.B,aQ.B,D,abX,abY,D,by simp}
 .rintro⟨u,v⟩ rest r s' ⟨hr,rfl,nc,n4,ij,z6,hz,eT,uM,rn,d5⟩;cases eT with
  |nil=>simp at hz
  |cons n t afA =>
   cases uM with
   |nil=>simp at hz
   |cons m t' afB =>
    erw[qbb,List.cons.injEq,Prod.mk.injEq]at hz;let((rfl,rfl),rfl):=hz;show aU<|FX ?_;rw[abS]at rn;by_cases aY:n=m
    .subst aY;rw[K2]at rn |-;erw[FG,iK,Ys];show bG {D,D,_,_,_,_,D,afA,afB,by simpa using rn,by simpa using d5}
    .let bH:(n==m)=Y1:=by simpa using aY
     rw[bH]at rn |-;erw[Bool.not_false,Yq];let rn:decide (n<m)=ec x y:=by simpa using rn
     show aU<|jt ?_;show aU<|wpAny_lt_int ?_;rw[rn];show bG<|bG h
 .rintro⟨bp,b8⟩ s' ⟨hr,rfl,nc,n4,ij,z6,hz,eT,uM,rn,d5⟩;simp only at hr;subst hr;show bG ?_;let afC:decide (xs.O<aQ.O)=ec x y:=by
   rw[<-rn,<-d5];cases eT with
   |nil =>
    cases uM with
    |nil=>rfl
    |cons _ _ _=>rfl
   |cons _ _ _ =>
    cases uM with
    |nil=>rfl
    |cons _ _ _=>simp at hz
  show P (.done<|.ret<|.bool<|decide (xs.O<aQ.O)) s';rw[afC];show h
def ajW(b1:A.units<fh)(ax:kc s.Q x l)(aP:kc s.Q y k)(q:Q (.bool<|ec l k) s):ba Z7 A (gJ .Lt x y) Q E s:=by
 let(a,o,xs,n,rfl,r):=id ax;let(b,cW,aQ,n',rfl,bY):=id aP;let ql:=(ax.key (prog:=prog) (w:=w)).typeIs;let ty:=(aP.key (prog:=prog) (w:=w)).typeIs;show wpAny_richCompare_same_room (op:=.Lt) ql ty F.slot_tuple_lt
  (mt F.slot_tuple_lt ql F.entry_tuple_lt (abT ax aP {_,D,(λe=>nomatch e),q})<|F.args_tuple_lt_2 _ _) b1
end
def IP(prog:di)(w:cL)(h:Yg)(aa:O ay)(rk:bV->Y):Prop :=
 2<=aa.H->∃κ,∀(A:dz) (E:ay->aL->Prop) (s:aL),A.units<fh->(∀b o,h.get? b=J o->s.heap.get? b=J o) ->
  ba Z7 A (keyKind' aa.D) (λk s'=>k=κ/\s'=s) E s/\mI prog w A E s κ (YG aa) rk
def IP.at(x:IP prog w h aa rk)(dt:A.units<fh):Di prog w A E h aa rk:=λao=>let ⟨κ,k⟩:=x ao;{κ,λs=>k A E s dt}
def abZ(eo:aa.map kf=ls)(p:xs.Perm<|YG aa)(Gy:fO (λx=>rank ls<|kf x.1) xs 0 aa.H) :
  (xs.map (·.2)).toList.Perm aa/\(xs.map (·.2)).toList.map kf=hn ls:=by
 let aC:xs.toList.Perm<|aa.zip aa:=by rw[<-Gb];show FA.mp p
 let cy:(xs.map (·.2)).toList.Perm aa:=by let:=aC.map (·.2);rw[qbi<|b3 _]at this;rw[Lq];show this
 show{cy,?_};let gN:=cy.map kf;rw[eo]at gN;show Hr gN ?_;let hsz:xs.O=aa.H:=by rw[p.size_eq,pairsOf_size]
 let lh:∀x,x∈xs->x.1∈aa/\x.2=x.1:=λx ax=>sD<|p.mem_iff.mp ax;rw[Bc];intro i j hi bO iD;let fD:i<xs.O:=by simpa using hi
 let mE:j<xs.O:=by simpa using bO
 let q:=Gy i j (f9 _) (ed iD)<|d0 mE<|dK hsz;rw[gI fD,gI mE]at q;let c9:=lh _<|ci fD;let fY:=lh _<|ci mE;let aA:((xs.map (·.2)).toList.map kf)[i]=kf xs[i].1:=by simp[c9.2]
 let av:((xs.map (·.2)).toList.map kf)[j]=kf xs[j].1:=by simp[fY.2]
 show ec _ _=Y1;rw[aA,av,<-zv (nss:=ls) (by rw[<-eo];show iJ fY.1)];simpa using q
def ab0{kf:ay->O X6}{mk:O X6->T}{us out:O ay}{ls:O Z1}(bb:cA aa us)(r:bJ L H (ls.map mk) aa)(eo:us.map kf=ls)(p:out.Perm us):∃ws,cA ws out/\bJ L H ((out.map kf).map mk) ws:=by
 let all:∀{ls:O Z1} {aa:O V} {us:O ay},cA aa us->bJ L H (ls.map mk) aa->us.map kf=ls->∀u∈us,∃v,cU v u/\aH L H (mk<|kf u) v:=by
  intro ls aa us bb
  induction bb generalizing ls with
  |nil=>intro _ _ u b1;simp at b1
  |cons bp b8 aT =>
   rename_i v u aa us;intro jA qu e7 b1;subst qu;rw[cD,cD]at jA;let(h6,w,e,dh,cy):=gH jA;cases e;rcases ei.mp b1 with rfl|b1
   .show{(v),bp,dh}
   .show aT cy D e7 b1
 let vh:=all bb r eo;show sv Z6 λi u e=>?_;let(v,aR,a4):=vh u<|p.mem_iff.mp<|Be e;show{v,mk<|kf u,aR,by simp[e],a4}
end a9.bD
namespace a9.bD
open PySem PySem.Spec PyProof.Rows
section
variable {X:bL}{L:X7}
def ab1{p q pos iX:Yh}{a:Yd}{dC:gh}(bh:X.A.handled=C)(bx:mg X L [a] dC)(ab2:X.bj "list" = C)(ab3:X.bj "range" = C)(IF:X9 (nV "list" = J (.type "list")) az11._auto_1)(ab4:X9 (nV "range" = J (.type "range")) az11._auto_1)(ab5:X9 (fI X "list") bo)(ab6:X9 (fI X "range") bo)
  (aM:X9 (cc [a] X.I=[(Y1,Ur a X.I)]) bo) (iR:X9 (cc [.Call (.Name "range" q) [a] [] iX] X.I=[(Y1,Ur (.Call (.Name "range" q) [a] [] iX) X.I)]) bo) :
  bI X L (.Call (.Name "list" p) [.Call (.Name "range" q) [a] [] iX] [] pos) (zx dC):=by
 intro B S n t m n' hd ae s U H Q I ⟨R,k⟩;let((xs,aW),aA,av):=dm hd;cases av;let((aD,bW),a7,bM):=b5 aA;obtain⟨j,rfl,qA,qs,rfl,rfl⟩:∃j:X6,aD=[.int j] /\ -(bl:X6)<=j/\j<=bl/\xs=h1 0 j/\aW=bW:=by
  dsimp only at bM;split at bM
  .rename_i j;split at bM
   .rename_i aq;cases bM;show{(j),D,aq.1,aq.2,D,D}
   .cases bM
  .cases bM
 show lz<|kZ I ab5 ab2 IF ?_ Z0 Z0;show K4 (i0 ?_) iR D;show lz<|kZ I ab6 ab3 ab4 ?_ Z0 Z0;show K4 (bZ (bx.run a7 iX I R) λus s1 ⟨aa,H1,bf,bp,a1,bt,b0⟩=>?_) aM D;let dB:bl=1000000:=rfl;let(v,rfl,r):=hL b0;let(u,rfl,eF):=bp.one;let r:aH L H1 (.int j) v:=r;rw[aH]at r;subst r;let(tok,rfl):=eF;show call_range_1<|ly ?_;let cI:aO X ae U H1 { s1 with heap:=s1.heap.push { cls:=.type "range",data:=.fields #[.int 0 s1.toks,.int j tok,.int 1<|s1.toks+1]},toks:=s1.toks+1+1}:=bf.kept λb o e=>dG _ e;let bq:Builtin.Range.rangeSize 0 j 1=((j.M:Y):X6):=by rw[rangeSize_one];split<;>omega
 show call_list_range bh (IsRange.new ..) (small_one Z0 Z0 (iv Z0 qA)<|oY qs Z0) bq (by omega) λh' tk Fa c bP fc hi=>?_;let(ws,fs,gC):=sv (L:=L) (H:=H1) (xs:=h1 0 j) (us:=Fa.B) (by rw[fP,hi.1];simp[h1]) λi w e=>by
  let(t0,eA):=hi.2 i w (by rw[<-js];show e);let dp:i<j.M:=by let:=(bv.mp e).1;rw[fP,hi.1]at this;show this
  show{.int<|0+(i:X6),.int<|0+(i:X6),{t0,by rw[eA];simp},?_,by rw[aH]};delta h1;rw[hN,List.getElem?_range<|by omega];rfl
 let hf:=cI.bE.fresh<|b3 _;let d1:=cI.laid (a:=(s1.heap.push { cls:=.type "range",data:=.fields #[.int 0 s1.toks,.int j tok,.int 1<|s1.toks+1]}).E.O) (o:=.aj ws) (t':=tk) (h':=h') bP (b3 _) {by rw[fs.H,fP,hi.1,kR];omega,Fa.B,c,fs,by simpa using fc};show{.ref (s1.heap.push { cls:=.type "range",data:=.fields #[.int 0 s1.toks,.int j tok,.int 1<|s1.toks+1]}).E.O,_,d1,D,k _ _ (a1.trans<|.new hf) (bt.aJ.new hf)<|Val.back a1 bt.aJ {_,D,hf,_,eS,bJ.mono (.new hf) _ _ gC}}
end
end a9.bD
namespace a9.bD
open PySem PySem.Spec
def iP(h h':Yg):Prop:=∀(b:Y) (o:Yp),h.E[b]?=J o->∃cW:Yp,h'.E[b]?=J cW/\cW.dict=o.dict
def iP.refl(h:Yg):iP h h:=λ_ o e=>{(o),e,D}
theorem iP.trans(a:iP h af)(b:iP af ao):iP h ao:=λx o e=>by let(fu,aA,fy):=a x o e;let(hB,av,g9):=b x fu aA;show{hB,av,g9.trans fy}
theorem iP.push(h:Yg)(o:Yp):iP h<|h.push o:=λb p e=>by let(objs,l):=h;show{p,?_,D};show(objs.push o)[b]?=_;let aq:b<objs.O:=(Array.getElem?_eq_some_iff.mp e).1;rw[Array.getElem?_push_lt aq];show(rH aq).symm.trans e
theorem iP.update(h:Yg)(a:X7)(f:Yp->Yp)(hf:∀o,(f o).dict=o.dict):iP h<|h.update a f:=λb p e=>by
 let(objs,l):=h;show ∃cW,(objs.modify a f)[b]?=J cW/\_;rw[Array.getElem?_modify];let e:objs[b]?=J p:=e;rw[e];by_cases z:a=b
 .rw[Y2 z];show{f p,D,hf p}
 .rw[Y3 z];show{(p),D,D}
theorem iP.get(x:iP h h')(e:h.get? b=J o)(bH:h'.get? b=J cW):cW.dict=o.dict:=by let q:=(qbp.mp e).1;let ee:=(qbp.mp bH).1;let(hB,av,d):=x b o q;let av:h'.E[b]?=J hB:=av;rw[ee]at av;ext av;show d
def c6{α:Type}:Sem α->Prop
 |.pure _=>True
 |.raise _=>True
 |.unsupported _=>True
 |.finish _=>True
 |.rule _ k=>c6<|k ()
 |.at _ k=>c6<|k ()
 |.load _ _ k=>∀o,c6<|k o
 |.update _ _ f k=>(∀o,(f o).dict=o.dict)/\c6 (k ())
 |.alloc _ k=>∀a,c6<|k a
 |.loadIfAlive _ k=>∀o,c6<|k o
 |.point _ k=>c6<|k ()
 |.register _ _=>True
 |.fresh k=>∀t,c6<|k t
 |.ask k=>∀t,c6<|k t
 |.choose _ _ k=>∀t,c6<|k t
 |.stack k=>∀l,c6<|k l
 |.handled _ k=>∀l,c6<|k l
 |.thread k=>∀l,c6<|k l
 |_=>Ym
theorem c6.l4{α:Type}:∀{t:Sem α},c6 t->∀{Q:α->Yh->aL->Prop} {E:ay->Yh->aL->Prop} {p:Yh} {s:aL},Sem.wp M Γ t Q E p s ->
  ∀{h0:Yg},iP h0 s.Q->Sem.wp M Γ t (λa p s'=>Q a p s'/\iP h0 s'.Q) (λe p s'=>E e p s'/\iP h0 s'.Q) p s
 |.pure _,_,_,_,_,_,h,_,x=>{(h),x}
 |.raise _,_,_,_,_,_,h,_,x=>{(h),x}
 |.unsupported _,_,_,_,_,_,h,_,_=>h
 |.finish _,_,_,_,_,_,h,_,_=>h
 |.rule _ k,m,_,_,_,_,h,_,x=>c6.l4 (t:=k ()) m h x
 |.at _ k,m,_,_,_,_,h,_,x=>c6.l4 (t:=k ()) m h x
 |.load _ _ k,m,_,_,_,_,h,_,x=>let ⟨o,q,h⟩:=h;{o,q,c6.l4 (t:=k o) (m o) h x}
 |.update a _ f k,m,_,_,_,_,h,_,x=>{h.1,c6.l4 (t:=k ()) m.2 h.2<|x.trans<|iP.update _ a f m.1}
 |.alloc o k,m,_,_,_,_,h,_,x=>c6.l4 (t:=k _) (m _) h<|x.trans<|iP.push _ o
 |.loadIfAlive _ k,m,_,_,_,_,h,_,x=>c6.l4 (t:=k _) (m _) h x
 |.point _ k,m,_,_,_,_,h,_,x=>c6.l4 (t:=k ()) m h x
 |.register _ _,_,_,_,_,_,h,_,_=>h
 |.fresh k,m,_,_,_,_,h,_,x=>c6.l4 (t:=k _) (m _) h x
 |.ask k,m,_,_,_,_,h,_,x=>c6.l4 (t:=k _) (m _) h x
 |.choose _ _ k,m,_,_,_,_,h,_,x=>{h.1,c6.l4 (t:=k _) (m _) h.2 x}
 |.stack k,m,_,_,_,_,h,_,x=>c6.l4 (t:=k _) (m _) h x
 |.handled _ k,m,_,_,_,_,h,_,x=>c6.l4 (t:=k _) (m _) h x
 |.thread k,m,_,_,_,_,h,_,x=>c6.l4 (t:=k _) (m _) h x
 |.os ..,m,_,_,_,_,_,_,_=>m.elim
 |.call ..,m,_,_,_,_,_,_,_=>m.elim
 |.newGen ..,m,_,_,_,_,_,_,_=>m.elim
 |.genState ..,m,_,_,_,_,_,_,_=>m.elim
 |.resume ..,m,_,_,_,_,_,_,_=>m.elim
 |.yield ..,m,_,_,_,_,_,_,_=>m.elim
 |.fork ..,m,_,_,_,_,_,_,_=>m.elim
 |.await ..,m,_,_,_,_,_,_,_=>m.elim
def c6.any{α:Type}{M:Model}{t:Sem α}(m:c6 t){Q:α->aL->Prop}(h:ba M A t Q E s):ba M A t (λa s'=>Q a s'/\iP s.Q s'.Q) (λe s'=>E e s'/\iP s.Q s'.Q) s :=
 λΓ p i=>m.l4 (h Γ p i)<|iP.refl _
theorem c6.bind{α β:Type}:∀{t:Sem α} {k:α->Sem β},c6 t->(∀a,c6<|k a)->c6 (t >>= k)
 |.pure a,_,_,h=>h a
 |.raise _,_,_,_=>trivial
 |.unsupported _,_,_,_=>trivial
 |.finish _,_,_,_=>trivial
 |.rule _ k,_,m,h=>c6.bind (t:=k ()) m h
 |.at _ k,_,m,h=>c6.bind (t:=k ()) m h
 |.load _ _ k,_,m,h=>λo=>c6.bind (t:=k o) (m o) h
 |.update _ _ f k,_,m,h=>{m.1,c6.bind (t:=k ()) m.2 h}
 |.alloc _ k,_,m,h=>λo=>c6.bind (t:=k o) (m o) h
 |.loadIfAlive _ k,_,m,h=>λo=>c6.bind (t:=k o) (m o) h
 |.point _ k,_,m,h=>c6.bind (t:=k ()) m h
 |.register _ _,_,_,_=>trivial
 |.fresh k,_,m,h=>λo=>c6.bind (t:=k o) (m o) h
 |.ask k,_,m,h=>λo=>c6.bind (t:=k o) (m o) h
 |.choose _ _ k,_,m,h=>λo=>c6.bind (t:=k o) (m o) h
 |.stack k,_,m,h=>λo=>c6.bind (t:=k o) (m o) h
 |.handled _ k,_,m,h=>λo=>c6.bind (t:=k o) (m o) h
 |.thread k,_,m,h=>λo=>c6.bind (t:=k o) (m o) h
 |.os ..,_,m,_=>m.elim
 |.call ..,_,m,_=>m.elim
 |.newGen ..,_,m,_=>m.elim
 |.genState ..,_,m,_=>m.elim
 |.resume ..,_,m,_=>m.elim
 |.yield ..,_,m,_=>m.elim
 |.fork ..,_,m,_=>m.elim
 |.await ..,_,m,_=>m.elim
def jj{α:Type}{a:α}:c6 (pure a:Sem α):=trivial
def pV{α:Type}:c6 (unsupported x:Sem α):=trivial
def IQ:c6<|load a:=λ_=>trivial
def IS:c6 stack:=λ_=>trivial
def Du{i:Y}:c6<|field v i:=by
 delta field fieldsOf;show c6.bind ?_ λl=>?_
 .ext v<;>first|show pV|show c6.bind IQ λo=>?_
  cases o.e<;>first|show pV|show jj
 .cases l[i]?<;>first|show pV|show jj
def IT{i:Y}:c6<|yv v i x:=by
 delta yv
 ext v<;>first|show pV|skip
 rename_i a;show c6 (updateField a i x);delta updateField;show c6.bind IQ λo=>?_;cases o.e<;>first|show pV|skip
 rename_i aa;show c6 (if i<aa.O then _ else _);by_cases z:i<aa.O
 .rw[Y2 z];show{λo=>by let(_,_,d,_):=o;ext d<;>rfl,trivial}
 .rw[Y3 z];show pV
theorem OP:∀l:O Env,c6 (readyFrames l)
 |[]=>jj
 |env::r=>by
  delta readyFrames;cases env.frame with
  |none=>show pV
  |some f =>
   show c6.bind IQ λo=>?_;by_cases z:((o.slots.getD 3 C).isSome)=Y0
   .rw[Y2 z];show jj
   .rw[Y3 z];show c6.bind ?_ λb=>c6.bind ?_ λc=>c6.bind {λo=>D,trivial} λ_=>OP r
    .delta behindIsImport;by_cases cT:(env.Y.kind != ScopeKind.module||r.isEmpty)=Y0
     .erw[cT,Yq];show jj
     .erw[cT];by_cases da:(env.code==YC)=Y0
      .erw[da,Yq];show jj
      .erw[da];show c6.bind Du λ_=>jj
    .cases r with
     |nil =>
      erw[keptBack];by_cases cT:(env.Y.isGenerator||env.Y.isCoroutine)=Y0
      .erw[cT,Yq];show jj
      .erw[cT];show c6.bind ?_ λ_=>jj;delta underTheClaimsCaller;show c6.bind IS λ_=>jj
     |cons _ _=>show jj
def ab7:c6<|frameOf env:=by
 delta frameOf frameEnvs;show c6.bind (c6.bind IS λ_=>jj) λl=>c6.bind ?_ λo=>?_
 .generalize List.dropWhile _ l=q;cases q with
  |nil=>show jj
  |cons a b=>show c6.bind (OP _) λ_=>jj
 .ext o<;>first|show pV|show jj
def IU:c6<|setFlight v f:=by
 delta setFlight;show c6.bind Du λx=>?_;by_cases z:(x != YC)=Y0
 .rw[Y2 z];show IT
 .rw[Y3 z];show jj
def ab8:c6<|EntryCells.newEntry a b c d e l:=by
 delta EntryCells.newEntry newFields newObj;dsimp only;by_cases z:([a,b,c,d,e]++if l.isEmpty=Y0 then Yj 6 YC else l).D.O>c3+2
 .erw[z,Yq];show pV
 .erw[z,Ys];delta newObjAsIs;show λ_=>jj
def OQ:c6<|noteFrame v env:=by
 delta noteFrame;cases env.frame with
 |none=>show pV
 |some f =>
  let tail:∀x:ay,c6 (do let fr<-frameOf env;let cm<-entryPlaceOf f (x != .none);let b<-EntryCells.newEntry x fr .none (fF f) .none cm;yv v 1 b):=λx=>by show c6.bind ab7 λfr=>c6.bind ?_ λcm=>c6.bind ab8 λb=>IT;delta entryPlaceOf;show c6.bind IS λanJ=>?_;split<;>show jj
  show c6.bind Du λx=>?_;by_cases z:(x != YC)=Y0
  .erw[z,Yq];show c6.bind Du λy=>?_;split
   .show jj
   .let:=tail x;rw[z]at this;show c6.bind IT λ_=>this
  .let:=tail x;erw[z]at this |-;show this
def OR:c6<|leaving env v:=c6.bind OQ λ_=>IU
end a9.bD
namespace a9.bD
open PySem PySem.Spec PyProof.Rows
section
variable {P:di}{w:cL}{H ak kY:aI}{h h' aN B:Yg}{a:X7}{o:h4}{cq:O X7}
def has_obj(x:fN P w H h a o):∃b2,h.get? a=J b2:=by
 induction o using a9.h4.casesOn with
 |aj xs=>let(_,_,_,_,e):=x;show{_,e}
 |wO xs=>let(_,_,_,_,e):=x;show{_,e}
 |aE xs=>let(_,_,_,b2,e,_):=x;show{_,e}
 |aS au=>let(_,_,_,_,b2,_,_,e,_):=x;show{_,e}
 |hG ks=>let(_,_,_,_,b2,_,_,e,_):=x;show{_,e}
 |set cZ n=>let(b2,_,_,_,e,_):=x;show{_,e}
 |ia lo hi=>let(_,_,_,e):=x;show{_,e}
 |d3 b2 u=>let(e,_):=x;show{_,e}
 |ext φ=>let(_,e,_):=x;show e
def Kept(cq:O X7)(aN:Yg)(ak:aI)(h B:Yg):Prop:=∀b o,h.get? b=J o->b∉cq->(ak b≠C\/aN.get? b≠C)->B.get? b=J o
def KC(u:fq cq [] kY ak aN h)(bE:eY P w ak h)(bP:Kept cq aN ak h B)(st:B.StaysIn h')(up:h.UpToSlots h')(hf:∀b∈cq,ak b=C/\∀o,h.get? b=J o->∀aa,o.e≠.fields aa) :
  fq cq [] kY ak aN h'/\eY P w ak h'/\Kept cq aN ak h' B:=by
 let lH:∀b u,ak b=J u->∃b2,h.get? b=J b2/\h'.get? b=J b2/\B.get? b=J b2:=λb u e=>by let(b2,q):=has_obj<|bE b u e;let a4:=bP b b2 q (λz=>by rw[(hf b z).1]at e;ext e) (.inl<|by rw[e];simp);show{b2,q,st b b2 a4,a4}
 show{{λb o q n aq ax=>?_,λb o q n aq ax=>?_,λb o q n ax=>u.free b o q n ax,λb o q ax=>?_,u.nF,u.l2},λc v e=>?_,λb o q aq bh=>?_}
 .show st b o<|bP b o (u.keep b o q n aq ax) aq (.inr<|by rw[q];simp)
 .let(c8,e):=u.slot b o q n aq ax;let(Cj,bH):=up b _ e<|(hf b aq).2 _ e;show{(Cj),bH}
 .let(cW,e):=u.there b o q ax;by_cases aq:b∈cq
  .let(Cj,bH):=up b _ e<|(hf b aq).2 _ e;show{_,bH}
  .show{cW,st b cW<|bP b cW e aq (.inr<|by rw[q];simp)}
 .show(bE c v e).j8 (λx ax=>?_) λ_ _ z=>z;let(b2,aR,a4,_):=lH c v e;rw[aR]at ax;ext ax;show a4
 .rcases bh with bh|bh
  .cases e:ak b with
   |none=>show Yi e bh
   |some y =>
    let(b2,aR,a4,cQ):=lH b y e;rw[a4]at q;ext q;show cQ
  .cases e:aN.get? b with
   |none=>show Yi e bh
   |some y =>
    let(cW,bH):=u.there b y e Z6;let a4:=bP b cW bH aq<|.inr bh;rw[st b cW a4]at q;ext q;show a4
def fq.same:fq cq [] H H h h:=fq.refl
end
def nA(P:di)(w:cL):n8:=λcP H s E e s'=>∃(a bc:X7) (ak:aI) (B:Yg) (t:X7),e=.ref a/\s'.os=s.os/\nX s'.gens/\fq (hb cP) [] H ak s.Q s'.Q/\eY P w ak s'.Q /\
 K5 B cP a (.ref bc) (.ref t) s'.Q/\Kept (hb cP) s.Q ak s'.Q B/\(∀o,s'.heap.get? a=J o->o.dict=C)/\E (.ref bc) C ak
def Exc(cM:Yc)(X:bL)(ae:O Z2)(ak:aI)(s:aL)(e bc:X7):Prop:=∃(U:St) (kY:aI) (sc:aL) (h:Yg),aO X ae U kY sc/\s.os=sc.os/\nX s.gens/\fq (hb X.stack) [] kY ak sc.Q h/\eY X.R X.w ak h /\
 ((h=s.Q/\∃B t,K5 B X.stack e (.ref bc) (.ref t) h/\Kept (hb X.stack) sc.Q ak h B/\∀o,h.get? e=J o->o.dict=C)\/(cM=Y1/\∃aa,Heap.MadeExcOf h s.Q e (.ref bc) aa))
def Exc.weak{cM:Yc}(x:Exc Y0 X ae ak s e bc):Exc cM X ae ak s e bc:=by
 let(U,kY,sc,h,a1,a2,jY,B3,B4,GC):=x;show{U,kY,sc,h,a1,a2,jY,B3,B4,?_};rcases GC with GC|⟨z,_⟩
 .show .inl GC
 .ext z
section
variable {X:bL}{ae:O Z2}{U:St}{H ak:aI}{s:aL}{h:Yg}
def IV(I:aO X ae U H s)(u:fq (hb X.stack) [] H ak s.Q h):∀b∈hb X.stack,ak b=C/\∀o,h.get? b=J o->∀aa,o.e≠.fields aa:=λb aq=>by let(_,o,aV,hd):=I.stack.mem aq;show{u.free b o aV (I.E3 b aq) Z6,λcW e aa q=>?_};let(c8,bH):=u.slot b o aV (I.E3 b aq) aq Z6;rw[bH]at e;ext e;show hd aa q
def alI(pw:X.stack=X.I::cP)(z7:X.cP=cP)(hex:X.ex=[])(hf:X.I.frame=J X.I.locals)(x:Exc Y1 X ae ak s e bc)(ua:E (.ref bc) C ak) :
  ba Z3 X.A (leaving X.I<|.ref e) (λ_ kA=>nA X.R X.w cP X.du X.cH E (.ref e) kA) (λbH kA=>nA X.R X.w cP X.du X.cH E bH kA) s:=by
 let(U,kY,sc,h,I,os,dE,u,bE,bh):=x;let fr:X.A.frames=J (X.I::cP):=by rw[<-pw];show I.ok.frames
 let pj:=IV I u;let fin:∀(B:Yg) (t:X7) (h':Yg),Kept (hb X.stack) sc.Q ak h B->h.UpToSlots h'->K5 B cP e (.ref bc) (.ref t) h'->(∀o,h'.get? e=J o->o.dict=C)->nA X.R X.w cP X.du X.cH E (.ref e) { s with heap:=h'}:=λB t h' bP up cM ml=>by
  let(gw,xQ,jg):=KC u bE bP cM.1 up pj;let cI:aO X ae U ak { s with heap:=h'}:=I.EI (s':={ s with heap:=h'}) os gw xQ dE λb z=>Yi z Z6;let pq:=cI.d;rw[hex,show X.cq=hb cP by rw[<-z7]]at pq;show{e,bc,ak,B,t,D,cI.os,dE,pq,xQ,cM,λb o q aq bh=>?_,ml,ua};let pd:b∉hb X.stack:=λz=>by
   rw[pw]at z;let z:b∈(X.I::cP).filterMap (·.frame):=z;rw[tl,hf]at z;rcases ei.mp z with rfl|z
   .rcases bh with bh|bh
    .show bh cI.free
    .cases aA:X.cH.heap.get? X.I.locals with
     |none=>show bh aA
     |some y=>show Yi (d0 (d6 aA) cI.ok.above)<|nR _
   .show aq z
  show jg b o q pd (bh.imp id λbh z=>?_);cases aA:X.cH.heap.get? b with
  |none=>show bh aA
  |some y =>
   let(cW,av):=I.base.there b y aA (by rw[hex];simp);rw[z]at av;ext av
 rcases bh with⟨rfl,B,t,cM,bP,ml⟩|⟨_,aa,mk⟩
 .rw[pw]at cM;let(b2,nz,_):=cM.there;show g5 (OR.any (wpAny_leaves_onW (Q:=λ_ kA=>∃h',kA={ s with heap:=h'}/\K5 B cP e (.ref bc) (.ref t) h'/\s.heap.UpToSlots h') (E:=λ_ _=>Ym) fr hf cM λh' f2 up=>⟨h',rfl,f2,up⟩)) (λ_ kA ⟨⟨h',aR,f2,up⟩,hd⟩=>?_) λ_ _ z=>z.1.elim;subst aR;show fin B t h' bP up f2 λo q=>(hd.get nz q).trans (ml b2 nz)
 .let bf:aO X ae U ak { sc with heap:=h}:=I.EI (s':={ sc with heap:=h}) rfl u bE I.dE λb z=>Yi z Z6;let lW:∀env∈X.stack,∀b,env.frame=J b->b∈hb X.stack:=λenv he b aq=>Fb.mpr {(env),he,aq};let GD:Heap.FunFrames h (W.hideAll h<|hb X.stack)<|X.I::cP:=by let z:=W.funFrames_hide (as:=hb X.stack) bf.stack lW;generalize hb X.stack=q at z |-;rw[pw]at z;show z
  let(_,nz,_):=mk.there;show g5 (OR.any (wpAny_leaves_madeW (Q:=λ_ kA=>∃h' t,kA={ s with heap:=h'}/\K5 (W.hideAll h<|hb X.stack) cP e (.ref bc) (.ref t) h'/\s.heap.UpToSlots h') (E:=λ_ _=>Ym) fr hf (λb o q=>W.of_hideAll _ q) GD mk λh' t f1 _ _ up=>⟨h',t,rfl,f1,up⟩)) (λ_ kA ⟨⟨h',t,aR,f1,up⟩,hd⟩=>?_) λ_ _ z=>z.1.elim;subst aR;show fin _ t h' (λb o q aq _=>W.hideAll_get _ q aq) ((Heap.UpToSlots.of_keeps mk.keeps).trans up) f1 λo q=>hd.get nz q
end
def ub(cM:Yc)(X:bL)(B:aI)(L:X7)(S:bA)(n:Y)(c n':Y)(U:St)(H:aI):Prop:=df X.K B L S n U H /\
 ∀ae e bc ak s',Exc cM X ae ak s' e bc->eu H ak->dc L B ak->cR L n' ak->X.bj (qV c)=J (.ref bc)->X.cu (.ref e) s'
def wF(cM:Yc)(X:bL)(L:X7)(e:Yd)(d:gi):Prop:=∀B S n c n',d S n=J (c,n')->dH X e (λU H _=>ub cM X B L S n c n' U H)
def qD(cM:Yc)(X:bL)(L:X7)(st:Yf)(d:gi):Prop:=∀B S n c n',d S n=J (c,n')->jX X st (λ_ U H=>ub cM X B L S n c n' U H)
def lY(cM:Yc)(X:bL)(L:X7)(st:O Yf)(d:gi):Prop:=∀B S n c n',d S n=J (c,n')->jZ X st (λ_ U H=>ub cM X B L S n c n' U H)
section
variable {cM:Yc}{X:bL}{L:X7}
def ub.step{n aW c n':Y}(h:ub cM X B L S n c n' U H)(x:eu H ak)(R:df X.K B L S' aW U' ak):ub cM X B L S' aW c n' U' ak :=
 {R,λae e bc br s' a b=>h.2 ae e bc br s' a<|x.trans b}
def gj.lift{st:Yf}{d:bw}(h:gj X.nj L st d):gj X L st d:=λB S n f S' n' hd ae s U H Lk I hw =>
 g5 (h B S n f S' n' hd ae s U H Lk (I.nG _) hw) (λ_ _ q=>q.p9) λ_ _ z=>Yz z
def agr{st:Yf}:qD cM X L st j3:=λB S n c n' hd=>by ext hd
def ah4{st:O Yf}:lY cM X L st j3:=λB S n c n' hd=>by ext hd
def OS{st:Yf}{d:gi}(h:qD cM X L st d):lY cM X L [st] d:=λB S n c n' hd=>GW<|h B S n c n' hd
def alJ{st:Yf}{qI:O Yf}{cN xr:gi}{a:bw}(af:qD cM X L st cN)(ao:gj X L st a)(a6:lY cM X L qI xr):lY cM X L (st::qI)<|iV cN a xr:=by
 intro B S n c n' hd ae s U H Lk I hw;delta iV at hd;cases e:cN S n with
 |some r =>
  rw[e]at hd;cases hd;show pD (af B S n c n' e) Cm ae s U H Lk I hw
 |none =>
  rw[e]at hd;let((f,S1,aW),aA,av):=b5 hd;cases f with
  |bS=>show pD (ao B S n .bS S1 aW aA) (a6 B S1 aW c n' av) ae s U H Lk I {hw.1,λU' ak x y=>hw.step x y}
  |_=>ext av
def ags{c:Yd}{a b:O Yf}{fZ:eX}{cN eN:gi}{pos:Yh}(aN:ST X L c fZ)(bx:lY cM X L a cN)(aq:lY cM X L b eN):qD cM X L (.If c a b pos)<|lR fZ cN eN:=by
 intro B S n B5 n' hd ae s U H Lk I hw;let((x,aW),aA,av):=b5 hd;show wpAny_If (bZ (aN.run aA I hw.1) λy s1 ⟨hx,H1,bf,a1,bt⟩=>?_);subst hx;cases y with
 |true=>show bx B S aW B5 n' av ae s1 U H1 Lk bf<|hw.step (a1.bU hw.1.aJ) bt
 |false=>show aq B S aW B5 n' av ae s1 U H1 Lk bf<|hw.step (a1.bU hw.1.aJ) bt
def ajX{e:Yd}{d:gi}{pos:Yh}(h:wF cM X L e d)(aM:X9 (nW e C pos.line X.I=pure Y1) bo):qD cM X L (.Expr e pos) d:=λB S n c n' hd=>uo (h B S n c n' hd) aM
def ah5{e:Yd}{d:gi}{pos:Yh}(h:wF cM X L e d):qD cM X L (.Return (J e) pos) d:=λB S n c n' hd=>GX<|h B S n c n' hd
def z8(bj:Ya->X8 ay)(K:Yk)(L:X7)(e4:Y)(f:lP):kX:=λaa H _ E=>aa.H=e4/\∃aD n c n',Args K L H aD aa/\cR L n H/\f aD n=J (c,n') /\
 ∀bc ak,bj (qV c)=J (.ref bc)->dc L H ak->cR L n' ak->E (.ref bc) C ak
def ah6{P:di}{w:cL}{K:Yk}{bj:Ya->X8 ay}{base:Yg}{x qual:Ya}{st:Yf}{f:X7}{fd:i2}{N ps:O Ya}{lv:Y}{eN:gi}(F:qN K x qual st f fd)(cZ:mM N ps<|e2 st)
  (lk:∀(dw:ay) (A:dz) (cP:O Env) (s:aL) (H:aI) (E:h7),fb lv (A.deeper<|jv qual (e2 st) s.L f dw)->lY Y1 (ka (nA P w) P w K bj base N qual (e2 st) f dw A cP s H E) L (iB st) eN) :
  j9 P w K bj base (nA P w) (lv+1) f fd ps (z8 bj K L ps.H<|fnX N.H eN):=by
 let(jw,hS,eH,doc,pm,an,dw,eI,qJ,rfl,kl,f3):=F.ex;show SE kl f3 cZ (λaa H Q E h=>h.1) λA cP s H aa Q E hr h=>?_;let(aC,aD,n,c,n',a,aJ,e,k):=h;show{_,lk dw A cP s H E hr H _ n c n' e,Nq a aJ,λae cf bc ak s' x _ x2 cY x4=>?_};show alI (X:=ka (nA P w) P w K bj base N qual (e2 st) f dw A cP s H E) D D D D x<|k bc ak x4 x2 cY
def x_run{f:lP}{lv:Y}{e8:X7}{fd:i2}{ps:O Ya}{e4 c aW n':Y}{aD:O<|T×Yc}{ae:O Z2}{U:St}{H1:aI}{s1:aL}{us:O ay}{aa:O V}{Q:ay->aL->Prop}(F:j9 X.R X.w X.K X.bj X.d (nA X.R X.w) lv e8 fd ps<|z8 X.bj X.K L e4 f)(hr:fb lv X.A)(aq:Binds X.K fd ps [])
  (bf:aO X ae U H1 s1) (r:cA aa us) (dI:cR L aW H1) (cT:Args X.K L H1 aD aa) (aC:aD.H=e4) (av:f aD aW=J (c,n')) (k:∀e bc ak s',Exc Y0 X ae ak s' e bc->dc L H1 ak->cR L n' ak->X.bj (qV c)=J (.ref bc)->X.cu (.ref e) s') :
  ba Z3 X.A (call (.ref e8) us) Q X.cu s1:=by
 let n9:z8 X.bj X.K L e4 f aa H1 (λ_ _=>Ym) (λcl _ ak=>∃bc,cl=.ref bc/\X.bj (qV c)=J (.ref bc)/\dc L H1 ak/\cR L n' ak):={cT.H▸aC,aD,aW,c,n',cT,dI,av,λbc ak aR a4 cQ=>{(bc),D,aR,a4,cQ}}
 let d5:us.H=ps.H:=by rw[<-r.H];show F.len _ _ _ _ n9
 let mF:=aq s1 us bf.ib (by simpa using d5);rw[rC]at mF;show yt (rK (F.run X.A X.stack s1 H1 {us,[]} us aa _ _ hr bf.Kf mF r n9) λiw s' a8=>?_);cases iw with
 |error ev =>
  let(cf,bc,br,B6,t,rfl,os,dE,u,bE,ab9,bP,ml,ana,aR,a4,cQ,fQ):=a8
  ext aR
  show k cf bc br s' {U,H1,s1,s'.Q,bf,os,dE,u,bE,.inl {(D),B6,t,ab9,bP,ml}} cQ fQ a4
 |ok Dv =>
  cases Dv with
  |ret u=>let(_,_,_,_,_,_,_,q):=a8;show q.elim
  |next=>show Yz a8
  |brk=>show Yz a8
  |cont=>show Yz a8
def ajY{f:lP}{lv:Y}{e8:X7}{fd:i2}{ps:O Ya}{x:Ya}{p pos:Yh}{e:Yd}{es:O Yd}{a:jy}{e4:Y}(F:j9 X.R X.w X.K X.bj X.d (nA X.R X.w) lv e8 fd ps<|z8 X.bj X.K L e4 f)(hr:fb lv X.A)(hm:X.bj x=J (.ref e8))(aY:KW X.K (.ref e8)=Y0)
  (aq:Binds X.K fd ps []) (bx:SB X L (e::es) a) (bQ:X9 (fI X x) bo) (gz:X9 ((x==("__debug__" : Ya))=Y1) d7) (he:X9 (cc (e::es) X.I=(Y1,Ur e X.I)::cc es X.I) bo)
  (fS:X9 ((fE pos<|cc es X.I).any (·.1)=Y1) bo):wF cM X L (.Call (.Name x p) (e::es) [] pos)<|lQ e4 f a:=by
 intro B S n c n' hd ae s U H Q I ⟨R,k⟩;let((aD,aW),aA,av):=b5 hd;by_cases aC:aD.H=e4
 .rw[Y2 aC]at av;show lz<|wR I bQ hm ?_ gz;show W.callWith_K (h₀:=X.d) I.ok.mod.ky aY (bZ (bx B S n aD aW aA pos ae s U H (λaa ak=>dc L H ak/\cR L aW ak/\Args X.K L ak aD aa) I {R,λaa ak x y z=>{(x),y,z}}) λus s1 ⟨aa,H1,bf,r,x1,dI,cT⟩=>{bf.ib,?_}) he fS;show x_run F hr aq bf r dI cT aC av λe bc ak s' x cQ fQ a4=>k ae e bc ak s' x.weak ((x1.trans cQ).bU R.aJ) ((R.ext.trans x1).trans cQ) fQ a4
 .rw[Y3 aC]at av;ext av
end
def qaV(K:Yk)(B:aI)(L:X7)(S:bA)(n n':Y):TE:=λU H Q=>df K B L S n U H/\∀v ak,dc L H ak->cR L n' ak->Q v ak
def B7(X:bL)(L:X7)(e:Yd)(d:tQ):Prop:=∀B S n n',d S n=J n'->dH X e (qaV X.K B L S n n')
def uc(X:bL)(L:X7)(k:Y)(es:O Yd)(d:tQ):Prop:=∀B S n n',d S n=J n'->∀(Fa:Ya) (ae:O Z2) (s:aL) (U:St) (H:aI) (Q:V->aI->Prop),Fa.H<=1000*k->aO X ae U H s->df X.K B L S n U H->(∀v ak,dc L H ak->cR L n' ak->Q v ak) ->
 ba Z3 X.A (joinParts Fa<|evalEach es X.I) (fH X ae U Q) X.cu s
section
variable {cM:Yc}{X:bL}{L:X7}
def ah7{j pos}:B7 X L (.Constant (.str x) j pos) n3:=λB S n n' hd ae s U H Q I ⟨R,k⟩=>by
 ext hd
 show GV ae s U H Q I<|k _ H (.refl _ _) R.aJ
def ah8{k:Y}(aY:k<=100):uc X L k [] n3:=λB S n n' hd Fa ae s U H Q bx I R q=>by
 ext hd
 show joinParts_nil {.str Fa,H,I.tok _,{_,D},q _ H (.refl _ _) R.aJ}<|bF bx ?_;rw[kR];omega
def Dw{a b:Ya}{k:Y}(af:a.H<=1000*k)(ao:b.H<=1000)(aY:k+1<=100):(a++b).H<=1000*(k+1)/\(a++b).H<=c3:=by rw[strLen_append,kR];omega
def ah9{k:Y}{j pos}(h:uc X L (k+1) es d)(aY:X9 (k+1<=100) d7)(ax:X9 (x.H<=1000) d7):uc X L k (.Constant (.str x) j pos::es) d:=λB S n n' hd Fa ae s U H Q bx I R q=>by
 show ba _ _ (joinParts Fa<|Ur (.Constant (.str x) j pos) X.I::evalEach es X.I) _ _ s;show joinParts_cons (bZ (GV ae s U H (λv ak=>v=.str x/\ak=H) I {(D),D}) λu s1 ⟨v,H1,bf,r,aA,av⟩=>?_);subst aA av;let(t,rfl):=(show ∃t,u=.str x t from r)
 show{(Dw bx ax aY).2,h B S n n' hd _ ae s1 U _ Q (Dw bx ax aY).1 bf R q}
def aia{k:Y}(he:bI X L e hV)(h:uc X L (k+1) es d)(aY:X9 (k+1<=100) d7):uc X L k (.FormattedValue e (-1) C pos::es)<|yI hV d:=λB S n n' hd Fa ae s U H Q bx I R q=>by
 let((t,m,aW),aA,av):=b5 hd;have⟨i,ef,aM,a7⟩:∃i,t=.int i/\X3 i=Y0/\d S aW=J n':=by
  induction t using T.casesOn with
  |int i =>
   let av:(if X3 i=Y0 then d S aW else C)=J n':=av;by_cases z:X3 i=Y0
   .rw[Y2 z]at av;show{(i),D,z,av}
   .rw[Y3 z]at av;ext av
  |_=>ext av
 subst ef;show ba _ _ (joinParts Fa<|Ur (.FormattedValue e (-1) C pos) X.I::evalEach es X.I) _ _ s;show joinParts_cons<|FormattedValue_plain (bZ (he.run aA I R) λu s1 ⟨v,H1,bf,bp,a1,bt,b0⟩=>?_);let aZ:=b0.root bt R.aJ;let aZ:aH L H1 (.int i) v:=aZ;rw[aH]at aZ;subst aZ;let(tk,rfl):=(show ∃t,u=.int i t from bp)
 let aC:i.natAbs.log2<1920:=by
  let af:i.natAbs<2^64:=Ld aM;by_cases z:i.natAbs=0
  .rw[z];decide
  .let:=(Nat.log2_lt z).mpr af;show gR (ed this) Z0
 let d5:(YF<|toString i).H<=1000:=by let af:i.natAbs<10^20:=d0 (Ld aM) Z0;let ao:=int_text_length_le10 (k:=20) Z0 af;rw[PySem.ofString_length];show bF ao Z0
 show formatField_int_small aC ?_;let cI:aO X ae U H1 { s1 with toks:=s1.toks+1+1}:=bf.tok _;show{(Dw bx d5 aY).2,h B S aW n' a7 _ ae _ U H1 Q (Dw bx d5 aY).1 cI bt λv ak x y=>q v ak (a1.trans x) y}
def ajZ(h:uc X L 0 (a::b::es) d):B7 X L (.JoinedStr (a::b::es) pos) d:=λB S n n' hd ae s U H Q I ⟨R,k⟩ =>
 JoinedStr_many (h B S n n' hd Str.empty ae s U H Q Z0 I R k)
abbrev excMro:O ay:=[.type "ValueError",.type "Exception",.type "BaseException",.type "object"]
def aj0{K:Yk}{h:Yg}{bc:X7}{OT:O ay}{Dr:YD}(ky:K.In h)(z:W.excIn K bc OT Dr=Y0) :
  ∃fA N nm tM bs hd sn sub ab col dd k0 k1 k2 k3 k5,h.get? bc=J (excClassObj nm tM bc N bs fA hd sn sub ab col dd k0 k1 k2 k3 k5 Dr)/\(∃mN,h.Ns N mN/\mN "__init__" = C)/\OwnTail h OT fA:=by
 delta W.excIn at z;cases kl:K.lookup bc with
 |none=>rw[kl]at z;ext z
 |some b2 =>
  rw[kl]at z;let(jw,dd,hS,c8):=b2;let key:=ky _ _ kl;split at z
  .rename_i fy b0 s1 aA
   ext aA
   split at z
   .rename_i GF fA LX a1 a2 jY aca B4 c9 fL;let(Vi,LY,LZ,cs,Vj,ch,Vk,Vl,ca,co,anb):=b0;erw[gS,UI,Bw]at z;let(((((cT,da),gM),tW),tX),L0):=z;dsimp only at c9 gM tX L0;subst cT da gM c9;let acb:c8=#[LX,a1,a2,jY,J<|.builtin aca,B4]:=by
     cases c8 with
     |mk l=>show Yx Array.mk fL
    subst acb;show{fA,cs,Vi,Vj,LY,ch,Vk,Vl,ca,co,dd,LX,a1,a2,jY,B4,key,{_,.of_isNs<|W.isNs_of_in ky tX,W.nsMap_none_of_in ky tX L0},W.tail_of_in ky tW}
   .ext z
  .ext z
def IW{c:Y}{bc:X7}{e:Yd}{d:tQ}{x:Ya}{np dk pos:Yh}(aN:X.calm=Y0)(he:B7 X L e d)(hm:X.bj x=J (.ref bc))(ax:x=qV c)(q:W.excIn X.K bc excMro "ValueError.__new__" = Y0)(bQ:X9 (fI X x) bo)(gz:X9 ((x==("__debug__" : Ya))=Y1) d7)
  (aM:X9 (cc [e] X.I=[(Y1,Ur e X.I)]) bo):qD Y1 X L (.Raise (J<|.Call (.Name x np) [e] [] dk) C pos)<|pI c d:=by
 intro B S n c0 n' hd ae s U H Lk I ⟨R,k⟩;let(aW,aA,av):=dm hd;cases av;let(fA,N,nm,tM,bs,acd,sn,sub,ab,col,dd,k0,k1,k2,k3,k5,Gs,(mN,dA,ace),T):=aj0 I.mod.ky q;show wpAny_Raise_call_subT («C»:=bc) (nm:=nm) (q:=tM) (N:=N) (bs:=bs) (bm:=fA) (hdct:=acd) (sn:=sn) (sub:=sub) (ab:=ab) (col:=col) (dd:=dd) (k0:=k0) (k1:=k1) (k2:=k2) (k3:=k3) (k5:=k5)
  PySem.F.excBase_ValueError (mN:=mN) (T.hasType PySem.F.excBase_ValueError.hasBase) (I.ok.hd aN) (by rw[aM];rfl) ace (wR I bQ hm {D,?_} gz)
 rw[aM];show tD<|i0 (bZ (he B S n n' aA ae s U H (λv ak=>dc L H ak/\cR L n' ak) I {R,λv ak x y=>{(x),y}}) λu s1 ⟨v,H1,bf,bp,x1,dI⟩=>ly ?_);show{D,(show 1<=c3 by rw[kR];decide),bf.e1 _ _ Gs,dA.keeps bf.e1,T.keeps bf.e1,λh' cf mk=>?_};show k ae cf bc H1 { s1 with heap:=h'} ⟨U,H1,s1,s1.Q,bf,rfl,bf.dE,fq.same,bf.bE,.inr ⟨rfl,_,mk⟩⟩ (x1.bU R.aJ) (R.ext.trans x1) dI (ax▸hm)
def aib{dj iter:Yd}{body:O Yf}{d:hU}{put:T->bA->X8 bA}{b:bw}{eN:gi}{pos:Yh}(aF:vT Z3 X.A X.I X.cu)(aN:X.calm=Y0)(hi:zH X L dj iter d)(bQ:rY X L dj put)(aq:ho X L body b)(z9:lY cM X L body eN)(aM:X9 (∀x,lA iter X.I x=pure x) qx) :
  qD cM X L (.For dj iter body [] pos) (Kn d put b eN):=by
 intro B S n c n' hd ae s U H Lk I hw;let((aD,aW),aA,av):=b5 hd;let R:=hw.1;let lk:jZ X body (λLk U H=>(∃S n f S' n',b S n=J (f,S',n')/\wh X.K B L S n f S' n' Lk U H)\/∃S n,eN S n=J (c,n')/\ub cM X B L S n c n' U H):=λae s U H Lk I h=>by
  rcases h with⟨S,n,f,S',n',e,h⟩|⟨S,n,e,h⟩
  .show aq B S n f S' n' e ae s U H Lk I h
  .show z9 B S n c n' e ae s U H Lk I h
 show G0 aF aN (hi B S n aD aW aA) bQ lk aM ae s U H Lk I {R,λdg H1 x1 dI it=>?_};let bt:=R.mono x1 dI;let acf:=hw.step (x1.bU R.aJ) bt;show{λi m U' ak=>m=aD.H-i/\i<=aD.H/\eu H1 ak/\∃Si kn,df X.K B L Si kn U' ak/\zw put b eN (aD.drop i) Si kn=J (c,n'),{aD.H,by simp,f9 _,.refl _,S,aW,bt,by simpa using av},?_};rintro i m U2 br ⟨rfl,jH,lT,S2,bW,de,a7⟩;let at2:=it br bW de.aJ lT de.ext i;by_cases dp:i<aD.H
 .right;let(go,wq):=at2.1 aD[i] (by simp[dp]);let yM:aD.drop i=aD[i]::aD.drop (i+1):=oP dp;rw[yM]at a7;let(S3,bM,d9):=b5 (show(put aD[i] S2).bind _=_ from a7);cases ex:eN S3 bW with
  |some r =>
   rw[ex]at d9
   ext d9
   show{go,λU' ak=>Ym,λU' ak z=>z.elim,λx ak tV=>?_};let(cu,n5,xr):=wq x ak tV;let k8:eu H1 ak:=lT.trans<|cu.bU de.aJ;show{B,S2,bW,aD[i],S3,de.mono cu<|n5 bW de.aJ,xr,bM,λU3 mh _=>.inr {S3,bW,ex,acf.step k8 mh}}
  |none =>
   rw[ex]at d9;let((f4,S4,gW),fV,fC):=b5 d9;show{go,λU' ak=>eu H1 ak/\df X.K B L S4 gW U' ak/\zw put b eN (aD.drop<|i+1) S4 gW=J (c,n'),λU' ak ⟨cT,da,gM⟩=>{aD.H-(i+1),by omega,D,dp,cT,S4,gW,da,gM},λx ak tV=>?_};let(cu,n5,xr):=wq x ak tV;let k8:eu H1 ak:=lT.trans<|cu.bU de.aJ;show{B,S2,bW,aD[i],S3,de.mono cu<|n5 bW de.aJ,xr,bM,λU3 mh _=>.inl {S3,bW,f4,S4,gW,fV,mh,?_}};cases f4 with
   |bS=>show λU' eG cT da=>{k8.trans cT,da,fC}
   |eI=>show λU' eG cT da=>{k8.trans cT,da,fC}
   |e1=>ext fC
   |aZ t ko=>ext fC
 .left;let je:aD.H<=i:=g4 dp;rw[vt je]at a7
  ext a7
end
noncomputable abbrev Aa(X:bL)(e:ay)(p:O Z2):bL:={ X with A:=X.A.mark<|some e,calm:=Y1,cu:=λ_ _=>Ym,h5:=p}
noncomputable abbrev uT(X:bL)(E:ay->aL->Prop)(p:O Z2):bL:={ X with cu:=E,h5:=p}
section
variable {X:bL}{ae:O Z2}{U:St}{H ak:aI}{s:aL}{e bc:X7}{E ng:ay->aL->Prop}{Q:Unit->aL->Prop}
def alK(I:aO X ae U H s)(E:ay->aL->Prop):aO (uT X E<|X.h5++ae) [] U H s :=
 {{(I.ok.mod),I.ok.kind,I.ok.glob,I.ok.blt,I.ok.above,I.ok.inj,I.ok.has,I.ok.sb,I.ok.hd,I.ok.frames,I.ok.uj,I.ok.uk,I.ok.bs,I.ok.nh,I.ok.sU,I.ok.sV,I.ok.kM,I.ok.ni},I.os,I.dE,I.d,I.loc,I.cell,I.free,I.kO,λp aF=>I.pin p (by simpa using aF),I.bE,I.len}
def Ab(I:aO (uT X E<|X.h5++ae) EG U H s):aO X ae U H s :=
 {{(I.ok.mod),I.ok.kind,I.ok.glob,I.ok.blt,I.ok.above,I.ok.inj,I.ok.has,I.ok.sb,I.ok.hd,I.ok.frames,I.ok.uj,I.ok.uk,I.ok.bs,I.ok.nh,I.ok.sU,I.ok.sV,I.ok.kM,I.ok.ni},I.os,I.dE,I.d,I.loc,I.cell,I.free,I.kO,λp aF=>I.pin p<|ry _ aF,I.bE,I.len}
def OU(I:aO X ae U H s)(v:ay)(a8:∀p∈q,s.heap.get? p.1=J p.2/\H p.1=C/\p.1≠X.I.locals/\p.1∉X.cq/\∀v,p.2.e≠.cell v):aO (Aa X v<|X.h5++q) ae U H s :=
 ⟨{I.ok.mod,I.ok.kind,I.ok.glob,I.ok.blt,I.ok.above,I.ok.inj,I.ok.has,I.ok.sb,λz=>(nomatch z),I.ok.frames,I.ok.uj,I.ok.uk,I.ok.bs,I.ok.nh,I.ok.sU,I.ok.sV,I.ok.kM,I.ok.ni},I.os,I.dE,I.d,I.loc,I.cell,I.free,I.kO,
  λp aF=>by
   let aF:p∈(X.h5++q)++ae:=aF;rcases iY.mp aF with z|z
   .rcases iY.mp z with z|z
    .show I.pin p<|ry _ z
    .show a8 p z
   .show I.pin p<|l6 _ z,I.bE,I.len⟩
def Dx(ok:X.Ok)(I:aO (Aa X v<|X.h5++q) ae U H s):aO X ae U H s :=
 ⟨ok,I.os,I.dE,I.d,I.loc,I.cell,I.free,I.kO,λp aF=>I.pin p (by
  show p∈(X.h5++q)++ae;rcases iY.mp aF with z|z
  .show ry _<|ry _ z
  .show l6 _ z),I.bE,I.len⟩
def aj1(x:Exc Y0 (uT X E<|X.h5++ae) EG ak s e bc):Exc Y0 X ae ak s e bc:=by let(U,kY,sc,h,I,r):=x;show{U,kY,sc,h,Ab I,r}
def Exc.inv(x:Exc Y0 X ae ak s e bc):∃U mm,aO X ae U ak s/\s.heap.get? e=J mm/\mm.cls=.ref bc/\ak e=C/\e≠X.I.locals/\e∉X.cq/\(∀v,mm.e≠.cell v)/\mm.dict=C/\∃aa t,mm.e=.fields aa/\aa[0]?=J (.ref t):=by
 let(U,kY,sc,h,I,os,dE,u,bE,bh):=x;rcases bh with⟨rfl,B,t,cM,bP,ml⟩|⟨z,_⟩
 .let dg:aO X ae U ak s:=I.EI os u bE dE λb z=>Yi z Z6;let(mm,aa,aR,a4,cQ,fQ):=cM.first;let pd:e∉hb X.stack:=λz=>by let(_,o,aV,hd):=dg.stack.mem z;rw[aR]at aV;ext aV;show hd aa cQ
  let Vm:e≠X.I.locals:=λz=>by let(m,(o,es,ep,aV,hd,_),_):=dg.loc;rw[<-z,aR]at aV;ext aV;rw[cQ]at hd;ext hd
  let acg:e∉X.cq:=λz=>by let(_,o,aV,hd):=dg.kM.mem z;rw[aR]at aV;ext aV;show hd aa cQ
  let bq:ak e=C:=by
   cases z:ak e with
   |none=>rfl
   |some y =>
    let:=bP e mm aR pd (.inl<|by rw[z];simp);rw[cM.2.1]at this;ext this
  show⟨U,mm,dg,aR,a4,bq,Vm,acg,(λv z=>by rw[cQ]at z;ext z),ml mm aR,aa,t,cQ,fQ⟩
 .ext z
def alL(pw:X.stack=X.I::cP)(hf:X.I.frame=J X.I.locals)(dt:A.frames=J X.stack)(x:Exc Y0 X ae ak s e bc)(a8:∀s3,Exc Y0 X ae ak s3 e bc->Q () s3) :
  ba Z3 A (noteFrame (.ref e) X.I) (λ_ s2=>ba Z3 A' (setFlight (.ref e) C) Q ng s2) E s:=by
 let(U,kY,sc,h,I,os,dE,u,bE,bh):=x;rcases bh with⟨rfl,B,t,cM,bP,ml⟩|⟨z,_⟩
 .let pj:=IV I u;let(b2,nz,_):=cM.there;rw[pw]at dt;let Dv:=cM;rw[pw]at Dv;show g5 (OQ.any (wpAny_looks_onW (Q:=λ_ kA=>∃h',kA={ s with heap:=h'}/\Heap.HeldW B (X.I::cP) e (.ref bc) (.ref t) X.I.locals h'/\s.heap.UpToSlots h') (E:=λ_ _=>Ym) dt hf Dv λh' f2 up=>⟨h',rfl,f2,up⟩)) (λ_ kA ⟨⟨h',aR,f2,up⟩,hd⟩=>?_) λ_ _ z=>z.1.elim;subst aR;show g5 (IU.any (wpAny_landsW (Q:=λ_ s3=>∃fB,s3={ s with heap:=fB}/\K5 B (X.I::cP) e (.ref bc) (.ref t) fB/\h'.UpToSlots fB) (E:=λ_ _=>Ym) f2 λfB dW uU=>⟨fB,rfl,dW,uU⟩)) (λ_ s3 ⟨⟨fB,aR,dW,uU⟩,IX⟩=>?_) λ_ _ z=>z.1.elim;subst aR;let(gw,xQ,jg):=KC u bE bP dW.1 (up.trans uU) pj;show a8 _ {U,kY,sc,fB,I,os,dE,gw,xQ,.inl {D,B,t,?_,jg,λo q=>((hd.trans IX).get nz q).trans (ml b2 nz)}};rw[pw];show dW
 .ext z
def ach(x:Exc Y0 X ae ak s e bc)(a8:∀s3,Exc Y0 X ae ak s3 e bc->Q () s3):ba Z3 A (setFlight (.ref e) C) Q E s:=by
 let(U,kY,sc,h,I,os,dE,u,bE,bh):=x;rcases bh with⟨rfl,B,t,cM,bP,ml⟩|⟨z,_⟩
 .let pj:=IV I u;let(b2,nz,_):=cM.there;show g5 (IU.any (lands_againW (Q:=λ_ s3=>∃fB,s3={ s with heap:=fB}/\K5 B X.stack e (.ref bc) (.ref t) fB/\s.heap.UpToSlots fB) (E:=λ_ _=>Ym) cM λfB dW uU=>⟨fB,rfl,dW,uU⟩)) (λ_ s3 ⟨⟨fB,aR,dW,uU⟩,IX⟩=>?_) λ_ _ z=>z.1.elim;subst aR;let(gw,xQ,jg):=KC u bE bP dW.1 uU pj;show a8 _ {U,kY,sc,fB,I,os,dE,gw,xQ,.inl {D,B,t,dW,jg,λo q=>(IX.get nz q).trans (ml b2 nz)}}
 .ext z
end
structure ES (K:Yk) (bc Lk:X7):Prop where
 sub:W.subIn K (.ref bc) (.ref Lk)=J Y0
structure Clause (K:Yk) (Lk:X7):Prop where
 aE:W.instIn K (.ref Lk) (.type "tuple")=J Y1
 cls:(W.clsIn K Lk).isSome=Y0
 base:W.subIn K (.ref Lk) (.type "BaseException")=J Y0
def aci{K:Yk}{M:Model}{A:dz}{E:ay->aL->Prop}{s:aL}{Q:Yc->aL->Prop}{e bc Lk:X7}{mm:Yp}(ky:K.In s.Q)(he:s.heap.get? e=J mm)(aN:mm.cls=.ref bc)(cl:Clause K Lk)(tk:ES K bc Lk)(a8:Q Y0 s):ba M A (excMatches (.ref e)<|.ref Lk) Q E s:=by
 let Vn:=W.looks_instIn (M:=M) ky cl.aE;let a9:=W.looks_subIn (M:=M) ky cl.d;let yX:=W.looks_subIn (M:=M) ky tk.sub;let Vo:W.Looks M s.Q (isType<|.ref Lk) Y0:=by
  let(cd,q):=qbq.mp cl.cls;delta W.clsIn at q;split at q
  .rename_i aV;intro A' eJ ng s' k ee;delta isType loadHead;show aU<|wpAny_loadPart (k _ _<|ky _ _ aV)<|bG ee
  .ext q
 let Vp:W.Looks M s.Q (typeOf<|.ref e)<|.ref bc:=aN▸(W.Looks.ld he).andThen .now;let Vq:W.Looks M s.Q (isExcClass<|.ref Lk) Y0:=by delta isExcClass;show Vo.andThen ?_;erw[Yq];show a9
 delta excMatches
 repeat (first|(with_reducible show Vn.here ?_)|(with_reducible show Vq.here ?_)|(with_reducible show Vp.here ?_)|(with_reducible show yX.here ?_)|wp_step)
 show a8
section
variable {X:bL}{L:X7}{ae:O Z2}{U:St}{H ak:aI}{s:aL}
def df.blank{K:Yk}{B:aI}{S:bA}{n n':Y}{U U':St}{H ak:aI}(R:df K B L S n U H)(aC:U'.H=S.H)(x:dc L B ak)(y:cR L n' ak):df K B L (Yj S.H C) n' U' ak:=by
 let no:∀(i:Y) (p:T×bk),(Yj S.H (C:X8<|T×bk))[i]?≠J (J p):=λi p z=>by rw[xY]at z;split at z<;>ext z
 show{x,y,R.j4,by rw[mO,aC],λi t e=>(no i _ e).elim,λi t e=>(no i _ e).elim,λi t e=>(no i _ e).elim,λi t e=>(no i _ e).elim,λi j t t' a e=>(no i _ e).elim}
inductive ro (X:bL) (Lk:X7):O Y->Prop
 |nil:ro X Lk []
 |cons {c:Y} {cs:O Y} {bc:X7}:X.bj (qV c)=J (.ref bc)->ES X.K bc Lk->ro X Lk cs->ro X Lk (c::cs)
theorem ro.at:∀{cs:O Y},ro X Lk cs->∀{c:Y} {bc:X7},c∈cs->X.bj (qV c)=J (.ref bc)->ES X.K bc Lk
 |_,.cons hm tk r,c,bc,aN,e=>by
  rcases ei.mp aN with rfl|aN
  .rw[hm]at e;ext e;show tk
  .show ro.at r aN e
def aic{n:Y}(k4:X.stack=X.I::cP)(hf:X.I.frame=J X.I.locals)(aq:∀E p,ho (uT X E p) L body b)(z9:∀E p,lY Y0 (uT X E p) L body eN)
  (I:aO X ae U H s) (R:df X.K B L S n U H)
  (af:eN S n=C->∃f S' n',b S n=J (f,S',n')/\KF X.K B L f S' n' Lk H)
  (ao:∀c aW,eN S n=J (c,aW)->∀e bc ak s3,Exc Y0 X ae ak s3 e bc->eu H ak->dc L B ak->cR L aW ak->X.bj (qV c)=J (.ref bc)->ba Z3 X.A (handleBy (.ref e) X.I [hd]) (nZ X ae Lk) X.cu s3) :
  ba Z3 X.A (exec (.Try body [hd] [] [] pos) X.I) (nZ X ae Lk) X.cu s:=by
 show wpAny_Try_except ?_;let go:∀wG:ay->aL->Prop,(∀c aW,eN S n=J (c,aW)->∀e bc ak s',Exc Y0 X ae ak s' e bc->eu H ak->dc L B ak->cR L aW ak->X.bj (qV c)=J (.ref bc)->wG (.ref e) s')->ba Z3 X.A (execs body X.I) (λf dO=>match f with|.next=>ba Z3 X.A (execs [] X.I) (nZ X ae Lk) X.cu dO|f=>nZ X ae Lk f dO) wG s:=λwG ua=>by
  let bf:=alK I wG;cases ax:eN S n with
  |none =>
   let(f,S',n',e,k):=af ax;show bZ (aq wG (X.h5++ae) B S n f S' n' e [] s U H Lk bf {(R),k}) λcM s1 q=>?_;cases cM with
   |next=>let(U',ak,dg,q):=q;show vM {U',ak,Ab dg,q}
   |brk=>let(U',ak,dg,q):=q;show{U',ak,Ab dg,q}
   |cont=>let(U',ak,dg,q):=q;show{U',ak,Ab dg,q}
   |ret u=>let(v,U',ak,dg,r,q):=q;show{v,U',ak,Ab dg,r,q}
  |some r =>
   let(c,aW):=r;show bZ (z9 wG (X.h5++ae) B S n c aW ax [] s U H { bS:=λ_ _=>Ym,aZ:=λ_ _=>Ym} bf {R,λEG e bc ak s' x f1 f2 dW f4=>ua c aW ax e bc ak s' (aj1 x) f1 f2 dW f4}) λcM s1 q=>?_;cases cM with
   |next=>let(U',ak,dg,q):=q;show q.elim
   |brk=>let(U',ak,dg,q):=q;show(show Ym from q).elim
   |cont=>let(U',ak,dg,q):=q;show(show Ym from q).elim
   |ret u=>let(v,U',ak,dg,r,q):=q;show q.elim
 show go _ λc aW ax e bc ak s' x f1 f2 dW f4=>alL k4 hf I.ok.frames x λs3 cY=>ao c aW ax e bc ak s3 cY f1 f2 dW f4
def aj2{body SQ:O Yf}{L1:Yf}{cs:O Y}{b cb:bw}{eN:gi}{Lk:Ya}{gh:X7}{tN aF pos:Yh}{cP:O Env}(k4:X.stack=X.I::cP)(hf:X.I.frame=J X.I.locals)(aq:∀E p,ho (uT X E p) L body b)(z9:∀E p,lY Y0 (uT X E p) L body eN)
  (ao:∀v p,ho (Aa X v p) L (L1::SQ) cb) (hT:X.bj Lk=J (.ref gh)) (cl:Clause X.K gh) (qK:ro X gh cs) (bQ:X9 (fI X Lk) bo) (gz:X9 ((Lk==("__debug__" : Ya))=Y1) d7) :
  gj X L (.Try body [.ExceptHandler (J<|.Name Lk tN) C (L1::SQ) aF] [] [] pos) (EN cs b eN cb):=by
 intro B S n f S' n' hd ae s U H Vr I ⟨R,k⟩;delta EN at hd;show aic k4 hf aq z9 I R (λe=>?_) λc aW ax e bc ak s3 x f1 f2 dW f4=>?_
 .rw[e]at hd;show{(f),S',n',hd,k}
 .rw[ax]at hd;let hd:(if c∈cs then cb (Yj S.H C) aW else C)=J (f,S',n'):=hd;by_cases aN:c∈cs
  .rw[Y2 aN]at hd;let(U3,mm,fz,aR,a4,cQ,fQ,hk,BP,_):=x.inv;let Vs:aO (Aa X (.ref e)<|X.h5++[]) ae U3 ak s3:=OU fz _ λp aF=>Yi aF Z6;show wpAny_handleBy_cons (codeAny_handlers_test<|wR Vs bQ hT ?_ gz) (by intro z;ext z);show aci (M:=bg X.R X.w) fz.ib aR a4 cl (qK.at aN f4) ?_;show codeAny_handlers_suite (ach x λs4 x4=>?_);let(U4,anu,gU,_):=x4.inv;let Vt:aO (Aa X (.ref e)<|X.h5++[]) ae U4 ak s4:=OU gU _ λp aF=>Yi aF Z6;let aC:U4.H=S.H:=by rw[gU.len,R.len,I.len]
   show g5 (ao (.ref e) (X.h5++[]) B _ aW f S' n' hd ae s4 U4 ak Vr Vt {R.blank aC f2 dW,k.bU f1}) (λcM s5 q=>?_) λ_ _ z=>Yz z;cases cM with
   |next=>let(U',ak,dg,q):=q;show{U',ak,Dx I.ok dg,q}
   |brk=>let(U',ak,dg,q):=q;show{U',ak,Dx I.ok dg,q}
   |cont=>let(U',ak,dg,q):=q;show{U',ak,Dx I.ok dg,q}
   |ret u=>let(v,U',ak,dg,r,q):=q;show{v,U',ak,Dx I.ok dg,r,q}
  .rw[Y3 aN]at hd;ext hd
end
def Dy(P:di)(w:cL)(K:Yk)(bj:Ya->X8 ay)(base:Yg)(lv:Y)(x:Ya)(ps:O Ya)(f:lP)(L:X7):Prop :=
 ∃e8 fd,j9 P w K bj base (nA P w) lv e8 fd ps (z8 bj K L ps.H f)/\Binds K fd ps []/\KW K (.ref e8)=Y0/\bj x=J (.ref e8)
def alM{cM:Yc}{X:bL}{L:X7}{f:lP}{lv e4:Y}{ps:O Ya}{x:Ya}{p pos:Yh}{e:Yd}{es:O Yd}{a:jy}(G:Dy X.R X.w X.K X.bj X.d lv x ps f L)(hr:fb lv X.A)(bx:SB X L (e::es) a)(bq:X9 (ps.H=e4) bo)(bQ:X9 (fI X x) bo)(gz:X9 ((x==("__debug__" : Ya))=Y1) d7)
  (he:X9 (cc (e::es) X.I=(Y1,Ur e X.I)::cc es X.I) bo) (fS:X9 ((fE pos<|cc es X.I).any (·.1)=Y1) bo):wF cM X L (.Call (.Name x p) (e::es) [] pos)<|lQ e4 f a:=by
 subst bq;let(e8,fd,F,aq,aY,hm):=G;show ajY F hr hm aY aq bx bQ gz he fS
def ho.lift{X:bL}{L:X7}{st:O Yf}{d:bw}(h:ho X.nj L st d):ho X L st d:=λB S n f S' n' hd ae s U H Lk I hw =>
 g5 (h B S n f S' n' hd ae s U H Lk (I.nG _) hw) (λ_ _ q=>q.p9) λ_ _ z=>Yz z
structure Fr where
 f:X7
 hS:X8 X7
 an:X8 X7
 c8:Ye<|X8 ay
 jw:ay
 eH:ay
 fZ:ay
 pm:ay
 cd:ay
 eI:ay
abbrev Fr.fd(r:Fr)(n:Ya)(st:Yf):i2:=YW n n (oc st) (iB st) (e2 st) .none r.eH r.fZ r.pm r.an r.cd r.eI
def dy(K:Yk)(n:Ya)(st:Yf)(r:Fr):Prop :=
 W.nsIn K kg n=J (J<|.ref r.f)/\K.lookup r.f=J {r.jw,r.hS,.func<|r.fd n st,r.c8}/\W.codeIn K r.cd n=Y0/\KW K (.ref r.f)=Y0
def aj3{K:Yk}{n:Ya}{st:Yf}{f:X7}{hS an:X8 X7}{c8:Ye<|X8 ay}{jw eH fZ pm cd eI:ay}(a:W.nsIn K kg n=J (J<|.ref f))
  (l:K.lookup f=J {jw,hS,.func<|YW n n (oc st) (iB st) (e2 st) .none eH fZ pm an cd eI,c8}) (c:W.codeIn K cd n=Y0) (k:KW K (.ref f)=Y0):dy K n st {(f),hS,an,c8,jw,eH,fZ,pm,cd,eI}:={(a),l,c,k}
section
variable {K:Yk}{n:Ya}{st:Yf}{r:Fr}
def dy.fn(h:dy K n st r):qN K n n st r.f<|r.fd n st:=ahn h.2.1 h.2.2.1 h.2.2.2
theorem dy.bj{h0:Yg}{bj:Ya->X8 ay}(h:dy K n st r)(X:K.In h0)(G:h0.Ns kg bj):bj n=J (.ref r.f):=W.mg_of X G h.1
def some_of{α:Type}{x:X8 α}{a:α}(h:x=J a):x.isSome=Y0:=by rw[h];rfl
end
def wN{N P:O Ya}{sc:ju}(a:X9 (sc.kind=.function) bo)(b:X9 (sc.isCoroutine=Y1) bo)(c:X9 (sc.isGenerator=Y1) bo)(d:X9 (N.Nodup) az11._auto_1)(e:X9 (N.take P.H=P) bo)(f:X9 (∀x∈P,sc.names.lookup x=J .local\/sc.names.lookup x=J .cell) az11._auto_1)(g:X9 (∀y∈sc.h,y.2≠.free) az11._auto_1):mM N P sc:={(a),b,c,d,e,f,g}
def px(n:Ya)(st:Yf)(ps:O Ya):Prop:=∀(eH doc pm:ay) (an:X8 X7) (dw eI:ay) (us:O ay),us.H=ps.H->tJ (YW n n (oc st) (iB st) (e2 st) .none eH doc pm an dw eI) {us,[]}=pure (ps.zip us)
def len0{P:O ay->Prop}(h:P []):∀us:O ay,us.H=0->P us:=λus e=>by
 cases us with
 |nil=>show h
 |cons a us=>show Nat.noConfusion e
def p6{P:O ay->Prop}{k:Y}(h:∀a (us:O ay),us.H=k->P (a::us)):∀us:O ay,us.H=k+1->P us:=λus e=>by
 cases us with
 |nil=>show Nat.noConfusion e
 |cons a us=>show h a us<|Nat.succ.inj e
section
variable {n:Ya}{st:Yf}{dh cy gN wA L2:Ya}
def y6(h:∀(eH doc pm:ay) (an:X8 X7) (dw eI a:ay),tJ (YW n n (oc st) (iB st) (e2 st) .none eH doc pm an dw eI) {[a],[]}=pure [(dh,a)]):px n st [dh]:=λk d p an c t=>p6 λa=>len0<|h k d p an c t a
def y7(h:∀(eH doc pm:ay) (an:X8 X7) (dw eI a b:ay),tJ (YW n n (oc st) (iB st) (e2 st) .none eH doc pm an dw eI) {[a,b],[]}=pure [(dh,a),(cy,b)]):px n st [dh,cy]:=λk d p an c t=>p6 λa=>p6 λb=>len0<|h k d p an c t a b
def y8(h:∀(eH doc pm:ay) (an:X8 X7) (dw eI a b c:ay),tJ (YW n n (oc st) (iB st) (e2 st) .none eH doc pm an dw eI) {[a,b,c],[]}=pure [(dh,a),(cy,b),(gN,c)]):px n st [dh,cy,gN]:=λk d p an c t=>p6 λa=>p6 λb=>p6 λe=>len0<|h k d p an c t a b e
def y9(h:∀(eH doc pm:ay) (an:X8 X7) (dw eI a b c d:ay),tJ (YW n n (oc st) (iB st) (e2 st) .none eH doc pm an dw eI) {[a,b,c,d],[]}=pure [(dh,a),(cy,b),(gN,c),(wA,d)]):px n st [dh,cy,gN,wA]:=λk d p an c t=>p6 λa=>p6 λb=>p6 λe=>p6 λf=>len0<|h k d p an c t a b e f
end
section
variable {P:di}{w:cL}{K:Yk}{base:Yg}{L:X7}{n:Ya}{st:Yf}{r:Fr}{h0:Yg}{bj:Ya->X8 ay}{lv:Y}{N ps:O Ya}
def acj(X:K.In h0)(G:h0.Ns kg bj)(h:dy K n st r){b:bw}
  (aq:∀(dw:ay) (A:dz) (cP:O Env) (s:aL) (H:aI) (E:h7),fb lv (A.deeper<|jv n (e2 st) s.L r.f dw)->N.Nodup->ho (ka j0 P w K bj base N n (e2 st) r.f dw A cP s H E).nj L (iB st) b)
  (cZ:X9 (mM N ps<|e2 st) az10._auto_1) (bi:X9 (px n st ps) az12._auto_1):yV P w K bj base (lv+1) n ps (dv N.H b) L :=
 {_,_,agg h.fn cZ λc A o s H E hr=>aq c A o s H E hr cZ.bN,h.fn.binds bi,h.2.2.2,h.bj X G}
def afD(X:K.In h0)(G:h0.Ns kg bj)(h:dy K n st r){b:gi}
  (aq:∀(dw:ay) (A:dz) (cP:O Env) (s:aL) (H:aI) (E:h7),fb lv (A.deeper<|jv n (e2 st) s.L r.f dw)->N.Nodup->lY Y1 (ka (nA P w) P w K bj base N n (e2 st) r.f dw A cP s H E) L (iB st) b)
  (cZ:X9 (mM N ps<|e2 st) az10._auto_1) (bi:X9 (px n st ps) az12._auto_1):Dy P w K bj base (lv+1) n ps (fnX N.H b) L :=
 {_,_,ah6 h.fn cZ λc A o s H E hr=>aq c A o s H E hr cZ.bN,h.fn.binds bi,h.2.2.2,h.bj X G}
end
section
variable {X:bL}{L:X7}{lv e4:Y}{ps:O Ya}{x:Ya}{p pos:Yh}{e:Yd}{es:O Yd}{a:jy}
def SR{f:c1}(G:yV X.R X.w X.K X.bj X.d lv x ps f L)(bx:SB X L (e::es) a)(hr:X9 (fb lv X.A) az9._auto_1)(bq:X9 (ps.H=e4) bo)(bQ:X9 (fI X x) bo)(gz:X9 ((x==("__debug__" : Ya))=Y1) d7)
  (he:X9 (cc (e::es) X.I=(Y1,Ur e X.I)::cc es X.I) bo) (fS:X9 ((fE pos<|cc es X.I).any (·.1)=Y1) bo):bI X L (.Call (.Name x p) (e::es) [] pos)<|bB e4 f a:=alC G hr bx bq bQ gz he fS
def SS{cM:Yc}{f:lP}(G:Dy X.R X.w X.K X.bj X.d lv x ps f L)(bx:SB X L (e::es) a)(hr:X9 (fb lv X.A) az9._auto_1)(bq:X9 (ps.H=e4) bo)(bQ:X9 (fI X x) bo)(gz:X9 ((x==("__debug__" : Ya))=Y1) d7)
  (he:X9 (cc (e::es) X.I=(Y1,Ur e X.I)::cc es X.I) bo) (fS:X9 ((fE pos<|cc es X.I).any (·.1)=Y1) bo):wF cM X L (.Call (.Name x p) (e::es) [] pos)<|lQ e4 f a:=alM G hr bx bq bQ gz he fS
end
section
variable {X:bL}{L:X7}{lv anv e4:Y}{ps:O Ya}{x y:Ya}{p pos pos' dD py vj:Yh}{e elt iter:Yd}{es ifs:O Yd}{a:jy}{cM:Yc}{scope:ju}{N':O Ya}{e9:O<|X8 Y}{d:hU}{c:eX}{hV:bK}
def IY{i:Y}{cl:O<|Ya×X7}{bc:X7}{cH:aL}{du:aI}{fp:O X7}(bN:N'.Nodup)(dA:N'[i]?=J x)(aC:scope.names.lookup x=J .local):rY (gp X N' scope cl bc cH du fp) L (.Name x dD) (cC i) :=
 Nm i bN dA (.inl<|lookup_relabel_local aC) (.inr<|lookup_relabel_local aC)
def alN(hi:qY X L (.Name x dD) iter d)(cE:∀{cl bc cH du fp},sq (gp X (x::X.N) scope cl bc cH du fp) L ifs c)(he:∀{cl bc cH du fp},bI (gp X (x::X.N) scope cl bc cH du fp) L elt hV)
  (aN:X9 (X.calm=Y0) bo) (bc:lp X scope (x::X.N) e9:=by show .of) (bN:(x::X.N).Nodup:=by first|(show La (_::(_++_));decide)|(show La (_::_::(_++_));decide)) (aC:X9 (scope.names.lookup x=J .local) bo) (aM:X9 (∀x,lA iter X.I x=pure x) qx) :
  bI X L (.ListComp elt [{.Name x dD,iter,ifs,0}] scope pos) (er d (ck e9) (cC 0) c hV):=HT aN bc bN hi (λ_ _ _ _ _=>IY bN D aC) (λ_ _ _ _ _=>cE) (λ_ _ _ _ _=>he) aM
def alO(i:Y)(hi:qY X L (.Name x dD) iter d)(cE:∀{cl bc cH du fp},sq (gp X X.N scope cl bc cH du fp) L ifs c)(he:∀{cl bc cH du fp},bI (gp X X.N scope cl bc cH du fp) L elt hV)
  (aN:X9 (X.calm=Y0) bo) (bc:lp X scope X.N e9:=by show .of) (bN:X.N.Nodup:=by first|(show La (_++_);decide)|(show La (_::(_++_));decide)) (dA:X9 (X.N[i]?=J x) bo) (aC:X9 (scope.names.lookup x=J .local) bo) (aM:X9 (∀x,lA iter X.I x=pure x) qx) :
  bI X L (.ListComp elt [{.Name x dD,iter,ifs,0}] scope pos) (er d (ck e9) (cC i) c hV):=HT aN bc bN hi (λ_ _ _ _ _=>IY bN dA aC) (λ_ _ _ _ _=>cE) (λ_ _ _ _ _=>he) aM
def ack(i:Y)(bq:X.N.Nodup)(hi:qY X L (.Name x dD) iter d)(cE:∀{cl bc cH du fp},sq (gp X (x::X.N) scope cl bc cH du fp) L ifs c)(he:∀{cl bc cH du fp},bI (gp X (x::X.N) scope cl bc cH du fp) L elt hV)
  (aN:X9 (X.calm=Y0) bo) (bc:lp X scope (x::X.N) e9:=by show .of) (bN:(x::X.N).Nodup:=by first|(show La (_::(_++_));decide)|(show La (_::_::(_++_));decide)) (aC:X9 (scope.names.lookup x=J .local) bo)
  (fD:X9 (X.N[i]?=J y) bo) (aP:X9 (X.env.scope.names.lookup y=J .local) bo) (uE:X9 (nW (.ListComp elt [{.Name x dD,iter,ifs,0}] scope pos) (J<|.Name y py) vj.line X.I=pure Y0) bo) (aM:X9 (∀x,lA iter X.I x=pure x) qx) :
  gj X L (.Assign [.Name y py] (.ListComp elt [{.Name x dD,iter,ifs,0}] scope pos) vj) (c2 i<|er d (ck e9) (cC 0) c hV):=aae i aN bq bc bN hi (λ_ _ _ _ _=>IY bN D aC) (λ_ _ _ _ _=>cE) (λ_ _ _ _ _=>he) fD aP uE aM
def EB:jd X (gJ .LtE) (tY λa b=>decide (a<=b)):=CY λ_ _ _ _ _ _ h=>le_int h
def Sm(hr:fb lv X.A):ff X L (two<|gJ .Eq) hY:=SK hr.yT<|NA hr.KO
def afE(hr:fb lv X.A):ff X L (two<|gJ .NotEq) gn:=agk hr.yT<|alf hr.KO
end
section
variable {X:bL}{L:X7}
def IZ(r:eb X.K L H (.str x) v):v=.str x:=by let r:aH L H (.str x) v:=r;rw[aH]at r;show r
def acm{i:X6}(r:eb X.K L H (.int i) v):v=.int i:=by let r:aH L H (.int i) v:=r;rw[aH]at r;show r
def TK:bl=1000000:=rfl
def aj4:ff X L (λus=>call (.type "str") us) zy:=by
 intro B ae s U H aa us aD n t m Q I bb aZ aJ e k
 match aD,e with
 |[.int i],e =>
  let e:(if 0<=i/\i<=1000 then J (T.str<|gG i,bk.ah) else C)=J (t,m):=e;split at e
  .rename_i h
   ext e
   let(v,rfl,r):=hL aZ;obtain rfl:=acm r;show qas ae s U H _ us Q I bb {i,D,?_,k _ H (.refl _ _) aJ<|by show aH L H (.str _) _;rw[aH];rfl};let af:i.natAbs<=1000:=by omega
   let:i.natAbs.log2<=Nat.log2 1000:=by
    rcases Nat.eq_zero_or_pos i.natAbs with z|z
    .rw[z];decide
    .let:=Nat.log2_self_le (n:=i.natAbs)<|oW z;show(Nat.le_log2 Z0).mpr (bF this af)
   show gR this Z0
  .ext e
def alP{o e:Yd}{en hV:bK}{apos dk:Yh}(b1:X.A.units+1<fh)(aV:bI X L o en)(he:bI X L e hV)(m:yF X o "get" apos e dk):bI X L (.Call (.Attribute o "get" apos) [e] [] dk)<|aB Hu<|ag en<|ag hV aw:=by
 intro B S n t ko n' hd ae s U H Q I ⟨R,k⟩;let((aD,aW),aA,av):=b5 hd;let((t1,c9),a7,bM):=dm av;cases bM;let((to,mo,no),f1,f2):=b5 aA;let((fL,OV),dW,f4):=dm f2;cases f4;let((te,wx,ne),g1,g2):=b5 dW;cases g2;show ak0 b1 (aV B S n to mo no f1) (he B S no te wx ne g1) m ae s U H Q I {R,λv H1 x1 dI cT=>?_};let bt:=R.mono x1 dI
 induction to using T.casesOn with
 |a3 au =>
  let(eo,aR,a4):=dm (show(iI te).map _=_ from a7);cases a4;let aZ:=cT.root bt R.aJ;let(a,ws,rfl,na,cf,cN):=id aZ;show{a,D,{(ws),cf},bt,λv2 br x2 iy da=>?_};let de:=bt.mono x2 iy;obtain rfl:=CN aR<|da.root de bt.aJ;let(gV,su,H4,_,h8,eN):=eb.ext bt.aJ x2 aZ;cases H4;show{oG su eo,{(su),eo,h8,D,D},k _ br (x1.trans x2) iy ?_};rcases cG.at eo eN with⟨b0,dP⟩|⟨t1,x,b0,dP,iO⟩
  .rw[b0,dP];show aH L br .bR .bR;rw[aH]
  .rw[b0,dP];show iO
 |_=>ext a7
def acn(aP:(y.H==0)=Y1)
  (hsz:x.H<=c3) (hsz2:(Builtin.Str.partsBetween x (Builtin.Str.occurrences x y 0 x.H<|x.H+1) y.H).H<=c3)
  (a8:∀l k,l.map (·.1)=Txt.split x y->Q (.ref s.L) { s with heap:=s.heap.push { cls:=.type "list",data:=.seq (vU l).D},toks:=k}) :
  ba Z7 A (call (.builtin "str.split") [.str x t,.str y u]) Q E s:=by
 cases af:(decide (x.H<y.H)||decide (Builtin.Str.strKind x<Builtin.Str.strKind y))
 .cases hf:(Builtin.Str.occurrences x y 0 x.H<|x.H+1).isEmpty
  .show mV F.slot_str_split (vR _ _ _) F.entry_str_split (F.args_str_split_2 _ _) (meets_str_split_sep x y t u af aP hf hsz hsz2) ?_;show wants Q E _ { s with toks:=_,heap:=s.heap.push { cls:=.type "list",data:=.seq (strsFrom s.toks<|Builtin.Str.partsBetween x (Builtin.Str.occurrences x y 0 x.H<|x.H+1) y.H).D}};rw[strsFrom_eq];show a8 (numbered s.toks _) _<|(numbered_texts _ _).trans ((Y3<|ne_true_of_eq_false af).trans (Y3<|ne_true_of_eq_false hf)).symm
  .show mV F.slot_str_split (vR _ _ _) F.entry_str_split (F.args_str_split_2 _ _) (meets_str_split_not_found x y t u af aP hf)
    (a8 [(x,t)] s.toks ((Y3<|ne_true_of_eq_false af).trans (Y2 hf)).symm)
 .show mV F.slot_str_split (vR _ _ _) F.entry_str_split (F.args_str_split_2 _ _) (meets_str_split_cannot_occur x y t u af)
   (a8 [(x,t)] s.toks (Y2 af).symm)
def split_len(x y:Ya):(Builtin.Str.partsBetween x (Builtin.Str.occurrences x y 0 x.H<|x.H+1) y.H).H<=x.H+2:=by
 let h:=StrLaws.occ_length_le x y 0 x.H<|x.H+1;rw[StrLaws.partsBetween_eq];let:∀(rp:O Y) (a:Y),(StrLaws.partsFrom x y.H a rp).H=rp.H+1:=by
  intro rp
  induction rp with
  |nil=>intro a;rfl
  |cons c cs aT=>intro a;show(StrLaws.partsFrom x y.H _ cs).H+1=_;rw[aT];rfl
 rw[this];show ts h
theorem OW:∀(l:O (Ya×Tok)),∃aa:O V,cA aa (vU l)/\bJ L H ((l.map (·.1)).map T.str) aa
 |[]=>{[],.nil,.nil}
 |(x,t)::l=>by let(aa,af,ao):=OW (H:=H) l;show{.str x::aa,.cons {(t),D} af,.cons (by rw[aH]) ao}
def alQ{o e:Yd}{en hV:bK}{apos dk:Yh}(aV:bI X L o en)(he:bI X L e hV)(m:yF X o "split" apos e dk):bI X L (.Call (.Attribute o "split" apos) [e] [] dk)<|aB CE<|ag en<|ag hV aw:=by
 intro B S n t ko n' hd ae s U H Q I ⟨R,k⟩;let((aD,aW),aA,av):=b5 hd;let((t1,c9),a7,bM):=dm av;cases bM;let((to,mo,no),f1,f2):=b5 aA;let((fL,OV),dW,f4):=dm f2;cases f4;let((te,wx,ne),g1,g2):=b5 dW;cases g2
 induction to using T.casesOn with
 |str x =>
  induction te using T.casesOn with
  |str y =>
   let a7:(if y.H=1/\x.H<=bl then J (T.aj<|(Txt.split x y).map T.str,bk.az) else C)=J (t1,c9):=a7;split at a7
   .rename_i hz;cases a7;show yo m.d m.mv m.line PySem.F.plainAttrs_str PySem.F.slot_str_split PySem.F.type_str_split (bZ (aV.run f1 I R) λu s1 ⟨v,H1,bf,bp,a1,bt,b0⟩=>?_);obtain rfl:=IZ<|b0.root bt R.aJ;let(tk,rfl):=bp;show⟨vR _ _ _,(λb e=>nomatch e),?_⟩;rw[m.trees];show qf D<|tD<|i0 (bZ (he.run g1 bf bt) λhv s2 ⟨n4,br,cI,d8,a2,de,dP⟩=>ly ?_);obtain rfl:=IZ<|dP.root de bt.aJ;let(xg,rfl):=d8;let dB:=TK;let aM:=kR;let aC:=split_len x y;show acn (by rw[hz.1];rfl) (pJ hz.2) (by omega) λl kk kF=>?_;let(aa,fs,gC):=OW (L:=L) (H:=br) l;let hf:=cI.bE.fresh<|b3 _;let d5:l.H<=x.H+2:=by
     let h0:=Yx List.H kF;rw[cj]at h0;rw[h0];delta Txt.split;split
     .simp
     .split
      .simp
      .show aC
    let d1:=cI.laid (a:=s2.L) (o:=.aj aa) (t':=kk) (h':=s2.heap.push { cls:=.type "list",data:=.seq (vU l).D}) (λb b2 q=>dG _ q) (b3 _) {by rw[fs.H];erw[vU,cj];omega,vU l,0,fs,fa _ D};rw[kF]at gC;show{.ref s2.L,_,d1,D,k _ _ ((a1.trans a2).trans (.new hf)) (de.aJ.new hf)<|Val.back (a1.trans a2) de.aJ {_,D,hf,_,eS,bJ.mono (.new hf) _ _ gC}}
   .ext a7
  |_=>ext a7
 |_=>ext a7
theorem OX:∀{xs:O T} {ws:O Ya} {aa:O V} {us:O ay},strsOf xs=J ws->bJ L H xs aa->cA aa us->∃l:O (Ya×Tok),vU l=us/\l.map (·.1)=ws
 |[],ws,aa,us,h,r,v=>by
  ext h
  rw[ig r]at v
  ext v
  show{[],D,D}
 |.str x::xs,ws,aa,us,h,r,v=>by
  let(su,af,ao):=dm (show(strsOf xs).map (x::·)=J ws from h)
  ext ao
  let(v0,iU,rfl,bp,b8):=gH r;rw[aH]at bp;subst bp;cases v with
  |cons aR a4 =>
   let(l,fL,eQ):=OX af b8 a4;let(tk,rfl):=aR;show{(x,tk)::l,by rw[<-fL];rfl,by rw[<-eQ];rfl}
def aj5{o e:Yd}{en hV:bK}{apos dk:Yh}(aV:bI X L o en)(he:bI X L e hV)(m:yF X o "join" apos e dk):bI X L (.Call (.Attribute o "join" apos) [e] [] dk)<|aB zA<|ag en<|ag hV aw:=by
 intro B S n t ko n' hd ae s U H Q I ⟨R,k⟩;let((aD,aW),aA,av):=b5 hd;let((t1,c9),a7,bM):=dm av;cases bM;let((to,mo,no),f1,f2):=b5 aA;let((fL,OV),dW,f4):=dm f2;cases f4;let((te,wx,ne),g1,g2):=b5 dW;cases g2;let key:∀N to te,zA N [to,te]=J (t1,c9)->∃x xs,to=.str x/\te=.aj xs:=λN to te e=>by
  induction to using T.casesOn with
  |str x=>induction te using T.casesOn with
   |aj xs=>show{(x),xs,D,D}
   |_=>ext e
  |_=>ext e
 let(x,xs,af,ao):=key _ _ _ a7;clear key;subst af ao;let(ws,aR,a4):=b5 (show(strsOf xs).bind (λws=>if(ws.map (·.H)).sum+ws.H*x.H<=bl then J (T.str<|Str.join x ws,bk.ah) else C)=J (t1,c9) from a7);split at a4
 .rename_i hz;cases a4;show yo m.d m.mv m.line PySem.F.plainAttrs_str PySem.F.slot_str_join PySem.F.type_str_join (bZ (aV.run f1 I R) λu s1 ⟨v,H1,bf,bp,a1,bt,b0⟩=>?_);obtain rfl:=IZ<|b0.root bt R.aJ;let(tk,rfl):=bp;show⟨vR _ _ _,(λb e=>nomatch e),?_⟩;rw[m.trees];show qf D<|tD<|i0 (bZ (he.run g1 bf bt) λhv s2 ⟨n4,br,cI,d8,a2,de,dP⟩=>ly ?_);let(a,fK,rfl,cf,cN):=dP.root de bt.aJ;cases d8;let(aX,q2,cm,_):=cI.list cf.gK;let(l,fs,gC):=OX aR cN q2;subst fs;let dB:=TK;let aM:=kR;show SC.join cm.isList gC ?_ λt' kk=>?_
  .delta JoinOk Builtin.Str.tooLong;rw[StrLaws.joinTotal];erw[Bw,decide_eq_false_iff_not];omega
  .show{.str _,br,cI.tok _,{t',by rw[show Txt.join x ws=Str.join x ws from StrLaws.glued_eq_join x ws]},k _ br (a1.trans a2) de.aJ<|by show aH L br (.str _) _;rw[aH]}
 .ext a4
end
end a9.bD
namespace a9.bD
open PySem PySem.Spec PyProof.Rows a9.Tm
section
variable {prog:di}{w:cL}
inductive l5 (prog:di) (w:cL) (h:Yg):O Z1->O ay->Prop
 |nil:l5 prog w h [] []
 |cons {l:O X6} {b:X7} {ls:O Z1} {aa:O ay} (q:vS (gd prog w) h l b) (r:l5 prog w h ls aa):l5 prog w h (l::ls)<|.ref b::aa
def lZ(prog:di)(w:cL)(h:Yg)(ls:O Z1)(a:X7):Prop:=∃o aX m,h.get? a=J o/\o.cls=.type "tuple" /\ o.e=.seq aX m/\l5 prog w h ls aX.B
def l5.uniq(p:l5 prog w h x aa)(q:l5 prog w h y aa):x=y:=by
 induction p generalizing y with
 |nil=>ext q;rfl
 |cons dh _ aT =>
  cases q with
  |cons aR a4=>rw[dh.inj aR,aT a4]
def lZ.ty{s:aL}(x:lZ prog w s.Q ls a):s.TypeIs (.ref a) "tuple":=let ⟨o,_,_,aV,aN,_⟩:=x;{(o),aV,aN}
theorem lZ.uniq(p:lZ prog w h x a)(q:lZ prog w h y a):x=y:=by
 let(o,aX,m,af,_,a6,cS):=p;let(cW,its',fG,g1,_,g3,gv):=q;rw[af]at g1
 ext g1
 rw[a6]at g3
 ext g3
 show cS.uniq gv
def l5.j8{es ep}(aV:h.get? d=J o)(hd:o.e=.dict es ep)(aM:Vh d h h')(p:l5 prog w h x aa):l5 prog w h' x aa:=by
 induction p with
 |nil=>show .nil
 |cons dh _ aT=>show .cons (dh.keeps aV hd aM) aT
theorem lZ.j8{es ep}(p:lZ prog w h x a)(aV:h.get? d=J o)(hd:o.e=.dict es ep)(aM:Vh d h h'):lZ prog w h' x a:=by
 let(cW,aX,m,af,ao,a6,cS):=p;let ne:a≠d:=λz=>by
  subst z;rw[af]at aV
  ext aV
  rw[a6]at hd
  ext hd
 show{cW,aX,m,(aM.2 a ne).trans af,ao,a6,cS.j8 aV hd aM}
noncomputable def Dz(ls:O Z1):Y:=(ls.map λl=>l.H+1).sum
variable {A:dz}{E:ay->aL->Prop}{s:aL}
def aco{Q:X6->aL->Prop}(b1:A.units+2<fh)(aY:lZ prog w s.Q ls a)(q:Q (Cf prog w ls) { s with toks:=s.toks+(Dz ls+1)}):ba (bg prog w) A (pyHash (.ref a)) Q E s:=by
 let T:=aY.ty;let(o,aX,m,af,_,a6,cS):=aY;delta pyHash;show aU<|wpAny_cRoomFor_or (.inr<|jr<|ed b1)<|aU<|BE T F.slot_tuple_hash.lookup ?_;show ba _ _ (if(J (Value.builtin "tuple.__hash__")==J YC)=Y0 then _ else _) _ _ _;rw[Y3<|by rw[beq_builtin_none];simp];show aU<|BE T F.slot_tuple_hash.lookup<|aU<|wpAny_callSpecialIfBoundUnlessNone?_slot T F.slot_tuple_hash<|mt F.slot_tuple_hash T F.entry_tuple_hash ?_<|F.args_tuple_hash_1 _;show ba _ _ (Builtin.Tuple.tupleItemsOf (.ref a) >>= _) _ _ _;show aU<|FT af a6<|aU ?_;rw[<-Lo];show FZ _ (λrest (c:Ye X6) s'=>∃pre post,ls=pre++post/\l5 prog w s.Q post rest/\c.B=pre.map (BH<|gd prog w)/\s'={ s with toks:=s.toks+Dz pre}) _ ?_ ?_ _ _ ⟨[],ls,rfl,cS,rfl,rfl⟩
 .rintro v rest c s' ⟨pre,post,rfl,r,aN,rfl⟩;cases r with
  |@cons l b xo iU dh cy =>
   show aU<|wpAny_pyHash_tuple (show A.in1.units<fh from by rw[in1_units];show ed b1) dh ?_;show bG {pre++[l],xo,by simp,cy,by simp[aN],?_};simp[Dz,rF]
 .rintro c s' ⟨pre,post,rfl,r,aN,rfl⟩
  ext r
  rw[rC]at q;show ba _ _ (retInt<|li c.B) _ _ _;rw[aN];show wpAny_ret_mkInt ?_;delta Cf reduceHash at q;show ba _ _ (if(decide (-(2:X6)^63<=li (pre.map<|BH<|gd prog w))&&decide (li (pre.map<|BH<|gd prog w)<2^63))=Y0 then _ else _) _ _ _;split
  .rename_i z;rw[Y2 z]at q;show bG (by simpa[rF]using q)
  .rename_i z;rw[Y3 z]at q;show aU<|jt (bG<|by simpa[rF]using q)
def OY(p:vS (gd prog w) h l b)(ET:di)(eM:cL):vS (gd ET eM) h l b:=by
 let(o,aX,n,a1,a2,jY,B3):=p;show{o,aX,n,a1,a2,jY,?_};generalize aX.B=us at B3
 induction B3 with
 |nil=>show .nil
 |cons k _ aT=>show .cons k aT
def l5.get(r:l5 prog w h x us):x.H=us.H/\∀(j:Y) (v:ay),us[j]?=J v->∃l b,x[j]?=J l/\v=.ref b/\vS (gd prog w) h l b:=by
 induction r with
 |nil=>show{D,λj v e=>by simp at e}
 |cons p _ aT =>
  show{Yx (·+1) aT.1,λj v e=>?_};cases j with
  |zero=>ext e;show{_,_,D,D,p}
  |succ j=>show aT.2 j v e
def acp(x y:O Z1):((Yr<|min x.H y.H).all (λj=>decide (x[j]?=y[j]?))&&x.H==y.H)=decide (x=y):=by
 rw[FD];erw[gS,hO,qd,YZ,UI];constructor
 .rintro⟨af,ao⟩;show qbf λi=>?_;by_cases hi:i<x.H
  .show af i (by omega)
  .rw[Bd<|g4 hi,Bd<|bF (dK ao.symm)<|g4 hi]
 .rintro rfl;show{λ_ _=>D,D}
def alR{Q:Yc->aL->Prop}(b1:A.units+4<fh)(ax:lZ prog w s.Q x a)(aP:lZ prog w s.Q y b)(q:Q (decide (x=y)) s):ba Z7 A (eqBool (.ref a)<|.ref b) Q E s:=by
 by_cases uJ:a=b
 .subst uJ;obtain rfl:=ax.uniq aP;show PySem.SeqAt.EqAt.same _ prog w E Q (by simpa using q)
 .let(fu,xs,c9,g1,ew,g2,g3):=ax;let(hB,aQ,fY,k1,k0,k2,k3):=aP;let ex:=g3.get;let hx:=k3.get;show PySem.SeqAt.EqAt.of_refs uJ (PySem.SeqAt.RcAt.tuples (e:=λj=>decide (x[j]?=y[j]?)) {(fu),g1,ew,c9,g2} {(hB),k1,k0,fY,k2} (tq<|ed b1) λj af ao=>?_) prog w E Q ?_
  .let(fL,b0,f1,f2,dW):=ex.2 j xs[j] (by simp[af]);let(eQ,dP,f4,gT,Vu):=hx.2 j aQ[j] (by simp[ao]);rw[f2,gT];erw[f1,f4,Option.some.injEq];show λET eM ng eJ z=>wpAny_eqBool_tuple (by rw[in1_units];show jr<|jr<|ed b1) (OY dW ET eM) (OY Vu ET eM) z
  .let bS:xs.O=x.H:=by rw[ex.1,fP]
   let Vv:aQ.O=y.H:=by rw[hx.1,fP]
   rw[bS,Vv,acp];show q
def OZ(A:dz)(prog:di)(w:cL)(s:aL)(n:Y)(v:ay):Prop:=∀(E:ay->aL->Prop) (Q:Yc->aL->Prop),Q Y0 s->ba Z7 A (eqIsQuiet n v) Q E s
def O0{n:Y}{m:Y}(af:s.heap.get? a=J o)(ao:o.cls=.type "tuple")(a6:o.e=.seq aX m)(all:∀v∈aX.B,OZ A prog w s n v):OZ A prog w s (n+1)<|.ref a:=λE Q q=>by
 let T:s.TypeIs (.ref a) "tuple":={(o),af,ao}
 delta eqIsQuiet;show aU<|BE T F.slot_tuple_eq.lookup<|aU<|tE T isSubtype_tuple_tuple ?_;rw[Y3 Z6];show aU<|tH af a6<|aU ?_;show ba _ _ (forIn aX _ _) _ _ s;rw[<-Lo];show FZ _ (λleft r t=>r.1=C/\t=s/\∀v∈left,v∈aX.B) _ (λv left r t z=>?_) (λr t z=>?_) _ _ {D,D,λ_ z=>z}
 .let(_,rfl,z):=z;show aU<|all v (z v<|.head _) _ _ ?_;rw[Y3 Z6];show bG ⟨D,D,λu y=>z u<|.tail _ y⟩
 .let(bp,b8):=r;let(rfl,rfl,_):=z;show bG q
def acq{Q:Yc->aL->Prop}(aY:lZ prog w s.Q ls a)(q:Q Y0 s):ba Z7 A (eqIsQuiet 8<|.ref a) Q E s:=by let(o,aX,m,af,ao,a6,cS):=aY;show O0 af ao a6 (λv bX=>?_) E Q q;let(j,bO):=List.getElem?_of_mem bX;let(l,b,_,rfl,cW,xs,n,k1,k2,k3,qC):=cS.get.2 j v bO;show O0 k1 k2 k3 λu b1 ng eJ z=>by rw[eqIsQuiet_byValue _<|qC.byValue u b1];show bG z
def I0(prog:di)(w:cL):HeapKind prog w (O Z1) where
 is:=lZ prog w
 hash:=Cf prog w
 draws:=λls=>Dz ls+1
 room:=λA=>A.units+4<fh
 inj:=λax aP=>ax.uniq aP
 keeps:=λx aV hd aM=>x.j8 aV hd aM
 pyHash:=λb1 aY q=>aco (jr<|ed b1) aY q
 eqBool:=λb1 ax aP q=>alR b1 ax aP q
 quiet:=λaY q=>acq aY q
end
end a9.bD
namespace a9.bD
open PySem PySem.Spec PyProof.Rows
section
variable {P:di}{w:cL}{H:aI}{h:Yg}
theorem O1:∀{l:O X6} {us:O ay},cA (l.map V.int) us->ItemsAre (gd P w) l us
 |[],_,v=>by ext v;show .nil
 |i::l,_,v=>by
  cases v with
  |cons q r =>
   let(t,rfl):=q;show .cons (intKind_is _ _ _ _)<|O1 r
def aj6(ok:eY P w H h)(e:H b=J (.aE<|l.map V.int)):vS (gd P w) h l b:=by
 let(_,aX,r,o,af,ao,_,n,a6):=(show fN P w H h b (.aE<|l.map V.int) from ok b _ e)
 show{o,aX.D,n,af,ao,a6,by simpa using O1 r}
def alS(ok:eY P w H h)(r:p8 H ls aa):∀{us:O ay},cA aa us->l5 P w h ls us:=by
 induction r with
 |nil=>intro us v;ext v;show .nil
 |cons q _ aT =>
  intro us v;cases v with
  |cons aR a4 =>
   ext aR
   show .cons (aj6 ok q)<|aT a4
def TL(ok:eY P w H h)(r:sa H ls b):lZ P w h ls b:=by
 let(aa,e,q):=r;let(_,aX,v,o,af,ao,_,n,a6):=(show fN P w H h b (.aE aa) from ok b _ e)
 show{o,aX.D,n,af,ao,a6,by simpa using alS ok q v}
noncomputable def tb(k:O Z1×X7):O Z1×X7×ay:=(k.1,k.2,.bool Y0)
def SU(ok:eY P w H h)(e:hQ H a<|.hG ws):ws.H<=c3/\(a==md)=Y1/\(∀k∈ws,sa H k.1 k.2)/\(ws.map (·.1)).Nodup/\h.DictOfH (I0 P w) a (ws.map tb):=by
 let(z,y,r,bN,o,es,ep,af,ao,a6,cS):=(show fN P w H h a (.hG ws) from e.ok ok)
 show{z,y,r,bN,o,es,ep,af,ao,a6,?_,λx ax=>?_,?_}
 .rw[cS,be];rfl
 .let(k,aY,rfl):=el.mp ax;show TL ok<|r k aY
 .rw[be];show bN
noncomputable def mJ(ws:O<|O Z1×X7)(ls:O Z1)(b:X7):O<|O Z1×X7:=if(ws.any λk=>decide (k.1=ls))=Y0 then ws else ws++[(ls,b)]
def acr(ws:O<|O Z1×X7)(ls:O Z1)(b:X7):storedH (ws.map tb) ls b (.bool Y0)=(mJ ws ls b).map tb:=by
 let af:(atKey (ws.map tb) ls).isSome=ws.any λk=>decide (k.1=ls):=by delta atKey;rw[qbr,List.find?_map,qbr,FD,List.find?_isSome,Ff];rfl
 delta storedH mJ;rw[af];split
 .rw[be];show lq λk _=>?_;show PySem.putAt ls (.bool Y0) (tb k)=tb k;delta PySem.putAt tb;split<;>rfl
 .rw[jS];rfl
end
section
variable {X:bL}{L:X7}
def agt:Eo:=λo i v H Q=>∃a b ws ls,o=.ref a/\i=.ref b/\v=.a5 Y0/\H a=J (.hG ws)/\sa H ls b/\ws.H<c3/\Q (cO H a<|.hG<|mJ ws ls b)
def alT(b1:X.A.units+6<fh):Ep X agt:=by
 intro ae s U H o i v hu hv u Q I we rU bb bh;let(a,b,ws,ls,rfl,rfl,rfl,e,r3,aC,q):=bh
 ext we
 ext rU
 ext bb
 let(z,y,r,bN,dd):=SU I.bE<|.inl e;show wpAny_setItem_heap (knd:=I0 X.R X.w) (show X.A.in1.units+4<fh by rw[in1_units];show ed b1) (TL I.bE r3) dd (λh' oa aM=>?_) (by rw[cj];show z);rw[acr]at oa;let(cW,es,ep,g1,g2,g3,gv,m8,qt):=oa;let AY:∀c xs,H c=J (.aE xs)->cO H a (.hG<|mJ ws ls b) c=J (.aE xs):=λc xs aN=>by rw[ea<|by rintro rfl;rw[e]at aN;ext aN];show aN
 let up:∀k∈mJ ws ls b,sa (cO H a<|.hG<|mJ ws ls b) k.1 k.2:=λk aY=>by
  let:sa H k.1 k.2:=by
   delta mJ at aY;split at aY
   .show r k aY
   .rcases iY.mp aY with aY|aY
    .show r k aY
    .let:=jP.mp aY;subst this;show r3
  let(aa,dh,cy):=this;show{aa,AY _ _ dh,cy.mono AY}
 let len:(mJ ws ls b).H<=c3:=by
  delta mJ;split
  .show z
  .simp;show aC
 show{_,He (b2:=.hG<|mJ ws ls b) I (by rw[e];show KR) aM ⟨cW,g1⟩ ⟨len,y,up,by rw[be]at qt;show qt,cW,es,ep,g1,g2,g3,by rw[gv,be];rfl⟩,q}
def aid(e:xU t=J l)(r:aH L H t v):∃b,v=.ref b/\H b=J (.aE<|l.map V.int):=by
 induction t using T.casesOn with
 |aE xs =>
  rw[aH]at r;let(a,aa,rfl,af,ao):=r;let:=nv (show eU xs=J l from e);subst this;show{a,D,by rw[<-sl ao];show af}
 |_=>ext e
theorem O2:∀{xs:O T} {ls:O Z1} {aa:O V},ux xs=J ls->bJ L H xs aa->p8 H ls aa
 |[],ls,aa,e,r=>by ext e;rw[ig r];show .nil
 |x::xs,ls,aa,e,r=>by
  let(l,aA,av):=b5 (show(xU x).bind _=J ls from e);let(xo,a7,bM):=dm av
  ext bM
  let(v,w,rfl,p,q):=gH r;let(b,rfl,aq):=aid aA p;show .cons aq<|O2 a7 q
def acs(e:vr t=J ls)(r:eb X.K L H t v):∃b,v=.ref b/\sa H ls b:=by
 induction t using T.casesOn with
 |aE xs =>
  let(a,aa,rfl,af,ao):=jf r;show{a,D,aa,af,O2 e ao}
 |_=>ext e
def alU(ws:O<|O Z1×X7)(ls:O Z1)(b:X7):(mJ ws ls b).map (·.1)=ie (ws.map (·.1)) ls:=by
 delta mJ ie;rw[Fl];show(if(ws.any λk=>decide (k.1=ls))=Y0 then ws else ws++[(ls,b)]).map (·.1)=if(ws.any λk=>decide (k.1=ls))=Y0 then _ else _
 split
 .rfl
 .rw[jS];rfl
def aj7(i:Y){x:Ya}{hA e:Yd}{yJ d:bK}{pos pos' dD:Yh}(b1:X.A.units+6<fh)(bX:bI X L e d)(aY:bI X L hA yJ)(dA:X9 (X.N[i]?=J x) bo)(mH:X9 (kz X.I.Y x) az7._auto_1)(hd:X9 ((x==("__debug__" : Ya))=Y1) d7)
  (f3:X9 ((x==("__classdict__" : Ya))=Y1) d7)
  (bx:X9 (∀v,lC (.Subscript (.Name x dD) hA pos') X.I v=(do
   let hu<-me [v] (Ur (.Name x dD) X.I)
   let hv<-me [v,hu] (Ur hA X.I)
   standAt pos'
   me [v,hu,hv] (setItem hu hv v)
   release [v,hu,hv] [])) qx)
  (aM:X9 (F5 [.Subscript (.Name x dD) hA pos'] e pos.line X.I=pure Y1) bo) (hw:X9 (F6 [.Subscript (.Name x dD) hA pos'] e X.I=pure C) bo)
  (af:X9 ((lB [.Subscript (.Name x dD) hA pos'] X.I).map (·.2)=[lC (.Subscript (.Name x dD) hA pos') X.I]) bo):gj X L (.Assign [.Subscript (.Name x dD) hA pos'] e pos)<|mw i AU yJ d:=by
 intro B S n f S' n' bh ae s U H Lk I ⟨R,k⟩;let((g8,wm,aW),aA,av):=b5 bh;let((tk,mk,bW),a7,bM):=b5 av;obtain rfl:=w8 aA;have⟨t,t',gL,ef,Gm,yL,qp⟩:∃t t',S[i]?=J (J (t,bk.az))/\AU t tk g8=J t'/\f=.bS/\S'=S.set i (J (t',bk.az))/\n'=bW:=by
  cases e:S[i]? with
  |none=>rw[e]at bM;ext bM
  |some o =>
   cases o with
   |none=>rw[e]at bM;ext bM
   |some p =>
    let(t,m):=p;rw[e]at bM;cases m with
    |az =>
     let(t',af,ao):=dm bM;cases ao;show{(t),t',D,af,D,D,D}
    |_=>ext bM
 subst Gm yL qp;have⟨ks,ls,d9,fV,fC,mi,nd⟩:∃ks ls,t=.eh ks/\g8=.a5 Y0/\vr tk=J ls/\ks.H<bl/\t'=.eh (ie ks ls):=by
  delta AU at ef;split at ef
  .let(ls,aR,a4):=b5 ef;split at a4
   .rename_i aq
    ext a4
    show{_,ls,D,D,aR,aq,D}
   .ext a4
  .ext ef
 subst d9 fV nd;let(a,es,dB,_):=R.az i _ gL;show Tj ((uF bX) B S n _ .ah aW aA) (Ti (lL dA mH hd f3) (aY B S aW tk mk _ a7) (alT b1) bx) aM hw af ae s U H Lk I {R,λv H1 x1 dI cT=>?_};let bt:=R.mono x1 dI;show{.ref a,es,bt,λc4 br x2 iy da=>?_};let de:=bt.mono x2 iy;let(b,rfl,r3):=acs fC<|da.root de bt.aJ;let bb:aH L br (.a5 Y0) v:=aH.mono (x2.bU bt.aJ) _ _ cT;rw[aH]at bb;let(gV,hW,_,i7):=de.az i _ gL;rw[es]at hW;ext hW;let(ws,g1,g2):=i7;let lT:eu H br:=(x1.trans x2).bU R.aJ;show{a,b,ws,ls,D,D,bb,g1,r3,zG (by rw[g2,cj]at mi;show mi),?_};let(W,bU):=de.write (t':=.eh<|ie ks ls) (o:=.hG<|mJ ws ls b) gL es λ_=>{_,eS,by rw[g2,alU]}
 show k U _ (lT.trans bU) W
def alV{pos:Yh}:bI X L (.Dict [] [] pos) Hj:=by
 intro B S n t m n' hd ae s U H Q I ⟨R,k⟩
 ext hd
 let new:fN X.R X.w (cO H s.L<|.hG []) (s.heap.push { cls:=.type "dict",data:=.dict #[]}) s.L<|.hG []:=by
  let(_,y,_):=(show fN X.R X.w (cO H s.L<|.aS []) _ _ (.aS []) from Hf s.Q I.bl)
  show{f9 _,y,(λ_ aY=>nomatch aY),List.nodup_nil,_,#[],0,fa _ D,{(D),D,D},D,D}
 let aF:H s.L=C:=I.bE.fresh<|b3 _;show wpAny_Dict_empty ⟨.ref s.L,_,I.laid (a:=s.L) (o:=.hG []) (t':=s.toks) (λ_ _ q=>dG _ q) (b3 _) new,D,k _ _ (.new aF) (R.aJ.new aF) {_,D,aF,[],eS,D}⟩
def alW(r:p8 H ls aa):bJ L H (ls.map ar) aa:=by
 induction r with
 |nil=>show .nil
 |cons q _ aT=>show .cons (by delta ar;rw[aH];show{_,_,D,q,bJ.ints _}) aT
def aj8(r:sa H ls b):aH L H (bu ls)<|.ref b:=by let(aa,af,ao):=r;delta bu;rw[aH];show{b,aa,D,af,alW ao}
end
section
variable {prog:di}{w:cL}{A:dz}{E:ay->aL->Prop}{s:aL}{d I:X7}{es:Ye DictEntry}{ep i:Y}
def oL(h:Yg)(d:X7)(es:Ye DictEntry)(ep:Y):Prop:=∃o,h.get? d=J o/\o.ExactDict/\o.e=.dict es ep
def oL.type(r:oL s.Q d es ep):s.TypeIs (.ref d) "dict":=let ⟨o,h,x,_⟩:=r;{(o),h,x.1}
def oL.kept(r:oL h d es ep)(k:∀o,h.get? d=J o->h'.get? d=J o):oL h' d es ep:=let ⟨o,a,x⟩:=r;{o,k o a,x}
def oL.lt(r:oL h d es ep):d<h.E.O:=let ⟨_,a,_⟩:=r;d6 a
noncomputable abbrev vl(d:X7)(i n ep:Y):Yp:={ cls:=.type "dict_keyiterator",data:=.fields #[.ref d,.int i 0,.int n 0,.int ep 0]}
def acu(hd:(d==md)=Y1)(r:oL s.Q d es ep)(q:Q (.ref s.L) { s with heap:=s.heap.push (vl d 0 es.O ep)}):ba (bg prog w) A (kh (.ref d)) Q E s:=by
 let(o,af,_,a6):=id r;show FV r.type F.slot_dict_iter<|mt F.slot_dict_iter r.type F.entry_dict_iter ?_<|F.args_dict_iter_1 _;let self:ba Z7 A.in1 (Builtin.Dict.dictSlotNone "__iter__" ⟨[.ref d],[]⟩) (λv s'=>v=.ref d/\s'=s) (λ_ _=>Ym) s :=
  aU (FP r.type<|bG {(D),D})
 let all:Builtin.Dict.showsAll d=pure ():=by delta Builtin.Dict.showsAll;rw[hd];rfl
 show aU (m:=Builtin.Dict.dictSlotNone _ _) (g5 self (λv s' z=>?_) λ_ _ z=>z.elim);let(rfl,rfl):=z;show aU (m:=Builtin.Dict.showsAll d)<|vQ all<|aU<|wpAny_dictEntries af a6<|aU<|wpAny_dictEpoch af a6<|aU<|i1<|bG ?_;show{_,D,_,_,{_,fa _ D,D},F.slot_dict_keyiterator_next.lookup,q}
def O3{n:Y}(at_:s.heap.get? I=J (vl d i n ep)):s.TypeIs (.ref I) "dict_keyiterator":={_,at_,D}
def O4(bh:A.handled=C)(r:oL s.Q d es ep)(at_:s.heap.get? I=J (vl d i es.O ep))
  (Um:∀e h',es[i]?=J e->h'.get? I=J (vl d (i+1) es.O ep)->(∀b o,b≠I->s.heap.get? b=J o->h'.get? b=J o)->Q (J e.key) { s with heap:=h'})
  (stop:es[i]?=C->∀h',(∀b o,b≠I->s.heap.get? b=J o->h'.get? b=J o)->Q C { s with heap:=h'}):ba (bg prog w) A (kT (.ref I)) Q E s:=by
 let(o,af,_,a6):=id r;let T:=O3 at_;let plain:Builtin.Dict_items.ownsTuple "dict_keyiterator" = Y1:=by decide
 let O5:∀{g:Yp->Yp} (b:X7) (o:Yp),b≠I->s.heap.get? b=J o->(s.heap.update I g).get? b=J o:=λb o ne z=>(rG _ _ λy=>ne y.symm).trans z;delta kT;show aU<|vO<|rJ (name:=YF "__next__") T F.slot_dict_keyiterator_next<|mt F.slot_dict_keyiterator_next T F.entry_dict_keyiterator_next ?_<|F.args_dict_keyiterator_next_1 _;show aU<|bG<|aU<|aU ?_;show aU<|FN T<|bG<|aU<|F2 at_ D ?_;rw[plain];show aU (m:=pure _)<|bG<|aU<|wpAny_dictEntries af a6 ?_;rw[Y3 Z6];show aU (m:=pure _)<|bG<|aU<|wpAny_dictEpoch af a6 ?_;rw[Y3 Z6];show bG ?_;let pos:(if(i:X6)<0 then C else es[(i:X6).M]?)=es[i]?:=by rw[Y3<|tC<|h3 _,nT]
 dsimp only;rw[pos];cases z:es[i]? with
 |some e =>
  dsimp only;show aU<|aU<|FN T<|bG<|aU<|wpAny_isOneOf_keyiter T ?_;show aU (m:=yv (.ref I) 1<|fF<|(i:X6)+1)<|o1 at_ D Z6 ?_;let at2:(s.heap.update I<|Obj.mapFields (·.setIfInBounds 1 (fF<|(i:X6)+1))).get? I=J (vl d (i+1) es.O ep):=(nS _ at_ D).trans D;show aU<|jT<|aU<|wpAny_isOneOf_keyiter (s:={ s with heap:=_}) (O3 (s:={ s with heap:=_}) at2) ?_;show bG (a:=e.key)<|bG {_,D,bG<|Um e _ z at2 O5}
 |none =>
  dsimp only;show aU<|aU<|FN T<|bG ?_;show aU (m:=yv (.ref I) 0 .none)<|o1 at_ D Z6 (IA (by simpa using bh) λe h' bP yU=>?_);show aU<|tE (T:="StopIteration") (b:=Y0) yU F3<|bG (stop z h' λb o ne y=>bP b o<|O5 b o ne y)
def alX(hd:(d==md)=Y1):W.KdlSrc prog w "dict" d d es.O (λi v=>∃e,es[i]?=J e/\v=e.key) (λh=>oL h d es ep) where
 type:=λ_ r=>r.type
 there:=λ_ r=>{(r.lt),r.lt}
 keep:=λ_ _ r k=>r.kept λo z=>k d (.inl D) o z
 notList:=by decide
 notTuple:=by decide
 hint:=λ_ _ _ _ r q=>W.kdl_hint_dict r.type q
 iter:=λA s bh r=>by
  let ne:d≠s.L:=eE r.lt;show{vl d 0 es.O ep,λi h=>h.get? s.L=J (vl d i es.O ep)/\oL h d es ep,λE Q q=>acu hd r q,?_,fa _ D,r.kept λo z=>dG _ z};show{λb aq=>ei.mpr<|.inl<|jP.mp aq,λi h h' st k=>⟨k _ (.head _) _ st.1,st.2.kept λo z=>k d (.tail _<|.head _) o z⟩,λi s' Q E hi st q=>?_,λs' Q E st q=>?_,λi s' Q E st q=>?_}
  .show O4 bh st.2 st.1 (λe h' z at2 bP=>?_) λz=>?_
   .show q _ h' s'.toks {(e),z,D} {at2,st.2.kept λo y=>bP d o ne y} λb o aq y=>bP b o (by simpa using aq) y
   .rw[rH hi]at z;ext z
  .show O4 bh st.2 st.1 (λe h' z _ _=>?_) λ_ h' bP=>q h' s'.toks λb o aq y=>bP b o (by simpa using aq) y;rw[FC<|b3 _]at z;ext z
  .show wpAny_pyIter_keyiter {_,st.1,D,D} q
end
section
variable {X:bL}{L:X7}
def alY(bh:X.A.handled=C):ff X L (λus=>call (.type "list") us) Hk:=by
 intro B ae s U H aa us aD n t m Q I bb aZ aJ e k
 induction aD using Yn with
 |nil=>ext e
 |cons dI e3 =>
  induction dI using T.casesOn with
  |eh ks =>
   induction e3 using Yn with
   |nil =>
    ext e
    let(v,rfl,a,ws,rfl,na,cf,rfl):=hL aZ;let(u,rfl,eF):=bb.one
    ext eF
    let(z,hd,r,bN,o,es,ep,af,ao,a6,cS,_):=SU I.bE cf;let b9:es.O=ws.H:=by rw[<-fP,cS,cj,cj]
    show W.kdl_call (alX (es:=es) (ep:=ep) hd) bh {(o),af,ao,a6} (by rw[b9];show z) λh' tk Fa c bP fc hi=>?_;let(aa,aR,a4):=sv (L:=L) (H:=H) (xs:=(ws.map (·.1)).map bu) (us:=Fa.B) (by rw[fP,hi.1,cj,cj,b9]) λi w e=>by
     let(qp,g1,rfl):=hi.2 i w (by rw[<-js];show e);rw[<-js,cS,hN,hN]at g1;cases y:ws[i]? with
     |none=>rw[y]at g1;ext g1
     |some p =>
      rw[y]at g1;let g1:entryOfKey (I0 X.R X.w) (tb p)=qp:=Yt g1;subst g1;show{.ref p.2,bu p.1,D,by rw[hN,hN,y];rfl,aj8<|r p<|Be y}
    let aF:H s.L=C:=I.bE.fresh<|b3 _;let d1:=I.laid (a:=s.L) (o:=.aj aa) (t':=tk) (h':=h') bP (b3 _) {by rw[aR.H,fP,hi.1,b9];show z,Fa.B,c,aR,by simpa using fc};show{.ref s.L,_,d1,D,k _ _ (.new aF) (aJ.new aF) {_,D,aF,_,eS,bJ.mono (.new aF) _ _ a4}}
   |cons _ _=>ext e
  |_=>ext e
end
variable {X:bL}{L:X7}
def acv(T:s.TypeIs (.ref d) "dict")(b1:A.units<fh)(q:Q (.bool Y1) s):ba Z7 A (richCompare .Eq .none<|.ref d) Q E s:=by show SeqAt.rc_eq_decline_or (k:=Y1) D T Z0 F.sub_dict_NoneType F.slot_NoneType_eq F.slot_dict_eq_refl (λ_ y=>call_gives F.slot_NoneType_eq D F.entry_NoneType_eq (F.args_NoneType_eq_2 _ _) (SeqAt.NoneType___eq___none_ref_0 d) y) (λeJ y=>?_) (λ_ y=>vQ (rfl:isSame .none (.ref d)=pure Y1) y) (.inr b1) q;show mt F.slot_dict_eq_refl T F.entry_dict_eq ?_<|F.args_dict_eq_2 _ _;let two:ba Z7 A.in1 (Builtin.Dict.dictSlotArgs "__eq__" ⟨[.ref d,.none],[]⟩) (λv s'=>v=(.ref d,.none)/\s'=s) (λ_ _=>Ym) s:=aU<|FP T<|bG ⟨D,D⟩;show aU (m:=Builtin.Dict.dictSlotArgs _ _) (g5 two (λv s' z=>?_) λ_ _ z=>z.elim);let(rfl,rfl):=z;show aU<|tE (T:="NoneType") (b:=Y1) D F.sub_NoneType_dict ?_;show aU<|jt ?_;show bG {_,D,y}
def aie(b1:X.A.units+6<fh)(O6:X.A.units<fh):ff X L (two<|gJ .Eq) AW:=by
 intro B ae s U H aa us aD n t m Q I bb aZ aJ e k;let key:(aD=[.bR,.a3 []]/\t=.a5 Y1/\m=.ah)\/hY n aD=J (t,m):=by
  delta AW at e;split at e
  .ext e;show .inl {(D),D,D}
  .show .inr e
 rcases key with⟨rfl,rfl,rfl⟩|e
 .let(v,w,rfl,bp,b8):=lU aZ;let(fR,gw,rfl,aR,a4):=bb.two;let bp:aH L H .bR v:=bp;rw[aH]at bp;subst bp
  ext aR
  let(a,ws,rfl,_,cf,_):=b8
  ext a4
  let(_,_,us,_,dd):=iA I.bE cf;show acv dd.typeIs O6 {.a5 Y1,H,I,D,k _ H (.refl _ _) aJ<|by show aH L H (.a5 Y1) _;rw[aH]}
 .show SK b1 (NA O6) B ae s U H aa us aD n t m Q I bb aZ aJ e k
end a9.bD
namespace a9.bD
open PySem PySem.Spec PyProof.Rows a9.Tm
inductive nL (h:Yg):O ay->O Z1->Prop
 |nil:nL h [] []
 |cons {v:ay} {l:O X6} {aa:O ay} {ls:O Z1}:kc h v l->nL h aa ls->nL h (v::aa) (l::ls)
def oM(h:Yg)(v:ay)(ls:O Z1):Prop:=∃p o xs n,v=.ref p/\h.get? p=J o/\o.cls=.type "tuple" /\ o.e=.seq xs n/\nL h xs.B ls/\ls≠[]/\∀l∈ls,∀x∈l,0<=x
theorem nL.mono(m:∀b o,h.get? b=J o->h'.get? b=J o)(r:nL h aa ls):nL h' aa ls:=by
 induction r with
 |nil=>show .nil
 |cons t _ aT=>show .cons (t.mono m) aT
theorem oM.mono(m:∀b o,h.get? b=J o->h'.get? b=J o)(r:oM h v ls):oM h' v ls:=by let(p,o,xs,n,e,aV,aN,hd,hr,q):=r;show{p,o,xs,n,e,m _ _ aV,aN,hd,hr.mono m,q}
theorem TM:∀(a b:O X6),(∀x∈a,0<=x)->(∀x∈b,0<=x)->∀u v:O X6,ec (a.map (·+1)++0::u) (b.map (·+1)++0::v)=if a=b then ec u v else ec a b
 |[],[],_,_,u,v=>by simp[ec]
 |[],y::b,_,aq,u,v=>by
  let:=aq y<|dF ..;let n:¬ (0:X6)=y+1:=(vL<|Bz this Z0)
  let q:(0:X6)<y+1:=(Bz this Z0)
  simp[ec,n,q]
 |x::a,[],bx,_,u,v=>by
  let:=bx x<|dF ..;let n:¬x+1=(0:X6):=(vK<|Bz this Z0)
  let q:¬x+1<(0:X6):=(tC<|Int.add_nonneg this Z0)
  let n':(x+1==(0:X6))=Y1:=by simpa using n
  erw[cD,rA,tn,qc,ec,n',iK,Ys,reduceCtorEq];simpa using q
 |x::a,y::b,bx,aq,u,v=>by
  let aT:=TM a b (λz hz=>bx z<|dZ _ hz) (λz hz=>aq z<|dZ _ hz) u v;erw[cD,rA,ec,aT,List.cons.injEq];by_cases e:x=y
  .subst e;simp
  .let n:¬x+1=y+1:=by omega
   let q:(x+1<y+1)=(x<y):=by rw[eq_iff_iff];omega
   let n':(x+1==y+1)=Y1:=by simpa using n
   let bH:(x==y)=Y1:=by simpa using e
   erw[n',bH,e,iK,Ys,false_and,q]
def TO(l:O X6)(ls:O Z1):∃x r,g0 (l::ls)=x::r:=by
 delta g0;cases l with
 |nil=>show{_,_,D}
 |cons x l=>show{_,_,D}
def sG(h:Yg):ay->O X6
 |.ref a=>match h.get? a with
  |some o=>match o.e with
   |.seq xs _=>g0<|xs.toList.map<|hg h
   |_=>[]
  |none=>[]
 |_=>[]
theorem nL.eo(r:nL h aa ls):aa.map (hg h)=ls:=by
 induction r with
 |nil=>rfl
 |cons t _ aT=>rw[cD,t.eo,aT]
theorem oM.eo(r:oM h v ls):sG h v=g0 ls:=by
 let(p,o,xs,n,rfl,aV,aN,hd,hr,_):=r
 show(match h.get? p with
  |some o=>match o.e with
   |.seq xs _=>g0<|xs.toList.map<|hg h
   |_=>[]
  |none=>[])=g0 ls
 rw[aV]
 show(match o.e with
   |.seq xs _=>g0<|xs.toList.map<|hg h
   |_=>[])=g0 ls
 rw[hd];show g0 (xs.toList.map<|hg h)=g0 ls;rw[hr.eo]
section
variable {prog:di}{w:cL}{A:dz}{E:ay->aL->Prop}{s:aL}
def alZ{Q:Yc->aL->Prop}(b1:A.units<fh):∀{us aa:O ay} {as bs:O Z1} (i:Y) (fin:Yc),nL s.Q us as->nL s.Q aa bs->(∀l∈as,∀x∈l,0<=x)->(∀l∈bs,∀x∈l,0<=x)->fin=decide (us.H<aa.H)->Q (ec (g0 as)<|g0 bs) s->W.KatLex prog w A Y1 fin Q (us.zip aa) i s:=by
 intro us aa as bs i fin af
 induction af generalizing aa bs i fin with
 |nil =>
  intro ao _ _ hf q;cases ao with
  |nil=>subst hf;show W.kat_nil q
  |@cons v l aa ls _ _ =>
   subst hf;let(x,r,e):=TO l ls;rw[e]at q;show W.kat_nil (by simpa[g0,ec]using q)
 |@cons u l us as t _ aT =>
  intro ao dh cy hf q;cases ao with
  |nil =>
   subst hf;let(x,r,e):=TO l as;rw[e]at q;show W.kat_nil (by simpa[g0,ec]using q)
  |@cons v m7 aa bs t' bY =>
   rw[g0,g0,TM l m7 (dh l<|dF ..)<|cy m7<|dF ..]at q;rw[qbb];show W.kat_cons<|ajV b1 t t' ?_;by_cases e:l=m7
   .subst e;rw[XQ D];rw[Y2 D]at q;show W.kat_yes<|aT (i+1) fin bY (λz hz=>dh z<|dZ _ hz) (λz hz=>cy z<|dZ _ hz) (by rw[hf];simp) q
   .rw[K1 e];rw[Y3 e]at q;show W.kat_no ?_;rw[Bool.false_and];show W.kat_one _ _<|ajW b1 t t' q
def aif{Q:Yc->aL->Prop}(b1:A.units<fh)(ax:oM s.Q x a)(aP:oM s.Q y b)(q:Q (ec (g0 a)<|g0 b) s):ba Z7 A (keyLt' (tuples' Y1) x y) Q E s:=by let(p,o,xs,n,rfl,aV,aN,hd,hr,_,dh):=ax;let(fv,cW,aQ,n',rfl,jc,qH,mr,acw,_,cy):=aP;show W.kat_lt aV hd jc mr ?_;show alZ b1 0 _ hr acw dh cy Z6 q
end
theorem O7:∀{ks:O ay},(∀k∈ks,∃ls,oM h k ls)->∃cq,W.KatTups h ks cq/\cq.H=ks.H/\∀f∈cq,∃l,kc h f l
 |[],_=>{[],.nil,D,λf hf=>by simp at hf}
 |k::ks,r=>by
  let(cq,k1,k2,k3):=O7 (ks:=ks) λgD h'=>r gD<|dZ _ h';let(ls,p,o,xs,n,rfl,aV,aN,hd,hr,sE,_):=r k<|dF ..;have⟨f,l,ax,hf⟩:∃f l,xs[0]?=J f/\kc h f l:=by
   rw[<-js];cases aC:xs.B with
   |nil=>rw[aC]at hr;ext hr;show Yi D sE
   |cons v aa=>rw[aC]at hr;cases hr with
    |cons t _=>show{v,_,D,t}
  show⟨f::cq,.cons aV aN hd ax k1,by simp[k2],λVw I1=>?_⟩;rcases ei.mp I1 with rfl|I1
  .show{(l),hf}
  .show k3 Vw I1
def acx(eo:aa.map (sG h)=ls)(r:∀k∈aa,∃l,oM h k l):IP prog w h aa λx=>rank ls<|sG h x.1:=by
 intro ao;show{tuples' Y1,λA E s dt bP=>{?_,λst x y Q aY ax aP q=>?_}}
 .let(cq,k1,k2,k3):=O7 (h:=s.Q) λk aY=>let ⟨l,z⟩:=r k aY;{l,z.mono bP}
  show W.kat_kind (T:=.type "tuple") k1 (jr<|d0 ao<|dK k2.symm) (λv bX=>?_) Z0 {(D),D};let(l,a,o,xs,n,rfl,aV,aN,_):=k3 v bX;show λA Q E s' k q=>qh {o,k _ _ aV,aN} q
 .let yS:=(sD ax).1;let(l,fA):=r _ yS;let(m7,O8):=r _ (sD aP).1;let q:Q (J<|decide (rank ls (sG h x.1)<rank ls (sG h y.1))) st:=q;rw[zv (by rw[<-eo];show iJ yS),fA.eo,O8.eo]at q;rw[lt'_eq];show cz<|m1 ?_;rw[aY];show cz<|qj<|vO<|aif dt (fA.mono bP) (O8.mono bP) {D,c7 q}
section
variable {X:bL}{L:X7}
theorem O9:∀{xs:O T} {ls:O (O Z1)},uA xs=J ls->xs=ls.map bu
 |[],ls,e=>by ext e;rfl
 |t::r,ls,e=>by
  let(l,aA,av):=b5 (show(vr t).bind _=J ls from e);let(xo,a7,bM):=dm av
  ext bM
  rw[O9 a7,cD];let row:∀{t:T} {l:O X6},xU t=J l->t=ar l:=λ{t l} h=>by
   cases t with
   |aE xs=>rw[nv (show eU xs=J l from h)];rfl
   |_=>ext h
  let X2:∀{xs:O T} {ls:O Z1},ux xs=J ls->xs=ls.map ar:=by
   intro xs
   induction xs with
   |nil=>intro ls h;ext h;rfl
   |cons x xs aT =>
    intro ls h;let(l,af,ao):=b5 (show(xU x).bind _=J ls from h);let(xo,a6,cS):=dm ao
    ext cS
    rw[row af,aT a6];rfl
  cases t with
  |aE xs=>rw[X2 (show ux xs=J l from aA)];rfl
  |_=>ext aA
def aj9{ae:O Z2}{s:aL}{U:St}{H:aI}(I:aO X ae U H s){l:O X6}{v:V}{u:ay}(r:aH L H (ar l) v)(bb:cU v u):kc s.Q u l:=by
 delta ar at r;rw[aH]at r;let(a,fK,rfl,cf,cN):=r
 ext bb
 let(aX,aR,(o,aV,aN,_,n,hd),hz):=I.xW cf;cases sl cN;show{a,o,aX.D,n,D,aV,aN,hd,by simpa using ob aR}
theorem Pa{ae:O Z2}{s:aL}{U:St}{H:aI}(I:aO X ae U H s):∀{ls:O Z1} {aa:O V} {us:O ay},bJ L H (ls.map ar) aa->cA aa us->nL s.Q us ls
 |[],aa,us,r,bb=>by
  cases ig r
  ext bb
  show .nil
 |l::ls,aa,us,r,bb=>by
  let(v,w,rfl,p,q):=gH r;cases bb with
  |cons bp b8=>show .cons (aj9 I p bp)<|Pa I q b8
def aka{ae:O Z2}{s:aL}{U:St}{H:aI}(I:aO X ae U H s){ls:O Z1}{v:V}{u:ay}(g:uB ls=Y0)(r:aH L H (bu ls) v)(bb:cU v u):oM s.Q u ls:=by
 delta bu at r;rw[aH]at r;let(a,fK,rfl,cf,cN):=r
 ext bb
 let(aX,aR,(o,aV,aN,_,n,hd),hz):=I.xW cf;let(g1,g2):=Nb g;show{a,o,aX.D,n,D,aV,aN,hd,by simpa using Pa I cN aR,g1,g2}
theorem Pb{ae:O Z2}{s:aL}{U:St}{H:aI}(I:aO X ae U H s):∀{ls:O (O Z1)} {aa:O V} {us:O ay},ls.all uB=Y0->bJ L H (ls.map bu) aa->cA aa us->us.map (sG s.Q)=ls.map g0/\∀u∈us,∃l,oM s.Q u l
 |[],aa,us,_,r,bb=>by
  cases ig r
  ext bb
  show{D,λu b1=>by simp at b1}
 |l::ls,aa,us,g,r,bb=>by
  rw[ma,gS]at g;let(v,w,rfl,p,q):=gH r;cases bb with
  |cons bp b8 =>
   let K:=aka I g.1 p bp;let(t1,eB):=Pb I g.2 q b8;show{by rw[cD,cD,t1,K.eo],λu b1=>?_};rcases ei.mp b1 with rfl|b1
   .show{_,K}
   .show eB u b1
def al0(anw:X.A.units+6<fh)(bh:X.A.handled=C):ff X L (λus=>call (.builtin "sorted") us) Hv:=by
 intro B ae s U H aa us aD n t m Q I bb aZ aJ e k
 match aD,e with
 |[.aj xs],e =>
  let(v,rfl,r):=hL aZ;let(u,rfl,eF):=bb.one;let(ls,aA,av):=b5 (show(uA xs).bind _=_ from e);split at av
  .rename_i bQ;rw[gS]at bQ
   ext av
   let ax:=O9 aA;subst ax;show Dj (NC bh I r eF D λus aa h' tk af ao a6 bP=>?_);let(eo,tt):=Pb (I.kept (t':=s.toks) bP) bQ.1 ao af;show{_,a6,λ_=>(acx eo tt).at (by rw[in1_units,in1_units];omega),λuQ ij eA jg he aF uR=>?_};let sA:ij.Perm<|YG us:=aF;let(cy,av):=abZ (kf:=sG h') eo sA uR;let pK:bJ L H ((ls.map g0).map λc=>bu<|dec c) aa:=by
    rw[be];let:(ls.map<|(λc=>bu<|dec c)∘g0)=ls.map bu:=lq λl aC=>by show bu (dec<|g0 l)=bu l;rw[dec_enc l (Nb<|hO.mp bQ.1 l aC).2]
    rw[this];show ao
   let(ws,fs,gC):=ab0 (mk:=λc=>bu<|dec c) (kf:=sG h') af pK eo cy;rw[av]at gC;let bf:aO X ae U H { s with heap:=h',toks:=tk}:=I.kept bP;let hf:H h'.E.O=C:=bf.bE.fresh<|b3 _;let d1:=bf.laid (a:=h'.E.O) (o:=.aj ws) (t':=tk) (h':=uQ) jg (b3 _) {by rw[fs.H,cy.length_eq];show a6,(ij.map (·.2)).B,eA,fs,by rw[yk];show he};show{.ref h'.E.O,_,d1,D,k _ _ (.new hf) (aJ.new hf) {_,D,hf,_,eS,bJ.mono (.new hf) _ _ gC}}
  .ext av
end
end a9.bD
namespace a9.bD
open PySem PySem.Spec PyProof.Rows
def l3:X8 h4->Yc
 |some (.d3 _ (.aj _))=>Y0
 |_=>Y1
def hs(H:aI):aI:=λb=>if l3 (H b) then C else H b
def back(H ak:aI):aI:=λb=>if l3 (H b) then H b else ak b
def kd(bs:O X7)(H:aI):aI:=λb=>if b∈bs then(match H b with
 |some (.d3 _ (.aj aa))=>J<|.aj aa
 |o=>o) else H b
def I2(h:l3 o=Y0):∃b2 aa,o=J (.d3 b2<|.aj aa):=by
 delta l3 at h;split at h
 .show{_,_,D}
 .ext h
def Pc(h:H b=J o)(aq:b∉bs):kd bs H b=J o:=by delta kd;rw[Y3 aq];show h
def Ac(h:H b=J o)(hf:l3 (J o)=Y1):kd bs H b=J o:=by
 delta kd;split
 .rw[h];split
  .rename_i e;ext e;ext hf
  .rfl
 .show h
section
variable {X:bL}{ae:O Z2}{U:St}{H:aI}{s:aL}{L:X7}
theorem _root_.a9.aO.kd(I:aO X ae U H s)(aq:∀b∈bs,∀o u,X.du b≠J (.d3 o u)):aO X ae U (kd bs H) s:=by
 let nn:∀b,H b=C->bD.kd bs H b=C:=λb e=>by
  delta bD.kd;split
  .rw[e]
  .show e
 show{I.ok,I.os,I.dE,{I.d.keep,I.d.slot,λb o e n x=>nn b<|I.base.free b o e n x,I.d.there,λb xs e=>Ac (I.base.nF b xs e) D,λb o u e=>?_},I.loc,I.cell,nn _ I.free,λx c e=>nn _<|I.kO x c e,λp aF=>?_,λa o e=>?_,I.len}
 .show Pc (I.base.l2 b o u e) λmF=>aq b mF o u e
 .let(af,ao,a6):=I.pin p aF;show{af,nn _ ao,a6}
 .let st:∀{eM:h4},fN X.R X.w H s.Q a eM->fN X.R X.w (bD.kd bs H) s.Q a eM:=λq =>
   q.j8 (λ_ z=>z) λc xs ee=>Ac ee D
  delta bD.kd at e;split at e
  .split at e
   .rename_i b2 aa q
    ext e
    show st (I.bE a _ q).2
   .show st<|I.bE a _ e
  .show st<|I.bE a _ e
end
section
variable {K:Yk}{B:aI}{L:X7}{S S':bA}{n n':Y}{U U':St}{H ak:aI}
def df.sub(R:df K B L S n U H)(aC:S'.H=U'.H)(h:∀(j:Y) (x:T×bk),S'[j]?=J (J x)->S[j]?=J (J x)/\U'[j]?=U[j]?):df K B L S' n U' H :=
 ⟨R.ext,R.aJ,R.j4,aC,λi t e=>let ⟨a,b⟩:=h i _ e;b▸R.ah i t a,λi t e=>let ⟨a,b⟩:=h i _ e;b▸R.cV i t a,λi t e=>let ⟨a,b⟩:=h i _ e;b▸R.az i t a,λi t e=>R.og i t (h i _ e).1,
  λi j t t' a af ao s1 s2=>R.nt i j t t' a (h i _ af).1 (h j _ ao).1 ((h i _ af).2▸s1) ((h j _ ao).2▸s2)⟩
end
section
variable {P:di}{w:cL}{H ak:aI}{h h':Yg}{cq:O X7}{L:X7}
def nB(e:l3 (H b)=Y1):hs H b=H b:=by delta hs;rw[e];rfl
def Pd(e:l3 (H b)=Y0):hs H b=C:=by delta hs;rw[e];rfl
def I3(bE:eY P w H h)(u:fq cq [] (hs H) ak h h')(e:ak b=J o):l3 (H b)=Y1/\back H ak b=J o:=by
 let f:l3 (H b)=Y1:=by
  cases z:l3 (H b) with
  |false=>rfl
  |true =>
   let(b2,aa,q):=I2 z;rw[u.free b b2 (bE b _ q).1 (Pd z) Z6]at e
   ext e
 show{f,by delta back;rw[f];show e}
def al1(bE:eY P w H h)(fr:∀b∈cq,H b=C)(u:fq cq [] (hs H) ak h h')(Kk:eY P w ak h'):eY P w (back H ak) h':=λa o e=>by
 delta back at e;split at e
 .rename_i z;let(b2,aa,q):=I2 z;rw[q]at e;ext e;let(af,ao,aX,m,a6,cS):=bE a _ q;let k:=u.keep a b2 af (Pd z) (λaq=>by rw[fr a aq]at q;ext q) Z6;rw[af]at cS;ext cS;show{(k),ao,aX,m,a6,k}
 .show(Kk a o e).j8 (λ_ z=>z) λc xs q=>(I3 bE u q).2
def akb(bE:eY P w H h)(u:fq cq [] (hs H) ak h h'):fq cq [] H (back H ak) h h':=by
 let aJ:∀b,H b=C->hs H b=C:=λb e=>by rw[nB<|by rw[e];rfl];show e
 show{λb o e n=>u.keep b o e<|aJ b n,λb o e n=>u.slot b o e<|aJ b n,λb o e n x=>?_,u.there,λb xs e=>?_,λb o v e=>?_}
 .delta back;rw[n];show u.free b o e (aJ b n) x
 .delta back;rw[e];show u.nF b xs (by rw[nB<|by rw[e];rfl];show e)
 .cases z:l3 (H b) with
  |true=>delta back;rw[z];show e
  |false=>delta back;rw[z];show u.l2 b o v (by rw[nB z];show e)
def aih(bE:eY P w H h)(u:fq cq [] (hs H) ak h h')(x:dc L (hs H) ak){n n':Y}(t:cR L n<|hs H)(t':cR L n' ak)(e:l3 (ak b)=Y0):H b=C:=by
 let(b2,aa,q):=I2 e;cases z:H b with
 |none=>rfl
 |some o =>
  exfalso;let(f,_):=I3 bE u q;let k:hs H b=J o:=by rw[nB f];show z
  by_cases aq:b=L
  .subst aq;delta cR at t';rw[t']at q;ext q
  let af:=x.to b o k aq;rw[q]at af;cases af;rw[z]at f;cases f
end
mutual
def la:T->Yc
 |.aE xs=>p7 xs
 |.aj _=>Y1
 |.a3 _=>Y1
 |.eh _=>Y1
 |_=>Y0
def p7:O T->Yc
 |[]=>Y0
 |x::xs=>la x&&p7 xs
end
section
variable {L:X7}{H:aI}
mutual
theorem Ad:∀(t:T) (v:V),la t=Y0->aH L H t v->aH L (hs H) t v
 |.bR,v,_,r=>by simpa[aH]using r
 |.a5 b,v,_,r=>by simpa[aH]using r
 |.int i,v,_,r=>by simpa[aH]using r
 |.str x,v,_,r=>by simpa[aH]using r
 |.dQ,v,_,r=>by simpa[aH]using r
 |.b2 a,v,_,r=>by simpa[aH]using r
 |.aE xs,v,h,r=>by rw[aH]at r |-;let(a,aa,e,p,q):=r;show{a,aa,e,by rw[nB<|by rw[p];rfl];show p,I4 xs aa h q}
 |.eh ks,v,h,r=>by ext h
 |.aj xs,v,h,r=>by ext h
 |.a3 xs,v,h,r=>by ext h
theorem I4:∀(t:O T) (v:O V),p7 t=Y0->bJ L H t v->bJ L (hs H) t v
 |[],v,_,r=>by rw[bJ]at r |-;show r
 |x::xs,v,h,r=>by rw[bJ]at r |-;let(w,iw,e,p,q):=r;let(af,ao):=Bool.and_eq_true_iff.mp (show(la x&&p7 xs)=Y0 from h);show{w,iw,e,Ad x w af p,I4 xs iw ao q}
end
def al2(bE:eY P w H h):eY P w (hs H) h:=λa o e=>by
 delta hs at e;split at e
 .ext e
 .show(bE a o e).j8 (λ_ z=>z) λc xs q=>by rw[nB<|by rw[q];rfl];show q
def al3{n:Y}(t:cR L n H)(x:dc L (hs H) ak)(d:∀b o,ak b=J o->l3 (H b)=Y1):dc L H<|back H ak:=by
 let bT:∀b o,ak b=J o->back H ak b=J o:=λb o e=>by delta back;rw[d b o e];show e
 show⟨λa o e na=>?_⟩;cases z:l3 (H a) with
 |true=>delta back;rw[z];show e
 |false=>show bT a o<|x.to a o (by rw[nB z];show e) na
end
structure oN (h9:aI) (L:X7) (n:Y) (H br:aI) (a:X7) (bs:O X7) (xs:O T):Prop where
 ext:dc L H br
 aJ:cR L n br
 at_:br a=J (.aj<|bs.map .ref)
 e8:H a=C
 cM:∀b∈bs,(∃o aa,br b=J (.d3 o<|.aj aa)/\aa.H<bl)/\H b=C/\∀o u,h9 b≠J (.d3 o u)
 jA:bJ L br xs<|bs.map .ref
def pW:T->Yc
 |.aj aQ=>decide (aQ.H<bl)
 |_=>Y1
theorem Pe:∀{xs:O T} {aa:O V},bJ L H xs aa->xs.all pW=Y0->∃bs:O X7,aa=bs.map .ref/\∀b∈bs,∃o us,H b=J (.d3 o<|.aj us)/\us.H<bl
 |[],_,r,_=>{[],by rw[ig r];rfl,λb aq=>by simp at aq}
 |x::xs,_,r,h=>by
  let(v,w,rfl,p,q):=gH r;rw[ma,gS]at h;let(bs,e,k):=Pe q h.2
  induction x using T.casesOn with
  |aj aQ =>
   rw[aH]at p;let(a,o,us,rfl,z,eF):=p;show⟨a::bs,by rw[e];rfl,λb aq=>?_⟩;rcases ei.mp aq with rfl|aq
   .show{o,us,z,by rw[<-eF.H];show Ld h.1}
   .show k b aq
  |_=>show Yi h.1 (by simp[pW])
def tc(f:c1)(i j k:Y)(S:bA)(n:Y):X8<|O T:=match S[i]?,S[j]?,S[k]? with
 |some (J (t1,.ah)),J (J (.aj aQ,.az)),J (J (t3,.ah))=>(f [(t1,Y0),(.aj aQ,Y1),(t3,Y0)] n).bind λr=>match r with
  |(.aj xs,Y0,n')=>if n'=n/\(la t1&&p7 aQ&&la t3&&xs.all pW)=Y0 then J xs else C
  |_=>C
 |_,_,_=>C
def al4{i j k:Y}{n:Y}(h:tc f i j k S n=J xs):∃t1 aQ t3,S[i]?=J (J (t1,.ah))/\S[j]?=J (J (.aj aQ,.az))/\S[k]?=J (J (t3,.ah)) /\
  f [(t1,Y0),(.aj aQ,Y1),(t3,Y0)] n=J (.aj xs,Y0,n)/\la t1=Y0/\p7 aQ=Y0/\la t3=Y0/\xs.all pW=Y0:=by
 delta tc at h;split at h
 .rename_i t1 aQ t3 aA av a7;let(r,bM,h):=b5 h;split at h
  .split at h
   .rename_i c
    ext h
    let(rfl,c):=c;erw[gS]at c;show{(t1),aQ,t3,aA,av,a7,bM,c.1.1.1,c.1.1.2,c.1.2,c.2}
   .ext h
  .ext h
 .ext h
section
variable {X:bL}{L:X7}{lv:Y}{ps:O Ya}{bU x1 x2 cY:Ya}{p dh cy gN pos:Yh}{f:c1}{i j k:Y}
def Pf{B:aI}{S:bA}{n:Y}{xs:O T}(G:yV X.R X.w X.K X.bj X.d lv bU ps f L)(hd:tc f i j k S n=J xs)(af:X9 (X.N[i]?=J x1) bo)(ao:X9 (X.N[j]?=J x2) bo)(a6:X9 (X.N[k]?=J cY) bo)(v1:kz X.I.Y x1:=by show Or.inl D)(v2:kz X.I.Y x2:=by show Or.inl D)(wu:kz X.I.Y cY:=by show Or.inl D)
  (fy:X9 ((x1==("__debug__" : Ya))=Y1) d7) (g9:X9 ((x2==("__debug__" : Ya))=Y1) d7) (Vx:X9 ((cY==("__debug__" : Ya))=Y1) d7) (b0:X9 ((x1==("__classdict__" : Ya))=Y1) d7) (dP:X9 ((x2==("__classdict__" : Ya))=Y1) d7) (iO:X9 ((cY==("__classdict__" : Ya))=Y1) d7)
  (hr:X9 (fb lv X.A) az9._auto_1) (bq:X9 (ps.H=3) bo) (bQ:X9 (fI X bU) bo) (gz:X9 ((bU==("__debug__" : Ya))=Y1) d7)
  (he:X9 (cc [.Name x1 dh,.Name x2 cy,.Name cY gN] X.I=(Y1,Ur (.Name x1 dh) X.I)::cc [.Name x2 cy,.Name cY gN] X.I) bo) (lV:X9 (cc [.Name x2 cy,.Name cY gN] X.I=(Y1,Ur (.Name x2 cy) X.I)::cc [.Name cY gN] X.I) bo)
  (acy:X9 (cc [.Name cY gN] X.I=(Y1,Ur (.Name cY gN) X.I)::cc [] X.I) bo) (fS:X9 ((fE pos<|cc [.Name x2 cy,.Name cY gN] X.I).any (·.1)=Y1) bo) :
  dH X (.Call (.Name bU p) [.Name x1 dh,.Name x2 cy,.Name cY gN] [] pos) (λU H Q=>df X.K B L S n U H/\∀a bs br,oN X.du L n H br a bs xs->Q (.ref a) br):=by
 let(e8,fd,F,aq,aY,hm):=G;let(t1,aQ,t3,bp,b8,hI,bM,aW,bW,hH,gW):=al4 hd;intro ae s U H Q I ⟨R,q⟩;let(fR,s1,fs):=R.ah i t1 bp;let(a2,s2,cb,gC):=R.az j _ b8;let(yY,s3,rR):=R.ah k t3 hI;let(acz,eQ,a4):=gC;show lz<|wR I bQ hm ?_ gz;show PySem.W.callWith_K (h₀:=X.d) I.ok.mod.ky aY (bZ ((zj (lL af v1 fy b0) (zj (lL ao v2 g9 dP) (zj (lL a6 wu Vx iO) uq acy) lV) he) pos ae s U H (λaa ak=>aa=[fR,.ref a2,yY]/\ak=H) I {fR,s1,.ref a2,s2,yY,s3,D,D}) λus s' ⟨aa,H1,bf,r,ee⟩=>{bf.ib,?_}) he fS;let(rfl,rfl):=ee;let tt:cR L n<|hs H1:=by delta cR;rw[nB<|by rw[show H1 L=_ from R.aJ];rfl];show R.aJ
 let na:a2≠L:=R.tg cb;let args:Args X.K L (hs H1) [(t1,Y0),(.aj aQ,Y1),(t3,Y0)] [fR,.ref a2,yY]:=.cons (λ_=>Ad _ _ aW fs) (eb.A7 tt<|Ad _ _ aW fs)<|.cons (λz=>nomatch z) {a2,acz,D,.inl {na,.inl<|by rw[nB<|by rw[eQ];rfl];show eQ},I4 _ _ bW a4}<|.cons (λ_=>Ad _ _ hH rR) (eb.A7 tt<|Ad _ _ hH rR) .nil
 let' eJ:eW:=λv ak=>dc L (hs H1) ak/\cR L n ak/\Val X.K (hs H1) L (hs H1) ak (.aj xs) .az v
 let sp:w7 X.K L ps.H f [fR,.ref a2,yY] (hs H1) eJ yG:={bq.symm,_,n,_,_,_,args,tt,bM,λv ak x y z=>{(x),y,z}}
 let aC:us.H=ps.H:=by rw[<-r.H,bq];rfl
 let eA:=bf.Kf;let qp:AQ X.R X.w X.K X.bj X.d X.A X.stack s'<|hs H1:=⟨eA.frames,eA.mod,λb o z=>⟨(eA.bs b o z).1,by rw[nB<|by rw[(eA.bs b o z).2];rfl];show(eA.bs b o z).2⟩,eA.nh,eA.kM,λb z=>by rw[nB<|by rw[eA.ni b z];rfl];show eA.ni b z,al2 eA.bE,eA.dE⟩
 show yt (rK (F.run X.A X.stack s' (hs H1) {us,[]} us [fR,.ref a2,yY] eJ yG hr qp (by let:=aq s' us bf.ib (by simpa using aC);simpa using this) r sp) λr s2 a8=>?_);cases r with
 |error e=>show a8.elim
 |ok cM =>
  cases cM with
  |ret u =>
   let(v,ak,os,dE,un,bE,bb,x,y,a,rfl,cT,aa,da,gM):=(show BR X.stack X.R X.w (hs H1) s' eJ u s2 from a8)
   let(bh,g,d,t,G6):=s2;obtain rfl:G6=s'.os:=os;let(bs,rfl,acA):=Pe gM gW;let e1:=λb o (e:ak b=J o)=>I3 bf.bE un e;show{.ref a,back H1 ak,bf.call (h':=bh) (g':=g) (d':=d) (t':=t) (ch:=[]) (akb bf.bE un) (al1 bf.bE eA.ni un bE) dE λb z=>Yi z Z6,bb,q a bs _ ?_};let ax:=al3 R.aJ x λb o e=>(e1 b o e).1;let bU:eu ak<|back H1 ak:=λb=>{λaa e=>(e1 b _ e).2,λo u e=>(e1 b _ e).2}
   show{ax,(e1 L _ y).2,(e1 a _ da).2,?_,λb aq=>?_,bJ.mono bU _ _ gM}
   .cases w:H1 a with
    |none=>rfl
    |some o=>rw[nB (e1 a _ da).1,w]at cT;ext cT
   .let(o,q4,w,lt):=acA b aq;let bq:=aih bf.bE un x tt y (b:=b) (by rw[w];rfl);show⟨{o,q4,(e1 b _ w).2,lt},bq,λo u e=>by rw[bf.base.l2 b o u e]at bq;ext bq⟩
  |_=>show Yz a8
end
section
variable {X:bL}{L:X7}
def Tr:V->O V->aI->eW->Prop:=λx aa H Q=>∃l xs,x=.ref l/\aa=[]/\H l=J (.aj xs)/\Q .bR (cO H l<|.aj [])
def al5:Hd X "list.clear" Tr:=by
 intro ae s U H x aa v us Q I cJ bb h;let(l,xs,rfl,rfl,m6,q):=h
 ext cJ
 cases bb;let(z,aX,n,r,aC,e):=I.Kh m6;show mV F.slot_list_clear {_,e,D} F.entry_list_clear (F.args_list_clear_1 _) (PySem.AutoSeq1.list_clear_list_0 l aX.D n<|by rw[eL];omega) {e,?_};show{.bR,_,I.Kg (its':=[]) m6 e D .nil<|f9 _,D,q}
def A0(i:Y):jW:=λLk U H=>∃b aa,U[i]?=J (J<|.ref b)/\H b=J (.aj aa)/\aa.H<c3/\∀iU:O V,iU.H<=aa.H+1->Lk.bS U (cO H b<|.aj iU)
def akc(i:Y){j pc}(dA:X9 (X.N[i]?=J x) bo)(mH:kz X.I.Y x:=by show Or.inl D)(hd:X9 ((x==("__debug__" : Ya))=Y1) d7)
  (f3:X9 ((x==("__classdict__" : Ya))=Y1) d7) (jo:X9 (mU (.Name x dD) "append" X.env (Ur (.Name x dD) X.I)=Ur (.Name x dD) X.I) bo)
  (vf:X9 (((fE dk<|cc [.Constant .none j pc] X.I).all (λx=>!x.1)&&(vV dk<|vP [] X.I).all (λx=>x.1.isSome)
   && decide (([.Constant .none j pc]:O Yd).H+([]:O mZ).H+(if([]:O mZ).isEmpty then 0 else 1)<30))=Y0) bo)
  (jq:X9 ((apos.endLine==dk.line)=Y0) bo) (aM:X9 (cc [.Constant .none j pc] X.I=(Y1,Ur (.Constant .none j pc) X.I)::cc [] X.I) bo) (vq:X9 ((fE dk<|cc [] X.I).any (·.1)=Y1) bo) :
  jX X (.Expr (.Call (.Attribute (.Name x dD) "append" apos) [.Constant .none j pc] [] dk) pos) (A0 i):=by
 intro ae s U H Lk I ⟨b,aa,aA,av,a7,k⟩;show uo (EK PySem.F.plainAttrs_list PySem.F.slot_list_append PySem.F.type_list_append Cv (lL dA mH hd f3) (zj Tg uq aM) jo vf jq aM vq) (by rfl) ae s U H Lk I
  {.ref b,aA,.inl {D,aa,fw.of av},b,aa,.bR,D,D,av,a7,k _ Z6}
def akd(i:Y)(dA:X9 (X.N[i]?=J x) bo)(mH:kz X.I.Y x:=by show Or.inl D)(hd:X9 ((x==("__debug__" : Ya))=Y1) d7)
  (f3:X9 ((x==("__classdict__" : Ya))=Y1) d7) (jo:X9 (mU (.Name x dD) "clear" X.env (Ur (.Name x dD) X.I)=Ur (.Name x dD) X.I) bo) (jq:X9 ((apos.endLine==dk.line)=Y0) bo) :
  jX X (.Expr (.Call (.Attribute (.Name x dD) "clear" apos) [] [] dk) pos) (A0 i):=by
 intro ae s U H Lk I ⟨b,aa,aA,av,a7,k⟩;show uo (ahh PySem.F.plainAttrs_list PySem.F.slot_list_clear PySem.F.type_list_clear al5 (lL dA mH hd f3) jo jq) (by rfl) ae s U H Lk I
  {.ref b,aA,.inl {D,aa,fw.of av},b,aa,D,D,av,k _ Z6}
structure L3 (a:X7) (bs:O X7) (H:aI):Prop where
 at_:H a=J (.aj<|bs.map .ref)
 na:a∉bs
 mv:bs.H<=100
 each:∀b∈bs,∃aa,H b=J (.aj aa)/\aa.H<bl
def TP{k:Y}{x:Ya}{iter:Yd}{st:Yf}{dD pos:Yh}{P:St->aI->Prop}{Post:St->aI->X7->O X7->aI->Prop}(aN:X.calm=Y0)(ax:X.cu=λ_ _=>Ym)(hi:dH X iter (λU H Q=>P U H/\∀a bs H1,Post U H a bs H1->Q (.ref a) H1))
  (aF:∀U H a bs H1,Post U H a bs H1->L3 a bs H1/\k<U.H) (dA:X.N.Nodup) (af:X.N[k]?=J x) (aC:Loc X.I.Y x) (aq:jX X st<|A0 k) (hf:X.fn x=Y0\/X.env.scope.names.lookup x=J .local:=by first|show .inl D|show .inr D) (aM:X9 (∀x,lA iter X.I x=pure x) qx) :
  jX X (.For (.Name x dD) iter [st] [] pos) (λLk U H=>P U H/\∀a bs H1,Post U H a bs H1->∀U' ak,U'.H=U.H->(∀j,j≠k->U'[j]?=U[j]?)->(∀c o,c∉bs->H1 c=J o->ak c=J o)->Lk.bS U' ak):=by
 intro ae s U H Lk I ⟨ez,kk⟩;let acB:vT Z3 X.A X.I X.cu:=by rw[ax];show PassesOwn.never
 show G0 acB aN (aiU hi) (Co dA af aC hf) (GW aq) aM ae s U H Lk I {ez,λa bs H1 po=>?_};let(M,aY):=aF _ _ _ _ _ po;show{a,D,{_,fw.of M.at_},λi m U' ak=>m=bs.H-i/\i<=bs.H/\U'.H=U.H/\(∀j,j≠k->U'[j]?=U[j]?)/\(∀c o,c∉bs->H1 c=J o->ak c=J o)/\∀b∈bs,∃aa,ak b=J (.aj aa)/\aa.H<bl+i,{bs.H,D,f9 _,D,λ_ _=>D,λ_ _ _ e=>e,M.each},?_};rintro i m U2 br ⟨rfl,jH,eQ,s2,k2,av⟩;let at2:fw X.K br a<|bs.map .ref:=fw.of<|k2 a _ M.na M.at_;by_cases dp:i<bs.H
 .right;let lh:bs[i]∈bs:=l9 dp;show{{_,.ref bs[i],at2,by simp[dp]},λU' ak=>i+1<=bs.H/\U'.H=U.H/\(∀j,j≠k->U'[j]?=U[j]?)/\(∀c o,c∉bs->H1 c=J o->ak c=J o)/\∀b∈bs,∃aa,ak b=J (.aj aa)/\aa.H<bl+(i+1),λU' ak q=>{bs.H-(i+1),by omega,D,q},λx ak y=>?_};let(rfl,y):=y;let y:=y _ at2;let:x=.ref bs[i]:=by simpa[dp]using y.symm
  subst this;let(aa,a7,bM):=av _ lh;let qT:bl+100<=c3:=by rw[kR];decide
  let anc:=M.mv;show{bs[i],aa,by rw[rv<|by rw[eQ];show aY],a7,by omega,λiU bX=>{dp,by rw[jQ];show eQ,λj bO=>by rw[tj<|Yw bO];show s2 j bO,λc o aN e=>?_,λb aq=>?_}}
  .rw[ea<|by rintro rfl;show aN lh];show k2 c o aN e
  .by_cases Pg:b=bs[i]
   .subst Pg;show{iU,eS,by omega}
   .rw[ea Pg];let(us,aR,a4):=av b aq;show{us,aR,lu a4}
 .left;show{{_,at2,by rw[cj];show g4 dp},kk a bs H1 po U2 br eQ s2 k2}
def Ae(k:Y)(f:c1)(i j l:Y):bw:=λS n=>(tc f i j l S n).bind λxs=>if xs.H<=100/\k<S.H then J (.bS,S.set k C,n) else C
def oN.jU{n:Y}(t:cR L n H)(T:oN h9 L n H br a bs xs)(x:dc L br dr)(aC:xs.H<=100):L3 a bs<|kd bs dr:=by
 let na:a∉bs:=λh=>by let((o,aa,e,_),_):=T.cM a h;rw[T.at_]at e;ext e
 let qE:a≠L:=t.qb T.e8;show{Ac (x.to a _ T.at_ qE) D,na,by let:=T.jA.H;rw[cj]at this;omega,λb aq=>?_};let((o,aa,e,lt),f,_):=T.cM b aq;let e:=x.to b _ e<|t.qb f;show{aa,by delta kd;rw[Y2 aq,e],lt}
def oN.over{n:Y}(t:cR L n H)(T:oN h9 L n H br a bs xs)(x:dc L br dr)(h:∀c o,c∉bs->kd bs dr c=J o->ak c=J o):dc L H ak:=by
 let e:=T.ext.trans x;let nb:∀c o,H c=J o->c∉bs:=λc o z aN=>by rw[(T.cM c aN).2.1]at z;ext z
 show⟨λc o z qE=>h c o (nb c o z)<|Pc (e.to c o z qE)<|nb c o z⟩
def al6{k i j l:Y}{x:Ya}{iter:Yd}{st:Yf}{dD pos:Yh}{f:c1}(aN:X.calm=Y0)(ax:X.cu=λ_ _=>Ym)
  (hi:∀{B:aI} {S:bA} {n:Y} {xs:O T},tc f i j l S n=J xs->dH X iter (λU H Q=>df X.K B L S n U H/\∀a bs br,oN X.du L n H br a bs xs->Q (.ref a) br))
  (dA:X.N.Nodup) (aq:jX X st<|A0 k) (af:X9 (X.N[k]?=J x) bo) (aC:Loc X.I.Y x:=by show Or.inl D) (hf:X.fn x=Y0\/X.env.scope.names.lookup x=J .local:=by first|show .inl D|show .inr D) (aM:X9 (∀x,lA iter X.I x=pure x) qx) :
  gj X L (.For (.Name x dD) iter [st] [] pos) (Ae k f i j l):=by
 intro B S n cM S' n' hd ae s U H Lk I ⟨R,q⟩;let(xs,aA,av):=b5 hd;split at av
 .rename_i bh;let(d5,aY):=bh
  ext av
  let fD:dH X iter (λU H Q=>df X.K B L S n U H/\∀a bs H1,(∃br,oN X.du L n H br a bs xs/\H1=kd bs br/\df X.K B L S n U H)->Q (.ref a) H1):=λae s U H Q I ⟨R,q⟩ =>
   bZ (hi aA ae s U H (λv br=>∃a bs,v=.ref a/\oN X.du L n H br a bs xs) I {R,λa bs br T=>{(a),bs,D,T}}) λu s' ⟨v,br,cI,bb,a,bs,e,T⟩=>by subst e;show{.ref a,_,cI.kd λb aq o u=>(T.cM b aq).2.2 o u,bb,q a bs _ {(br),T,D,R}}
  show TP aN ax fD (λU H a bs H1 ⟨br,T,e,R⟩=>{e▸T.jU R.aJ (.refl _ _) d5,R.len▸aY}) dA af aC aq hf aM ae s U H Lk I {R,λa bs H1 ⟨br,T,e,_⟩ U' ak eQ s2 k2=>?_};subst e;let x:=T.over R.aJ (.refl _ _) k2;let aJ:cR L n ak:=k2 L _ (λh=>by let:=(T.cM L h).2.1;rw[show H L=_ from R.aJ]at this;ext this)<|Ac T.aJ rfl;show q U' ak (x.bU R.aJ) ((R.mono x aJ).sub (by rw[jQ,eQ];show R.len) λm y z=>?_);by_cases hm:m=k
  .subst hm;rw[rv aY]at z
   ext z
  .rw[tj<|Yw hm]at z;show{z,s2 m hm}
 .ext av
def Af(k mn:Y)(f:c1)(i j l:Y)(yK:eX):bw:=λS n=>(tc f i j l S n).bind λxs=>if xs.H<=100/\k<S.H/\mn<S.H/\mn≠k then(yK (S.set mn<|some (.aj xs,.az)) n).bind λr=>if r.1=Y1/\r.2=n then J (.bS,(S.set mn C).set k C,n) else C else C
def acC{k mn i j l:Y}{x y:Ya}{iter c:Yd}{st:Yf}{aD rest:O Yf}{dD py Ph Sn iX afF:Yh}{f:c1}{yK:eX}{d:bw}(aN:X.calm=Y0)(ax:X.cu=λ_ _=>Ym)
  (hi:∀{B:aI} {S:bA} {n:Y} {xs:O T},tc f i j l S n=J xs->dH X iter (λU H Q=>df X.K B L S n U H/\∀a bs br,oN X.du L n H br a bs xs->Q (.ref a) br))
  (cE:ST X L c yK) (hr:ho X L rest d) (dA:X.N.Nodup) (aq:jX X st<|A0 k) (af:X9 (X.N[k]?=J x) bo) (ao:X9 (X.N[mn]?=J y) bo) (aC:Loc X.I.Y x:=by show Or.inl D) (Ni:Loc X.I.Y y:=by show Or.inl D) (bX:kz X.I.Y y:=by show Or.inl D)
  (hf:X.fn x=Y0\/X.env.scope.names.lookup x=J .local:=by first|show .inl D|show .inr D) (HO:X.fn y=Y0\/X.env.scope.names.lookup y=J .local:=by first|show .inl D|show .inr D) (aM:X9 (∀x,lA (.Name y Ph) X.I x=pure x) qx)
  (uE:X9 (nW iter (J<|.Name y py) Sn.line X.I=pure Y1) bo) (hd:X9 ((y==("__debug__" : Ya))=Y1) d7) (f3:X9 ((y==("__classdict__" : Ya))=Y1) d7) :
  ho X L (.Assign [.Name y py] iter Sn::.If c aD [] iX::.For (.Name x dD) (.Name y Ph) [st] [] afF::rest) (bC (Af k mn f i j l yK) d):=by
 intro B S n cM S' n' mr ae s U H Lk I ⟨R,q⟩;let((f1,S1,aW),eA,a7):=b5 mr;let(xs,aA,av):=b5 eA;split at av
 .rename_i bh;let(d5,aY,Ic,sE):=bh;let((b,bW),bM,d9):=b5 av;split at d9
  .rename_i qT;let(rfl,rfl):=qT
   ext d9
   let a7:d ((S.set mn C).set k C) bW=J (cM,S',n'):=a7
   show pD (Cp dA ao Ni (hi aA) uE HO) (pD (t:=λLk U' ak=>df X.K B L (S.set mn<|some (.aj xs,.az)) bW U' ak/\∀dr,dc L ak dr->cR L bW dr->Lk.bS U' dr) ?_
    (pD (TP (P:=λU' dr=>∃a bs br,U'[mn]?=J (J<|.ref a)/\k<U'.H/\oN X.du L bW H br a bs xs/\dc L br dr/\cR L bW dr)
     (Post:=λU' dr a bs H1=>U'[mn]?=J (J<|.ref a)/\k<U'.H/\∃br,oN X.du L bW H br a bs xs/\dc L br dr/\cR L bW dr/\H1=kd bs dr)
     aN ax ?_ (λU' dr a bs H1 ⟨_,zC,br,T,x,_,e⟩=>{e▸T.jU R.aJ x d5,zC}) dA af aC aq hf aM) (hr B _ bW cM S' n' a7))) ae s U H Lk I {R,λa bs br T=>?_}
   .intro ae s U' ak Lk I ⟨tS,q⟩;show wpAny_If (bZ (cE.run bM I tS) λy s1 ⟨hx,H1,bf,a1,bt⟩=>?_);subst hx;show vM {U',H1,bf,q H1 a1 bt.aJ}
   .intro ae s U' dr Q I ⟨⟨a,bs,br,e,zC,T,x,aJ⟩,q⟩;show bZ (lL ao bX hd f3 ae s U' dr (λv ak=>v=.ref a/\ak=dr) I {_,e,D,D}) λu s' ⟨v,ak,d1,bb,ev,yE⟩=>by subst ev yE;show{.ref a,_,d1.kd λb aq o u=>(T.cM b aq).2.2 o u,bb,q a bs _ {(e),zC,br,T,x,aJ,D}}
   .let Vy:=R.store T.ext T.aJ (show Val X.K B L H br (.aj xs) .az (.ref a) from⟨a,rfl,T.e8,_,T.at_,T.jA⟩) (i:=mn) D;show{Vy,λdr x aJ=>{⟨a,bs,br,rv<|R.len▸Ic,by rw[jQ];show R.len▸aY,T,x,aJ⟩,λgV anx H1 ⟨cf,_,anz,i6,nc,Hw,e⟩ U' ak eQ s2 k2=>?_}};subst e;let L4:=i6.over R.aJ nc k2;let acD:cR L bW ak:=k2 L _ (λh=>by let:=(i6.cM L h).2.1;rw[show H L=_ from R.aJ]at this;ext this)<|Ac Hw rfl;show⟨(R.mono L4 acD).sub (by rw[jQ,jQ,eQ,jQ];show R.len) λm y z=>?_,q.bU<|L4.bU R.aJ⟩;by_cases hm:m=k
    .subst hm;rw[rv<|by rw[jQ];show aY]at z
     ext z
    .rw[tj<|Yw hm]at z;by_cases I5:m=mn
     .subst I5;rw[rv Ic]at z
      ext z
     .rw[tj<|Yw I5]at z;show{z,(s2 m hm).trans (tj<|Yw I5)}
  .ext d9
 .ext av
def A1(a b:bK):bK:=λS n=>(a S n).bind λr=>match r.1 with
 |.bR=>b S r.2.2
 |.aj []=>b S r.2.2
 |.aj (_::_)=>J r
 |_=>C
def aii{a b:Yd}{dC db:bK}{pos:Yh}(af:bI X L a dC)(ao:bI X L b db):bI X L (.BoolOp .Or [a,b] pos)<|A1 dC db:=by
 intro B S n t m n' hd ae s U H Q I ⟨R,k⟩;let((x,c9,aW),aA,av):=b5 hd;show BoolOp_or (bZ (af.run aA I R) λu s1 ⟨v,H1,bf,bp,a1,bt,b0⟩=>?_);let aZ:=b0.root bt R.aJ
 match x,av,aZ,b0 with
 |.bR,av,aZ,b0 =>
  show w6 bf bp aZ (b:=Y1) D λs2 cI=>?_;show(HD ao) B S aW t m n' av ae s2 U H1 Q cI {bt,λv ak p q r=>k v ak (a1.trans p) q<|r.back a1 bt.aJ}
 |.aj [],av,aZ,b0 =>
  show w6 bf bp aZ (b:=Y1) D λs2 cI=>?_;show(HD ao) B S aW t m n' av ae s2 U H1 Q cI {bt,λv ak p q r=>k v ak (a1.trans p) q<|r.back a1 bt.aJ}
 |.aj (y::aQ),av,aZ,b0 =>
  show w6 bf bp aZ (b:=Y0) (by simp[k6]) λs2 cI=>?_
  ext av
  show{v,H1,cI,bp,k v H1 a1 bt.aJ b0}
end
end a9.bD
namespace a9.bD
open PySem
def Pj(ns:O X6)(i:X6)(h0:0<=i)(af:i<ns.H):∃c∈ns,hD (ns.map T.int) i=J (.int c):=by
 let h:i.M<ns.H:=by lia
 show{ns[i.M],l9 h,?_};delta hD;rw[Y2 h0,Y2<|by simpa using af];simp[h]
def DA(k:Y)(ns:O X6):(ns.map T.int).all (dJ k)=Y0:=by rw[vB,hO];intro x _;ext k<;>rfl
theorem ov:∀l:O X6,eU (l.map T.int)=J l
 |[]=>rfl
 |x::xs=>by show(eU<|xs.map T.int).map (x::·)=_;rw[ov xs];rfl
theorem I6{α:Type}(f:α->T):∀l:O α,(∀x∈l,f x=.a5 Y0)->∃bs,nM (l.map f)=J bs/\bs.all id=Y0
 |[],_=>{[],D,D}
 |x::xs,h=>by
  let(bs,e,a):=I6 f xs λy aP=>h y<|dZ _ aP
  show⟨Y0::bs,by
   rw[cD,h x<|dF ..];show(nM<|xs.map f).map (Y0::·)=_
   rw[e];rfl,by simpa using a⟩
theorem Pk:∀{ls:O Z1},(∀l∈ls,l≠[])->oe (ls.map ar)=J ls
 |[],_=>rfl
 |l::ls,h=>by
  let aT:=Pk (ls:=ls) λl aC=>h l<|dZ _ aC;cases l with
  |nil=>show Yi D<|h []<|dF ..
  |cons x xs =>
   let:=ov<|x::xs;rw[cD]at this;show(eU<|.int x::xs.map T.int).bind (λl=>(oe<|ls.map ar).map (l::·))=_;rw[this,aT];rfl
def I7{i:Y}{n n':Y}(h:d S n=J (t,.az,n'))(hi:S[i]?=J (J (u,.az)))(bQ:g u t=J t'):h2 i g d S n=J (.bS,S.set i<|some (t',.az),n'):=by delta h2 cg;erw[h,gb,d3,vI,hi,bQ]
def uV(lo hi:X6):(h1 lo hi).H=(hi-lo).M:=by simp[h1]
end a9.bD
namespace a9.bD
open PySem
def q9{α:Type}{i:Y}{n:Y}(aQ:O α)(g:α->T)(p:α->Yc)(f:α->T)(hi:it S n=J (aQ.map g,n))(aC:aQ.H<=bl)
  (h:∀y∈aQ,c ((ck l S).set i (J (g y,.ah))) n=J (p y,n)/\(p y=Y0->cg e ((ck l S).set i (J (g y,.ah))) n=J (f y,.ah,n))) :
  er it (ck l) (cC i) c e S n=J (.aj<|(aQ.filter p).map f,.az,n):=by
 let gen:∀(zs:O α) (S0:bA) (Fa:O T),(∀y∈zs,y∈aQ)->(∀v,S0.set i v=(ck l S).set i v)->Fa.H+zs.H<=bl->j1 (cC i) c e (zs.map g) S0 n Fa=J (Fa++(zs.filter p).map f,n):=by
  intro zs
  induction zs with
  |nil=>intro S0 Fa _ _ _;simp[j1]
  |cons z zs aT =>
   intro S0 Fa hz yZ aq;rw[d4]at aq;let(af,ao):=h z<|hz z<|dF ..;let Ag:∀v,((ck l S).set i (J (g z,.ah))).set i v=(ck l S).set i v:=λv=>by rw[Bl]
   rw[cD];delta j1;erw[cC,gb,yZ,af];cases aF:p z with
   |true =>
    erw[Yq,ao aF,gb];rw[Y2<|tq aq,aT _ _ (λy aP=>hz y<|dZ _ aP) Ag<|by simp;lia];simp[aF]
   |false =>
    erw[iK,Ys];rw[aT _ _ (λy aP=>hz y<|dZ _ aP) Ag<|ed aq];simp[aF]
 delta er;rw[hi];erw[gb];rw[gen aQ _ [] (λ_ h=>h) (λ_=>D)<|by simpa using aC];rfl
def jI{α:Type}{i:Y}{n:Y}(aQ:O α)(g:α->T)(f:α->T)(hi:it S n=J (aQ.map g,n))(aC:aQ.H<=bl)
  (h:∀y∈aQ,cg e ((ck l S).set i (J (g y,.ah))) n=J (f y,.ah,n)) :
  er it (ck l) (cC i) yes e S n=J (.aj<|aQ.map f,.az,n):=by
 rw[q9 aQ g (λ_=>Y0) f hi aC λy aP=>{D,λ_=>h y aP},E8.mpr λ_ _=>D]
def al7{α:Type}{i j:Y}{n:Y}(aQ:O α)(g g':α->T)(p:α->Yc)(f:α->T)(iD:i≠j)(hi:it S n=J (aQ.map λy=>.aE [g y,g' y],n))(aC:aQ.H<=bl)
  (h:∀y∈aQ,c (((ck l S).set i (J (g y,.ah))).set j (J (g' y,.ah))) n=J (p y,n)/\(p y=Y0->cg e (((ck l S).set i (J (g y,.ah))).set j (J (g' y,.ah))) n=J (f y,.ah,n))) :
  er it (ck l) (zo i j) c e S n=J (.aj<|(aQ.filter p).map f,.az,n):=by
 let gen:∀(zs:O α) (S0:bA) (Fa:O T),(∀y∈zs,y∈aQ)->(∀v h6,(S0.set i v).set j h6=((ck l S).set i v).set j h6)->Fa.H+zs.H<=bl->j1 (zo i j) c e (zs.map λy=>.aE [g y,g' y]) S0 n Fa=J (Fa++(zs.filter p).map f,n):=by
  intro zs
  induction zs with
  |nil=>intro S0 Fa _ _ _;simp[j1]
  |cons z zs aT =>
   intro S0 Fa hz yZ aq;rw[d4]at aq;let(af,ao):=h z<|hz z<|dF ..;let Ag:∀v h6,((((ck l S).set i (J (g z,.ah))).set j (J (g' z,.ah))).set i v).set j h6=((ck l S).set i v).set j h6:=λv h6=>by rw[List.set_comm (J (g' z,bk.ah)) v<|Yw iD,Bl,Bl]
   rw[cD];delta j1;erw[zo,gb,yZ,af];cases aF:p z with
   |true =>
    erw[Yq,ao aF,gb];rw[Y2<|tq aq,aT _ _ (λy aP=>hz y<|dZ _ aP) Ag<|by simp;lia];simp[aF]
   |false =>
    erw[iK,Ys];rw[aT _ _ (λy aP=>hz y<|dZ _ aP) Ag<|ed aq];simp[aF]
 delta er;rw[hi];erw[gb];rw[gen aQ _ [] (λ_ h=>h) (λ_ _=>D)<|by simpa using aC];rfl
def Pl{it:hU}{l:O<|X8 Y}{i:Y}{e:bK}{S:bA}{n0 n:Y}{xs:O T}{P:T->Prop}{K N:Y}(hi:it S n0=J (xs,n))(h:∀x n,n+K<=N->∃t n',cg e ((ck l S).set i (J (x,.ah))) n=J (t,.ah,n')/\n<=n'/\n'<=n+K/\P t)
  (bq:n+K*xs.H<=N) (aq:xs.H<=bl):∃out n',out.H=xs.H/\(∀t∈out,P t)/\n<=n'/\n'<=n+K*xs.H/\er it (ck l) (cC i) yes e S n0=J (.aj out,.az,n'):=by
 let gen:∀(zs:O T) (S0:bA) (n:Y) (Fa:O T),(∀v,S0.set i v=(ck l S).set i v)->n+K*zs.H<=N->Fa.H+zs.H<=bl->∃out n',out.H=zs.H/\(∀t∈out,P t)/\n<=n'/\n'<=n+K*zs.H/\j1 (cC i) yes e zs S0 n Fa=J (Fa++out,n'):=by
  intro zs
  induction zs with
  |nil=>intro S0 n Fa _ _ _;show{[],n,D,λt cE=>by simp at cE,b3 _,by simp,by simp[j1]}
  |cons z zs aT =>
   intro S0 n Fa yZ bq aq;let aY:K*(zs.H+1)=K*zs.H+K:=by rw[Nat.mul_succ]
   rw[d4,aY]at bq;rw[d4]at aq;let(t,aW,aA,fL,eQ,p):=h z n Z5;let(out,bW,aR,a4,kq,nf,cQ):=aT ((ck l S).set i (J (z,.ah))) aW (Fa++[t]) (λv=>by rw[Bl]) Z5 (by simp;lia);show⟨t::out,bW,by simp[aR],λt' cE=>?_,(bF fL kq),by rw[d4,aY];lia,?_⟩
   .rcases ei.mp cE with rfl|cE
    .show p
    .show a4 t' cE
   .delta j1;erw[cC,yZ,gb,yes,aA,Yq];rw[Y2<|tq aq,cQ];simp
 let(out,n',aR,a4,cQ,fQ,hk):=gen xs (ck l S) n [] (λ_=>D) bq (by simpa using aq);show{out,n',aR,a4,cQ,fQ,?_};delta er;rw[hi];erw[gb];rw[hk];rfl
theorem I8{α:Type}(f:α->T)(Q:α->Prop):∀{out:O T},(∀t∈out,∃y,t=f y/\Q y)->∃l:O α,out=l.map f/\∀y∈l,Q y
 |[],_=>{[],D,by simp}
 |t::aD,h=>by
  let(l,rfl,aC):=I8 f Q λt cE=>h t<|dZ _ cE;let(y,rfl,aP):=h t<|dF ..
  show⟨y::l,D,λz hz=>by
   rcases ei.mp hz with rfl|hz
   .show aP
   .show aC z hz⟩
theorem I9{α U:Type}{put:T->bA->X8 bA}{g:α->T}{n:Y}(R:U->bA->Prop)(step:U->α->U):∀(aQ:O α) (s:U) (S:bA),(∀pre y post,aQ=pre++y::post->∀S,R (pre.foldl step s) S->∃S1 S2,put (g y) S=J S1/\b S1 n=J (.bS,S2,n)/\R (step (pre.foldl step s) y) S2)->R s S ->
  ∃S',R (aQ.foldl step s) S'/\fT put b (aQ.map g) S n=J (.bS,S',n)
 |[],s,S,_,gk=>{(S),gk,D}
 |y::aQ,s,S,h,gk=>by let(S1,S2,aA,av,b8):=h [] y aQ D S gk;let(S',hI,a7):=I9 R step aQ (step s y) S2 (λpre z post e S gk=>h (y::pre) z post (by rw[e];rfl) S gk) b8;show{S',hI,?_};rw[cD];delta fT;erw[aA,gb,av];show a7
def Pm{α U:Type}{put:T->bA->X8 bA}{g:α->T}{n:Y}(R:U->bA->Prop)(step:U->α->U)(aQ:O α)(s:U)(S:bA)(h:∀y∈aQ,∀s S,R s S->∃S1 S2,put (g y) S=J S1/\b S1 n=J (.bS,S2,n)/\R (step s y) S2)(gk:R s S) :
  ∃S',R (aQ.foldl step s) S'/\fT put b (aQ.map g) S n=J (.bS,S',n) :=
 I9 R step aQ s S (λpre y post e S gk=>h y (by rw[e];simp) _ S gk) gk
def Ja(n:Y)(af:l.H<100000)(ao:∀x∈l,-10000000000000<=x/\x<=10000000000000):nr n [.aj<|l.map .int]=J (.int<|cx l,.ah):=by
 let:(l.all λx=>decide (x.natAbs<=10000000000000))=Y0:=by rw[hO];intro x ax;let:=ao x ax;simp;lia
 show(eU<|l.map T.int).bind _=_;rw[ov,gb,Y2 {(af),this}]
def ake(n:Y)(af:l.H<100000)(ao:∀x∈l,-10000000000000<=x/\x<=10000000000000):nr n [.aE<|l.map .int]=J (.int<|cx l,.ah):=by
 let:(l.all λx=>decide (x.natAbs<=10000000000000))=Y0:=by rw[hO];intro x ax;let:=ao x ax;simp;lia
 show(eU<|l.map T.int).bind _=_;rw[ov,gb,Y2 {(af),this}]
def DB{n n':Y}{j:X6}(h:a S n=J ([.int j],n'))(b0:-(bl:X6)<=j)(dP:j<=bl):kC a S n=J (h1 0 j,n'):=by delta kC;rw[h];show(if-(bl:X6)<=j/\j<=bl then J (h1 0 j,n') else C)=_;rw[Y2 {(b0),dP}]
def akf{n n':Y}{i j:X6}(h:a S n=J ([.int i,.int j],n'))(b0:-(bl:X6)<=i)(dP:i<=bl)(iO:-(bl:X6)<=j)(BX:j<=bl):sk a S n=J (h1 i j,n'):=by delta sk;rw[h];show(if-(bl:X6)<=i/\i<=bl /\ -(bl:X6)<=j/\j<=bl then J (h1 i j,n') else C)=_;rw[Y2 {(b0),dP,iO,BX}]
def Pn(m:Y):h1 0 m=(Yr m).map λk=>.int (k:Y):=by simp[h1]
theorem Jb{k:Y}(go:∀t:T,dJ k t=Y0->ey t t=Y0):∀a:O T,(a.all<|dJ k)=Y0->jn a a=Y0
 |[],_=>rfl
 |x::a,h=>by rw[ma,gS]at h;show(ey x x&&jn a a)=Y0;rw[go x h.1,Jb go a h.2];rfl
def al8(t:T)(h:dJ 0 t=Y0):ey t t=Y0:=by
 induction t using T.casesOn with
 |bR=>rfl
 |a5 b=>show(b==b)=Y0;simp
 |int i=>show(i==i)=Y0;simp
 |str x=>show(x==x)=Y0;simp
 |_=>ext h
theorem Jc:∀(k:Y) (t:T),dJ k t=Y0->ey t t=Y0
 |0,t,h=>al8 t h
 |k+1,t,h=>by
  induction t using T.casesOn with
  |aE a=>show Jb (Jc k) a h
  |aj a=>show Jb (Jc k) a h
  |bR=>rfl
  |a5 b=>show(b==b)=Y0;simp
  |int i=>show(i==i)=Y0;simp
  |str x=>show(x==x)=Y0;simp
  |_=>ext h
def DC(h:dJ 6 t=Y0):nk t t=J Y0:=by
 let e:=Jc 6 t h;let q:nk t t=if(dJ 6 t&&dJ 6 t)=Y0 then J (ey t t) else C:=by
  induction t using T.casesOn with
  |a3 a=>ext h
  |_=>rfl
 rw[q,h,e];rfl
def Po{α:Type}{k:Y}{f:α->T}{l:O α}(h:∀x∈l,dJ k (f x)=Y0):dJ (k+1) (.aj<|l.map f)=Y0:=by show(l.map f).all (dJ k)=Y0;rw[vB,hO];show h
def Jd(k:Y)(l:O X6):dJ (k+1) (ar l)=Y0:=by show(l.map T.int).all (dJ k)=Y0;show DA k l
end a9.bD
namespace a9.bD
variable {α:Type}
noncomputable def Kr(b:bw):X8 (hJ×bA×Y)->X8 (hJ×bA×Y)
 |some (.bS,S,n)=>b S n
 |x=>x
def SV(a b:bw)(S:bA)(n:Y):bC a b S n=Kr b (a S n):=by
 delta bC;cases a S n with
 |none=>rfl
 |some r=>let(f,S1,aW):=r;ext f<;>rfl
def TQ(b:bw)(S:bA)(n:Y):Kr b (J (.bS,S,n))=b S n:=rfl
def aij(b:bw)(S:bA)(n:Y)(t:T)(o:Yc):Kr b (J (.aZ t o,S,n))=J (.aZ t o,S,n):=rfl
noncomputable def uW(a b:Y->X8 α):X8 (Yc×Y)->X8 α
 |some (t,n)=>if t then a n else b n
 |none=>C
def agu(c:eX)(a b:bw)(S:bA)(n:Y):eP c a b S n=uW (a S) (b S) (c S n):=by delta eP;cases c S n<;>rfl
def afG(c:eX)(a b:bK)(S:bA)(n:Y):uu c a b S n=uW (a S) (b S) (c S n):=by delta uu;cases c S n<;>rfl
def lb(a b:Y->X8 α)(t:Yc)(n:Y):uW a b (J (t,n))=if t then a n else b n:=rfl
def agv(a b:Y->X8 α)(n:Y):uW a b (J (Y0,n))=a n:=rfl
def agw(a b:Y->X8 α)(n:Y):uW a b (J (Y1,n))=b n:=rfl
noncomputable def Ks(i:Y)(S:bA):X8 (T×bk×Y)->X8 (hJ×bA×Y)
 |some (t,.az,n)=>J (.bS,S.set i<|some (t,.az),n)
 |some (t,.ah,n)=>J (.bS,S.set i<|some (t,.ah),n)
 |_=>C
def agx(i:Y)(d:bK)(S:bA)(n:Y):c2 i d S n=Ks i S (d S n):=by
 delta c2;cases d S n with
 |none=>rfl
 |some r=>let(t,m,aW):=r;ext m<;>rfl
def aik(i:Y)(S:bA)(t:T)(n:Y):Ks i S (J (t,.az,n))=J (.bS,S.set i<|some (t,.az),n):=rfl
def ail(i:Y)(S:bA)(t:T)(n:Y):Ks i S (J (t,.ah,n))=J (.bS,S.set i<|some (t,.ah),n):=rfl
noncomputable def Kt(S:bA):X8 (T×bk×Y)->X8 (hJ×bA×Y)
 |some (t,.az,n)=>J (.aZ t Y0,S,n)
 |some (t,.ah,n)=>J (.aZ t Y1,S,n)
 |_=>C
def SW(d:bK)(S:bA)(n:Y):dq d S n=Kt S (d S n):=by
 delta dq;cases d S n with
 |none=>rfl
 |some r=>let(t,m,aW):=r;ext m<;>rfl
def aim(S:bA)(t:T)(n:Y):Kt S (J (t,.az,n))=J (.aZ t Y0,S,n):=rfl
def ain(S:bA)(t:T)(n:Y):Kt S (J (t,.ah,n))=J (.aZ t Y1,S,n):=rfl
def Ku(n:Y):X8 (X8<|T×bk)->X8 (T×bk×Y)
 |some (J (t,m))=>J (t,look m t,n)
 |_=>C
def SX(i:Y)(S:bA)(n:Y):ai i S n=Ku n S[i]?:=by delta ai Ku;split<;>simp_all
def agy(n:Y)(t:T)(m:bk):Ku n (J<|some (t,m))=J (t,look m t,n):=rfl
noncomputable def EC(n:Y):X8 (T×bk)->X8 (T×bk×Y)
 |some (t,m)=>J (t,m,n)
 |none=>C
def Pp(g:d2):X8 (O T×Y)->X8 (T×bk×Y)
 |some (aD,n)=>EC n<|g n aD
 |none=>C
def So(g:d2)(a:gh)(S:bA)(n:Y):aB g a S n=Pp g (a S n):=by
 delta aB;cases a S n with
 |none=>rfl
 |some r=>let(aD,aW):=r;show(g aW aD).map _=EC aW (g aW aD);cases g aW aD<;>rfl
def afH(g:d2)(aD:O T)(n:Y):Pp g (J (aD,n))=EC n (g n aD):=rfl
def agz(n:Y)(t:T)(m:bk):EC n (J (t,m))=J (t,m,n):=rfl
noncomputable def DD(t:T):X8 (O T×Y)->X8 (O T×Y)
 |some (aD,n)=>J (t::aD,n)
 |none=>C
def SY(r:gh)(S:bA):X8 (T×bk×Y)->X8 (O T×Y)
 |some (t,_,n)=>DD t<|r S n
 |none=>C
def TR(d:bK)(r:gh)(S:bA)(n:Y):ag d r S n=SY r S (d S n):=by
 delta ag;cases d S n with
 |none=>rfl
 |some x=>let(t,m,aW):=x;show(r S aW).map _=DD t (r S aW);cases r S aW<;>rfl
def aio(r:gh)(S:bA)(t:T)(m:bk)(n:Y):SY r S (J (t,m,n))=DD t (r S n):=rfl
def akg(t:T)(aD:O T)(n:Y):DD t (J (aD,n))=J (t::aD,n):=rfl
noncomputable def DE(p:T×Yc):X8 (O (T×Yc)×Y)->X8 (O (T×Yc)×Y)
 |some (aD,n)=>J (p::aD,n)
 |none=>C
def L5(r:jy)(S:bA):X8 (T×bk×Y)->X8 (O (T×Yc)×Y)
 |some (t,m,n)=>DE (t,flag m t)<|r S n
 |none=>C
def acE(d:bK)(r:jy)(S:bA)(n:Y):aG d r S n=L5 r S (d S n):=by
 delta aG;cases d S n with
 |none=>rfl
 |some x=>let(t,m,aW):=x;show(r S aW).map _=DE (t,flag m t) (r S aW);cases r S aW<;>rfl
def acF(r:jy)(S:bA)(t:T)(m:bk)(n:Y):L5 r S (J (t,m,n))=DE (t,flag m t) (r S n):=rfl
def afI(p:T×Yc)(aD:O<|T×Yc)(n:Y):DE p (J (aD,n))=J (p::aD,n):=rfl
noncomputable def ED(n:Y):X8 T->X8 (T×bk×Y)
 |some t=>J (t,.ah,n)
 |none=>C
def Pq:X8 (T×bk×Y)->X8 (T×bk×Y)
 |some (t,m,n)=>ED n<|d3 t m
 |none=>C
def afJ(d:bK)(S:bA)(n:Y):cg d S n=Pq (d S n):=by
 delta cg;cases d S n with
 |none=>rfl
 |some x=>let(t,m,aW):=x;show(d3 t m).map _=ED aW (d3 t m);cases d3 t m<;>rfl
def afK(t:T)(m:bk)(n:Y):Pq (J (t,m,n))=ED n (d3 t m):=rfl
def agA(n:Y)(t:T):ED n (J t)=J (t,.ah,n):=rfl
noncomputable def EU(n:Y):X8 Yc->X8 (Yc×Y)
 |some b=>J (b,n)
 |none=>C
def Sp:X8 (T×bk×Y)->X8 (Yc×Y)
 |some (t,_,n)=>EU n<|k6 t
 |none=>C
def agB(d:bK)(S:bA)(n:Y):b7 d S n=Sp (d S n):=by
 delta b7;cases d S n with
 |none=>rfl
 |some x=>let(t,m,aW):=x;show(k6 t).map _=EU aW (k6 t);cases k6 t<;>rfl
def agC(t:T)(m:bk)(n:Y):Sp (J (t,m,n))=EU n (k6 t):=rfl
def aip(n:Y)(b:Yc):EU n (J b)=J (b,n):=rfl
noncomputable def Sq:X8 (Yc×Y)->X8 (Yc×Y)
 |some (b,n)=>J (!b,n)
 |none=>C
def agD(c:eX)(S:bA)(n:Y):gr c S n=Sq (c S n):=by delta gr;cases c S n<;>rfl
def k_not(b:Yc)(n:Y):Sq (J (b,n))=J (!b,n):=rfl
def agE(a b:eX)(S:bA)(n:Y):AS a b S n=uW (b S) (λn=>J (Y1,n)) (a S n):=by delta AS;cases a S n<;>rfl
def afL(a b:eX)(S:bA)(n:Y):gY a b S n=uW (λn=>J (Y0,n)) (b S) (a S n):=by delta gY;cases a S n<;>rfl
def EE:X8 (T×Yc×Y)->X8 (T×bk×Y)
 |some (t,b,n)=>J (t,qm b,n)
 |none=>C
def Ta(e4:Y)(f:c1):X8 (O (T×Yc)×Y)->X8 (T×bk×Y)
 |some (aD,n)=>if aD.H=e4 then EE (f aD n) else C
 |none=>C
def aiq(e4:Y)(f:c1)(a:jy)(S:bA)(n:Y):bB e4 f a S n=Ta e4 f (a S n):=by
 delta bB;cases a S n with
 |none=>rfl
 |some x =>
  let(aD,aW):=x;show(if aD.H=e4 then(f aD aW).map _ else C)=if aD.H=e4 then EE (f aD aW) else C
  cases f aD aW<;>rfl
def akh(e4:Y)(f:c1)(aD:O<|T×Yc)(n:Y):Ta e4 f (J (aD,n))=if aD.H=e4 then EE (f aD n) else C:=rfl
def agF(t:T)(b:Yc)(n:Y):EE (J (t,b,n))=J (t,qm b,n):=rfl
def acG(t:T)(S:bA)(n:Y):aS t S n=J (t,.ah,n):=rfl
def agG(S:bA)(n:Y):aw S n=J ([],n):=rfl
def air(S:bA)(n:Y):bz S n=J ([],n):=rfl
def ais(S:bA)(n:Y):e0 S n=J (.bS,S,n):=rfl
def Sr:X8 (O T×Y)->X8 (T×bk×Y)
 |some (aD,n)=>if aD.H<=bl then J (.aE aD,.ah,n) else C
 |none=>C
def agH(a:gh)(S:bA)(n:Y):eD a S n=Sr (a S n):=by delta eD;cases a S n<;>rfl
def agI(aD:O T)(n:Y):Sr (J (aD,n))=if aD.H<=bl then J (.aE aD,.ah,n) else C:=rfl
noncomputable def EV(n:Y):X8 bA->X8 (hJ×bA×Y)
 |some S=>J (.bS,S,n)
 |none=>C
def Ss(put:T->bA->X8 bA)(S:bA):X8 (T×bk×Y)->X8 (hJ×bA×Y)
 |some (t,_,n)=>EV n<|put t S
 |none=>C
def agJ(put:T->bA->X8 bA)(d:bK)(S:bA)(n:Y):R7 put d S n=Ss put S (cg d S n):=by
 delta R7;cases cg d S n with
 |none=>rfl
 |some x=>let(t,m,aW):=x;show(put t S).map _=EV aW (put t S);cases put t S<;>rfl
def k_put(put:T->bA->X8 bA)(S:bA)(t:T)(m:bk)(n:Y):Ss put S (J (t,m,n))=EV n (put t S):=rfl
def ait(n:Y)(S:bA):EV n (J S)=J (.bS,S,n):=rfl
noncomputable def KD(b:bK)(S:bA):X8 (T×bk×Y)->X8 (T×bk×Y)
 |some (.a5 Y0,_,n)=>b S n
 |some (.a5 Y1,_,n)=>J (.a5 Y1,.ah,n)
 |_=>C
def aiu(a b:bK)(S:bA)(n:Y):uv a b S n=KD b S (a S n):=by
 delta uv;cases a S n with
 |none=>rfl
 |some x =>
  let(t,m,aW):=x
  induction t using T.casesOn with
  |a5 c=>ext c<;>rfl
  |_=>rfl
def aki(b:bK)(S:bA)(m:bk)(n:Y):KD b S (J (.a5 Y0,m,n))=b S n:=rfl
def akj(b:bK)(S:bA)(m:bk)(n:Y):KD b S (J (.a5 Y1,m,n))=J (.a5 Y1,.ah,n):=rfl
def KG(i:X6):sZ .int (.int i)=J Y0:=rfl
def KH(i:X6):sZ .bool (.int i)=J Y1:=rfl
def EW(a:O T):sZ .tuple (.aE a)=J Y0:=rfl
def Ah(a:O T):sZ .list (.aj a)=J Y0:=rfl
def KI(a:PySem.Str):sZ .str (.str a)=J Y0:=rfl
def sH(n:Y)(a b:X6):dN n [.int a,.int b]=J (.int<|a+b,.ah):=rfl
def Je(n:Y)(a b:O T):dN n [.aE a,.aE b]=if a.H+b.H<=bl then J (.aE<|a++b,.ah) else C:=rfl
def Jf(n:Y)(a b:O T):dN n [.aj a,.aj b]=if a.H+b.H<=bl then J (.aj<|a++b,.az) else C:=rfl
def xt(n:Y)(a:O T)(i:X6):cB n [.aj a,.int i]=(hD a i).map λt=>(t,.ah):=rfl
def uX(n:Y)(a:O T)(i:X6):cB n [.aE a,.int i]=(hD a i).map λt=>(t,.ah):=rfl
def Jg(n:Y)(a:O<|gE×T)(k:T):cB n [.a3 a,k]=(iI k).bind λk=>(gZ a k).map λt=>(t,.ah):=rfl
def ow(n:Y)(a:O T):dT n [.aj a]=J (.int a.H,.ah):=rfl
def j5(n:Y)(a:O T):dT n [.aE a]=J (.int a.H,.ah):=rfl
def sI(n:Y):dT n [.dQ]=J (.int n,.ah):=rfl
def sJ(n:Y)(a:O<|gE×T):dT n [.a3 a]=J (.int a.H,.ah):=rfl
def TS(n:Y)(a b:X6):hh n [.int a,.int b]=if X3 a||X3 b then J (.int<|a*b,.ah) else C:=rfl
def aiv(n:Y)(a:O T):kD n [.aj a]=J (.aE a,.ah):=rfl
def akk(n:Y)(a:O T):od n [.aE a]=J (.aj a,.az):=rfl
def TU(a b:O T):kN (.aj a) (.aj b)=if a.H+b.H<=bl then J (.aj<|a++b) else C:=rfl
def xu(n:Y)(a b:X6):hY n [.int a,.int b]=J (.a5<|a==b,.ah):=rfl
def EX(n:Y)(a b:T):hY n [a,b]=(nk a b).map λr=>(.a5 r,.ah):=rfl
def Tb(n:Y)(a b:T):gn n [a,b]=(nk a b).map λr=>(.a5<|!r,.ah):=rfl
def aiw(n:Y)(a:O<|gE×T)(k x:T):j2 n [.a3 a,k,x]=if iC x then C else(iI k).map λk=>((gZ a k).getD x,.ah):=rfl
def TV(a:O<|gE×T)(k v:T):p3 (.a3 a) k v=(iI k).bind λk=>if a.H<bl then J (.a3<|jG a k v) else C:=rfl
def Tc(n:Y)(a:O T)(y:X6):uw n [.aE a,.int y]=(eU a).map λns=>(.int (ns.filter λx=>x==y).H,.ah):=rfl
def KJ(n:Y)(a:O T):s6 n [.aj a]=(nM a).map λbs=>(.a5<|bs.all id,.ah):=rfl
def aix(b:Yc):k6 (.a5 b)=J b:=rfl
def aiy(i:X6):k6 (.int i)=J (i != 0):=rfl
def aiz(a:O T):k6 (.aj a)=J (!a.isEmpty):=rfl
def aiA(a:O T):k6 (.aE a)=J (!a.isEmpty):=rfl
def aiB(a:O<|gE×T):k6 (.a3 a)=J (!a.isEmpty):=rfl
def aiC:k6 .bR=J Y1:=rfl
def DF(S:bA)(n:Y):X8 (X8<|T×bk)->X8 (hJ×bA×Y)
 |some (J (t,.az))=>J (.aZ t Y0,S,n)
 |some (J (t,.ah))=>J (.aZ t Y1,S,n)
 |some (J (t,.cV))=>if iC t then C else J (.aZ t Y1,S,n)
 |_=>C
def afM(i:Y)(S:bA)(n:Y):lN i S n=DF S n S[i]?:=by delta lN DF;rfl
def agK(S:bA)(n:Y)(t:T):DF S n (J<|some (t,.az))=J (.aZ t Y0,S,n):=rfl
def agL(S:bA)(n:Y)(t:T):DF S n (J<|some (t,.ah))=J (.aZ t Y1,S,n):=rfl
end a9.bD
open Lean in
local macro_rules|`(tactic| simp![$l,*])=>do
 let x:TSyntaxArray `Lean.Parser.Tactic.simpLemma:=("dv SV TQ aij agu afG agv agw agx aik ail SW aim ain SX agy So afH agz TR aio akg acE acF afI afJ afK agA agB agC aip agD k_not agE afL aiq akh agF acG agG air ais agH agI agJ k_put ait aiu aki akj d3 look iC flag qm aix aiy aiz aiA aiB aiC afM agK agL f5 CA".splitOn " ").toArray.map fun s=>⟨mkNode `Lean.Parser.Tactic.simpLemma #[mkNullNode,mkNullNode,mkIdent<|`a9.bD++s.toName]⟩
 `(tactic| simp [$x,*,$l,*])
namespace cp
open PySem a9 a9.bD
def Pr:bw:=(bC (eP (gY (gr<|b7<|aB (iq .int) ZA)<|b7<|aB (iq .bool) ZA) (dq<|aS<|.a5 Y1) e0)<|dq<|qR qO qO (ai 1) (ai 0)<|ai 2)
def ra:c1:=dv 3<|Pr
def Pt:bK:=er (eZ<|ai 0) (ck [C,J 0]) (cC 0) yes<|bB 3 ra<|aG (ai 0)<|aG Z8<|aG (aS<|.int 30) bz
def Pu:bw:=(bC (eP (gY (gr<|b7<|aB (iq .tuple) ZA)<|gr<|b7<|qR qO qO (aS<|.int 1) (aB dT ZA)<|aS<|.int 8) (dq<|aS<|.a5 Y1) e0)<|bC (ek 0<|eP (gr<|b7<|aB s6<|ag Pt aw) (dq<|aS<|.a5 Y1) e0)<|dq<|aB hY<|ag (aB od ZA)<|ag (aB uy ZA) aw)
def Ai:c1:=dv 1<|Pu
def Pw:bK:=er (eZ<|ai 0) (ck [C,J 0]) (cC 0) yes<|bB 1 Ai ZB
def Px:bw:=(bC (eP (gY (gr<|b7<|aB (iq .tuple) ZA)<|gr<|b7<|qR qO qO (aS<|.int 1) (aB dT ZA)<|aS<|.int 4) (dq<|aS<|.a5 Y1) e0)<|ek 0<|dq<|aB s6<|ag Pw aw)
def Aj:c1:=dv 1<|Px
def Py:bw:=(bC (eP (gY (gr<|b7<|aB (iq .tuple) ZA)<|b7<|aB gn<|ag (aB dT ZA)<|ag (aS<|.int 2) aw) (dq<|aS<|.a5 Y1) e0)<|dq<|uv (bB 3 ra<|aG (aB cB<|ag (ai 0)<|ag Z8 aw)<|aG Z8<|aG (aS<|.int 120) bz)<|bB 3 ra<|aG (aB cB<|ag (ai 0)<|ag (aS<|.int 1) aw)<|aG (aS<|.int 1)<|aG (aS<|.int 4096) bz)
def DG:c1:=dv 1<|Py
def Pz:bw:=(eP (gr<|b7<|bB 3 ra<|aG (ai 0)<|aG (ai 1)<|aG (ai 2) bz) ic e0)
def rb:c1:=dv 3<|Pz
def acH:gi:=(lR (gr<|b7<|bB 3 ra<|aG (ai 0)<|aG (ai 1)<|aG (ai 2) bz) (pI 3<|yI (ai 1)<|yI (ai 2) n3) j3)
def Ak:lP:=fnX 3 acH
def PA:bw:=(eP (gr<|b7<|bB 1 Ai ZB) ic e0)
def sL:c1:=dv 1<|PA
def PB:bw:=(eP (gr<|b7<|bB 1 Aj ZB) ic e0)
def jJ:c1:=dv 1<|PB
def PC:bw:=(mw 3 p3 (aB dN<|ag (ai 4)<|ag (ai 5) aw)<|aB dN<|ag (aB j2<|ag (ai 3)<|ag (aB dN<|ag (ai 4)<|ag (ai 5) aw)<|ag Z8 aw)<|ag (aB cB<|ag (ai 1)<|ag (ai 4) aw) aw)
def PD:bw:=f7 (hq<|ai 2) (cC 5) PC
def PE:bw:=(fg 2 PD)
def PF:bw:=f7 (hq<|ai 1) (cC 4) PE
def Al:bw:=(bC (c2 3 w0)<|bC (fg 1 PF)<|qS 1 3)
def PG:bw:=f7 (hq<|ai 0) (cC 2) Al
def PH:bw:=(bC (c2 1<|Kw Z8<|cg<|aS<|.int 1)<|bC (fg 0 PG)<|lN 1)
def iE:c1:=dv 6<|PH
def PI:bK:=er (eZ<|ai 0) (ck [C,J 0,J 1]) (cC 0) (b7<|aB qP<|ag (ai 0)<|ag (ai 2) aw)<|aB cB<|ag (ai 1) ZA
def PJ:bw:=(ek 0<|dq<|aB nr<|ag PI aw)
def DH:c1:=dv 2<|PJ
def Am:bw:=(c2 1<|aB hh<|ag (ai 1)<|ag (ai 2) aw)
def An:bw:=f7 (hq<|ai 0) (cC 2) Am
def Jh:bw:=(bC (c2 1<|aS<|.int 1)<|bC (fg 0 An)<|lN 1)
def uY:c1:=dv 3<|Jh
def PK:bK:=er (eZ<|ai 0) (ck [C,J 0]) (cC 0) yes<|aB dT ZA
def PL:bw:=(ek 0<|dq<|bB 1 uY<|aG PK bz)
def Ao:c1:=dv 1<|PL
def acI:bw:=(bC (c2 4<|aB sX<|ag (ai 2)<|ag (ai 3) aw)<|bC (qS 2 3)<|qS 3 4)
def acJ:bw:=wZ (b7<|ai 3) acI
def acK:bw:=(bC (qS 2 1)<|bC (qS 3 0)<|bC acJ<|dq<|eD<|ag (cg<|aB xN<|ag (ai 0)<|ag (ai 2) aw)<|ag (cg<|aB xN<|ag (ai 1)<|ag (ai 2) aw) aw)
def Ji:c1:=dv 5<|acK
def PM:bw:=(bC (f5<|bB 1 jJ ZB)<|dq<|aB zq<|ag (bB 1 iE ZB) aw)
def nC:c1:=dv 1<|PM
def TX:bw:=(bC (f5<|bB 1 jJ ZB)<|bC (f5<|bB 3 rb<|aG (ai 1)<|aG Z8<|aG (aS<|.int 120) bz)<|dq<|aB j2<|ag (bB 1 iE ZB)<|ag (ai 1)<|ag Z8 aw)
def Ap:c1:=dv 2<|TX
def al9:bK:=er (eZ<|ai 2) (ck [C,J 0,J 1,J 2,J 3,J 4]) (cC 0) yes<|aB dN<|ag (ai 5)<|ag (eD<|ag (cg<|ai 0) aw) aw
def ama:bw:=(ek 2<|h2 3 kN al9)
def amb:bw:=f7 (hq<|ai 1) (cC 4) ama
def amc:bw:=(bC (c2 3<|et aw)<|bC (fg 1 amb)<|qS 1 3)
def Jj:bw:=f7 (hq<|ai 0) (cC 2) amc
def PN:bw:=(bC (f5<|bB 1 jJ ZB)<|bC (c2 1<|et<|ag (cg<|eD aw) aw)<|bC (fg 0 Jj)<|dq<|aB CB<|ag (ai 1) aw)
def DI:c1:=dv 5<|PN
def PO:bK:=er (eZ<|ai 4) (ck [C,J 0,J 1,J 2,J 3,J 4]) (cC 0) (b7<|aB gn<|ag (aB j2<|ag (ai 3)<|ag (ai 0)<|ag Z8 aw)<|ag (aB j2<|ag (ai 4)<|ag (ai 0)<|ag Z8 aw) aw)<|ai 0
def PQ:bw:=(bC (f5<|bB 1 jJ ZB)<|bC (f5<|bB 1 jJ<|aG (ai 1) bz)<|bC (c2 2<|bB 1 iE ZB)<|bC (c2 3<|bB 1 iE<|aG (ai 1) bz)<|bC (c2 4<|aB dN<|ag (aB od<|ag (ai 2) aw)<|ag (aB od<|ag (ai 3) aw) aw)<|ek 4<|dq<|aB KA<|ag PO aw)
def xv:c1:=dv 5<|PQ
def PR:bw:=(dq<|aB sY<|ag (bB 2 xv<|aG (ai 0)<|aG (ai 1) bz) aw)
def Aq:c1:=dv 2<|PR
def PS:bK:=er (eZ<|ai 0) (ck [C,J 0,J 1]) (cC 0) (b7<|aB hX<|ag (ai 0)<|ag (ai 2) aw)<|ai 0
def PT:bw:=(ek 0<|dq<|aB dT<|ag PS aw)
def DJ:c1:=dv 2<|PT
def PU:bK:=er (eZ<|ai 0) (ck [C,J 0,J 1,J 2,J 3]) (cC 0) yes<|bB 2 DJ<|aG (ai 2) ZB
def PV:bK:=er (eZ<|ai 0) (ck [C,J 0,J 1,J 2,J 3]) (cC 0) yes<|aB uw<|ag (ai 2) ZA
def TY:bw:=(bC (f5<|bB 1 sL ZB)<|bC (f5<|bB 1 sL<|aG (ai 1) bz)<|bC (ek 0<|c2 2<|aB nr<|ag PU aw)<|bC (ek 0<|c2 3<|aB nr<|ag PV aw)<|dq<|eD<|ag (cg<|ai 2)<|ag (cg<|ai 3)<|ag (cg<|aB fU<|ag (aB fU<|ag (aB hh<|ag (aB dT ZA)<|ag (aB dT<|ag (ai 1) aw) aw)<|ag (ai 2) aw)<|ag (ai 3) aw) aw)
def Ar:c1:=dv 4<|TY
def PW:bw:=(bC (c2 2<|bB 2 Ar<|aG (ai 0)<|aG (ai 1) bz)<|dq<|aB jF<|ag (aB cB<|ag (ai 2)<|ag Z8 aw)<|ag (aB cB<|ag (ai 2)<|ag (aS<|.int 2) aw) aw)
def As:c1:=dv 3<|PW
def amd:bK:=er (sk<|ag (aB dN<|ag (aB cB<|ag (ai 1)<|ag Z8 aw)<|ag (aS<|.int 1) aw)<|ag (aB dT ZA) aw) (ck [C,J 0,J 1,J 2]) (cC 0) (b7<|aB OJ<|ag (ai 0)<|ag (ai 2) aw)<|ai 0
def ame:bK:=er (eZ<|ai 2) (ck [C,J 0,J 1,J 2]) (cC 0) (b7<|aB cB<|ag (aB cB<|ag (ai 1)<|ag (aB cB<|ag (ai 2)<|ag (aB Kl<|ag (aS<|.int 1) aw) aw) aw) ZA)<|aB dN<|ag (ai 2)<|ag (eD<|ag (cg<|ai 0) aw) aw
def akl:bw:=(bC (c2 2 amd)<|ek 2<|dq ame)
def PX:c1:=dv 3<|akl
def acL:bK:=er (kC<|ag (aB dT<|ag (ai 1) aw) aw) (ck [C,J 0,J 1]) (cC 0) yes<|aB cB<|ag (aB cB<|ag (ai 1)<|ag (aB cB<|ag (ai 2)<|ag (aB fU<|ag (ai 0)<|ag (aS<|.int 1) aw) aw) aw)<|ag (aB cB<|ag (ai 2) ZA) aw
def acM:bw:=(dq<|aB s6<|ag acL aw)
def Au:c1:=dv 2<|acM
def amf:bK:=er (kC<|ag (aB dT ZA) aw) (ck [C,J 0,J 1,J 2,J 3,J 4]) (cC 0) yes<|eD<|ag (cg<|ai 0) aw
def amg:bw:=(h2 3 kN<|bB 2 PX<|aG (ai 0)<|aG (ai 4) bz)
def amh:bw:=f7 (hq<|ai 2) (cC 4) amg
def ami:bK:=er (eZ<|ai 3) (ck [J 0,J 1,J 2,J 3,C]) (cC 4) (b7<|bB 2 Au<|aG (ai 0)<|aG (ai 4) bz)<|ai 4
def amj:bw:=(bC (c2 3<|et aw)<|bC (fg 2 amh)<|bC (ek 3<|h2 1 kN ami)<|qS 2 3)
def amk:bw:=wZ (b7<|ai 2) amj
def akm:bw:=(bC (c2 1<|et aw)<|bC (c2 2 amf)<|bC amk<|dq<|aB Tt<|ag (ai 1) aw)
def Jk:c1:=dv 5<|akm
def Jl:bK:=er (eZ<|ai 0) (ck [C,J 0,J 1,J 2]) (cC 0) yes<|bB 2 As<|aG (ai 3) ZB
def PY:bw:=(ek 0<|h2 1 nH Jl)
def Jm:bw:=f7 (hq<|ai 0) (cC 2) PY
def PZ:bw:=(bC (c2 1<|et aw)<|bC (fg 0 Jm)<|lN 1)
def rd:c1:=dv 3<|PZ
def P0:bw:=(bC (f5<|bB 1 jJ ZB)<|dq<|bB 1 Jk<|aG (bB 1 rd ZB) bz)
def DK:c1:=dv 1<|P0
def acN:bK:=er (eZ<|ai 0) (ck [C,J 0,J 1]) (cC 0) yes<|bB 3 ra<|aG (ai 0)<|aG Z8<|aG (aB fU<|ag (ai 2)<|ag (aS<|.int 1) aw) bz
def acO:bw:=(bC (eP (gY (gr<|b7<|aB (iq .tuple) ZA)<|b7<|aB hX<|ag (aB dT ZA)<|ag (aS<|.int 2) aw) (dq<|aS<|.a5 Y1) e0)<|bC (ek 0<|eP (gr<|b7<|aB s6<|ag acN aw) (dq<|aS<|.a5 Y1) e0)<|dq<|aB hY<|ag (aB M9 ZA)<|ag (aB dT ZA) aw)
def DL:c1:=dv 2<|acO
def P1:bw:=(bC (f5<|bB 1 jJ ZB)<|dq<|uv (bB 2 DL<|aG (ai 1)<|aG (aB dT ZA) bz)<|bB 2 Au<|aG (bB 1 rd ZB)<|aG (ai 1) bz)
def DM:c1:=dv 2<|P1
def acP:bK:=er (eZ<|ai 1) (ck [C,J 0,J 1,J 2]) (cC 0) yes<|aB cB<|ag (aB cB<|ag (ai 1) ZA)<|ag (ai 3) aw
def acQ:bw:=(ek 1<|dq<|SH<|b7<|aB R8<|ag acP aw)
def P2:c1:=dv 3<|acQ
def Av:bK:=er (eZ<|ai 3) (ck [C,J 0,J 1,J 2,J 3,J 4]) (cC 0) (b7<|bB 3 P2<|aG (ai 2)<|aG (ai 4) ZB)<|ai 0
def Jn:bK:=er (eZ<|ai 3) (ck [C,J 0,J 1,J 2,J 3,J 4]) (cC 0) (b7<|aB gn<|ag (ai 0)<|ag (aB cB<|ag (ai 5)<|ag Z8 aw) aw)<|ai 0
def xw:bw:=(bC (ek 3<|c2 4 Av)<|bC (eP (gr<|b7<|ai 4) (dq<|aS .bR) e0)<|bC (h2 2 nH<|aB cB<|ag (ai 4)<|ag Z8 aw)<|ek 3<|c2 3 Jn)
def DN:bw:=wZ (b7<|ai 3) xw
def P4:bw:=(bC (f5<|bB 1 jJ ZB)<|bC (c2 1<|bB 1 rd ZB)<|bC (c2 2<|et aw)<|bC (c2 3<|zx<|ag (aB dT ZA) aw)<|bC DN<|lN 2)
def uZ:c1:=dv 5<|P4
def P5:bw:=(bC (f5<|bB 1 jJ ZB)<|bC (f5<|bB 3 rb<|aG (ai 1)<|aG Z8<|aG (aS<|.int 999) bz)<|dq<|bB 2 Ji<|aG (bB 2 DH<|aG (bB 1 iE ZB)<|aG (ai 1) bz)<|aG (bB 1 Ao ZB) bz)
def DO:c1:=dv 2<|P5
def P6:bK:=er (eZ<|ai 0) (ck [C,J 0,J 1]) (cC 0) yes<|aB dN<|ag (ai 0)<|ag (ai 2) aw
def P7:bw:=(ek 0<|dq<|aB kD<|ag P6 aw)
def Aw:c1:=dv 2<|P7
def P8:bK:=er (Ht<|ai 0) (ck [C,C,J 0,J 1]) (zo 0 1) yes<|bB 2 Aw<|aG (ai 1)<|aG (aB cB<|ag (ai 3) ZA) bz
def P9:bw:=(dq<|aB kD<|ag P8 aw)
def DP:c1:=dv 2<|P9
def Jo:bK:=er (eZ<|ai 1) (ck [C,J 0,J 1,J 2,J 3]) (cC 0) yes<|bB 2 DP<|aG (ai 4) ZB
def DQ:bw:=(ek 1<|h2 2 kN Jo)
def u0:bw:=f7 (hq<|ai 0) (cC 3) DQ
def Qa:bw:=(bC (c2 2<|et aw)<|bC (fg 0 u0)<|dq<|aB Hv<|ag (ai 2) aw)
def xx:c1:=dv 4<|Qa
def rf:bw:=(bC (mw 2 p3 (ai 3)<|aB fU<|ag (aB j2<|ag (ai 2)<|ag (ai 3)<|ag Z8 aw)<|ag (aB cB<|ag (ai 1)<|ag (ai 3) aw) aw)<|eP (b7<|aB hX<|ag (aB cB<|ag (ai 2)<|ag (ai 3) aw)<|ag Z8 aw) (dq<|aS .bR) e0)
def u1:bw:=f7 (hq<|ai 1) (cC 3) rf
def Jp:bK:=er (eZ<|ai 2) (ck [J 0,J 1,J 2,C]) (cC 3) (b7<|aB jF<|ag (aB cB<|ag (ai 2)<|ag (ai 3) aw)<|ag Z8 aw)<|eD<|ag (cg<|ai 3)<|ag (cg<|aB cB<|ag (ai 2)<|ag (ai 3) aw) aw
def Jq:bw:=(bC (c2 2<|aB qQ ZA)<|bC (fg 1 u1)<|ek 2<|dq<|aB qQ<|ag Jp aw)
def ox:c1:=dv 4<|Jq
def Qb:bw:=(dq<|aB dN<|ag (aB dN<|ag (Ew (ai 0) EL<|EM<|ai 1)<|ag (eD<|ag (cg<|aB dN<|ag (aB cB<|ag (ai 0)<|ag (ai 1) aw)<|ag (eD<|ag (cg<|ai 2) aw) aw) aw) aw)<|ag (Ew (ai 0) (EM<|aB dN<|ag (ai 1)<|ag (aS<|.int 1) aw) EL) aw)
def DR:c1:=dv 3<|Qb
def Jr:bK:=er (kC<|ag (aB dT<|ag (ai 2) aw) aw) (ck [C,J 0,J 1,J 2,J 3,J 4]) (cC 0) (b7<|aB hX<|ag (aB dT<|ag (aB cB<|ag (ai 3) ZA) aw)<|ag (aB cB<|ag (ai 2) ZA) aw)<|bB 3 DR<|aG (ai 3)<|aG (ai 0)<|aG (ai 5) bz
def DS:bw:=(bC (c2 3<|bB 2 ox<|aG (ai 0)<|aG (bB 1 iE<|aG (ai 2) bz) bz)<|bC (eP (gr<|b7<|ai 3) (dq<|et aw) e0)<|bC (c2 4<|aB s7<|ag (ai 3) aw)<|dq Jr)
def xy:c1:=dv 5<|DS
def Ax:bK:=er (eZ<|ai 0) (ck [C,J 0,J 1,J 2,J 3,J 4,J 5,J 6,J 7]) (cC 0) yes<|eD<|ag (cg<|aB fU<|ag (aB cB<|ag (ai 0)<|ag Z8 aw)<|ag (aB cB<|ag (aB cB<|ag (ai 1)<|ag Z8 aw)<|ag Z8 aw) aw)<|ag (cg<|aB cB<|ag (ai 0)<|ag (aS<|.int 1) aw) aw
def Ay:bw:=(mw 5 AU (ai 7)<|aS<|.a5 Y0)
def Qc:bw:=f7 (hq<|bB 3 xy<|aG (ai 2)<|aG (ai 1)<|aG (ai 6) bz) (cC 7) Ay
def DT:bw:=Qc
def u2:bw:=f7 (hq<|ai 3) (cC 6) DT
def DU:bw:=(bC (c2 5 Hj)<|bC (fg 3 u2)<|c2 3<|aB Hk<|ag (ai 5) aw)
def DV:bw:=f7 (kC<|ag (aB fU<|ag (aB nr<|ag (ai 1) aw)<|ag (aB dT<|ag (ai 1) aw) aw) aw) (cC 4) DU
def Js:bK:=er (eZ<|ai 3) (ck [J 0,J 1,J 2,J 3,J 4,J 5,C,J 7]) (cC 6) (b7<|aB AW<|ag (bB 2 ox<|aG (ai 2)<|aG (bB 1 iE<|aG (ai 6) bz) bz)<|ag w0 aw)<|ai 6
def Jt:bw:=(bC (ek 0<|c2 2<|aB qQ<|ag Ax aw)<|bC (eP (b7<|aB gn<|ag (aB Hs<|ag (ai 2) aw)<|ag (bB 1 uY<|aG (ai 1) bz) aw) (dq<|et aw) e0)<|bC (c2 3<|et<|ag (cg<|aB hh<|ag (eD<|ag (cg<|eD<|ag (cg Z8) aw) aw)<|ag (aB dT<|ag (ai 1) aw) aw) aw)<|bC DV<|ek 3<|dq Js)
def rg:c1:=dv 8<|Jt
def Ju:c1:=dv 5 ic
def acR:bK:=er (eZ<|bB 3 Ju<|aG (aB fU<|ag (ai 0)<|ag (ai 4) aw)<|aG (aB fU<|ag (ai 1)<|ag (aS<|.int 1) aw)<|aG (ai 2) bz) (ck [C,J 0,J 1,J 2,J 3,J 4]) (cC 0) yes<|aB dN<|ag (eD<|ag (cg<|ai 5) aw) ZA
def acS:bw:=(h2 3 kN acR)
def acT:bw:=f7 (sk<|ag (ai 2)<|ag (aB dN<|ag (aB fU<|ag (ai 0)<|ag (ai 2) aw)<|ag (aS<|.int 1) aw) aw) (cC 4) acS
def acU:bw:=(bC (eP (b7<|aB hY<|ag (ai 1)<|ag (aS<|.int 1) aw) (dq<|uu (b7<|aB qP<|ag (ai 0)<|ag (ai 2) aw) (et<|ag (cg<|eD<|ag (cg<|ai 0) aw) aw)<|et aw) e0)<|bC (c2 3<|et aw)<|bC acT<|lN 3)
def DW:c1:=dv 5<|acU
def acV:bK:=er (eZ<|bB 3 DW<|aG (aB fU<|ag (ai 0)<|ag (ai 4) aw)<|aG (aB fU<|ag (ai 1)<|ag (aS<|.int 1) aw)<|aG (ai 2) bz) (ck [C,J 0,J 1,J 2,J 3,J 4]) (cC 0) yes<|aB dN<|ag (eD<|ag (cg<|ai 5) aw) ZA
def acW:bw:=(h2 3 kN acV)
def acX:bw:=f7 (sk<|ag (ai 2)<|ag (aB dN<|ag (aB fU<|ag (ai 0)<|ag (ai 2) aw)<|ag (aS<|.int 1) aw) aw) (cC 4) acW
def acY:bw:=(bC (eP (b7<|aB hY<|ag (ai 1)<|ag (aS<|.int 1) aw) (dq<|uu (b7<|aB qP<|ag (ai 0)<|ag (ai 2) aw) (et<|ag (cg<|eD<|ag (cg<|ai 0) aw) aw)<|et aw) e0)<|bC (c2 3<|et aw)<|bC acX<|lN 3)
def DX:c1:=dv 5<|acY
def acZ:bK:=er (eZ<|bB 3 DX<|aG (aB fU<|ag (ai 0)<|ag (ai 4) aw)<|aG (aB fU<|ag (ai 1)<|ag (aS<|.int 1) aw)<|aG (ai 2) bz) (ck [C,J 0,J 1,J 2,J 3,J 4]) (cC 0) yes<|aB dN<|ag (eD<|ag (cg<|ai 5) aw) ZA
def ac0:bw:=(h2 3 kN acZ)
def ac1:bw:=f7 (sk<|ag (ai 2)<|ag (aB dN<|ag (aB fU<|ag (ai 0)<|ag (ai 2) aw)<|ag (aS<|.int 1) aw) aw) (cC 4) ac0
def ac2:bw:=(bC (eP (b7<|aB hY<|ag (ai 1)<|ag (aS<|.int 1) aw) (dq<|uu (b7<|aB qP<|ag (ai 0)<|ag (ai 2) aw) (et<|ag (cg<|eD<|ag (cg<|ai 0) aw) aw)<|et aw) e0)<|bC (c2 3<|et aw)<|bC ac1<|lN 3)
def sM:c1:=dv 5<|ac2
def Qd:bw:=(bC (eP (b7<|aB hX<|ag (ai 1)<|ag (aB dT ZA) aw) (dq<|aB cB<|ag (ai 0)<|ag (ai 1) aw) e0)<|bC (eP (b7<|aB hY<|ag (ai 0)<|ag (et aw) aw) (dq Z8) e0)<|dq<|aB dN<|ag (aB hh<|ag (aB cB<|ag (ai 0)<|ag (aB sX<|ag (ai 1)<|ag (aB dT ZA) aw) aw)<|ag (aS<|.int 31) aw)<|ag (ai 1) aw)
def DY:c1:=dv 2<|Qd
def Qe:bw:=(bC (c2 3<|aB sX<|ag (aB hh<|ag (aB dN<|ag (aB dN<|ag (bB 2 DY<|aG (ai 0)<|aG (ai 1) bz)<|ag (aB hh<|ag (aS<|.int 7919)<|ag (ai 1) aw) aw)<|ag (aS<|.int 1) aw)<|ag (aS<|.int 48271) aw)<|ag (aS<|.int 2147483647) aw)<|dq<|aB sX<|ag (aB sX<|ag (aB dN<|ag (aB dN<|ag (aB hh<|ag (ai 3)<|ag (ai 3) aw)<|ag (aB hh<|ag (aS<|.int 7)<|ag (ai 3) aw) aw)<|ag (ai 1) aw)<|ag (aS<|.int 2147483629) aw)<|ag (ai 2) aw)
def DZ:c1:=dv 4<|Qe
def Qf:bw:=(bC (CA 1)<|dq<|bB 3 DZ<|aG (ai 0)<|aG (aB dT<|ag (ai 1) aw)<|aG (ai 2) bz)
def rh:c1:=dv 3<|Qf
def Qg:bw:=(dq<|aB cB<|ag (ai 2)<|ag (bB 3 rh<|aG (ai 0)<|aG (ai 1)<|aG (aB dT<|ag (ai 2) aw) bz) aw)
def xA:c1:=dv 3<|Qg
def Qh:bK:=er (kC<|ag (ai 2) aw) (ck [C,J 0,J 1,J 2,J 3,J 4,J 5,J 6]) (cC 0) yes<|aB s7<|ag (ai 4)<|ag (aB dN<|ag (ai 5)<|ag (bB 3 rh<|aG (ai 1)<|aG (ai 2)<|aG (ai 6) bz) aw) aw
def Qi:bw:=(bC (c2 4<|bB 3 xA<|aG (ai 0)<|aG (ai 1)<|aG (et<|ag (cg Z8)<|ag (cg Z8)<|ag (cg<|aS<|.int 1)<|ag (cg<|aS<|.int 1)<|ag (cg<|bB 3 rh<|aG (ai 0)<|aG (ai 1)<|aG (aS<|.int 20) bz) aw) bz)<|bC (c2 5<|bB 3 xA<|aG (ai 0)<|aG (ai 1)<|aG (et<|ag (cg<|aS<|.int 1)<|ag (cg<|aS<|.int 3)<|ag (cg<|aS<|.int 6)<|ag (cg<|aS<|.int 12) aw) bz)<|bC (c2 6 Qh)<|dq<|aB kD<|ag (aB uy<|ag (ai 6) aw) aw)
def pX:c1:=dv 7<|Qi
def Qj:bK:=er (kC<|ag (ai 2) aw) (ck [C,J 0,J 1,J 2,J 3]) (cC 0) yes<|bB 4 pX<|aG (ai 1)<|aG (ai 2)<|aG (aB dN<|ag (aS<|.int 1)<|ag (bB 3 rh<|aG (ai 1)<|aG (ai 2)<|aG (ai 4) bz) aw)<|aG (aS<|.int 30) bz
def Qk:bw:=(dq<|aB kD<|ag Qj aw)
def u3:c1:=dv 4<|Qk
def l0:bw:=(bC (c2 4<|aB s7<|ag (ai 2) aw)<|bC (c2 5<|aB fU<|ag (ai 4)<|ag (aB cB<|ag (ai 1)<|ag Z8 aw) aw)<|bC (c2 6<|aB xN<|ag (aB cB<|ag (ai 2)<|ag (ai 4) aw)<|ag (aB uw<|ag (ai 1)<|ag (aB cB<|ag (ai 1)<|ag Z8 aw) aw) aw)<|bC (eP (gY (b7<|aB hX<|ag (ai 5)<|ag Z8 aw)<|b7<|aB hY<|ag (ai 6)<|ag Z8 aw) (dq<|aS .bR) e0)<|bC (c2 7<|aB hh<|ag (eD<|ag (cg<|ai 5) aw)<|ag (ai 6) aw)<|bC (c2 2<|bB 2 ox<|aG (ai 2)<|aG (bB 1 iE<|aG (eD<|ag (cg<|ai 7)<|ag (cg<|ai 1) aw) bz) bz)<|bC (eP (b7<|aB sY<|ag (ai 2) aw) (dq<|aS .bR) e0)<|h2 3 kN<|ai 7)
def ac3:bw:=wZ (b7<|ai 2) l0
end cp
namespace lJ
open PySem a9 a9.bD cp
def akn(ns:O X6)(k:X6)(aY:0<=k)(n:Y):∃c,DY [(.aj<|ns.map .int,Y1),(.int k,Y0)] n=J (.int c,Y1,n):=by
 delta DY Qd;by_cases h:k<ns.H
 .let(c,_,e):=Pj ns k aY h;show{c,?_};simp![lb,hX,fW,ow,j5,sI,sJ,xt,uX,Jg,h,e]
 .cases qM:ns with
  |nil =>
   show{0,?_};subst qM;let:¬k<0:=h;let he:hY n [.aj [],.aj []]=J (.a5 Y0,.ah):=rfl;simp![lb,hX,fW,ow,he,et,this]
  |cons x xs =>
   rw[<-qM];let kF:0<ns.H:=by rw[qM];simp
   let aC:(0:X6)<ns.H:=by lia
   let m0:=FJ k (b:=ns.H)<|vK aC;let c9:=FI k aC;let(c,_,e):=Pj ns (k%ns.H) m0 c9;let a8:nk (.aj<|ns.map T.int) (.aj [])=J Y1:=by let aF:=DA 5 ns;show(if(dJ 6 (.aj<|ns.map T.int)&&dJ 6 (.aj []))=Y0 then J (ey (.aj<|ns.map T.int)<|.aj []) else C)=_;rw[show dJ 6 (.aj<|ns.map T.int)=Y0 from aF];subst qM;rfl
   show{c*31+k,?_};simp![lb,hX,fW,ow,j5,sI,sJ,xt,uX,Jg,h,e,EX,a8,et,sX,kF,TS,sH,Je,Jf,X3]
structure jK (most:Y) (d:O X6):Prop where
 one:1<=d.H
 most:d.H<=most
 ia:∀x∈d,0<=x/\x<=30
 up:d.Pairwise (·<=·)
structure ht (most agM:Y) (ds:O Z1):Prop where
 one:1<=ds.H
 most:ds.H<=most
 aK:∀d∈ds,jK agM d
def D0(i lo hi:X6)(n:Y)(af:lo<=i)(ao:i<=hi):ra [(.int i,Y0),(.int lo,Y0),(.int hi,Y0)] n=J (.a5 Y0,Y1,n):=by delta ra Pr;simp![lb,iq,KG,KH,EW,Ah,KI,qR,qO,fW,af,ao]
def TZ{F:Y}(h:jK F d)(dV:F<=8)(n:Y):Ai [(ar d,Y0)] n=J (.a5 Y0,Y1,n):=by
 let dB:bl=1000000:=rfl;let fL:=h.one;let eQ:=h.most;let av:Pt [J (.aE<|d.map .int,.ah)] n=J (.aj (d.map λ_=>T.a5 Y0),.az,n) :=
  jI d T.int (λ_=>.a5 Y0) D Z5 λy aP=>by let hi:=h.ia y aP;simp![lb,ck,D0 y 0 30 n hi.1 hi.2]
 let(bs,bT,cb):=I6 (λ_:X6=>T.a5 Y0) d λ_ _=>D;simp at cb;let a7:sortI d=d:=(Ho (.refl d) h.up).symm;delta Ai Pu;let kq:(1:X6)<=d.H:=by lia
 let nf:(d.H:X6)<=8:=by lia
 let ac4:d.H<64:=(gR eQ<|gR dV Z0)
 let bM:uy n [.aE<|d.map T.int]=J (.aj<|d.map .int,.az):=by simp[uy,ov,a7,ac4]
 let d9:nk (.aj<|d.map T.int) (.aj<|d.map T.int)=J Y0:=DC<|DA 5 d;generalize d.map (λ_=>T.a5 Y0)=aD at av bT;delta ar;simp![lb,ek,iq,KG,KH,EW,Ah,KI,qR,qO,fW,ow,j5,sI,sJ,fL,kq,nf,av,bM,d9,akk,EX,KJ,bT,cb]
def Ql{M F:Y}(h:ht M F ds)(fJ:M<=4)(dV:F<=8)(n:Y):Aj [(.aE<|ds.map ar,Y0)] n=J (.a5 Y0,Y1,n):=by
 let dB:bl=1000000:=rfl;let fL:=h.one;let eQ:=h.most;let av:Pw [J (.aE<|ds.map ar,.ah)] n=J (.aj (ds.map λ_=>T.a5 Y0),.az,n) :=
  jI ds ar (λ_=>.a5 Y0) D Z5 λd hd=>by simp![lb,ck,TZ (h.aK d hd) dV n]
 let(bs,bT,cb):=I6 (λ_:O X6=>T.a5 Y0) ds λ_ _=>D;let kq:(1:X6)<=ds.H:=by lia
 let nf:(ds.H:X6)<=4:=by lia
 simp at cb;generalize ds.map (λ_=>T.a5 Y0)=aD at av bT;delta Aj Px;simp![lb,iq,KG,KH,EW,Ah,KI,qR,qO,fW,ow,j5,sI,sJ,fL,kq,nf,ek,av,KJ,bT,cb]
def Az{F:Y}(h:jK F d)(dV:F<=8)(n:Y):sL [(ar d,Y0)] n=J (.bR,Y1,n):=by delta sL PA;simp![lb,TZ h dV n]
def pY{M F:Y}(h:ht M F ds)(fJ:M<=4)(dV:F<=8)(n:Y):jJ [(.aE<|ds.map ar,Y0)] n=J (.bR,Y1,n):=by delta jJ PB;simp![lb,Ql h fJ dV n]
def Jv(i lo hi:X6)(n:Y)(af:lo<=i)(ao:i<=hi):rb [(.int i,Y0),(.int lo,Y0),(.int hi,Y0)] n=J (.bR,Y1,n):=by delta rb Pz;simp![lb,D0 i lo hi n af ao]
noncomputable def Um(X2:O Z1)(d:O X6):O Z1:=X2.flatMap λr=>d.map λf=>r++[f]
def sN(ds:O Z1):O Z1:=ds.foldl Um [[]]
theorem Qm(d:O X6):∀X2:O Z1,(Um X2 d).H=X2.H*d.H
 |[]=>by simp[Um]
 |r::X2=>by let:=Qm d X2;delta Um at this |-;rw[kP,hM,this,cj,d4,oX,vF]
noncomputable def mK(ds:O Z1):Y:=ds.foldl (λm d=>m*d.H) 1
def kt(X0:Yc)(many:Y)(r:O X6):X6:=if X0 then cx ((sortI r).take many) else cx ((sortI r).drop (r.H-many))
noncomputable def au(d:O Z4):O<|gE×T:=d.map λp=>(YE p.1,T.int p.2)
noncomputable def cK(d:O Z4)(k:X6):X6:=((d.find? λp=>decide (p.1=k)).map (·.2)).getD 0
def xn(d:O Z4)(k:X6):(gZ (au d)<|.inl k).getD (.int 0)=.int (cK d k):=by
 delta gZ au cK
 induction d with
 |nil=>rfl
 |cons p d aT =>
  rw[cD,oT,oT];by_cases h:p.1=k
  .simp[h]
  .simp[h]at aT |-;show aT
def T1(d:O Z4)(k:X6):((au d).any λc4=>decide (c4.1=(YE k:gE)))=d.any λp=>decide (p.1=k):=by delta au;rw[Fl];congr 1;funext p;simp
def cnt_none{k:X6}(h:(d.any λp=>decide (p.1=k))=Y1):cK d k=0:=by
 delta cK;let:d.find? (λp=>decide (p.1=k))=C:=by rw[List.find?_eq_none];intro p aF;let:=qbd.mp h p aF;simpa using this
 rw[this];rfl
def jO(d:O Z4)(p:X6->Yc):X6:=cx<|(d.filter λq=>p q.1).map (·.2)
theorem Jw:∀a b:O X6,cx (a++b)=cx a+cx b
 |[],b=>by simp[cx]
 |x::a,b=>by simp[cx,Jw a b,Int.add_assoc]
def ri(q:X6×X6)(d:O Z4)(p:X6->Yc):jO (q::d) p=(if p q.1 then q.2 else 0)+jO d p:=by
 delta jO;rw[tm];by_cases h:p q.1=Y0
 .simp[h,cx]
 .simp[h]
def ac5(a b:O Z4)(p:X6->Yc):jO (a++b) p=jO a p+jO b p:=by delta jO;rw[List.filter_append,jS,Jw]
def aml{d:O Z4}{k v:X6}(h:k∉d.map (·.1)):d.map (λp=>if p.1=k then(p.1,v) else p)=d:=by
 conv=>rhs;rw[<-Bm d]
 show lq λp aF=>?_;rw[Y3 λe=>h<|by rw[<-e];show iJ aF];rfl
def u4(d:O Z4)(k:X6):(d.any λp=>decide (p.1=k))=Y0↔k∈d.map (·.1):=by
 rw[Ff,el];constructor
 .rintro⟨q,af,ao⟩;show{q,af,by simpa using ao}
 .rintro⟨q,af,ao⟩;show{q,af,by simpa using ao}
noncomputable def af6(q:X6×X6):T:=.aE [.int q.1,.int q.2]
theorem Qn:∀d:O Z4,itemsOf (au d)=J d
 |[]=>rfl
 |q::d=>by let:=Qn d;delta au at this |-;rw[cD];show(itemsOf<|d.map _).map (q::·)=_;rw[this];rfl
def ac6(ds:O Z1):(sN ds).H=mK ds:=by
 let gen:∀(ds X2:O Z1),(ds.foldl Um X2).H=ds.foldl (λm d=>m*d.H) X2.H:=by
  intro ds
  induction ds with
  |nil=>intro X2;rfl
  |cons d ds aT=>intro X2;rw[jR,jR,aT,Qm]
 show gen ds [[]]
def D1{F:Y}(h:∀d∈ds,d.H<=F):mK ds<=F^ds.H:=by
 let gen:∀(ds:O Z1) (m:Y),(∀d∈ds,d.H<=F)->ds.foldl (λm d=>m*d.H) m<=m*F^ds.H:=by
  intro ds
  induction ds with
  |nil=>intro m _;simp
  |cons d ds aT =>
   intro m h;show bF (aT _ λd' mr=>h d'<|dZ _ mr) ?_;rw[d4,Nat.pow_succ,Bq (F^ds.H) F,<-vE];show ye _<|qbn _<|h d<|dF ..
 let:=gen ds 1 h;simpa[mK]using this
def gs(d:O Z4)(k w:X6):O Z4:=if(d.any λp=>decide (p.1=k))=Y0 then d.map (λp=>if p.1=k then(p.1,cK d k+w) else p) else d++[(k,w)]
def Qo(d:O Z4)(k w:X6):jG (au d) (.inl k) (.int<|cK d k+w)=au (gs d k w):=by
 delta jG gs;rw[T1];cases h:d.any λp=>decide (p.1=k) with
 |true =>
  erw[Yq];delta au;rw[be,be];show lq λp _=>?_;by_cases e:p.1=k<;>simp[e]
 |false=>simp[au,cnt_none h]
theorem Qp{k w:X6}(p:X6->Yc):∀{d:O Z4},(d.map (·.1)).Nodup->k∈d.map (·.1)->jO (d.map λq=>if q.1=k then(q.1,cK d k+w) else q) p=jO d p+if p k then w else 0
 |[],_,h=>by simp at h
 |(a,b)::d,bN,h=>by
  rw[cD]at bN h;let(aW,bW):=mP.mp bN;by_cases e:a=k
  .subst e;let GG:cK ((a,b)::d) a=b:=by simp[cK]
   rw[cD,aml (by simpa using aW),ri,ri,GG];erw[Yq];split<;>lia
  .let aY:k∈d.map (·.1):=by
    rcases ei.mp h with z|z
    .show Yi z.symm e
    .show z
   let GG:cK ((a,b)::d) k=cK d k:=by simp[cK,e]
   rw[cD,ri,ri,GG,Qp p bW aY];erw[e,Ys];lia
structure iQ (d:O Z4) (f:(X6->Yc)->X6):Prop where
 bN:(d.map (·.1)).Nodup
 pos:∀q∈d,1<=q.2
 u5:∀p:X6->Yc,jO d p=f p
def iQ.nil:iQ [] λ_=>0:={by simp,by simp,λp=>by simp[jO,cx]}
def E4{k:X6}(h:∀q∈d,1<=q.2):0<=cK d k:=by
 delta cK;cases e:d.find? λp=>decide (p.1=k) with
 |none=>simp
 |some q=>let:=h q<|List.mem_of_find?_eq_some e;simp;show lx this
def iQ.add(B:iQ d f)(k w:X6)(hw:1<=w):iQ (gs d k w) λp=>f p+if p k then w else 0:=by
 let aN:=E4 (k:=k) B.pos;delta gs;cases h:d.any λp=>decide (p.1=k) with
 |true =>
  let aY:=(u4 d k).mp h;erw[Yq];show{?_,λq a8=>?_,λp=>?_}
  .rw[be,show(λx:X6×X6=>x.1)∘(λp:X6×X6=>if p.1=k then(p.1,cK d k+w) else p)=λx=>x.1 from by funext p;erw[Function.comp];split<;>rfl];show B.bN
  .let(mq,h0,rfl):=el.mp a8;let:=B.pos mq h0;split
   .simp only;lia
   .show this
  .rw[Qp p B.bN aY,B.u5 p]
 |false =>
  let aY:k∉d.map (·.1):=λz=>by rw[(u4 d k).mpr z]at h;ext h
  erw[iK,Ys];show{?_,λq a8=>?_,λp=>?_}
  .rw[jS,Bh];show{B.bN,by simp,λx ax y aP z=>?_};simp at aP;subst aP z;show aY ax
  .rcases iY.mp a8 with a8|a8
   .show B.pos q a8
   .simp at a8;subst a8;show hw
  .rw[ac5,B.u5 p,ri];simp[jO,cx]
def iQ.congr(B:iQ d f)(h:∀p,f p=g p):iQ d g:={B.bN,B.pos,λp=>(B.u5 p).trans (h p)}
def Qq(d:O Z4)(k w:X6):(gs d k w).H<=d.H+1:=by delta gs;split<;>simp
def Qr{k:X6}(h:k∉d.map (·.1)):jO d (λx=>x==k)=0:=by
 induction d with
 |nil=>simp[jO,cx]
 |cons q d aT =>
  rw[cD]at h;let af:¬q.1=k:=λz=>h (by rw[<-z];show dF ..);rw[ri,aT λz=>h<|dZ _ z];simp[af]
theorem Qs:∀{d:O Z4} {k v:X6},(d.map (·.1)).Nodup->(k,v)∈d->jO d (λx=>x==k)=v
 |[],_,_,_,h=>by simp at h
 |q::d,k,v,bN,h=>by
  rw[cD]at bN;let(aW,bW):=mP.mp bN;rcases ei.mp h with e|h
  .subst e;rw[ri,Qr aW];simp
  .let af:¬q.1=k:=λz=>aW (by rw[z];show iJ (f:=(·.1)) h);rw[ri,Qs bW h];simp[af]
noncomputable def spread(ks:O X6)(d:O X6):O X6:=ks.flatMap λk=>d.map λf=>k+f
def rq(en:O Z4)(aK:O X6)(p:X6->Yc):X6:=cx (en.map λq=>q.2*((aK.countP λf=>p (q.1+f):Y):X6))
theorem Qt(en:O Z4)(x0 x2:X8<|T×bk)(t v:X6)(bX:1<=v)(Dl:gZ (au en) (.inl t)=J (.int v))(n:Y):∀(aK:O X6) (d:O Z4) (f:(X6->Yc)->X6) (a:X8 (T×bk)),iQ d f->d.H+aK.H<=100000 ->
  ∃d' gV,iQ d' (λp=>f p+v*((aK.countP λg=>p (t+g):Y):X6))/\d'.H<=d.H+aK.H/\fT (cC 5) (mw 3 p3 (aB dN<|ag (ai 4)<|ag (ai 5) aw)<|aB dN<|ag (aB j2<|ag (ai 3)<|ag (aB dN<|ag (ai 4)<|ag (ai 5) aw)<|ag Z8 aw)<|ag (aB cB<|ag (ai 1)<|ag (ai 4) aw) aw) (aK.map T.int)
   [x0,J (.a3<|au en,.ah),x2,J (.a3<|au d,.az),J (.int t,.ah),a] n=J (.bS,[x0,J (.a3<|au en,.ah),x2,J (.a3<|au d',.az),J (.int t,.ah),gV],n)
 |[],d,f,a,B,_=>{d,a,B.congr λp=>by simp,by simp,by simp[fT]}
 |g::aK,d,f,a,B,hz=>by
  let dB:bl=1000000:=rfl;rw[d4]at hz;let anA:=Qq d (t+g) v;let(d',gV,tT,kF,e):=Qt en x0 x2 t v bX Dl n aK (gs d (t+g) v) _ (J (.int g,.ah)) (B.add (t+g) v bX) Z5;show{d',gV,tT.congr λp=>?_,by rw[d4];lia,?_}
  .rw[nP];by_cases aF:p (t+g)=Y0
   .simp[aF,Int.mul_add];lia
   .simp[aF]
  .rw[cD];delta fT;let aC:(au d).H<bl:=by delta au;rw[cj];lia
   let av:mw 3 p3 (aB dN<|ag (ai 4)<|ag (ai 5) aw) (aB dN<|ag (aB j2<|ag (ai 3)<|ag (aB dN<|ag (ai 4)<|ag (ai 5) aw)<|ag Z8 aw)<|ag (aB cB<|ag (ai 1)<|ag (ai 4) aw) aw)
     [x0,J (.a3<|au en,.ah),x2,J (.a3<|au d,.az),J (.int t,.ah),J (.int g,.ah)] n=J (.bS,[x0,J (.a3<|au en,.ah),x2,J (.a3<|au<|gs d (t+g) v,.az),J (.int t,.ah),J (.int g,.ah)],n):=by
    rw[<-Qo];let c:=xn d<|t+g;simp![mw,sH,Je,Jf,aiw,xt,uX,Jg,iI,c,Dl,TV,aC]
   erw[a9.bD.cC,nN,nO,gb];rw[av];show e
def AA{k v:X6}(bN:(d.map (·.1)).Nodup)(h:(k,v)∈d):gZ (au d) (.inl k)=J (.int v):=by
 delta gZ au
 induction d with
 |nil=>simp at h
 |cons q d aT =>
  rw[cD]at bN;let(aW,bW):=mP.mp bN;rw[cD,oT];rcases ei.mp h with e|h
  .subst e;simp
  .let af:¬q.1=k:=λz=>aW (by rw[z];show iJ (f:=(·.1)) h);simp[af];simpa using aT bW h
theorem Qu(en:O Z4)(bN:(en.map (·.1)).Nodup)(ps:∀q∈en,1<=q.2)(aK:O X6)(x0:X8<|T×bk)(n:Y):∀(l:O Z4) (d:O Z4) (f:(X6->Yc)->X6) (a b:X8 (T×bk)),(∀q∈l,q∈en)->iQ d f->d.H+l.H*aK.H<=100000 ->
  ∃d' gV jx,iQ d' (λp=>f p+rq l aK p)/\d'.H<=d.H+l.H*aK.H/\fT (cC 4) (fg 2<|f7 (hq<|ai 2) (cC 5)<|mw 3 p3 (aB dN<|ag (ai 4)<|ag (ai 5) aw)<|aB dN<|ag (aB j2<|ag (ai 3)<|ag (aB dN<|ag (ai 4)<|ag (ai 5) aw)<|ag Z8 aw)<|ag (aB cB<|ag (ai 1)<|ag (ai 4) aw) aw) (l.map λq=>T.int q.1)
   [x0,J (.a3<|au en,.ah),J (ar aK,.ah),J (.a3<|au d,.az),a,b] n=J (.bS,[x0,J (.a3<|au en,.ah),J (ar aK,.ah),J (.a3<|au d',.az),gV,jx],n)
 |[],d,f,a,b,_,B,_=>{d,a,b,B.congr λp=>by simp[rq,cx],by simp,by simp[fT]}
 |q::l,d,f,a,b,aC,B,hz=>by
  rw[d4,oX]at hz;let a8:=aC q<|dF ..;let(fy,bT,wH,fL,aA):=Qt en x0 (J (ar aK,.ah)) q.1 q.2 (ps q a8) (AA bN a8) n aK d f b B Z5;let(d',gV,jx,tT,eQ,e):=Qu en bN ps aK x0 n l fy _ (J (.int q.1,.ah)) bT (λee pZ=>aC ee<|dZ _ pZ) wH Z5;show⟨d',gV,jx,tT.congr λp=>?_,by rw[d4,oX];lia,?_⟩
  .simp[rq,cx];lia
  .rw[cD];delta fT;generalize (mw 3 p3 (aB dN<|ag (ai 4)<|ag (ai 5) aw)<|aB dN<|ag (aB j2<|ag (ai 3)<|ag (aB dN<|ag (ai 4)<|ag (ai 5) aw)<|ag Z8 aw)<|ag (aB cB<|ag (ai 1)<|ag (ai 4) aw) aw)=B6 at aA e |-;let av:fg 2 (f7 (hq<|ai 2) (cC 5) B6) [x0,J (.a3<|au en,.ah),J (ar aK,.ah),J (.a3<|au d,.az),J (.int q.1,.ah),b] n=J (.bS,[x0,J (.a3<|au en,.ah),J (ar aK,.ah),J (.a3<|au fy,.az),J (.int q.1,.ah),bT],n):=aA;erw[a9.bD.cC,nN,nO,gb];rw[av];show e
theorem Qw(B:iQ en λp=>(ks.countP p:Y))(p:X6->Yc):∀aK:O X6,rq en aK p=((spread ks aK).countP p:Y)
 |[]=>by
  let af:∀d:O Z4,rq d [] p=0:=by
   intro d
   induction d with
   |nil=>rfl
   |cons q d aT=>delta rq at aT |-;rw[cD,cx,aT];simp
  let ao:spread ks []=[]:=by delta spread;simp
  rw[af,ao];rfl
 |g::aK=>by
  let af:∀d:O Z4,rq d (g::aK) p=jO d (λk=>p<|k+g)+rq d aK p:=by
   intro d
   induction d with
   |nil=>rfl
   |cons q d aT =>
    delta rq at aT |-;rw[cD,cD,cx,cx,aT,ri,nP];by_cases aF:p (q.1+g)=Y0
    .simp[aF,Int.mul_add];lia
    .simp[aF];lia
  let ao:∀ks:O X6,(spread ks<|g::aK).countP p=ks.countP (λk=>p<|k+g)+(spread ks aK).countP p:=by
   intro ks
   induction ks with
   |nil=>rfl
   |cons k ks aT =>
    delta spread at aT |-;rw[kP,kP,Fd,Fd,aT,cD,nP,nP];lia
  rw[af,B.u5,Qw B p aK,ao];simp
theorem Qx(x0:X8<|T×bk)(n:Y):∀(ds:O Z1) (d:O Z4) (ks:O X6) (a b c eA:X8 (T×bk)),iQ d (λp=>(ks.countP p:Y))->d.H*(ds.map λx=>max 1 x.H).foldr (·*·) 1<=100000 ->
  ∃d' gV jx c0 bH,iQ d' (λp=>((ds.foldl spread ks).countP p:Y))/\fT (cC 2) Al (ds.map ar)
   [x0,J (.a3<|au d,.az),a,b,c,eA] n=J (.bS,[x0,J (.a3<|au d',.az),gV,jx,c0,bH],n)
 |[],d,ks,a,b,c,eA,B,_=>{d,a,b,c,eA,B,by simp[fT]}
 |aK::ds,d,ks,a,b,c,eA,B,hz=>by
  rw[cD,Bj,<-vE]at hz;let Qy:d.H*aK.H*(ds.map λx=>max 1 x.H).foldr (·*·) 1<=100000:=bF (ye _<|qbn _<|Fv _ _) hz;let ac7:∀ds:O Z1,1<=(ds.map λx=>max 1 x.H).foldr (·*·) 1:=λds=>by
   induction ds with
   |nil=>show b3 _
   |cons x ds aT=>show tv (Nat.le_max_left 1 x.H) aT
  let H8:d.H*aK.H<=100000:=bF (qbk _<|ac7 ds) Qy;let(fy,a1,bT,wH,fL,aA):=Qu d B.bN B.pos aK x0 n d [] _ c eA (λ_ h=>h) iQ.nil (by simp;show H8);let B8:iQ fy (λp=>((spread ks aK).countP p:Y)):=wH.congr λp=>by rw[Qw B p aK];simp
  rw[Bi,tx]at fL;let(d',gV,jx,c0,bH,tT,e):=Qx x0 n ds fy (spread ks aK) (J (ar aK,.ah)) C a1 bT B8<|bF (ye _ fL) Qy;show⟨d',gV,jx,c0,bH,tT,?_⟩;rw[cD];delta fT;let aY:(au d).map (λc4=>ip c4.1)=d.map λq=>T.int q.1:=by delta au;rw[be];rfl
  let av:Al [x0,J (.a3<|au d,.az),J (ar aK,.ah),b,c,eA] n=J (.bS,[x0,J (.a3<|au fy,.az),J (ar aK,.ah),C,a1,bT],n):=by delta Al PF PE PD PC;erw[bC,c2,w0,gb,nN,nO,fg,qa2,List.getElem?_cons_zero,f7,hq,ai,look,Un,aY,vI];rw[show(au []:O<|gE×T)=[] from D]at aA;rw[aA];rfl
  erw[a9.bD.cC,nN,nO,gb];rw[av];show e
def agN{ds:O Z1}(gP:∀d∈ds,d.H<=8):(ds.map λx=>max 1 x.H).foldr (·*·) 1<=8^ds.H:=by
 induction ds with
 |nil=>show b3 _
 |cons x ds aT =>
  rw[cD,Bj,d4,Nat.pow_succ,Bq<|8^_];show tv (Nat.max_le.mpr ⟨by decide,gP x<|dF ..⟩) (aT λd hd=>gP d<|dZ _ hd)
theorem Qz(d:O X6):∀X2:O Z1,(Um X2 d).map cx=spread (X2.map cx) d
 |[]=>rfl
 |r::X2=>by let aT:=Qz d X2;delta Um spread at aT |-;rw[cD,kP,kP,jS,aT,be];congr 1;show lq λf _=>?_;simp[Jw,cx]
def ac8(ds:O Z1):(sN ds).map cx=ds.foldl spread [0]:=by
 let gen:∀(ds X2:O Z1),(ds.foldl Um X2).map cx=ds.foldl spread (X2.map cx):=by
  intro ds
  induction ds with
  |nil=>intro X2;rfl
  |cons d ds aT=>intro X2;rw[jR,jR,aT,Qz]
 show gen ds [[]]
def QA(hz:(ds.map λx=>max 1 x.H).foldr (·*·) 1<=100000)(n:Y) :
  ∃d,iQ d (λp=>(((sN ds).map cx).countP p:Y))/\iE [(.aE<|ds.map ar,Y0)] n=J (.a3<|au d,Y0,n):=by
 let(d',gV,jx,c0,bH,B,e):=Qx (J (.aE<|ds.map ar,.ah)) n ds [(0,1)] [0] C C C C ⟨by simp,by simp,λp=>by simp[jO,cx];by_cases z:p 0=Y0<;>simp[z,cx]⟩ (by simp;show hz);rw[<-ac8]at B;show{d',B,?_};delta iE PH PG;generalize Al=B6 at e |-;rw[show(au [(0,1)]:O<|gE×T)=[(YE 0,.int 1)] from D]at e;simp![Kw,iI,fg,f7,hq,Un,e]
def QB(gP:∀d∈ds,d.H<=8)(cS:ds.H<=4)(n:Y) :
  ∃d,iQ d (λp=>(((sN ds).map cx).countP p:Y))/\iE [(.aE<|ds.map ar,Y0)] n=J (.a3<|au d,Y0,n) :=
 QA (bF (agN gP)<|bF (yf Z0 cS) Z0) n
noncomputable def fr(a b:Y):T:=.aE [.int ((a / Nat.gcd a b:Y):X6),.int ((b / Nat.gcd a b:Y):X6)]
noncomputable def iF(ms:O Y):Y:=ms.foldr (·*·) 1
theorem Jx:∀(ms:O Y) (a:Y),ms.foldl (·*·) a=a*iF ms
 |[],a=>by simp[iF]
 |m::ms,a=>by rw[jR,Jx ms];show a*m*iF ms=a*(m*iF ms);rw[vE]
def QC{i:X6}(af:-1000000000000000000<=i)(ao:i<=1000000000000000000):X3 i=Y0:=by delta X3;erw[YZ];lia
def QD{k:Y}(h:k<=1000000000000000000):X3 (k:X6)=Y0:=QC (h3 _) Z5
def AB{a b:X6}(h:X3 a=Y0\/X3 b=Y0)(n:Y):hh n [.int a,.int b]=J (.int<|a*b,.ah):=by show(if(X3 a||X3 b)=Y0 then J (T.int<|a*b,bk.ah) else C)=_;rw[Y2<|by rcases h with h|h<;>rw[h]<;>simp]
def product(ms:O Y)(hm:∀m∈ms,X3 (m:Y)=Y0)(n:Y):uY [(.aj (ms.map λm=>.int (m:Y)),Y0)] n=J (.int ((iF ms:Y):X6),Y1,n):=by
 let(S',(c,gk),e):=Pm (put:=cC 2) (b:=Am) (g:=λm:Y=>T.int m) (n:=n) (R:=λ(s:Y) S=>∃c,S=[J (.aj (ms.map λm=>.int (m:Y)),.ah),J (.int (s:X6),.ah),c]) (step:=λs m=>s*m) ms 1 [J (.aj (ms.map λm=>.int (m:Y)),.ah),J (.int 1,.ah),C]
  (λm Jy s S gk=>by
   let(c,rfl):=gk;let aM:X3 (m:X6)=Y0:=hm m Jy;show{_,_,D,?_,J (.int (m:Y),.ah),D};let aF:=AB (a:=(s:X6)) (b:=(m:X6)) (.inr aM) n;delta Am
   simp![aF]) {(C),D}
 rw[Jx,yi]at gk;subst gk;delta uY Jh;generalize ms.map (λm=>T.int (m:Y))=out at e |-;let aA:An [J (.aj out,.ah),J (.int 1,.ah),C] n=J (.bS,[J (.aj out,.ah),J (.int ((iF ms:Y):X6),.ah),c],n):=by delta An f7 hq ai;show e
 simp![fg,aA]
def QE(ds:O Z1):mK ds=iF (ds.map List.H):=by
 delta mK;let:∀(ds:O Z1) (a:Y),ds.foldl (λm d=>m*d.H) a=a*iF (ds.map List.H):=by
  intro ds
  induction ds with
  |nil=>intro a;simp[iF]
  |cons d ds aT=>intro a;rw[jR,aT];simp[iF,vE]
 rw[this,yi]
def amm(gP:∀d∈ds,d.H<=8)(cS:ds.H<=1000)(n:Y):Ao [(.aE<|ds.map ar,Y0)] n=J (.int ((mK ds:Y):X6),Y1,n):=by
 let dB:bl=1000000:=rfl;let aA:PK [J (.aE<|ds.map ar,.ah)] n=J (.aj (ds.map λd=>.int (d.H:Y)),.az,n) :=
  jI ds ar (λd=>.int (d.H:Y)) D Z5 λd hd=>by simp![ck,ar,ow,j5,sI,sJ]
 let av:=product (ds.map List.H) (λm hm=>by
  let(d,hd,rfl):=el.mp hm;let:=gP d hd
  show QC (h3 _) Z5) n
 rw[be]at av;rw[QE];delta Ao PL;rw[show((λm:Y=>T.int (m:X6))∘List.H:O X6->T)=λd=>.int (d.H:Y) from D]at av;generalize ds.map (λd=>T.int (d.H:Y))=out at aA av;simp![ek,aA,av]
def aiD(hd:d.H<=1000)(x:X6)(n:Y):DJ [(ar d,Y0),(.int x,Y0)] n=J (.int ((d.countP λf=>decide (f<x):Y):X6),Y1,n):=by
 let dB:bl=1000000:=rfl;let aA:PS [J (ar d,.ah),J (.int x,.ah)] n=J (.aj<|(d.filter λf=>decide (f<x)).map .int,.az,n) :=
  q9 d T.int (λf=>decide (f<x)) .int D Z5 λy aP=>by by_cases h:y<x<;>simp![ck,hX,fW,h]
 delta DJ PT;delta ar at aA |-;simp![ek,aA,ow,j5,sI,sJ];rw[A9]
noncomputable def u6:O Z1->O Z1
 |[]=>[[]]
 |d::ds=>d.flatMap λf=>(u6 ds).map (f::·)
def Jz(ds:O Z1):sN ds=u6 ds:=by
 let gen:∀(ds X2:O Z1),ds.foldl Um X2=X2.flatMap λr=>(u6 ds).map (r++·):=by
  intro ds
  induction ds with
  |nil=>intro X2;simp[u6]
  |cons d ds aT =>
   intro X2;rw[jR,aT];delta Um;rw[List.flatMap_assoc];congr 1;funext r;erw[u6,List.flatMap_map,qbj,be];congr 1;funext f;congr 1;funext x;simp
 delta sN;rw[gen];simp
def amn{α:Type}(l:O α):(l.map λ_=>0).sum=0:=by
 induction l with
 |nil=>rfl
 |cons x l aT=>simp[aT]
theorem D2{α:Type}(f g:α->Y):∀l:O α,(l.map λx=>f x+g x).sum=(l.map f).sum+(l.map g).sum
 |[]=>rfl
 |x::l=>by simp[D2 f g l];lia
theorem QF{α β:Type}(f:α->β->Y):∀(l:O α) (m:O β),(l.map λx=>(m.map λy=>f x y).sum).sum=(m.map λy=>(l.map λx=>f x y).sum).sum
 |[],m=>by simp[amn]
 |x::l,m=>by rw[cD,vA,QF f l m];erw[cD,vA];rw[D2]
theorem QG{α:Type}(p:α->Yc):∀l:O α,l.countP p=(l.map λx=>if p x=Y0 then 1 else 0).sum
 |[]=>rfl
 |x::l=>by rw[nP,cD,vA,QG p l,vF]
noncomputable def below(x:X6)(ds:O Z1):Y:=iF (ds.map λd=>d.countP λf=>decide (f<x))
def JA{M:Y}{F:Y}(h:ht M F ds)(fJ:M<=4)(dV:F<=8):mK ds<=4096:=by let eQ:=h.most;show bF (D1 (F:=8) λd hd=>bF (h.aK d hd).most dV) ?_;show bF (yf Z0 (show ds.H<=4 from(bF eQ fJ))) Z0
def QH{M F:Y}(h:ht M F ds):1<=mK ds:=by
 let pos:∀(ds:O Z1) (m:Y),0<m->(∀d∈ds,1<=d.H)->0<ds.foldl (λm d=>m*d.H) m:=by
  intro ds
  induction ds with
  |nil=>intro m h _;show h
  |cons d ds aT=>intro m h hd;show aT _ (Nat.mul_pos h<|hd d<|dF ..) λd' mr=>hd d'<|dZ _ mr
 show pos ds 1 Z0 λd hd=>(h.aK d hd).one
theorem JB{α:Type}(f:α->Y):∀l:O α,cx (l.map λx=>(f x:X6))=((l.map f).sum:Y)
 |[]=>rfl
 |x::l=>by rw[cD,cx,JB f l,cD,vA];lia
def ac9(xs:O T)(k:Y):oH xs C (J (k:X6))=xs.take k:=by
 delta oH a9.bD.bound;erw[ya,yh];rw[Y3<|tC<|h3 _];by_cases h:k<=xs.H
 .rw[show min (k:X6).M xs.H=k by lia]
 .rw[show min (k:X6).M xs.H=xs.length by lia,vz,vu<|ed<|tu h]
def ada(xs:O T)(k:Y):oH xs (J (k:X6)) C=xs.drop k:=by
 delta oH a9.bD.bound;simp only;rw[Y3<|tC<|h3 _];by_cases h:k<=xs.H
 .rw[show min (k:X6).M xs.H=k by lia];show vu (by rw[oS];show b3 _)
 .rw[show min (k:X6).M xs.H=xs.length by lia,List.drop_of_length_le (by show ed (tu h):xs.H<=k)];simp
def kH(a b:O X6):Y:=(a.map λg=>b.countP λf=>decide (f<g)).sum
def u7(a b:O X6):Y:=(a.map λg=>b.countP λf=>f==g).sum
def adb(a b:O X6):kH a b+u7 a b+kH b a=a.H*b.H:=by
 let s1:kH b a=(a.map λg=>b.countP λf=>decide (g<f)).sum:=by delta kH;erw[QG];rw[QF]
 rw[s1];delta kH u7;rw[<-D2,<-D2];clear s1;let:∀g,(b.countP λf=>decide (f<g))+(b.countP λf=>f==g)+(b.countP λf=>decide (g<f))=b.H:=λg=>by
  induction b with
  |nil=>rfl
  |cons f b aT =>
   erw[nP,d4];by_cases af:f<g
   .let ao:¬f=g:=(vL af)
    let a6:¬g<f:=(tC<|lx af)
    simp[af,ao,a6];lia
   .by_cases ao:f=g
    .let a6:¬g<f:=(tC<|FK ao)
     simp[ao];lia
    .let a6:g<f:=by lia
     simp[af,ao,a6];lia
 erw[this]
 induction a with
 |nil=>simp
 |cons x a aT=>rw[cD,vA,aT,d4,Nat.add_mul];lia
def Su{F G:Y}(bx:jK F a)(aq:jK G b)(dV:F<=8)(r6:G<=8)(n:Y):Ar [(ar a,Y0),(ar b,Y0)] n=J (.aE [.int ((kH a b:Y):X6),.int ((u7 a b:Y):X6),.int ((kH b a:Y):X6)],Y1,n):=by
 let dB:bl=1000000:=rfl;let cw:=bx.most;let eK:=aq.most;let aA:PU [J (ar a,.ah),J (ar b,.ah),C,C] n=J (.aj (a.map λg=>.int ((b.countP λf=>decide (f<g):Y):X6)),.az,n) :=
  jI a T.int (λg=>.int ((b.countP λf=>decide (f<g):Y):X6)) D Z5 λg _=>by let e:=aiD (d:=b) (bF eK<|bF r6 Z0) g n;simp![ck,e]
 let av:∀x,PV [J (ar a,.ah),J (ar b,.ah),x,C] n=J (.aj (a.map λg=>.int ((b.countP λf=>f==g:Y):X6)),.az,n):=λx =>
  jI a T.int (λg=>.int ((b.countP λf=>f==g:Y):X6)) D Z5 λg _=>by simp![ck,Tc,ar,ov,A9]
 let s1:=Ja (l:=a.map λg=>((b.countP λf=>decide (f<g):Y):X6)) n (by rw[cj];lia) λx ax=>by let(g,_,rfl):=el.mp ax;let:=io (p:=λf=>decide (f<g)) (l:=b);lia
 let s2:=Ja (l:=a.map λg=>((b.countP λf=>f==g:Y):X6)) n (by rw[cj];lia) λx ax=>by let(g,_,rfl):=el.mp ax;let:=io (p:=λf=>f==g) (l:=b);lia
 rw[JB (λg=>b.countP λf=>decide (f<g)),be]at s1;rw[JB (λg=>b.countP λf=>f==g),be]at s2;change nr n [.aj (a.map λg=>.int ((b.countP λf=>decide (f<g):Y):X6))]=J (.int ((kH a b:Y):X6),.ah) at s1;change nr n [.aj (a.map λg=>.int ((b.countP λf=>f==g:Y):X6))]=J (.int ((u7 a b:Y):X6),.ah) at s2;generalize a.map (λg=>T.int ((b.countP λf=>decide (f<g):Y):X6))=fu at aA s1;generalize a.map (λg=>T.int ((b.countP λf=>f==g:Y):X6))=hB at av s2;let a6:=adb a b;let a7:=Az bx dV n;let bM:=Az aq r6 n;let hm:=AB (a:=(a.H:X6)) (b:=(b.H:X6)) (.inl<|QD Z5) n;let hd:(a.H:X6)*(b.H:X6)-((kH a b:Y):X6)-((u7 a b:Y):X6)=((kH b a:Y):X6):=by rw[<-By];lia
 let fe:3<=bl:=by decide
 delta ar at aA av a7 bM |-;delta Ar TY;generalize hh=gm at*;simp![a7,bM,ek,aA,s1,av,s2,eD,ow,j5,sI,sJ,hm,fU,fW,hd,fe]
abbrev hl(d:O Z4)(s:O X6):Prop:=iQ d λp=>(s.countP p:Y)
def hl.val(B:hl d s){q:X6×X6}(h:q∈d):q.2=((s.countP λx=>x==q.1:Y):X6):=by let:=B.u5 λx=>x==q.1;rw[Qs B.bN (show(q.1,q.2)∈d from h)]at this;show this
def hl.key(B:hl d s){q:X6×X6}(h:q∈d):q.1∈s:=by
 let af:=B.val h;let ao:=B.pos q h;let:0<s.countP λx=>x==q.1:=by lia
 let(x,ax,e):=qa9.mp this;let e:x=q.1:=by simpa using e
 show e▸ax
def hl.has(B:hl d s){x:X6}(h:x∈s):∃v,(x,v)∈d:=by
 by_cases aY:x∈d.map (·.1)
 .let(q,a8,rfl):=el.mp aY;show{(q.2),a8}
 .let af:=B.u5 λy=>y==x;rw[Qr aY]at af;let:0<s.countP λy=>y==x:=qa9.mpr {x,h,by simp};lia
def hl.le(B:hl d s){q:X6×X6}(h:q∈d):q.2<=s.H:=by rw[B.val h];let:=io (p:=λx=>x==q.1) (l:=s);lia
theorem Sv:∀(d:O Z4) (s:O X6) (h:X6->X6),(d.map (·.1)).Nodup->(∀q∈d,q.2=((s.countP λx=>x==q.1:Y):X6))->(∀x∈s,x∈d.map (·.1))->cx (d.map λq=>q.2*h q.1)=cx (s.map h)
 |[],s,h,_,_,aM=>by
  cases s with
  |nil=>rfl
  |cons x s=>let:=aM x<|dF ..;simp at this
 |q::d,s,h,bN,bX,aM=>by
  rw[cD]at bN;let(aW,bW):=mP.mp bN;let split:∀s:O X6,cx (s.map h)=((s.countP λx=>x==q.1:Y):X6)*h q.1+cx ((s.filter λx=>!(x==q.1)).map h):=by
   intro s
   induction s with
   |nil=>simp[cx]
   |cons x s aT =>
    rw[cD,cx,aT,nP,tm];by_cases e:x=q.1
    .subst e;erw[K2,Yq,FG,iK,Ys];rw[show(((s.countP λx=>x==q.1)+1:Y):X6)=((s.countP λx=>x==q.1:Y):X6)+1 from D,yl];lia
    .let bH:(x==q.1)=Y1:=by simpa using e
     erw[bH,Bool.not_false,Yq,iK,Ys,cD,cx,Fx];lia
  rw[split s,cD,cx,bX q<|dF ..];congr 1;show Sv d (s.filter λx=>!(x==q.1)) h bW (λee pZ=>?_) λx ax=>?_
  .rw[bX ee<|dZ _ pZ,List.countP_filter];congr 1;show qbg λx _=>?_;let ne:ee.1≠q.1:=λz=>aW (by rw[<-z];show iJ (f:=(·.1)) pZ);constructor
   .intro z;let z:x=ee.1:=by simpa using z
    subst z;simp[ne]
   .intro z;simp at z |-;show z.1
  .let(af,ao):=gc.mp ax;let ao:x≠q.1:=by simpa using ao
   rcases ei.mp (aM x af) with z|z
   .show Yi z ao
   .show z
def hl.sum(B:hl d s)(h:X6->X6):cx (d.map λq=>q.2*h q.1)=cx (s.map h) :=
 Sv d s h B.bN (λq a8=>B.val a8) λx ax=>by let(v,bX):=B.has ax;show iJ (f:=(·.1)) bX
def hl.xR(B:hl d s):d.H<=s.H:=by
 let af:=B.sum λ_=>1;let ao:∀d:O Z4,(∀q∈d,1<=q.2)->(d.H:X6)<=cx (d.map λq=>q.2*1):=by
  intro d
  induction d with
  |nil=>intro _;simp[cx]
  |cons q d aT =>
   intro h;let:=aT λee pZ=>h ee<|dZ _ pZ;let:=h q<|dF ..;rw[cD,cx,d4];lia
 let a6:∀s:O X6,cx (s.map λ_=>1)=(s.H:X6):=by
  intro s
  induction s with
  |nil=>rfl
  |cons x s aT=>rw[cD,cx,aT,d4];show Int.add_comm _ _
 let:=ao d B.pos;rw[af,a6]at this;lia
def hl.vals(B:hl d s):cx (d.map (·.2))=(s.H:X6):=by
 let af:=B.sum λ_=>1;let a6:∀s:O X6,cx (s.map λ_=>1)=(s.H:X6):=by
  intro s
  induction s with
  |nil=>rfl
  |cons x s aT=>rw[cD,cx,aT,d4];show Int.add_comm _ _
 rw[a6]at af;erw[Int.mul_one]at af;show af
def D3(d:O Z4):(au d).map (λc4=>ip c4.1)=d.map λq=>T.int q.1:=by delta au;rw[be];rfl
def aiE{i:Y}(h:S[i]?=J (J (.a3<|au d,.ah)))(n:Y):eZ (ai i) S n=J (d.map λq=>T.int q.1,n):=by rw[<-D3];delta eZ ai;rw[h];rfl
def ako(B:hl d s){q:X6×X6}(h:q∈d)(n:Y):cB n [.a3<|au d,.int q.1]=J (.int q.2,.ah):=by let:=AA B.bN (show(q.1,q.2)∈d from h);show((iI<|.int q.1).bind λk=>(gZ (au d) k).map λt=>(t,bk.ah))=_;show((gZ (au d)<|.inl q.1).map λt=>(t,bk.ah))=_;rw[this];rfl
def akp(B:hl d s)(aM:s.H<=4096)(p:X6->Yc)(n:Y):nr n [.aj ((d.filter λq=>p q.1).map λq=>.int q.2)]=J (.int ((s.countP p:Y):X6),.ah):=by
 let dl:=B.xR;let s1:=Ja (l:=(d.filter λq=>p q.1).map (·.2)) n (by rw[cj];let:=vv (λq:X6×X6=>p q.1) d;lia) λx ax=>by let(q,a8,rfl):=el.mp ax;let a8:=(gc.mp a8).1;let af:=B.pos q a8;let ao:=B.le a8;lia
 rw[be]at s1;let t:=B.u5 p;delta jO at t;rw[t]at s1;show s1
def amo(B:hl d s)(aM:s.H<=4096)(t:X6)(n:Y):DH [(.a3<|au d,Y0),(.int t,Y0)] n=J (.int ((s.countP λx=>decide (t<=x):Y):X6),Y1,n):=by
 let dB:bl=1000000:=rfl;let dl:=B.xR;let aA:PI [J (.a3<|au d,.ah),J (.int t,.ah)] n=J (.aj ((d.filter λq=>decide (t<=q.1)).map λq=>.int q.2),.az,n) :=
  q9 d (λq=>.int q.1) (λq=>decide (t<=q.1)) (λq=>.int q.2) (aiE D n) Z5 λq a8=>by let g:=ako B a8 n;by_cases h:t<=q.1<;>simp![ck,qP,fW,h,g]
 let s1:=akp B aM (λx=>decide (t<=x)) n;generalize (d.filter λq=>decide (t<=q.1)).map (λq=>T.int q.2)=o at*;delta DH PJ;simp![ek,aA,s1]
def gu(ds:O Z1):O X6:=(sN ds).map cx
def xB(ds:O Z1):(gu ds).H=mK ds:=by delta gu;rw[cj,ac6]
def D4{M F:Y}(h:ht M F ds)(fJ:M<=4)(dV:F<=8)(n:Y):∃d,hl d (gu ds)/\iE [(.aE<|ds.map ar,Y0)] n=J (.a3<|au d,Y0,n):=by let eQ:=h.most;show QB (λd hd=>bF (h.aK d hd).most dV) (bF eQ fJ) n
end lJ
namespace lJ
open a9 a9.bD cp
def T2{i:Y}{n:Y}(h:S[i]?=J (J (t,.ah))):fg i d S n=d S n:=by delta fg;rw[h]
abbrev fz:=X6×X6×X6
def QI(a:O X6):gu [a]=a:=by
 delta gu;rw[Jz];erw[u6,cD,tn]
 induction a with
 |nil=>rfl
 |cons x a aT =>
  rw[kP,jS,aT];simp[cx]
def amq:gu []=[0]:=rfl
def JC(d:O X6)(ds:O Z1):gu (d::ds)=d.flatMap λf=>(gu ds).map (f+·):=by delta gu;rw[Jz,Jz];show(d.flatMap λf=>(u6 ds).map (f::·)).map cx=_;rw[qbj];congr 1;funext f;rw[be,be];rfl
def ade(p:a.Perm b):cx a=cx b:=by
 induction p with
 |nil=>rfl
 |cons x _ aT=>simp[cx,aT]
 |swap x y l=>simp[cx];lia
 |trans _ _ af ao=>show af.trans ao
noncomputable def sO(a b:O X6):O X6:=a.flatMap λx=>b.map (x+·)
theorem QJ(b:O X6):∀a:O X6,(sO a b).H=a.H*b.H
 |[]=>by simp[sO]
 |x::r=>by let:=QJ b r;delta sO at*;rw[kP,hM,this,cj,d4,oX,vF]
def A2(B:hl d s)(x:X6)(n:Y):j2 n [.a3<|au d,.int x,.int 0]=J (.int ((s.countP λy=>y==x:Y):X6),.ah):=by
 let h:=xn d x;let aN:cK d x=((s.countP λy=>y==x:Y):X6):=by
  by_cases ax:x∈s
  .let(v,bX):=B.has ax;rw[AA B.bN bX]at h;let h:T.int v=T.int (cK d x):=h
   ext h
   show B.val bX
  .rw[cnt_none (by
    rw[<-Lr,u4];intro z;let(q,a8,rfl):=el.mp z
    show ax<|B.key a8),E9.mpr λy aP z=>ax<|by rw[<-eq_of_beq z];show aP]
   rfl
 let e:j2 n [.a3<|au d,.int x,.int 0]=J ((gZ (au d)<|.inl x).getD (.int 0),.ah):=rfl;rw[e,h,aN]
end lJ
namespace lJ
open PySem a9 a9.bD cp
def akq(ns:O X6)(k m:X6)(aY:0<=k)(hm:1<=m)(n:Y):∃r,0<=r/\r<m/\DZ [(.aj<|ns.map .int,Y1),(.int k,Y0),(.int m,Y0)] n=J (.int r,Y1,n):=by
 let(c,e):=akn ns k aY n;let x0:=FJ ((c+7919*k+1)*48271) (b:=2147483647) Z0;let x1:=FI ((c+7919*k+1)*48271) (b:=2147483647) Z0;let x2:X3 ((c+7919*k+1)*48271%2147483647)=Y0:=by delta X3;erw[YZ];lia
 let s1:X3 48271=Y0:=rfl;let s2:X3 7919=Y0:=rfl;let s3:X3 7=Y0:=rfl;let m0:0<m:=hm;show{_,FJ (((c+7919*k+1)*48271%2147483647*((c+7919*k+1)*48271%2147483647)+7*((c+7919*k+1)*48271%2147483647)+k)%2147483629) (by show vK m0:m≠0),FI _ m0,?_};delta DZ Qe;simp![e,sX,fW,TS,sH,x2,s1,s2,s3,m0]
def D5(ns:O X6)(n:Y)(m:X6)(hm:1<=m)(bq:n<bl):∃r,0<=r/\r<m/\rh [(.aj<|ns.map .int,Y1),(.dQ,Y0),(.int m,Y0)] n=J (.int r,Y1,n+1):=by let(r,h0,af,e):=akq ns (n+1) m (h3 _) hm<|n+1;show{r,h0,af,?_};delta rh Qf;simp![lb,ow,j5,sI,sJ,bq,e]
def akr(ns:O X6)(l:O T)(b:Yc)(n:Y)(aC:l≠[])(bq:n<bl):∃v∈l,xA [(.aj<|ns.map .int,Y1),(.dQ,Y0),(.aj l,b)] n=J (v,Y1,n+1):=by
 let:1<=l.H:=by cases l with
  |nil=>show Yi D aC
  |cons _ _=>simp
 let(r,h0,af,e):=D5 ns n l.H Z5 bq;let hr:r.M<l.H:=by lia
 let av:hD l r=J l[r.M]:=by delta hD;rw[Y2 h0,Y2 af,gB hr]
 show{l[r.M],l9 hr,?_};generalize l[r.M]=v at av;delta xA Qg
 ext b<;>simp![lb,ow,xt,e,av]
def T3(ns l:O X6)(n:Y)(aC:l≠[])(bq:n<bl):∃v∈l,xA [(.aj<|ns.map .int,Y1),(.dQ,Y0),(.aj<|l.map .int,Y0)] n=J (.int v,Y1,n+1):=by let(t,cE,e):=akr ns (l.map .int) Y0 n (by simpa using aC) bq;let(v,bX,rfl):=el.mp cE;show{(v),bX,e}
def kX(d:O X6):Prop:=∃lo:X6,∀x∈d,lo<=x/\x<=lo+11
def T4(ns:O X6)(F:Y)(n:Y)(dV:1<=F)(AD:F<=8)(bq:n+20<=bl):∃d n',(jK F d/\kX d)/\n<=n'/\n'<=n+11/\pX [(.aj<|ns.map .int,Y1),(.dQ,Y0),(.int F,Y0),(.int 30,Y0)] n=J (ar d,Y1,n'):=by
 let dB:bl=1000000:=rfl;let(r,h0,af,aA):=D5 ns n 20 Z0<|tq bq;let(lo,M1,av):=T3 ns [0,0,1,1,r] (n+1) Z6 Z5;let ane:0<=lo/\lo<20:=by simp at M1;lia
 let(t8,adf,a7):=T3 ns [1,3,6,12] (n+1+1) Z6 Z5;let tL:1<=t8/\t8<=12:=by simp at adf;lia
 rw[show([0,0,1,1,r]:O X6).map T.int=[.int 0,.int 0,.int 1,.int 1,.int r] from D]at av;rw[show([1,3,6,12]:O X6).map T.int=[.int 1,.int 3,.int 6,.int 12] from D]at a7;let b0:-(bl:X6)<=F:=(h3 _)
 let dP:(F:X6)<=(bl:X6):=by lia
 let d9:∃(l:O X6) (bW:Y),l.H=F/\(∀x∈l,lo<=x/\x<=lo+11)/\n+3<=bW/\bW<=n+3+F/\Qh [J (.aj<|ns.map .int,.cV),J (.dQ,.ah),J (.int F,.ah),J (.int 30,.ah),J (.int lo,.ah),J (.int t8,.ah),C] (n+1+1+1)=J (.aj<|l.map T.int,.az,bW):=by
  let(out,bW,aR,a4,cQ,fQ,hk):=Pl (K:=1) (N:=bl) (P:=λt=>∃x:X6,t=.int x/\lo<=x/\x<=lo+11) (it:=kC<|ag (ai 2) aw)
   (l:=[C,J 0,J 1,J 2,J 3,J 4,J 5,J 6]) (i:=0) (e:=aB s7<|ag (ai 4)<|ag (aB dN<|ag (ai 5)<|ag (bB 3 rh<|aG (ai 1)<|aG (ai 2)<|aG (ai 6) bz) aw) aw) (S:=[J (.aj<|ns.map .int,.cV),J (.dQ,.ah),J (.int F,.ah),J (.int 30,.ah),J (.int lo,.ah),J (.int t8,.ah),C]) (n0:=n+1+1+1) (n:=n+1+1+1) (xs:=h1 0 F)
   (by delta kC;simp![b0,dP]) (λx n bq=>by
    let(r,h0,af,e):=D5 ns n t8 (tL.1)<|bq;let em:s7 (n+1) [.int 30,.int<|lo+r]=J (.int (if lo+r<30 then lo+r else 30),.ah):=rfl;show{.int (if lo+r<30 then lo+r else 30),n+1,?_,(hF _ _),(b3 _),_,D,by split<;>lia,by split<;>lia};generalize (if lo+r<30 then lo+r else 30)=z at em
    simp![e,sH,ck,em]) (by rw[uV];lia) (by rw[uV];lia)
  let(l,rfl,aC):=I8 T.int (λx=>lo<=x/\x<=lo+11) a4;rw[uV]at aR fQ;rw[cj]at aR;show{l,bW,aR,aC,cQ,by lia,hk}
 let(l,bW,aR,aC,cQ,fQ,d9):=d9;let cm:=(sortI_perm l).length_eq;show{sortI l,bW,{⟨by lia,(bF (dK cm)<|dK aR),λx ax=>by let:=aC x<|(sortI_perm l).mem_iff.mp ax;lia,zr l⟩,lo,λx ax=>aC x<|(sortI_perm l).mem_iff.mp ax},(nQ cQ),by lia,?_};let adg:l.H<64:=by lia
 let fV:uy bW [.aj<|l.map .int]=J (.aj<|(sortI l).map .int,.az):=by simp[uy,ov,adg]
 let fC:kD bW [.aj<|(sortI l).map .int]=J (ar<|sortI l,.ah):=rfl;let k5:5<=bl:=by decide
 let qC:4<=bl:=by decide
 generalize ar (sortI l)=o at*;generalize (sortI l).map T.int=c8 at*;generalize l.map T.int=wI at*;delta pX Qi;simp![et,aA,av,a7,d9,fV,fC,qC,k5]
def agO(ns:O X6)(F:Y)(n:Y)(dV:1<=F)(AD:F<=8)(bq:n+20<=bl):∃d n',jK F d/\n<=n'/\n'<=n+11/\pX [(.aj<|ns.map .int,Y1),(.dQ,Y0),(.int F,Y0),(.int 30,Y0)] n=J (ar d,Y1,n') :=
 let ⟨d,n',h,r⟩:=T4 ns F n dV AD bq
 {(d),n',h.1,r}
def aks(ns:O X6)(M F n:Y)(fJ:1<=M)(QK:M<=4)(dV:1<=F)(AD:F<=8)(bq:n+100<=bl):∃ds n',ds.H=M/\(ht M F ds/\∀d∈ds,kX d)/\n<=n'/\n'<=n+48/\u3 [(.aj<|ns.map .int,Y1),(.dQ,Y0),(.int M,Y0),(.int F,Y0)] n=J (.aE<|ds.map ar,Y1,n'):=by
 let dB:bl=1000000:=rfl;let b0:-(bl:X6)<=M:=(h3 _)
 let dP:(M:X6)<=(bl:X6):=by lia
 let(out,bW,aR,a4,cQ,fQ,hk):=Pl (K:=12) (N:=bl-19) (P:=λt=>∃d:O X6,t=ar d/\jK F d/\kX d) (it:=kC<|ag (ai 2) aw)
  (l:=[C,J 0,J 1,J 2,J 3]) (i:=0) (e:=bB 4 pX<|aG (ai 1)<|aG (ai 2)<|aG (aB dN<|ag (aS<|.int 1)<|ag (bB 3 rh<|aG (ai 1)<|aG (ai 2)<|aG (ai 4) bz) aw)<|aG (aS<|.int 30) bz) (S:=[J (.aj<|ns.map .int,.cV),J (.dQ,.ah),J (.int M,.ah),J (.int F,.ah)]) (n0:=n) (n:=n) (xs:=h1 0 M)
  (by delta kC;simp![b0,dP]) (λx n bq=>by
   let(r,h0,af,e):=D5 ns n F Z5 Z5;obtain⟨k,rfl⟩:∃k:Y,r=k:={r.M,by lia}
   let(d,n',(g,i9),fL,eQ,av):=T4 ns (1+k) (n+1) (hF _ _) Z5 Z5;let av:pX [(.aj<|ns.map .int,Y1),(.dQ,Y0),(.int<|1+(k:X6),Y0),(.int 30,Y0)] (n+1)=J (ar d,Y1,n'):=av;show{ar d,n',?_,(ed fL),eQ,d,D,{g.one,by let:=g.most;lia,g.ia,g.up},i9};let wJ:iC (ar d)=Y1:=rfl;generalize ar d=km at *
   simp![e,av,sH,ck]) (by rw[uV];lia) (by rw[uV];lia)
 let(l,rfl,aC):=I8 ar (λd=>jK F d/\kX d) a4;rw[uV]at aR fQ;rw[cj]at aR;show{l,bW,aR,{{(bF fJ<|dK aR.symm),(dK aR),λd h=>(aC d h).1},λd h=>(aC d h).2},cQ,by lia,?_};let d9:Qj [J (.aj<|ns.map .int,.cV),J (.dQ,.ah),J (.int M,.ah),J (.int F,.ah)] n=J (.aj<|l.map ar,.az,bW):=hk;delta u3 Qk;simp![d9,aiv]
def akt(ns:O X6)(M F n:Y)(fJ:1<=M)(QK:M<=4)(dV:1<=F)(AD:F<=8)(bq:n+100<=bl):∃ds n',ds.H=M/\ht M F ds/\n<=n'/\n'<=n+48/\u3 [(.aj<|ns.map .int,Y1),(.dQ,Y0),(.int M,Y0),(.int F,Y0)] n=J (.aE<|ds.map ar,Y1,n') :=
 let ⟨ds,n',a,b,r⟩:=aks ns M F n fJ QK dV AD bq
 {(ds),n',a,b.1,r}
end lJ
namespace lJ
open a9 a9.bD cp
def vm(r:O Yc):T:=.aj<|r.map .a5
def A3(cn:O<|O Yc):T:=.aj<|cn.map vm
def aiF{α:Type}(f:α->T)(l:O α)(d:α){i:X6}(h0:0<=i)(af:i<l.H):hD (l.map f) i=J (f<|l.getD i.M d):=by
 delta hD;rw[Y2 h0,cj,Y2 af,hN];let:i.M<l.H:=by lia
 rw[gB this,iu,gB this];rfl
theorem QL:∀(m:Y) (p:O X6),(∀x∈p,0<=x/\x<m)->p.Nodup->p.H<=m
 |0,p,h,_=>by
  cases p with
  |nil=>simp
  |cons x p=>let:=h x<|dF ..;lia
 |m+1,p,h,bN=>by
  let aT:=QL m (p.filter λx=>!decide (x=m)) (λx ax=>by
   let(af,ao):=gc.mp ax;let:=h x af;simp at ao
   lia) (bN.filter _)
  let c:p.count (m:X6)<=1:=List.nodup_iff_count.mp bN _;let e:=List.length_eq_countP_add_countP (λx=>decide (x=(m:X6))) (l:=p);let av:p.countP (λx=>decide (x=(m:X6)))=p.count (m:X6):=by delta List.count;congr 1
  let a7:p.countP (λa=>!decide (a=(m:X6)))=(p.filter λx=>!decide (x=(m:X6))).H:=A9 ..;let bM:p.countP (λa=>decide ¬decide (a=(m:X6))=Y0)=p.countP (λa=>!decide (a=(m:X6))):=by congr 1;funext x;simp
  rw[bM]at e;lia
def amr{a b:X6}{p:O X6}(h:∀x∈p,a<=x/\x<b)(bN:p.Nodup):p.H<=(b-a).M:=by
 let:=QL (b-a).M (p.map λx=>x-a) (λy aP=>by
  let(x,ax,rfl):=el.mp aP;let:=h x ax
  lia) (vy.mpr (bN.imp λ{x y} e z=>e Z5))
 rwa [cj]at this
theorem QM{α β:Type}(f:α->O β):∀(l:O α) (Fa:O β),l.foldl (λa x=>a++f x) Fa=Fa++l.flatMap f
 |[],Fa=>by simp
 |x::l,Fa=>by rw[jR,QM f l,kP,hj]
def fo(a b:O X6):Yc:=decide (kH b a<kH a b)
def Td{F G:Y}(bx:jK F a)(aq:jK G b)(dV:F<=8)(r6:G<=8)(n:Y):As [(ar a,Y0),(ar b,Y0)] n=J (.a5<|fo a b,Y1,n):=by let e:=Su bx aq dV r6 n;delta As PW fo;generalize ar a=ta at*;generalize ar b=cn at*;simp![e,uX,hD,jF,fW]
def tabOf(ss:O Z1):O<|O Yc:=ss.map λa=>ss.map λb=>fo a b
def QN{α β:Type}(f:α->β)(l:O α):l.foldl (λa x=>a++[f x]) []=l.map f:=by
 rw[QM,qc]
 induction l with
 |nil=>rfl
 |cons x l aT=>rw[kP,aT];rfl
def JD{M F:Y}(h:ht M F ds)(fJ:M<=4)(dV:F<=8)(n:Y):rd [(.aE<|ds.map ar,Y0)] n=J (A3<|tabOf ds,Y0,n):=by
 let dB:bl=1000000:=rfl;let nf:=h.most;let row:∀a∈ds,∀x1:X8 (T×bk),Jl [J (.aE<|ds.map ar,.ah),x1,J (ar a,.ah)] n=J (vm (ds.map λb=>fo a b),.az,n):=λa bx x1=>by delta vm;rw[be];show jI ds ar (λb=>.a5<|fo a b) D Z5 λb aq=>?_;let e:=Td (h.aK a bx) (h.aK b aq) dV dV n;generalize ar a=ta at*;generalize ar b=cn at*;simp![ck,e]
 let(S',(x2,gk),e):=I9 (put:=cC 2) (b:=PY) (g:=ar) (n:=n) (R:=λ(s:O (O Yc)) S=>∃x2,S=[J (.aE<|ds.map ar,.ah),J (.aj<|s.map vm,.az),x2]) (step:=λs a=>s++[ds.map λb=>fo a b]) ds [] [J (.aE<|ds.map ar,.ah),J (.aj [],.az),C] (λpre a post he S gk=>by
   let(x2,rfl):=gk;let bx:a∈ds:=by rw[he];simp
   let l:(pre.foldl (λs a=>s++[ds.map λb=>fo a b]) []).H=pre.H:=by rw[QN];simp
   let eQ:pre.H<ds.H:=by rw[he];simp
   let ap:nH (.aj<|(pre.foldl (λs a=>s++[ds.map λb=>fo a b]) []).map vm) (vm (ds.map λb=>fo a b))=J (.aj<|(pre.foldl (λs a=>s++[ds.map λb=>fo a b]) []++[ds.map λb=>fo a b]).map vm):=by rw[jS];show(if _ then _ else _)=_;rw[Y2<|by rw[cj,l];lia];rfl
   show{_,_,D,I7 (i:=1) (g:=nH) (d:=Jl) (row a bx _) D ap,J (ar a,.ah),D}) {(C),D}
 rw[QN]at gk;let gk:S'=[J (.aE<|ds.map ar,.ah),J (A3<|tabOf ds,.az),x2]:=gk;subst gk;let jC:fg 0 Jm [J (.aE<|ds.map ar,.ah),J (.aj [],.az),C] n=J (.bS,[J (.aE<|ds.map ar,.ah),J (A3<|tabOf ds,.az),x2],n):=e;delta rd PZ;generalize A3 (tabOf ds)=tt at*;generalize ds.map ar=dd at*;generalize fg 0 Jm=LL at*;let ja:0<=bl:=by decide
 simp![et,ja,jC]
structure fM (d:O Z4):Prop where
 bN:(d.map (·.1)).Nodup
 pos:∀q∈d,1<=q.2
def cnt_cons(p:X6×X6)(d:O Z4)(k:X6):cK (p::d) k=if p.1=k then p.2 else cK d k:=by delta cK;rw[oT];by_cases h:p.1=k<;>simp[h]
theorem jk:∀{d:O Z4} {q:X6×X6},(d.map (·.1)).Nodup->q∈d->cK d q.1=q.2
 |[],q,_,h=>by simp at h
 |p::d,q,bN,h=>by
  rw[cD]at bN;let(aW,bW):=mP.mp bN;rw[cnt_cons];rcases ei.mp h with rfl|h
  .simp
  .let:¬p.1=q.1:=λz=>aW (by rw[z];show iJ (f:=(·.1)) h);rw[Y3 this];show jk bW h
def oy{k:X6}(h:k∉d.map (·.1)):cK d k=0:=by
 induction d with
 |nil=>rfl
 |cons p d aT =>
  rw[cD]at h;rw[cnt_cons,Y3 λz=>h<|by rw[<-z];show dF ..];show aT λz=>h<|dZ _ z
def fM.mem(B:fM d){k:X6}(h:1<=cK d k):k∈d.map (·.1):=by
 by_cases z:k∈d.map (·.1)
 .show z
 .rw[oy z]at h;lia
def fM.E4(B:fM d){k:X6}(h:k∈d.map (·.1)):1<=cK d k:=by let(q,a8,rfl):=el.mp h;rw[jk B.bN a8];show B.pos q a8
def fM.nonneg(B:fM d)(k:X6):0<=cK d k:=by
 by_cases z:k∈d.map (·.1)
 .let:=B.E4 z;show lx this
 .rw[oy z];decide
noncomputable def subs(d:O Z4)(g:X6->X6):O Z4:=(d.map λp=>(p.1,p.2-g p.1)).filter λp=>decide (0<p.2)
def JE(d:O Z4)(g:X6->X6):((subs d g).map (·.1)).Sublist (d.map (·.1)):=by delta subs;let h:=(List.filter_sublist (p:=λp:X6×X6=>decide (0<p.2)) (l:=d.map λp=>(p.1,p.2-g p.1))).map (λp:X6×X6=>p.1);rw[be]at h;show h
theorem fM.subs(B:fM d)(g:X6->X6):fM<|subs d g:=by show{B.bN.sublist<|JE d g,λq a8=>?_};let:=(gc.mp a8).2;simp at this;show this
def QO(B:fM d){g:X6->X6}(h:∀k,0<=g k/\g k<=cK d k)(k:X6):cK (subs d g) k=cK d k-g k:=by
 by_cases z:k∈(subs d g).map (·.1)
 .let(q,a8,rfl):=el.mp z;rw[jk (B.subs g).bN a8];let(af,_):=gc.mp a8;let(p,aF,rfl):=el.mp af;rw[jk B.bN aF]
 .rw[oy z];let(af,ao):=h k;by_cases y:k∈d.map (·.1)
  .let(q,a8,rfl):=el.mp y;rw[jk B.bN a8]at ao |-;by_cases w:0<q.2-g q.1
   .exfalso;show z<|el.mpr {(q.1,q.2-g q.1),gc.mpr {el.mpr {(q),a8,D},by simpa using w},D}
   .show Int.le_antisymm (FH ao)<|FL.mp w
  .rw[oy y]at ao |-;lia
theorem QP(g h:X6->X6)(bQ:∀k,0<=h k):∀d:O Z4,subs (subs d g) h=subs d λk=>g k+h k
 |[]=>rfl
 |p::d=>by
  let aT:=QP g h bQ d;delta subs at aT |-;let:=bQ p.1;rw[cD,tm,cD,tm];by_cases w:0<p.2-g p.1
  .erw[w,decide_true,Yq];rw[cD,tm,aT];erw[Int.sub_sub]
  .let gC:¬0<p.2-(g p.1+h p.1):=by lia
   erw[w,gC,decide_false,iK,Ys];show aT
def adh(B:fM d):subs d (λ_=>0)=d:=by
 delta subs;let e:(d.map λp=>(p.1,p.2-0))=d:=by show(lq (g:=id) λp _=>?_).trans (Bm _);simp
 rw[e,E8];intro p aF;let:=B.pos p aF;simp;show this
def X1(d:O Z4):X6:=(X0<|d.map (·.1)).getD 0
theorem adi:∀{l:O X6},l≠[]->∃x,X0 l=J x/\x∈l/\∀y∈l,x<=y
 |[],h=>Yi D h
 |a::l,_=>by
  let gen:∀(l:O X6) (a:X6),(l.foldl (λa b=>if b<a then b else a) a=a\/l.foldl (λa b=>if b<a then b else a) a∈l)/\l.foldl (λa b=>if b<a then b else a) a<=a/\∀y∈l,l.foldl (λa b=>if b<a then b else a) a<=y:=by
   intro l
   induction l with
   |nil=>intro a;show{.inl D,ym _,by simp}
   |cons b l aT =>
    intro a;rw[jR];let(af,ao,a6):=aT (if b<a then b else a);show{?_,?_,λy aP=>?_}
    .rcases af with af|af
     .rw[af];by_cases c:b<a
      .rw[Y2 c];show .inr<|dF ..
      .rw[Y3 c];show .inl D
     .show .inr<|dZ _ af
    .show iv ao ?_;split<;>lia
    .rcases ei.mp aP with rfl|aP
     .show iv ao ?_;split<;>lia
     .show a6 y aP
  let(af,ao,a6):=gen l a;show{_,D,?_,λy aP=>?_}
  .rcases af with af|af
   .rw[af];show dF ..
   .show dZ _ af
  .rcases ei.mp aP with rfl|aP
   .show ao
   .show a6 y aP
def xC(h:d≠[]):X0 (d.map (·.1))=J (X1 d)/\X1 d∈d.map (·.1)/\∀y∈d.map (·.1),X1 d<=y:=by
 let(x,e,af,ao):=adi (l:=d.map (·.1)) (by simpa using h);let:X1 d=x:=by delta X1;rw[e];rfl
 rw[this];show{(e),af,ao}
def aiG(h:d≠[]){m:X6}(af:m∈d.map (·.1))(ao:∀y∈d.map (·.1),m<=y):X1 d=m:=by let(_,a,b):=xC h;let:=b m af;let:=ao _ a;lia
noncomputable def dY(aK:O X6)(hE:X6)(j:Y)(x:X6):X6:=(j:X6)*((aK.countP λy=>y==x-hE:Y):X6)
def sP(aK:O X6)(hE:X6)(j:Y)(x:X6):0<=dY aK hE j x:=Int.mul_nonneg (h3 _)<|h3 _
def JF(aK:O X6)(hE:X6)(i j:Y)(x:X6):dY aK hE (i+j) x=dY aK hE i x+dY aK hE j x:=by delta dY;rw[Int.natCast_add,yl]
def adj(aK:O X6)(hE:X6){i j:Y}(h:i<=j)(x:X6):dY aK hE i x<=dY aK hE j x:=Ls Z5<|h3 _
def Fits(d:O Z4)(g:X6->X6):Prop:=∀k,g k<=cK d k
def dn(aK:O X6)(d:O Z4):X6:=X1 d-aK.headD 0
def Ok(aK:O X6)(d:O Z4):Prop:=0<=dn aK d/\Fits d (dY aK (dn aK d) 1)
inductive mL (aK:O X6):O Z4->X8 Z1->Prop
 |nil:mL aK []<|some []
 |bad {d:O Z4}:d≠[]->¬Ok aK d->mL aK d C
 |good {d:O Z4} {r:X8 Z1}:d≠[]->Ok aK d->mL aK (subs d<|dY aK (dn aK d) 1) r->mL aK d (r.map (dn aK d::·))
noncomputable def gA(aK:O X6):Y:=aK.countP λy=>y==aK.headD 0
def D6(h:1<=aK.H):1<=gA aK:=by
 cases aK with
 |nil=>simp at h
 |cons x r=>delta gA;rw[nP];simp
def D7(aK:O X6)(d:O Z4)(j:Y):dY aK (dn aK d) j (X1 d)=(j:X6)*(gA aK:X6):=by delta dY dn gA;rw[show X1 d-(X1 d-aK.headD 0)=aK.headD 0 by lia]
def aku{hE:X6}{i j:Y}(h:i<=j)(f:Fits d<|dY aK hE j):Fits d<|dY aK hE i:=λk=>iv (adj aK hE h k)<|f k
def QQ(af:1<=aK.H)(B:fM d)(hd:d≠[]){j:Y}(bO:((j:X6)+1)*(gA aK:X6)<=cK d (X1 d))(hf:Fits d<|dY aK (dn aK d) j) :
  subs d (dY aK (dn aK d) j)≠[]/\dn aK (subs d<|dY aK (dn aK d) j)=dn aK d:=by
 let c:=QO B (g:=dY aK (dn aK d) j) (λk=>{sP aK _ j k,hf k})<|X1 d;rw[D7]at c;let p:=D6 af;rw[yl]at bO;let m:=(B.subs<|dY aK (dn aK d) j).mem (k:=X1 d) Z5;let ne:subs d (dY aK (dn aK d) j)≠[]:=by intro e;rw[e]at m;simp at m
 show{ne,?_};let e:=aiG ne m λy aP=>(xC hd).2.2 y ((JE d _).subset aP);show X1 _-_=X1 d-_;rw[e]
def QR(B:fM d){hE:X6}{j:Y}(hf:Fits d<|dY aK hE j):Fits (subs d<|dY aK hE j) (dY aK hE 1)↔Fits d (dY aK hE<|j+1):=by
 let c:=QO B (g:=dY aK hE j) λk=>{sP aK _ j k,hf k};constructor
 .intro h k;let:=h k;rw[c k]at this;rw[JF];lia
 .intro h k;let:=h k;rw[JF]at this;rw[c k];lia
def ams{hE:X6}(j:Y):subs (subs d<|dY aK hE j) (dY aK hE 1)=subs d (dY aK hE<|j+1):=by rw[QP _ _<|sP aK hE 1];congr 1;funext k;rw[JF]
theorem JG(af:1<=aK.H)(B:fM d)(hd:d≠[])(h0:0<=dn aK d)(M:mL aK d r):∀j:Y,(j:X6)*(gA aK:X6)<=cK d (X1 d)->Fits d (dY aK (dn aK d) j) ->
  ∃bY,r=bY.map (Yj j (dn aK d)++·)/\mL aK (subs d<|dY aK (dn aK d) j) bY
 |0,_,_=>by
  show{r,by ext r<;>rfl,?_};let e:dY aK (dn aK d) 0=λ_=>0:=by funext k;delta dY;simp
  rw[e,adh B];show M
 |j+1,bO,hf=>by
  let JH:=aku (tB j) hf;let mE:((j:X6)+1)*(gA aK:X6)<=cK d (X1 d):=by simpa using bO
  let(Vz,e,GH):=JG af B hd h0 M j (by rw[yl]at mE;lia) JH;let(ne,pz):=QQ af B hd mE JH;let ok:Ok aK<|subs d<|dY aK (dn aK d) j:={by rw[pz];show h0,by rw[pz];show(QR B JH).mpr hf}
  generalize pw:subs d (dY aK (dn aK d) j)=X at*;cases GH with
  |nil=>show Yi D ne
  |bad _ JI=>show Yi ok JI
  |@good _ bY _ _ L6 =>
   rw[pz,<-pw,ams]at L6;show{bY,?_,L6};rw[e,pz];cases bY with
   |none=>rfl
   |some l =>
    erw[vI];congr 1;rw[qa5,hj];rfl
def adk(af:1<=aK.H)(B:fM d)(hd:d≠[])(h0:0<=dn aK d)(M:mL aK d r){q:Y}(a8:(q:X6)*(gA aK:X6)<=cK d (X1 d))(hf:¬Fits d (dY aK (dn aK d) q)):r=C:=by
 let z:Fits d<|dY aK (dn aK d) 0:=λk=>by let:=B.nonneg k;delta dY;simpa using this
 let ex:∃j,j<q/\Fits d (dY aK (dn aK d) j)/\¬Fits d (dY aK (dn aK d)<|j+1):=by
  clear a8
  induction q with
  |zero=>show Yi z hf
  |succ q aT =>
   by_cases c:Fits d<|dY aK (dn aK d) q
   .show{q,mS _,c,hf}
   .let(j,a,b):=aT c;show{j,(qe a),b}
 let(j,bO,f1,f2):=ex;let p:=D6 af;let mE:((j:X6)+1)*(gA aK:X6)<=cK d (X1 d):=iv (Ls Z5<|h3 _) a8;let(Vz,e,GH):=JG af B hd h0 M j (by rw[yl]at mE;lia) f1;let(ne,pz):=QQ af B hd mE f1;let JI:¬Ok aK (subs d<|dY aK (dn aK d) j):=λo=>f2<|(QR B f1).mp (by let:=o.2;rw[pz]at this;show this);generalize subs d (dY aK (dn aK d) j)=X at*;cases GH with
 |nil=>show Yi D ne
 |bad _ _=>rw[e];rfl
 |good _ ok _=>show Yi ok JI
def QS(hd:d≠[])(M:mL aK d r)(h:dn aK d<0\/cK d (X1 d)<(gA aK:X6)):r=C:=by
 cases M with
 |nil=>show Yi D hd
 |bad _ _=>rfl
 |good _ ok _ =>
  exfalso;rcases h with h|h
  .let:=ok.1;lia
  .let:=ok.2<|X1 d;rw[D7]at this;lia
def fx(d:O Z4):X6:=cx<|d.map (·.2)
theorem JJ{g:X6->X6}(bQ:∀k,0<=g k):∀{d:O Z4},(∀q∈d,g q.1<=q.2)->fx (subs d g)+(cx (d.map λq=>g q.1))=fx d
 |[],_=>rfl
 |p::d,h=>by
  let aT:=JJ bQ (d:=d) λq a8=>h q<|dZ _ a8;let aF:=h p<|dF ..;delta fx subs at aT |-;rw[cD,tm,cD,cD,cx,cx];by_cases w:0<p.2-g p.1
  .erw[w,decide_true,Yq];rw[cD,cx];show p.2-g p.1+_+_=_;lia
  .erw[w,decide_false,iK,Ys];lia
def D8(h:∀x∈l,0<=x){y:X6}(aP:y∈l):y<=cx l:=by
 let nn:∀l:O X6,(∀x∈l,0<=x)->0<=cx l:=by
  intro l
  induction l with
  |nil=>intro _;simp[cx]
  |cons x l aT=>intro h;rw[cx];let:=h x<|dF ..;let:=aT λz hz=>h z<|dZ _ hz;lia
 induction l with
 |nil=>simp at aP
 |cons x l aT =>
  rw[cx];let h0:=h x<|dF ..;let aC:=nn l λz hz=>h z<|dZ _ hz;rcases ei.mp aP with rfl|aP
  .lia
  .let:=aT (λz hz=>h z<|dZ _ hz) aP;lia
def QT(B:fM d){g:X6->X6}(f:Fits d g):∀q∈d,g q.1<=q.2:=λq a8=>by let:=f q.1;rw[jk B.bN a8]at this;show this
def amt(af:1<=aK.H)(B:fM d)(hd:d≠[]){j:Y}(bO:1<=j)(f:Fits d<|dY aK (dn aK d) j):fx (subs d<|dY aK (dn aK d) j)+1<=fx d:=by
 let e:=JJ (sP aK (dn aK d) j)<|QT B f;let(_,m,_):=xC hd;let(q,a8,hm):=el.mp m;let:=D8 (l:=d.map λq=>dY aK (dn aK d) j q.1) (λx ax=>by let(q,_,rfl):=el.mp ax;show sP ..)<|iJ (f:=λq:X6×X6=>dY aK (dn aK d) j q.1) a8;rw[hm,D7]at this;let p:=D6 af;let:1<=(j:X6)*(gA aK:X6):=by let:=tv bO p;rw[<-By];lia
 lia
def QU(B:fM d):0<=fx d:=by
 delta fx;let:∀l:O X6,(∀x∈l,0<=x)->0<=cx l:=by
  intro l
  induction l with
  |nil=>intro _;simp[cx]
  |cons x l aT=>intro h;rw[cx];let:=h x<|dF ..;let:=aT λz hz=>h z<|dZ _ hz;lia
 show this _ λx ax=>?_;let(q,a8,rfl):=el.mp ax;let:=B.pos q a8;show lx this
def akv(af:1<=aK.H):∀(N:Y) (d:O Z4),fM d->fx d<=N->∃r,mL aK d r:=by
 intro N
 induction N with
 |zero =>
  intro d B h;cases hd:d with
  |nil=>show{_,.nil}
  |cons p r =>
   exfalso;let:=D8 (l:=d.map (·.2)) (λx ax=>by let(q,a8,rfl):=el.mp ax;let:=B.pos q a8;show lx this)<|iJ (f:=(·.2)) (show p∈d by rw[hd];show dF ..);let:=B.pos p (by rw[hd];show dF ..);delta fx at h;lia
 |succ N aT =>
  intro d B h;by_cases hd:d=[]
  .subst hd;show{_,.nil}
  .by_cases ok:Ok aK d
   .let(r,M):=aT _ (B.subs<|dY aK (dn aK d) 1) (by let:=amt af B hd (j:=1) (b3 _) ok.2;show Int.le_of_lt_add_one<|Bx this h);show{_,.good hd ok M}
   .show{_,.bad hd ok}
def L7(d:O Z4)(s:O X6):Prop:=∀k,cK d k=((s.countP λx=>x==k:Y):X6)
def hl.cK(B:hl d s):L7 d s:=λx=>by
 by_cases ax:x∈s
 .let(v,bX):=B.has ax;rw[jk B.bN bX];show B.val bX
 .rw[oy (λz=>by
   let(q,a8,rfl):=el.mp z
   show ax<|B.key a8),E9.mpr λy aP z=>ax<|by rw[<-eq_of_beq z];show aP]
  rfl
def QV(af:∀d∈ds,1<=d.H)(hz:iF (ds.map List.H)<=100000)(n:Y) :
  ∃d,hl d (gu ds)/\iE [(.aE<|ds.map ar,Y0)] n=J (.a3<|au d,Y0,n) :=
 QA (by rw[show(ds.map λx=>max 1 x.H)=ds.map List.H from lq λx ax=>Nat.max_eq_right<|af x ax];show hz) n
noncomputable def ct(tw:O Z4):O T:=tw.map λp=>.aE [.int p.1,.int p.2]
theorem QW:∀tw:O Z4,qa (ct tw)=J (au tw)
 |[]=>rfl
 |p::tw=>by let aT:=QW tw;delta ct at aT |-;rw[cD];delta qa;show(KY (J (YE p.1:gE)) λk=>(qa _).map ((k,T.int p.2)::·))=_;rw[aT];rfl
theorem QX:∀(tw A:O Z4),((A++tw).map (·.1)).Nodup->(au tw).foldl (λd p=>jG d p.1 p.2) (au A)=au (A++tw)
 |[],A,_=>by simp[au]
 |p::tw,A,h=>by
  let bq:(A.any λq=>decide (q.1=p.1))=Y1:=by rw[<-Lr,u4];intro z;rw[jS,Bh]at h;show h.2.2 _ z _ Z6 D
  let e:jG (au A) (.inl p.1) (.int p.2)=au (A++[p]):=by delta jG;rw[T1,bq];simp[au]
  let aT:=QX tw (A++[p]) (by simpa using h);show(au tw).foldl (λd p=>jG d p.1 p.2) (jG (au A) (.inl p.1)<|.int p.2)=_;rw[e,aT,hj];rfl
def KL(bN:(tw.map (·.1)).Nodup)(aC:tw.H<bl)(n:Y):qQ n [.aj<|ct tw]=J (.a3<|au tw,.az):=by show((qa<|ct tw).bind λps=>if ps.H<bl then J (T.a3<|ps.foldl (λd p=>jG d p.1 p.2) [],bk.az) else C)=_;rw[QW];let:=QX tw [] (by simpa using bN);rw[show(au ([]:O Z4))=[] from D]at this;show(if(au tw).H<bl then J (T.a3<|(au tw).foldl (λd p=>jG d p.1 p.2) [],bk.az) else C)=_;rw[Y2 (by delta au;rw[cj];show aC),this];rfl
def QY(bN:(d.map (·.1)).Nodup){k:X6}(h:k∈d.map (·.1))(w:X6):gs d k w=d.map λp=>(p.1,p.2+if p.1=k then w else 0):=by
 delta gs;rw[Y2<|(u4 d k).mpr h];show lq λp aF=>?_;by_cases e:p.1=k
 .rw[Y2 e,Y2 e,<-e,jk bN aF]
 .rw[Y3 e,Y3 e];simp
def JK{k:X6}(h:k∈d.map (·.1))(w:X6):(gs d k w).map (·.1)=d.map (·.1):=by delta gs;rw[Y2<|(u4 d k).mpr h,be];show lq λp _=>?_;show(if p.1=k then _ else p).1=p.1;split<;>rfl
def D9{k:X6}(h:k∉d.map (·.1))(w:X6):gs d k w=d++[(k,w)]:=by delta gs;rw[Y3 λz=>h<|(u4 d k).mp z]
def AE(bN:(d.map (·.1)).Nodup)(k w:X6):((gs d k w).map (·.1)).Nodup:=by
 by_cases h:k∈d.map (·.1)
 .rw[JK h];show bN
 .rw[D9 h,jS,Bh];show{bN,by simp,λx ax y aP=>by simp at aP;subst aP;show λe=>h<|e▸ax}
def QZ(a b:O Z4)(k:X6)(h:k∉a.map (·.1)):cK (a++b) k=cK b k:=by
 induction a with
 |nil=>rfl
 |cons p a aT =>
  rw[cD]at h;rw[rA,cnt_cons,Y3 λz=>h<|by rw[<-z];show dF ..];show aT λz=>h<|dZ _ z
def akw{d:O Z4}(g:X6->X6)(k:X6):cK (d.map λp=>(p.1,p.2+g p.1)) k=cK d k+if k∈d.map (·.1) then g k else 0:=by
 induction d with
 |nil=>rfl
 |cons p d aT =>
  rw[cD,cnt_cons,cnt_cons,aT,cD];by_cases e:p.1=k
  .simp[e]
  .let:(k∈p.1::d.map (·.1))↔k∈d.map (·.1):=by rw[ei];show{λz=>z.elim (λz=>Yi z.symm e) id,.inr}
   erw[e,Ys,this]
def Q0(bN:(d.map (·.1)).Nodup)(k w x:X6):cK (gs d k w) x=cK d x+if x=k then w else 0:=by
 by_cases h:k∈d.map (·.1)
 .rw[QY bN h,akw λx=>if x=k then w else 0];by_cases e:x=k
  .subst e;simp[h]
  .simp[e]
 .rw[D9 h];by_cases e:x=k
  .subst e;rw[QZ _ _ _ h,oy h,cnt_cons];simp
  .rw[Y3 e];by_cases ax:x∈d.map (·.1)
   .let(q,a8,rfl):=el.mp ax;let bW:((d++[(k,w)]).map (·.1)).Nodup:=by rw[<-D9 h];show AE bN k w
    rw[jk bW<|ry _ a8,jk bN a8];lia
   .rw[QZ _ _ _ ax,oy ax,cnt_cons,Y3 λz=>e z.symm];rfl
def akx(bN:(d.map (·.1)).Nodup)(k w:X6):gZ (au<|gs d k w) (.inl k)=J (.int<|cK d k+w):=by
 let aY:∃v,(k,v)∈gs d k w:=by
  by_cases h:k∈d.map (·.1)
  .let:k∈(gs d k w).map (·.1):=by rw[JK h];show h
   let(q,a8,rfl):=el.mp this;show{(q.2),a8}
  .rw[D9 h];show{w,by simp}
 let(v,bX):=aY;rw[AA (AE bN k w) bX];let:=jk (AE bN k w) bX;rw[Q0 bN]at this;simp at this;rw[<-this]
def JL(bN:(d.map (·.1)).Nodup){k:X6}(h:k∈d.map (·.1))(n:Y):cB n [.a3<|au d,.int k]=J (.int<|cK d k,.ah):=by let(q,a8,rfl):=el.mp h;let:=AA bN (show(q.1,q.2)∈d from a8);rw[jk bN a8];show((gZ (au d)<|.inl q.1).map λt=>(t,bk.ah))=_;rw[this];rfl
theorem Q1(JM:(t.map (·.1)).Nodup)(pt:∀q∈t,1<=q.2)(x0:X8<|T×bk)(n:Y):∀(l:O Z4) (e:O Z4) (cY:X8 (T×bk)),(∀q∈l,q∈t)->(l.map (·.1)).Nodup->fM e\/(e.map (·.1)).Nodup->(e.map (·.1)).Nodup->e.H+l.H<=100000 ->
  ∃sQ,((∀q∈l,q.2<=cK e q.1)->fT (cC 3) rf (l.map λq=>T.int q.1) [x0,J (.a3<|au t,.ah),J (.a3<|au e,.az),cY] n=J (.bS,[x0,J (.a3<|au t,.ah),J (.a3<|au<|l.foldl (λe q=>gs e q.1<|-q.2) e,.az),sQ],n)) /\
   ((¬ ∀q∈l,q.2<=cK e q.1)->∃S,fT (cC 3) rf (l.map λq=>T.int q.1) [x0,J (.a3<|au t,.ah),J (.a3<|au e,.az),cY] n=J (.aZ .bR Y1,S,n))
 |[],e,cY,_,_,_,_,_=>{cY,λ_=>by simp[fT],λh=>Yi Z6 h}
 |q::l,e,cY,aC,ndl,_,nde,hz=>by
  let dB:bl=1000000:=rfl;rw[d4]at hz;rw[cD]at ndl;let(aW,bW):=mP.mp ndl;let a8:=aC q<|dF ..;let Q2:=AE nde q.1<|-q.2;let fL:=Qq e q.1<|-q.2;let(sQ,adl,adm):=Q1 JM pt x0 n l (gs e q.1<|-q.2) (J (.int q.1,.ah)) (λq a8=>aC q<|dZ _ a8) bW (.inr Q2) Q2 Z5;let aN:∀p∈l,cK (gs e q.1<|-q.2) p.1=cK e p.1:=λp aF=>by rw[Q0 nde,Y3 λz=>aW<|by rw[<-z];show iJ (f:=(·.1)) aF];show Int.add_zero _
  let g1:cB n [.a3<|au t,.int q.1]=J (.int q.2,.ah):=by rw[JL JM<|iJ (f:=(·.1)) a8,jk JM a8]
  let ew:j2 n [.a3<|au e,.int q.1,.int 0]=J (.int<|cK e q.1,.ah):=by let h:=xn e q.1;let bH:j2 n [.a3<|au e,.int q.1,.int 0]=J ((gZ (au e)<|.inl q.1).getD (.int 0),.ah):=rfl;rw[bH,h]
  let st:p3 (.a3<|au e) (.int q.1) (.int<|cK e q.1-q.2)=J (.a3<|au<|gs e q.1<|-q.2):=by rw[TV];show(if(au e).H<bl then J (T.a3<|jG (au e) (.inl q.1)<|.int<|cK e q.1-q.2) else C)=_;rw[Y2 (by delta au;rw[cj];lia),Lv,Qo]
  let g2:cB n [.a3<|au<|gs e q.1<|-q.2,.int q.1]=J (.int<|cK e q.1-q.2,.ah):=by show((gZ (au<|gs e q.1<|-q.2)<|.inl q.1).map λt=>(t,bk.ah))=_;rw[akx nde,Lv];rfl
  by_cases c:cK e q.1-q.2<0
  .show{sQ,λh=>?_,λ_=>?_}
   .let:=h q<|dF ..;lia
   .let one:rf [x0,J (.a3<|au t,.ah),J (.a3<|au e,.az),J (.int q.1,.ah)] n=J (.aZ .bR Y1,[x0,J (.a3<|au t,.ah),J (.a3<|au<|gs e q.1<|-q.2,.az),J (.int q.1,.ah)],n):=by delta rf;generalize au (gs e q.1<|-q.2)=ke' at*;generalize au e=hA at*;generalize au t=kt at*;simp![mw,ew,g1,fU,fW,st,g2,hX,c]
    show{[x0,J (.a3<|au t,.ah),J (.a3<|au<|gs e q.1<|-q.2,.az),J (.int q.1,.ah)],?_};rw[cD];delta fT;erw[a9.bD.cC,nN,nO,gb];rw[one];rfl
  .let one:rf [x0,J (.a3<|au t,.ah),J (.a3<|au e,.az),J (.int q.1,.ah)] n=J (.bS,[x0,J (.a3<|au t,.ah),J (.a3<|au<|gs e q.1<|-q.2,.az),J (.int q.1,.ah)],n):=by delta rf;generalize au (gs e q.1<|-q.2)=ke' at*;generalize au e=hA at*;generalize au t=kt at*;simp![mw,ew,g1,fU,fW,st,g2,hX,c]
   let turn:∀x,fT (cC 3) rf ((q::l).map λq=>T.int q.1) [x0,J (.a3<|au t,.ah),J (.a3<|au e,.az),x] n=fT (cC 3) rf (l.map λq=>T.int q.1) [x0,J (.a3<|au t,.ah),J (.a3<|au<|gs e q.1<|-q.2,.az),J (.int q.1,.ah)] n:=λx=>by rw[cD];show(KY _ _)=_;erw[a9.bD.cC,nN,nO,gb];rw[one];rfl
   show{sQ,λh=>?_,λh=>?_}
   .rw[turn,adl λp aF=>by rw[aN p aF];show h p<|dZ _ aF];rfl
   .rw[turn];show adm λz=>h λp aF=>?_;rcases ei.mp aF with rfl|aF
    .lia
    .rw[<-aN p aF];show z p aF
theorem fold_add:∀(l e:O Z4),(e.map (·.1)).Nodup->(l.map (·.1)).Nodup->(∀q∈l,q.1∈e.map (·.1))->l.foldl (λe q=>gs e q.1<|-q.2) e=e.map λp=>(p.1,p.2-cK l p.1)
 |[],e,_,_,_=>by show((lq (g:=id) λp _=>?_).trans (Bm _)).symm;show(p.1,p.2-0)=p;simp
 |q::l,e,bN,ndl,h=>by
  rw[cD]at ndl;let(aW,bW):=mP.mp ndl;let aY:=h q<|dF ..;rw[jR,fold_add l _ (AE bN _ _) bW (λp aF=>by rw[JK aY];show h p<|dZ _ aF),QY bN aY,be];show lq λp _=>?_;show(p.1,p.2+(if p.1=q.1 then-q.2 else 0)-cK l p.1)=(p.1,p.2-cK (q::l) p.1)
  rw[cnt_cons];by_cases e:p.1=q.1
  .rw[Y2 e,Y2 e.symm,e,oy aW];congr 1;show Int.add_zero _
  .rw[Y3 e,Y3 λz=>e z.symm];congr 1;lia
def rest(B:fM d)(kv:fM t)(aC:d.H+t.H<=100000)(b:Yc)(n:Y) :
  (Fits d (cK t)->ox [(.a3<|au d,b),(.a3<|au t,Y0)] n=J (.a3<|au<|subs d<|cK t,Y0,n)) /\
  (¬Fits d (cK t)->ox [(.a3<|au d,b),(.a3<|au t,Y0)] n=J (.bR,Y1,n)):=by
 let dB:bl=1000000:=rfl;let fit:(∀q∈t,q.2<=cK d q.1)↔Fits d (cK t):=by
  constructor
  .intro h k;by_cases z:k∈t.map (·.1)
   .let(q,a8,rfl):=el.mp z;rw[jk kv.bN a8];show h q a8
   .rw[oy z];show B.nonneg k
  .intro h q a8;rw[<-jk kv.bN a8];show h q.1
 let m0:(if b then bk.ah else bk.cV)=.ah\/(if b then bk.ah else bk.cV)=.cV:=by ext b<;>simp
 let(cY,af,ao):=Q1 kv.bN kv.pos (J (.a3<|au d,if b then bk.ah else bk.cV)) n t d C (λ_ h=>h) kv.bN (.inl B) B.bN aC;let it:hq (ai 1) [J (.a3<|au d,if b then bk.ah else bk.cV),J (.a3<|au t,.ah),J (.a3<|au d,.az),C] n=J (t.map λq=>T.int q.1,n):=by rw[<-D3];rfl
 let r7:qQ n [.a3<|au d]=J (.a3<|au d,.az):=rfl;constructor
 .intro f;let e:=af<|fit.mpr f;rw[fold_add t d B.bN kv.bN λq a8=>B.mem<|iv (kv.pos q a8)<|fit.mpr f q a8]at e;let jC:fg 1 u1 [J (.a3<|au d,if b then bk.ah else bk.cV),J (.a3<|au t,.ah),J (.a3<|au d,.az),C] n=J (.bS,[J (.a3<|au d,if b then bk.ah else bk.cV),J (.a3<|au t,.ah),J (.a3<|au (d.map λp=>(p.1,p.2-cK t p.1)),.az),cY],n):=by rw[T2 (t:=.a3<|au t) D];delta u1 f7;rw[it];show e
  let Q3:((d.map λp=>(p.1,p.2-cK t p.1)).map (·.1)).Nodup:=by rw[be];show B.bN
  let len:(d.map λp=>(p.1,p.2-cK t p.1)).H=d.H:=cj ..;let cX:subs d (cK t)=(d.map λp=>(p.1,p.2-cK t p.1)).filter λp=>decide (0<p.2):=rfl;let Q4:=(B.subs<|cK t).bN;rw[cX]at Q4 |-;generalize (d.map λp=>(p.1,p.2-cK t p.1))=bH at*;let ha:Jp [J (.a3<|au d,if b then bk.ah else bk.cV),J (.a3<|au t,.ah),J (.a3<|au bH,.ah),cY] n=J (.aj<|ct (bH.filter λp=>decide (0<p.2)),.az,n):=by
   delta ct;show q9 bH (λq=>T.int q.1) (λp=>decide (0<p.2)) (λp=>.aE [.int p.1,.int p.2]) ?_ Z5 λp aF=>?_
   .rw[<-D3];rfl
   .let g:=JL Q3 (iJ (f:=(·.1)) aF) n;rw[jk Q3 aF]at g;generalize au bH=hA at*;constructor
    .simp![ck,g,jF,fW]
    .intro _;let cb:2<=bl:=by decide
     simp![ck,g,cb]
  let cy:=KL Q4 (by let:=vv (λp:X6×X6=>decide (0<p.2)) bH;lia) n;let fr:∀dd:bw,ek 2 dd [J (.a3<|au d,if b then bk.ah else bk.cV),J (.a3<|au t,.ah),J (.a3<|au bH,.az),cY] n=dd [J (.a3<|au d,if b then bk.ah else bk.cV),J (.a3<|au t,.ah),J (.a3<|au bH,.ah),cY] n:=λ_=>D;delta ox Jq;generalize ct (bH.filter λp=>decide (0<p.2))=pr at*;generalize au (bH.filter λp=>decide (0<p.2))=ks at*;generalize au bH=hA at*;generalize au d=hy at*;generalize au t=kt at*;generalize fg 1 u1=LL at*;generalize Jp=CC at*;generalize ek 2=FF at *
  ext b
  .erw[iK,Ys]at*;simp![r7,jC,fr,ha,cy]
  .erw[Yq]at*;simp![r7,jC,fr,ha,cy]
 .intro f;let(S,e):=ao λz=>f<|fit.mp z;let jC:fg 1 u1 [J (.a3<|au d,if b then bk.ah else bk.cV),J (.a3<|au t,.ah),J (.a3<|au d,.az),C] n=J (.aZ .bR Y1,S,n):=by rw[T2 (t:=.a3<|au t) D];delta u1 f7;rw[it];show e
  delta ox Jq;generalize au d=hy at*;generalize au t=kt at*;generalize fg 1 u1=LL at *
  ext b
  .erw[iK,Ys]at*;simp![r7,jC]
  .erw[Yq]at*;simp![r7,jC]
structure iH (tw:O Z4):Prop where
 ne:tw≠[]
 up:(tw.map (·.1)).Pairwise (·<·)
 ia:∀q∈tw,0<=q.1/\q.1<=120/\1<=q.2/\q.2<=4096
def iH.e1(h:iH tw):fM tw:={h.up.imp λ{a b} e=>(vL e),λq a8=>(h.ia q a8).2.2.1}
def iH.len(h:iH tw):tw.H<=121:=by
 let:=amr (a:=0) (b:=121) (p:=tw.map (·.1)) (λx ax=>by
  let(q,a8,rfl):=el.mp ax;let:=h.ia q a8
  show Lc this.1<|oY this.2.1 Z0) h.e1.bN
 rw[cj]at this;show this
def adn{k v:X6}(af:0<=k)(ao:k<=120)(a6:1<=v)(cS:v<=4096)(n:Y):DG [(.aE [.int k,.int v],Y0)] n=J (.a5 Y0,Y1,n):=by let aA:=D0 k 0 120 n af ao;let av:=D0 v 1 4096 n a6 cS;let a7:gn n [.int 2,.int 2]=J (.a5 Y1,.ah):=rfl;delta DG Py;simp![iq,EW,j5,a7,uX,hD,aA,av]
theorem Q5:∀{l:O X6},l.Pairwise (·<·)->iS l=l
 |[],_=>rfl
 |x::l,h=>by
  let(af,ao):=l8.mp h;let aT:=Q5 ao;let e:iS (x::l)=if x∈iS l then iS l else x::iS l:=rfl
  rw[e,aT,Y3 λz=>by let:=af x z;omega]
def xD:X8 Z1->T
 |none=>.bR
 |some l=>ar l
def ado(af:1<=aK.H)(n:Y):cB n [ar aK,.int 0]=J (.int<|aK.headD 0,.ah)/\uw n [ar aK,.int<|aK.headD 0]=J (.int (gA aK:X6),.ah):=by
 constructor
 .cases aK with
  |nil=>simp at af
  |cons x r=>delta ar;rw[uX,aiF T.int _ 0 Z0 Z6];rfl
 .delta ar;rw[Tc,ov,vI,<-A9];rfl
def amu(d:O Z4):ti (au d)=J (d.map (·.1)):=by
 induction d with
 |nil=>rfl
 |cons p d aT =>
  show((ti<|au d).map (p.1::·))=_;rw[aT];rfl
def Q6(h:d≠[])(n:Y):s7 n [.a3<|au d]=J (.int<|X1 d,.ah):=by show((ti<|au d).bind λns=>(X0 ns).map λi=>(T.int i,bk.ah))=_;rw[amu,gb,(xC h).1];rfl
def amv(x:X6)(q:Y):(Yj q [T.int x]).flatten=(Yj q x).map T.int:=by
 induction q with
 |zero=>rfl
 |succ q aT=>rw[l7,rz,aT,l7];rfl
theorem Q7(x:X6)(b:O X6)(k:X6):∀q:Y,(sO (Yj q x) b).countP (λy=>y==k)=q*b.countP λy=>y==k-x
 |0=>by simp[sO]
 |q+1=>by let aT:=Q7 x b k q;delta sO at aT |-;rw[l7,kP,Fd,aT,List.countP_map,oX,vF];congr 1;show qbg λy _=>?_;show(x+y==k)=Y0↔(y==k-x)=Y0;rw[UI,UI];omega
def adp{F:Y}(Lk:jK F aK)(dV:F<=8)(B:fM d)(hd:d≠[])(d5:d.H<=121)(bX:∀q∈d,q.2<=4096)(z7:(cq.H:X6)+fx d<=600000)(M:mL aK d r)
  (x0 x4 e5 ej dR:X8<|T×bk) (n:Y) :
  (∃q bY,1<=q/\Fits d (dY aK (dn aK d) q)/\r=bY.map (Yj q (dn aK d)++·)/\mL aK (subs d<|dY aK (dn aK d) q) bY/\(q:X6)<=fx d/\fx (subs d<|dY aK (dn aK d) q)+q<=fx d /\
   ∃lI lE pA m9,l0 [x0,J (ar aK,.ah),J (.a3<|au d,.az),J (.aj<|cq.map .int,.az),x4,e5,ej,dR] n=J (.bS,[x0,J (ar aK,.ah),J (.a3<|au<|subs d<|dY aK (dn aK d) q,.az),J (.aj<|(cq++Yj q (dn aK d)).map .int,.az),lI,lE,pA,m9],n)) \/
  (r=C/\∃S,l0 [x0,J (ar aK,.ah),J (.a3<|au d,.az),J (.aj<|cq.map .int,.az),x4,e5,ej,dR] n=J (.aZ .bR Y1,S,n)):=by
 let dB:bl=1000000:=rfl;let af:=Lk.one;let hm:=Lk.most;let fp:=D6 af;let f8:gA aK<=8:=bF io<|bF hm dV;let(ew,g1):=ado af n;let aA:=Q6 hd n;let(_,lm,_):=xC hd;let av:=JL B.bN lm n;let VA:=B.E4 lm;let LY:cK d (X1 d)<=4096:=by let(p,aF,e):=el.mp lm;rw[<-e,jk B.bN aF];show bX p aF
 obtain⟨q,a8⟩:∃q:Y,cK d (X1 d) / (gA aK:X6)=(q:X6):={(cK d (X1 d) / (gA aK:X6)).M,by let:0<=cK d (X1 d) / (gA aK:X6):=Int.ediv_nonneg (lx VA)<|h3 _;omega}
 let ny:(q:X6)*(gA aK:X6)<=cK d (X1 d):=by rw[<-a8];show Int.ediv_mul_le _ (by omega)
 let uO:(q:X6)<=4096:=by let:(q:X6)*1<=(q:X6)*(gA aK:X6):=Lu (by omega)<|h3 _;omega
 let a7:xN n [.int<|cK d<|X1 d,.int (gA aK:X6)]=J (.int (q:X6),.ah):=by show(if(decide (0<(gA aK:X6))&&decide ((gA aK:X6).natAbs<1073741824))=Y0 then J (T.int<|cK d (X1 d) / (gA aK:X6),bk.ah) else C)=_;rw[a8,Y2<|by simp;omega]
 let EY:X1 d-aK.headD 0=dn aK d:=rfl;by_cases b0:dn aK d<0
 .show .inr {QS hd M<|.inl b0,[x0,J (ar aK,.ah),J (.a3<|au d,.az),J (.aj<|cq.map .int,.az),J (.int<|X1 d,.ah),J (.int<|dn aK d,.ah),J (.int (q:X6),.ah),dR],?_};rw[<-EY]at b0 |-;delta l0;generalize au d=hy at*;generalize X1 d=lo at*;generalize aK.headD 0=en at*;generalize ar aK=km at*;generalize cK d lo=cv at*;generalize (gA aK:X6)=fi at*;simp![aA,ew,fU,fW,av,g1,a7,hX,b0]
 .by_cases dP:q=0
  .subst dP;show .inr {QS hd M<|.inr ?_,[x0,J (ar aK,.ah),J (.a3<|au d,.az),J (.aj<|cq.map .int,.az),J (.int<|X1 d,.ah),J (.int<|dn aK d,.ah),J (.int ((0:Y):X6),.ah),dR],?_}
   .let:=Int.lt_ediv_add_one_mul_self (cK d<|X1 d) (b:=(gA aK:X6)) (by omega);rw[a8]at this;simpa using this
   .rw[<-EY]at b0 |-;delta l0;generalize au d=hy at*;generalize X1 d=lo at*;generalize aK.headD 0=en at*;generalize ar aK=km at*;generalize cK d lo=cv at*;generalize (gA aK:X6)=fi at*;simp![aA,ew,fU,fW,av,g1,a7,hX,b0,xu]
  .let aR:1<=q:=(ke dP)
   let Q8:((q:X6)==0)=Y1:=by simp;show dP
   let dl:([Yj q<|dn aK d,aK].map List.H)=[q,aK.H]:=by simp
   let VB:iF [q,aK.H]<=100000:=by show q*(aK.H*1)<=100000;let:=tv (show q<=4096 by omega) (show aK.H*1<=8 from(yd (bF hm dV)<|f9 _));omega
   let(t,kv,ef):=QV (ds:=[Yj q<|dn aK d,aK]) (λx ax=>by
    erw[ei,Fg,or_false]at ax;rcases ax with rfl|rfl
    .rw[mO];show aR
    .show af) (by rw[dl];show VB) n
   let hR:∀k,cK t k=dY aK (dn aK d) q k:=λk=>by rw[kv.cK k,JC,QI];show(((sO (Yj q<|dn aK d) aK).countP λx=>x==k:Y):X6)=_;rw[Q7];delta dY;rw[By]
   let adq:cK t=dY aK (dn aK d) q:=funext hR;let cn:fM t:={(kv.bN),kv.pos}
   let fA:t.H<=32768:=by show bF kv.xR ?_;rw[JC,QI];show(sO (Yj q<|dn aK d) aK).H<=_;rw[QJ,mO];show bF (tv (show q<=4096 by omega) (show aK.H<=8 from(bF hm dV))) Z0
   let(Q9,Ra):=rest B cn (by omega) Y1 n;rw[adq]at Q9 Ra;let hmul:hh n [.aE [.int<|dn aK d],.int (q:X6)]=J (ar<|Yj q<|dn aK d,.ah):=by show(if[T.int<|dn aK d].H<=1000 /\ -1000<=(q:X6)/\(q:X6)<=10000/\[T.int<|dn aK d].H*(q:X6).M<=bl then J (T.aE (Yj (q:X6).M [T.int<|dn aK d]).flatten,bk.ah) else C)=_;rw[Y2 {by simp,(h3 _),(iv uO Z0),by rw[xZ,nT];omega},nT,amv];rfl
   let cb:2<=bl:=by decide
   let bT:1<=bl:=by decide
   let ef:iE [(.aE [ar<|Yj q<|dn aK d,ar aK],Y0)] n=J (.a3<|au t,Y0,n):=ef;by_cases ud:Fits d<|dY aK (dn aK d) q
   .let(bY,gL,GI):=JG af B hd (FL.mp b0) M q ny ud;let ads:fx (subs d<|dY aK (dn aK d) q)+q<=fx d:=by let e:=JJ (sP aK (dn aK d) q)<|QT B ud;let(p,aF,q7):=el.mp lm;let:=D8 (l:=d.map λee=>dY aK (dn aK d) q ee.1) (λx ax=>by let(ee,_,rfl):=el.mp ax;show sP ..)<|iJ (f:=λee:X6×X6=>dY aK (dn aK d) q ee.1) aF;rw[q7,D7]at this;let:(q:X6)*1<=(q:X6)*(gA aK:X6):=Lu (by omega)<|h3 _;omega
    let aJ:=QU<|B.subs<|dY aK (dn aK d) q;show .inl {q,bY,aR,ud,gL,GI,by omega,ads,J (.int<|X1 d,.ah),J (.int<|dn aK d,.ah),J (.int (q:X6),.ah),J (ar<|Yj q<|dn aK d,.ah),?_};let rs:=Q9 ud;let ex:kN (.aj<|cq.map .int) (ar<|Yj q<|dn aK d)=J (.aj<|(cq++Yj q (dn aK d)).map .int):=by delta ar;show(if(cq.map T.int).H+((Yj q<|dn aK d).map T.int).H<=bl then J (T.aj<|cq.map T.int++(Yj q<|dn aK d).map T.int) else C)=_;rw[Y2 (by rw[cj,cj,mO];omega),jS]
    let wJ:iC (ar<|Yj q<|dn aK d)=Y1:=rfl;rw[<-EY]at b0 hmul ef ex rs wJ |-;delta l0;generalize au (subs d<|dY aK (X1 d-aK.headD 0) q)=ks at*;generalize (cq++Yj q (X1 d-aK.headD 0)).map T.int=pj at*;generalize ar (Yj q<|X1 d-aK.headD 0)=aD at*;generalize au d=hy at*;generalize au t=kt at*;generalize cq.map T.int=fi' at*;generalize X1 d=lo at*;generalize aK.headD 0=en at*;generalize ar aK=km at*;generalize cK d lo=cv at*;generalize (gA aK:X6)=fi at*;generalize hh=gm at*;simp![lb,aA,ew,fU,fW,av,g1,a7,hX,b0,xu,Q8,hmul,bT,cb,ef,rs,sY,zp,h2,ex,wJ]
   .let rs:=Ra ud;show .inr {adk af B hd (FL.mp b0) M ny ud,[x0,J (ar aK,.ah),J (.bR,.ah),J (.aj<|cq.map .int,.az),J (.int<|X1 d,.ah),J (.int<|dn aK d,.ah),J (.int (q:X6),.ah),J (ar<|Yj q<|dn aK d,.ah)],?_};let wJ:iC (ar<|Yj q<|dn aK d)=Y1:=rfl;rw[<-EY]at b0 hmul ef wJ |-;delta l0;generalize ar (Yj q<|X1 d-aK.headD 0)=aD at*;generalize au d=hy at*;generalize au t=kt at*;generalize cq.map T.int=fi' at*;generalize X1 d=lo at*;generalize aK.headD 0=en at*;generalize ar aK=km at*;generalize cK d lo=cv at*;generalize (gA aK:X6)=fi at*;generalize hh=gm at*;simp![lb,aA,ew,fU,fW,av,g1,a7,hX,b0,xu,Q8,hmul,bT,cb,ef,rs,sY,zp,wJ]
def amw(d:O Z4)(g:X6->X6):(subs d g).H<=d.H:=by delta subs;let:=vv (λp:X6×X6=>decide (0<p.2)) (d.map λp=>(p.1,p.2-g p.1));rw[cj]at this;show this
def adt{g:X6->X6}(bQ:∀k,0<=g k){c:X6}(h:∀q∈d,q.2<=c):∀q∈subs d g,q.2<=c:=λq a8=>by let(af,_):=gc.mp a8;let(p,aF,rfl):=el.mp af;let:=h p aF;let:=bQ p.1;show p.2-g p.1<=c;omega
def adu{F:Y}(Lk:jK F aK)(dV:F<=8)(x0:X8<|T×bk)(n:Y):∀(N W:Y) (d:O Z4) (cq:O X6) (r:X8 Z1) (x4 e5 ej dR:X8 (T×bk)),fx d<=N->N<W->fM d->d.H<=121->(∀q∈d,q.2<=4096)->(cq.H:X6)+fx d<=600000->mL aK d r ->
  (∀l,r=J l->∃S,lO (b7<|ai 2) l0 W [x0,J (ar aK,.ah),J (.a3<|au d,.az),J (.aj<|cq.map .int,.az),x4,e5,ej,dR] n=J (.bS,S,n)/\S[3]?=J (J (.aj<|(cq++l).map .int,.az))) /\
  (r=C->∃S,lO (b7<|ai 2) l0 W [x0,J (ar aK,.ah),J (.a3<|au d,.az),J (.aj<|cq.map .int,.az),x4,e5,ej,dR] n=J (.aZ .bR Y1,S,n)):=by
 intro N
 induction N with
 |zero =>
  intro W d cq r x4 e5 ej dR cE wC B aC bX z7 M;obtain⟨V,rfl⟩:∃V,W=V+1:={W-1,by omega}
  let hd:d=[]:=by
   cases hd:d with
   |nil=>rfl
   |cons p iw =>
    exfalso;let:=D8 (l:=d.map (·.2)) (λx ax=>by let(q,a8,rfl):=el.mp ax;let:=B.pos q a8;show lx this)<|iJ (f:=(·.2)) (show p∈d by rw[hd];show dF ..);let:=B.pos p (by rw[hd];show dF ..);delta fx at cE;omega
  subst hd;cases M with
  |nil=>show⟨λl e=>{_,D,by ext e;simp},λe=>by ext e⟩
  |bad h _=>show Yi D h
  |good h _ _=>show Yi D h
 |succ N aT =>
  intro W d cq r x4 e5 ej dR cE wC B aC bX z7 M;obtain⟨V,rfl⟩:∃V,W=V+1:={W-1,by omega}
  by_cases hd:d=[]
  .subst hd;cases M with
   |nil=>show⟨λl e=>{_,D,by ext e;simp},λe=>by ext e⟩
   |bad h _=>show Yi D h
   |good h _ _=>show Yi D h
  .let lH:b7 (ai 2) [x0,J (ar aK,.ah),J (.a3<|au d,.az),J (.aj<|cq.map .int,.az),x4,e5,ej,dR] n=J (Y0,n):=by
    let:(au d).isEmpty=Y1:=by
     cases d with
     |nil=>show Yi D hd
     |cons p d=>rfl
    generalize au d=hy at*;simp![this]
   let Rb:∀x,l0 [x0,J (ar aK,.ah),J (.a3<|au d,.az),J (.aj<|cq.map .int,.az),x4,e5,ej,dR] n=x->lO (b7<|ai 2) l0 (V+1) [x0,J (ar aK,.ah),J (.a3<|au d,.az),J (.aj<|cq.map .int,.az),x4,e5,ej,dR] n=x.bind λr=>match r.1 with
     |.bS=>lO (b7<|ai 2) l0 V r.2.1 r.2.2
     |.eI=>lO (b7<|ai 2) l0 V r.2.1 r.2.2
     |.e1=>J (.bS,r.2.1,r.2.2)
     |.aZ t m=>J (.aZ t m,r.2.1,r.2.2):=λx ax=>by
    show(b7 (ai 2) _ n).bind _=_;rw[lH];show(l0 _ n).bind _=_;rw[ax]
    try rfl
   rcases adp Lk dV B hd aC bX z7 M x0 x4 e5 ej dR n with⟨q,bY,aR,ud,gL,GI,anf,fA,lI,lE,pA,m9,e⟩|⟨hr,S,e⟩
   .let(Gx,wt):=aT V _ (cq++Yj q (dn aK d)) bY lI lE pA m9 (by omega) (oV wC) (B.subs<|dY aK (dn aK d) q) (bF (amw ..) aC) (adt (sP aK (dn aK d) q) bX) (by rw[hM,mO];omega) GI;rw[Rb _ e];show⟨λl kF=>?_,λhr=>?_⟩
    .cases bY with
     |none=>rw[gL]at kF;ext kF
     |some m7 =>
      rw[gL]at kF
      ext kF
      let(S,a,b):=Gx m7 D;show{S,a,by rw[b,hj]}
    .cases bY with
     |none=>show wt D
     |some m7=>rw[gL]at hr;ext hr
   .rw[Rb _ e];show⟨λl kF=>(by rw[hr]at kF;ext kF),λ_=>⟨S,rfl⟩⟩
def qF(ds:O Z1)(k:X6):X6:=(((gu ds).countP λx=>x==k:Y):X6)
def rr(d:O Z4)(ds:O Z1):Yc:=(gu ds).all λk=>decide (qF ds k<=cK d k)
def Rc(B:fM d)(ds:O Z1):rr d ds=Y0↔Fits d (qF ds):=by
 delta rr;rw[hO];constructor
 .intro h k;by_cases z:k∈gu ds
  .simpa using h k z
  .let:qF ds k=0:=by delta qF;rw[E9.mpr λx ax=>by intro e;show z<|by rw[<- (by simpa using e:x=k)];show ax];rfl
   rw[this];show B.nonneg k
 .intro h k _;simpa using h k
def jL(d:O Z4)(ds:O Z1):O Z4:=subs d<|qF ds
noncomputable def wf(ds:O Z1)(p:Y)(x:X6):O Z1:=ds.set p<|ds.getD p []++[x]
noncomputable def xE(sizes:O X6)(ds:O Z1):O Y:=(Yr ds.H).filter λp=>decide (((ds.getD p []).H:X6)<sizes.getD p 0)
def kI(d:O Z4)(sizes:O X6)(ds:O Z1):O (O Z1) :=
 if rr d ds&&!(jL d ds).isEmpty then(xE sizes ds).map λp=>wf ds p (X1<|jL d ds) else[]
def hl.e1(B:hl d s):fM d:={(B.bN),B.pos}
def JN(B:fM d)(hd:d.H<=10000)(af:∀x∈ds,1<=x.H)(hz:iF (ds.map List.H)<=10000)(aM:(gu ds).H<=10000)(b:Yc)(n:Y) :
  ∃t,iE [(bu ds,Y0)] n=J (.a3<|au t,Y0,n) /\
   (rr d ds=Y0->ox [(.a3<|au d,b),(.a3<|au t,Y0)] n=J (.a3<|au<|jL d ds,Y0,n))/\(rr d ds=Y1->ox [(.a3<|au d,b),(.a3<|au t,Y0)] n=J (.bR,Y1,n)):=by
 let(t,kv,e):=QV af (bF hz Z0) n;let pz:cK t=qF ds:=funext λk=>kv.cK k;let fA:=kv.xR;let(bp,b8):=rest B kv.e1 (by omega) b n;rw[pz]at bp b8;show{t,e,λh=>bp<|(Rc B ds).mp h,λh=>b8 λz=>?_};rw[(Rc B ds).mpr z]at h
 ext h
def T5(ds:O Z1){p:Y}(h:p<ds.H)(n:Y):cB n [.aE<|ds.map ar,.int (p:X6)]=J (ar<|ds.getD p [],.ah):=by show((hD (ds.map ar) (p:X6)).map λt=>(t,bk.ah))=_;delta hD;rw[Y2<|h3 _,Y2 (by rw[cj];omega),nT,hN,gB h,iu,gB h];rfl
def getInt(l:O X6){p:Y}(h:p<l.H)(n:Y):cB n [ar l,.int (p:X6)]=J (.int<|l.getD p 0,.ah):=by show((hD (l.map T.int) (p:X6)).map λt=>(t,bk.ah))=_;delta hD;rw[Y2<|h3 _,Y2 (by rw[cj];omega),nT,hN,gB h,iu,gB h];rfl
def JO(a b:O T)(h:a.H+b.H<=bl)(n:Y):dN n [.aE a,.aE b]=J (.aE<|a++b,.ah):=by show(if a.H+b.H<=bl then J (T.aE<|a++b,bk.ah) else C)=_;rw[Y2 h]
def adv{α:Type}(l:O α)(x:α){p:Y}(h:p<l.H):l.take p++[x]++l.drop (p+1)=l.set p x:=by rw[List.set_eq_take_append_cons_drop,Y2 h,hj];rfl
def adw{p:Y}(h:p<ds.H)(aC:ds.H<=10)(hz:(ds.getD p []).H<=100)(x:X6)(n:Y):DR [(bu ds,Y0),(.int (p:X6),Y0),(.int x,Y0)] n=J (bu<|wf ds p x,Y1,n):=by
 let dB:bl=1000000:=rfl;let bT:1<=bl:=by decide
 let s1:oH (ds.map ar) C (J (p:X6))=(ds.take p).map ar:=(ac9 _ p).trans (List.map_take).symm;let s2:oH (ds.map ar) (J<|(p:X6)+1) C=(ds.drop<|p+1).map ar:=(ada (ds.map ar)<|p+1).trans (List.map_drop).symm;let g:=T5 ds h n;let a1:dN n [ar<|ds.getD p [],.aE [.int x]]=J (ar<|ds.getD p []++[x],.ah):=by delta ar;rw[JO _ _ (by rw[cj];show _+1<=_;omega),jS];rfl
 let a2:dN n [.aE<|(ds.take p).map ar,.aE [ar<|ds.getD p []++[x]]]=J (.aE<|(ds.take p++[ds.getD p []++[x]]).map ar,.ah):=by rw[JO _ _ (by rw[cj,lr];show _+1<=_;omega),jS];rfl
 let jY:dN n [.aE<|(ds.take p++[ds.getD p []++[x]]).map ar,.aE<|(ds.drop<|p+1).map ar]=J (bu<|wf ds p x,.ah):=by rw[JO _ _ (by rw[cj,cj,hM,lr,oS];show _+1+_<=_;omega),<-jS,adv _ _ h];rfl
 delta bu at jY |-;generalize T.aE ((wf ds p x).map ar)=out at*;generalize (ds.take p++[ds.getD p []++[x]]).map ar=hB at*;generalize ar (ds.getD p []++[x])=fu at*;generalize ar (ds.getD p [])=o0 at*;generalize (ds.take p).map ar=tk at*;generalize (ds.drop<|p+1).map ar=tN at*;generalize ds.map ar=dd at*;delta DR Qb Ew EL EM;simp![s1,s2,g,a1,a2,jY,bT,sH]
structure B9 (ds:O Z1):Prop where
 many:ds.H<=3
 one:∀x∈ds,1<=x.H
 most:∀x∈ds,x.H<=8
def B9.EZ(h:B9 ds):iF (ds.map List.H)<=512/\(gu ds).H<=512:=by let:=D1 h.most;let:8^ds.H<=8^3:=yf Z0 h.many;rw[xB,<-QE];omega
def grown(B:fM d)(hd:d.H<=1000)(cZ:B9 ds)(hz:sizes.H=ds.H)(b:Yc)(n:Y) :
  xy [(.a3<|au d,b),(ar sizes,Y0),(bu ds,Y0)] n=J (.aj<|(kI d sizes ds).map bu,Y0,n):=by
 let dB:bl=1000000:=rfl;let ja:0<=bl:=by decide
 let(bp,b8):=cZ.EZ;let(t,aA,av,a7):=JN B (bF hd Z0) cZ.one (bF bp Z0) (bF b8 Z0) Y1 n;let(t',oh,pU,Ea):=JN B (bF hd Z0) cZ.one (bF bp Z0) (bF b8 Z0) Y0 n;rw[aA]at oh;let tt:au t=au t':=by injection oh with z;injection z with z;injection z
 rw[<-tt]at pU Ea;let many:=cZ.many;delta kI;cases f:rr d ds with
 |false =>
  let a7:=a7 f;let Ea:=Ea f;rw[Y3 Z6];delta xy DS;generalize au t=kt at*;generalize au d=hy at*;generalize bu ds=dd at*;generalize ar sizes=b9 at *
  ext b<;>simp![aA,a7,Ea,et,ja]
 |true =>
  let av:=av f;let pU:=pU f;by_cases em:jL d ds=[]
  .rw[em]at av pU |-;rw[Y3 Z6];let hA:au []=([]:O<|gE×T):=rfl;rw[hA]at av pU;delta xy DS;generalize au t=kt at*;generalize au d=hy at*;generalize bu ds=dd at*;generalize ar sizes=b9 at *
   ext b<;>simp![aA,av,pU,et,ja]
  .let y0:=Q6 em n;let ne:(jL d ds).isEmpty=Y1:=by cases z:jL d ds with|nil=>show Yi z em|cons _ _=>rfl
   rw[ne,Y2 Z6];let lH:k6 (.a3<|au<|jL d ds)=J Y0:=by
    cases z:jL d ds with
    |nil=>show Yi z em
    |cons _ _=>rfl
   generalize X1 (jL d ds)=x at*;generalize au (jL d ds)=n7 at*;let B5:∀m0:bk,Jr [J (.a3<|au d,m0),J (ar sizes,.ah),J (bu ds,.ah),J (.a3 n7,.az),J (.int x,.ah)] n=J (.aj<|((xE sizes ds).map λp=>wf ds p x).map bu,.az,n):=λm0=>by
    rw[be];delta xE;show q9 (Yr ds.H) (λp:Y=>T.int p) (λp=>decide (((ds.getD p []).H:X6)<sizes.getD p 0)) (bu∘λp=>wf ds p x) ?_ (by rw[vw];omega) λp aF=>?_
    .let ln:dT n [bu ds]=J (.int (ds.H:X6),.ah):=by delta bu;rw[j5,cj]
     let:=DB (a:=ag (aB dT<|ag (ai 2) aw) aw) (S:=[J (.a3<|au d,m0),J (ar sizes,.ah),J (bu ds,.ah),J (.a3 n7,.az),J (.int x,.ah)]) (n:=n) (n':=n) (j:=(ds.H:X6)) (by
      generalize bu ds=dd at *
      ext dd<;>first|simp![ln]|ext ln) (h3 _) (by omega)
     rw[this,Pn]
    .let aF:p<ds.H:=qd.mp aF;let g1:=T5 ds aF n;let g2:=getInt sizes (p:=p) (d0 aF<|dK hz.symm) n;let fL:dT n [ar<|ds.getD p []]=J (.int ((ds.getD p []).H:X6),.ah):=by delta ar;rw[j5,cj]
     let ax:ds.getD p []∈ds:=by rw[iu,gB aF];show l9 aF
     let w:=adw aF (bF many Z0) (by let:=cZ.most _ ax;show bF this Z0) x n;let adx:T.aE (ds.map ar)=bu ds:=rfl;rw[adx]at g1;constructor
     .generalize (ds.getD p []).H=wI at*;generalize ar (ds.getD p [])=tN at*;generalize bu ds=dd at*;generalize ar sizes=b9 at*;generalize au d=hy at*;simp![ck,g1,g2,fL,hX,fW]
     .intro _;show _=J (bu<|wf ds p x,bk.ah,n);generalize bu (wf ds p x)=ww at*;generalize bu ds=dd at*;generalize ar sizes=b9 at*;generalize au d=hy at*;simp![ck,w]
   delta xy DS;generalize (((xE sizes ds).map λp=>wf ds p x).map bu)=out at*;generalize au t=kt at*;generalize au d=hy at*;generalize bu ds=dd at*;generalize ar sizes=b9 at*;generalize Jr=CC at*;let LK:n7.isEmpty=Y1:=by let lH:J (!n7.isEmpty)=J Y0:=lH;simpa using lH
   ext b<;>simp![aA,av,pU,LK,y0,B5]
def ady(l:O X6):xU (ar l)=J l:=ov l
theorem Rd:∀ls:O Z1,ux (ls.map ar)=J ls
 |[]=>rfl
 |l::ls=>by rw[cD,ux,ady,gb,Rd ls];rfl
def Rf(ls:O Z1):vr (bu ls)=J ls:=Rd ls
def Rg(ks:O<|O Z1)(k:O Z1):(ie ks k).H<=ks.H+1:=by
 delta ie;split
 .show hF _ _
 .simp
def adz:x∈ie ks k↔x∈ks\/x=k:=by
 delta ie;split
 .rename_i h;rw[Ff]at h;let(y,aP,e):=h;let e:y=k:=by simpa using e
  subst e;show{.inl,λh=>h.elim id λz=>z▸aP}
 .rw[iY,jP]
theorem JP:∀(i9 ks:O (O Z1)),(i9.foldl ie ks).H<=ks.H+i9.H
 |[],ks=>by simp
 |g::i9,ks=>by let:=JP i9<|ie ks g;let:=Rg ks g;rw[jR,d4];omega
theorem JQ:∀{i9 ks:O (O Z1)},x∈i9.foldl ie ks↔x∈ks\/x∈i9
 |[],ks=>by simp
 |g::i9,ks=>by rw[jR,JQ,adz,ei,or_assoc]
theorem Rh(x0 x1 x2 cY x4 ej:X8<|T×bk)(n:Y):∀(i9 ks:O (O Z1)) (dR:X8 (T×bk)),ks.H+i9.H<=900000 ->
  ∃kJ,fT (cC 7) Ay (i9.map bu) [x0,x1,x2,cY,x4,J (.eh ks,.az),ej,dR] n=J (.bS,[x0,x1,x2,cY,x4,J (.eh<|i9.foldl ie ks,.az),ej,kJ],n)
 |[],ks,dR,_=>{(dR),D}
 |g::i9,ks,dR,h=>by
  let dB:bl=1000000:=rfl;rw[d4]at h;let cm:=Rg ks g;let(kJ,aT):=Rh x0 x1 x2 cY x4 ej n i9 (ie ks g) (J (bu g,.ah)) (by omega);show{kJ,?_};let st:AU (.eh ks) (bu g) (.a5 Y0)=J (.eh<|ie ks g):=by show(vr<|bu g).bind (λls=>if ks.H<bl then J (T.eh<|ie ks ls) else C)=_;rw[Rf,gb,Y2<|by omega]
  let one:Ay [x0,x1,x2,cY,x4,J (.eh ks,.az),ej,J (bu g,.ah)] n=J (.bS,[x0,x1,x2,cY,x4,J (.eh<|ie ks g,.az),ej,J (bu g,.ah)],n):=by delta Ay;generalize bu g=L8 at*;simp![mw,st]
  rw[cD];delta fT;erw[a9.bD.cC,nN,nO,gb];rw[one];show aT
def j6(d:O Z4)(b9:O X6)(found:O<|O Z1):O<|O Z1:=(found.flatMap<|kI d b9).foldl ie []
def nD(d:O Z4)(b9:O X6):Y->O (O Z1)->O (O Z1)
 |0,f=>f
 |k+1,f=>nD d b9 k<|j6 d b9 f
structure jb (b9:O X6) (ds:O Z1):Prop where
 len:ds.H=b9.H
 one:∀x∈ds,1<=x.H
 fit:∀p,p<ds.H->((ds.getD p []).H:X6)<=b9.getD p 0
def getD_mem{α:Type}{l:O α}{p:Y}{z:α}(h:p<l.H):l.getD p z∈l:=by rw[iu,gB h];show l9 h
def mem_getD{α:Type}{l:O α}{x:α}(z:α)(h:x∈l):∃p,p<l.H/\l.getD p z=x:=by let(p,aF,e):=List.getElem_of_mem h;show{p,aF,by rw[iu,gB aF];show e}
def jb.ue(g:jb b9 ds)(a6:b9.H<=3)(gP:∀s∈b9,s<=8):B9 ds:=⟨by rw[g.len];show a6,g.one,λx ax=>by
 let(p,aF,rfl):=mem_getD [] ax;let af:=g.fit p aF;let ao:=gP _ (getD_mem (l:=b9) (z:=0) (p:=p)<|by rw[<-g.len];show aF)
 omega⟩
def jb.grow(g:jb b9 ds)(h:e∈kI d b9 ds):jb b9 e/\∃p,p<ds.H/\e=wf ds p (X1<|jL d ds)/\rr d ds=Y0/\jL d ds≠[]:=by
 delta kI at h;split at h
 .rename_i c;rw[gS]at c;let(p,aF,rfl):=el.mp h;delta xE at aF;rw[gc,qd]at aF;let(aF,dp):=aF;let dp:((ds.getD p []).H:X6)<b9.getD p 0:=by simpa using dp
  show{{?_,λx ax=>?_,λq a8=>?_},p,aF,D,c.1,λz=>by rw[z]at c;simp at c}
  .delta wf;rw[jQ];show g.len
  .rcases qa0 ax with ax|rfl
   .show g.one x ax
   .simp
  .delta wf at a8 |-;rw[jQ]at a8;rw[iu,Bg];by_cases z:p=q
   .subst z;rw[Y2 D,Y2 aF];show((ds.getD p []++[X1<|jL d ds]).H:X6)<=_;rw[hM,xZ];show dp
   .rw[Y3 z,<-iu];show g.fit q a8
 .ext h
def Ri(d:O Z4)(b9:O X6)(ds:O Z1):(kI d b9 ds).H<=ds.H:=by
 delta kI;split
 .rw[cj];delta xE;let:=vv (λp=>decide (((ds.getD p []).H:X6)<b9.getD p 0))<|Yr ds.H;rw[vw]at this;show this
 .simp
theorem AF{α β:Type}{f:α->O β}{m:Y}:∀{l:O α},(∀x∈l,(f x).H<=m)->(l.flatMap f).H<=l.H*m
 |[],_=>by simp
 |x::l,h=>by let:=AF (f:=f) (m:=m) (l:=l) λy aP=>h y<|dZ _ aP;let:=h x<|dF ..;rw[kP,hM,d4,oX];omega
def Rj(h:∀ds∈f,jb b9 ds):(∀ds∈j6 d b9 f,jb b9 ds)/\(j6 d b9 f).H<=f.H*b9.H:=by
 constructor
 .intro ds hC;delta j6 at hC;rcases JQ.mp hC with z|z
  .ext z
  .let(e,he,hd):=x9.mp z;show((h e he).grow hd).1
 .delta j6;let af:=JP (f.flatMap<|kI d b9) [];let ao:=AF (f:=kI d b9) (m:=b9.H) (l:=f) λds hC=>by rw[<- (h ds hC).len];show Ri d b9 ds
  rw[Bi]at af;omega
theorem Rk(B:fM d)(hd:d.H<=1000)(a6:b9.H<=3)(gP:∀s∈b9,s<=8)(x0 cY x4:X8<|T×bk)(n:Y):∀(f ks:O (O Z1)) (ej dR:X8 (T×bk)),(∀ds∈f,jb b9 ds)->ks.H+f.H*3<=900000 ->
  ∃nE kJ,fT (cC 6) DT (f.map bu) [x0,J (ar b9,.ah),J (.a3<|au d,.az),cY,x4,J (.eh ks,.az),ej,dR] n=J (.bS,[x0,J (ar b9,.ah),J (.a3<|au d,.az),cY,x4,J (.eh<|(f.flatMap<|kI d b9).foldl ie ks,.az),nE,kJ],n)
 |[],ks,ej,dR,_,_=>{(ej),dR,D}
 |ds::f,ks,ej,dR,hf,aC=>by
  rw[d4]at aC;let g:=hf ds<|dF ..;let gl:=Ri d b9 ds;let anB:ds.H<=3:=by rw[g.len];show a6
  let(Rl,aA):=Rh x0 (J (ar b9,.ah)) (J (.a3<|au d,.az)) cY x4 (J (bu ds,.ah)) n (kI d b9 ds) ks dR (by omega);let cm:=JP (kI d b9 ds) ks;let(nE,kJ,aT):=Rk B hd a6 gP x0 cY x4 n f ((kI d b9 ds).foldl ie ks) (J (bu ds,.ah)) Rl (λe he=>hf e<|dZ _ he) (by omega);let VC:=grown B hd (g.ue a6 gP) g.len.symm Y1 n;show{nE,kJ,?_};let one:DT [x0,J (ar b9,.ah),J (.a3<|au d,.az),cY,x4,J (.eh ks,.az),J (bu ds,.ah),dR] n=J (.bS,[x0,J (ar b9,.ah),J (.a3<|au d,.az),cY,x4,J (.eh<|(kI d b9 ds).foldl ie ks,.az),J (bu ds,.ah),Rl],n):=by delta DT Qc;generalize (kI d b9 ds).map bu=gm at*;generalize bu ds=tO at*;generalize au d=hy at*;generalize ar b9=aD at*;generalize Ay=WW at*;simp![f7,hq,VC,Un,aA]
  rw[cD];delta fT;erw[a9.bD.cC,nN,nO,gb];rw[one,kP,Fe];show aT
def adA(B:fM d)(hd:d.H<=1000)(a6:b9.H<=3)(gP:∀s∈b9,s<=8)(x0 x4 e5 ej dR:X8<|T×bk)(n:Y)(m:bk)(hm:m=.az\/m=.ah)(hf:∀ds∈f,jb b9 ds)(aC:f.H*3<=900000) :
  ∃AG nE kJ,DU [x0,J (ar b9,.ah),J (.a3<|au d,.az),J (.aj<|f.map bu,m),x4,e5,ej,dR] n=J (.bS,[x0,J (ar b9,.ah),J (.a3<|au d,.az),J (.aj<|(j6 d b9 f).map bu,.az),x4,AG,nE,kJ],n):=by
 let(nE,kJ,e):=Rk B hd a6 gP x0 (J (.aj<|f.map bu,.ah)) x4 n f [] ej dR hf (by simpa using aC);show{J (.eh<|j6 d b9 f,.az),nE,kJ,?_};let ls:Hk n [.eh<|j6 d b9 f]=J (.aj<|(j6 d b9 f).map bu,.az):=rfl;let pz:(f.flatMap<|kI d b9).foldl ie []=j6 d b9 f:=rfl;rw[pz]at e;let jC:fg 3 u2 [x0,J (ar b9,.ah),J (.a3<|au d,.az),J (.aj<|f.map bu,m),x4,J (.eh [],.az),ej,dR] n=J (.bS,[x0,J (ar b9,.ah),J (.a3<|au d,.az),J (.aj<|f.map bu,.ah),x4,J (.eh<|j6 d b9 f,.az),nE,kJ],n):=by
  generalize (j6 d b9 f)=sf at*;generalize f.map bu=fm at*;generalize au d=hy at*;generalize ar b9=aD at*;rcases hm with rfl|rfl
  .show u2 [x0,J (aD,.ah),J (.a3 hy,.az),J (.aj fm,.ah),x4,J (.eh [],.az),ej,dR] n=_;delta u2;simp![f7,hq,Un,e]
  .show u2 [x0,J (aD,.ah),J (.a3 hy,.az),J (.aj fm,.ah),x4,J (.eh [],.az),ej,dR] n=_;delta u2;simp![f7,hq,Un,e]
 delta DU;generalize (j6 d b9 f).map bu=L9 at*;generalize (j6 d b9 f)=sf at*;generalize f.map bu=fm at*;generalize au d=hy at*;generalize ar b9=aD at*;generalize fg 3 u2=LL at*;simp![Hj,jC,ls]
def adB(B:fM d)(hd:d.H<=1000)(a6:b9.H<=3)(gP:∀s∈b9,s<=8)(x0:X8<|T×bk)(n:Y):∀(k:Y) (xs:O T) (f:O (O Z1)) (m:bk) (x4 e5 ej dR:X8 (T×bk)),xs.H=k->(m=.az\/m=.ah)->(∀ds∈f,jb b9 ds)->f.H*b9.H^k<=300000->1<=b9.H ->
  ∃fG AH AG nE kJ,(fG=.az\/fG=.ah)/\fT (cC 4) DU xs [x0,J (ar b9,.ah),J (.a3<|au d,.az),J (.aj<|f.map bu,m),x4,e5,ej,dR] n=J (.bS,[x0,J (ar b9,.ah),J (.a3<|au d,.az),J (.aj<|(nD d b9 k f).map bu,fG),AH,AG,nE,kJ],n):=by
 intro k
 induction k with
 |zero =>
  intro xs f m x4 e5 ej dR ax hm _ _ _;obtain rfl:=vs ax;show{(m),x4,e5,ej,dR,hm,D}
 |succ k aT =>
  intro xs f m x4 e5 ej dR ax hm hf aC af;cases xs with
  |nil=>ext ax
  |cons x xs =>
   let wB:1<=b9.H^(k+1):=Nat.one_le_pow _ _ af;let cM:f.H<=300000:=bF (qbk _ wB) aC;let(AG,nE,kJ,e):=adA B hd a6 gP x0 (J (x,.ah)) e5 ej dR n m hm hf (by omega);let(a1,a2):=Rj (d:=d) hf
   let(fG,lI,lE,pA,m9,JR,av):=aT xs (j6 d b9 f) .az (J (x,.ah)) AG nE kJ (by simpa using ax) (.inl D) a1 (by
    show bF (ye _ a2) ?_;rw[vE,<-Nat.pow_succ']
    show aC) af
   show{fG,lI,lE,pA,m9,JR,?_};delta fT;erw[a9.bD.cC,nN,nO,gb];rw[e];show av
def amx(b9:O Y)(hm:∀m∈b9,X3 (m:Y)=Y0)(n:Y):uY [(.aE (b9.map λm=>.int (m:Y)),Y0)] n=J (.int ((iF b9:Y):X6),Y1,n):=by
 let(S',(c,gk),e):=Pm (put:=cC 2) (b:=Am) (g:=λm:Y=>T.int m) (n:=n) (R:=λ(s:Y) S=>∃c,S=[J (.aE (b9.map λm=>.int (m:Y)),.ah),J (.int (s:X6),.ah),c]) (step:=λs m=>s*m) b9 1 [J (.aE (b9.map λm=>.int (m:Y)),.ah),J (.int (1:Y),.ah),C]
  (λm Jy s S gk=>by
   let(c,rfl):=gk;let aM:X3 (m:X6)=Y0:=hm m Jy;show{_,_,D,?_,J (.int (m:Y),.ah),D};let aF:=AB (a:=(s:X6)) (b:=(m:X6)) (.inr aM) n;delta Am
   simp![aF]) {(C),D}
 rw[Jx,yi]at gk;subst gk;delta uY Jh;generalize b9.map (λm=>T.int (m:Y))=out at e |-;let aA:An [J (.aE out,.ah),J (.int 1,.ah),C] n=J (.bS,[J (.aE out,.ah),J (.int ((iF b9:Y):X6),.ah),c],n):=by delta An f7 hq ai;show e
 simp![fg,aA]
noncomputable def eO(ss:O Y):O X6:=ss.map λ(s:Y)=>(s:X6)
def xF(ss:O Y):(eO ss).H=ss.H:=cj ..
noncomputable def f6(tw:O Z4):O Z4:=tw.map λq=>(q.1-(tw.headD (0,0)).1,q.2)
def amy(B:fM tw):fM<|f6 tw:=by
 show{?_,λq a8=>?_}
 .delta f6;rw[be];let:((λq:X6×X6=>q.1)∘λq=>(q.1-(tw.headD (0,0)).1,q.2))=(λx=>x-(tw.headD (0,0)).1)∘λq:X6×X6=>q.1:=rfl;rw[this,<-be];show List.Pairwise.map _ (λa b ne z=>ne<|by omega) B.bN
 .let(p,aF,rfl):=el.mp a8;show B.pos p aF
theorem Rm:∀d:O Z4,qU (au d)=J (d.map (·.2))
 |[]=>rfl
 |q::d=>by show(qU<|au d).map (q.2::·)=_;rw[Rm d];rfl
def aky(aC:d.H<=1000)(bX:∀q∈d,0<=q.2/\q.2<=100000)(n:Y):Hs n [.a3<|au d]=J (.int<|fx d,.ah):=by
 let c:(d.map (·.2)).H<100000/\((d.map (·.2)).all λx=>decide (-1000000<=x)&&decide (x<=1000000))=Y0:=by show{by rw[cj];show gR aC Z0,?_};rw[vB,hO];intro q a8;let:=bX q a8;erw[Function.comp,gS,YZ];omega
 show((qU<|au d).bind λns=>if ns.H<100000/\(ns.all λx=>decide (-1000000<=x)&&decide (x<=1000000))=Y0 then J (T.int<|cx ns,bk.ah) else C)=_;rw[Rm,gb,Y2 c];rfl
def AI(d:O Z4)(ds:O Z1):Yc:=rr d ds&&(jL d ds).isEmpty
def l1(ss:O Y):Y:=(cx (eO ss)-ss.H).M
def u9(d:O Z4)(ss:O Y):O<|O Z1:=if fx d=(iF ss:X6) then(nD d (eO ss) (l1 ss) [Yj ss.H [0]]).filter (AI d) else[]
def aiH(eV:tw≠[])(aC:tw.H<=1000)(m:bk)(x1:X8<|T×bk)(n:Y):Ax [J (.aj<|ct tw,m),x1,C,C,C,C,C,C] n=J (.aj<|ct<|f6 tw,.az,n):=by
 let dB:bl=1000000:=rfl;let cb:2<=bl:=by decide
 obtain⟨mq,uf,rfl⟩:∃mq uf,tw=mq::uf:=by
  cases tw with
  |nil=>show Yi D eV
  |cons q tw=>show{(q),tw,D}
 let hd:ct (mq::uf)=.aE [.int mq.1,.int mq.2]::ct uf:=rfl;delta f6;delta ct;rw[be];show jI (mq::uf) (λp:X6×X6=>T.aE [.int p.1,.int p.2]) _ ?_ (by omega) λq a8=>?_
 .ext m<;>rfl
 .show _=J (T.aE [.int<|q.1-mq.1,.int q.2],bk.ah,n);let ew:cB n [.aj ((mq::uf).map λp:X6×X6=>T.aE [.int p.1,.int p.2]),.int 0]=J (.aE [.int mq.1,.int mq.2],.ah):=by rw[xt];delta hD;rw[Y2 Z0,Y2<|by rw[cj,d4];omega];rfl
  let g1:∀a b:X6,cB n [.aE [.int a,.int b],.int 0]=J (.int a,.ah):=λ_ _=>D;let g2:∀a b:X6,cB n [.aE [.int a,.int b],.int 1]=J (.int b,.ah):=λ_ _=>D;generalize ((mq::uf).map λp:X6×X6=>T.aE [.int p.1,.int p.2])=wI at *
  ext m<;>simp![ck,ew,g1,g2,fU,fW,cb]
def Rn(ss:O Y)(af:∀s∈ss,1<=s):jb (eO ss)<|Yj ss.H [0]:=by
 show{by rw[mO,xF],λx ax=>by rw[(qbc.mp ax).2];simp,λp aF=>?_};rw[mO]at aF;let aA:(Yj ss.H [(0:X6)]).getD p []=[0]:=by rw[iu,xY,Y2 aF];rfl
 let av:(eO ss).getD p 0=(ss[p]:X6):=by rw[iu];delta eO;rw[hN,gB aF];rfl
 rw[aA,av];let:=af _<|l9 aF;show((1:Y):X6)<=_;omega
theorem JS:∀(k:Y) {f:O (O Z1)},(∀ds∈f,jb b9 ds)->(∀ds∈nD d b9 k f,jb b9 ds)/\(nD d b9 k f).H<=f.H*b9.H^k
 |0,f,h=>{h,by simp[nD]}
 |k+1,f,h=>by let(a1,a2):=Rj (d:=d) h;let(bT,cb):=JS (d:=d) (b9:=b9) k a1;show{bT,bF cb ?_};rw[Nat.pow_succ',<-vE];show ye _ a2
def aiI(B:fM d)(hd:d.H<=1000){b9:O X6}(a6:b9.H<=3)(gP:∀s∈b9,s<=8){f:O<|O Z1}(hf:∀ds∈f,jb b9 ds)(aC:f.H<=300000)(m:bk)(x0 x1 x4 e5 ej dR:X8<|T×bk)(n:Y) :
  Js [x0,x1,J (.a3<|au d,.az),J (.aj<|f.map bu,m),x4,e5,ej,dR] n=J (.aj<|(f.filter<|AI d).map bu,.az,n):=by
 let dB:bl=1000000:=rfl;show q9 f bu (AI d) bu ?_ (by omega) λds hC=>?_
 .ext m<;>rfl
 .let(bp,b8):=((hf ds hC).ue a6 gP).EZ;let(t,aA,av,a7):=JN B (bF hd Z0) (hf ds hC).one (bF bp Z0) (bF b8 Z0) Y1 n;let aR:∀n7:O (gE×T),AW n [.a3 n7,.a3 []]=J (.a5 n7.isEmpty,.ah):=λn7=>D;let a4:AW n [.bR,.a3 []]=J (.a5 Y1,.ah):=rfl;let hA:(au<|jL d ds).isEmpty=(jL d ds).isEmpty:=by delta au;cases jL d ds<;>rfl
  constructor
  .delta AI;cases z:rr d ds with
   |true =>
    let av:=av z;rw[<-hA];generalize au (jL d ds)=n7 at*;generalize au t=kt at*;generalize au d=hy at*;generalize f.map bu=fm at*;generalize bu ds=tO at*;simp![ck,w0,aA,av,aR]
   |false =>
    let a7:=a7 z;generalize au t=kt at*;generalize au d=hy at*;generalize f.map bu=fm at*;generalize bu ds=tO at*;simp![ck,w0,aA,a7,a4]
  .intro _;generalize au d=hy at*;generalize f.map bu=fm at*;generalize bu ds=tO at*;simp![ck]
theorem T6:∀{ss:O Y},(∀s∈ss,1<=s/\s<=8)->(0:X6)<=cx (eO ss)/\cx (eO ss)<=8*ss.H
 |[],_=>by simp[eO,cx]
 |s::ss,af=>by let:=T6 (ss:=ss) λx ax=>af x<|dZ _ ax;let:=af s<|dF ..;delta eO at*;rw[cD,cx,d4];omega
def shapes(h:iH tw)(s1:1<=ss.H)(s3:ss.H<=3)(af:∀s∈ss,1<=s/\s<=8)(aF:ss.H^l1 ss<=300000)(b:Yc)(n:Y) :
  rg [(.aj<|ct tw,b),(ar<|eO ss,Y0)] n=J (.aj<|(u9 (f6 tw) ss).map bu,Y0,n):=by
 let dB:bl=1000000:=rfl;let ja:0<=bl:=by decide
 let bT:1<=bl:=by decide
 let Ca:=h.len;let B:=amy h.e1;let cM:(f6 tw).H=tw.H:=cj ..;let r7:=KL B.bN (by omega) n
 let GJ:=aky (d:=f6 tw) (bF (dK cM)<|bF Ca Z0) (λq a8=>by
  let(p,aF,rfl):=el.mp a8;let:=h.ia p aF;show 0<=p.2/\p.2<=100000
  omega) n
 let pr:=amx ss (λm hm=>QD (by let:=af m hm;omega)) n;let yy:ar (eO ss)=.aE (ss.map λm=>.int (m:Y)):=by delta ar eO;rw[be];rfl
 rw[<-yy]at pr;let gP:∀s∈eO ss,s<=8:=λs aM=>by let(k,aY,rfl):=el.mp aM;let:=af k aY;omega
 let tU:=xF ss;let ne:∀a b:X6,gn n [.int a,.int b]=J (.a5<|!(a==b),.ah):=λ_ _=>D;let ha:∀m:bk,Ax [J (.aj<|ct tw,m),J (ar<|eO ss,.ah),C,C,C,C,C,C] n=J (.aj<|ct<|f6 tw,.az,n):=λm=>aiH h.ne (bF Ca Z0) m _ n;delta u9;by_cases eq:fx (f6 tw)=(iF ss:X6)
 .rw[Y2 eq];let ew:=Rn ss λs aM=>(af s aM).1;let Ma:∀ds∈[Yj ss.H [(0:X6)]],jb (eO ss) ds:=λds hC=>by rw[jP.mp hC];show ew
  let mul:hh n [.aE [.aE [.int 0]],.int (ss.H:X6)]=J (bu<|Yj ss.H [0],.ah):=by
   show(if([T.aE [.int 0]].H<=1000/\(-1000:X6)<=(ss.H:X6)/\(ss.H:X6)<=10000/\[T.aE [.int 0]].H*(ss.H:X6).M<=bl) then J (T.aE (Yj (ss.H:X6).M [T.aE [.int 0]]).flatten,bk.ah) else C)=_;rw[Y2 {by simp,(h3 _),by omega,by simp;omega},nT];congr 2;delta bu;congr 1;rw[List.map_replicate];show(Yj ss.H [ar [0]]).flatten=_
   induction ss.H with
   |zero=>rfl
   |succ k aT=>rw[l7,l7,rz,aT];rfl
  let ln:dT n [ar<|eO ss]=J (.int (ss.H:X6),.ah):=by delta ar;rw[j5,cj,tU]
  let L9:nr n [ar<|eO ss]=J (.int<|cx<|eO ss,.ah):=ake n (by omega) λx ax=>by let:=gP x ax;let(k,aY,rfl):=el.mp ax;omega
  let LW:=T6 af;obtain⟨x0,N1⟩:∃x0,x0=J (T.aj (ct tw),if b then bk.ah else bk.cV):={_,D}
  let VD:l1 ss=(h1 0<|cx (eO ss)-ss.H).H:=by rw[uV];delta l1;congr 1;omega
  let(fG,lI,lE,pA,m9,JR,e):=adB B (bF (dK cM)<|bF Ca Z0) (by rw[tU];show s3) gP x0 n (l1 ss) (h1 0<|cx (eO ss)-ss.H) [Yj ss.H [0]] .az C C C C VD.symm (.inl D) Ma (by rw[tU];simpa using aF) (by rw[tU];show s1);let(a1,a2):=JS (d:=f6 tw) (l1 ss) Ma;rw[tU,xZ,yi]at a2;let b0:=aiI B (bF (dK cM)<|bF Ca Z0) (by rw[tU];show s3) gP a1 (by omega) fG x0 (J (ar<|eO ss,.ah)) lI lE pA m9 n;let eQ:DV [x0,J (ar<|eO ss,.ah),J (.a3<|au<|f6 tw,.az),J (.aj [bu<|Yj ss.H [0]],.az),C,C,C,C] n=J (.bS,[x0,J (ar<|eO ss,.ah),J (.a3<|au<|f6 tw,.az),J (.aj<|(nD (f6 tw) (eO ss) (l1 ss) [Yj ss.H [0]]).map bu,fG),lI,lE,pA,m9],n):=by
   let:=DB (a:=ag (aB fU<|ag (aB nr<|ag (ai 1) aw)<|ag (aB dT<|ag (ai 1) aw) aw) aw) (S:=[x0,J (ar<|eO ss,.ah),J (.a3<|au<|f6 tw,.az),J (.aj [bu<|Yj ss.H [0]],.az),C,C,C,C]) (n:=n) (n':=n) (j:=cx (eO ss)-ss.H) (by
    generalize ar (eO ss)=aD at *
    simp![L9,ln,fU,fW]) (by omega) (by omega)
   delta DV f7;rw[this];show e
  let Ro:(fx (f6 tw)==(iF ss:X6))=Y0:=by simpa using eq
  let fr:∀dd:bw,ek 3 dd [x0,J (ar<|eO ss,.ah),J (.a3<|au<|f6 tw,.az),J (.aj<|(nD (f6 tw) (eO ss) (l1 ss) [Yj ss.H [0]]).map bu,fG),lI,lE,pA,m9] n=dd [x0,J (ar<|eO ss,.ah),J (.a3<|au<|f6 tw,.az),J (.aj<|(nD (f6 tw) (eO ss) (l1 ss) [Yj ss.H [0]]).map bu,fG),lI,lE,pA,m9] n:=λdd=>by rcases JR with rfl|rfl<;>rfl
  delta rg Jt;generalize ((nD (f6 tw) (eO ss) (l1 ss) [Yj ss.H [0]]).filter (AI<|f6 tw)).map bu=out at*;generalize (nD (f6 tw) (eO ss) (l1 ss) [Yj ss.H [0]]).map bu=c8 at*;generalize bu (Yj ss.H [0])=BS at*;generalize ct (f6 tw)=p0 at*;generalize ct tw=pL at*;generalize au (f6 tw)=k0 at*;generalize ar (eO ss)=aD at*;generalize Ax=CC at*;generalize Js=GF at*;generalize DV=LL at*;generalize ek 3=FF at*;subst N1
  ext b
  .erw[iK,Ys]at*;simp![ek,ha,r7,GJ,pr,ne,Ro,ln,mul,et,ja,bT,eQ,fr,b0]
  .erw[Yq]at*;simp![ek,ha,r7,GJ,pr,ne,Ro,ln,mul,et,ja,bT,eQ,fr,b0]
 .rw[Y3 eq];let nb:(fx (f6 tw)==(iF ss:X6))=Y1:=by simpa using eq
  delta rg Jt;generalize ct (f6 tw)=p0 at*;generalize ct tw=pL at*;generalize au (f6 tw)=k0 at*;generalize ar (eO ss)=aD at*;generalize Ax=CC at *
  ext b<;>simp![ek,ha,r7,GJ,pr,ne,nb,et,ja]
def adC(bN:(d.map (·.1)).Nodup):∃tw:O Z4,tw.Perm d/\(hn<|d.map hK).map ar=ct tw/\(tw.map (·.1)).Pairwise (·<·):=by
 let all:∀l∈hn (d.map hK),∃p:X6×X6,l=hK p/\True:=λl aC=>by let(p,_,rfl):=el.mp<|(w3 _).mem_iff.mp aC;show{(p),D,trivial}
 let ex:∀ls:O Z1,(∀l∈ls,∃p:X6×X6,l=hK p/\True)->∃tw:O Z4,ls=tw.map hK:=by
  intro ls
  induction ls with
  |nil=>intro _;show{[],D}
  |cons l ls aT =>
   intro h;let(tw,rfl):=aT λx ax=>h x<|dZ _ ax;let(p,rfl,_):=h l<|dF ..;show⟨p::tw,D⟩
 let(tw,e):=ex _ all;let back:∀l:O Z4,(l.map hK).map (λx=>(x.headD 0,x.getD 1 0))=l:=λl=>by rw[be];show(lq (g:=id) λp _=>?_).trans (Bm _);rfl
 let perm:tw.Perm d:=by
  let:=((w3<|d.map hK).map λx=>(x.headD 0,x.getD 1 0))
  rw[e,back,back]at this;show this
 show{tw,perm,?_,?_}
 .rw[e,be];rfl
 .let s:=Hq<|d.map hK;rw[e,vy]at s;let JT:(tw.map (·.1)).Nodup:=(perm.map (·.1)).nodup_iff.mpr bN;rw[vy];let both:=s.and<|vy.mp JT;show both.imp λ{a b} h=>?_;let(af,ao):=h;let af:a9.bD.ec [b.1,b.2] [a.1,a.2]=Y1:=af;delta a9.bD.ec at af;by_cases z:b.1=a.1
  .show Yi z.symm ao
  .let:(b.1==a.1)=Y1:=by simpa using z
   rw[this]at af;simp at af;omega
def akz(B:hl d s)(hr:∀x∈s,0<=x/\x<=120)(aM:s.H<=4096)(bq:s≠[]) :
  ∃tw,iH tw/\L7 tw s/\fx tw=s.H/\(hn<|d.map hK).map ar=ct tw:=by
 let(tw,perm,r5,up):=adC B.bN;let JT:(tw.map (·.1)).Nodup:=up.imp λ{a b} z=>(vL z)
 let wK:∀k,cK tw k=cK d k:=λk=>by
  by_cases h:k∈tw.map (·.1)
  .let(q,a8,rfl):=el.mp h;rw[jk JT a8,jk B.bN<|perm.mem_iff.mp a8]
  .rw[oy h,oy λz=>h<|(perm.map (·.1)).mem_iff.mpr z]
 show{tw,{λz=>?_,up,λq a8=>?_},λk=>by rw[wK k];show B.cK k,?_,r5}
 .cases s with
  |nil=>show bq D
  |cons x s =>
   let(v,bX):=B.has<|dF ..;let:=perm.mem_iff.mpr bX;rw[z]at this
   ext this
 .let pZ:=perm.mem_iff.mp a8;let:=hr _<|B.key pZ;let:=B.pos q pZ;let:=B.le pZ;omega
 .let aA:fx tw=fx d:=ade<|perm.map (·.2);rw[aA];show B.vals
def xS:X8 X6->T
 |none=>.bR
 |some i=>.int i
noncomputable def sR(t X0:X6):O Z1:=if X0<=t then[[t]] else[]
noncomputable def mG(t X0:X6):O Z1:=(Yr (t-X0+1-X0).M).map λ(k:Y)=>[X0+k,t-(X0+k)]
def raised(l:O X6)(oz:X6)(aC:l.H<=1000)(n:Y):Aw [(ar l,Y0),(.int oz,Y0)] n=J (ar<|l.map (·+oz),Y1,n):=by
 let dB:bl=1000000:=rfl;let ha:P6 [J (ar l,.ah),J (.int oz,.ah)] n=J (.aj<|(l.map (·+oz)).map .int,.az,n):=by rw[be];show jI l T.int _ D (by omega) λx _=>?_;show _=J (T.int<|x+oz,bk.ah,n);generalize ar l=fA at*;simp![ck,sH]
 let tp:kD n [.aj<|(l.map (·+oz)).map .int]=J (ar<|l.map (·+oz),.ah):=rfl;generalize (l.map (·+oz)).map T.int=lm at*;generalize ar (l.map (·+oz))=out at*;let fr:∀dd:bw,ek 0 dd [J (ar l,.ah),J (.int oz,.ah)] n=dd [J (ar l,.ah),J (.int oz,.ah)] n:=λ_=>D;delta Aw P7;generalize ar l=fA at*;generalize ek 0=FF at*;simp![fr,ha,tp]
def enum_rows(ls:O Z1):pH (ls.map ar)=ls.zipIdx.map λq=>.aE [.int (q.2:Y),ar q.1]:=by delta pH;rw[List.zipIdx_map,be];rfl
noncomputable def j7(ds:O Z1)(dU:O X6):O Z1:=ds.zipIdx.map λq=>q.1.map (·+dU.getD q.2 0)
def moved(aC:ds.H=dU.H)(a6:ds.H<=10)(gP:∀d∈ds,d.H<=1000)(n:Y):DP [(bu ds,Y0),(ar dU,Y0)] n=J (bu<|j7 ds dU,Y1,n):=by
 let dB:bl=1000000:=rfl;let ha:P8 [J (bu ds,.ah),J (ar dU,.ah)] n=J (.aj<|(j7 ds dU).map ar,.az,n):=by
  delta j7;rw[be]
  let:=al7 (it:=Ht<|ai 0) (l:=[C,C,J 0,J 1]) (i:=0) (j:=1) (c:=yes) (e:=bB 2 Aw<|aG (ai 1)<|aG (aB cB<|ag (ai 3) ZA) bz) (S:=[J (bu ds,.ah),J (ar dU,.ah)]) (n:=n) ds.zipIdx (λq=>T.int (q.2:Y)) (λq=>ar q.1) (λ_=>Y0) (λq=>ar<|q.1.map (·+dU.getD q.2 0)) Z0 (by
   show J (pH<|ds.map ar,n)=_
   rw[enum_rows]) (by rw[Fc];omega) λq a8=>by
    let(x,k):=q;let(aY,_,ax):=List.mem_zipIdx a8;let aY:k<ds.H:=by omega
    let g:=getInt dU (p:=k) (d0 aY<|dK aC) n;let r:=raised x (dU.getD k 0) (gP x<|by rw[ax];show l9 _) n;show⟨D,λ_=>?_⟩;show _=J (ar<|x.map (·+dU.getD k 0),bk.ah,n);generalize ar (x.map (·+dU.getD k 0))=fu at*;generalize dU.getD k 0=kl at*;generalize ar x=hB at*;generalize ar dU=o3 at*;generalize bu ds=o4 at*;simp![ck,g,r]
  rw[E8.mpr λ_ _=>D]at this;show this
 let tp:kD n [.aj<|(j7 ds dU).map ar]=J (bu<|j7 ds dU,.ah):=rfl;generalize (j7 ds dU).map ar=lm at*;generalize bu (j7 ds dU)=out at*;delta DP P9;generalize bu ds=o4 at*;generalize ar dU=o3 at*;simp![ha,tp]
def AJ(ls:O<|O Z1):O<|O Z1:=(hn<|ls.map g0).map dec
theorem Rp:∀ls:O (O Z1),uA (ls.map bu)=J ls
 |[]=>rfl
 |l::ls=>by rw[cD,uA,Rf,gb,Rp ls];rfl
def adD(bQ:∀l∈ls,l≠[]/\∀d∈l,∀x∈d,0<=x)(aC:ls.H<=bl)(n:Y):Hv n [.aj<|ls.map bu]=J (.aj<|(AJ ls).map bu,.az):=by
 show(uA<|ls.map bu).bind (λls=>if(ls.all uB&&decide (ls.H<=bl))=Y0 then J (T.aj ((hn<|ls.map g0).map λc=>bu<|dec c),bk.az) else C)=_;rw[Rp,gb,Y2]
 .delta AJ;rw[be];rfl
 .rw[gS,hO];show{λl aC=>?_,by simpa using aC};let(af,ao):=bQ l aC;delta uB;rw[gS,hO];show⟨by cases l with|nil=>show Yi rfl af|cons _ _=>rfl,λd hd=>?_⟩;rw[hO];intro x ax;simpa using ao d hd x ax
def oA(dE:O<|O Z1)(dU:O Z1):O<|O Z1:=dE.flatMap λds=>dU.map<|j7 ds
def adE{m:Y}(aq:∀ds∈dE,ds.H=m/\∀d∈ds,d.H<=1000)(adF:∀l∈dU,l.H=m)(hm:m<=10)(hz:dE.H*dU.H<=900000)
  (bQ:∀l∈oA dE dU,l≠[]/\∀d∈l,∀x∈d,0<=x) (bT cb:Yc) (n:Y):xx [(.aj<|dE.map bu,bT),(.aj<|dU.map ar,cb)] n=J (.aj<|(AJ<|oA dE dU).map bu,Y0,n):=by
 let dB:bl=1000000:=rfl;let ja:0<=bl:=by decide
 let wI:dU.H<=900000\/dE=[]:=by
  cases dE with
  |nil=>show .inr D
  |cons x l=>rw[d4,oX]at hz;show .inl<|vC hz
 let gen:∀(l:O (O Z1)) (Fa:O (O Z1)) (cY:X8 (T×bk)),(∀ds∈l,ds∈dE)->Fa.H+l.H*dU.H<=900000->∃sQ,fT (cC 3) DQ (l.map bu) [J (.aj<|dE.map bu,if bT then .ah else .cV),J (.aj<|dU.map ar,if cb then .ah else .cV),J (.aj<|Fa.map bu,.az),cY] n =
   J (.bS,[J (.aj<|dE.map bu,if bT then .ah else .cV),J (.aj<|dU.map ar,if cb then .ah else .cV),J (.aj<|(Fa++oA l dU).map bu,.az),sQ],n):=by
  intro l
  induction l with
  |nil=>intro Fa cY _ _;show{cY,by simp[fT,oA]}
  |cons ds l aT =>
   intro Fa cY lW aC;rw[d4,oX]at aC;let hC:=lW ds<|dF ..;let(aR,a4):=aq ds hC;let(sQ,e):=aT (Fa++dU.map (j7 ds)) (J (bu ds,.ah)) (λe he=>lW e<|dZ _ he) (by rw[hM,cj];omega);show{sQ,?_};let ha:Jo [J (.aj<|dE.map bu,if bT then .ah else .cV),J (.aj<|dU.map ar,if cb then .ah else .cV),J (.aj<|Fa.map bu,.az),J (bu ds,.ah)] n=J (.aj<|(dU.map<|j7 ds).map bu,.az,n):=by rw[be];show jI dU ar _ D (by omega) λlw afN=>?_;let wm:=moved (ds:=ds) (dU:=lw) (by rw[aR,adF lw afN]) (bF (dK aR) hm) a4 n;show _=J (bu<|j7 ds lw,bk.ah,n);generalize bu (j7 ds lw)=fu at*;generalize bu ds=hB at*;generalize ar lw=o3 at*;generalize dU.map ar=o4 at*;generalize dE.map bu=o5 at*;generalize Fa.map bu=o6 at*;simp![ck,wm]
   let ex:kN (.aj<|Fa.map bu) (.aj<|(dU.map<|j7 ds).map bu)=J (.aj<|(Fa++dU.map (j7 ds)).map bu):=by rw[TU,Y2 (by rw[cj,cj,cj];omega),jS]
   let one:DQ [J (.aj<|dE.map bu,if bT then .ah else .cV),J (.aj<|dU.map ar,if cb then .ah else .cV),J (.aj<|Fa.map bu,.az),J (bu ds,.ah)] n=J (.bS,[J (.aj<|dE.map bu,if bT then .ah else .cV),J (.aj<|dU.map ar,if cb then .ah else .cV),J (.aj<|(Fa++dU.map (j7 ds)).map bu,.az),J (bu ds,.ah)],n):=by delta DQ;show h2 2 kN Jo [J (.aj<|dE.map bu,if bT then .ah else .cV),J (.aj<|dU.map ar,if cb then .ah else .cV),J (.aj<|Fa.map bu,.az),J (bu ds,.ah)] n=_;rw[I7 ha (u:=.aj<|Fa.map bu) D ex];rfl
   rw[cD];delta fT;erw[a9.bD.cC,nN,nO,gb];rw[one];let:Fa++oA (ds::l) dU=Fa++dU.map (j7 ds)++oA l dU:=by delta oA;rw[kP,hj]
   rw[this];show e
 let(cY,e):=gen dE [] C (λ_ h=>h) (by simpa using hz);rw[qc]at e;let al:(oA dE dU).H<=dE.H*dU.H:=AF λds _=>by rw[cj];show b3 _
 let y1:=adD bQ (by omega) n;let jC:fg 0 u0 [J (.aj<|dE.map bu,if bT then .ah else .cV),J (.aj<|dU.map ar,if cb then .ah else .cV),J (.aj [],.az),C] n=J (.bS,[J (.aj<|dE.map bu,if bT then .ah else .cV),J (.aj<|dU.map ar,if cb then .ah else .cV),J (.aj<|(oA dE dU).map bu,.az),cY],n):=by
  let z:∀S:bA,fg 0 u0 (J (.aj<|dE.map bu,if bT then .ah else .cV)::S) n=u0 (J (.aj<|dE.map bu,if bT then .ah else .cV)::S) n:=λS=>by cases bT<;>rfl
  rw[z];show u0 [J (.aj<|dE.map bu,if bT then .ah else .cV),J (.aj<|dU.map ar,if cb then .ah else .cV),J (.aj [],.az),C] n=_;delta u0 f7;cases bT<;>show e
 generalize (AJ<|oA dE dU).map bu=out at*;generalize (oA dE dU).map bu=fu at*;generalize dE.map bu=hB at*;generalize dU.map ar=o3 at*;delta xx Qa;generalize fg 0 u0=LL at*;cases bT<;>cases cb<;>erw[reduceIte,iK]at jC<;>simp![et,ja,jC,y1]
structure iz (d:O Z4) (ds:O Z1):Prop where
 up:∀x∈ds,x.Pairwise (·<=·)
 nn:∀x∈ds,∀y∈x,0<=y
 zero:∀x∈ds,0∈x
 le:∀x∈ds,∀y∈x,∀k,qF ds k<cK d k->y<=k
def adG(h:iH tw):∀q∈f6 tw,0<=q.1:=λq a8=>by
 let(p,aF,rfl):=el.mp a8;let up:=h.up;cases tw with
 |nil=>cases aF
 |cons a tw =>
  show 0<=p.1-a.1;rcases ei.mp aF with rfl|aF
  .show FH<|ym _
  .rw[cD]at up;let:=List.rel_of_pairwise_cons up<|iJ (f:=(·.1)) aF;show FH<|lx this
def adH{t X0:X6}(h:l∈mG t X0):∃a,l=[a,t-a]/\X0<=a/\X0<=t-a:=by let(k,aY,rfl):=el.mp h;let:=qd.mp aY;show{X0+k,D,by omega,by omega}
theorem Rq:∀a b:O X6,jn (a.map T.int) (b.map T.int)=decide (a=b)
 |[],[]=>rfl
 |[],_::_=>rfl
 |_::_,[]=>rfl
 |x::a,y::b=>by
  rw[cD,cD,jn,Rq a b,ey];by_cases h:x=y
  .subst h;simp
  .simp[h]
theorem Rr:∀a b:O Z1,jn (a.map ar) (b.map ar)=decide (a=b)
 |[],[]=>rfl
 |[],_::_=>rfl
 |_::_,[]=>rfl
 |x::a,y::b=>by
  let e:ey (ar x) (ar y)=decide (x=y):=Rq x y;rw[cD,cD,jn,Rr a b,e];by_cases h:x=y
  .subst h;simp
  .simp[h]
def Eb(k:Y)(a:O Z1):dJ (k+2) (bu a)=Y0:=by show(a.map ar).all (dJ<|k+1)=Y0;rw[vB,hO];show λl _=>Jd k l
def Rt(a b:O Z1)(n:Y):gn n [bu a,bu b]=J (.a5<|!decide (a=b),.ah):=by
 rw[Tb];let e:nk (bu a) (bu b)=J (decide (a=b)):=by show(if(dJ 6 (bu a)&&dJ 6 (bu b))=Y0 then J (ey (bu a)<|bu b) else C)=_;rw[Eb 4 a,Eb 4 b,Y2<|by rfl];let:ey (bu a) (bu b)=decide (a=b):=Rr a b;rw[this]
 rw[e];rfl
end lJ
namespace va
open PySem a9 a9.bD
def JU:bK:=er (eZ<|ai 0) (ck [C,J 0,J 1]) (cC 0) yes<|bB 1 cp.DG ZB
def JV:bK:=er (eZ<|ai 0) (ck [C,J 0,J 1]) (cC 0) yes<|aB cB<|ag (ai 0)<|ag Z8 aw
def Ru:bw:=(bC (eP (gY (gr<|b7<|aB (iq .list) ZA)<|gr<|b7<|ai 0) (dq<|aS<|.a5 Y1) e0)<|bC (ek 0<|eP (gr<|b7<|aB s6<|ag JU aw) (dq<|aS<|.a5 Y1) e0)<|bC (ek 0<|c2 1 JV)<|dq<|aB hY<|ag (ai 1)<|ag (aB IJ<|ag (ai 1) aw) aw)
def xG:c1:=dv 2<|Ru
def Rv:bw:=(eP (gr<|b7<|bB 1 xG ZB) ic e0)
def sS:c1:=dv 1<|Rv
def adI:gi:=(lR (gr<|b7<|bB 1 xG ZB) (pI 2 n3) j3)
def JW:lP:=fnX 1 adI
def JX:bw:=(f5<|bB 3 cp.rb<|aG (ai 4)<|aG (aS<|.int 1)<|aG (aS<|.int 8) bz)
def Ec:bw:=f7 (hq<|ai 1) (cC 4) JX
def adJ:bw:=(bC (f5<|bB 1 sS ZB)<|bC (eP (gY (gr<|b7<|aB (iq .tuple)<|ag (ai 1) aw)<|b7<|aB gn<|ag (aB dT<|ag (ai 1) aw)<|ag (ai 2) aw) ic e0)<|bC (fg 1 Ec)<|f5<|bB 3 cp.rb<|aG (ai 3)<|aG Z8<|aG (aS<|.int 30) bz)
def sT:c1:=dv 5<|adJ
def adK:gi:=(iV (lQ 1 JW ZB) (f5<|bB 1 sS ZB)<|iV (lR (gY (gr<|b7<|aB (iq .tuple)<|ag (ai 1) aw)<|b7<|aB gn<|ag (aB dT<|ag (ai 1) aw)<|ag (ai 2) aw) (pI 3<|yI (ai 2) n3) j3) (eP (gY (gr<|b7<|aB (iq .tuple)<|ag (ai 1) aw)<|b7<|aB gn<|ag (aB dT<|ag (ai 1) aw)<|ag (ai 2) aw) ic e0)<|iV (Kn (hq<|ai 1) (cC 4) JX<|lQ 3 cp.Ak<|aG (ai 4)<|aG (aS<|.int 1)<|aG (aS<|.int 8) bz) (fg 1 Ec)<|lQ 3 cp.Ak<|aG (ai 3)<|aG Z8<|aG (aS<|.int 30) bz)
def AK:lP:=fnX 5 adK
def Rw:bw:=(bC (f5<|bB 4 sT<|aG (ai 0)<|aG (ai 1)<|aG (aS<|.int 2)<|aG (ai 2) bz)<|dq<|bB 2 cp.xx<|aG (bB 2 cp.rg<|aG (ai 0)<|aG (ai 1) bz)<|aG (bB 3 cp.sM<|aG (aB cB<|ag (aB cB<|ag (ai 0)<|ag Z8 aw)<|ag Z8 aw)<|aG (aS<|.int 2)<|aG (ai 2) bz) bz)
def vb:c1:=dv 3<|Rw
def amz:bw:=(bC (f5<|bB 4 sT<|aG (ai 0)<|aG (ai 1)<|aG (aS<|.int 3)<|aG (ai 2) bz)<|bC (eP (gY (b7<|aB jF<|ag (aB cB<|ag (ai 1)<|ag Z8 aw)<|ag (aS<|.int 4) aw)<|b7<|aB jF<|ag (aB hh<|ag (aB cB<|ag (ai 1)<|ag (aS<|.int 1) aw)<|ag (aB cB<|ag (ai 1)<|ag (aS<|.int 2) aw) aw)<|ag (aS<|.int 16) aw) ic e0)<|bC (c2 3<|bB 2 cp.rg<|aG (ai 0)<|aG (ai 1) bz)<|bC (c2 4<|bB 3 cp.sM<|aG (aB cB<|ag (aB cB<|ag (ai 0)<|ag Z8 aw)<|ag Z8 aw)<|aG (aS<|.int 3)<|aG (ai 2) bz)<|bC (eP (b7<|aB jF<|ag (aB hh<|ag (aB dT<|ag (ai 3) aw)<|ag (aB dT<|ag (ai 4) aw) aw)<|ag (aS<|.int 400) aw) ic e0)<|dq<|bB 2 cp.xx<|aG (ai 3)<|aG (ai 4) bz)
def JY:c1:=dv 5<|amz
def amA:gi:=(iV (lQ 4 AK<|aG (ai 0)<|aG (ai 1)<|aG (aS<|.int 3)<|aG (ai 2) bz) (f5<|bB 4 sT<|aG (ai 0)<|aG (ai 1)<|aG (aS<|.int 3)<|aG (ai 2) bz)<|iV (lR (gY (b7<|aB jF<|ag (aB cB<|ag (ai 1)<|ag Z8 aw)<|ag (aS<|.int 4) aw)<|b7<|aB jF<|ag (aB hh<|ag (aB cB<|ag (ai 1)<|ag (aS<|.int 1) aw)<|ag (aB cB<|ag (ai 1)<|ag (aS<|.int 2) aw) aw)<|ag (aS<|.int 16) aw) (pI 4 n3) j3) (eP (gY (b7<|aB jF<|ag (aB cB<|ag (ai 1)<|ag Z8 aw)<|ag (aS<|.int 4) aw)<|b7<|aB jF<|ag (aB hh<|ag (aB cB<|ag (ai 1)<|ag (aS<|.int 1) aw)<|ag (aB cB<|ag (ai 1)<|ag (aS<|.int 2) aw) aw)<|ag (aS<|.int 16) aw) ic e0)<|iV j3 (c2 3<|bB 2 cp.rg<|aG (ai 0)<|aG (ai 1) bz)<|iV j3 (c2 4<|bB 3 cp.sM<|aG (aB cB<|ag (aB cB<|ag (ai 0)<|ag Z8 aw)<|ag Z8 aw)<|aG (aS<|.int 3)<|aG (ai 2) bz)<|iV (lR (b7<|aB jF<|ag (aB hh<|ag (aB dT<|ag (ai 3) aw)<|ag (aB dT<|ag (ai 4) aw) aw)<|ag (aS<|.int 400) aw) (pI 4 n3) j3) (eP (b7<|aB jF<|ag (aB hh<|ag (aB dT<|ag (ai 3) aw)<|ag (aB dT<|ag (ai 4) aw) aw)<|ag (aS<|.int 400) aw) ic e0) j3)
def JZ:lP:=fnX 5 amA
def adL:bw:=(bC (c2 4<|aB s7<|ag (ai 2) aw)<|bC (c2 5<|aB fU<|ag (ai 4)<|ag (aB cB<|ag (ai 1)<|ag Z8 aw) aw)<|bC (c2 6<|aB xN<|ag (aB cB<|ag (ai 2)<|ag (ai 4) aw)<|ag (aB uw<|ag (ai 1)<|ag (aB cB<|ag (ai 1)<|ag Z8 aw) aw) aw)<|bC (eP (gY (b7<|aB hX<|ag (ai 5)<|ag Z8 aw)<|b7<|aB hY<|ag (ai 6)<|ag Z8 aw) (dq<|aS .bR) e0)<|bC (c2 7<|aB hh<|ag (eD<|ag (cg<|ai 5) aw)<|ag (ai 6) aw)<|bC (c2 2<|bB 2 cp.ox<|aG (ai 2)<|aG (bB 1 cp.iE<|aG (eD<|ag (cg<|ai 7)<|ag (cg<|ai 1) aw) bz) bz)<|bC (eP (b7<|aB sY<|ag (ai 2) aw) (dq<|aS .bR) e0)<|h2 3 kN<|ai 7)
def xH:bw:=wZ (b7<|ai 2) adL
def Rx:bw:=(bC (f5<|bB 1 sS ZB)<|bC (f5<|bB 1 cp.sL<|aG (ai 1) bz)<|bC (c2 2<|aB qQ ZA)<|bC (c2 3<|et aw)<|bC xH<|dq<|aB kD<|ag (ai 3) aw)
def AL:c1:=dv 8<|Rx
def J0:bK:=er (eZ<|ai 4) (ck [C,J 0,J 1,J 2,J 3,J 4]) (cC 0) (AS (b7<|aB gn<|ag (ai 0)<|ag (eD<|ag (cg<|ai 1)<|ag (cg<|ai 2) aw) aw)<|b7<|aB gn<|ag (ai 0)<|ag (eD<|ag (cg<|ai 2)<|ag (cg<|ai 1) aw) aw)<|ai 0
def Ry:bw:=(bC (f5<|bB 1 cp.sL ZB)<|bC (f5<|bB 1 cp.sL<|aG (ai 1) bz)<|bC (f5<|bB 3 cp.rb<|aG (ai 2)<|aG Z8<|aG (aS<|.int 30) bz)<|bC (c2 3<|aB zq<|ag (bB 1 cp.iE<|aG (eD<|ag (cg<|ai 0)<|ag (cg<|ai 1) aw) bz) aw)<|bC (c2 4<|bB 3 vb<|aG (ai 3)<|aG (eD<|ag (cg<|aB dT ZA)<|ag (cg<|aB dT<|ag (ai 1) aw) aw)<|aG (ai 2) bz)<|ek 4<|dq J0)
def Ed:c1:=dv 5<|Ry
def Rz:bK:=er (eZ<|ai 0) (ck [C,J 0]) (cC 0) yes<|aB zy ZA
def RA:bw:=(ek 0<|dq<|aB zA<|ag (aS<|.str ",")<|ag Rz aw)
def AM:c1:=dv 1<|RA
def RB:bK:=er (eZ<|ai 0) (ck [C,J 0]) (cC 0) yes<|bB 1 AM ZB
def RC:bw:=(bC (f5<|bB 1 cp.jJ ZB)<|ek 0<|dq<|aB zA<|ag (aS<|.str " ")<|ag RB aw)
def vc:c1:=dv 1<|RC
def RD:bK:=er (kC<|ag (aB dN<|ag (aS<|.int 30)<|ag (aS<|.int 1) aw) aw) (ck [C,J 0,J 1]) (cC 0) yes<|eD<|ag (cg<|aB zy ZA)<|ag (cg<|ai 0) aw
def RE:bK:=er (eZ<|aB CE<|ag (ai 0)<|ag (aS<|.str ",") aw) (ck [C,J 0,J 1]) (cC 0) yes<|aB Hu<|ag (ai 2) ZA
def RF:bw:=(bC (c2 1<|aB qQ<|ag RD aw)<|dq<|aB kD<|ag RE aw)
def Ee:c1:=dv 2<|RF
def Ef:bK:=er (eZ<|aB CE<|ag (ai 0)<|ag (aS<|.str " ") aw) (ck [C,J 0,J 1]) (cC 0) yes<|bB 1 Ee ZB
def T7:bw:=(bC (eP (gr<|b7<|aB (iq .str) ZA) ic e0)<|bC (c2 1<|aB kD<|ag Ef aw)<|bC (eP (gr<|b7<|bB 1 cp.Aj<|aG (ai 1) bz) ic e0)<|lN 1)
def Eg:c1:=dv 2<|T7
def J1:bw:=(EN [4] (dq<|bB 3 JY<|aG (ai 0)<|aG (ai 1)<|aG Z8 bz) (lQ 3 JZ<|aG (ai 0)<|aG (ai 1)<|aG Z8 bz)<|dq<|et<|ag (cg<|aS<|.str "many") aw)
def xI:c1:=dv 2<|J1
def RG:bw:=(bC (c2 3<|eD<|ag (cg<|aB dT<|ag (aB cB<|ag (ai 0)<|ag Z8 aw) aw)<|ag (cg<|aB dT<|ag (aB cB<|ag (ai 0)<|ag (aS<|.int 1) aw) aw) aw)<|bC (c2 4<|et<|ag (cg<|bB 1 cp.nC ZB)<|ag (cg<|bB 1 cp.DI ZB)<|ag (cg<|bB 1 cp.DK ZB)<|ag (cg<|bB 3 vb<|aG (ai 1)<|aG (ai 3)<|aG Z8 bz)<|ag (cg<|bB 3 Ed<|aG (aB cB<|ag (ai 0)<|ag Z8 aw)<|aG (aB cB<|ag (ai 0)<|ag (aS<|.int 1) aw)<|aG Z8 bz) aw)<|bC (h2 4 nH<|A1 (bB 1 cp.uZ ZB)<|et aw)<|bC (eP (AS (b7<|aB hX<|ag (aB cB<|ag (ai 3)<|ag Z8 aw)<|ag (aS<|.int 4) aw)<|b7<|aB hX<|ag (aB hh<|ag (aB cB<|ag (ai 3)<|ag Z8 aw)<|ag (aB cB<|ag (ai 3)<|ag (aS<|.int 1) aw) aw)<|ag (aS<|.int 17) aw) (h2 4 nH<|bB 2 xI<|aG (bB 1 cp.nC<|aG (aB dN<|ag (eD<|ag (cg<|ai 2) aw) ZA) bz)<|aG (aB dN<|ag (eD<|ag (cg<|aB dT<|ag (ai 2) aw) aw)<|ag (ai 3) aw) bz) e0)<|lN 4)
def kK:c1:=dv 5<|RG
def RH:bw:=(bC (c2 3<|et<|ag (cg<|bB 2 cp.Ap<|aG (ai 0)<|aG (aS<|.int 5) bz)<|ag (cg<|bB 2 cp.Aq<|aG (ai 0)<|aG (Ex<|ai 0) bz)<|ag (cg<|bB 2 cp.xv<|aG (ai 0)<|aG (eD<|ag (cg<|ai 2) aw) bz)<|ag (cg<|bB 2 AL<|aG (ai 1)<|aG (aB cB<|ag (ai 0)<|ag Z8 aw) bz)<|ag (cg<|bB 2 cp.Ar<|aG (aB cB<|ag (ai 0)<|ag Z8 aw)<|aG (ai 2) bz) aw)<|dq<|aB dN<|ag (ai 3)<|ag (et<|ag (cg<|bB 2 cp.As<|aG (ai 2)<|aG (aB cB<|ag (ai 0)<|ag (aS<|.int 1) aw) bz)<|ag (cg<|bB 2 cp.DM<|aG (ai 0)<|aG (eD<|ag (cg Z8)<|ag (cg<|aS<|.int 1) aw) bz)<|ag (cg<|bB 2 cp.DO<|aG (ai 0)<|aG (aS<|.int 7) bz)<|ag (cg<|bB 1 vc ZB)<|ag (cg<|bB 1 Eg<|aG (bB 1 vc ZB) bz) aw) aw)
def oB:c1:=dv 4<|RH
def T8:bK:=er (eZ<|bB 3 kK<|aG (ai 2)<|aG (ai 4)<|aG (ai 3) bz) (ck [C,J 0,J 1,J 2,J 3,J 4,J 5,J 6,J 7,J 8,J 9]) (cC 0) yes<|aB od ZA
def E0:bw:=(bC (c2 2<|bB 4 cp.u3<|aG (ai 0)<|aG (ai 1)<|aG (aS<|.int 2)<|aG (aS<|.int 2) bz)<|bC (c2 3<|bB 4 cp.pX<|aG (ai 0)<|aG (ai 1)<|aG (aS<|.int 2)<|aG (aS<|.int 30) bz)<|bC (c2 4<|bB 1 cp.nC<|aG (ai 2) bz)<|bC (c2 5<|aB od<|ag (ai 4) aw)<|bC (c2 6 T8)<|bC (c2 7<|bB 3 oB<|aG (ai 2)<|aG (ai 4)<|aG (ai 3) bz)<|bC (Af 9 8 kK 2 4 3<|gY (b7<|aB gn<|ag (ai 6)<|ag (ai 8) aw)<|gY (b7<|aB gn<|ag (ai 4)<|ag (ai 5) aw)<|b7<|aB gn<|ag (bB 3 oB<|aG (ai 2)<|aG (ai 4)<|aG (ai 3) bz)<|ag (ai 7) aw)<|bC (Ae 9 kK 2 4 3)<|dq<|uv (aB hY<|ag (bB 3 kK<|aG (ai 2)<|aG (ai 4)<|aG (ai 3) bz)<|ag (ai 6) aw)<|uv (aB hY<|ag (ai 4)<|ag (ai 5) aw)<|aB hY<|ag (bB 3 oB<|aG (ai 2)<|aG (ai 4)<|aG (ai 3) bz)<|ag (ai 7) aw)
end va
namespace va
open PySem PySem.Spec PyProof.Rows a9 a9.bD
noncomputable def top(i:Y):Yf:=PySem.Challenge.pw_dicesums_k11_whole_told_anew.main.body.getD i<|.Pass {0,0,0,0}
abbrev adM:Yf:=top 15
abbrev adN:Yf:=top 16
abbrev adO:Yf:=top 17
abbrev adP:Yf:=top 18
abbrev adQ:Yf:=top 19
abbrev adR:Yf:=top 20
abbrev adS:Yf:=top 21
abbrev adT:Yf:=top 22
abbrev adU:Yf:=top 23
abbrev adV:Yf:=top 24
abbrev adW:Yf:=top 25
abbrev adX:Yf:=top 26
abbrev adY:Yf:=top 27
abbrev adZ:Yf:=top 28
abbrev ad0:Yf:=top 30
abbrev akA:Yf:=top 31
abbrev amB:Yf:=top 32
abbrev ad1:Yf:=top 34
abbrev amC:Yf:=top 33
abbrev ad2:Yf:=top 42
abbrev akB:Yf:=top 36
abbrev amD:Yf:=top 37
abbrev amE:Yf:=top 45
abbrev ad3:Yf:=top 46
abbrev amF:Yf:=top 44
abbrev ad4:Yf:=top 43
abbrev ad5:Yf:=top 38
abbrev ad6:Yf:=top 47
abbrev ad7:Yf:=top 39
abbrev ad8:Yf:=top 48
abbrev amG:Yf:=top 40
abbrev ad9:Yf:=top 41
abbrev aea:Yf:=top 57
abbrev aeb:Yf:=top 65
abbrev amH:Yf:=top 64
abbrev aec:Yf:=top 63
abbrev akC:Yf:=top 58
abbrev aed:Yf:=top 61
abbrev amI:Yf:=top 60
abbrev aee:Yf:=top 59
abbrev aef:Yf:=top 62
abbrev amJ:Yf:=top 53
abbrev aeg:Yf:=top 54
abbrev aeh:Yf:=top 55
abbrev aei:Yf:=top 56
abbrev aej:Yf:=top 69
abbrev amK:Yf:=top 67
abbrev aek:Yf:=top 70
abbrev akD:Yf:=top 68
abbrev ael:Yf:=top 72
abbrev aem:Yf:=top 73
abbrev aen:Yf:=top 74
abbrev aeo:Yf:=top 75
abbrev aep:Yf:=top 76
abbrev aeq:Yf:=top 77
abbrev aer:Yf:=top 78
abbrev aes:Yf:=top 79
abbrev aet:Yf:=top 80
abbrev J2:Yf:=top 81
set_option genInjectivity false in
set_option genSizeOf false in
structure Zq (K:Yk) (bj:Ya->X8 ay) where
 h0:Yg
 X:K.In h0
 G:h0.Ns kg bj
 VE:Fr
 VF:Fr
 VG:Fr
 VH:Fr
 VI:Fr
 VJ:Fr
 VK:Fr
 VL:Fr
 VM:Fr
 VN:Fr
 VO:Fr
 VP:Fr
 VQ:Fr
 VR:Fr
 VS:Fr
 VT:Fr
 VU:Fr
 VV:Fr
 VW:Fr
 VX:Fr
 VY:Fr
 VZ:Fr
 V0:Fr
 V1:Fr
 yO:Fr
 V2:Fr
 V3:Fr
 V4:Fr
 Gp:Fr
 V5:Fr
 V6:Fr
 wK:Fr
 V7:Fr
 V8:Fr
 V9:Fr
 Wa:Fr
 Wb:Fr
 y2:Fr
 qF:Fr
 yN:Fr
 Wc:Fr
 Wd:Fr
 We:Fr
 Wf:Fr
 Wg:Fr
 Wh:Fr
 Wi:Fr
 Wj:Fr
 Wk:Fr
 Wl:Fr
 Wm:Fr
 Wn:Fr
 Wo:Fr
 Wq:Fr
 Wr:Fr
 Ws:Fr
 aS:Fr
 dL:Fr
 Cb:Fr
 Wt:Tok
 Wu:Tok
 Wv:Tok
 Ww:Tok
 Wx:Tok
 hG:Tok
 Wy:Tok
 Wz:Tok
 WA:Tok
 Mb:X7
 Mc:X7
 y3:X7
 wc:dy K "is_number" adM VE
 WB:dy K "is_die" adN VF
 WC:dy K "is_dice" adO VG
 WD:dy K "is_total_row" adP VH
 WE:dy K "is_totals" adQ VI
 Md:dy K "need_number" adR VJ
 WG:dy K "need_die" adS VK
 WH:dy K "need_dice" adT VL
 Me:dy K "need_totals" adU VM
 WI:dy K "counted" adV VN
 WJ:dy K "at_least" adW VO
 WK:dy K "product" adX VP
 WL:dy K "how_many" adY VQ
 WM:dy K "fraction" adZ VR
 yE:dy K "totals" ad0 VS
 WN:dy K "ways" akA VT
 WO:dy K "rolls" amB VU
 WQ:dy K "parted" ad1 VV
 r5:dy K "alike" amC VW
 WR:dy K "lesser" ad2 VX
 WS:dy K "wins" akB VY
 WT:dy K "beats" amD VZ
 WU:dy K "steps" amE V0
 WV:dy K "goes_round" ad3 V1
 WX:dy K "rings" amF yO
 WY:dy K "beaten" ad4 V2
 WZ:dy K "all_rings" ad5 V3
 W0:dy K "are_places" ad6 V4
 W2:dy K "is_ring" ad7 Gp
 W3:dy K "is_unbeaten" ad8 V5
 W4:dy K "order" amG V6
 W5:dy K "chance" ad9 wK
 Mf:dy K "need_asked" aea V7
 W6:dy K "raised" aeb V8
 W7:dy K "moved" amH V9
 W8:dy K "all_moved" aec Wa
 W9:dy K "rest" akC Wb
 Xa:dy K "with_face" aed y2
 Xb:dy K "grown" amI qF
 Xc:dy K "shapes" aee yN
 Cc:dy K "starts" aef Wc
 Xd:dy K "pairs" amJ Wd
 Mg:dy K "threes" aeg We
 Xe:dy K "missing" aeh Wf
 Xf:dy K "others" aei Wg
 Xg:dy K "shown_die" aej Wh
 Xh:dy K "shown" amK Wi
 Xi:dy K "read_die" aek Wj
 Xj:dy K "read" akD Wk
 Xk:dy K "_law_cell_at" ael Wl
 Xl:dy K "_law_mixed" aem Wm
 Xm:dy K "_law_draw" aen Wn
 Xn:dy K "_law_pick" aeo Wo
 Xo:dy K "_law_die" aep Wq
 Xp:dy K "_law_dice" aeq Wr
 Xq:dy K "_law_threes" aer Ws
 Xr:dy K "_law_lists" aes aS
 Xs:dy K "_law_rest" aet dL
 Mh:dy K "law" J2 Cb
 Xt:bj "all" = C
 Xu:bj "any" = C
 Xv:bj "bool" = C
 Xw:bj "dict" = C
 Xx:bj "enumerate" = C
 Xy:bj "int" = C
 y4:bj "isinstance" = C
 Mi:bj "len" = C
 Cd:bj "list" = C
 Mj:bj "min" = C
 GK:bj "range" = C
 Mk:bj "set" = C
 wL:bj "sorted" = C
 Ml:bj "str" = C
 Mm:bj "sum" = C
 Mn:bj "tuple" = C
 Xz:bj "GREATEST_ASKED" = J (.int 999 Wt)
 XA:bj "GREATEST_FACE" = J (.int 30 Wu)
 XB:bj "GREATEST_TOTAL" = J (.int 120 Wv)
 XC:bj "MOST_DICE" = J (.int 4 Ww)
 XD:bj "MOST_FACES" = J (.int 8 Wx)
 XE:bj "MOST_FIRST_FACES" = J (.int 4 hG)
 XF:bj "MOST_OTHER_ROLLS" = J (.int 16 Wy)
 XG:bj "MOST_THREES" = J (.int 400 Wz)
 XH:bj "MOST_WAYS" = J (.int 4096 WA)
 XI:bj "NoNumber" = J (.ref Mb)
 XJ:bj "NoTotals" = J (.ref Mc)
 GL:bj "TooMany" = J (.ref y3)
 XK:W.excIn K Mb excMro "ValueError.__new__" = Y0
 XM:W.excIn K Mc excMro "ValueError.__new__" = Y0
 XN:W.excIn K y3 excMro "ValueError.__new__" = Y0
 XO:Clause K y3
 XP:ES K y3 y3
abbrev y5(_:di)(_:cL)(K:Yk)(bj:Ya->X8 ay)(_:Yg)(_:X7):=Zq K bj
section
variable {P:di}{w:cL}{K:Yk}{bj:Ya->X8 ay}{base:Yg}{L:X7}
abbrev ug(_:y5 P w K bj base L)(lv:Y)(n:Ya)(ps:O Ya)(f:c1):Prop:=yV P w K bj base lv n ps f L
abbrev i5(_:y5 P w K bj base L)(lv:Y)(n:Ya)(ps:O Ya)(f:lP):Prop:=Dy P w K bj base lv n ps f L
variable (Lj:y5 P w K bj base L)
include Lj
def Mo{n:Ya}{st:Yf}{r:Fr}{lv:Y}{ps:O Ya}{b:bw}(h:dy K n st r)(ls:O Ya)
  (aq:∀{dw:ay} {A:dz} {cP:O Env} {s:aL} {H:aI} {E:h7},fb lv (A.deeper<|jv n (e2 st) s.L r.f dw)->(ps++ls).Nodup->ho (ka j0 P w K bj base (ps++ls) n (e2 st) r.f dw A cP s H E).nj L (iB st) b)
  (cZ:mM (ps++ls) ps<|e2 st:=by show wN) (bi:px n st ps:=by first|show y6 λ_ _ _ _ _ _ _=>D|show y7 λ_ _ _ _ _ _ _ _=>D|show y8 λ_ _ _ _ _ _ _ _ _=>D|show y9 λ_ _ _ _ _ _ _ _ _ _=>D|show Ce λ_ _ _ _ _ _ _ _ _ _ _=>D):ug Lj (lv+1) n ps<|dv (ps++ls).H b:=acj Lj.X Lj.G h (λ_ _ _ _ _ _ hr bN=>aq hr bN) cZ bi
def qaW{n:Ya}{st:Yf}{r:Fr}{lv:Y}{ps:O Ya}{b:gi}(h:dy K n st r)(ls:O Ya)
  (aq:∀{dw:ay} {A:dz} {cP:O Env} {s:aL} {H:aI} {E:h7},fb lv (A.deeper<|jv n (e2 st) s.L r.f dw)->(ps++ls).Nodup->lY Y1 (ka (nA P w) P w K bj base (ps++ls) n (e2 st) r.f dw A cP s H E) L (iB st) b)
  (cZ:mM (ps++ls) ps<|e2 st:=by show wN) (bi:px n st ps:=by first|show y6 λ_ _ _ _ _ _ _=>D|show y7 λ_ _ _ _ _ _ _ _=>D|show y8 λ_ _ _ _ _ _ _ _ _=>D|show y9 λ_ _ _ _ _ _ _ _ _ _=>D|show Ce λ_ _ _ _ _ _ _ _ _ _ _=>D):i5 Lj (lv+1) n ps<|fnX (ps++ls).H b:=afD Lj.X Lj.G h (λ_ _ _ _ _ _ hr bN=>aq hr bN) cZ bi
def dX{G:Prop}{n:Ya}{st:Yf}{r:Fr}{l:Y}{b:bw}(lv:Y)(ps ls:O Ya)(f:c1)(g:ug Lj lv n ps f->G)(h:dy K n st r)
  (aq:∀{dw:ay} {A:dz} {cP:O Env} {s:aL} {H:aI} {E:h7},fb l (A.deeper<|jv n (e2 st) s.L r.f dw)->(ps++ls).Nodup->ho (ka j0 P w K bj base (ps++ls) n (e2 st) r.f dw A cP s H E).nj L (iB st) b)
  (cZ:mM (ps++ls) ps<|e2 st:=by show wN) (bi:px n st ps:=by first|show y6 λ_ _ _ _ _ _ _=>D|show y7 λ_ _ _ _ _ _ _ _=>D|show y8 λ_ _ _ _ _ _ _ _ _=>D|show y9 λ_ _ _ _ _ _ _ _ _ _=>D|show Ce λ_ _ _ _ _ _ _ _ _ _ _=>D) (aC:lv=l+1:=by rfl) (hf:f=dv (ps++ls).H b:=by rfl):G:=by
 subst aC hf;show g<|Mo Lj h ls aq cZ bi
def Eh{G:Prop}{n:Ya}{st:Yf}{r:Fr}{l:Y}{b:gi}(lv:Y)(ps ls:O Ya)(f:lP)(g:i5 Lj lv n ps f->G)(h:dy K n st r)
  (aq:∀{dw:ay} {A:dz} {cP:O Env} {s:aL} {H:aI} {E:h7},fb l (A.deeper<|jv n (e2 st) s.L r.f dw)->(ps++ls).Nodup->lY Y1 (ka (nA P w) P w K bj base (ps++ls) n (e2 st) r.f dw A cP s H E) L (iB st) b)
  (cZ:mM (ps++ls) ps<|e2 st:=by show wN) (bi:px n st ps:=by first|show y6 λ_ _ _ _ _ _ _=>D|show y7 λ_ _ _ _ _ _ _ _=>D|show y8 λ_ _ _ _ _ _ _ _ _=>D|show y9 λ_ _ _ _ _ _ _ _ _ _=>D|show Ce λ_ _ _ _ _ _ _ _ _ _ _=>D) (aC:lv=l+1:=by rfl) (hf:f=fnX (ps++ls).H b:=by rfl):G:=by
 subst aC hf;show g<|qaW Lj h ls aq cZ bi
def agP(run:∀ns:O X6,ns.H<=63->∃S' n',E0 (pG ns 10) 0=J (.aZ (.a5 Y0) Y1,S',n')):j9 P w K bj base j0 9 Lj.Cb.f (Lj.Cb.fd "law" J2) ["_law_script"]<|z2 K:=by
 refine ahX (lv:=8) Lj.Mh.fn (wN (N:=(["_law_script"]:O Ya)++(["_law_town","_law_dice_here","_law_die_here","_law_some","_law_stored","_law_first","_law_rest_here","_law_anew","_law_told"]:O Ya))) D D Z0 (by first|exact Or.inl D|exact Or.inr D) (λ_ _ _ _ _ _=>D) (λL dw A cP s H E hr=>?_) run;let Lj:y5 P w K bj base L:=Lj;refine dX Lj 1 ["thing","low","high"] [] cp.ra (λaor=>?_) Lj.wc ?_;refine dX Lj 2 ["thing"] [] cp.Ai (λan2=>?_) Lj.WB ?_;refine dX Lj 3 ["thing"] [] cp.Aj (λaoc=>?_) Lj.WC ?_;refine dX Lj 2 ["thing"] [] cp.DG (λaoL=>?_) Lj.WD ?_;refine dX Lj 3 ["thing"] ["heads"] xG (λaos=>?_) Lj.WE ?_;refine dX Lj 2 ["thing","low","high"] [] cp.rb (λaoG=>?_) Lj.Md ?_;refine Eh Lj 2 ["thing","low","high"] [] cp.Ak (λaoM=>?_) Lj.Md ?_;refine dX Lj 3 ["thing"] [] cp.sL (λaoi=>?_) Lj.WG ?_;refine dX Lj 4 ["thing"] [] cp.jJ (λaot=>?_) Lj.WH ?_;refine dX Lj 4 ["thing"] [] sS (λaoH=>?_) Lj.Me ?_;refine Eh Lj 4 ["thing"] [] JW (λaoN=>?_) Lj.Me ?_;refine dX Lj 1 ["dice"] ["counts","die","larger","total","face"] cp.iE (λaod=>?_) Lj.WI ?_;refine dX Lj 1 ["counts","total"] [] cp.DH (λaoj=>?_) Lj.WJ ?_;refine dX Lj 1 ["numbers"] ["many","number"] cp.uY (λaoe=>?_) Lj.WK ?_;refine dX Lj 2 ["dice"] [] cp.Ao (λaok=>?_) Lj.WL ?_;refine dX Lj 1 ["part","whole"] ["shared","left","behind"] cp.Ji (λaol=>?_) Lj.WM ?_;refine dX Lj 5 ["dice"] [] cp.nC (λan3=>?_) Lj.yE ?_;refine dX Lj 5 ["dice","total"] [] cp.Ap (λanO=>?_) Lj.WN ?_;refine dX Lj 5 ["dice"] ["found","die","longer","roll"] cp.DI (λanS=>?_) Lj.WO ?_;refine dX Lj 5 ["one","other"] ["first","second","either"] cp.xv (λan4=>?_) Lj.WQ ?_;refine dX Lj 6 ["one","other"] [] cp.Aq (λanT=>?_) Lj.r5 ?_;refine dX Lj 1 ["die","than"] [] cp.DJ (λan5=>?_) Lj.WR ?_;refine dX Lj 4 ["one","other"] ["won","drawn"] cp.Ar (λanP=>?_) Lj.WS ?_;refine dX Lj 5 ["one","other"] ["counts"] cp.As (λanU=>?_) Lj.WT ?_;refine dX Lj 1 ["table","path"] ["greater"] cp.PX (λk_steps=>?_) Lj.WU ?_;refine dX Lj 1 ["table","path"] [] cp.Au (λaoz=>?_) Lj.WV ?_;refine dX Lj 2 ["table"] ["found","paths","longer","path"] cp.Jk (λanV=>?_) Lj.WX ?_;refine dX Lj 6 ["dice"] ["table","one"] cp.rd (λan6=>?_) Lj.WY ?_;refine dX Lj 7 ["dice"] [] cp.DK (λaou=>?_) Lj.WZ ?_;refine dX Lj 2 ["thing","many"] [] cp.DL (λaoA=>?_) Lj.W0 ?_;refine dX Lj 7 ["dice","thing"] [] cp.DM (λaof=>?_) Lj.W2 ?_;refine dX Lj 1 ["table","left","place"] [] cp.P2 (λaoI=>?_) Lj.W3 ?_;refine dX Lj 7 ["dice"] ["table","row","left","free"] cp.uZ (λanW=>?_) Lj.W4 ?_;refine dX Lj 5 ["dice","total"] [] cp.DO (λan7=>?_) Lj.W5 ?_;refine dX Lj 5 ["totals","sizes","many","least"] ["size"] sT (λaoB=>?_) Lj.Mf ?_;refine Eh Lj 5 ["totals","sizes","many","least"] ["size"] AK (λaoJ=>?_) Lj.Mf ?_;refine dX Lj 1 ["die","by"] [] cp.Aw (λan8=>?_) Lj.W6 ?_;refine dX Lj 2 ["dice","low"] [] cp.DP (λanY=>?_) Lj.W7 ?_;refine dX Lj 3 ["bare","lows"] ["found","dice"] cp.xx (λaov=>?_) Lj.W8 ?_;refine dX Lj 1 ["counts","taken"] ["left","total"] cp.ox (λanQ=>?_) Lj.W9 ?_;refine dX Lj 1 ["dice","place","face"] [] cp.DR (λaow=>?_) Lj.Xa ?_;refine dX Lj 2 ["counts","sizes","dice"] ["left","face"] cp.xy (λanZ=>?_) Lj.Xb ?_;refine dX Lj 3 ["totals","sizes"] ["counts","found","step","longer","dice","larger"] cp.rg (λan9=>?_) Lj.Xc ?_;refine dX Lj 1 ["total","many","least"] ["found","first"] cp.Ju (λaoC=>?_) Lj.Cc ?_;refine dX Lj 2 ["total","many","least"] ["found","first"] cp.DW (λaoD=>?_) Lj.Cc ?_;refine dX Lj 3 ["total","many","least"] ["found","first"] cp.DX (λaoE=>?_) Lj.Cc ?_;refine dX Lj 4 ["total","many","least"] ["found","first"] cp.sM (λaoF=>?_) Lj.Cc ?_;refine dX Lj 6 ["totals","sizes","least"] [] vb (λan0=>?_) Lj.Xd ?_;refine dX Lj 6 ["totals","sizes","least"] ["bare","lows"] JY (λamL=>?_) Lj.Mg ?_;refine Eh Lj 6 ["totals","sizes","least"] ["bare","lows"] JZ (λamU=>?_) Lj.Mg ?_;refine dX Lj 5 ["totals","die"] ["left","faces","lowest","face","times","same"] AL (λaog=>?_) Lj.Xe ?_;refine dX Lj 7 ["one","other","least"] ["same","found"] Ed (λaoa=>?_) Lj.Xf ?_;refine dX Lj 1 ["die"] [] AM (λaox=>?_) Lj.Xg ?_;refine dX Lj 5 ["dice"] [] vc (λan1=>?_) Lj.Xh ?_;refine dX Lj 1 ["text"] ["faces"] Ee (λaom=>?_) Lj.Xi ?_;refine dX Lj 4 ["text"] ["dice"] Eg (λanR=>?_) Lj.Xj ?_;refine dX Lj 1 ["_law_script","_law_k"] [] cp.DY (λaoK=>?_) Lj.Xk ?_;refine dX Lj 2 ["_law_script","_law_k","_law_many"] ["_law_drawn"] cp.DZ (λaoy=>?_) Lj.Xl ?_;refine dX Lj 3 ["_law_script","_law_town","_law_many"] [] cp.rh (λaon=>?_) Lj.Xm ?_;refine dX Lj 4 ["_law_script","_law_town","_law_some"] [] cp.xA (λaoo=>?_) Lj.Xn ?_;refine dX Lj 5 ["_law_script","_law_town","_law_faces","_law_most"] ["_law_low","_law_wide","_law_made"] cp.pX (λaoh=>?_) Lj.Xo ?_;refine dX Lj 6 ["_law_script","_law_town","_law_many","_law_faces"] [] cp.u3 (λaop=>?_) Lj.Xp ?_
 let ang:ug Lj 7 "_law_threes" ["_law_some","_law_sizes"] xI:=Mo Lj Lj.Xq [] (λhr bN =>
  (CM<|aj2 D D (λE p=>(CM<|HG<|SR (amL)<|uH (zB 0)<|uH (zB 1)<|uH Hx HE)) (λE p=>(OS<|ah5<|SS (amU)<|uH (zB 0)<|uH (zB 1)<|uH Hx HE)) (λv p=>(CM<|HG<|Tx<|CJ Tu CI)) Lj.GL Lj.XO<|ro.cons Lj.GL Lj.XP ro.nil))
 refine dX Lj 8 ["_law_dice_here","_law_some","_law_die_here"] ["_law_sizes","_law_made"] kK (λUj=>?_) Lj.Xr ?_;refine dX Lj 8 ["_law_dice_here","_law_some","_law_die_here"] ["_law_made"] oB (λaoq=>?_) Lj.Xs ?_;let bN:((["_law_script"]:O Ya)++(["_law_town","_law_dice_here","_law_die_here","_law_some","_law_stored","_law_first","_law_rest_here","_law_anew","_law_told"]:O Ya)).Nodup:=by decide
 all_goals repeat' first
   |(with_reducible intro _ _ _ _ _ _ hr bN)
   |(with_reducible intro)
   |(with_reducible show bI _ _ _ _);first
     |(with_reducible show bI _ _ (.Name ..) _);first|exact zB _|exact qW Lj.XD|exact qW Lj.XA|exact qW Lj.XE|exact qW Lj.XF|exact qW Lj.XG|exact qW Lj.XB|exact qW Lj.XC|exact qW Lj.XH|exact qW Lj.Xz
     |(with_reducible show bI _ _ (.Constant ..) _);first|exact Hx|exact af7|exact aho|exact Tu
     |(with_reducible show bI _ _ (.Subscript ..) _);first|refine af9 (ahP hr.fR) ?_ ?_ (λ_ _=>D)|refine ah0 ?_ ?_ ?_
     |(with_reducible show bI _ _ (.Call (.Name "len" _) ..) _);first|refine qX ahM Lj.Mi boot_len ?_|refine abD hr.hd ?_ Lj.Mi Lj.Mk
     |(with_reducible show bI _ _ (.ListComp ..) _);first|refine alN ?_ ?_ ?_|refine alO _ ?_ ?_ ?_|refine HT D (N':=["place","die","dice","low"]) (lp.of) (by decide) ?_ (λ_ _ _ _ _=>(ahF 0 1 D (show(["place","die","dice","low"]:O Ya).Nodup by decide))) (λ_ _ _ _ _=>?_) λ_ _ _ _ _=>?_
     |(with_reducible show bI _ _ (.Tuple ..) _);refine ahx ?_
     |(with_reducible show bI _ _ (.BinOp _ .Add ..) _);refine zF ahL ?_ ?_
     |(with_reducible show bI _ _ (.List ..) _);refine Tx ?_
     |(with_reducible show bI _ _ (.BinOp _ .Sub ..) _);refine zF ahH ?_ ?_
     |(with_reducible show bI _ _ (.BinOp _ .Mult ..) _);refine zF ahR ?_ ?_
     |(with_reducible show bI _ _ (.Call (.Name "isinstance" _) ..) _);first|refine zO (k:=.tuple) ?_ Lj.y4 Lj.Mn boot_tuple|refine zO (k:=.int) ?_ Lj.y4 Lj.Xy boot_int|refine zO (k:=.bool) ?_ Lj.y4 Lj.Xv boot_bool|refine zO (k:=.list) ?_ Lj.y4 Lj.Cd boot_list|refine zO (k:=.str) ?_ Lj.y4 Lj.Ml boot_str
     |(with_reducible show bI _ _ (.Call (.Name "tuple" _) ..) _);refine zE ald Lj.Mn boot_tuple ?_
     |(with_reducible show bI _ _ (.Call (.Name "list" _) ..) _);first|refine zE (ajv hr.hd) Lj.Cd boot_list ?_|refine ab1 hr.hd ?_ Lj.Cd Lj.GK|refine zE (alY hr.hd) Lj.Cd boot_list ?_
     |(with_reducible show bI _ _ (.Call (.Name "sorted" _) ..) _);first|refine qX (alu hr.hd) Lj.wL vY ?_|refine aa8 hr.hd ?_ Lj.wL|refine qX (Im hr.hd) Lj.wL vY ?_|refine qX (alv hr.hd) Lj.wL vY ?_|refine qX (al0 hr.yT hr.hd) Lj.wL vY ?_
     |(with_reducible show bI _ _ (.Compare _ [.Eq] ..) _);refine Tw (Sm hr) ?_ ?_
     |(with_reducible show bI _ _ (.Call (.Name "all" _) ..) _);refine qX (ahO D) Lj.Xt boot_all ?_
     |(with_reducible show bI _ _ (.BinOp _ .Mod ..) _);refine zF ahI ?_ ?_
     |(with_reducible show bI _ _ (.Call (.Name "dict" _) ..) _);refine zE (ajw hr.hd) Lj.Xw boot_dict ?_
     |(with_reducible show bI _ _ (.Call (.Name "sum" _) ..) _);refine qX (ajN D) Lj.Mm boot_sum ?_
     |(with_reducible show bI _ _ (.Call (.Name "min" _) ..) _);first|refine qX (ahN D) Lj.Mj boot_min ?_|refine ajP D ?_ Lj.Mj boot_min
     |(with_reducible show bI _ _ (.BinOp _ .FloorDiv ..) _);refine zF ahJ ?_ ?_
     |(with_reducible show bI _ _ (.Call (.Name "str" _) ..) _);refine zE aj4 Lj.Ml boot_str ?_
     |(with_reducible show bI _ _ (.Compare _ [_,_] ..) _);refine ala EB EB ?_ ?_ ?_
     |(with_reducible show bI _ _ (.Compare _ [.Is] ..) _);refine ahK ?_
     |(with_reducible show bI _ _ (.Compare _ [.Gt] ..) _);refine Tw SI ?_ ?_
     |(with_reducible show bI _ _ (.Call (.Name "any" _) ..) _);refine qX (ahZ D) Lj.Xu boot_any ?_
     |(with_reducible show bI _ _ (.Call ..) _);first|refine SR (by first|(change ug Lj _ _ _ _);with_reducible assumption|(change i5 Lj _ _ _ _);with_reducible assumption) ?_|refine ajs hr.fR ?_ ?_ ?_ ⟨D,D,D,D⟩|refine ali ?_ ?_ ⟨D,D,D,D⟩|refine aj5 ?_ ?_ ⟨D,D,D,D⟩|refine abG hr.hd ?_ Lj.wL Lj.Mk
     |refine ahw ?_ ?_
     |refine HD ?_
     |refine agb ?_ ?_ ?_
     |exact ajt
     |refine alQ ?_ ?_ ⟨D,D,D,D⟩
     |refine aju ?_
     |refine ajK ?_
     |refine ahv ?_
     |refine abc hr.hd ?_ Lj.Mm
     |exact alV
     |refine alP hr.fR ?_ ?_ ⟨D,D,D,D⟩
     |refine aii ?_ ?_
     |refine ah1 ?_
   |(with_reducible show SB _ _ _ _);first
     |refine uH ?_ ?_
     |exact HE
   |(with_reducible show gj _ _ _ _);first
     |(with_reducible show gj _ _ (.Return ..) _);refine HG ?_
     |refine ahy _ ?_ bN
     |refine agc ?_ ?_ ?_
     |refine ajo _ ?_
     |refine ajf ?_
     |refine ahG D D ?_ ?_ ?_
     |refine Tz _ ?_
     |exact qaS _
     |refine ahC _ ?_
     |exact qaT _ _ bN
     |refine ack _ bN ?_ ?_ ?_
     |refine ak9 D ?_ ?_
     |refine ahA _ ?_
     |refine ak7 _ hr.fR ?_ ?_
     |refine aj7 _ hr.yT ?_ ?_
     |exact ajh _
     |(with_reducible show gj _ _ _ (Ae _ _ _ _ _));exact al6 D D (λe=>Pf Uj e (hr:=hr.mono Z0)) bN<|akd 9
     |exact ak5
   |(with_reducible show ho _ _ _ _);first
     |(with_reducible show ho _ _ _ (bC (Af _ _ _ _ _ _ _) _));refine acC D D (λe=>Pf Uj e (hr:=hr.mono Z0)) ?_ ?_ bN<|akc 9
     |refine ak4 ?_ ?_
     |refine CM ?_
     |exact aje
     |exact als
   |(with_reducible show mg _ _ _ _);first
     |refine Ng ?_ ?_
     |exact Tv
   |(with_reducible show rX _ _ _ _);first
     |refine CJ ?_ ?_
     |exact CI
   |(with_reducible show ST _ _ _ _);first
     |(with_reducible show ST _ _ (.Compare _ [.NotEq] ..) _);refine uG (afE hr) ?_ ?_
     |(with_reducible show ST _ _ (.Compare _ [.Gt] ..) _);refine uG SI ?_ ?_
     |(with_reducible show ST _ _ (.Compare _ [.Lt] ..) _);refine uG agh ?_ ?_
     |(with_reducible show ST _ _ (.Compare _ [.Eq] ..) _);refine uG (Sm hr) ?_ ?_
     |(with_reducible show ST _ _ (.Compare _ [_] ..) _);first|refine uG agi ?_ ?_|refine uG (aie hr.yT hr.KO) ?_ ?_
     |(with_reducible show ST _ _ (.Compare _ [_,_] ..) _);refine alb EB EB ?_ ?_ ?_
     |(with_reducible show ST _ _ (.Compare _ [.NotIn] ..) _);refine uG abN ?_ ?_
     |(with_reducible show ST _ _ (.Compare _ [.Is] ..) _);refine ah2 ?_
     |refine ahs ?_
     |refine ahr ?_
     |refine pk.st ?_
   |(with_reducible show qY _ _ _ _ _);first
     |refine afk ?_
     |refine ajU ?_ Lj.Xx
     |refine qZ.c ?_
   |(with_reducible show sq _ _ _ _);first
     |exact ajm
     |refine ajn ?_
   |(with_reducible show pk _ _ _ _);first
     |refine aga ?_ ?_
     |refine aht ?_
     |refine ajc ?_
     |refine ahu ?_ ?_
   |(with_reducible show lY _ _ _ _ _);first
     |exact ah4
     |refine alJ ?_ (gj.lift ?_) ?_
     |refine aob (by first|(change ug Lj _ _ _ _);with_reducible assumption|(change i5 Lj _ _ _ _);with_reducible assumption) (by first|(change ug Lj _ _ _ _);with_reducible assumption|(change i5 Lj _ _ _ _);with_reducible assumption) ?_ ?_
     |refine OS ?_
   |(with_reducible show rY _ _ _ _);first
     |exact Nm _ bN
   |(with_reducible show zH _ _ _ _ _);first
     |refine afl ?_
     |refine qZ.s ?_
   |(with_reducible show qD _ _ _ _ _);first
     |refine ags ?_ ?_ ?_
     |refine IW D ?_ Lj.XI D Lj.XK
     |refine ajX ?_
     |refine IW D ?_ Lj.GL D Lj.XN
     |exact agr
     |refine IW D ?_ Lj.XJ D Lj.XM
     |refine aib PassesOwn.leaving D ?_ ?_ (ho.lift ?_) ?_
   |(with_reducible show qZ _ _ _ _ _);first
     |refine ajk ?_ Lj.GK
     |refine ajl ?_ Lj.GK
   |(with_reducible show uc _ _ _ _ _);first
     |refine ah9 ?_
     |refine aia ?_ ?_
     |exact ah8 Z0
   |(with_reducible show B7 _ _ _ _);first
     |exact ah7
     |refine ajZ ?_
   |(with_reducible show yP _ _ _ _);first
     |exact ajq
     |refine ajr ?_
   |(with_reducible show wF _ _ _ _ _);first
     |refine SS (by first|(change ug Lj _ _ _ _);with_reducible assumption|(change i5 Lj _ _ _ _);with_reducible assumption) ?_
   |rfl
end
def all_mk{w:cL}{K:Yk}{bj:Ya->X8 ay}(Lj:Zq K bj){l:W.OpenLaw}{e8:X7}(aeu:bj "law" = J (.ref e8))(run:∀ns:O X6,ns.H<=63->∃S' n',E0 (pG ns 10) 0=J (.aZ (.a5 Y0) Y1,S',n')):∃fd:i2,(∀(s:aL) (v:ay),vX s fd {[v],[]} [("_law_script",v)])/\∀base:Yg,K.In base->base.Ns kg bj->j9 l.R w K bj base j0 9 e8 fd ["_law_script"] (z2 K):=by let e:=aeu.symm.trans<|Lj.Mh.bj Lj.X Lj.G;cases e;show⟨Lj.Cb.fd "law" J2,λs v=>.of_eq D,λbase _ _=>agP (show y5 l.R w K bj base (0:X7) from Lj) run⟩
end va
namespace lJ
open a9 a9.bD cp
def stC(F:c1):bK:=er (eZ<|bB 3 F<|aG (aB fU<|ag (ai 0)<|ag (ai 4) aw)<|aG (aB fU<|ag (ai 1)<|ag (aS<|.int 1) aw)<|aG (ai 2) bz) (ck [C,J 0,J 1,J 2,J 3,J 4]) (cC 0) yes<|aB dN<|ag (eD<|ag (cg<|ai 5) aw) ZA
def Ei(F:c1):bw:=h2 3 kN<|stC F
def AN(F:c1):bw:=f7 (sk<|ag (ai 2)<|ag (aB dN<|ag (aB fU<|ag (ai 0)<|ag (ai 2) aw)<|ag (aS<|.int 1) aw) aw) (cC 4)<|Ei F
def rj(F:c1):bw:=(bC (eP (b7<|aB hY<|ag (ai 1)<|ag (aS<|.int 1) aw) (dq<|uu (b7<|aB qP<|ag (ai 0)<|ag (ai 2) aw) (et<|ag (cg<|eD<|ag (cg<|ai 0) aw) aw)<|et aw) e0)<|bC (c2 3<|et aw)<|bC (AN F)<|lN 3)
def wU:sM=dv 5 (rj DX):=rfl
def gX:DX=dv 5 (rj DW):=rfl
def aev:DW=dv 5 (rj Ju):=rfl
def aiJ(F:c1)(t X0:X6)(n:Y):dv 5 (rj F) [(.int t,Y0),(.int 1,Y0),(.int X0,Y0)] n=J (.aj<|(sR t X0).map ar,Y0,n):=by
 let ja:0<=bl:=by decide
 let bT:1<=bl:=by decide
 delta sR rj;generalize AN F=LL;by_cases h:X0<=t
 .rw[Y2 h];simp![xu,qP,fW,h,et,eD,bT];rfl
 .rw[Y3 h];simp![xu,qP,fW,h,et,ja]
def akE{F:c1}{t X0 m a:X6}{g:O Z1}{n:Y}(dV:F [(.int<|t-a,Y0),(.int<|m-1,Y0),(.int X0,Y0)] n=J (.aj<|g.map ar,Y0,n))(bQ:g.H<=200)(GN:∀l∈g,l.H<=9)(Fa:O Z1)(aC:Fa.H<=100000) :
  Ei F [J (.int t,.ah),J (.int m,.ah),J (.int X0,.ah),J (.aj<|Fa.map ar,.az),J (.int a,.ah)] n=J (.bS,[J (.int t,.ah),J (.int m,.ah),J (.int X0,.ah),J (.aj<|(Fa++g.map (a::·)).map ar,.az),J (.int a,.ah)],n):=by
 let dB:bl=1000000:=rfl;let bT:1<=bl:=by decide
 let ha:stC F [J (.int t,.ah),J (.int m,.ah),J (.int X0,.ah),J (.aj<|Fa.map ar,.az),J (.int a,.ah)] n=J (.aj<|(g.map (a::·)).map ar,.az,n):=by
  rw[be];show jI g ar (ar∘(a::·)) ?_ Z5 λl aC=>?_
  .generalize g.map ar=out at*;generalize Fa.map ar=ac at*;simp![eZ,fU,fW,dV,Un]
  .let ad:dN n [.aE [.int a],ar l]=J (ar<|a::l,.ah):=by let:=GN l aC;delta ar;rw[Je,Y2<|by rw[cj];show 1+_<=bl;lia];rfl
   show _=J (ar<|a::l,_,_);generalize ar (a::l)=fu at*;generalize ar l=hB at*;generalize Fa.map ar=ac at*;simp![ck,eD,bT,ad]
 let ex:kN (.aj<|Fa.map ar) (.aj<|(g.map (a::·)).map ar)=J (.aj<|(Fa++g.map (a::·)).map ar):=by rw[TU,Y2 (by rw[cj,cj,cj];lia),jS]
 delta Ei;rw[I7 ha (u:=.aj<|Fa.map ar) D ex];rfl
def oC(t X0:X6)(G:X6->O Z1)(a k:Y):O Z1:=(List.range' a k).flatMap λ(j:Y)=>(G<|t-(X0+j)).map ((X0+(j:X6))::·)
def T9{F:c1}{t X0 m:X6}(G:X6->O Z1)(n:Y)(h0:0<=X0)(af:X0<=30)(cE:0<=t)(Ej:t<=120)(hm:m≠1)(s1:-10<=m)(s2:m<=10)
  (dV:∀a,X0<=a->a<=t-X0->F [(.int<|t-a,Y0),(.int<|m-1,Y0),(.int X0,Y0)] n=J (.aj<|(G<|t-a).map ar,Y0,n)) (bQ:∀x,x<=120->(G x).H<=200) (GN:∀x,∀l∈G x,l.H<=9) :
  dv 5 (rj F) [(.int t,Y0),(.int m,Y0),(.int X0,Y0)] n=J (.aj<|(oC t X0 G 0 (t-X0+1-X0).M).map ar,Y0,n):=by
 let dB:bl=1000000:=rfl;let ja:0<=bl:=by decide
 let gen:∀(k a:Y) (Fa:O Z1) (x4:X8 (T×bk)),a+k=(t-X0+1-X0).M->Fa.H<=a*200->∃AH,fT (cC 4) (Ei F) ((List.range' a k).map λ(j:Y)=>T.int<|X0+j) [J (.int t,.ah),J (.int m,.ah),J (.int X0,.ah),J (.aj<|Fa.map ar,.az),x4] n =
   J (.bS,[J (.int t,.ah),J (.int m,.ah),J (.int X0,.ah),J (.aj<|(Fa++oC t X0 G a k).map ar,.az),AH],n):=by
  intro k
  induction k with
  |zero=>intro a Fa x4 _ _;show{x4,by simp[fT,oC]}
  |succ k aT =>
   intro a Fa x4 aY bx;let aew:=bQ (t-(X0+a)) Z5;let(AH,e):=aT (a+1) (Fa++(G<|t-(X0+a)).map ((X0+(a:X6))::·)) (J (.int<|X0+a,.ah)) Z5 (by rw[hM,cj];lia);show{AH,?_};delta oC at e |-;rw[List.range'_succ,cD,kP,<-hj];delta fT;erw[a9.bD.cC,nN,nO,gb];rw[akE (dV (X0+a) Z5 Z5) aew (GN _) Fa Z5];show e
 let(x4,e):=gen (t-X0+1-X0).M 0 [] C (vF _ _) (f9 _);rw[qc,<-qa7]at e;let L8:=akf (a:=ag (ai 2)<|ag (aB dN<|ag (aB fU<|ag (ai 0)<|ag (ai 2) aw)<|ag (aS<|.int 1) aw) aw) (S:=[J (.int t,.ah),J (.int m,.ah),J (.int X0,.ah),J (.aj [],.az),C]) (n:=n) (n':=n) (i:=X0) (j:=t-X0+1) (by simp![fU,fW,sH]) (iv Z0 h0) (iv af Z0) Z5 Z5;let jC:AN F [J (.int t,.ah),J (.int m,.ah),J (.int X0,.ah),J (.aj [],.az),C] n=J (.bS,[J (.int t,.ah),J (.int m,.ah),J (.int X0,.ah),J (.aj<|(oC t X0 G 0 (t-X0+1-X0).M).map ar,.az),x4],n):=by delta AN f7;rw[L8];show e
 generalize (oC t X0 G 0 (t-X0+1-X0).M).map ar=out at*;let q:hY n [.int m,.int 1]=J (.a5 Y1,.ah):=by rw[xu];simp[hm]
 delta rj;generalize AN F=LL at*;simp![q,et,ja,jC]
def akF{t X0:X6}:oC t X0 (λx=>sR x X0) 0 (t-X0+1-X0).M=mG t X0:=by
 delta oC mG;rw[<-qa7];let:∀l:O Y,(∀j∈l,(j:X6)<=t-X0-X0)->(l.flatMap λ(j:Y)=>(sR (t-(X0+j)) X0).map ((X0+(j:X6))::·))=l.map λ(k:Y)=>[X0+(k:X6),t-(X0+k)]:=by
  intro l
  induction l with
  |nil=>intro _;rfl
  |cons j l aT =>
   intro h;let:=h j<|dF ..;rw[kP,cD,aT λi hi=>h i<|dZ _ hi];delta sR;rw[Y2 Z5];rfl
 show this _ λj bO=>?_;let:=qd.mp bO;lia
def oD(t X0:X6):O Z1:=oC t X0 (λx=>mG x X0) 0 (t-X0+1-X0).M
def aex{t X0:X6}(h:l∈mG t X0):l.H=2:=by let(k,_,rfl):=el.mp h;rfl
def RI{t X0:X6}(h0:0<=X0)(af:X0<=30)(cE:0<=t)(Ej:t<=120)(n:Y):dv 5 (rj<|dv 5<|rj F) [(.int t,Y0),(.int 2,Y0),(.int X0,Y0)] n=J (.aj<|(mG t X0).map ar,Y0,n):=by
 rw[T9 (λx=>sR x X0) n h0 af cE Ej Z0 Z0 Z0 (λa _ _=>aiJ F (t-a) X0 n) (λx _=>?_) (λx l aC=>?_),akF]
 .delta sR;split<;>simp
 .delta sR at aC;split at aC
  .rw[jP.mp aC];show 1<=9;decide
  .cases aC
def aey{t X0:X6}(h0:0<=X0)(af:X0<=30)(cE:0<=t)(Ej:t<=120)(n:Y):sM [(.int t,Y0),(.int 3,Y0),(.int X0,Y0)] n=J (.aj<|(oD t X0).map ar,Y0,n):=by
 rw[wU,gX,aev];show T9 (λx=>mG x X0) n h0 af cE Ej Z0 Z0 Z0 (λa a1 a2=>RI h0 af Z5 Z5 n) (λx ax=>?_) λx l aC=>?_
 .delta mG;rw[cj,vw];lia
 .rw[aex aC];decide
end lJ
namespace RJ
open PySem a9 a9.bD cp lJ
def afO{M F:Y}(Lk:ht M F ds)(fJ:M<=4)(dV:F<=8){i:X6}(h0:0<=i)(af:i<=120)(n:Y):∃d,hl d ((sN ds).map cx)/\Ap [(.aE<|ds.map ar,Y0),(.int i,Y0)] n=J (.int<|cK d i,Y1,n):=by
 let nf:ds.H<=4:=bF Lk.most fJ;let(d,B,e):=QB (ds:=ds) (λx ax=>bF (Lk.aK x ax).most dV) nf n;show{d,B,?_};let av:=pY Lk fJ dV n;let bM:=Jv i 0 120 n h0 af;let ew:j2 n [.a3<|au d,.int i,.int 0]=J (.int<|cK d i,.ah):=by let h:=xn d i;let bH:j2 n [.a3<|au d,.int i,.int 0]=J ((gZ (au d)<|.inl i).getD (.int 0),.ah):=rfl;rw[bH,h]
 delta Ap TX;generalize au d=hy at*;generalize ds.map ar=dd at*;simp![av,bM,e,qm,ew]
end RJ
namespace va
open PySem a9 a9.bD cp lJ
def RK(h:iH tw)(jl:tw.H<64)(b:Yc)(n:Y):xG [(.aj<|ct tw,b)] n=J (.a5 Y0,Y1,n):=by
 let dB:bl=1000000:=rfl;let aC:=h.len;let X2:∀m:bk,JU [J (.aj<|ct tw,m),C] n=J (.aj (tw.map λ_=>.a5 Y0),.az,n):=by
  intro m;show jI tw (λp=>.aE [.int p.1,.int p.2]) (λ_=>.a5 Y0) ?_ Z5 λq a8=>?_
  .delta eZ;cases m<;>rfl
  .let(a,b,c,d):=h.ia q a8;let e:=adn a b c d n;simp![ck,e]
 let X5:∀m:bk,JV [J (.aj<|ct tw,m),C] n=J (.aj<|(tw.map (·.1)).map T.int,.az,n):=by
  intro m;rw[be];show jI tw (λp=>.aE [.int p.1,.int p.2]) (T.int∘(·.1)) ?_ Z5 λq a8=>?_
  .delta eZ;cases m<;>rfl
  .simp![ck,uX,hD]
 let all:s6 n [.aj (tw.map λ_=>.a5 Y0)]=J (.a5 Y0,.ah):=by
  let e:(tw.map λ_=>T.a5 Y0)=(tw.map λ_=>Y0).map T.a5:=by rw[be];rfl
  let bools:∀l:O Yc,nM (l.map T.a5)=J l:=by
   intro l
   induction l with
   |nil=>rfl
   |cons b l aT=>rw[cD];delta nM;rw[aT];rfl
  rw[KJ,e,bools];simp
 let mC:IJ n [.aj<|(tw.map (·.1)).map T.int]=J (.aj<|(tw.map (·.1)).map T.int,.az):=by
  show(pF n [.aj<|(tw.map (·.1)).map T.int]).bind _=_;let e:pF n [.aj<|(tw.map (·.1)).map T.int]=(eU<|(tw.map (·.1)).map T.int).bind λns=>if ns.H+1<4096 then J ns else C:=rfl
  rw[e,ov,gb,Y2 (by rw[cj];show Nat.succ_lt_succ<|gR aC Z0),gb,Q5 h.up,Y2<|by rw[cj];show jl];let es:sortI (tw.map (·.1))=tw.map (·.1):=(Ho (.refl _) (h.up.imp λ{a b} z=>(lx z))).symm;rw[es]
 let eq:hY n [.aj<|(tw.map (·.1)).map T.int,.aj<|(tw.map (·.1)).map T.int]=J (.a5 Y0,.ah):=by rw[EX,DC<|by show((tw.map (·.1)).map T.int).all (dJ 5)=Y0;show DA 5 _];rfl
 let ne:(ct tw).isEmpty=Y1:=by
  let:=h.ne;cases tw with
  |nil=>show Yi D this
  |cons q tw=>rfl
 delta xG Ru;let r:=X2 (if b then .ah else .cV);let hd:=X5 (if b then .ah else .cV);generalize (tw.map λ_=>T.a5 Y0)=kB at*;generalize (tw.map (·.1)).map T.int=bh at*;generalize ct tw=cm at*;generalize JU=C0 at*;generalize JV=GF at*;cases b
 .erw[iK,Ys]at r hd;simp![iq,Ah,ne,ek,r,all,hd,mC,eq]
 .erw[Yq]at r hd;simp![iq,Ah,ne,ek,r,all,hd,mC,eq]
def J3(h:iH tw)(jl:tw.H<64)(b:Yc)(n:Y):sS [(.aj<|ct tw,b)] n=J (.bR,Y1,n):=by let it:=RK h jl b n;delta sS Rv;generalize ct tw=cm at*;cases b<;>simp![it]
def r8(s:Y):Prop:=s=1\/s=2
theorem RL(aY:∀q∈d,0<=q.1):∀(k:Y) {f:O (O Z1)},(∀ds∈f,jb b9 ds/\∀x∈ds,∀y∈x,0<=y)->∀ds∈nD d b9 k f,jb b9 ds/\∀x∈ds,∀y∈x,0<=y
 |0,f,h=>h
 |k+1,f,h=>by
  show RL aY k (f:=j6 d b9 f) λds hC=>?_;delta j6 at hC;rcases JQ.mp hC with z|z
  .cases z
  .let(e,he,hd):=x9.mp z;let(g1,p,aF,rfl,_,ne):=(h e he).1.grow hd;show{g1,λx ax y aP=>?_};rcases qa0 ax with ax|rfl
   .show(h e he).2 x ax y aP
   .rcases iY.mp aP with aP|aP
    .show(h e he).2 _ (getD_mem aF) y aP
    .let(q,a8,e):=el.mp<|(JE d _).subset (xC ne).2.1;rw[jP.mp aP,<-e];show aY q a8
def found{tw:O Z4}(h:iH tw){ss:O Y}(s1:1<=ss.H)(s3:ss.H<=3)(ao:∀s∈ss,r8 s)(bQ:l1 ss<=3){dU:O Z1}(aC:∀l∈dU,l.H=ss.H/\∀a∈l,0<=a)(hz:dU.H<=20000)(b bT:Yc)(n:Y) :
  ∃B R:O (O Z1),B.H<=27/\R.H<=900000/\rg [(.aj<|ct tw,b),(ar<|eO ss,Y0)] n=J (.aj<|B.map bu,Y0,n)/\xx [(.aj<|B.map bu,bT),(.aj<|dU.map ar,bT)] n=J (.aj<|R.map bu,Y0,n):=by
 let gP:∀s∈ss,1<=s/\s<=8:=λs aM=>by rcases ao s aM with rfl|rfl<;>decide
 let RM:ss.H^l1 ss<=27:=bF (Nat.pow_le_pow_left s3 _)<|yf (n:=3) Z0 bQ;let aY:∀q∈f6 tw,0<=q.1:=adG h;let st:∀ds∈[Yj ss.H [(0:X6)]],jb (eO ss) ds/\∀x∈ds,∀y∈x,0<=y:=λds hd=>by rw[jP.mp hd];show{Rn ss λs aM=>(gP s aM).1,λx ax y aP=>by rw[(qbc.mp ax).2]at aP;rw[jP.mp aP];show ym _}
 let mem:∀ds∈u9 (f6 tw) ss,jb (eO ss) ds/\∀x∈ds,∀y∈x,0<=y:=λds hd=>by
  delta u9 at hd;split at hd
  .show RL aY _ st ds (gc.mp hd).1
  .cases hd
 let a5:(u9 (f6 tw) ss).H<=27:=by
  delta u9;split
  .let:=(JS (d:=f6 tw) (l1 ss) λds hd=>(st ds hd).1).2;rw[xF,xZ,yi]at this;show bF (vv ..)<|bF this RM
  .show f9 _
 let z:(u9 (f6 tw) ss).H*dU.H<=900000:=bF (tv a5 hz) Z0;show{_,_,a5,?_,shapes h s1 s3 gP (bF RM Z0) b n,adE (m:=ss.H) (λds hd=>?_) (λl h=>(aC l h).1) (bF s3 Z0) z (λl hm=>?_) bT bT n}
 .delta AJ;rw[cj,(w3 _).length_eq,cj];show bF (AF λds _=>by rw[cj];show b3 _) z
 .let g:=(mem ds hd).1;let l:=g.len;rw[xF]at l
  show⟨l,λd mr=>bF ((g.ue (by rw[xF];show s3) λs aM=>by
   let(k,aY,rfl):=el.mp aM;let:=gP k aY
   lia).most d mr) Z0⟩
 .let(ds,hd,hm):=x9.mp hm;let(lw,hw,rfl):=el.mp hm;let(g,nn):=mem ds hd;let l:=g.len;rw[xF]at l;show{λe=>?_,λx ax y aP=>?_}
  .let:=Yx List.H e;delta j7 at this;rw[cj,Fc,l]at this;rw[this]at s1;cases s1
  .let((d,k),a8,rfl):=el.mp ax;let(w,aez,rfl):=el.mp aP;let a:=nn d (List.fst_mem_of_mem_zipIdx a8) w aez;let c:0<=lw.getD k 0:=by
    by_cases aY:k<lw.H
    .show(aC lw hw).2 _ (lJ.getD_mem aY)
    .rw[iu,Bd<|g4 aY];show ym _
   show Int.add_nonneg a c
def Te{t:X6}(h:l∈mG t 0):l.H=2/\∀a∈l,0<=a:=by let(a,rfl,a1,a2):=adH h;show⟨D,by simpa using Lc a1 a2⟩
def agQ{t:X6}(h:l∈oD t 0):l.H=3/\∀a∈l,0<=a:=by delta oD oC at h;let(j,_,h):=x9.mp h;let(m,hm,rfl):=el.mp h;let(l,p):=Te hm;show{Yx (·+1) l,List.forall_mem_cons.mpr {by lia,p}}
def RN{t:X6}(cE:t<=120):(mG t 0).H<=121:=by delta mG;rw[cj,vw];lia
def aeA{t:X6}(cE:t<=120):(oD t 0).H<=20000:=by delta oD oC;show bF (AF (m:=121) λj _=>?_) (by rw[List.length_range'];lia);rw[cj];show RN Z5
def RO(h:iH tw)(n:Y):∃t v:X6,0<=t/\t<=120/\cB n [.aj<|ct tw,.int 0]=J (.aE [.int t,.int v],.ah):=by
 cases tw with
 |nil=>show Yi D h.ne
 |cons q tw =>
  let r:=h.ia q<|dF ..;show{q.1,q.2,r.1,r.2.1,?_};show((hD (ct<|q::tw) 0).map λt=>(t,bk.ah))=_;delta hD ct;rw[Y2 Z0,Y2<|by rw[cj,d4];lia];rfl
def mid{α β γ:Type}{o:X8<|α×β×γ}{a:α}{c:γ}(h:o.map (λr=>(r.1,r.2.2))=J (a,c)):∃y,o=J (a,y,c):=by
 cases o with
 |none=>cases h
 |some r =>
  let(p,q,s):=r;cases h;show{(q),D}
def GO:bw:=bC (eP (gY (gr<|b7<|aB (iq .tuple)<|ag (ai 1) aw)<|b7<|aB gn<|ag (aB dT<|ag (ai 1) aw)<|ag (ai 2) aw) ic e0)<|bC (fg 1 Ec)<|f5<|bB 3 cp.rb<|aG (ai 3)<|aG Z8<|aG (aS<|.int 30) bz
def RP(h:iH tw)(jl:tw.H<64){b:Yc}{n:Y}(e:∀x,∃y,GO [x,J (t,.ah),J (m,.ah),J (.int 0,.ah),C] n=J (.bS,y,n)):sT [(.aj<|ct tw,b),(t,Y0),(m,Y0),(.int 0,Y0)] n=J (.bR,Y1,n):=by let qE:=J3 h jl b n;generalize ct tw=cm at*;let(y,e):=e<|some (.aj cm,if b then .ah else .cV);show KY (bC _ GO [J (.aj cm,if b then .ah else .cV),J (t,.ah),J (m,.ah),J (.int 0,.ah),C] n) _=_;generalize GO=A at*;cases b<;>erw[reduceIte,iK]at e<;>simp![qE,e]
def pairs(h:iH tw)(jl:tw.H<64){s1 s2:Y}(cT:r8 s1)(da:r8 s2)(n:Y):∃R:O (O Z1),R.H<=900000/\vb [(.aj<|ct tw,Y1),(ar<|eO [s1,s2],Y0),(.int 0,Y0)] n=J (.aj<|R.map bu,Y0,n):=by
 let na:=RP h jl (t:=ar<|eO [s1,s2]) (m:=.int 2) (b:=Y1) (n:=n) λx=>by rcases cT with rfl|rfl<;>rcases da with rfl|rfl<;>show mid D
 let(t,v,t0,t1,ew):=RO h n;let(B,R,_,r,ue,am):=found h (ss:=[s1,s2]) (show 1<=2 by decide) (show 2<=3 by decide) (by simp[cT,da]) (by rcases cT with rfl|rfl<;>rcases da with rfl|rfl<;>decide) (dU:=mG t 0) (λl h=>Te h) (bF (RN t1) Z0) Y1 Y0 n;show{R,r,?_};let st:sM [(.int t,Y0),(.int 2,Y0),(.int 0,Y0)] n=_:=RI Z0 Z0 t0 t1 n;let g1:cB n [.aE [.int t,.int v],.int 0]=J (.int t,.ah):=rfl;generalize R.map bu=out at*;generalize B.map bu=fu at*;generalize (mG t 0).map ar=hB at*;generalize ct tw=o3 at*;generalize ar (eO [s1,s2])=o4 at*;delta vb Rw;simp![na,ue,ew,g1,st,am]
def Tl(t:T):Prop:=pW t=Y0/\dJ 5 t=Y0
def J4{α:Type}{f:α->T}{l:O α}(h:∀x∈l,dJ 4 (f x)=Y0):dJ 5 (.aj<|l.map f)=Y0:=Po h
def Tl.rws{l:O<|O Z1}(h:l.H<=900000):Tl<|.aj<|l.map bu:={by show decide ((l.map bu).H<bl)=Y0;rw[cj];show XQ<|gR h Z0,J4 λr _=>Eb 2 r}
def Mp:gi:=iV (lR (gY (gr<|b7<|aB (iq .tuple)<|ag (ai 1) aw)<|b7<|aB gn<|ag (aB dT<|ag (ai 1) aw)<|ag (ai 2) aw) (pI 3<|yI (ai 2) n3) j3) (eP (gY (gr<|b7<|aB (iq .tuple)<|ag (ai 1) aw)<|b7<|aB gn<|ag (aB dT<|ag (ai 1) aw)<|ag (ai 2) aw) ic e0)<|iV (Kn (hq<|ai 1) (cC 4) JX<|lQ 3 cp.Ak<|aG (ai 4)<|aG (aS<|.int 1)<|aG (aS<|.int 8) bz) (fg 1 Ec)<|lQ 3 cp.Ak<|aG (ai 3)<|aG Z8<|aG (aS<|.int 30) bz
def xJ{n n':Y}(h:cN S n=C)(e:a S n=J (.bS,S',n')):iV cN a xr S n=xr S' n':=by delta iV;rw[h,e];rfl
def AO{n n':Y}(e:a S n=J (.bS,S',n')):bC a b S n=b S' n':=by delta bC;rw[e];rfl
def Sw{n:Y}{b:Yc}(h:c S n=J (b,n)):lR c cN eN S n=if b then cN S n else eN S n:=by delta lR;rw[h];rfl
def akG(h:iH tw)(jl:tw.H<64){n:Y}(e:∀x,Mp [x,J (t,.ah),J (m,.ah),J (.int 0,.ah),C] n=C):AK [(.aj<|ct tw,Y0),(t,Y0),(m,Y0),(.int 0,Y0)] n=C:=by
 let it:=RK h jl Y0 n;let qE:=J3 h jl Y0 n;generalize ct tw=cm at*;let c:gr (b7<|bB 1 xG ZB) [J (.aj cm,.ah)] n=J (Y1,n):=by simp![it]
 let aR:lQ 1 JW ZB [J (.aj cm,.ah),J (t,.ah),J (m,.ah),J (.int 0,.ah),C] n=C:=by show lR _ _ _ [J (.aj cm,.ah)] n=C;delta lR;rw[c];rfl
 let a4:f5 (bB 1 sS ZB) [J (.aj cm,.ah),J (t,.ah),J (m,.ah),J (.int 0,.ah),C] n=J (.bS,[J (.aj cm,.ah),J (t,.ah),J (m,.ah),J (.int 0,.ah),C],n):=by simp![qE]
 show(xJ (xr:=Mp) aR a4).trans (e _)
def EF:eX:=gY (b7<|aB jF<|ag (aB cB<|ag (ai 1)<|ag Z8 aw)<|ag (aS<|.int 4) aw)<|b7<|aB jF<|ag (aB hh<|ag (aB cB<|ag (ai 1)<|ag (aS<|.int 1) aw)<|ag (aB cB<|ag (ai 1)<|ag (aS<|.int 2) aw) aw)<|ag (aS<|.int 16) aw
def A4:eX:=b7<|aB jF<|ag (aB hh<|ag (aB dT<|ag (ai 3) aw)<|ag (aB dT<|ag (ai 4) aw) aw)<|ag (aS<|.int 400) aw
def xT:jy:=aG (ai 0)<|aG (ai 1)<|aG (aS<|.int 3)<|aG (ai 2) bz
def Ek:bK:=bB 2 rg<|aG (ai 0)<|aG (ai 1) bz
def El:bK:=bB 3 cp.sM<|aG (aB cB<|ag (aB cB<|ag (ai 0)<|ag Z8 aw)<|ag Z8 aw)<|aG (aS<|.int 3)<|aG (ai 2) bz
def aeB{tw:O Z4}(h:iH tw)(jl:tw.H<64){s1 s2 s3:Y}(cT:r8 s1)(da:r8 s2)(gM:r8 s3)(n:Y):∃t,Tl t/\xI [(.aj<|ct tw,Y0),(ar<|eO [s1,s2,s3],Y0)] n=J (t,Y0,n):=by
 let na:=RP h jl (t:=ar<|eO [s1,s2,s3]) (m:=.int 3) (b:=Y0) (n:=n) λx=>by rcases cT with rfl|rfl<;>rcases da with rfl|rfl<;>rcases gM with rfl|rfl<;>show mid D
 let cN:=akG h jl (t:=ar<|eO [s1,s2,s3]) (m:=.int 3) (n:=n) λx=>by rcases cT with rfl|rfl<;>rcases da with rfl|rfl<;>rcases gM with rfl|rfl<;>rfl
 let t5:∀x,EF [x,J (ar<|eO [s1,s2,s3],.ah),J (.int 0,.ah),C,C] n=J (Y1,n):=λx=>by rcases cT with rfl|rfl<;>rcases da with rfl|rfl<;>rcases gM with rfl|rfl<;>rfl
 let(t,v,t0,t1,ew):=RO h n;let(B,R,b,r,ue,am):=found h (ss:=[s1,s2,s3]) (show 1<=3 by decide) (show 3<=3 by decide) (by simp[cT,da,gM]) (by rcases cT with rfl|rfl<;>rcases da with rfl|rfl<;>rcases gM with rfl|rfl<;>decide) (dU:=oD t 0) (λl h=>agQ h) (aeA t1) Y0 Y1 n;let st:=aey (t:=t) (X0:=0) Z0 Z0 t0 t1 n;let g1:cB n [.aE [.int t,.int v],.int 0]=J (.int t,.ah):=rfl;let jU:=AB (a:=((B.map bu).H:X6)) (b:=(((oD t 0).map ar).H:X6)) (.inl<|by rw[cj];simp[X3];lia) n;let gt:jF n [.int<|((B.map bu).H:X6)*(((oD t 0).map ar).H:X6),.int 400]=J (.a5<|decide ((400:X6)<((B.map bu).H:X6)*(((oD t 0).map ar).H:X6)),.ah):=rfl;let XR:=Tl.rws r;generalize decide ((400:X6)<((B.map bu).H:X6)*(((oD t 0).map ar).H:X6))=c at*;generalize R.map bu=out at*;generalize B.map bu=fu at*;generalize (oD t 0).map ar=hB at*;generalize ct tw=o3 at*;generalize ar (eO [s1,s2,s3])=o4 at*;let a4:f5 (bB 4 sT xT) [J (.aj o3,.ah),J (o4,.ah),J (.int 0,.ah),C,C] n=J (.bS,[J (.aj o3,.ah),J (o4,.ah),J (.int 0,.ah),C,C],n):=by delta xT;simp![na]
 let aA:c2 3 Ek [J (.aj o3,.ah),J (o4,.ah),J (.int 0,.ah),C,C] n=J (.bS,[J (.aj o3,.ah),J (o4,.ah),J (.int 0,.ah),J (.aj fu,.az),C],n):=by delta Ek;simp![ue]
 let av:c2 4 El [J (.aj o3,.ah),J (o4,.ah),J (.int 0,.ah),J (.aj fu,.az),C] n=J (.bS,[J (.aj o3,.ah),J (o4,.ah),J (.int 0,.ah),J (.aj fu,.az),J (.aj hB,.az)],n):=by delta El;simp![ew,g1,st]
 let tt:A4 [J (.aj o3,.ah),J (o4,.ah),J (.int 0,.ah),J (.aj fu,.az),J (.aj hB,.az)] n=J (c,n):=by delta A4;simp![ow,jU,gt]
 let no:∀{t:eX} {S:bA},t S n=J (Y1,n)->lR t (pI 4 n3) j3 S n=C/\eP t ic e0 S n=J (.bS,S,n):=λh=>{by rw[Sw h];rfl,by delta eP;rw[h];rfl}
 let cN:lQ 4 AK xT [J (.aj o3,.ah),J (o4,.ah),J (.int 0,.ah),C,C] n=C:=cN;let bU:lQ 3 JZ (aG (ai 0)<|aG (ai 1)<|aG Z8 bz) [J (.aj o3,.ah),J (o4,.ah)] n=if c then J (4,n) else C:=by
  show iV (lQ 4 AK xT) (f5<|bB 4 sT xT) (iV (lR EF (pI 4 n3) j3) (eP EF ic e0)<|iV j3 (c2 3 Ek)<|iV j3 (c2 4 El)<|iV (lR A4 (pI 4 n3) j3) (eP A4 ic e0) j3) [J (.aj o3,.ah),J (o4,.ah),J (.int 0,.ah),C,C] n=_;rw[xJ cN a4,xJ (no<|t5 _).1 (no<|t5 _).2,xJ D aA,xJ D av];cases c with
  |true =>
   delta iV;rw[Sw tt];rfl
  |false=>rw[xJ (no tt).1 (no tt).2];rfl
 show ∃t,Tl t/\KY (J1 [J (.aj o3,.ah),J (o4,.ah)] n) _=_;delta J1 EN;rw[bU];cases c with
 |true=>show{.aj [.str "many"],{by decide,D},D}
 |false =>
  let e:JY [(.aj o3,Y0),(o4,Y0),(.int 0,Y0)] n=J (.aj out,Y0,n):=by show KY (bC (f5<|bB 4 sT xT) (bC (eP EF ic e0)<|bC (c2 3 Ek)<|bC (c2 4 El)<|bC (eP A4 ic e0) _) [J (.aj o3,.ah),J (o4,.ah),J (.int 0,.ah),C,C] n) _=_;rw[AO a4,AO (no<|t5 _).2,AO aA,AO av,AO (no tt).2];simp![am]
  show{_,XR,?_};let GD:∀t:T,flag .ah t=Y0:=λ_=>D;simp![e,GD]
def cn(q r:Yc):T:=.aj [.aj [.a5 Y1,.a5 q],.aj [.a5 r,.a5 Y1]]
def J5(a b:O X6):A3 (tabOf [a,b])=cn (fo a b) (fo b a):=by
 let s:∀a,fo a a=Y1:=λa=>by simp[fo]
 show T.aj [.aj [.a5<|fo a a,_],.aj [_,.a5<|fo b b]]=_;rw[s,s];rfl
def J6(n:Y):X8 (T×Yc×Y)->Yc
 |some (t,b,m)=>b&&m==n&&pW t&&dJ 5 t
 |none=>Y1
def Em(n:Y):X8 (T×Yc×Y)->Yc
 |some (.a5 _,b,m)=>!b&&m==n
 |_=>Y1
def aiK{n:Y}(h:J6 n r=Y0):∃t,Tl t/\r=J (t,Y0,n):=by
 match r,h with
 |some (t,b,m),h =>
  erw[J6,gS,UI]at h;let(((rfl,rfl),af),ao):=h;show{t,{(af),ao},D}
def Ua{n:Y}(h:Em n r=Y0):∃x,r=J (.a5 x,Y1,n):=by
 match r,h with
 |some (.a5 x,b,m),h =>
  erw[Em,gS,UI,Bw]at h;let(rfl,rfl):=h;show{(x),D}
def amM:∀n<60,∀q r:Yc,J6 n (Jk [(cn q r,Y0)] n)=Y0:=by decide+kernel
def RQ:∀n<60,Em n (DL [(ar [0,1],Y0),(.int 2,Y0)] n)=Y0/\∀q r:Yc,Em n (Au [(cn q r,Y0),(ar [0,1],Y0)] n)=Y0:=by decide+kernel
section
variable {a b:O X6}(Lk:ht 2 2 [a,b]){n:Y}
include Lk
def aeC(bq:n<60):∃t,Tl t/\DK [(.aE Z9,Y0)] n=J (t,Y0,n):=by let aA:jJ [(.aE Z9,Y0)] n=_:=pY Lk Z0 Z0 n;let av:rd [(.aE Z9,Y0)] n=_:=JD Lk Z0 Z0 n;let(t,k,a7):=aiK<|amM n bq (fo a b)<|fo b a;rw[J5]at av;show{t,k,?_};delta DK P0;generalize cn (fo a b) (fo b a)=tt at*;generalize T.aE Z9=dd at*;simp![aA,av,a7]
def akH(bq:n<60):∃x,DM [(.aE Z9,Y0),(.aE [.int 0,.int 1],Y0)] n=J (.a5 x,Y1,n):=by
 let aA:jJ [(.aE Z9,Y0)] n=_:=pY Lk Z0 Z0 n;let av:rd [(.aE Z9,Y0)] n=_:=JD Lk Z0 Z0 n;rw[J5]at av;let(x,a7):=Ua (RQ n bq).1;let(y,bM):=Ua<|(RQ n bq).2 (fo a b) (fo b a);let d9:dT n [.aE Z9]=J (.int 2,.ah):=rfl;change DL [(.aE [.int 0,.int 1],Y0),(.int 2,Y0)] n=_ at a7;change Au [(_,Y0),(.aE [.int 0,.int 1],Y0)] n=_ at bM;delta DM P1;generalize cn (fo a b) (fo b a)=tt at*;generalize T.aE Z9=dd at*;cases x
 .show{Y1,by simp![aA,av,a7,bM,d9]}
 .show{y,by simp![aA,av,a7,bM,d9]}
set_option maxHeartbeats 0 in
def EZ:∃t,Tl t/\DI [(.aE Z9,Y0)] n=J (t,Y0,n):=by
 let aA:jJ [(.aE Z9,Y0)] n=_:=pY Lk Z0 Z0 n;obtain⟨X2,af,ao,a6,x,y,z,e⟩:∃X2:O (O X6),X2.H<=4/\X2≠[]/\(∀r∈X2,r≠[])/\∃x y z,fg 0 Jj [J (.aE [ar a,ar b],.ah),J (.aj [ar []],.az),C,C,C] n=J (.bS,[J (.aE [ar a,ar b],.ah),J (.aj (X2.map ar),.az),x,y,z],n):=by
  let a1:=Lk.aK a Z6;let bT:=Lk.aK b Z6
  match a,b,a1.one,a1.most,bT.one,bT.most with
  |[x],[u],_,_,_,_=>show{[[x,u]],by simp,by simp,by simp,_,_,_,D}
  |[x],[u,v],_,_,_,_=>show{[[x,u],[x,v]],by simp,by simp,by simp,_,_,_,D}
  |[x,y],[u],_,_,_,_=>show{[[x,u],[y,u]],by simp,by simp,by simp,_,_,_,D}
  |[x,y],[u,v],_,_,_,_=>show{[[x,u],[x,v],[y,u],[y,v]],by simp,by simp,by simp,_,_,_,D}
 let av:CB n [.aj<|X2.map ar]=J (.aj<|(hn X2).map ar,.az):=by
  let q:eU (X2.map ar)=C:=by
   cases X2 with
   |nil=>show Yi D ao
   |cons r rs=>rfl
  simp[CB,q,Pk a6]
 let bT:1<=bl:=by decide
 show{_,{?_,J4 (f:=ar) (l:=hn X2) λr _=>Jd 3 r},?_}
 .show decide (((hn X2).map ar).H<bl)=Y0;rw[cj,(w3 _).length_eq];show XQ<|gR af Z0
 let a7:∀S,eD aw S n=J (ar [],.ah,n):=λ_=>D;delta DI PN;generalize (hn X2).map ar=out at*;generalize X2.map ar=fu at*;generalize eD aw=TN at*;generalize fg 0 Jj=LL at*;generalize T.aE Z9=dd at*;simp![aA,et,bT,a7,e,av]
end
def A2(x:T)(l:O T)(n:Y):cB n [.aj<|x::l,.int 0]=J (x,.ah):=by rw[xt];delta hD;rw[Y2 Z0,Y2<|by rw[d4];lia];rfl
def agR{x0 x1 x2:X8<|T×bk}{left:O X6}{f:X6}{cq:O T}(aC:left.H<=4)(n:Y):Jn [x0,x1,x2,J (.aj<|left.map .int,.az),J (.aj<|.int f::cq,.az)] n=J (.aj<|(left.filter λy=>!(y==f)).map .int,.az,n):=by
 show q9 left T.int (λy=>!(y==f)) T.int D (bF aC Z0) λx _=>{?_,λ_=>by simp![ck]}
 let g:=A2 (.int f) cq n;let q:gn n [.int x,.int f]=J (.a5 !(x==f),.ah):=rfl;simp![ck,g,q]
def Ub{f:X6}{n k:Y}(aC:left.H<=4)(bq:left≠[])(hr:row.H<=4)(ha:∀x,Av [x0,x1,x,J (.aj<|left.map .int,.az),x4] n=J (.aj<|.int f::cq,.az,n)) :
  lO (b7<|ai 3) xw (k+1) [x0,x1,J (.aj row,.az),J (.aj<|left.map .int,.az),x4] n=lO (b7<|ai 3) xw k [x0,x1,J (.aj<|row++[.int f],.az),J (.aj<|(left.filter λy=>!(y==f)).map .int,.az),J (.aj<|.int f::cq,.az)] n:=by
 let b0:=agR (x0:=x0) (x1:=x1) (x2:=J (.aj<|row++[.int f],.az)) (f:=f) (cq:=cq) aC n;let t:(left.map T.int).isEmpty=Y1:=by cases left with
  |nil=>show Yi D bq
  |cons _ _=>rfl
 let ap:nH (.aj row) (.int f)=J (.aj<|row++[.int f]):=Y2<|gR hr Z0;let ha:=ha<|some (.aj row,.az);let g:=A2 (.int f) cq n;generalize (left.filter λy=>!(y==f)).map T.int=out at*;generalize left.map T.int=wI at*;generalize row++[.int f]=iw at*;let e:xw [x0,x1,J (.aj row,.az),J (.aj wI,.az),x4] n=J (.bS,[x0,x1,J (.aj iw,.az),J (.aj out,.az),J (.aj<|.int f::cq,.az)],n):=by delta xw;generalize Av=C0 at*;generalize Jn=GF at*;simp![ek,h2,ha,b0,g,ap]
 rw[lO];let c:b7 (ai 3) [x0,x1,J (.aj row,.az),J (.aj wI,.az),x4] n=J (Y0,n):=by simp![t]
 rw[c];show KY (xw _ n) _=_;rw[e];rfl
def order(Lk:ht 2 2 [a,b])(n:Y):∃y aQ,Tl (.aj<|y::aQ)/\uZ [(.aE Z9,Y0)] n=J (.aj<|y::aQ,Y0,n):=by
 let aA:jJ [(.aE Z9,Y0)] n=_:=pY Lk Z0 Z0 n;let av:rd [(.aE Z9,Y0)] n=_:=JD Lk Z0 Z0 n;rw[J5]at av;let ja:0<=bl:=by decide
 let a7:∀x1 x2 cY x4,zx (ag (aB dT ZA) aw) [J (.aE Z9,.ah),x1,x2,cY,x4] n=J (.aj [.int 0,.int 1],.az,n):=λx1 x2 cY x4=>by delta zx;rw[show kC (ag (aB dT ZA) aw) [J (.aE Z9,.ah),x1,x2,cY,x4] n=J (h1 0 2,n) from DB D Z0 Z0];rfl
 let bM:∀d:X8 (T×bk),∃y z x4,DN [d,J (cn (fo a b)<|fo b a,.az),J (.aj [],.az),J (.aj [.int 0,.int 1],.az),C] n=J (.bS,[d,J (cn (fo a b)<|fo b a,.az),J (.aj [.int y,.int z],.az),J (.aj [],.az),x4],n):=λd=>by
  let m:(fo a b&&fo b a)=Y1:=by
   cases h:(fo a b&&fo b a)
   .rfl
   .simp[fo]at h;lia
  let go:∀{q r:Yc} (f g:X6) {cq i9:O T},(∀x2,Av [d,J (cn q r,.az),x2,J (.aj [.int 0,.int 1],.az),C] n=J (.aj<|.int f::cq,.az,n))->([0,1].filter λy=>!(y==f))=[g]->(∀x2 x4,Av [d,J (cn q r,.az),x2,J (.aj [.int g],.az),x4] n=J (.aj<|.int g::i9,.az,n))->∃y z x4,DN [d,J (cn q r,.az),J (.aj [],.az),J (.aj [.int 0,.int 1],.az),C] n=J (.bS,[d,J (cn q r,.az),J (.aj [.int y,.int z],.az),J (.aj [],.az),x4],n):=λ{q r} f g {cq i9} af ao a6=>by let s1:=Ub (x0:=d) (x1:=J (cn q r,.az)) (x4:=C) (row:=[]) (left:=[0,1]) (k:=99999) Z0 Z0 Z0 af;let s2:=Ub (x0:=d) (x1:=J (cn q r,.az)) (x4:=J (.aj<|.int f::cq,.az)) (row:=[.int f]) (left:=[g]) (k:=99998) (ed (show 1<4 by decide)) Z6 (ed (show 1<4 by decide)) λx=>a6 x _;rw[ao]at s1;rw[show([g].filter λy=>!(y==g))=[] by simp]at s2;show{f,g,_,(s1.trans s2).trans (by rw[lO];rfl)}
  generalize fo a b=q at*;generalize fo b a=r at*;cases q<;>cases r
  .show go 0 1 (λ_=>D) Z0 λ_ _=>D
  .show go 1 0 (λ_=>D) Z0 λ_ _=>D
  .show go 0 1 (λ_=>D) Z0 λ_ _=>D
  .cases m
 let(y,z,x4,bM):=bM<|some (.aE Z9,.ah);show{.int y,[.int z],{XQ (show 2<bl by decide),D},?_};generalize cn (fo a b) (fo b a)=tt at*;generalize T.aE Z9=dd at*;delta uZ P4;generalize zx (ag (aB dT ZA) aw)=LR at*;generalize DN=LL at*;simp![aA,av,et,ja,a7,bM]
theorem ia:∀{ds:O Z1},(∀d∈ds,∀x∈d,0<=x/\x<=30)->∀z∈gu ds,0<=z/\z<=30*ds.H
 |[],_,z,h=>by rw[amq,jP]at h;simp[h]
 |d::ds,k,z,h=>by rw[JC]at h;let(f,hf,h):=x9.mp h;let(y,aP,rfl):=el.mp h;let:=ia (λe he=>k e<|dZ _ he) y aP;let:=k d (dF ..) f hf;rw[d4];lia
def Tf{M F:Y}(Lk:ht M F ds)(fJ:M<=4)(dV:F<=8)(n:Y):∃d tw,iH tw/\fx tw=(gu ds).H/\iE [(.aE<|ds.map ar,Y0)] n=J (.a3 d,Y0,n)/\zq n [.a3 d]=J (.aj<|ct tw,.az):=by
 let(d,B,aA):=D4 Lk fJ dV n;let cM:=JA Lk fJ dV;let fp:=QH Lk;let c8:=xB ds;let(tw,kx,_,fA,av):=akz B (λx ax=>by let:=ia (λd hd=>(Lk.aK d hd).ia) x ax;let:=Lk.most;lia) (bF (dK c8) cM) λz=>by rw[z]at c8;simp at c8;show eE fp c8
 show{_,tw,kx,fA,aA,?_};rw[<-av];erw[zq,Qn,vI]
def Sx{M F:Y}(Lk:ht M F ds)(fJ:M<=4)(dV:F<=8)(n:Y):∃tw,iH tw/\fx tw=(gu ds).H/\nC [(.aE<|ds.map ar,Y0)] n=J (.aj<|ct tw,Y0,n):=by let(d,tw,kx,fA,aA,y1):=Tf Lk fJ dV n;show{tw,kx,fA,?_};let bN:=pY Lk fJ dV n;generalize ct tw=cm at*;generalize T.aE (ds.map ar)=tt at*;delta nC PM;simp![bN,aA,y1]
theorem RS:∀{tw:O Z4},(∀q∈tw,1<=q.2)->(tw.H:X6)<=fx tw
 |[],_=>ym 0
 |q::tw,h=>by let af:=h q<|dF ..;let:=RS (tw:=tw) λx ax=>h x<|dZ _ ax;let e:fx (q::tw)=q.2+fx tw:=rfl;rw[e,d4];lia
structure In (a b c:O X6):Prop where
 a:jK 2 a
 b:jK 2 b
 c:jK 2 c
section
variable {a b c:O X6}(I:In a b c)
include I
def In.two:ht 2 2 [a,b]:={by simp,by simp,by simp[I.a,I.b]}
def In.three:ht 3 2 [c,a,b]:={by simp,by simp,by simp[I.a,I.b,I.c]}
def In.one:ht 1 2 [c]:={by simp,by simp,by simp[I.c]}
def In.swap:ht 2 2 [b,a]:={by simp,by simp,by simp[I.a,I.b]}
end
def mv{M:Y}(Lk:ht M 2 ds)(fJ:M<=3)(h:iH tw)(Li:fx tw=(gu ds).H):fx tw<=8/\tw.H<64:=by let:=RS λq a8=>(h.ia q a8).2.2.1;let:mK ds<=8:=bF (D1 (F:=2) λd hd=>(Lk.aK d hd).most)<|yf (n:=2) Z0<|bF Lk.most fJ;rw[xB]at Li;lia
def s2(h:jK 2 l):r8 l.H:=by let:=h.one;let:=h.most;delta r8;lia
def others(I:In a b c)(n:Y):∃t,Tl t/\Ed [(ar a,Y0),(ar b,Y0),(.int 0,Y0)] n=J (t,Y0,n):=by
 let(d,tw,kx,fA,aA,y1):=Tf I.two Z0 Z0 n;let aW:=Az I.a Z0 n;let bW:=Az I.b Z0 n;let hH:=Jv 0 0 30 n Z0 Z0;let(R,r,pp):=pairs kx (mv I.two Z0 kx fA).2 (s2 I.a) (s2 I.b) n;let cw:dT n [ar a]=J (.int (a.H:X6),.ah):=by delta ar;rw[j5,cj]
 let eK:dT n [ar b]=J (.int (b.H:X6),.ah):=by delta ar;rw[j5,cj]
 let cb:2<=bl:=by decide
 obtain⟨de,b8,ha⟩:∃de:O (O (O X6)),de.H<=900000/\∀cY m,J0 [J (ar a,.ah),J (ar b,.ah),J (.int 0,.ah),cY,J (.aj (R.map bu),m)] n=J (.aj (de.map bu),.az,n):=⟨_,bF (vv ..) r,λcY m=>by
  show q9 R bu (λr=>!decide (r=[a,b])&&!decide (r=[b,a])) bu (by cases m<;>rfl) (bF r Z0) λr hr=>?_;let aR:gn n [bu r,.aE Z9]=_:=Rt r [a,b] n;let a4:gn n [bu r,.aE [ar b,ar a]]=_:=Rt r [b,a] n;generalize R.map bu=fu at*;generalize bu r=hB at*;generalize ar a=ta at*;generalize ar b=cn at*;generalize decide (r=[a,b])=cT at*;generalize decide (r=[b,a])=da at*;constructor
  .cases cT<;>cases da<;>simp![ck,eD,cb,aR,a4]
  .intro _
   simp![ck]⟩
 show{_,Tl.rws b8,?_};let fr:∀dd:bw,∀cY,ek 4 dd [J (ar a,.ah),J (ar b,.ah),J (.int 0,.ah),cY,J (.aj<|R.map bu,.az)] n=dd [J (ar a,.ah),J (ar b,.ah),J (.int 0,.ah),cY,J (.aj<|R.map bu,.az)] n:=λ_ _=>D;change vb [_,(.aE [.int a.H,.int b.H],Y0),_] n=_ at pp;change iE [(.aE Z9,Y0)] n=_ at aA;generalize de.map bu=out at*;generalize R.map bu=fu at*;generalize ct tw=cm at*;generalize ar a=ta at*;generalize ar b=cn at*;delta Ed Ry;generalize J0=CC at*;generalize ek 4=FF at*;simp![aW,bW,hH,eD,cb,aA,y1,cw,eK,pp,fr,ha]
def chg{i:Y}{n n':Y}(h:d S n=J (t,.az,n'))(hi:S[i]?=J (J (u,.az)))(bQ:g u t=J t'):h2 i g d S n=J (.bS,S.set i<|some (t',.az),n'):=by delta h2 cg;rw[h];simp[d3,hi,bQ]
def lists(I:In a b c)(kx:iH tw)(Li:fx tw=(gu [a,b]).H){n:Y}(bq:n<60)(aA:nC [(.aE Z9,Y0)] n=J (.aj<|ct tw,Y0,n)) :
  ∃xs:O T,xs.H<=100/\(∀x∈xs,Tl x)/\kK [(.aE Z9,Y0),(.aj<|ct tw,Y1),(ar c,Y0)] n=J (.aj xs,Y0,n):=by
 let dB:bl=1000000:=rfl;let jl:=(mv I.two Z0 kx Li).2
 let k1:Tl<|.aj<|ct tw:=⟨by
  show decide ((ct tw).H<bl)=Y0;delta ct;rw[cj]
  show XQ Z5,J4 λq _=>D⟩
 let(eB,k2,av):=EZ I.two (n:=n);let(t3,k3,a7):=aeC I.two bq;let(R,r,bM):=pairs kx jl (s2 I.a) (s2 I.b) n;let qC:=Tl.rws r;let(mj,k5,d9):=others I n;let(y,aQ,XS,fV):=order I.two n;let(yX,Mq,kq,fC):=Sx I.three Z0 Z0 n;let(wM,XT,mi):=aeB Mq (mv I.three Z0 Mq kq).2 (s2 I.c) (s2 I.a) (s2 I.b) n;change vb [_,(.aE [.int a.H,.int b.H],Y0),_] n=_ at bM;generalize T.aj (R.map bu)=t4 at*;show{[.aj<|ct tw,eB,t3,t4,mj,.aj<|y::aQ,wM],by simp,by simp[*],?_};let cb:2<=bl:=by decide
 let bT:1<=bl:=by decide
 let qB:5<=bl:=by decide
 let ew:cB n [.aE Z9,.int 0]=J (ar a,.ah):=rfl;let g1:cB n [.aE Z9,.int 1]=J (ar b,.ah):=rfl;let cw:dT n [ar a]=J (.int (a.H:X6),.ah):=by delta ar;rw[j5,cj]
 let eK:dT n [ar b]=J (.int (b.H:X6),.ah):=by delta ar;rw[j5,cj]
 let lc:dT n [ar c]=J (.int (c.H:X6),.ah):=by delta ar;rw[j5,cj]
 let s0:cB n [.aE [.int (a.H:X6),.int (b.H:X6)],.int 0]=J (.int (a.H:X6),.ah):=rfl;let s1:cB n [.aE [.int (a.H:X6),.int (b.H:X6)],.int 1]=J (.int (b.H:X6),.ah):=rfl;let wt:=I.a.most;let qs:=I.b.most;let b0:hX n [.int (a.H:X6),.int 4]=J (.a5 Y0,.ah):=by show J (T.a5<|decide ((a.H:X6)<4),bk.ah)=_;rw[XQ Z5]
 let jU:=AB (a:=(a.H:X6)) (b:=(b.H:X6)) (.inl<|by delta X3;show XQ Z5) n;let dP:hX n [.int<|(a.H:X6)*(b.H:X6),.int 17]=J (.a5 Y0,.ah):=by show J (T.a5<|decide ((a.H:X6)*(b.H:X6)<17),bk.ah)=_;let:=tv wt qs;rw[XQ<|by rw[<-By];lia]
 let RT:dN n [.aE [ar c],.aE Z9]=J (.aE [ar c,ar a,ar b],.ah):=rfl;let RU:dN n [.aE [.int (c.H:X6)],.aE [.int (a.H:X6),.int (b.H:X6)]]=J (.aE [.int (c.H:X6),.int (a.H:X6),.int (b.H:X6)],.ah):=rfl;let fC:nC [(.aE [ar c,ar a,ar b],Y0)] n=J (.aj<|ct yX,Y0,n):=fC;let mi:xI [(.aj<|ct yX,Y0),(.aE [.int (c.H:X6),.int (a.H:X6),.int (b.H:X6)],Y0)] n=J (wM,Y0,n):=mi;let or:∀x1 x2 cY x4,A1 (bB 1 cp.uZ ZB) (et aw) [J (.aE Z9,.ah),x1,x2,cY,x4] n=J (.aj<|y::aQ,.az,n):=λx1 x2 cY x4=>by
  let q:bB 1 cp.uZ ZB [J (.aE Z9,.ah),x1,x2,cY,x4] n=J (.aj<|y::aQ,.az,n):=by generalize ar a=ta at*;generalize ar b=cn at*;simp![fV]
  delta A1;rw[q];rfl
 let RV:nH (.aj [.aj<|ct tw,eB,t3,t4,mj]) (.aj<|y::aQ)=J (.aj [.aj<|ct tw,eB,t3,t4,mj,.aj<|y::aQ]):=by show(if 5<bl then J (T.aj [.aj<|ct tw,eB,t3,t4,mj,.aj<|y::aQ]) else C)=_;show Y2 Z0
 let RW:nH (.aj [.aj<|ct tw,eB,t3,t4,mj,.aj<|y::aQ]) wM=J (.aj [.aj<|ct tw,eB,t3,t4,mj,.aj<|y::aQ,wM]):=by show(if 6<bl then J (T.aj [.aj<|ct tw,eB,t3,t4,mj,.aj<|y::aQ,wM]) else C)=_;show Y2 Z0
 clear k1 k2 k3 qC k5 XS XT fV;generalize ar a=ta at*;generalize ar b=cn at*;generalize ar c=hR at*;generalize T.aj (y::aQ)=t6 at*;generalize ct tw=cm at*;generalize ct yX=pm at*;generalize (a.H:X6)=cN at*;generalize (b.H:X6)=eN at*;generalize (c.H:X6)=xc at*;let aeD:=λx1 x2 cY=>chg (i:=4) (g:=nH) (or x1 x2 cY<|some (.aj [.aj cm,eB,t3,t4,mj],.az)) D RV;let wd:bB 2 xI (aG (bB 1 cp.nC<|aG (aB dN<|ag (eD<|ag (cg<|ai 2) aw) ZA) bz)<|aG (aB dN<|ag (eD<|ag (cg<|aB dT<|ag (ai 2) aw) aw)<|ag (ai 3) aw) bz) [J (.aE [ta,cn],.ah),J (.aj cm,.cV),J (hR,.ah),J (.aE [.int cN,.int eN],.ah),J (.aj [.aj cm,eB,t3,t4,mj,t6],.az)] n=J (wM,.az,n):=by simp![eD,bT,RT,fC,lc,RU,mi]
 let aeE:=chg (i:=4) (g:=nH) wd D RW;delta kK RG;generalize A1 (bB 1 cp.uZ ZB) (et aw)=OO at*;generalize bB 2 xI (aG (bB 1 cp.nC<|aG (aB dN<|ag (eD<|ag (cg<|ai 2) aw) ZA) bz)<|aG (aB dN<|ag (eD<|ag (cg<|aB dT<|ag (ai 2) aw) aw)<|ag (ai 3) aw) bz)=TH at*;simp![aeD,aeE,ew,g1,cw,eK,lc,s0,s1,b0,jU,dP,RT,RU,aA,av,a7,bM,d9,fC,mi,or,eD,et,bT,cb,qB,RV,RW]
def AP{a b:Ya}(h:a.cps.B=b.cps.B):a=b:=by
 ext a;ext b;erw[Str.mk.injEq];show Array.toList_inj.mp h
def jm(a b:Ya):(a++b).cps.B=a.cps.B++b.cps.B:=by rw[Str.cps_append];simp
def RX(a b c:Ya):a++b++c=a++(b++c):=AP (by simp[jm])
def J7:Str.empty.cps.B=[]:=rfl
def akI(a:Ya):a++Str.empty=a:=AP (by rw[jm,J7,rC])
def kL(sep:Ya):O Ya->Ya
 |[]=>Str.empty
 |y::r=>sep++y++kL sep r
def vd(sep x:Ya):∀r:O Ya,Str.join sep (x::r)=x++kL sep r:=by
 intro r
 induction r generalizing x with
 |nil=>rw[kL,akI];rfl
 |cons y r aT =>
  show x++sep++Str.join sep (y::r)=_;rw[aT,kL,RX,RX]
def amN(c:Y):∀(a b:O Ya) (x y:Ya),(∀w∈x::a,c∉w.cps.B)->(∀w∈y::b,c∉w.cps.B)->Str.join ⟨#[c]⟩ (x::a)=Str.join ⟨#[c]⟩ (y::b)->x::a=y::b:=by
 let key:∀(p q r s:O Y),c∉p->c∉q->(r=[]\/∃bY,r=c::bY)->(s=[]\/∃s',s=c::s')->p++r=q++s->p=q/\r=s:=by
  intro p
  induction p with
  |nil =>
   intro q r s _ a8 hr aM e;cases q with
   |nil=>show{D,by simpa using e}
   |cons z q =>
    rcases hr with rfl|⟨bY,rfl⟩
    .simp at e
    .erw[qc,rA,List.cons.injEq]at e;show Yi (by rw[e.1];show dF ..) a8
  |cons z p aT =>
   intro q r s aF a8 hr aM e;cases q with
   |nil =>
    rcases aM with rfl|⟨s',rfl⟩
    .simp at e
    .erw[qc,rA,List.cons.injEq]at e;show Yi (by rw[e.1];show dF ..) aF
   |cons jV q =>
    erw[rA,List.cons.injEq]at e;let(aA,av):=aT q r s (λh=>aF<|dZ _ h) (λh=>a8<|dZ _ h) hr aM e.2;show{by rw[e.1,aA],av}
 let fA:∀l:O Ya,(kL ⟨#[c]⟩ l).cps.B=[]\/∃bY,(kL ⟨#[c]⟩ l).cps.B=c::bY:=λl=>by
  cases l with
  |nil=>show .inl D
  |cons w l=>show .inr {w.cps.B++(kL ⟨#[c]⟩ l).cps.B,by rw[kL,jm,jm];simp}
 intro a
 induction a with
 |nil =>
  intro b x y ax aP e;rw[vd,vd]at e;let e:=Yx (λz:Ya=>z.cps.B) e;erw[jm]at e;let(aA,av):=key _ _ _ _ (ax x<|dF ..) (aP y<|dF ..) (fA _) (fA _) e;cases b with
  |nil=>rw[AP aA]
  |cons w b=>rw[kL,kL,jm,jm]at av;simp[J7]at av
 |cons w a aT =>
  intro b x y ax aP e;rw[vd,vd]at e;let e:=Yx (λz:Ya=>z.cps.B) e;erw[jm]at e;let(aA,av):=key _ _ _ _ (ax x<|dF ..) (aP y<|dF ..) (fA _) (fA _) e;cases b with
  |nil=>rw[kL,kL,jm,jm]at av;simp[J7]at av
  |cons v b =>
   let a7:Str.join ⟨#[c]⟩ (w::a)=Str.join ⟨#[c]⟩ (v::b):=by rw[vd,vd];apply AP;rw[kL,kL,jm,jm,jm,jm]at av;erw[hj]at av;let:=List.append_cancel_left av;rw[jm,jm];show this
   rw[AP aA,aT b w v (λz hz=>ax z<|dZ _ hz) (λz hz=>aP z<|dZ _ hz) a7]
def amO(x:Ya)(y:Ya):∃p r,Txt.split x y=p::r:=by
 delta Txt.split;split
 .show{_,_,D}
 .split
  .show{_,_,D}
  .rw[StrLaws.partsBetween_eq];show StrLaws.partsFrom_ne ..
def RY{c:Y}(bq:ws≠[])(h:∀w∈ws,c∉w.cps.B):Txt.split (Str.join ⟨#[c]⟩ ws) ⟨#[c]⟩=ws:=by
 let(p,r,e):=amO (Str.join ⟨#[c]⟩ ws) ⟨#[c]⟩;let af:=StrLaws.join_split (Str.join ⟨#[c]⟩ ws) ⟨#[c]⟩;let ao:=StrLaws.split_free (Str.join ⟨#[c]⟩ ws) c;rw[e]at af ao |-;cases ws with
 |nil=>show Yi D bq
 |cons w ws=>show amN c r ws p w ao h af
def comma:(",": Ya)=⟨#[44]⟩:=by decide+kernel
def blank:(" ": Ya)=⟨#[32]⟩:=by decide+kernel
def En:∀k:Y,k<31->(gG (k:X6)).H<=2/\44∉(gG (k:X6)).cps.B/\32∉(gG (k:X6)).cps.B/\AV (gG (k:X6))=J k:=by decide+kernel
def J8{x:X6}(h:0<=x/\x<=30):∃k:Y,k<31/\x=k:={x.M,by lia,by lia}
def akJ{x:X6}(h:0<=x/\x<=30):(gG x).H<=2:=by let(k,aY,rfl):=J8 h;show(En k aY).1
def jN(l:O X6):Ya:=Str.join ","<|l.map gG
def jM(ds:O Z1):Ya:=Str.join " "<|ds.map jN
def xK:(",": Ya).H=1/\(" ": Ya).H=1:=by decide+kernel
theorem J9{B:Y}:∀(l:O Y),(∀x∈l,x<=B)->l.sum<=l.H*B
 |[],_=>by simp
 |x::l,h=>by let af:=h x<|dF ..;let ao:=J9 l λy aP=>h y<|dZ _ aP;erw[vA,d4,oX];lia
def RZ{l:O X6}(h:∀x∈l,0<=x/\x<=30):((l.map gG).map (·.H)).sum<=l.H*2:=by
 let:=J9 (B:=2) ((l.map gG).map (·.H)) λy aP=>by rw[be]at aP;let(x,ax,rfl):=el.mp aP;show akJ<|h x ax
 simpa using this
def amP(h:∀x∈l,0<=x/\x<=30)(gP:l.H<=8):(jN l).H<=24:=by let af:=StrLaws.join_length_le ","<|l.map gG;let ao:=RZ h;rw[cj,xK.1]at af;delta jN;lia
def R0(h:∀l∈ds,(∀x∈l,0<=x/\x<=30)/\l.H<=8)(cS:ds.H<=4):(jM ds).H<=100/\((ds.map jN).map (·.H)).sum<=96:=by
 let af:=StrLaws.join_length_le " "<|ds.map jN;let ao:=J9 (B:=24) ((ds.map jN).map (·.H)) λy aP=>by rw[be]at aP;let(x,ax,rfl):=el.mp aP;show amP (h x ax).1 (h x ax).2
 rw[cj,xK.2]at af;erw[cj]at ao;delta jM;lia
theorem R1:∀ws:O Ya,strsOf (ws.map T.str)=J ws
 |[]=>rfl
 |w::ws=>by rw[cD,strsOf,R1 ws];rfl
def Sy{x:X6}(h:0<=x/\x<=30)(n:Y):zy n [.int x]=J (.str<|gG x,.ah):=Y2 {h.1,(iv h.2 Z0)}
def R2(sep:Ya)(ws:O Ya)(n:Y)(h:(ws.map (·.H)).sum+ws.H*sep.H<=bl):zA n [.str sep,.aj<|ws.map T.str]=J (.str<|Str.join sep ws,.ah):=by show(strsOf<|ws.map T.str).bind _=_;rw[R1,gb];show Y2 h
def aeF(h:∀x∈l,0<=x/\x<=30)(gP:l.H<=8)(n:Y):AM [(ar l,Y0)] n=J (.str<|jN l,Y1,n):=by
 let dB:bl=1000000:=rfl;let aA:Rz [J (ar l,.ah)] n=J (.aj<|(l.map gG).map T.str,.az,n):=by
  let:=jI (it:=eZ<|ai 0) (l:=[C,J 0]) (i:=0) (e:=aB zy ZA) (S:=[J (ar l,.ah)]) (n:=n) l T.int (λx=>T.str<|gG x) D Z5 λy aP=>by simp![ck,Sy<|h y aP]
  rw[be];show this
 let av:=R2 "," (l.map gG) n (by let:=RZ h;rw[cj,xK.1];lia);delta AM RA;let a7:∀d:bw,ek 0 d [J (ar l,.ah)] n=d [J (ar l,.ah)] n:=λ_=>D;delta jN;generalize (l.map gG).map T.str=ws at*;generalize Str.join "," (l.map gG)=j at*;generalize ar l=fA at*;generalize ek 0=FF at*;simp![a7,aA,av]
def shown{M F:Y}(h:ht M F ds)(fJ:M<=4)(dV:F<=8)(n:Y):vc [(.aE<|ds.map ar,Y0)] n=J (.str<|jM ds,Y1,n):=by
 let dB:bl=1000000:=rfl;let hm:=h.most;let hd:∀l∈ds,(∀x∈l,0<=x/\x<=30)/\l.H<=8:=λl aC=>{(h.aK l aC).ia,bF (h.aK l aC).most dV}
 let aA:RB [J (.aE<|ds.map ar,.ah)] n=J (.aj<|(ds.map jN).map T.str,.az,n):=by
  let:=jI (it:=eZ<|ai 0) (l:=[C,J 0]) (i:=0) (e:=bB 1 AM ZB) (S:=[J (.aE<|ds.map ar,.ah)]) (n:=n) ds ar (λx=>T.str<|jN x) D Z5 λy aP=>by simp![ck,aeF (hd y aP).1 (hd y aP).2 n]
  rw[be];show this
 let aM:=R0 hd<|bF hm fJ;let av:=R2 " " (ds.map jN) n (by rw[cj,xK.2];lia);let bM:=pY h fJ dV n;delta vc RC;let a7:∀d:bw,ek 0 d [J (.aE<|ds.map ar,.ah)] n=d [J (.aE<|ds.map ar,.ah)] n:=λ_=>D;delta jM;generalize (ds.map jN).map T.str=ws at*;generalize Str.join " " (ds.map jN)=j at*;generalize T.aE (ds.map ar)=fA at*;generalize ek 0=FF at*;simp![a7,aA,av,bM]
def oO(w:Ya):T:=match AV w with
 |some k=>.int (k:Y)
 |none=>.bR
def oE(x:Ya):T:=.aE<|(Txt.split x ",").map oO
def Ka(x:Ya):T:=.aE<|(Txt.split x " ").map oE
def split_le(x y:Ya):(Txt.split x y).H<=x.H+2:=by
 let h:=StrLaws.occ_length_le x y 0 x.H<|x.H+1;delta Txt.split;split
 .simp
 .split
  .simp
  .rw[StrLaws.partsBetween_eq];let:∀(rp:O Y) (a:Y),(StrLaws.partsFrom x y.H a rp).H=rp.H+1:=by
    intro rp
    induction rp with
    |nil=>intro a;rfl
    |cons c cs aT=>intro a;show(StrLaws.partsFrom x y.H _ cs).H+1=_;rw[aT];rfl
   rw[this];lia
def akK(h:w∈Txt.split x y):w.H<=x.H:=by let:=join_mem_le y _ _ h;rwa [StrLaws.join_split]at this
def p1:O<|gE×T:=(Yr 31).map λ(k:Y)=>(.inr<|gG (k:X6),.int (k:X6))
def aeG(n:Y):qQ n [.aj ((Yr 31).map λ(k:Y)=>T.aE [.str<|gG (k:X6),.int (k:X6)])]=J (.a3 p1,.az):=by kernel_rfl
def amQ(w:Ya):(gZ p1<|.inr w).getD .bR=oO w:=by
 let h:gZ p1 (.inr w)=(AV w).map λ(k:Y)=>T.int (k:X6):=by
  delta gZ p1 AV;rw[List.find?_map,qbt];let:((λc4:gE×T=>decide (c4.1=.inr w))∘λ(k:Y)=>((Sum.inr<|gG (k:X6),T.int (k:X6)):gE×T))=λ(k:Y)=>gG (k:X6)==w:=by
   funext k;show decide ((Sum.inr (gG (k:X6)):gE)=Sum.inr w)=(gG (k:X6)==w)
   rw[FD];simp
  rw[this];rfl
 rw[h];delta oO;cases AV w<;>rfl
def Uc(ax:x.H<=1000)(aP:y.H=1)(n:Y):CE n [.str x,.str y]=J (.aj<|(Txt.split x y).map T.str,.az) :=
 Y2 {aP,by let dB:bl=1000000:=rfl;lia}
def amR(ax:x.H<=1000)(n:Y):Ee [(.str x,Y0)] n=J (oE x,Y1,n):=by
 let dB:bl=1000000:=rfl;let aA:RD [J (.str x,.ah),C] n=J (.aj ((Yr 31).map λ(k:Y)=>T.aE [.str<|gG (k:X6),.int (k:X6)]),.az,n):=by
  show jI (Yr 31) (λ(k:Y)=>T.int (k:X6)) _ ?_ (by rw[vw,dB];decide) λy aP=>?_
  .let:=DB (a:=ag (aB dN<|ag (aS<|.int 30)<|ag (aS<|.int 1) aw) aw) (S:=[J (.str x,.ah),C]) (n:=n) (n':=n) (j:=31) D Z5 Z5;rw[this,show(31:X6)=((31:Y):X6) from D,Pn]
  .let aP:=qd.mp aP;let g:=Sy (x:=(y:X6)) {by lia,by lia} n;generalize gG (y:X6)=wy at*;generalize ((y:Y):X6)=k at*;simp![ck,g,bl]
 let av:=aeG n;let aM:=Uc ax xK.1 n;let aC:=split_le x ",";let a7:RE [J (.str x,.ah),J (.a3 p1,.az)] n=J (.aj<|(Txt.split x ",").map oO,.az,n):=by
  show jI (Txt.split x ",") T.str oO ?_ Z5 λy aP=>?_
  .generalize T.a3 p1=fk at*;generalize (Txt.split x ",").map T.str=sp at*;generalize (",": Ya)=LZ at*;simp![eZ,aM,Un]
  .let g:Hu n [.a3 p1,.str y]=J (oO y,.ah):=by rw[<-amQ y];rfl
   let g2:look .az (.a3 p1)=.iG:=rfl;generalize oO y=gy at*;generalize T.a3 p1=fk at*;simp![ck,g,g2]
 let bM:kD n [.aj<|(Txt.split x ",").map oO]=J (oE x,.ah):=rfl;delta Ee RF;generalize (Yr 31).map (λ(k:Y)=>T.aE [.str<|gG (k:X6),.int (k:X6)])=fL at*;generalize T.a3 p1=fk at*;generalize (Txt.split x ",").map oO=eQ at*;generalize oE x=r at*;simp![aA,av,a7,bM]
def back(bq:ds≠[])(h:∀l∈ds,l≠[]/\∀x∈l,0<=x/\x<=30):Ka (jM ds)=.aE (ds.map ar):=by
 let aeH:∀(c:Y) (sep:Ya),(c∉sep.cps.B)->∀ws:O Ya,(∀w∈ws,c∉w.cps.B)->c∉(Str.join sep ws).cps.B:=by
  intro c sep aM ws;cases ws with
  |nil=>intro _;show Fg
  |cons w ws =>
   intro hw;rw[vd,jm,iY];rintro(z|z)
   .show hw w (dF ..) z
   .let:∀l:O Ya,(∀w∈l,c∉w.cps.B)->c∉(kL sep l).cps.B:=by
     intro l
     induction l with
     |nil=>intro _;show Fg
     |cons v l aT =>
      intro bX;rw[kL,jm,jm,iY,iY];rintro((z|z)|z)
      .show aM z
      .show bX v (dF ..) z
      .show aT (λu b1=>bX u<|dZ _ b1) z
    show this ws (λu b1=>hw u<|dZ _ b1) z
 let nw:∀l∈ds,∀w∈l.map gG,44∉w.cps.B/\32∉w.cps.B:=λl aC w hw=>by let(x,ax,rfl):=el.mp hw;let(k,aY,rfl):=J8<|(h l aC).2 x ax;show{(En k aY).2.1,(En k aY).2.2.1}
 let s1:Txt.split (jM ds) " " = ds.map jN:=by delta jM;rw[blank];show RY (by simpa using bq) λw hw=>?_;let(l,aC,rfl):=el.mp hw;delta jN;show aeH 32 _ (by rw[comma];decide) _ λw hw=>(nw l aC w hw).2
 let s2:∀l∈ds,oE (jN l)=ar l:=λl aC=>by
  let e:Txt.split (jN l) "," = l.map gG:=by delta jN;rw[comma];show RY (by simpa using (h l aC).1) λw hw=>(nw l aC w hw).1
  delta oE ar;rw[e,be];congr 1;show lq λx ax=>?_;let(k,aY,rfl):=J8<|(h l aC).2 x ax;show oO (gG k)=_;delta oO;rw[(En k aY).2.2.2]
 delta Ka;rw[s1,be];congr 1;show lq λl aC=>s2 l aC
def aiL(ax:x.H<=1000)(n:Y):Ef [J (.str x,.ah),C] n=J (.aj<|(Txt.split x " ").map oE,.az,n):=by
 let dB:bl=1000000:=rfl;let aM:=Uc ax xK.2 n;let aC:=split_le x " ";show jI (Txt.split x " ") T.str oE ?_ Z5 λy aP=>?_
 .generalize (Txt.split x " ").map T.str=sp at*;generalize (" ": Ya)=LZ at*;simp![eZ,aM,Un]
 .let g:=amR (x:=y) (bF (akK aP) ax) n;generalize oE y=gy at*;simp![ck,g]
def missing{F:Y}(Lk:jK F aK)(dV:F<=8)(h:iH tw)(jl:tw.H<64)(aM:fx tw<=90000)(M:mL aK tw r)(n:Y):AL [(.aj<|ct tw,Y1),(ar aK,Y0)] n=J (xD r,Y1,n):=by
 let dB:bl=1000000:=rfl;let aC:=h.len;let aA:sS [(.aj<|ct tw,Y1)] n=J (.bR,Y1,n):=J3 h jl Y1 n;let av:=Az Lk dV n;let a7:=KL h.e1.bN Z5 n;let aJ:=QU h.e1;let(fs,gC):=adu Lk dV (J (.aj<|ct tw,.cV)) n (fx tw).M 100000 tw [] r C C C C Z5 Z5 h.e1 aC (λq a8=>(h.ia q a8).2.2.2) (by simp;show iv aM Z0) M;let le:ac3=xH:=rfl;delta AL Rx;let ja:0<=bl:=by decide
 cases r with
 |none =>
  let(S,e):=gC D;let jC:xH [J (.aj<|ct tw,.cV),J (ar aK,.ah),J (.a3<|au tw,.az),J (.aj [],.az),C,C,C,C] n=J (.aZ .bR Y1,S,n):=e;generalize xH=LL at*;generalize ct tw=cm at*;generalize au tw=n7 at*;generalize ar aK=km at*;simp![aA,av,a7,et,ja,jC,xD]
 |some l =>
  let(S,e,g):=fs l D;rw[qc]at g;let jC:xH [J (.aj<|ct tw,.cV),J (ar aK,.ah),J (.a3<|au tw,.az),J (.aj [],.az),C,C,C,C] n=J (.bS,S,n):=e;let v:dq (aB kD<|ag (ai 3) aw) S n=J (.aZ (ar l) Y1,S,n):=by rw[SW,So,TR,SX,g];rfl
  generalize dq (aB kD<|ag (ai 3) aw)=RR at*;generalize xH=LL at*;generalize ct tw=cm at*;generalize au tw=n7 at*;generalize ar aK=km at*;simp![aA,av,a7,et,ja,jC,v,xD]
def read{M F:Y}(Lk:ht M F ds)(fJ:M<=4)(dV:F<=8)(n:Y):Eg [(.str<|jM ds,Y0)] n=J (.aE<|ds.map ar,Y1,n):=by
 let aC:(jM ds).H<=1000:=bF (R0 (λl hd=>{(Lk.aK l hd).ia,bF (Lk.aK l hd).most dV})<|bF Lk.most fJ).1 Z0;let aA:Ef [J (.str<|jM ds,.ah),C] n=_:=aiL aC n;let e1:Ka (jM ds)=.aE (ds.map ar):=back (λz=>by let:=Lk.one;rw[z]at this;show Yi this Z0) λl hd=>{λz=>by let:=(Lk.aK l hd).one;rw[z]at this;show Yi this Z0,(Lk.aK l hd).ia}
 let a7:kD n [.aj<|(Txt.split (jM ds) " ").map oE]=J (.aE<|ds.map ar,.ah):=by rw[<-e1];rfl
 let av:=Ql Lk fJ dV n;let bM:iq .str n [.str<|jM ds]=J (.a5 Y0,.ah):=rfl;generalize (Txt.split (jM ds) " ").map oE=fL at*;generalize T.aE (ds.map ar)=tt at*;generalize jM ds=x at*;delta Eg T7;generalize Ef=CC at*;simp![aA,av,a7,bM]
def Kb(n:Y):X8 (T×Yc×Y)->Yc
 |some (t,b,m)=>!b&&m==n&&dJ 5 t
 |none=>Y1
def aiM{n:Y}(h:Kb n r=Y0):∃t,dJ 5 t=Y0/\r=J (t,Y1,n):=by
 match r,h with
 |some (t,b,m),h =>
  erw[Kb,gS,UI,Bw]at h;let((rfl,rfl),af):=h;show{(t),af,D}
def akL:∀n<60,∀p<5,∀w<5,w≠0->Kb n (Ji [(.int ((p:Y):X6),Y0),(.int ((w:Y):X6),Y0)] n)=Y0:=by decide+kernel
def aiN(Lk:ht 2 2 [a,b]){n:Y}(bq:n<60):∃t,dJ 5 t=Y0/\DO [(.aE Z9,Y0),(.int 7,Y0)] n=J (t,Y1,n):=by let fp:=QH Lk;let f4:mK [a,b]<=4:=D1 (F:=2) λd hd=>(Lk.aK d hd).most;let aC:=xB [a,b];let(d,B,aA):=D4 Lk Z0 Z0 n;let av:jJ [(.aE Z9,Y0)] n=_:=pY Lk Z0 Z0 n;let a7:=Jv 7 0 999 n Z0 Z0;let bM:=amo B Z5 7 n;let d9:Ao [(.aE Z9,Y0)] n=_:=amm (ds:=[a,b]) (λd hd=>bF (Lk.aK d hd).most Z0) Z6 n;let aN:=io (p:=λx=>decide (7<=x)) (l:=gu [a,b]);let(t,k,fV):=aiM<|akL n bq ((gu [a,b]).countP λx=>decide (7<=x)) Z5 (mK [a,b]) Z5 Z5;change iE [(.aE Z9,Y0)] n=_ at aA;generalize ((gu [a,b]).countP λx=>decide (7<=x))=p at*;generalize mK [a,b]=w at*;show{t,k,?_};generalize au d=hy at*;generalize T.aE Z9=km at*;delta DO P5;simp![av,aA,a7,bM,d9,fV]
def parted{M N:Y}(bx:ht M 2 as)(aq:ht N 2 bs)(fJ:M<=4)(dA:N<=4)(n:Y):∃o:X8 X6,xv [(.aE<|as.map ar,Y0),(.aE<|bs.map ar,Y0)] n=J (xS o,Y1,n):=by
 let dB:bl=1000000:=rfl;let(fy,wH,aA):=D4 bx fJ Z0 n;let(g9,B8,av):=D4 aq dA Z0 n;let aW:=pY bx fJ Z0 n;let bW:=pY aq dA Z0 n;let cT:=wH.xR;let da:=B8.xR;let dI:(gu as).H<=4096:=by rw[xB];show JA bx fJ Z0
 let iy:(gu bs).H<=4096:=by rw[xB];show JA aq dA Z0
 let l:∀d:O Z4,od n [.a3<|au d]=J (.aj<|(d.map (·.1)).map .int,.az):=λd=>by rw[show(d.map (·.1)).map T.int=(au d).map λc4=>ip c4.1 by rw[D3,be];rfl];rfl
 let fL:=l fy;let eQ:=l g9;obtain⟨xs,ax⟩:∃xs,xs=fy.map (·.1)++g9.map (·.1):={_,D}
 let aC:xs.H<=8192:=by rw[ax];simp;lia
 let pa:dN n [.aj<|(fy.map (·.1)).map .int,.aj<|(g9.map (·.1)).map .int]=J (.aj<|xs.map .int,.az):=by rw[ax]at aC |-;rw[Jf,Y2 (by simp at aC |-;lia),jS]
 let ha:∀x0 x1,PO [x0,x1,J (.a3<|au fy,.az),J (.a3<|au g9,.az),J (.aj<|xs.map .int,.az)] n=J (.aj<|(xs.filter λt=>!((((gu as).countP λy=>y==t:Y):X6)==(((gu bs).countP λy=>y==t:Y):X6))).map .int,.az,n):=λx0 x1=>by show q9 xs T.int _ T.int D Z5 λx _=>?_;let g1:=lJ.A2 wH x n;let g2:=lJ.A2 B8 x n;let q:∀i j:X6,gn n [.int i,.int j]=J (.a5<|!(i==j),.ah):=λ_ _=>D;show{by simp![ck,g1,g2,q],λ_=>by simp![ck]}
 let y0:∀aQ:O X6,∃o,KA n [.aj<|aQ.map .int]=J (xS o,.ah):=λaQ=>by show{q8 C aQ,?_};show(eU _).map _=_;rw[ov,vI];cases q8 C aQ<;>rfl
 let(o,y0):=y0 (xs.filter λt=>!((((gu as).countP λy=>y==t:Y):X6)==(((gu bs).countP λy=>y==t:Y):X6)));show{o,?_};generalize (xs.filter λt=>!((((gu as).countP λy=>y==t:Y):X6)==(((gu bs).countP λy=>y==t:Y):X6))).map T.int=cM at*;generalize xs.map T.int=LI at*;generalize (fy.map (·.1)).map T.int=k3 at*;generalize (g9.map (·.1)).map T.int=qC at*;generalize au fy=k1 at*;generalize au g9=k2 at*;generalize as.map ar=ta at*;generalize bs.map ar=cn at*;delta xv PQ;simp![aW,bW,aA,av,fL,eQ,pa,ek,ha,y0]
def alike{M N:Y}(bx:ht M 2 as)(aq:ht N 2 bs)(fJ:M<=4)(dA:N<=4)(n:Y):∃x,Aq [(.aE<|as.map ar,Y0),(.aE<|bs.map ar,Y0)] n=J (.a5 x,Y1,n):=by
 let(o,p):=parted bx aq fJ dA n;show{o.isNone,?_};let q:sY n [xS o]=J (.a5 o.isNone,.ah):=by cases o<;>rfl
 generalize xS o=out at*;generalize as.map ar=ta at*;generalize bs.map ar=cn at*;delta Aq PR;simp![p,q]
def rest(I:In a b c)(kx:iH tw)(Li:fx tw=(gu [a,b]).H){n:Y}(bq:n<60) :
  ∃v:O T,dJ 6 (.aj v)=Y0/\oB [(.aE Z9,Y0),(.aj<|ct tw,Y1),(ar c,Y0)] n=J (.aj v,Y0,n):=by
 let(XU,jl):=mv I.two Z0 kx Li;let Mr:fx tw<=90000:=iv XU Z0;let Lk:=I.two;let anh:ht 2 2 [a,b]:=Lk;let(d,_,aA):=RJ.afO Lk Z0 Z0 (i:=5) Z0 Z0 n;let(x2,av):=alike Lk I.swap Z0 Z0 n;let(cY,a7):=parted Lk I.one Z0 Z0 n;let(r,M):=akv I.a.one 90000 tw kx.e1 Mr;let bM:AL [(.aj<|ct tw,Y1),(ar a,Y0)] n=J (xD r,Y1,n):=missing I.a Z0 kx jl Mr M n;let d9:=Su I.a I.c Z0 Z0 n;let fV:=Td I.c I.b Z0 Z0 n;let(dR,fC):=akH I.two bq;let(XW,XX,mi):=aiN Lk bq;let nd:vc [(.aE<|[a,b].map ar,Y0)] n=J (.str<|jM [a,b],Y1,n):=shown Lk Z0 Z0 n;let sm:=read Lk Z0 Z0 n;let gN:dJ 5 (xS cY)=Y0:=by cases cY<;>rfl
 let wA:dJ 5 (xD r)=Y0:=by
  cases r with
  |none=>rfl
  |some l=>show Jd 4 l
 let aeI:dJ 5 (.aE<|[a,b].map ar)=Y0:=Eb 3 [a,b];let XY:dJ 5 (.str<|jM [a,b])=Y0:=rfl;let L2:dJ 5 (.aE [.int ((kH a c:Y):X6),.int ((u7 a c:Y):X6),.int ((kH c a:Y):X6)])=Y0:=rfl;let bb:∀x y z:X8 (T×bk),Ex (ai 0) [J (.aE Z9,.ah),x,y,z] n=J (.aE [ar b,ar a],.ah,n):=λ_ _ _=>D;let ew:cB n [.aE Z9,.int 0]=J (ar a,.ah):=rfl;let g1:cB n [.aE Z9,.int 1]=J (ar b,.ah):=rfl;let bT:1<=bl:=by decide
 let cb:2<=bl:=by decide
 let qB:5<=bl:=by decide
 let av:Aq [(.aE Z9,Y0),(.aE [ar b,ar a],Y0)] n=_:=av;let a7:xv [(.aE Z9,Y0),(.aE [ar c],Y0)] n=_:=a7;let aA:Ap [(.aE Z9,Y0),(.int 5,Y0)] n=_:=aA;let nd:vc [(.aE Z9,Y0)] n=_:=nd;generalize xS cY=wu at*;generalize xD r=v4 at*;generalize T.aE [.int ((kH a c:Y):X6),.int ((u7 a c:Y):X6),.int ((kH c a:Y):X6)]=v5 at*;generalize T.str (jM [a,b])=v9 at*;generalize T.aE ([a,b].map ar)=v10 at*;generalize ar a=ta at*;generalize ar b=cn at*;generalize ar c=hR at*;generalize ct tw=cm at*;let ad:∀x y z u w nc n4 jV e7 eM:T,dN n [.aj [x,y,z,u,w],.aj [nc,n4,jV,e7,eM]]=J (.aj [x,y,z,u,w,nc,n4,jV,e7,eM],.az):=λ_ _ _ _ _ _ _ _ _ _=>by show(if 5+5<=bl then J (T.aj _,bk.az) else C)=_;show Y2 Z0
 show{[.int<|cK d 5,T.a5 x2,wu,v4,v5,.a5<|fo c b,.a5 dR,XW,v9,v10],?_,?_}
 rotate_left
 .delta oB RH;generalize Ex (ai 0)=RR at*;simp![bb,ew,g1,bT,cb,qB,eD,et,aA,av,a7,bM,d9,fV,fC,mi,nd,sm,ad]
 .simp[dJ,gN,wA,L2,XX,XY,aeI]
def td{n n':Y}{r}(h:a S n=J (.bS,S',n'))(k:b S' n'=r):bC a b S n=r:=by rw[SV,h,TQ];show k
def wQ(h:dJ 6 (.aj l)=Y0)(n:Y):gn n [.aj l,.aj l]=J (.a5 Y1,.ah):=by rw[Tb,DC h];rfl
def Kc(h:dJ 6 (.aj l)=Y0)(n:Y):hY n [.aj l,.aj l]=J (.a5 Y0,.ah):=by rw[EX,DC h];rfl
def Kd(l:O X6):la (ar l)=Y0:=by
 show p7 (l.map T.int)=Y0
 induction l with
 |nil=>rfl
 |cons x l aT=>show aT
def akM(tw:O Z4):p7 (ct tw)=Y0:=by
 induction tw with
 |nil=>rfl
 |cons x l aT=>show aT
def aeJ{n:Y}(e:kK [(tt,Y0),(.aj cm,Y1),(hR,Y0)] n=J (.aj xs,Y0,n))(af:la tt=Y0)(ao:p7 cm=Y0)(a6:la hR=Y0)(cS:xs.all pW=Y0)(x0 x1 e5 ej dR jD jE:X8<|T×bk) :
  tc kK 2 4 3 [x0,x1,J (tt,.ah),J (hR,.ah),J (.aj cm,.az),e5,ej,dR,jD,jE] n=J xs:=by
 show KY (kK [(tt,Y0),(.aj cm,Y1),(hR,Y0)] n) _=_;rw[e];show(if n=n/\(la tt&&p7 cm&&la hR&&xs.all pW)=Y0 then J xs else C)=_;rw[af,ao,a6,cS];show Y2 {(D),D}
def run:∀ns:O X6,ns.H<=63->∃S' n',E0 (pG ns 10) 0=J (.aZ (.a5 Y0) Y1,S',n'):=by
 intro ns _;let dB:bl=1000000:=rfl;let(ds,aW,eQ,Lk,h0,af,aA):=akt ns 2 2 0 Z0 Z0 Z0 Z0 Z0;let(c,n,bc,a6,ao,av):=agO ns 2 aW Z0 Z0 Z5;obtain⟨a,b,rfl⟩:∃a b,ds=[a,b]:=by
  match ds,eQ with
  |[a,b],_=>show{(a),b,D}
 let I:In a b c:={Lk.aK a Z6,Lk.aK b Z6,bc}
 let(tw,kx,Li,a7):=Sx I.two Z0 Z0 n;let bq:n<60:=by lia
 let(xs,Ms,n5,bM):=lists I kx Li bq a7;let(v,t9,d9):=rest I kx Li bq;let cN:xs.all pW=Y0:=hO.mpr λx ax=>(n5 x ax).1;let dD:dJ 6 (.aj xs)=Y0:=hO.mpr λx ax=>(n5 x ax).2;let pp:dJ 6 (.aj<|ct tw)=Y0:=Po λq _=>D;let qE:la (.aE Z9)=Y0:=by show(la (ar a)&&(la (ar b)&&Y0))=Y0;rw[Kd,Kd];rfl
 let np:=akM tw;let Gu:=Kd c;let aR:=wQ dD n;let a4:=wQ pp n;let cQ:=wQ t9 n;let fQ:=Kc dD n;let hk:=Kc pp n;let BP:=Kc t9 n;let ls:od n [.aj<|ct tw]=J (.aj<|ct tw,.az):=rfl;let aA:u3 [(.aj<|ns.map .int,Y1),(.dQ,Y0),(.int 2,Y0),(.int 2,Y0)] 0=J (.aE Z9,Y1,aW):=aA;let av:pX [(.aj<|ns.map .int,Y1),(.dQ,Y0),(.int 2,Y0),(.int 30,Y0)] aW=J (ar c,Y1,n):=av;let a7:nC [(.aE Z9,Y0)] n=J (.aj<|ct tw,Y0,n):=a7;let cm:∀x∈xs,od n [x]=J (x,.az):=λx ax=>by
  let:=(n5 x ax).1;cases x with
  |aj aQ=>rfl
  |_=>show Yi this (by simp[pW])
 let Mt:=λx0 x1=>aeJ bM qE np Gu cN x0 x1;let wK:∀x0 x1 e5 ej dR jD jE,bB 3 kK (aG (ai 2)<|aG (ai 4)<|aG (ai 3) bz) [x0,x1,J (.aE Z9,.ah),J (ar c,.ah),J (.aj<|ct tw,.az),e5,ej,dR,jD,jE] n=J (.aj xs,.az,n):=λx0 x1 e5 ej dR jD jE=>by let GP:flag .ah (ar c)=Y0:=rfl;generalize ct tw=cm at*;generalize ar a=ta at*;generalize ar b=cn at*;generalize ar c=hR at*;simp![bM,GP]
 let y2:∀x0 x1 e5 ej dR jD jE,bB 3 oB (aG (ai 2)<|aG (ai 4)<|aG (ai 3) bz) [x0,x1,J (.aE Z9,.ah),J (ar c,.ah),J (.aj<|ct tw,.az),e5,ej,dR,jD,jE] n=J (.aj v,.az,n):=λx0 x1 e5 ej dR jD jE=>by let GP:flag .ah (ar c)=Y0:=rfl;generalize ct tw=cm at*;generalize ar a=ta at*;generalize ar b=cn at*;generalize ar c=hR at*;simp![d9,GP]
 let ha:∀x0 x1 e5 ej dR jD jE,T8 [x0,x1,J (.aE Z9,.ah),J (ar c,.ah),J (.aj<|ct tw,.az),e5,ej,dR,jD,jE] n=J (.aj xs,.az,n):=λx0 x1 e5 ej dR jD jE=>by
  let:=jI (it:=eZ<|bB 3 kK<|aG (ai 2)<|aG (ai 4)<|aG (ai 3) bz) (l:=[C,J 0,J 1,J 2,J 3,J 4,J 5,J 6,J 7,J 8,J 9]) (i:=0) (e:=aB od ZA) (S:=[x0,x1,J (.aE Z9,.ah),J (ar c,.ah),J (.aj<|ct tw,.az),e5,ej,dR,jD,jE]) (n:=n) xs (λx=>x) (λx=>x) (by
   let q:=wK x0 x1 e5 ej dR jD jE;rw[List.map_id'];generalize bB 3 kK (aG (ai 2)<|aG (ai 4)<|aG (ai 3) bz)=CC at *
   simp![eZ,q,Un]) Z5 λx ax=>by let q:=cm x ax;let kl:look .ah x=.ah:=rfl;simp![ck,q,kl]
  rw[List.map_id']at this;show this
 obtain⟨s0,HI⟩:∃s,s=J (T.aj (ns.map .int),bk.cV):={_,D}
 let fZ:∀x2 cY x4 e5 ej dR jD jE,bB 4 cp.u3 (aG (ai 0)<|aG (ai 1)<|aG (aS<|.int 2)<|aG (aS<|.int 2) bz) [J (T.aj<|ns.map .int,bk.cV),J (.dQ,.ah),x2,cY,x4,e5,ej,dR,jD,jE] 0=J (.aE Z9,.ah,aW):=λ_ _ _ _ _ _ _ _=>by generalize ar a=ta at*;generalize ar b=cn at*;simp![aA]
 let Mu:∀x2 cY x4 e5 ej dR jD jE,bB 4 cp.pX (aG (ai 0)<|aG (ai 1)<|aG (aS<|.int 2)<|aG (aS<|.int 30) bz) [J (T.aj<|ns.map .int,bk.cV),J (.dQ,.ah),x2,cY,x4,e5,ej,dR,jD,jE] aW=J (ar c,.ah,n):=λ_ _ _ _ _ _ _ _=>by generalize ar c=hR at*;simp![av]
 rw[<-HI]at fZ Mu;let eI:∀x0 x1 cY x4 e5 ej dR jD jE,bB 1 cp.nC (aG (ai 2) bz) [x0,x1,J (.aE Z9,.ah),cY,x4,e5,ej,dR,jD,jE] n=J (.aj<|ct tw,.az,n):=λ_ _ _ _ _ _ _ _ _=>by generalize ar a=ta at*;generalize ar b=cn at*;simp![a7]
 let env:pG ns 10=[s0,J (.dQ,.ah),C,C,C,C,C,C,C,C]:=by rw[HI];rfl
 rw[env];show{[s0,J (.dQ,.ah),J (.aE Z9,.ah),J (ar c,.ah),J (.aj<|ct tw,.az),J (.aj<|ct tw,.az),J (.aj xs,.az),J (.aj v,.az),C,C],n,?_};let sp:Af 9 8 kK 2 4 3 (gY (b7<|aB gn<|ag (ai 6)<|ag (ai 8) aw)<|gY (b7<|aB gn<|ag (ai 4)<|ag (ai 5) aw)<|b7<|aB gn<|ag (bB 3 oB<|aG (ai 2)<|aG (ai 4)<|aG (ai 3) bz)<|ag (ai 7) aw) [s0,J (.dQ,.ah),J (.aE Z9,.ah),J (ar c,.ah),J (.aj<|ct tw,.az),J (.aj<|ct tw,.az),J (.aj xs,.az),J (.aj v,.az),C,C] n=J (.bS,[s0,J (.dQ,.ah),J (.aE Z9,.ah),J (ar c,.ah),J (.aj<|ct tw,.az),J (.aj<|ct tw,.az),J (.aj xs,.az),J (.aj v,.az),C,C],n):=by
  let t:gY (b7<|aB gn<|ag (ai 6)<|ag (ai 8) aw) (gY (b7<|aB gn<|ag (ai 4)<|ag (ai 5) aw)<|b7<|aB gn<|ag (bB 3 oB<|aG (ai 2)<|aG (ai 4)<|aG (ai 3) bz)<|ag (ai 7) aw) [s0,J (.dQ,.ah),J (.aE Z9,.ah),J (ar c,.ah),J (.aj<|ct tw,.az),J (.aj<|ct tw,.az),J (.aj xs,.az),J (.aj v,.az),J (.aj xs,.az),C] n=J (Y1,n):=by generalize bB 3 oB (aG (ai 2)<|aG (ai 4)<|aG (ai 3) bz)=RR at*;simp![y2,aR,a4,cQ]
  delta Af;rw[Mt];show(if xs.H<=100/\9<10/\8<10/\8≠9 then KY (gY _ _ [s0,J (.dQ,.ah),J (.aE Z9,.ah),J (ar c,.ah),J (.aj<|ct tw,.az),J (.aj<|ct tw,.az),J (.aj xs,.az),J (.aj v,.az),J (.aj xs,.az),C] n) _ else C)=_;rw[Y2 {Ms,by decide,by decide,by decide},t];show Y2 {(D),D}
 let cl:Ae 9 kK 2 4 3 [s0,J (.dQ,.ah),J (.aE Z9,.ah),J (ar c,.ah),J (.aj<|ct tw,.az),J (.aj<|ct tw,.az),J (.aj xs,.az),J (.aj v,.az),C,C] n=J (.bS,[s0,J (.dQ,.ah),J (.aE Z9,.ah),J (ar c,.ah),J (.aj<|ct tw,.az),J (.aj<|ct tw,.az),J (.aj xs,.az),J (.aj v,.az),C,C],n):=by delta Ae;rw[Mt];show Y2 {Ms,show 9<10 by decide}
 delta E0;show td (S':=[s0,J (.dQ,.ah),J (.aE Z9,.ah),C,C,C,C,C,C,C]) (n':=aW) (by delta c2;rw[fZ];rfl) ?_;show td (S':=[s0,J (.dQ,.ah),J (.aE Z9,.ah),J (ar c,.ah),C,C,C,C,C,C]) (n':=n) (by delta c2;rw[Mu];rfl) ?_;show td (S':=[s0,J (.dQ,.ah),J (.aE Z9,.ah),J (ar c,.ah),J (.aj<|ct tw,.az),C,C,C,C,C]) (n':=n) (by delta c2;rw[eI];rfl) ?_;show td (S':=[s0,J (.dQ,.ah),J (.aE Z9,.ah),J (ar c,.ah),J (.aj<|ct tw,.az),J (.aj<|ct tw,.az),C,C,C,C]) (n':=n) D ?_;show td (S':=[s0,J (.dQ,.ah),J (.aE Z9,.ah),J (ar c,.ah),J (.aj<|ct tw,.az),J (.aj<|ct tw,.az),J (.aj xs,.az),C,C,C]) (n':=n) (by delta c2;rw[ha];rfl) ?_;show td (S':=[s0,J (.dQ,.ah),J (.aE Z9,.ah),J (ar c,.ah),J (.aj<|ct tw,.az),J (.aj<|ct tw,.az),J (.aj xs,.az),J (.aj v,.az),C,C]) (n':=n) (by delta c2;rw[y2];rfl) ?_;show td sp ?_;show td cl ?_;generalize bB 3 kK (aG (ai 2)<|aG (ai 4)<|aG (ai 3) bz)=LL at*;generalize bB 3 oB (aG (ai 2)<|aG (ai 4)<|aG (ai 3) bz)=RR at*;simp![wK,y2,fQ,hk,BP]
end va
section
namespace PySem.W.Fast
def tw5905225713237238795:=Nat
def tw16351032363416257555:=Nat
def tw16905755604080091062:=Nat
def tw2708969732862786187:=Nat
def tw16277503711017718517:=Nat
def tw1121849651155421038:=Nat
def tw5482513767961455551:=Nat
def tw11401147472699465191:=Nat
def tw5715720620477334700:=Nat
def tw15317616976419626582:=Nat
def tw11272200121769152227:=Nat
def tw11925667687519545334:=Nat
def tw15037930925757917943:=Nat
def tw8688202956332630257:=Nat
def tw1349418778923245023:=Nat
def tw17468215503494553447:=Nat
def tw12250886936037115211:=Nat
def tw15182880395911363781:=Nat
def tw7526552205672214793:=Nat
def tw156852183111835245:=Nat
def tw8929492966870662615:=Nat
def tw16206079418773842463:=Nat
def tw13025741388639703576:=Nat
def tw5468442692453256843:=Nat
def tw13129630798621328176:=Nat
def tw15016888772516300962:=Nat
def tw6915171074690288626:=Nat
def tw11961796377975380848:=Nat
def tw3639145797321902085:=Nat
def tw4467263954239411590:=Nat
def tw13432087999199117343:=Nat
def tw11254250814359416856:=Nat
def tw5368789599113741836:=Nat
def tw456753675213772145:=Nat
def tw9851278158965393879:=Nat
def tw11549561612371974902:=Nat
def tw10760096607552382408:=Nat
def tw13058310526487800607:=Nat
def tw9237747502702002860:=Nat
def tw290970180534369849:=Nat
def tw14371163105779671367:=Nat
def tw9801485396510970861:=Nat
def tw16500566114897164565:=Nat
def tw2122126503835308759:=Nat
def tw17381212698538326802:=Nat
def tw1523283152796524045:=Nat
def tw3494450334723266213:=Nat
def tw3549642782141472799:=Nat
def tw9323469770098202091:=Nat
def tw3820872604787770076:=Nat
def tw16183591891540977281:=Nat
def tw5124920485931703151:=Nat
def tw11123939595045201580:=Nat
def tw14083086880624547896:=Nat
def tw1858230672454982361:=Nat
def tw14057381950270490960:=Nat
def tw2701270302006695432:=Nat
def tw9547065144747930595:=Nat
def tw281876808073803626:=Nat
def tw18305643501992710257:=Nat
def tw2255627901378423600:=Nat
def tw12651404751065690238:=Nat
def tw4472390146877432687:=Nat
def tw11505510980169397909:=Nat
def tw15597949230405664933:=Nat
def tw18367594488587599184:=Nat
def tw13463797041781207358:=Nat
def tw10792508535505457517:=Nat
def tw3175947506599801002:=Nat
def tw2355404511709691673:=Nat
def tw2679397680225797486:=Nat
def tw17985611653312113109:=Nat
def tw1957980421036773921:=Nat
def tw2296528384921216962:=Nat
def tw4485793406646106240:=Nat
def tw2822979539794577782:=Nat
def tw11248491721209439550:=Nat
def tw2283766720963286913:=Nat
def tw15449072239068709603:=Nat
def tw17088182643141976230:=Nat
def tw1102989123623505484:=Nat
def tw10396202021852442146:=Nat
def tw2530505618093347190:=Nat
def tw2941937082862183445:=Nat
def tw883363426222722502:=Nat
def tw582312281469138014:=Nat
def tw17563561895582537470:=Nat
def tw1260441355357207618:=Nat
def tw12700408466530440956:=Nat
def tw13592947169361064237:=Nat
def tw12997839492154705464:=Nat
def tw14273491016666331795:=Nat
def tw1305620042171027152:=Nat
def tw3681463288451636355:=Nat
def tw3695085725217841552:=Nat
def tw13940655354356350888:=Nat
def tw6503135778293118366:=Nat
def tw17737518207325662933:=Nat
def tw15673308922730672528:=Nat
def tw12565478600445265603:=Nat
def tw7017998772925472784:=Nat
def tw17252157055041188970:=Nat
def tw3133245111605730576:=Nat
def tw17430247905016211921:=Nat
def tw16934541137278056212:=Nat
def tw9962376777516298784:=Nat
def tw4916970132918995914:=Nat
def tw11847032166443477424:=Nat
def tw11063515598169949081:=Nat
def tw17610133685987391703:=Nat
def tw9008236446740465371:=Nat
def tw2208729223508348623:=Nat
def tw9842127998877078491:=Nat
def tw17545511787756603535:=Nat
def tw16870118933435909579:=Nat
def tw6809100258707583519:=Nat
def tw13534953788375620979:=Nat
def tw3801699659322988318:=Nat
def tw12069517462065568395:=Nat
def tw2054634902341675388:=Nat
def tw7232744701494281061:=Nat
def tw17249802562668352855:=Nat
def tw17386042870952451718:=Nat
def tw15715028211358204140:=Nat
def tw12832247699110289015:=Nat
def tw17400782851907873941:=Nat
def tw7269638349570731506:=Nat
def tw7967255514560908488:=Nat
def tw14989093443679061549:=Nat
def tw2822068223467238996:=Nat
def tw5387780094751511789:=Nat
def tw13684588637197775827:=Nat
def tw8743706730036589043:=Nat
def tw7939008686285281662:=Nat
def tw15896427156368052253:=Nat
def tw1609046495493362798:=Nat
def tw15759893007171127306:=Nat
def tw9145281053678485044:=Nat
def tw15073144397766457791:=Nat
def tw17153106809476708659:=Nat
def tw17574138593951299929:=Nat
def tw4646728624407294837:=Nat
def tw10121714372287435168:=Nat
def tw7533353732622902484:=Nat
def tw9667294096073218808:=Nat
def tw8948633847724189858:=Nat
def tw15778461758285975972:=Nat
def tw8872787906497387254:=Nat
def tw18254525739497729397:=Nat
def tw16814713778302472956:=Nat
def tw8312649430892378215:=Nat
def tw13674842999324069877:=Nat
def tw17293967090578219782:=Nat
def tw2658430838978014202:=Nat
def tw8866007309297389008:=Nat
def tw7359058908055719774:=Nat
def tw13370317666874658979:=Nat
def tw1627128785898986535:=Nat
def tw9906062282613902190:=Nat
def tw3463766205612236515:=Nat
def tw11820910761341787770:=Nat
def tw11755499728268506910:=Nat
def tw16001298450132719683:=Nat
def tw2692516105205824717:=Nat
def tw7841335221800423398:=Nat
def tw17142530036175995477:=Nat
def tw15600370282099352443:=Nat
def tw9173821492515933793:=Nat
def tw4688668508087404463:=Nat
def tw1711054350263482156:=Nat
def tw8097089392260862271:=Nat
def tw7582803923499140235:=Nat
def tw11477868132424754727:=Nat
def tw4240393329100692062:=Nat
def tw5759133720461185936:=Nat
def tw1041461707938753255:=Nat
def tw7674289393731492277:=Nat
def tw9224144768161047502:=Nat
def tw3182670887318800192:=Nat
def tw18236597990784528210:=Nat
def tw6363538209936446562:=Nat
def tw11064185810278098574:=Nat
def tw5616410527949261571:=Nat
def tw4476515515017586320:=Nat
def tw16287025131489810526:=Nat
def tw17742687397022597698:=Nat
def tw15971782677909563265:=Nat
end PySem.W.Fast
open PySem PySem.W PyProof.Rows
set_option maxRecDepth 100000 in
set_option maxHeartbeats 0 in
theorem PySem.Challenge.cw_dicesums_k11_whole_told_anew_holds : PySem.Challenge.rw_dicesums_k11_whole_told_anew.Holds := by
  w_on; o_law; k_head; (case hw=>w_witness2)
  k_fill
  show a9.bD.agm (l:=PySem.Challenge.rw_dicesums_k11_whole_told_anew) 9 D D {D, by decide, by decide} (λw h Lj=>W.kIn_of Lj) ?F
  case F =>
    intro w bj e8 h i5 G zm;refine' va.all_mk ?Lj zm va.run;constructor;show i5;show G
    all_goals first
      |(apply a9.bD.aj3; k_is; k_is; k_is; k_is)
      |(show W.mg_none_of i5 G ?_; k_is)
      |(show W.mg_of i5 G ?_; k_is)
      |k_exc
      |k_is
      |(constructor<;>first|k_is|(apply a9.bD.some_of; k_is))
end