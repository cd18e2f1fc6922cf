import PyProof.Rows.All
import Wide.All
import OpenK.AllK
import Wide.FinOn
import PyProof.EqAt
import PyProof.EqKinds
import PyProof.TupleCall
import Lean
import PyProof.StrLawsChain
import PyProof.StrLawsTight
import PyProof.StrBlock2
import PyProof.StrBlockH
import KE.KIntText
import PyProof.ReprReads
import PySem.Challenge.RW_dicesums_k10_whole_refused_anywhere
set_option autoImplicit true
local macro_rules|`(tactic| fail)=>`(tactic| (extract_lets+onlyGivenNames-underBinder zz; subst zz))
set_option Elab.async false
set_option linter.all false
set_option maxRecDepth 100000
set_option maxHeartbeats 0
set_option bootstrap.genMatcherCode false
set_option compiler.extract_closed false
set_option genSizeOfSpec false
noncomputable section
open List renaming length_map->cP,mem_cons_self->dS,map_cons->cU,mem_cons_of_mem->am,length_cons->d8,size_toArray->eT,mem_cons->d3,getElem?_eq_getElem->hh,mem_map->ey,length_append->gq,map_map->ci,getElem?_eq_some_iff->kK,append_assoc->h6,mem_append->hQ,all_eq_true->iL,pairwise_cons->jR,mem_map_of_mem->kd,getD_eq_getElem?_getD->nj,mem_append_right->l1,getElem?_map->ke,set_cons_succ->kL,set_cons_zero->kM,length_take->jS,length_drop->gc,drop_eq_getElem_cons->pJ,map_congr_left->mF,length_replicate->ou,all_cons->jT,mem_filter->lz,map_append->lA,length_singleton->pK,take_append_drop->pL,replicate_succ->ov,flatMap_cons->nk,mem_append_left->pM,pairwise_append->pN,mem_singleton->ow,foldl_cons->mG,nodup_cons->nq,countP_cons->ox,getElem_mem->oy,perm_append_comm->r2,length_filter_le->r3,mem_range->nr,filterMap_cons->r4,nil_append->pO,find?_cons->ii,eq_nil_of_length_eq_zero->io,not_mem_nil->qQ,mem_of_mem_take->tT,any_cons->oz,findIdx?_eq_some_iff_getElem->BH,drop_eq_nil_of_le->wa,take_of_length_le->wb,getElem?_append_left->ym,lookup_cons->r5,mem_of_mem_drop->wc,append_nil->r6,length_set->r7,flatten_cons->tU,length_range->tV,getLast?_eq_some_getLast->BI,all_map->pP,countP_eq_length_filter->BJ,filter_cons->tW,getElem?_append_right->BK,map_nil->qR,length_nil->tX,drop_sublist->wd,extract_eq_take_drop->BL,nodup_append->we,getLastD_eq_getLast?->BM,mem_iff_getElem->yn,length_reverse->yo,filter_eq_self->yp,getElem?_replicate->BN,getElem?_cons_zero->BO,sum_cons->tY,take_sublist->yq,getElem?_set->ys,getElem_drop->yt,getElem_take->yu,pairwise_map->yv,map_id->r8,take_length->yw,pairwise_iff_getElem->GB,getElem?_cons_succ->GC,length_eq_zero_iff->GD,drop_zero->yx,reverse_cons->BP,getElem?_set_self->GF,range_succ_eq_map->GG,getElem?_eq_none->GH,countP_le_length->GI,getElem?_set_ne->GJ,of_mem_zip->BQ,foldr_cons->BR,length_pos_iff->GK,countP_eq_zero->GL,drop_drop->BS,mem_filterMap->GN,countP_append->GO,length_eraseIdx_of_lt->Ms,perm_ext_iff_of_nodup->Mt,findIdx?_eq_none_iff->Mu,getElem?_take_of_lt->Mv,cons_append->GP,mem_flatMap->GQ,set_set->BU,pairwise_lt_range->Mw,sum_replicate_nat->Mx,countP_mono_left->My,getElem?_toArray->Mz,take_succ->GR,mem_of_getElem?->MA,replicate_succ'->MB,mem_of_mem_tail->MC,take_succ_cons->MD,take_add->GS,length_zipWith->ME,countP_pos_iff->MF,filterMap_map->MG,mem_replicate->MH,zip_cons_cons->MI,any_map->GU,any_eq_false->MJ,foldl_append->MK,take_add_one->ML,countP_congr->MM,getElem_inj->MN,map_flatMap->MO,getLast_mem->MP,getLast_map->MQ,mem_reverse->MR
open Nat renaming le_trans->bP,le_refl->cg,lt_of_lt_of_le->d4,le_of_eq->d1,le_of_lt->ez,ne_of_lt->bv,le_add_right->gb,lt_of_le_of_lt->gS,add_le_add_left->h7,le_of_not_lt->hR,le_antisymm->h8,zero_le->gG,le_of_add_right_le->l2,pos_of_ne_zero->kf,le_of_lt_succ->kg,lt_of_succ_lt->kN,le_add_right_of_le->oA,add_sub_cancel'->nt,add_lt_add_left->nu,lt_of_add_right_lt->qS,le_of_add_left_le->qT,lt_succ_of_lt->oB,lt_succ_self->oC,lt_or_ge->l3,le_mul_of_pos_left->tZ,lt_of_le_of_ne->r9,le_sub_of_add_le->t2,lt_irrefl->oD,not_lt_of_le->sa,lt_of_not_le->sb,sub_lt_left_of_lt_add->yy,sub_le->mH,pow_le_pow_right->wg,lt_succ_of_le->t4,ne_of_gt->pQ,add_sub_cancel_left->yz,le_of_sub_eq_zero->yA,mul_comm->qU,add_le_of_le_sub->yB,mul_le_mul_right->yC,succ_le_succ->wh,succ_mul->sd,lt_add_of_pos_right->BV,le_add_left->wi,le_of_ble_eq_true->BW,mul_le_mul->wj,zero_add->t5,sub_one_lt_of_lt->BX,le_succ->t6,lt_trans->wk,pow_succ->wm,min_le_right->BY,sub_eq_zero_of_le->GV,add_assoc->yD,sub_lt_of_lt->BZ,sub_le_sub_right->GW,le_sub_one_of_lt->GX,add_sub_add_left->GY,add_comm->yE,sub_zero->yF,sub_le_sub_left->GZ,sub_lt->wo,mul_le_mul_left->G0,lt_of_sub_pos->G1,sub_pos_of_lt->G2,le_max_right->G3,not_le_of_lt->G4,zero_max->lf,sub_self->B0,le_mul_of_pos_right->MS,le_sub_of_add_le'->MT,mul_assoc->G5,add_sub_cancel->MU,add_zero->G6,lt_asymm->G7,add_sub_assoc->MV,le_succ_of_le->MW,not_lt->G8
open PySem.Heap renaming get?_push_of_some->ec,lt_size->d5,get?_push_size->gB,get?_update_self->qV,size_push->nv,get?_update_other->t7,get?_push_ne->yG,size_update->B1,get?_some_iff->MX
open Option renaming bind_some->eN,map_some->kh,isSome_iff_exists->yH,getD_none->MY
open Array renaming length_toList->gH,getElem?_toList->lB,getElem_mem->jU,getElem?_eq_getElem->t8,toList_append->wq,toArray_toList->B2,toList_extract->B3,toList_push->B4,toList_setIfInBounds->MZ,perm_iff_toList_perm->M0,getElem?_eq_none->M1,toList_reverse->M3,getElem_toList->M4,size_append->M5
open Bool renaming and_eq_true->f3,false_eq_true->jm,false_ne_true->nx,false_and->se,and_false->wt,true_and->yI,not_eq_true->G9,eq_iff_iff->Ha,not_eq_true'->M6
open Int renaming natCast_nonneg->iq,le_trans->jn,lt_of_le_of_lt->ny,le_of_lt->kO,lt_of_not_ge->sf,toNat_natCast->t9,not_lt_of_ge->yJ,lt_of_lt_of_le->B5,mul_le_mul_of_nonneg_right->M7,mul_le_mul_of_nonneg_left->M8,ne_of_lt->yK,emod_lt_of_pos->Hb,add_mul->yL,ne_of_gt->B6,emod_nonneg->Hc,natCast_mul->Hd,sub_eq_add_neg->M9,le_of_eq->He,not_lt->Hf
open PySem.Calls renaming spliced_cons->h9,spliced_nil->l4,callWith_builtin->ua,evalArgs_plain->ub
open PySem renaming Value->mt,wpAny_bind->a8,Shared->aR,wpAny_pure->bZ,starEach->b4,model->bg,wpAny->bl,sizeLine->dg,Program->dx,World->c3,Around->dH,wpAny_newObj_type->kP,wpAny_mono->hj,backTo->ff,wpAny_Call_Name_kw->l5,wpAny_holding->jo,compareOp->hp,FuncData->hB,foldedSetIterable->oE,rawInt->gI,mainGlobals->kQ,bootBuiltins->l6,wpAny_truthy_bool->qW,codeAny_builtin->pR,sizeLine_eq->mI,plainId_quiet->oF,intKind->i2,wpAny_rule->l7,assignEach->mJ,wpAny_call_entry->sg,call_meets->nz,codeAny->ki,wpAny_callSpecial?_slot->yM,binaryOp->l8,cLine->ir,swapsWith->nA,scanBound->nB,wpAny_passesOwn->uc,wpAny_updateSeq->ud,codeAny_mono->sh,wpAny_typeOf->si,Scope->jq,attributeBase->ue,sysModules->qX,wpAny_Call_method->yN,wpAny_setState_of->yO,fits_of_scanBound->yP,pyIter->l9,getItem->nC,builtinLookup_eq_fast->B7,wpAny_setField->wu,SetTable->pS,wpAny_askSetting->yQ,behindInMarks->wx,pyNext->mK,wpAny_attempt->wy,holding->oG,sliceBounds->uf,keywordEach->ug,wpAny_execs_nil->yR,assign->nD,pickOrder->sj,wpAny_call->uh,Keyword->pT,isSubtype_type->yS,wpAny_pyIter_list->B8,wpAny_field->wz,bindArgs->sk,NameKind->sl,letOwnedTupleGo->B9,IsPart->pU,stored->pV,wpAny_loadPart'->Ca,typeLookup_type->Cb,codeAny_call_builtin->Hg,wpAny_setEntries_of->Hh,spliced->sm,backToKw->ui,callerA->so,wpAny_tryCatch->Cc,wpAny_seqItems->Cd,wpAny_pyIter_tuple->Hi,argsOk->qY,wpAny_newFunctionEnv_cells->Na,wpAny_sequenceKey->Hj,wpAny_setEpoch_of->Hk,typeIs_int->yT,wpAny_binaryOp_repeat_ref->Nb,BindsTo->uj,valueAt->uk,Result->sq,wpAny_getItem_list_slice->Nc,concat_meets->Ce,noFill_tuple_add->Hl,relayAll->wA,wpAny_isInstance->Hm,PassesOwn->yU,wpAny_ite_split->Hn,subscripted->Cf,wpAny_letGo->Cg,recursionLimit->Ho,wpAny_runValue->Hp,entryFor->yV,wpAny_standAt->Hq,evalPart_none->Hr,seq_tuple_add->rc
open PyProof.Rows renaming wpS_bind->cz,wpS_pure->c6,Keyed->b3,arrOf->cC,SortSt->dO,pendingOf->fx,IntsAre->g9,kindOf->hk,wpS_forRange->mL,envOfC->i3,wpS_mono->lC,seqObj->i4,setArr->jr,AllBare->oH,wpS_get->oI,failedOf->qZ,gallopOf->sr,wpS_lift->su,wpS_modify->wB,entry_tuple_getitem->Hs,boot_sorted->yW,args_tuple_getitem->Ht,subscriptTail->Ci,SortKind->wC,subscriptTail_builtinR->Nd,Subscript_->Cj,tupleItemsOf_->Hu,listUpdate_at->Hv
open Option renaming some->J,none->C
open Bool renaming true->Y0,false->Y1
theorem az0 (h:True:=by rfl):True:=trivial
theorem az0.x:True:=trivial
open az0 renaming _auto_1->bu
theorem az1 (h:True:=by decide):True:=trivial
theorem az1.x:True:=trivial
open az1 renaming _auto_1->eL
theorem az2 (h:True:=by first|exact .inl rfl|exact .inr rfl|assumption):True:=trivial
theorem az2.x:True:=trivial
open az2 renaming _auto_1->pW
theorem az3 (h:True:=by intro _; rfl):True:=trivial
theorem az3.x:True:=trivial
open az3 renaming _auto_1->sA
theorem az4 (h:True:=by first|exact Or.inl rfl|exact Or.inr rfl):True:=trivial
theorem az5 (h:True:=by with_unfolding_all rfl):True:=trivial
theorem az6 (h:True:=by intros; rfl):True:=trivial
theorem az7 (h:True:=by first|exact Or.inl rfl|exact Or.inr (Or.inl rfl)|exact Or.inr<|Or.inr rfl):True:=trivial
theorem az8 (h:True:=by first|exact alu _ (by decide) (by decide)|rfl):True:=trivial
def Y2{c:Prop}{h:Decidable c}(hc:c){α:Sort u}{t e:α}:ite c t e=t:=if_pos hc
def Y3{c:Prop}{h:Decidable c}(hc:¬c){α:Sort u}{t e:α}:ite c t e=e:=if_neg hc
section
open Lean
def Fa(s:String):String:=match s with
|"H"=>"length"
|"O"=>"size"
|"Q"=>"heap"
|"B"=>"toArray"
|"D"=>"toList"
|"E"=>"objs"
|"I"=>"env"
|"M"=>"toNat"
|"R"=>"prog"
|"V"=>"base"
|"Y"=>"scope"
|"d"=>"data"
|"e"=>"names"
|s=>s
def Y4:Name->Name
|.str p s=>if s=="L" then .str (.str (.str (if p.isAnonymous then p else Y4 p) "heap") "objs") "size" else .str (if p.isAnonymous then p else Y4 p) (Fa s)
|n=>n
def Y5(n:Name):Name:=n.getRoot++Y4 (n.replacePrefix n.getRoot .anonymous)
def Y6:Nat->Syntax->Syntax
|k+1,s=>if s.isIdent then mkIdentFrom s (Y5 s.getId) else if s.isOfKind ``Lean.Parser.Term.proj then(s.setArg 0 (Y6 k s[0])).modifyArg 2 fun i=>if i.isIdent then mkIdentFrom i (Y4 i.getId) else i else s
|_,s=>s
end
open Lean in
local macro_rules
|`($x:ident)=>do
 let n:=x.getId
 if n.isAtomic||n.hasMacroScopes then Macro.throwUnsupported
 let m:=Y5 n
 if m==n then Macro.throwUnsupported
 return mkIdentFrom x m
open Lean in
local macro_rules (kind:=Lean.Parser.Term.proj)
|s=>do
 let t:=Y6 9 s
 if t==s then Macro.throwUnsupported
 return t
set_option hygiene false
open Lean in
def Zt0(n:Nat):MacroM Term:=match n with
|0=>`(by decide)
|1=>`(Addr×Obj)
|2=>`(bg X.prog X.w)
|3=>`(by lia)
|4=>`((t,true))
|5=>`(aw (.int 1))
|6=>`(Int×Int)
|7=>`(by simp)
|8=>`(ax (ai 0) a9)
|9=>`(bg prog w)
|10=>`(List Int)
|11=>`(ds.map aG)
|12=>`(aw (.int 2))
|13=>`(aw (.int 0))
|14=>`(aa (ai 0) ar)
|15=>`(dk aL d)
|16=>`((false,eval e X.env))
|17=>`((x==("__debug__" : Str))=false)
|18=>`(.ref aN)
|19=>`(T×bo)
|20=>`(aa (aY Z5) (aa (aY ZC) ar))
|21=>`(aY (aw (.str "refused")))
|22=>`(aa (ai 1) ar)
|23=>`(b4 (e::es) X.env=ZG::b4 es X.env)
|24=>`((.ao (ns.map .int),false))
|25=>`(ax (ai 1) a9)
|26=>`(aa (ai 2) ar)
|27=>`((.int (w:Nat),true))
|28=>`(gx X N' scope cl aN cD dI fp)
|29=>`(cT (aw (.aC false)))
|30=>`([none,some 0,some 1,some 2,some 3,some 4])
|31=>`(.Call (.Name x p) (e::es) [] pos)
|_=>Macro.throwUnsupported
open Lean in
def Zt1(n:Nat):MacroM Term:=match n with
|0=>`(X.fn x=true\/X.env.scope.names.lookup x=some .local)
|1=>`((∀b o,s.heap.get? b=some o->h'.get? b=some o))
|2=>`(aH ej (aa (ai 5) (aa (cw (aa (aY (ai 0)) ar)) ar)))
|3=>`(.ListComp elt [⟨di,iter,ifs,0⟩] scope pos)
|4=>`([x0,some (aG aL,.ag),some (.bk (ay d),.aE),some (.ao (cm.map .int),.aE),ct,fX,eJ,e9])
|5=>`(((fx st).setIfInBounds i (a0,na+nb,pa)).eraseIdxIfInBounds (i+1))
|6=>`(aH ej (aa (aH ml (aa (ai 3) (aa (aH ej (aa (ai 4) (aa (ai 5) ar))) (aa ZD ar)))) (aa (aH dv (aa (ai 1) (aa (ai 4) ar))) ar)))
|7=>`([some (.ao sc,.cZ),some (.dq,.ag),some (t,.ag),bY,some (.aC false,.ag),some (o,.ag),some (.ao (List.replicate 11 (ew 1)),.aE),none,none,none,none])
|8=>`([some (.ao sc,.cZ),some (.dq,.ag),some (t,.ag),bY,some (.aC true,.ag),some (o,.ag),some (.ao L,.aE),none,none,none,none])
|9=>`(bL (dK 6 (aH FZ (aa (aH dv (aa (ai 2) (aa (ai 4) ar))) (aa (aH uY (aa (ai 1) (aa (aH dv (aa (ai 1) (aa ZD ar))) ar))) ar)))) (bL (eF (hX (bK (aH eE (aa (ai 5) (aa ZD ar)))) (bK (aH gk (aa (ai 6) (aa ZD ar))))) (cT (aw .br)) e6) (bL (dK 7 (aH kE (aa (cw (aa (aY (ai 5)) ar)) (aa (ai 6) ar)))) (bL (dK 2 (bB 2 vC (ax (ai 2) (ax (bB 1 n6 (ax (cw (aa (aY (ai 7)) (aa (aY (ai 1)) ar))) a9)) a9)))) (bL (eF (bK (aH od ZQ)) (cT (aw .br)) e6) (hM 3 jO (ai 7)))))))
|_=>Macro.throwUnsupported
open Lean in
def Ztab(n:Nat):MacroM Term:=match n/32 with
|0=>Zt0<|n%32
|1=>Zt1<|n%32
|_=>Macro.throwUnsupported
open Lean in
def Zval(c:Char):Nat:=let n:=c.M;if n<58 then n-48 else if n<90 then n-55 else n-62
open Lean in
local macro_rules
|`($x:ident)=>do
 let s:=x.getId.toString
 if s.front != 'Z' then Macro.throwUnsupported
 match (s.toList.drop 1).map Zval with
 |[a]=>Ztab a
 |[a,b]=>Ztab<|61+a*61+b
 |_=>Macro.throwUnsupported
theorem az9 (h:True:=by first|exact aV.mono Z0|exact aV.mono<|by omega):True:=trivial
theorem az10 (h:True:=by exact uQ):True:=trivial
theorem az11 (h:True:=by decide+kernel):True:=trivial
theorem az12 (h:True:=by first|exact qg λ_ _ _ _ _ _ _=>rfl|exact zC λ_ _ _ _ _ _ _ _=>rfl|exact zD λ_ _ _ _ _ _ _ _ _=>rfl|exact zE λ_ _ _ _ _ _ _ _ _ _=>rfl|exact zF λ_ _ _ _ _ _ _ _ _ _ _=>rfl):True:=trivial
namespace bj
def afw{α:Type _}{r:α}{p:Prop}(e:C=J r):p:=nomatch e
def afx{α:Type _}{a c:α}(e:J a=J c):a=c:=Option.some.inj e
def afy{α β:Type _}{a c:α}{b d:β}(e:J (a,b)=J (c,d)):a=c/\b=d:=by injection e with e;injection e with e f;exact⟨e,f⟩
def afz{α β γ:Type _}{a c:α}{b d:β}{x y:γ}(e:J (a,b,x)=J (c,d,y)):a=c/\b=d/\x=y:=by injection e with e;injection e with e f;injection f with f g;exact⟨e,f,g⟩
def afA{α β:Type _}{a c:α}{b d:β}(e:(a,b)=(c,d)):a=c/\b=d:=by injection e with e f;exact⟨e,f⟩
end bj
local macro_rules|`(tactic| exists $e:ident)=>`(tactic| first|exact bj.afw $e|(obtain ⟨zq0, zq1, zq2⟩:=bj.afz $e; clear $e; first|subst zq0 zq1 zq2|(subst zq0; subst zq1; clear zq2)|(subst zq0; subst zq2; clear zq1)|(subst zq1; subst zq2; clear zq0))|(obtain ⟨zq0, zq1⟩:=bj.afy $e; clear $e; first|subst zq0 zq1|(subst zq0; clear zq1)|(subst zq1; clear zq0))|(have zq0:=bj.afx $e; clear $e; subst zq0)|(obtain ⟨zq0, zq1⟩:=bj.afA $e; clear $e; subst zq0 zq1)|subst $e|(injection $e; done)|(injection $e with zq0; subst zq0)|(injection $e with zq0 zq1; subst zq0 zq1)|cases $e:ident)
section
namespace bj
open PySem PySem.Spec PyProof.Rows
abbrev Key:=Sum Int Str
noncomputable def uR:Key->mt->Bool
 |.inl k,v=>Value.isInt k v
 |.inr x,v=>Value.isStrOf x v
noncomputable def afB(w:c3):Key->Int
 |.inl k=>hashInt k
 |.inr x=>hashStr w x
theorem qh:∀{k:Key} {v:mt},uR k v=Y0->(∃i t,k=Sum.inl i/\v=Value.int i t)\/(∃x t,k=Sum.inr x/\v=Value.str x t)
 |.inl i,v,h=>by obtain⟨t,e⟩:=Value.isInt_shape (k:=i) (v:=v) h;exact .inl ⟨i,t,rfl,e⟩
 |.inr x,v,h=>by obtain⟨t,e⟩:=Value.isStrOf_shape (x:=x) (v:=v) h;exact .inr ⟨x,t,rfl,e⟩
def YU(i:Int)(t:Tok):uR (.inl i) (.int i t)=Y0:=by simp[uR,Value.isInt]
def YV(x:Str)(t:Tok):uR (.inr x) (.str x t)=Y0:=by simp[uR,Value.isStrOf]
def ahI(a b:Int):decide ((Sum.inl a:Key)=Sum.inl b)=(a==b):=by
 by_cases e:a=b
 ·subst e;simp
 ·have h:¬ (Sum.inl a:Key)=Sum.inl b:=λq=>e<|Sum.inl.inj q;rw[decide_eq_false h];exact(beq_eq_false_iff_ne.mpr e).symm
def ahJ(a b:Str):decide ((Sum.inr a:Key)=Sum.inr b)=decide (a=b):=by
 by_cases e:a=b
 ·subst e;simp
 ·have h:¬ (Sum.inr a:Key)=Sum.inr b:=λq=>e<|Sum.inr.inj q;rw[decide_eq_false h,decide_eq_false e]
def ahK(a:Int)(b:Str):decide ((Sum.inl a:Key)=Sum.inr b)=Y1:=decide_eq_false (λq=>nomatch q)
def ahL(a:Str)(b:Int):decide ((Sum.inr a:Key)=Sum.inl b)=Y1:=decide_eq_false (λq=>nomatch q)
noncomputable def hH(prog:dx)(w:c3):PySem.KeyKind prog w Key where
 is:=uR
 hash:=afB w
 inj:=λv a b ba aq=>by
  rcases qh ba with⟨i,t,rfl,rfl⟩|⟨x,t,rfl,rfl⟩
  ·rcases qh aq with⟨j,u,rfl,e⟩|⟨y,u,rfl,e⟩
   ·injection e with az _;rw[az]
   ·exact nomatch e
  ·rcases qh aq with⟨j,u,rfl,e⟩|⟨y,u,rfl,e⟩
   ·exact nomatch e
   ·injection e with az _;rw[az]
 byValue:=λk v h=>by rcases qh h with⟨i,t,rfl,rfl⟩|⟨x,t,rfl,rfl⟩<;>rfl
 pyHash:=λbS h=>by
  rcases qh bS with⟨i,t,rfl,rfl⟩|⟨x,t,rfl,rfl⟩
  ·exact wpAny_pyHash_int h
  ·exact wpAny_pyHash_str h
 eqBool:=λb7 bS h=>by
  rcases qh b7 with⟨i,t,rfl,rfl⟩|⟨x,t,rfl,rfl⟩
  ·rcases qh bS with⟨j,u,rfl,rfl⟩|⟨y,u,rfl,rfl⟩
   ·rw[ahI]at h;exact wpAny_eqBool_int h
   ·rw[ahK]at h;exact SeqAt.EqAt.int_str i t y u _ _ _ _ h
  ·rcases qh bS with⟨j,u,rfl,rfl⟩|⟨y,u,rfl,rfl⟩
   ·rw[ahL]at h;exact SeqAt.EqAt.str_int x t j u _ _ _ _ h
   ·rw[ahJ]at h;exact wpAny_eqBool_str h
 «strs»:=λk x t v h=>by
  rcases qh h with⟨i,u,rfl,e⟩|⟨y,u,rfl,e⟩
  ·exact nomatch e
  ·injection e with az _;subst az
   exists v<;>rfl
def YW(prog:dx)(w:c3)(i:Int)(t:Tok):(hH prog w).is (.inl i) (.int i t)=Y0:=YU i t
def YX(prog:dx)(w:c3)(x:Str)(t:Tok):(hH prog w).is (.inr x) (.str x t)=Y0:=YV x t
inductive V where
 |br|aC (b:Bool)|int (i:Int)|str (x:Str)|sP (b:Array UInt8)|uS (b:UInt64)|ref (a:Addr)|ty (n:String)
 deriving DecidableEq
def cW:V->mt->Prop
 |.br,u=>u=Value.none
 |.aC b,u=>u=Value.bool b
 |.int i,u=>∃t,u=Value.int i t
 |.str x,u=>∃t,u=Value.str x t
 |.sP b,u=>∃t,u=Value.bytes b t
 |.uS b,u=>∃t,u=Value.float b t
 |.ref a,u=>u=Value.ref a
 |.ty n,u=>u=Value.type n
abbrev cG:List V->List mt->Prop:=Paired cW
theorem cG.length(r:cG xs us):xs.H=us.H:=Paired.length r
theorem cG.get:∀{xs:List V} {us:List mt} {i:Nat} {x:V},cG xs us->xs[i]?=J x->∃u,us[i]?=J u/\cW x u
 |_,_,_,_,.nil,e=>by simp at e
 |_,_,0,_,.cons r _,e=>by simp at e;subst e;exact⟨_,rfl,r⟩
 |_,_,i+1,x,.cons _ t,e=>by obtain⟨u,af,ak⟩:=cG.get (i:=i) (x:=x) t (by simpa using e);exact⟨u,by simpa using af,ak⟩
theorem cG.set(r:cW x u):∀{xs:List V} {us:List mt} (i:Nat),cG xs us->cG (xs.set i x) (us.set i u)
 |_,_,_,.nil=>.nil
 |_,_,0,.cons _ t=>.cons r t
 |_,_,i+1,.cons q t=>.cons q<|cG.set r i t
theorem cG.append:∀{xs aO:List V} {us ws:List mt},cG xs us->cG aO ws->cG (xs++aO) (us++ws)
 |_,_,_,_,.nil,s=>s
 |_,_,_,_,.cons r t,s=>.cons r<|cG.append t s
theorem cG.take:∀{xs:List V} {us:List mt} (n:Nat),cG xs us->cG (xs.take n) (us.take n)
 |_,_,0,_=>.nil
 |_,_,_+1,.nil=>.nil
 |_,_,n+1,.cons r t=>.cons r<|cG.take n t
theorem cG.drop:∀{xs:List V} {us:List mt} (n:Nat),cG xs us->cG (xs.drop n) (us.drop n)
 |_,_,0,r=>r
 |_,_,_+1,.nil=>.nil
 |_,_,n+1,.cons _ t=>cG.drop n t
def x9:Option V->Option mt->Prop
 |some v,J u=>cW v u
 |none,C=>True
 |_,_=>False
def fq{κ:Type}:List (κ×V)->List (κ×mt)->Prop:=Paired λ(p:κ×V) (q:κ×mt)=>p.1=q.1/\cW p.2 q.2
noncomputable def eA:Key->V
 |.inl i=>.int i
 |.inr x=>.str x
inductive jV where
 |ao (xs:List V)
 |aD (xs:List V)
 |aw (ay:List<|Key×V)
 |set (cc:Int->Bool) (n:Nat)
 |hI (lo hi:Int)
 |en (o:Obj) (u:jV)
 |ext (φ:Heap->Prop)
abbrev aJ:=Addr->Option jV
noncomputable def c4(H:aJ)(a:Addr)(o:jV):aJ:=λb=>if b=a then J o else H b
def fB:c4 H a o a=J o:=by unfold c4;rw[Y2 rfl]
def e0(h:b≠a):c4 H a o b=H b:=by unfold c4;rw[Y3 h]
def Uc{H:aJ}{a b:Addr}{o u:jV}(h:H a=J o)(h':H b=J u)(d:o≠u):a≠b:=by intro e;subst e;rw[h]at h';exact d<|Option.some.inj h'
def w8{H:aJ}{a b:Addr}{o:jV}(h:H a=J o)(h':H b=C):a≠b:=by intro e;subst e;rw[h]at h';exists h'
def mh(h:Heap)(a:Addr)(items:Array mt):Prop:=∃o,h.get? a=J o/\o.cls=.type "tuple" /\ o.dict=C/\∃n,o.d=.seq items n
def mh.aD{h:Heap}{a:Addr}{items:Array mt}(x:mh h a items):IsTup h a items:=let ⟨o,aZ,aT,_,r⟩:=x;⟨o,aZ,aT,r⟩
def mh.new(h:Heap)(items:Array mt):mh (h.push { cls:=.type "tuple",data:=.seq items}) h.E.O items:=⟨_,gB _ rfl,rfl,rfl,_,rfl⟩
theorem mh.lt(x:mh h a items):a<h.E.O:=x.aD.lt
section
variable (P:dx)(w:c3)
def gO(H:aJ)(h:Heap)(a:Addr):jV->Prop
 |.ao xs=>xs.H<=dg/\∃(a5:List mt) (n:Nat),cG xs a5/\h.get? a=J { cls:=.type "list",data:=.seq a5.B n}
 |.aD xs=>xs.H<=dg/\∃a5:List mt,cG xs a5/\mh h a a5.B
 |.aw ay=>ay.H<=dg/\(a==qX)=Y1/\∃ah,fq ay ah/\h.DictOf (hH P w) a ah
 |.set cc n=>h.SetOf (i2 P w) a cc n
 |.hI lo hi=>∃t u v,h.get? a=J { cls:=.type "range",data:=.fields #[.int lo t,.int hi u,.int 1 v]}
 |.en o u=>h.get? a=J o/\gO H h a u
 |.ext φ=>φ h/\(∃o,h.get? a=J o)/\∀af ak:Heap,φ af->(∀o,af.get? a=J o->ak.get? a=J o)->φ ak
def gj(H:aJ)(h:Heap):Prop:=∀a o,H a=J o->gO P w H h a o
end
section
variable {P:dx}{w:c3}{H aj:aJ}{h h':Heap}{a:Addr}{o:jV}
theorem gO.lt(x:gO P w H h a o):a<h.E.O:=by
 cases o with
 |ao xs=>obtain⟨_,_,_,_,e⟩:=x;exact d5 e
 |aD xs=>obtain⟨_,_,_,p⟩:=x;exact p.lt
 |aw ay=>obtain⟨_,_,_,_,o,_,_,e,_⟩:=x;exact d5 e
 |set cc n=>obtain⟨o,_,_,_,e,_⟩:=x;exact d5 e
 |hI lo hi=>obtain⟨_,_,_,e⟩:=x;exact d5 e
 |en bJ u=>obtain⟨e,_⟩:=x;exact d5 e
 |ext φ=>obtain⟨_,⟨_,e⟩,_⟩:=x;exact d5 e
def gO.pz(x:gO P w H h a o)(k:∀u,h.get? a=J u->h'.get? a=J u):gO P w aj h' a o:=by
 induction o with
 |ao xs=>obtain⟨z,a5,n,r,e⟩:=x;exact⟨z,a5,n,r,k _ e⟩
 |aD xs=>obtain⟨z,a5,r,bJ,e,c⟩:=x;exact⟨z,a5,r,bJ,k _ e,c⟩
 |aw ay=>obtain⟨z,y,ah,r,bJ,es,ep,e,c⟩:=x;exact⟨z,y,ah,r,bJ,es,ep,k _ e,c⟩
 |set cc n=>obtain⟨bJ,es,ep,t,e,c⟩:=x;exact⟨bJ,es,ep,t,k _ e,c⟩
 |hI lo hi=>obtain⟨t,u,v,e⟩:=x;exact⟨t,u,v,k _ e⟩
 |en bJ u a4=>obtain⟨e,q⟩:=x;exact⟨k _ e,a4 q⟩
 |ext φ=>obtain⟨p,⟨o,e⟩,st⟩:=x;exact⟨st _ _ p λo q=>k _ q,⟨o,k _ e⟩,st⟩
theorem gj.lt(x:gj P w H h)(e:H a=J o):a<h.E.O:=(x a o e).lt
def gj.fresh(x:gj P w H h)(e:h.E.O<=a):H a=C:=by
 cases q:H a with
 |none=>rfl
 |some u=>exact absurd (d4 (x.lt q) e)<|oD _
def gj.kept(x:gj P w H h)(k:∀b u,h.get? b=J u->h'.get? b=J u):gj P w H h':=λa o e =>
 (x a o e).pz (k a)
def gj.laid(x:gj P w H h)(k:∀b u,h.get? b=J u->h'.get? b=J u)(aF:h.E.O<=a)(new:gO P w (c4 H a o) h' a o):gj P w (c4 H a o) h':=λb u e=>by
 have bz:=x.fresh aF;by_cases aq:b=a
 ·subst aq;rw[fB]at e;exists e;exact new
 ·rw[e0 aq]at e;exact(x b u e).pz (k b)
end
def iM(H:aJ)(a:Addr)(u:jV):Prop:=H a=J u\/∃o,H a=J (.en o u)
def iM.ok(r:iM H a u)(x:gj P w H h):gO P w H h a u:=by
 rcases r with r|⟨o,r⟩
 ·exact x a u r
 ·obtain⟨_,q⟩:=x a _ r;exact q
def zG:Option jV->Prop
 |some (.ao _)=>True
 |some (.aw _)=>True
 |some (.set _ _)=>True
 |some (.ext _)=>True
 |_=>False
section
variable {P:dx}{w:c3}{H:aJ}{h h':Heap}{x e:Addr}{dh:jV}
def gj.write(ok:gj P w H h)(sv:zG<|H x)(k:∀b u,b≠x->h.get? b=J u->h'.get? b=J u)(new:gO P w (c4 H x dh) h' x dh):gj P w (c4 H x dh) h':=λb u q=>by
 by_cases aq:b=x
 ·subst aq;rw[fB]at q;exists q;exact new
 ·rw[e0 aq]at q;exact(ok b u q).pz (λv r=>k b v aq r)
end
structure gd (cm ex:List Addr) (H aj:aJ) (h h':Heap):Prop where
 keep:∀b o,h.get? b=J o->H b=C->b∉cm->b∉ex->h'.get? b=J o
 slot:∀b o,h.get? b=J o->H b=C->b∈cm->b∉ex->∃cX,h'.get? b=J { o with slots:=cX}
 free:∀b o,h.get? b=J o->H b=C->b∉ex->aj b=C
 there:∀b o,h.get? b=J o->b∉ex->∃dh,h'.get? b=J dh
 pA:∀b xs,H b=J (.aD xs)->aj b=J (.aD xs)
 ob:∀b o u,H b=J (.en o u)->aj b=J (.en o u)
section
variable {cm anJ ex anK:List Addr}{H H1 bV:aJ}{h af ak h':Heap}{a x e:Addr}{o:jV}
def gd.any(u:gd cm ex H H1 h af)(q:h.get? b=J bJ)(n:H b=C)(av:b∉ex):∃cX,af.get? b=J { bJ with slots:=cX}:=by
 by_cases aq:b∈cm
 ·exact u.slot b bJ q n aq av
 ·exact⟨bJ.slots,u.keep b bJ q n aq av⟩
def gd.kept(k:∀b u,h.get? b=J u->h'.get? b=J u):gd cm ex H H h h' :=
 ⟨λb bJ q _ _ _=>k b bJ q,λb bJ q _ _ _=>⟨bJ.slots,k b bJ q⟩,λ_ _ _ n _=>n,λb bJ q _=>⟨bJ,k b bJ q⟩,λ_ _ q=>q,λ_ _ _ q=>q⟩
def gd.refl:gd cm ex H H h h:=gd.kept λ_ _ q=>q
def gd.laid(k:∀b u,h.get? b=J u->h'.get? b=J u)(aF:h.E.O<=a)(bz:H a=C):gd cm ex H (c4 H a o) h h' where
 keep:=λb u q _ _ _=>k b u q
 slot:=λb u q _ _ _=>⟨u.slots,k b u q⟩
 free:=λb u q n _=>by rw[e0<|bv<|d4 (d5 q) aF];exact n
 there:=λb u q _=>⟨u,k b u q⟩
 pA:=λb xs q=>by rw[e0<|w8 q bz];exact q
 ob:=λb u xs q=>by rw[e0<|w8 q bz];exact q
def gd.write(sv:zG<|H x)(k:∀b u,b≠x->h.get? b=J u->h'.get? b=J u)(Iu:∃u,h'.get? x=J u):gd cm ex H (c4 H x o) h h':=by
 have hm:∀b u,H b=u->¬zG u->b≠x:=λb u q nm z=>by subst z;rw[q]at sv;exact nm sv
 refine⟨λb u q n _ _=>k b u (hm b _ n id) q,λb u q n _ _=>⟨u.slots,k b u (hm b _ n id) q⟩,λb u q n _=>by rw[e0<|hm b _ n id];exact n,λb u q _=>?_,λb xs q=>by rw[e0<|hm b _ q id];exact q,λb u xs q=>by rw[e0<|hm b _ q id];exact q⟩;by_cases aq:b=x
 ·subst aq;exact Iu
 ·exact⟨u,k b u aq q⟩
end
noncomputable def Di(h:Heap)(H:aJ):List Addr:=(List.range h.E.O).filter λa=>(H a).isSome
def rP(h:Heap)(H:aJ):Heap:=W.hideAll h<|Di h H
def YY(h:Heap)(H:aJ):(rP h H).E.O=h.E.O:=W.hideAll_size _ _
def alv(e:h.get? b=J o)(n:H b=C):(rP h H).get? b=J o :=
 W.hideAll_get _ e λhm=>by have q:(H b).isSome=Y0:=(lz.mp hm).2;rw[n]at q;simp at q
def ajB(e:(rP h H).get? b=J o):h.get? b=J o/\H b=C:=by
 have bN:h.get? b=J o:=W.of_hideAll (Di h H) e;refine⟨bN,?_⟩;cases q:H b with
 |none=>rfl
 |some x =>
  have hm:b∈Di h H:=lz.mpr ⟨nr.mpr<|d5 bN,by simp[q]⟩;have z:(rP h H).get? b=C:=W.hideAll_none (Di h H) hm;rw[z]at e;exists e
noncomputable def ajC(g h:Heap)(L:Addr):List Z1:=(List.range h.E.O).filterMap λa=>if a=L\/(g.get? a).isSome=Y0 then C else(h.get? a).map λo=>(a,o)
noncomputable def rest(g h:Heap)(L d:Addr):List Z1:=(ajC g h L).filter λp=>decide (p.1≠d)
structure Mod (K:W.Frag) (a3:Str->Option mt) (base:Heap):Prop where
 fl:K.In base
 glob:base.Ns kQ a3
 blt:∃lD,base.Ns builtinsNs lD/\∀x:Str,x ≠ "__name__" -> lD x=l6 x
 nolimit:base.NoLimit
structure bI where
 prog:dx
 w:c3
 K:W.Frag
 a3:Str->Option mt
 base:Heap
 A:dH
 N:List Str
 cD:aR
 dI:aJ
 env:Env
 cj:List Env
 stack:List Env
 ex:List Addr
 fn:Str->Bool
 calm:Bool
 gC:List Z1
 cv:mt->aR->Prop
noncomputable def hb(l:List Env):List Addr:=l.filterMap (·.frame)
noncomputable abbrev bI.cm(X:bI):List Addr:=hb X.cj
def qi(sc:jq)(x:Str):Prop:=sc.names.lookup x=J .local\/sc.names.lookup x=J .cell\/sc.names.lookup x=J .free
def Loc(sc:jq)(x:Str):Prop:=sc.names.lookup x=J .local\/sc.names.lookup x=J .cell
def Look(env:Env)(h:Heap)(m:Str->Option mt)(x:Str)(u:mt):Prop :=
 (env.kindOf x=J .local/\m x=J u)\/((env.kindOf x=J .cell\/env.kindOf x=J .free)/\∃c,env.cells.lookup x=J c/\h.IsCell c (J u))
structure bI.Ok (X:bI):Prop where
 mod:Mod X.K X.a3 X.V
 kind:X.I.Y.kind=.function
 glob:X.I.globals=kQ
 blt:X.I.builtins=builtinsNs
 above:X.cD.L<=X.env.locals
 inj:∀x y c,X.env.cells.lookup x=J c->X.env.cells.lookup y=J c->x=y
 has:∀x,(X.env.kindOf x=J .cell\/X.env.kindOf x=J .free)->∃c,X.env.cells.lookup x=J c
 ri:∀x c,X.fn x=Y0->X.env.cells.lookup x=J c->X.cD.L<=c
 hd:X.calm=Y0->X.A.handled=C
 frames:X.A.frames=J X.stack
 sQ:X.stack=X.cj\/(X.stack=X.I::X.cj/\X.I.frame=J X.I.locals)
 sR:∀b∈X.ex,b≠X.I.locals/\∀x c,X.env.cells.lookup x=J c->c≠b
 bs:∀b o,X.base.get? b=J o->X.cD.heap.get? b=J o/\X.dI b=C
 mU:X.V.E.O<=X.cD.L
 rQ:∀b o,X.base.get? b=J o->b∉X.ex
 rR:∀b∈X.ex,b∉X.cm
 kD:X.cD.heap.FunFrames X.V X.cj
 o1:∀b∈X.cm,X.dI b=C
structure aS (X:bI) (ae:List Z1) (O:List<|Option V) (H:aJ) (s:aR):Prop where
 ok:X.Ok
 os:s.os=X.cD.os
 ft:oH s.gens
 base:gd X.cm X.ex X.dI H X.cD.Q s.Q
 loc:∃m,s.heap.Ns X.I.locals m/\∀(i:Nat) (x:Str) (v:V),X.N[i]?=J x->O[i]?=J (J v)->qi X.I.Y x->∃u,cW v u/\Look X.I s.Q m x u
 cell:∀x c,X.env.cells.lookup x=J c->∃v,s.heap.IsCell c v
 free:H X.I.locals=C
 kI:∀x c,X.env.cells.lookup x=J c->H c=C
 pin:∀p∈X.gC++ae,s.heap.get? p.1=J p.2/\H p.1=C/\p.1≠X.I.locals/\p.1∉X.cm/\∀v,p.2.d≠.cell v
 b1:gj X.R X.w H s.Q
 len:O.H=X.N.H
section
variable {X:bI}{ae:List Z1}{O:List<|Option V}{H aj:aJ}{s:aR}{h':Heap}
def bI.Ok.afC(ok:X.Ok)(e:X.base.get? b=J o):b∉X.cm:=λaq=>by have:=(ok.kD.mem aq).1;rw[e]at this;exists this
theorem aS.bs(I:aS X ae O H s):∀b o,X.base.get? b=J o->s.heap.get? b=J o/\H b=C:=λb o e =>
 ⟨I.base.keep b o (I.ok.bs b o e).1 (I.ok.bs b o e).2 (I.ok.afC e) (I.ok.rQ b o e),I.base.free b o (I.ok.bs b o e).1 (I.ok.bs b o e).2 (I.ok.rQ b o e)⟩
def aS.gr(I:aS X ae O H s):∀b o,X.base.get? b=J o->s.heap.get? b=J o:=λb o e=>(I.bs b o e).1
theorem aS.mod(I:aS X ae O H s):Mod X.K X.a3 X.V:=I.ok.mod
def aS.hJ(I:aS X ae O H s):X.K.In s.Q:=I.ok.mod.fl.keeps I.gr
theorem aS.lt(I:aS X ae O H s):X.I.locals<s.L:=let ⟨_,bz,_⟩:=I.loc;bz.lt
def aS.wD(I:aS X ae O H s):X.cD.L<=s.L:=bP I.ok.above<|ez I.lt
def aS.afD(I:aS X ae O H s){a:Addr}(h:s.L<=a):a∉X.cm:=λaq=>by obtain⟨_,o,aZ,_⟩:=I.ok.kD.mem aq;exact absurd (d4 (d5 aZ)<|bP I.wD h)<|oD _
def aS.o2(I:aS X ae O H s):∀x c,X.env.cells.lookup x=J c->c≠X.I.locals:=λx c e z=>by obtain⟨v,o,aZ,hd⟩:=I.cell x c e;obtain⟨m,⟨dh,es,ep,ko,mV,_⟩,_⟩:=I.loc;rw[z,ko]at aZ;exists aZ;rw[mV]at hd;exists hd
theorem aS.kD(I:aS X ae O H s):s.heap.FunFrames X.V X.cj:=by
 have all:∀(l:List Env),(∀b∈hb l,b∈X.cm)->X.cD.heap.FunFrames X.V l->s.heap.FunFrames X.V l:=by
  intro l
  induction l with
  |nil=>intro _ _;trivial
  |cons env r a4 =>
   intro aP aB;obtain⟨aW,⟨L,o,hf,bz,aZ,hd⟩,aV⟩:=aB;have ek:L∈X.cm:=aP L (by unfold hb;rw[r4,hf];exact dS);obtain⟨cX,e⟩:=I.base.slot L o aZ (I.ok.o1 L ek) ek λz=>I.ok.rR L z ek;exact⟨aW,⟨L,_,hf,bz,e,hd⟩,a4 (λb aq=>aP b<|by unfold hb;rw[r4,hf];exact am _ aq) aV⟩
 exact all X.cj (λ_ aq=>aq) I.ok.kD
theorem aS.stack(I:aS X ae O H s):s.heap.FunFrames X.V X.stack:=by
 rcases I.ok.sQ with e|⟨e,hf⟩
 ·rw[e];exact I.kD
 ·rw[e];obtain⟨m,bz,_⟩:=I.loc;refine .cons (by rw[I.ok.kind];decide) hf bz ?_ I.kD;exact Heap.get?_none_of_le<|bP I.ok.mU I.ok.above
def aS.Mp(I:aS X ae O H s):∀b∈hb X.stack,b∈X.I.locals::X.cm:=λb aq=>by
 rcases I.ok.sQ with e|⟨e,hf⟩
 ·rw[e]at aq;exact am _ aq
 ·rw[e]at aq;unfold hb at aq;rw[r4,hf]at aq;exact aq
def aS.Gy(I:aS X ae O H s):∀b∈hb X.stack,H b=C:=λb aq=>by
 rcases d3.mp (I.Mp b aq) with e|aq
 ·rw[e];exact I.free
 ·obtain⟨_,o,aZ,_⟩:=I.ok.kD.mem aq;exact I.base.free b o aZ (I.ok.o1 b aq) λz=>I.ok.rR b z aq
def aS.step{g':Array GenState}{t':Nat}{d':Drawn}{ch:List Addr}(I:aS X ae O H s)
  (qj:∀b∈ch,(b∈X.ex\/X.cD.L<=b)/\b≠X.I.locals/\(∀x c,X.env.cells.lookup x=J c->c≠b)/\∀p∈X.gC++ae,p.1≠b)
  (keep:∀b o,b≠X.I.locals->b∉X.cm->b∉ch->s.heap.get? b=J o->H b=C->h'.get? b=J o)
  (slot:∀b o,b≠X.I.locals->b∈X.cm->b∉ch->s.heap.get? b=J o->H b=C->∃cX,h'.get? b=J { o with slots:=cX}) (free:∀b o,b∉ch->s.heap.get? b=J o->H b=C->aj b=C)
  (there:∀b o,b∉ch->s.heap.get? b=J o->∃dh,h'.get? b=J dh)
  (pA:∀b xs,H b=J (.aD xs)->aj b=J (.aD xs)) (ob:∀b o u,H b=J (.en o u)->aj b=J (.en o u))
  (ns:∀m,s.heap.Ns X.I.locals m->h'.Ns X.I.locals m) (b1:gj X.R X.w aj h') (bT:oH g') :
  aS X ae O aj { s with heap:=h',gens:=g',drawn:=d',toks:=t'}:=by
 have Ol:∀b o,X.cD.heap.get? b=J o->b≠X.I.locals:=λb o e=>bv<|d4 (d5 e) I.ok.above;have Dj:∀b o,X.cD.heap.get? b=J o->b∉X.ex->b∉ch:=λb o e av aq=>by
  rcases(qj b aq).1 with z|z
  ·exact av z
  ·exact absurd (d4 (d5 e) z)<|oD _
 have cellK:∀x c,X.env.cells.lookup x=J c->∀v,s.heap.IsCell c v->h'.IsCell c v:=λx c e v ⟨o,aZ,hd⟩=>by
  have zH:c∉ch:=λz=>(qj c z).2.2.1 x c e rfl;by_cases aT:c∈X.cm
  ·obtain⟨cX,q⟩:=slot c o (I.o2 x c e) aT zH aZ<|I.kI x c e;exact⟨_,q,hd⟩
  ·exact⟨o,keep c o (I.o2 x c e) aT zH aZ<|I.kI x c e,hd⟩
 refine⟨I.ok,I.os,bT,⟨λb o e n aq av=>?_,λb o e n aq av=>?_,λb o e n av=>?_,λb o e av=>?_,λb xs e=>pA b xs<|I.base.pA b xs e,λb o xs e=>ob b o xs<|I.base.ob b o xs e⟩,?_,λx c e=>?_,?_,λx c e=>?_,λp aF=>?_,b1,I.len⟩
 ·exact keep b o (Ol b o e) aq (Dj b o e av) (I.base.keep b o e n aq av)<|I.base.free b o e n av
 ·obtain⟨cX,az⟩:=I.base.slot b o e n aq av;obtain⟨Dk,au⟩:=slot b _ (Ol b o e) aq (Dj b o e av) az<|I.base.free b o e n av;exact⟨Dk,au⟩
 ·obtain⟨dh,az⟩:=I.base.there b o e av;exact free b dh (Dj b o e av) az<|I.base.free b o e n av
 ·obtain⟨dh,az⟩:=I.base.there b o e av;exact there b dh (Dj b o e av) az
 ·obtain⟨m,bz,aB⟩:=I.loc;refine⟨m,ns m bz,λi x v az au a6=>?_⟩;obtain⟨u,r,l⟩:=aB i x v az au a6;refine⟨u,r,?_⟩;rcases l with l|⟨k,c,e,z⟩
  ·exact .inl l
  ·exact .inr ⟨k,c,e,cellK x c e _ z⟩
 ·obtain⟨v,z⟩:=I.cell x c e;exact⟨v,cellK x c e v z⟩
 ·obtain⟨m,⟨o,_,_,aZ,_⟩,_⟩:=I.loc;exact free _ o (λz=>(qj _ z).2.1 rfl) aZ I.free
 ·obtain⟨v,o,aZ,hd⟩:=I.cell x c e;exact free c o (λz=>(qj c z).2.2.1 x c e rfl) aZ<|I.kI x c e
 ·obtain⟨e,n,ne,nE,d⟩:=I.pin p aF;have zH:p.1∉ch:=λz=>(qj p.1 z).2.2.2 p aF rfl;exact⟨keep p.1 p.2 ne nE zH e n,free p.1 p.2 zH e n,ne,nE,d⟩
def aS.un{t':Nat}(I:aS X ae O H s)(u:gd X.cm [] H aj s.Q h')(b1:gj X.R X.w aj h'):aS X ae O aj { s with heap:=h',toks:=t'}:=by
 obtain⟨m,⟨o,es,ep,aZ,r⟩,_⟩:=id I.loc;obtain⟨cX,ek⟩:=u.any aZ I.free Z7
 exact I.step (g':=s.gens) (d':=s.drawn) (ch:=[]) (λ_ z=>nomatch z) (λb o _ aq _ e n=>u.keep b o e n aq Z7) (λb o _ aq _ e n=>u.slot b o e n aq Z7) (λb o _ e n=>u.free b o e n Z7) (λb o _ e=>u.there b o e Z7) u.pA u.ob (λgf hm=>by
  obtain⟨dh,je,sS,ko,b5⟩:=hm;rw[aZ]at ko;exists ko
  exact⟨_,je,sS,ek,b5⟩) b1 I.ft
def aS.call{t':Nat}(I:aS X ae O H s)(u:gd (hb X.stack) ch H aj s.Q h')(b1:gj X.R X.w aj h')(bT:oH g')
  (qj:∀b∈ch,(b∈X.ex\/X.cD.L<=b)/\b≠X.I.locals/\(∀x c,X.env.cells.lookup x=J c->c≠b)/\∀p∈X.gC++ae,p.1≠b) :
  aS X ae O aj { s with heap:=h',gens:=g',drawn:=d',toks:=t'}:=by
 obtain⟨m,⟨o,es,ep,aZ,r⟩,_⟩:=id I.loc;obtain⟨cX,ek⟩:=u.any aZ I.free λz=>(qj _ z).2.1 rfl
 exact I.step (ch:=ch) qj (λb o ek aq aT e n=>u.keep b o e n (λz=>(d3.mp<|I.Mp b z).elim ek aq) aT) (λb o _ _ aT e n=>u.any e n aT) (λb o aT e n=>u.free b o e n aT) (λb o aT e=>u.there b o e aT) u.pA u.ob (λgf hm=>by
  obtain⟨dh,je,sS,ko,b5⟩:=hm;rw[aZ]at ko;exists ko
  exact⟨_,je,sS,ek,b5⟩) b1 bT
def aS.turned{t':Nat}(I:aS X ae O H s)(k:∀b o,b≠it->s.heap.get? b=J o->h'.get? b=J o)(bz:H it=C)(ek:it≠X.I.locals)
  (af:it∈X.ex\/X.cD.L<=it) (ak:∀x c,X.env.cells.lookup x=J c->c≠it) (bc:∀p∈X.gC++ae,p.1≠it):aS X ae O H { s with heap:=h',toks:=t'}:=by
 have Iv:∀b u,H b=J u->b≠it:=λb u e z=>by rw[z,bz]at e;exists e
 refine I.step (g':=s.gens) (d':=s.drawn) (ch:=[it]) (λb aq=>?_) (λb o _ _ aT e _=>k b o (λz=>aT<|by simp[z]) e) (λb o _ _ aT e _=>⟨o.slots,k b o (λz=>aT<|by simp[z]) e⟩) (λ_ _ _ _ n=>n)
  (λb o aT e=>⟨o,k b o (λz=>aT<|by simp[z]) e⟩) (λ_ _ e=>e) (λ_ _ _ e=>e) (λm hm=>?_) (λb u e=>?_) I.ft
 ·have e:b=it:=by simpa using aq
  subst e;exact⟨af,ek,ak,bc⟩
 ·obtain⟨o,es,ep,aZ,r⟩:=hm;exact⟨o,es,ep,k _ o (Ne.symm ek) aZ,r⟩
 ·exact(I.b1 b u e).pz (λv q=>k b v (Iv b u e) q)
def aS.tok(I:aS X ae O H s)(t:Nat):aS X ae O H { s with toks:=t}:=I.un (h':=s.Q) (t':=t) gd.refl I.b1
theorem aS.kept{t':Nat}(I:aS X ae O H s)(k:∀b u,s.heap.get? b=J u->h'.get? b=J u):aS X ae O H { s with heap:=h',toks:=t'}:=I.un (gd.kept k) (I.b1.kept k)
theorem aS.laid{a:Addr}{o:jV}{t':Nat}(I:aS X ae O H s)(k:∀b u,s.heap.get? b=J u->h'.get? b=J u)(aF:s.L<=a)(new:gO X.R X.w (c4 H a o) h' a o) :
  aS X ae O (c4 H a o) { s with heap:=h',toks:=t'}:=I.un (gd.laid k aF (I.b1.fresh aF)) (I.b1.laid k aF new)
theorem aS.write{t':Nat}(I:aS X ae O H s)(sv:zG<|H x)(k:∀b u,b≠x->s.heap.get? b=J u->h'.get? b=J u)(Iu:∃u,h'.get? x=J u)
  (new:gO X.R X.w (c4 H x o) h' x o):aS X ae O (c4 H x o) { s with heap:=h',toks:=t'}:=I.un (gd.write sv k Iu) (I.b1.write sv k new)
def aS.VB(I:aS X ae O H s)(h:∀p∈Ga,s.heap.get? p.1=J p.2/\H p.1=C/\p.1≠X.I.locals/\p.1∉X.cm/\∀v,p.2.d≠.cell v):aS X Ga O H s :=
 ⟨I.ok,I.os,I.ft,I.V,I.loc,I.cell,I.free,I.kI,λp aF=>(hQ.mp aF).elim (λz=>I.pin p<|pM _ z) (h p),I.b1,I.len⟩
def Dl{N:List Str}(dJ:N.Nodup){i j:Nat}(a:N[i]?=J x)(b:N[j]?=J x):i=j:=by obtain⟨af,az⟩:=kK.mp a;obtain⟨ak,au⟩:=kK.mp b;exact(MN dJ).mp (az.trans au.symm)
def Om{i:Nat}(I:aS X ae O H s)(dJ:X.N.Nodup)(hi:X.N[i]?=J x)(av:Loc X.I.Y x)(r:cW v u)
  (h:∀s',aS X ae (O.set i<|some v) H s'->(∃a,Heap.SameBut a s.Q s'.Q/\(a=X.I.locals\/X.env.cells.lookup x=J a))->Q () s') (hf:autoParam ZW pW):bl M A (storeName X.I x u) Q E s:=by
 obtain⟨m,bz,aB⟩:=id I.loc;have LM:(X.I.Y.kind==.class||(X.I.Y.kind==.module&&X.I.locals != X.I.globals))=Y1:=by rw[I.ok.kind];rfl
 have Oo:i<O.H:=by rw[I.len];exact(kK.mp hi).1
 have o2:=I.o2;have tracked:∀{a:Addr} {h':Heap},(∃o,s.heap.get? a=J o/\H a=C)->Heap.SameBut a s.Q h'->gj X.R X.w H h':=λ{a h'} ba aP b bJ e=>by obtain⟨_,_,Gb⟩:=ba;exact(I.b1 b bJ e).pz (λfS q=>(aP.2 b<|by rintro rfl;rw[Gb]at e;cases e).trans q)
 rcases av with aW|aW
 ·refine wpAny_storeName_local aW bz (λh' Iw aP=>?_) LM;obtain⟨Nf,_,_,w9,_⟩:=id bz;refine h _ ⟨I.ok,I.os,I.ft,⟨λb o e n aq av=>?_,λb o e n aq av=>?_,I.V.free,λb o e av=>?_,I.V.pA,I.V.ob⟩,⟨_,Iw,λj y hS az au a6=>?_⟩,λy c e=>?_,I.free,I.kI,λp aF=>?_,tracked ⟨Nf,w9,I.free⟩ aP,by simpa using I.len⟩ ⟨_,aP,.inl rfl⟩
  ·exact(aP.2 b<|bv<|d4 (d5 e) I.ok.above).trans (I.base.keep b o e n aq av)
  ·obtain⟨cX,az⟩:=I.base.slot b o e n aq av;exact⟨cX,(aP.2 b<|bv<|d4 (d5 e) I.ok.above).trans az⟩
  ·obtain⟨dh,az⟩:=I.base.there b o e av;exact⟨dh,(aP.2 b<|bv<|d4 (d5 e) I.ok.above).trans az⟩
  ·by_cases bU:j=i
   ·subst bU;rw[hi]at az;exists az;rw[GF Oo]at au
    exists au
    exact⟨u,r,.inl ⟨aW,by simp⟩⟩
   ·rw[GJ<|Ne.symm bU]at au;obtain⟨fu,b5,q⟩:=aB j y hS az au a6;refine⟨fu,b5,?_⟩;rcases q with⟨k,e⟩|⟨k,c,e,z⟩
    ·refine .inl ⟨k,?_⟩;have:y≠x:=λe=>bU<|Dl dJ az<|e▸hi;simp[this,e]
    ·exact .inr ⟨k,c,e,z.sameBut aP<|o2 y c e⟩
  ·obtain⟨fS,z⟩:=I.cell y c e;exact⟨fS,z.sameBut aP<|o2 y c e⟩
  ·obtain⟨e,n,ne,nE,d⟩:=I.pin p aF;exact⟨(aP.2 p.1 ne).trans e,n,ne,nE,d⟩
 ·have Iy:X.fn x=Y0:=by
   rcases hf with z|z
   ·exact z
   ·rw[z]at aW;exists aW
  obtain⟨c,aT⟩:=I.ok.has x<|.inl aW;obtain⟨fS,z⟩:=I.cell x c aT;refine wpAny_storeName_cell I.ok.kind aW aT z λh' sT aP=>?_;obtain⟨js,Oq,afE⟩:=id z;refine h { s with heap:=h'} ⟨I.ok,I.os,I.ft,⟨λb o e n aq av=>?_,λb o e n aq av=>?_,I.V.free,λb o e av=>?_,I.V.pA,I.V.ob⟩,⟨m,bz.sameBut aP<|Ne.symm<|o2 x c aT,λj y hS az au a6=>?_⟩,λy cH e=>?_,I.free,I.kI,λp aF=>?_,tracked ⟨js,Oq,I.kI x c aT⟩ aP,by simpa using I.len⟩ ⟨c,aP,.inr aT⟩
  ·exact(aP.2 b<|bv<|d4 (d5 e)<|I.ok.ri x c Iy aT).trans (I.base.keep b o e n aq av)
  ·obtain⟨cX,az⟩:=I.base.slot b o e n aq av;exact⟨cX,(aP.2 b<|bv<|d4 (d5 e)<|I.ok.ri x c Iy aT).trans az⟩
  ·obtain⟨dh,az⟩:=I.base.there b o e av;exact⟨dh,(aP.2 b<|bv<|d4 (d5 e)<|I.ok.ri x c Iy aT).trans az⟩
  ·by_cases bU:j=i
   ·subst bU;rw[hi]at az;exists az;rw[GF Oo]at au
    exists au
    exact⟨u,r,.inr ⟨.inl aW,c,aT,sT⟩⟩
   ·rw[GJ<|Ne.symm bU]at au;obtain⟨fu,b5,q⟩:=aB j y hS az au a6;refine⟨fu,b5,?_⟩;rcases q with q|⟨k,cH,e,kR⟩
    ·exact .inl q
    ·refine .inr ⟨k,cH,e,kR.sameBut aP ?_⟩;rintro rfl;exact bU<|Dl dJ az<|I.ok.inj _ _ _ e aT▸hi
  ·by_cases Ot:cH=c
   ·subst Ot;exact⟨_,sT⟩
   ·obtain⟨fL,dD⟩:=I.cell y cH e;exact⟨fL,dD.sameBut aP Ot⟩
  ·obtain⟨e,n,ne,nE,d⟩:=I.pin p aF;refine⟨(aP.2 p.1 ?_).trans e,n,ne,nE,d⟩;intro q;rw[q,Oq]at e;have eM:js=p.2:=Option.some.inj e;exact d fS (by rw[<-eM];exact afE)
def Iz{i:Nat}(I:aS X ae O H s)(dJ:X.N.Nodup)(hi:X.N[i]?=J x)(av:Loc X.I.Y x)(r:cW v u)
  (h:∀s',aS X ae (O.set i<|some v) H s'->Q () s') (hf:autoParam ZW pW):bl M A (storeName X.I x u) Q E s :=
 Om I dJ hi av r (λs' eG _=>h s' eG) hf
def aS.Gd(I:aS X ae O H s)(aZ:s'.os=s.os)(u:gd (hb X.stack) ch H aj s.Q s'.Q)(b1:gj X.R X.w aj s'.Q)(bT:oH s'.gens)
  (qj:∀b∈ch,(b∈X.ex\/X.cD.L<=b)/\b≠X.I.locals/\(∀x c,X.env.cells.lookup x=J c->c≠b)/\∀p∈X.gC++ae,p.1≠b):aS X ae O aj s':=by
 obtain⟨h',g',d',t',dh⟩:=s';have e:dh=s.os:=aZ;subst e;exact I.call (g':=g') (t':=t') (d':=d') u b1 bT qj
end
abbrev iu:=mt->Option Addr->aJ->Prop
abbrev St:=List<|Option V
abbrev fg:=V->aJ->Prop
abbrev TE:=St->aJ->fg->Prop
abbrev TT:=St->aJ->(Bool->aJ->Prop)->Prop
abbrev kS:=St->aJ->(List V->aJ->Prop)->Prop
structure Ends where
 bD:St->aJ->Prop
 aU:fg
 gr:St->aJ->Prop:=λ_ _=>False
 eD:St->aJ->Prop:=λ_ _=>False
abbrev kT:=Ends->St->aJ->Prop
def f5(X:bI)(ae:List Z1)(O:St)(Q:fg)(u:mt)(s':aR):Prop:=∃v aj,aS X ae O aj s'/\cW v u/\Q v aj
def Ck(X:bI)(ae:List Z1)(O:St)(Q:Bool->aJ->Prop)(b:Bool)(s':aR):Prop:=∃aj,aS X ae O aj s'/\Q b aj
def VG(X:bI)(ae:List Z1)(O:St)(Q:List V->aJ->Prop)(us:List mt)(s':aR):Prop:=∃ah aj,aS X ae O aj s'/\cG ah us/\Q ah aj
def oJ(X:bI)(ae:List Z1)(D:Ends)(f:Flow)(s':aR):Prop :=
 match f with
 |.next=>∃U' aj,aS X ae U' aj s'/\D.bD U' aj
 |.brk=>∃U' aj,aS X ae U' aj s'/\D.gr U' aj
 |.cont=>∃U' aj,aS X ae U' aj s'/\D.eD U' aj
 |.ret u=>∃v U' aj,aS X ae U' aj s'/\cW v u/\D.aU v aj
def d6(X:bI)(e:Expr)(t:TE):Prop :=
 ∀(ae:List Z1) (s:aR) (O:St) (H:aJ) (Q:fg),aS X ae O H s->t O H Q->bl Z2 X.A (eval e X.I) (f5 X ae O Q) X.cv s
def nF(X:bI)(e:Expr)(t:TT):Prop :=
 ∀(ae:List Z1) (s:aR) (O:St) (H:aJ) (Q:Bool->aJ->Prop),aS X ae O H s->t O H Q->bl Z2 X.A (isTrue e X.I<|eval e X.I) (Ck X ae O Q) X.cv s
def yX(X:bI)(e:Expr)(t:TT):Prop :=
 ∀(whole:Sem mt) (ae:List Z1) (s:aR) (O:St) (H:aJ) (Q:Bool->aJ->Prop),aS X ae O H s->t O H Q->bl Z2 X.A (isTrue e X.I whole) (Ck X ae O Q) X.cv s
def yX.pt(h:yX X e t):nF X e t:=h _
def nG(X:bI)(es:List Expr)(t:kS):Prop :=
 ∀(pos:Pos) (ae:List Z1) (s:aR) (O:St) (H:aJ) (Q:List V->aJ->Prop),aS X ae O H s->t O H Q->bl Z2 X.A (sm<|ff pos<|b4 es X.I) (VG X ae O Q) X.cv s
def oK(X:bI)(st:Stmt)(t:kT):Prop :=
 ∀(ae:List Z1) (s:aR) (O:St) (H:aJ) (D:Ends),aS X ae O H s->t D O H->bl Z2 X.A (exec st X.I) (oJ X ae D) X.cv s
def kp(X:bI)(st:List Stmt)(t:kT):Prop :=
 ∀(ae:List Z1) (s:aR) (O:St) (H:aJ) (D:Ends),aS X ae O H s->t D O H->bl Z2 X.A (execs st X.I) (oJ X ae D) X.cv s
def b2{α:Type}{t:Sem α}{Q e8:α->aR->Prop}{M:Model}(h:bl M A t Q E s)(hC:∀a s,Q a s->e8 a s):bl M A t e8 E s:=hj h hC λ_ _ x=>x
section
variable {X:bI}
def afF(i:Nat):TE:=λO H Q=>∃v,O[i]?=J (J v)/\Q v H
def wF(v:V):TE:=λ_ H Q=>Q v H
def uT{i:Nat}(dJ:X.N[i]?=J x)(bS:qi X.I.Y x)(hd:autoParam ZH eL)(g0:autoParam ((x==("__classdict__" : Str))=Y1) eL):d6 X (.Name x pos)<|afF i:=by
 intro ae s O H Q I h;obtain⟨v,e,h⟩:=h;obtain⟨m,bz,aB⟩:=I.loc;obtain⟨u,r,l⟩:=aB i x v dJ e bS;have fin:f5 X ae O Q u s:=⟨v,H,I,r,h⟩
 rcases l with⟨aW,hm⟩|⟨aW,c,aT,Ud⟩
 ·exact wpAny_Name (wpAny_loadName_local I.ok.kind aW bz hm fin) hd
 ·rcases aW with aW|aW
  ·exact wpAny_Name (wpAny_loadName_cell I.ok.kind aW aT Ud fin) hd
  ·exact wpAny_Name (wpAny_loadName_free I.ok.kind aW aT Ud fin g0) hd
def Dm{i j pos}:d6 X (.Constant (.int i) j pos)<|wF<|.int i:=λ_ _ _ H _ I h=>wpAny_Constant_int ⟨.int i,H,I.tok _,⟨_,rfl⟩,h⟩
def agC{b j pos}:d6 X (.Constant (.bool b) j pos)<|wF<|.aC b:=λ_ _ _ H _ I h=>Constant_bool ⟨.aC b,H,I,rfl,h⟩
def ahM{j pos}:d6 X (.Constant .none j pos)<|wF .br:=λ_ _ _ H _ I h=>Constant_none ⟨.br,H,I,rfl,h⟩
def IA{x j pos}:d6 X (.Constant (.str x) j pos)<|wF<|.str x:=λ_ _ _ H _ I h=>Calls.Constant_str ⟨.str x,H,I.tok _,⟨_,rfl⟩,h⟩
def fv(X:bI)(x:Str):Prop:=X.env.kindOf x=J .globalImplicit
def uU{E:mt->aR->Prop}{ae:List Z1}{s:aR}{O:St}{H:aJ}{x:Str}{u:mt}{pos:Pos}{Q:mt->aR->Prop}(I:aS X ae O H s)(bT:fv X x)(hm:X.a3 x=J u)(h:Q u s)
  (hd:autoParam ZH eL):bl Z2 X.A (eval (.Name x pos) X.I) Q E s :=
 Calls.Name_function_global I.ok.kind bT (Calls.loadGlobal_global (by rw[I.ok.glob];exact I.mod.glob.keeps I.gr) hm h) hd
def k7{E:mt->aR->Prop}{ae:List Z1}{s:aR}{O:St}{H:aJ}{x:Str}{u:mt}{pos:Pos}{Q:mt->aR->Prop}(I:aS X ae O H s)(bT:fv X x)(hm:X.a3 x=C)(bS:l6 x=J u)(h:Q u s)
  (bz:autoParam (x ≠ "__name__") eL) (hd:autoParam ZH eL):bl Z2 X.A (eval (.Name x pos) X.I) Q E s:=by
 obtain⟨lD,af,ak⟩:=I.mod.blt;exact Calls.Name_function_global I.ok.kind bT (Calls.loadGlobal_builtin (by rw[I.ok.glob];exact I.mod.glob.keeps I.gr) hm (by rw[I.ok.blt];exact af.keeps I.gr) ((ak x bz).trans bS) h) hd
def Ou(bT:fv X x)(hm:X.a3 x=J u)(r:cW v u)(hd:autoParam ZH eL):d6 X (.Name x pos) (wF v) :=
 λ_ _ _ H _ I h=>uU I bT hm ⟨v,H,I,r,h⟩ hd
variable {a b:Expr}{ta tb:TE}{pos:Pos}
def Hw(X:bI)(op:CmpOp)(a b:Expr)(t:TE):Prop :=
 ∀(ae:List Z1) (s:aR) (O:St) (H:aJ) (Q:fg),aS X ae O H s->t O H Q ->
  bl Z2 X.A (eval a X.I) (λv dM=>bl Z2 X.A (eval b X.I) (λu gT=>bl Z2 X.A (hp op v u) (f5 X ae O Q) X.cv gT) X.cv dM) X.cv s
def alu(b:Expr)(h:op≠.In)(ak:op≠.NotIn):wx op b=Y1:=by
 have az:(op==CmpOp.In)=Y1:=by exists op<;>first|rfl|exact absurd rfl h
 have au:(op==CmpOp.NotIn)=Y1:=by exists op<;>first|rfl|exact absurd rfl ak
 exists b<;>simp[wx,az,au]
def afG(ta:TE):TE:=λO H Q=>ta O H λx H1=>Q (.aC<|decide (x=.br)) H1
def cW.alw(r:cW x v):(v==Value.none)=decide (x=.br):=by
 cases x with
 |br=>exists r;rfl
 |aC _=>exists r;rfl
 |int _=>obtain⟨t,rfl⟩:=r;rfl
 |str _=>obtain⟨t,rfl⟩:=r;rfl
 |sP _=>obtain⟨t,rfl⟩:=r;rfl
 |uS _=>obtain⟨t,rfl⟩:=r;rfl
 |ref _=>exists r;rfl
 |ty _=>exists r;rfl
def IB{j pos'}(ba:d6 X a ta):Hw X .Is a (.Constant .none j pos')<|afG ta:=by intro ae s O H Q I h;refine b2 (ba ae s O H _ I h) λv s1 ⟨x,H1,bf,bA,aX⟩=>?_;exact Constant_none<|is_none_gen ⟨.aC _,H1,bf,by rw[bA.alw];rfl,aX⟩
def VH(t:TE):TT:=λO H Q=>t O H λx H1=>∃c,x=.aC c/\Q c H1
def UI(h:Hw X op a b t)(af:autoParam (wx op b=Y1) az8._auto_1):d6 X (.Compare a [op] [b] pos) t:=λae s O H Q I hw=>wpAny_Compare1 (h ae s O H Q I hw) af
def ahN(h:Hw X op a b t)(af:autoParam (wx op b=Y1) az8._auto_1):nF X (.Compare a [op] [b] pos)<|VH t:=by
 intro ae s O H Q I hw;refine wpAny_isTrue_Compare1 (b2 (h ae s O H _ I hw) λv s1 af=>b2 af λu s2 ak=>b2 ak λc s3 ⟨x,H1,bf,bA,aX⟩=>?_) af;obtain⟨d,rfl,q⟩:=aX
 exists bA
 exact qW ⟨H1,bf,q⟩
variable {tA anL:TT}{rest:List Expr}
def afH(t:TT):TT:=λO H Q=>t O H λc H1=>Q (!c) H1
def ajD(ba:nF X a tA):yX X (.BoolOp .And [a] pos) tA:=by
 intro yY ae s O H Q I h;refine isTrue_and (b2 (ba ae s O H Q I h) λc s1 e=>?_);cases c with
 |true=>exact isTrue_and_nil e
 |false=>exact e
def ahO(ba:nF X a tA):yX X (.BoolOp .Or [a] pos) tA:=by
 intro yY ae s O H Q I h;refine isTrue_or (b2 (ba ae s O H Q I h) λc s1 e=>?_);cases c with
 |false=>exact isTrue_or_nil e
 |true=>exact e
def ahP(ba:nF X a tA):nF X (.UnaryOp .Not a pos)<|afH tA:=by intro ae s O H Q I h;exact isTrue_not<|ba ae s O H (λc H1=>Q (!c) H1) I h
def ahQ{op}(h:d6 X a t):d6 X (.BoolOp op [a] pos) t:=λae s O H Q I hw=>BoolOp_one<|h ae s O H Q I hw
def YZ(t:TT)(ta tb:TE):TE:=λO H Q=>t O H λc H1=>if c=Y0 then ta O H1 Q else tb O H1 Q
def alx(aT:nF X c tA)(ba:d6 X a ta)(aq:d6 X b tb):d6 X (.IfExp c a b pos)<|YZ tA ta tb:=by
 intro ae s O H Q I h;refine wpAny_IfExp (b2 (aT ae s O H _ I h) λd s1 ⟨H1,bf,aX⟩=>?_);cases d with
 |true=>exact ba ae s1 O H1 Q bf aX
 |false=>exact aq ae s1 O H1 Q bf aX
end
def gv(K:W.Frag)(H:aJ)(a:Addr)(xs:List V):Prop :=
 iM H a (.ao xs) \/
  (∃(o:Obj) (a5:Array mt) (n:Nat),K.lookup a=J o/\o.cls=.type "list" /\ o.dict=C/\o.d=.seq a5 n/\a5.O<=dg/\cG xs a5.D)
def e5(K:W.Frag)(H:aJ)(a:Addr)(xs:List V):Prop :=
 iM H a (.aD xs) \/
  ∃(o:Obj) (a5:Array mt) (n:Nat),K.lookup a=J o/\o.cls=.type "tuple" /\ o.d=.seq a5 n/\a5.O<=dg/\cG xs a5.D
noncomputable def afI:mt->Option V
 |.none=>J .br
 |.bool b=>J<|.aC b
 |.int i _=>J<|.int i
 |.str x _=>J<|.str x
 |.bytes b _=>J<|.sP b
 |.float b _=>J<|.uS b
 |.ref a=>J<|.ref a
 |.type n=>J<|.ty n
 |_=>C
def cW.abs(r:cW x u):afI u=J x:=by
 cases x with
 |br=>exists r;rfl
 |aC _=>exists r;rfl
 |int _=>obtain⟨t,rfl⟩:=r;rfl
 |str _=>obtain⟨t,rfl⟩:=r;rfl
 |sP _=>obtain⟨t,rfl⟩:=r;rfl
 |uS _=>obtain⟨t,rfl⟩:=r;rfl
 |ref _=>exists r;rfl
 |ty _=>exists r;rfl
theorem cW.inj(r:cW x u)(q:cW y u):x=y:=Option.some.inj<|r.abs.symm.trans q.abs
theorem cG.inj:∀{xs aO:List V} {us:List mt},cG xs us->cG aO us->xs=aO
 |_,_,_,.nil,.nil=>rfl
 |_,_,_,.cons r t,.cons b5 t'=>by rw[r.inj b5,cG.inj t t']
section
variable {X:bI}{ae:List Z1}{O:St}{H:aJ}{s:aR}{a:Addr}{xs aO:List V}
def gv.of{K:W.Frag}(h:H a=J (.ao xs)):gv K H a xs:=.inl<|.inl h
def e5.of{K:W.Frag}(h:H a=J (.aD xs)):e5 K H a xs:=.inl<|.inl h
def aS.list(I:aS X ae O H s)(h:gv X.K H a xs):∃a5:List mt,cG xs a5/\PlainL s.Q a a5.B/\xs.H<=dg:=by
 rcases h with h|⟨o,a5,n,aW,aT,hd,aP,hz,r⟩
 ·obtain⟨z,a5,n,r,e⟩:=h.ok I.b1;exact⟨a5,r,⟨_,n,e,rfl,rfl,rfl⟩,z⟩
 ·refine⟨a5.D,r,⟨o,n,I.hJ a o aW,aT,hd,by simpa using aP⟩,?_⟩;have e:=r.H;simp only[gH]at e;lia
def aS.tuple(I:aS X ae O H s)(h:e5 X.K H a xs):∃a5:List mt,cG xs a5/\IsTup s.Q a a5.B/\xs.H<=dg:=by
 rcases h with h|⟨o,a5,n,aW,aT,aP,hz,r⟩
 ·obtain⟨z,a5,r,p⟩:=h.ok I.b1;exact⟨a5,r,p.aD,z⟩
 ·refine⟨a5.D,r,⟨o,I.hJ a o aW,aT,n,by simpa using aP⟩,?_⟩;have e:=r.H;simp only[gH]at e;lia
def aS.aly(I:aS X ae O H s)(h:gv X.K H a xs)(h':gv X.K H a aO):xs=aO:=by
 obtain⟨a5,r,⟨o,n,e,_,_,d⟩,_⟩:=I.list h;obtain⟨its',b5,⟨dh,n',bN,_,_,d'⟩,_⟩:=I.list h';rw[e]at bN;exists bN;rw[d]at d';injection d' with d7 _;have:a5=its':=by simpa using congrArg Array.D d7
 subst this;exact r.inj b5
def aS.anb(I:aS X ae O H s)(h:e5 X.K H a xs)(h':e5 X.K H a aO):xs=aO:=by
 obtain⟨a5,r,⟨o,e,_,n,d⟩,_⟩:=I.tuple h;obtain⟨its',b5,⟨dh,bN,_,n',d'⟩,_⟩:=I.tuple h';rw[e]at bN;exists bN;rw[d]at d';injection d' with d7 _;have:a5=its':=by simpa using congrArg Array.D d7
 subst this;exact r.inj b5
end
noncomputable abbrev bI.nf(X:bI)(E:mt->aR->Prop):bI:={ X with cv:=E}
noncomputable abbrev bI.lJ(X:bI):bI:=X.nf λ_ _=>False
theorem bI.Ok.nf{X:bI}(ok:X.Ok)(E:mt->aR->Prop):(X.nf E).Ok :=
 ⟨ok.mod,ok.kind,ok.glob,ok.blt,ok.above,ok.inj,ok.has,ok.ri,ok.hd,ok.frames,ok.sQ,ok.sR,ok.bs,ok.mU,ok.rQ,ok.rR,ok.kD,ok.o1⟩
def bI.Ok.pI{X:bI}(ok:(X.nf E).Ok):X.Ok :=
 ⟨ok.mod,ok.kind,ok.glob,ok.blt,ok.above,ok.inj,ok.has,ok.ri,ok.hd,ok.frames,ok.sQ,ok.sR,ok.bs,ok.mU,ok.rQ,ok.rR,ok.kD,ok.o1⟩
section
variable {X:bI}{ae:List Z1}{O:St}{H:aJ}{s:aR}{E:mt->aR->Prop}
theorem aS.nf(I:aS X ae O H s)(E:mt->aR->Prop):aS (X.nf E) ae O H s:=⟨I.ok.nf E,I.os,I.ft,I.V,I.loc,I.cell,I.free,I.kI,I.pin,I.b1,I.len⟩
theorem aS.pI(I:aS (X.nf E) ae O H s):aS X ae O H s:=⟨I.ok.pI,I.os,I.ft,I.V,I.loc,I.cell,I.free,I.kI,I.pin,I.b1,I.len⟩
theorem oJ.pI(h:oJ (X.nf E) ae D f s'):oJ X ae D f s':=by
 cases f with
 |next=>obtain⟨U',aj,I,q⟩:=h;exact⟨U',aj,I.pI,q⟩
 |brk=>obtain⟨U',aj,I,q⟩:=h;exact⟨U',aj,I.pI,q⟩
 |cont=>obtain⟨U',aj,I,q⟩:=h;exact⟨U',aj,I.pI,q⟩
 |ret u=>obtain⟨v,U',aj,I,r,q⟩:=h;exact⟨v,U',aj,I.pI,r,q⟩
theorem kp.lJ{st:List Stmt}{t:kT}(h:kp X.lJ st t):kp X st t:=λae s O H D I hw =>
 hj (h ae s O H D (I.nf _) hw) (λ_ _ q=>q.pI) λ_ _ z=>False.elim z
end
section
variable {X:bI}{st:Stmt}{rest:List Stmt}{t u:kT}{e:Expr}{te:TE}{pos:Pos}
def agD:kT:=λD O H=>D.bD O H
def afJ(t u:kT):kT:=λD O H=>t { D with bD:=u D} O H
def ajE:kp X [] agD:=λ_ _ O H _ I h=>yR ⟨O,H,I,h⟩
def uV(af:oK X st t)(ak:kp X rest u):kp X (st::rest)<|afJ t u:=by
 intro ae s O H D I h;refine wpAny_execs_cons (b2 (af ae s O H { D with bD:=u D} I h) λf s1 q=>?_);cases f with
 |next =>
  obtain⟨U',aj,eG,q⟩:=q;exact ak ae s1 U' aj D eG q
 |ret v=>exact q
 |brk=>exact q
 |cont=>exact q
def Ov(af:oK X st t):kp X [st] t:=by
 intro ae s O H D I h;refine wpAny_execs_cons (b2 (af ae s O H D I h) λf s1 q=>?_);cases f with
 |next=>exact yR q
 |ret v=>exact q
 |brk=>exact q
 |cont=>exact q
def aS.quiet{ae:List Z1}{O:St}{H:aJ}{s:aR}(I:aS X ae O H s):interactive X.I=Y1:=by simp[interactive,I.ok.kind]
def agE(te:TE):kT:=λD O H=>te O H λ_ H1=>D.bD O H1
def zI(he:d6 X e te)(aP:autoParam (nA e C pos.line X.I=pure Y1) bu):oK X (.Expr e pos)<|agE te:=by intro ae s O H D I h;exact wpAny_Expr_any (b2 (he ae s O H _ I h) λv s1 ⟨x,H1,bf,bA,aX⟩=>⟨O,H1,bf,aX⟩) I.quiet aP
def afK(te:TE):kT:=λD O H=>te O H D.aU
def IC(he:d6 X e te):oK X (.Return (J e) pos)<|afK te:=by intro ae s O H D I h;exact wpAny_Return_some (b2 (he ae s O H _ I h) λv s1 ⟨x,H1,bf,bA,aX⟩=>⟨x,O,H1,bf,bA,aX⟩)
def ahR:kT:=λ_ _ _=>False
def Dn{nP:List Stmt}:kp X nP ahR:=λ_ _ _ _ _ _ h=>h.elim
end
abbrev pX:=V->St->aJ->(St->aJ->Prop)->Prop
abbrev zJ:=List V->St->aJ->(St->aJ->Prop)->Prop
def pY(X:bI)(target:Expr)(t:pX):Prop :=
 ∀(ae:List Z1) (s:aR) (O:St) (H:aJ) (v:V) (u:mt) (Q:St->aJ->Prop),aS X ae O H s->cW v u->t v O H Q ->
  bl Z2 X.A (nD target X.I u) (λ_ s'=>∃U' aj,aS X ae U' aj s'/\Q U' aj) X.cv s
def Dp(X:bI)(aA:List Expr)(t:zJ):Prop :=
 ∀(ae:List Z1) (s:aR) (O:St) (H:aJ) (ah:List V) (us:List mt) (Q:St->aJ->Prop),aS X ae O H s->cG ah us->t ah O H Q ->
  bl Z2 X.A (assignInOrder ((mJ aA X.I).map (·.2)) us) (λ_ s'=>∃U' aj,aS X ae U' aj s'/\Q U' aj) X.cv s
abbrev LN:=V->V->V->aJ->(aJ->Prop)->Prop
def LO(X:bI)(t:LN):Prop :=
 ∀(ae:List Z1) (s:aR) (O:St) (H:aJ) (o i v:V) (jW iv u:mt) (Q:aJ->Prop),aS X ae O H s->cW o jW->cW i iv->cW v u->t o i v H Q ->
  bl Z2 X.A (setItem jW iv u) (λ_ s'=>∃aj,aS X ae O aj s'/\Q aj) X.cv s
section
variable {X:bI}{pos:Pos}
def L7(i:Nat):pX:=λv O H Q=>Q (O.set i<|some v) H
def ID{i:Nat}(dJ:X.N.Nodup)(hi:X.N[i]?=J x)(av:Loc X.I.Y x)(hf:autoParam ZW pW):pY X (.Name x pos)<|L7 i:=by intro ae s O H v u Q I r h;exact wpAny_assign_Name<|Iz I dJ hi av r (λs' eG=>⟨_,H,eG,h⟩) hf
def afL:zJ:=λah O H Q=>ah=[]/\Q O H
def agF(t:pX)(u:zJ):zJ:=λah O H Q=>∃v r,ah=v::r/\t v O H λU' aj=>u r U' aj Q
def ajF:Dp X [] afL:=by
 intro ae s O H ah us Q I r h;obtain⟨e,h⟩:=h;subst e
 exists r
 exact assignInOrder_nil ⟨O,H,I,h⟩
def Ow(af:pY X e t)(ak:Dp X es u)
  (aP:autoParam ((mJ (e::es) X.I).map (·.2)=nD e X.I::(mJ es X.I).map (·.2)) bu):Dp X (e::es)<|agF t u:=by
 intro ae s O H ah us Q I r h;obtain⟨v,anm,az,h⟩:=h;subst az;cases r with
 |cons r hq =>
  rw[aP];refine assignInOrder_cons (b2 (af ae s O H _ _ _ I r h) λ_ s1 ⟨U1,H1,bf,aX⟩=>?_);exact ak ae s1 U1 H1 _ _ Q bf hq aX
def afM(K:W.Frag)(n:Nat)(t:zJ):pX:=λv O H Q=>∃a xs,v=.ref a/\e5 K H a xs/\xs.H=n/\t xs O H Q
def ahS{k:Nat}{n:Nat}(aT:X.calm=Y0)(h:Dp X es t)
  (bz:autoParam ((mJ es X.I).H=n) bu) (jB:autoParam ((mJ es X.I).findIdx? (·.1)=C) bu):pY X (.Tuple es k pos)<|afM X.K n t:=by
 intro ae s O H v u Q I r hw;obtain⟨a,xs,az,a7,aB,hw⟩:=hw;subst az
 exists r
 obtain⟨a5,bq,cA,hz⟩:=I.tuple a7;refine assign_Tuple_tuple (I.ok.hd aT) cA (by simp[bz,<-aB,bq.H]) jB λh' av=>?_;have bf:aS X ae O H { s with heap:=h'}:=I.kept (t':=s.toks) λb o e=>av b o (bv<|d5 e) e;exact h ae _ O H xs _ Q bf (by simpa using bq) hw
def afN(to Hx:TE)(t:LN):pX:=λv O H Q=>to O H λo H1=>Hx O H1 λi bV=>t o i v bV λee=>Q O ee
def ahT(aZ:d6 X o to)(hi:d6 X i Hx)(aP:LO X t)
  (ba:autoParam (∀v,nD (.Subscript o i pos) X.I v=(do
   let jW<-oG [v] (eval o X.I)
   let iv<-oG [v,jW] (eval i X.I)
   standAt pos
   oG [v,jW,iv] (setItem jW iv v)
   release [v,jW,iv] [])) sA):pY X (.Subscript o i pos)<|afN to Hx t:=by
 intro ae s O H v u Q I r h;rw[ba];refine a8<|jo (b2 (aZ ae s O H _ I h) λjW s1 ⟨x,H1,bf,bA,aX⟩=>?_);refine a8<|jo (b2 (hi ae s1 O H1 _ bf aX) λiv s2 ⟨y,bV,cR,cp,bb⟩=>?_);refine a8<|Hq<|a8<|jo (b2 (aP ae s2 O bV x y v jW iv u _ cR bA cp r bb) λ_ s3 ⟨ee,fT,cK⟩=>?_);exact wpAny_release ⟨O,ee,fT,cK⟩
def LP(te:TE)(g:pX):kT:=λD O H=>te O H λx H1=>g x O H1 D.bD
def ahU(he:d6 X e te)(bT:pY X di g)(aP:autoParam (swapsWithSole [di] e pos.line X.I=pure Y1) bu)(hw:autoParam (swappedStores [di] e X.I=pure C) bu)
  (af:autoParam ((mJ [di] X.I).map (·.2)=[nD di X.I]) bu):oK X (.Assign [di] e pos)<|LP te g:=by
 intro ae s O H D I h;refine wpAny_Assign_stores (b2 (he ae s O H _ I h) λv s1 ⟨x,H1,bf,bA,aX⟩=>?_) aP hw;rw[af];exact b2 (bT ae s1 O H1 x v _ bf bA aX) λ_ s2 q=>q
def Dq{i:Nat}(dJ:X.N.Nodup)(hi:X.N[i]?=J x)(av:Loc X.I.Y x)(he:d6 X e te)(aP:autoParam (nA e (J<|.Name x pos') pos.line X.I=pure Y1) bu)(hf:autoParam ZW pW) :
  oK X (.Assign [.Name x pos'] e pos) (LP te<|L7 i):=by
 intro ae s O H D I h;refine wpAny_Assign_Name (b2 (he ae s O H _ I h) λv s1 ⟨y,H1,bf,bA,aX⟩=>?_) aP;exact Iz bf dJ hi av bA (λs2 cR=>⟨_,H1,cR,aX⟩) hf
def ahV(c:TT)(tb:kT):kT:=λD O H=>∃W:Nat->St->aJ->Prop,(∃m,W m O H)/\∀m O H,W m O H ->
 c O H λb H1=>if b=Y0 then ∃N:St->aJ->Prop,(∀U' aj,N U' aj->∃gf,gf<m/\W gf U' aj)/\tb { D with bD:=N,eD:=N,gr:=D.bD} O H1 else D.bD O H1
def alz(aF:yU Z2 X.A X.I X.cv)(aT:nF X c nH)(aq:kp X body tb):oK X (.While c body [] pos)<|ahV nH tb:=by
 intro ae s O H D I h;obtain⟨W,⟨m0,q0⟩,turn⟩:=h;refine wpAny_While<|codeAny_whileLoop (λn s'=>∃U' aj,aS X ae U' aj s'/\W n U' aj) ?_ m0 ⟨O,H,I,q0⟩;rintro n s1 ⟨U1,H1,bf,eU⟩;refine uc aF (b2 (aT ae s1 U1 H1 _ bf<|turn n U1 H1 eU) λb s2 ⟨bV,cR,bb⟩=>?_);cases b with
 |true =>
  obtain⟨N,dJ,bb⟩:=bb;rw[Y2 rfl];refine uc aF (b2 (aq ae s2 U1 bV _ cR bb) λf s3 cK=>?_);cases f with
  |next =>
   obtain⟨U3,ee,fT,fU⟩:=cK;obtain⟨gf,hm,um⟩:=dJ U3 ee fU;exact⟨gf,hm,U3,ee,fT,um⟩
  |cont =>
   obtain⟨U3,ee,fT,fU⟩:=cK;obtain⟨gf,hm,um⟩:=dJ U3 ee fU;exact⟨gf,hm,U3,ee,fT,um⟩
  |brk=>exact cK
  |ret v=>exact cK
 |false =>
  rw[Y3 nx];exact yR ⟨U1,bV,cR,bb⟩
end
structure kU where
 go:Nat->aJ->Prop
 Dr:Nat->aJ->V->aJ->Prop
 stop:Nat->aJ->Prop
def pB(X:bI)(ae:List Z1)(H:aJ)(b:Addr):Prop :=
 H b=C/\b≠X.I.locals/\b∉X.cm/\(b∈X.ex\/X.cD.L<=b)/\(∀x c,X.env.cells.lookup x=J c->c≠b)/\∀p∈X.gC++ae,p.1≠b
def aS.ya{X:bI}{ae:List Z1}{O:St}{H aj:aJ}{s:aR}{b:Addr}(I:aS X ae O H s)(aq:s.L<=b)(bz:aj b=C):pB X ae aj b:=by
 refine⟨bz,pQ<|d4 I.lt aq,I.afD aq,.inr<|bP I.wD aq,λx c e z=>?_,λp aF z=>?_⟩
 ·obtain⟨v,q⟩:=I.cell x c e;exact absurd (d4 q.lt<|by rw[z];exact aq)<|oD _
 ·exact absurd (d4 (d5 (I.pin p aF).1)<|by rw[z];exact aq)<|oD _
structure Turn (P:dx) (w:c3) (K:W.Frag) (di:Expr) (cO:kU) (fp:List Addr) (it:Addr) (aQ:Nat->Heap->Prop):Prop where
 mem:it∈fp
 obj:∀i h,aQ i h->∀b∈fp,∃o,h.get? b=J o/\∀v,o.d≠.cell v
 keep:∀i h h',aQ i h->(∀b∈fp,∀o,h.get? b=J o->h'.get? b=J o)->aQ i h'
 item:∀(X:bI),X.R=P->X.w=w->X.K=K->X.calm=Y0->∀(i:Nat) (ae:List Z1) (s:aR) (O:St) (H:aJ) (E:mt->aR->Prop),aS X ae O H s->(∀b∈fp,pB X ae H b)->aQ i s.Q->cO.go i H ->
  bl (bg P w) X.A (mK<|.ref it) (λr s1=>∃u,r=J u /\
   bl (bg P w) X.A (B9 di (.ref it) u) (λ_ s2=>∃x aj,aS X ae O aj s2/\cW x u/\cO.Dr i H x aj/\aQ (i+1) s2.Q/\∀b∈fp,aj b=C) E s1) E s
 done:∀(X:bI),X.R=P->X.w=w->X.K=K->X.calm=Y0->∀(i:Nat) (ae:List Z1) (s:aR) (O:St) (H:aJ) (E:mt->aR->Prop),aS X ae O H s->(∀b∈fp,pB X ae H b)->aQ i s.Q->cO.stop i H ->
  bl (bg P w) X.A (mK<|.ref it) (λr s1=>r=C/\aS X ae O H s1) E s
 self:∀(A:dH) (i:Nat) (s:aR) (Q:mt->aR->Prop) (E:mt->aR->Prop),aQ i s.Q->Q (.ref it) s->bl (bg P w) A (l9<|.ref it) Q E s
abbrev TI:=St->aJ->(kU->aJ->Prop)->Prop
def sU(X:bI)(ae:List Z1)(O:St)(di:Expr)(R:kU->aJ->Prop)(IE:mt)(s2:aR):Prop :=
 ∃(it:Addr) (fp:List Addr) (aQ:Nat->Heap->Prop) (cO:kU) (aj:aJ),IE=.ref it/\aS X ae O aj s2/\Turn X.R X.w X.K di cO fp it aQ/\aQ 0 s2.Q/\(∀b∈fp,pB X ae aj b)/\R cO aj
def oL(X:bI)(di iter:Expr)(ma:TI):Prop :=
 ∀(ae:List Z1) (s:aR) (O:St) (H:aJ) (R:kU->aJ->Prop),aS X ae O H s->ma O H R ->
  bl Z2 X.A (eval iter X.I) (λv s1=>bl Z2 X.A (l9 v) (sU X ae O di R) X.cv s1) X.cv s
def Ge(aZ:s.heap.get? it=J o)(aT:o.cls=.type n)(hd:o.d=.fields ah)
  (bz:["enumerate","zip","dict_itemiterator","dict_reverseitemiterator","odict_iterator","itertools.zip_longest","itertools.pairwise"].contains n=Y1) (hC:Q () s):bl M A (B9 di (.ref it) u) Q E s:=by
 unfold B9
 exists di<;>first
  |exact bZ hC
  | (exists u<;>first
    |exact bZ hC
    | (refine a8 (wpAny_load aZ ?_)
       rw[aT,hd];show bl M A (if(["enumerate","zip","dict_itemiterator","dict_reverseitemiterator","odict_iterator","itertools.zip_longest","itertools.pairwise"].contains n&&ah[0]?==J (gI _))=Y0 then _ else _) Q E s;rw[Y3<|by intro h;rw[bz,se]at h;exists h]
       exact bZ hC))
noncomputable def IF(K:W.Frag)(a:Addr):kU :=
 ⟨λi H=>∃xs x,gv K H a xs/\xs[i]?=J x,λi H x aj=>aj=H/\∀xs,gv K H a xs->xs[i]?=J x,λi H=>∃xs,gv K H a xs/\xs.H<=i⟩
noncomputable def IG(K:W.Frag)(a:Addr):kU :=
 ⟨λi H=>∃xs x,e5 K H a xs/\xs[i]?=J x,λi H x aj=>aj=H/\∀xs,e5 K H a xs->xs[i]?=J x,λi H=>∃xs,e5 K H a xs/\xs.H<=i⟩
noncomputable def zK(lo:Int)(n:Nat):kU:=⟨λi _=>i<n,λi H x aj=>aj=H/\x=.int (lo+i),λi _=>n<=i⟩
def aaa{P:dx}{w:c3}{K:W.Frag}{di:Expr}(a it:Addr):Turn P w K di (IF K a) [it] it (λi h=>h.IsListIter it a i) where
 mem:=by simp
 obj:=λi h st b aq=>by
  have e:b=it:=by simpa using aq
  subst e;obtain⟨o,e,c,d⟩:=st;exact⟨o,e,λv z=>by rw[d]at z;exists z⟩
 keep:=λi h h' st k=>st.at λo e=>k it Z7 o e
 item:=by intro X e3 hw ia aT i ae s O H E I hf st bT;subst e3 hw ia;obtain⟨xs,x,a7,av⟩:=bT;obtain⟨a5,bq,p,hz⟩:=I.list a7;obtain⟨u,b7,eV⟩:=bq.get av;obtain⟨f0,f1,f2,el,f4,hT⟩:=hf it Z7;refine wpAny_pyNext_list_item st p.isList (x:=u) (by simpa using b7) λh' c1 cV=>?_;have bf:aS X ae O H { s with heap:=h'}:=I.turned (t':=s.toks) (λb o aq e=>(cV.2 b aq).trans e) f0 f1 el f4 hT;obtain⟨o,e,c,d⟩:=id c1;exact⟨u,rfl,Ge (s:={ s with heap:=h'}) e c d Z0 ⟨x,H,bf,eV,⟨rfl,λaO aK=>by rw[I.aly aK a7];exact av⟩,c1,λb aq=>(hf b aq).1⟩⟩
 done:=by intro X e3 hw ia aT i ae s O H E I hf st bT;subst e3 hw ia;obtain⟨xs,a7,av⟩:=bT;obtain⟨a5,bq,p,hz⟩:=I.list a7;obtain⟨f0,f1,f2,el,f4,hT⟩:=hf it Z7;have aB:=bq.H;exact wpAny_pyNext_list_end (I.ok.hd aT) st p.isList (by simp;exact bP (d1 aB.symm) av) λh' hD=>⟨rfl,I.turned (t':=s.toks) (λb o aq e=>hD b o aq e) f0 f1 el f4 hT⟩
 self:=λ_ _ _ _ _ st h=>wpAny_pyIter_listiter st h
def aab{P:dx}{w:c3}{K:W.Frag}{di:Expr}(a it:Addr):Turn P w K di (IG K a) [it] it (λi h=>h.IsTupleIter it a i) where
 mem:=by simp
 obj:=λi h st b aq=>by
  have e:b=it:=by simpa using aq
  subst e;obtain⟨o,e,c,d⟩:=st;exact⟨o,e,λv z=>by rw[d]at z;exists z⟩
 keep:=λi h h' st k=>st.at λo e=>k it Z7 o e
 item:=by intro X e3 hw ia aT i ae s O H E I hf st bT;subst e3 hw ia;obtain⟨xs,x,a7,av⟩:=bT;obtain⟨a5,bq,p,hz⟩:=I.tuple a7;obtain⟨u,b7,eV⟩:=bq.get av;obtain⟨f0,f1,f2,el,f4,hT⟩:=hf it Z7;refine wpAny_pyNext_tuple_item st (show s.heap.IsTuple a a5.B from p) (x:=u) (by simpa using b7) λh' c1 cV=>?_;have bf:aS X ae O H { s with heap:=h'}:=I.turned (t':=s.toks) (λb o aq e=>(cV.2 b aq).trans e) f0 f1 el f4 hT;obtain⟨o,e,c,d⟩:=id c1;exact⟨u,rfl,Ge (s:={ s with heap:=h'}) e c d Z0 ⟨x,H,bf,eV,⟨rfl,λaO aK=>by rw[I.anb aK a7];exact av⟩,c1,λb aq=>(hf b aq).1⟩⟩
 done:=by intro X e3 hw ia aT i ae s O H E I hf st bT;subst e3 hw ia;obtain⟨xs,a7,av⟩:=bT;obtain⟨a5,bq,p,hz⟩:=I.tuple a7;obtain⟨f0,f1,f2,el,f4,hT⟩:=hf it Z7;have aB:=bq.H;exact wpAny_pyNext_tuple_end (I.ok.hd aT) st (show s.heap.IsTuple a a5.B from p) (by simp;exact bP (d1 aB.symm) av) λh' hD=>⟨rfl,I.turned (t':=s.toks) (λb o aq e=>hD b o aq e) f0 f1 el f4 hT⟩
 self:=λ_ _ _ _ _ st h=>wpAny_pyIter_tupleiter st h
def aac{P:dx}{w:c3}{K:PySem.W.Frag}{di:Expr}(it:Addr)(lo:Int)(n:Nat):Turn P w K di (zK lo n) [it] it (λi h=>IsRangeIter h it (lo+(i:Nat)*1) ((n:Int)-(i:Nat)) 1) where
 mem:=by simp
 obj:=λi h st b aq=>by
  have e:b=it:=by simpa using aq
  subst e
  exact⟨_,st,λv z=>by
   have kR:Data.fields _=Data.cell v:=z
   exists kR⟩
 keep:=λi h h' st k=>k it Z7 _ st
 item:=by intro X e3 hw ia aT i ae s O H E I hf st bT;subst e3 hw ia;obtain⟨f0,f1,f2,el,f4,hT⟩:=hf it Z7;have W:=Walks.range (prog:=X.R) (w:=X.w) (I.ok.hd aT) it lo 1 n;refine W.item i s _ _ bT st λv h' bx bS c1 mb=>?_;obtain⟨t,rfl⟩:=bS;have bf:aS X ae O H { s with heap:=h',toks:=bx}:=I.turned (λb o aq e=>mb b o (by simpa using aq) e) f0 f1 el f4 hT;refine⟨_,rfl,Ge (s:={ s with heap:=h',toks:=bx}) (n:="range_iterator") c1 rfl rfl Z0 ⟨.int<|lo+i,H,bf,⟨t,?_⟩,⟨rfl,rfl⟩,c1,λb aq=>(hf b aq).1⟩⟩;rw[Int.mul_one]
 done:=by intro X e3 hw ia aT i ae s O H E I hf st bT;subst e3 hw ia;obtain⟨f0,f1,f2,el,f4,hT⟩:=hf it Z7;exact wpAny_pyNext_range_end (I.ok.hd aT) st (by have:n<=i:=bT;lia) λh' hD=>⟨rfl,I.turned (t':=s.toks) (λb o aq e=>hD b o aq e) f0 f1 el f4 hT⟩
 self:=λ_ _ _ _ _ st h=>wpAny_pyIter_rangeiter st h
section
variable {X:bI}{di:Expr}
def Ox{ae:List Z1}{O:St}{H:aJ}{s:aR}{R:kU->aJ->Prop}{E:mt->aR->Prop}{lo hi:Int}{t u v:Tok}{bx:Nat}(I:aS X ae O H s)(af:-(2^62)<=lo)(ak:lo<2^62)(bc:-(2^62)<=hi)(cL:hi<2^62)
  (q:R (zK lo (hi-lo).M) H):bl Z2 X.A (l9<|.ref s.L) (sU X ae O di R) E { s with heap:=s.heap.push { cls:=.type "range",data:=.fields #[.int lo t,.int hi u,.int 1 v]},toks:=bx}:=by
 refine wpAny_pyIter_range (IsRange.new ..) (small_one af ak bc cL) ?_;have bf:aS X ae O H { s with heap:=s.heap.push { cls:=.type "range",data:=.fields #[.int lo t,.int hi u,.int 1 v]},toks:=bx}:=I.kept λb o e=>ec _ e
 refine⟨(s.heap.push { cls:=.type "range",data:=.fields #[.int lo t,.int hi u,.int 1 v]}).E.O,[(s.heap.push { cls:=.type "range",data:=.fields #[.int lo t,.int hi u,.int 1 v]}).E.O],_,_,H,rfl,
  bf.kept (t':=bx) λb o e=>ec _ e,aac _ lo (hi-lo).M,?_,λb aq=>?_,q⟩
 ·have az:lo+((0:Nat):Int)*1=lo:=by simp
  have au:(((hi-lo).M:Nat):Int)-((0:Nat):Int)=Builtin.Range.rangeSize lo hi 1:=by rw[rangeSize_one];split<;>lia
  show IsRangeIter _ _ (lo+((0:Nat):Int)*1) ((((hi-lo).M:Nat):Int)-((0:Nat):Int)) 1;rw[az,au];exact gB _ rfl
 ·have e:b=(s.heap.push { cls:=.type "range",data:=.fields #[.int lo t,.int hi u,.int 1 v]}).E.O:=by simpa using aq
  subst e;exact bf.ya (cg _)<|bf.b1.fresh<|cg _
def agG(ta:kS):TI:=λO H R=>ta O H λah H1=>∃j:Int,ah=[.int j] /\ -(2^62)<=j/\j<2^62/\R (zK 0 j.M) H1
def agH(ta:kS):TI:=λO H R=>ta O H λah H1=>∃i j:Int,ah=[.int i,.int j]/\(-(2^62)<=i/\i<2^62 /\ -(2^62)<=j/\j<2^62)/\R (zK i (j-i).M) H1
def aad(bT:fv X "range")(hm:X.a3 "range" = C)(ba:nG X [a] ta)(aP:autoParam (b4 [a] X.I=[(Y1,eval a X.I)]) bu):oL X di (.Call (.Name "range" p) [a] [] pos)<|agG ta:=by
 intro ae s O H R I h;refine Call_<|k7 I bT hm boot_range<|PyProof.Rows.callWith_type1 (b2 (ba pos ae s O H _ I h) λus s1 ⟨ah,H1,bf,bA,aX⟩=>?_) aP rfl;obtain⟨j,e,aX,bb,q⟩:=aX;subst e;cases bA with
 |cons r hq =>
  exists hq
  obtain⟨t,rfl⟩:=r;exact call_range_1 (Ox bf Z0 Z0 aX bb<|by simpa using q)
def aae(bT:fv X "range")(hm:X.a3 "range" = C)(ba:nG X [a,b] ta)(aP:autoParam (b4 [a,b] X.I=[(Y1,eval a X.I),(Y1,eval b X.I)]) bu)(iz:autoParam (b4 [b] X.I=[(Y1,eval b X.I)]) bu) :
  oL X di (.Call (.Name "range" p) [a,b] [] pos) (agH ta):=by
 intro ae s O H R I h;refine Call_<|k7 I bT hm boot_range (PyProof.Rows.callWith_type1 (b2 (ba pos ae s O H _ I h) λus s1 ⟨ah,H1,bf,bA,aX⟩=>?_) (by rw[aP,iz])<|by rw[iz];rfl);obtain⟨i,j,e,⟨aX,bb,cK,fV⟩,q⟩:=aX;subst e;cases bA with
 |cons r hq =>
  cases hq with
  |cons b5 hq =>
   exists hq
   obtain⟨t,rfl⟩:=r;obtain⟨t',rfl⟩:=b5;exact call_range_2<|Ox bf aX bb cK fV q
def afO(ma:TI)(g:pX)(tb:kT):kT:=λD O H=>ma O H λcO H1=>∃W:Nat->Nat->St->aJ->Prop,(∃m,W 0 m O H1)/\∀i m O H,W i m O H ->
 (cO.stop i H/\D.bD O H)\/(cO.go i H/\∃N:St->aJ->Prop,(∀U' aj,N U' aj->∃gf,gf<m/\W (i+1) gf U' aj)/\∀x aj,cO.Dr i H x aj->g x O aj λU2 bV=>tb { D with bD:=N,eD:=N,gr:=D.bD} U2 bV)
noncomputable def zL(fp:List Addr)(h:Heap):List Z1:=fp.filterMap λb=>(h.get? b).map λo=>(b,o)
def Ds(aq:b∈fp)(e:h.get? b=J o):(b,o)∈zL fp h:=GN.mpr ⟨b,aq,by rw[e];rfl⟩
def aaf(aF:p∈zL fp h):p.1∈fp/\h.get? p.1=J p.2:=by
 obtain⟨b,aq,e⟩:=GN.mp aF;cases q:h.get? b with
 |none=>rw[q]at e;exists e
 |some o =>
  rw[q]at e;have bN:(b,o)=p:=Option.some.inj e;subst bN;exact⟨aq,q⟩
def aS.pinned{ae:List Z1}{O:St}{H:aJ}{s:aR}{fp:List Addr}(I:aS X ae O H s)(hf:∀b∈fp,pB X ae H b)(aZ:∀b∈fp,∃o,s.heap.get? b=J o/\∀v,o.d≠.cell v):aS X (ae++zL fp s.Q) O H s :=
 I.VB λp aF=>(hQ.mp aF).elim (λz=>I.pin p<|l1 _ z) λz=>by obtain⟨aq,e⟩:=aaf z;obtain⟨f0,f1,f2,_⟩:=hf p.1 aq;obtain⟨o,bN,d⟩:=aZ p.1 aq;rw[e]at bN;exists bN;exact⟨e,f0,f1,f2,d⟩
def aS.GA{ae cQ:List Z1}{O:St}{H:aJ}{s:aR}(I:aS X (ae++cQ) O H s):aS X ae O H s:=I.VB λp aF=>I.pin p<|l1 _<|pM _ aF
def UJ(aF:yU Z2 X.A X.I X.cv)(aT:X.calm=Y0)(hi:oL X di iter ma)(bT:pY X di g)(aq:kp X body tb)
  (aP:autoParam (∀x,oE iter X.I x=pure x) sA):oK X (.For di iter body [] pos)<|afO ma g tb:=by
 intro ae s O H D I h;refine wpAny_For (b2 (hi ae s O H _ I h) λv s1 af=>b2 af λIE s2 ak=>?_) aP;obtain⟨it,fp,aQ,cO,bV,e,cR,T,hx,f2,W,⟨m0,q0⟩,turn⟩:=ak;subst e;have stat:∀{aj:aJ},(∀b∈fp,aj b=C)->∀b∈fp,pB X ae aj b:=λbz b aq=>⟨bz b aq,(f2 b aq).2⟩
 refine codeAny_forLoop_any (λn s'=>∃i U' aj,aS X ae U' aj s'/\aQ i s'.Q/\(∀b∈fp,aj b=C)/\W i n U' aj) ?_ m0 ⟨0,O,bV,cR,hx,λb aq=>(f2 b aq).1,q0⟩;rintro n s3 ⟨i,U3,ee,fT,Dt,Oy,um⟩;rcases turn i n U3 ee um with⟨stop,uo⟩|⟨go,N,dJ,step⟩
 ·refine uc aF (b2 (T.done X rfl rfl rfl aT i ae s3 U3 ee X.cv fT (stat Oy) Dt stop) λr s4 ⟨aV,ha⟩=>?_);subst aV;exact yR ⟨U3,ee,ha,uo⟩
 ·refine uc aF (b2 (T.item X rfl rfl rfl aT i ae s3 U3 ee X.cv fT (stat Oy) Dt go) λr s4 ⟨u,aV,cL⟩=>?_);subst aV;refine uc aF (b2 cL λ_ s5 ⟨x,jt,wG,yZ,uq,xa,Du⟩=>?_);have aag:=wG.pinned (stat Du)<|T.obj _ _ xa;refine uc aF (b2 (bT _ s5 U3 jt x u _ aag yZ<|step x jt uq) λ_ ju ⟨U6,VI,oM,Ng⟩=>?_);refine uc aF (b2 (aq _ ju U6 VI _ oM Ng) λf oN sx=>?_);have again:∀{U7:St} {mc:aJ},aS X (ae++zL fp s5.Q) U7 mc oN->N U7 mc->∃m,m<n/\∃i U' aj,aS X ae U' aj oN/\aQ i oN.Q/\(∀b∈fp,aj b=C)/\W i m U' aj:=λ{U7 mc} lE y0=>by obtain⟨gf,hm,VJ⟩:=dJ U7 mc y0;refine⟨gf,hm,i+1,U7,mc,lE.GA,T.keep _ _ _ xa λb aq o e=>(lE.pin (b,o)<|l1 _<|l1 _<|Ds aq e).1,λb aq=>?_,VJ⟩;obtain⟨o,e,d⟩:=T.obj _ _ xa b aq;exact(lE.pin (b,o)<|l1 _<|l1 _<|Ds aq e).2.1
  cases f with
  |next=>obtain⟨U7,mc,lE,y0⟩:=sx;exact again lE y0
  |cont=>obtain⟨U7,mc,lE,y0⟩:=sx;exact again lE y0
  |brk=>obtain⟨U7,mc,lE,sx⟩:=sx;exact⟨U7,mc,lE.GA,sx⟩
  |ret v=>obtain⟨e9,U7,mc,lE,wH,sx⟩:=sx;exact⟨e9,U7,mc,lE.GA,wH,sx⟩
end
abbrev dj:=V->V->aJ->fg->Prop
def iS(X:bI)(f:mt->mt->Sem mt)(r:dj):Prop :=
 ∀(ae:List Z1) (s:aR) (O:St) (H:aJ) (x y:V) (v u:mt) (Q:fg),aS X ae O H s->cW x v->cW y u->r x y H Q ->
  bl Z2 X.A (f v u) (f5 X ae O Q) X.cv s
def IH(X:bI)(f:mt->Sem mt)(r:V->aJ->fg->Prop):Prop :=
 ∀(ae:List Z1) (s:aR) (O:St) (H:aJ) (x:V) (v:mt) (Q:fg),aS X ae O H s->cW x v->r x H Q ->
  bl Z2 X.A (f v) (f5 X ae O Q) X.cv s
def zM(X:bI)(f:mt)(r:List V->aJ->fg->Prop):Prop :=
 ∀(ae:List Z1) (s:aR) (O:St) (H:aJ) (xs:List V) (us:List mt) (Q:fg),aS X ae O H s->cG xs us->r xs H Q ->
  bl Z2 X.A (call f us) (f5 X ae O Q) X.cv s
def afP(X:bI)(r:V->aJ->(Bool->aJ->Prop)->Prop):Prop :=
 ∀(ae:List Z1) (s:aR) (O:St) (H:aJ) (x:V) (v:mt) (Q:Bool->aJ->Prop),aS X ae O H s->cW x v->r x H Q ->
  bl Z2 X.A (truthy v) (Ck X ae O Q) X.cv s
def aah(r:dj)(ta tb:TE):TE:=λO H Q=>ta O H λx H1=>tb O H1 λy bV=>r x y bV Q
def aai(r:V->aJ->fg->Prop)(ta:TE):TE:=λO H Q=>ta O H λx H1=>r x H1 Q
def Cm(aN:Int->Int->Prop)(g:Int->Int->V):dj:=λx y H Q=>∃i j,x=.int i/\y=.int j/\aN i j/\Q (g i j) H
def II(g:Int->Int->V):dj:=λx y H Q=>∃i j,x=.int i/\y=.int j/\Q (g i j) H
def Nh(g:Int->V):V->aJ->fg->Prop:=λx H Q=>∃i,x=.int i/\Q (g i) H
section
variable {X:bI}{a b c:Expr}{ta tb nH:TE}{pos:Pos}
def FV(ba:d6 X a ta)(aq:d6 X b tb){ae:List Z1}{s:aR}{O:St}{H:aJ}{R:V->V->aJ->Prop}(I:aS X ae O H s)
  (h:ta O H λx H1=>tb O H1 λy bV=>R x y bV) {Q:mt->aR->Prop} {f:mt->mt->Sem mt}
  (hf:∀v u s2 x y bV,aS X ae O bV s2->cW x v->cW y u->R x y bV->bl Z2 X.A (f v u) Q X.cv s2) :
  bl Z2 X.A (eval a X.I) (λv dM=>bl Z2 X.A (eval b X.I) (λu gT=>bl Z2 X.A (f v u) Q X.cv gT) X.cv dM) X.cv s:=by
 refine b2 (ba ae s O H _ I h) λv s1 ⟨x,H1,bf,bA,aX⟩=>?_;refine b2 (aq ae s1 O H1 _ bf aX) λu s2 ⟨y,bV,cR,cp,bb⟩=>?_;exact hf v u s2 x y bV cR bA cp bb
def agI(aZ:iS X (l8 op) r)(ba:d6 X a ta)(aq:d6 X b tb):d6 X (.BinOp a op b pos)<|aah r ta tb:=by intro ae s O H Q I h;exact wpAny_BinOp (FV ba aq I h λv u s2 x y bV cR cF dW q=>aZ ae s2 O bV x y v u Q cR cF dW q)
def Ue(aZ:IH X (unaryOp op) r)(ba:d6 X a ta):d6 X (.UnaryOp op a pos)<|aai r ta:=by intro ae s O H Q I h;exact UnaryOp_ (b2 (ba ae s O H _ I h) λv s1 ⟨x,H1,bf,bA,aX⟩=>aZ ae s1 O H1 x v Q bf bA aX)
def IJ{aN:Int->Int->Prop}{g:Int->Int->Int}
  (rule:∀(i j:Int) (t u:Tok) (s:aR) (Q:mt->aR->Prop) (E:mt->aR->Prop),aN i j->Q (.int (g i j) s.toks) { s with toks:=s.toks+1}->bl (bg X.R X.w) X.A (f (.int i t) (.int j u)) Q E s) :
  iS X f (Cm aN λi j=>.int<|g i j):=by
 intro ae s O H x y v u Q I cF dW h;obtain⟨i,j,rfl,rfl,aT,q⟩:=h;obtain⟨t,rfl⟩:=cF;obtain⟨t',rfl⟩:=dW;exact rule i j t t' s _ _ aT ⟨.int<|g i j,H,I.tok _,⟨_,rfl⟩,q⟩
def TK{g:Int->Int->Int}
  (rule:∀(i j:Int) (t u:Tok) (s:aR) (Q:mt->aR->Prop) (E:mt->aR->Prop),Q (.int (g i j) s.toks) { s with toks:=s.toks+1}->bl (bg X.R X.w) X.A (f (.int i t) (.int j u)) Q E s) :
  iS X f (II λi j=>.int<|g i j):=by
 intro ae s O H x y v u Q I cF dW h;obtain⟨i,j,rfl,rfl,q⟩:=h;obtain⟨t,rfl⟩:=cF;obtain⟨t',rfl⟩:=dW;exact rule i j t t' s _ _ ⟨.int<|g i j,H,I.tok _,⟨_,rfl⟩,q⟩
def afQ(i j:Int):Prop:=0<j/\j<1073741824
def FW(i j:Int):Prop:=(-(2^64)<i/\i<2^64)\/(-(2^64)<j/\j<2^64)
def FW.ok{i j:Int}(h:FW i j):IntMulOk i j:=by
 rcases h with⟨af,ak⟩|⟨af,ak⟩
 ·exact .of_left<|intBits_le_64 af ak
 ·exact .of_right<|intBits_le_64 af ak
def ahW:iS X (l8 .Add) (II λi j=>.int<|i+j):=TK λ_ _ _ _ _ _ _ q=>add_int q
def ahX:iS X (l8 .Sub) (II λi j=>.int<|i-j):=TK λ_ _ _ _ _ _ _ q=>sub_int q
def ahY:iS X (l8 .Mult) (Cm FW λi j=>.int<|i*j):=IJ λ_ _ _ _ _ _ _ aT q=>mul_int q aT.ok
def ajG:iS X (l8 .FloorDiv) (Cm afQ λi j=>.int<|i / j):=IJ λi j _ _ _ _ _ aT q=>by have af:(0:Int)<j:=aT.1;have ak:j<1073741824:=aT.2;exact floordiv_int (B6 af) (by rw[Int.fdiv_eq_ediv_of_nonneg i<|kO af];exact q)<|.inl<|PyProof.noPylong_small Z3
def ahZ:iS X (l8 .Mod) (Cm (λ_ j=>0<j) λi j=>.int<|i%j):=IJ λi j _ _ _ _ _ aT q=>by have af:(0:Int)<j:=aT;exact mod_int' (B6 af) (by rw[Int.fmod_eq_emod_of_nonneg i<|kO af];exact q)
def aaj{g:Int->Int}
  (rule:∀(i:Int) (t:Tok) (s:aR) (Q:mt->aR->Prop) (E:mt->aR->Prop),Q (.int (g i) s.toks) { s with toks:=s.toks+1}->bl (bg X.R X.w) X.A (f (.int i t)) Q E s) :
  IH X f (Nh λi=>.int<|g i):=by
 intro ae s O H x v Q I cF h;obtain⟨i,rfl,q⟩:=h;obtain⟨t,rfl⟩:=cF;exact rule i t s _ _ ⟨.int<|g i,H,I.tok _,⟨_,rfl⟩,q⟩
def UK:IH X (unaryOp .USub) (Nh λi=>.int<|-i):=aaj λ_ _ _ _ _ q=>neg_int q
def agJ(t:TE):TT:=λO H Q=>t O H λx aj=>∃k,x=.aC k/\Q k aj
def IK(r b5:dj)(ta tb nH:TE):TE:=λO H Q=>ta O H λx H1=>tb O H1 λy bV=>r x y bV λz ee=>∃k,z=.aC k /\
 (if k=Y0 then nH O ee λfS pZ=>b5 y fS pZ Q else Q (.aC Y1) ee)
def alA(aZ:iS X (hp op) r)(ko:iS X (hp op') b5)(ba:d6 X a ta)(aq:d6 X b tb)(aT:d6 X c nH)
  (hm:autoParam (lastMarks [op,op'] [b,c]=Y1) az5._auto_1):d6 X (.Compare a [op,op'] [b,c] pos)<|IK r b5 ta tb nH:=by
 intro ae s O H Q I h
 refine Compare_chain (b2 (ba ae s O H _ I h) λv s1 ⟨x,H1,bf,bA,aX⟩=>chain_link (b2 (aq ae s1 O H1 _ bf aX) λu s2 ⟨y,bV,cR,cp,bb⟩ =>
  b2 (aZ ae s2 O bV x y v u _ cR bA cp bb) λd s3 ⟨z,ee,fT,hE,k,e,cK⟩=>?_)) hm
 subst e
 exists hE
 refine qW ?_;cases k with
 |false=>exact ite_ff ⟨.aC Y1,ee,fT,rfl,cK⟩
 |true=>exact ite_tt<|chain_last (b2 (aT ae s3 O ee _ fT cK) λfS s4 ⟨kR,pZ,ha,p0,fV⟩=>ko ae s4 O pZ y kR u fS Q ha cp p0 fV)
def alB(aZ:iS X (hp op) r)(ko:iS X (hp op') b5)(ba:d6 X a ta)(aq:d6 X b tb)(aT:d6 X c nH)
  (hm:autoParam (lastMarks [op,op'] [b,c]=Y1) az5._auto_1):nF X (.Compare a [op,op'] [b,c] pos)<|agJ<|IK r b5 ta tb nH:=by
 intro ae s O H Q I h
 refine isTrue_chain (b2 (ba ae s O H _ I h) λv s1 ⟨x,H1,bf,bA,aX⟩=>test_link (b2 (aq ae s1 O H1 _ bf aX) λu s2 ⟨y,bV,cR,cp,bb⟩ =>
  b2 (aZ ae s2 O bV x y v u _ cR bA cp bb) λd s3 ⟨z,ee,fT,hE,k,e,cK⟩=>?_)) hm
 subst e
 exists hE
 refine qW ?_;cases k with
 |false =>
  obtain⟨fH,bN,eM⟩:=cK
  exists bN
  exact ite_ff ⟨ee,fT,eM⟩
 |true =>
  refine ite_tt<|test_last (b2 (aT ae s3 O ee _ fT cK) λfS s4 ⟨kR,pZ,ha,p0,fV⟩=>b2 (ko ae s4 O pZ y kR u fS _ ha cp p0 fV) λd' s5 ⟨dD,jt,wG,yZ,k2,au,hU⟩=>?_);subst au
  exists yZ
  exact qW ⟨jt,wG,hU⟩
def TL(K:W.Frag)(x:V)(H:aJ)(k:Bool):Prop :=
 match x with
 |.br=>k=Y1
 |.aC b=>k=b
 |.int i=>k=(i != 0)
 |.str y=>y.H<=dg/\k=((y.H:Int) != 0)
 |.sP y=>y.O<=dg/\k=((y.O:Int) != 0)
 |.ref p=>(∃xs,gv K H p xs/\k=!xs.isEmpty)\/(∃xs,e5 K H p xs/\k=!xs.isEmpty)\/∃ay,H p=J (.aw ay)/\k=!ay.isEmpty
 |_=>False
def aak{κ:Type}{ay:List<|κ×V}{ah:List<|κ×mt}(r:fq ay ah):(!ah.isEmpty)=!ay.isEmpty:=by
 exists r<;>rfl
def Oz(r:cG xs a5):(!a5.B.isEmpty)=!xs.isEmpty:=by
 exists r<;>simp
def zN:(dg:Nat)<2^63:=by rw[mI];decide
def ah0:afP X (λx H Q=>∃k,TL X.K x H k/\Q k H):=by
 intro ae s O H x v Q I cF h;obtain⟨k,e,q⟩:=h;have aB:=zN;have aP:dg=16777216:=mI;cases x with
 |br =>
  exists cF
  have bN:k=Y1:=e;subst bN;exact truthy_none ⟨H,I,q⟩
 |aC b =>
  exists cF
  have bN:k=b:=e;subst bN;exact qW ⟨H,I,q⟩
 |int i =>
  obtain⟨t,rfl⟩:=cF;have bN:k=(i != 0):=e;subst bN;exact PySem.P.truthy_int ⟨H,I,q⟩
 |str y =>
  obtain⟨t,rfl⟩:=cF;obtain⟨aK,bN⟩:y.H<=dg/\k=((y.H:Int) != 0):=e;subst bN;exact PySem.P.truthy_str Z3 ⟨H,I.tok _,q⟩
 |sP y =>
  obtain⟨t,rfl⟩:=cF;obtain⟨aK,bN⟩:y.O<=dg/\k=((y.O:Int) != 0):=e;subst bN;exact W.truthy_bytes Z3 ⟨H,I.tok _,q⟩
 |ref p =>
  exists cF
  have bN:(∃xs,gv X.K H p xs/\k=!xs.isEmpty)\/(∃xs,e5 X.K H p xs/\k=!xs.isEmpty)\/∃ay,H p=J (.aw ay)/\k=!ay.isEmpty:=e;rcases bN with⟨xs,av,bN⟩|⟨xs,av,bN⟩|⟨ay,av,bN⟩
  ·subst bN;obtain⟨a5,r,cQ,hz⟩:=I.list av;have ei:=r.H;exact wpAny_truthy_list cQ.isList (by simp only[eT];lia) ⟨H,I.tok _,by rw[Oz r];exact q⟩
  ·subst bN;obtain⟨a5,r,cQ,hz⟩:=I.tuple av;have ei:=r.H;exact truthy_tuple cQ (by simp only[eT];lia) ⟨H,I.tok _,by rw[Oz r];exact q⟩
  ·subst bN;obtain⟨hz,fw,ah,r,m⟩:ay.H<=dg/\(p==qX)=Y1/\∃ah,fq ay ah/\s.heap.DictOf (hH X.R X.w) p ah:=I.b1 p _ av;have ei:ay.H=ah.H:=Paired.length r;exact wpAny_truthy_dict fw m Z3 ⟨H,I.tok _,by rw[aak r];exact q⟩
 |_=>exact(show False from e).elim
def vals1(r:cG [x] us):∃u,us=[u]/\cW x u:=by
 cases r with
 |cons bA cp=>exists cp;exact⟨_,rfl,bA⟩
def vals2(r:cG [x,y] us):∃u fS,us=[u,fS]/\cW x u/\cW y fS:=by
 cases r with
 |cons bA cp =>
  cases cp with
  |cons hE p0=>exists p0;exact⟨_,_,rfl,bA,hE⟩
def aal(aT:X.calm=Y0):zM X (.builtin "min") (λxs H Q=>∃i j,xs=[.int i,.int j]/\Q (.int (if j<i then j else i)) H):=by
 intro ae s O H xs us Q I r h;obtain⟨i,j,rfl,q⟩:=h;obtain⟨u,fS,rfl,⟨t,rfl⟩,⟨t',rfl⟩⟩:=vals2 r;refine min_two_ints (I.ok.hd aT) λh' bx k=>⟨_,H,I.kept k,?_,q⟩
 by_cases bU:j<i
 ·rw[Y2 bU,Y2 bU];exact⟨_,rfl⟩
 ·rw[Y3 bU,Y3 bU];exact⟨_,rfl⟩
def aam:zM X (.type "str") (λxs H Q=>∃i,xs=[.int i]/\i.natAbs.log2<1920/\Q (.str<|toString i) H):=by intro ae s O H xs us Q I r h;obtain⟨i,rfl,hz,q⟩:=h;obtain⟨u,rfl,t,rfl⟩:=vals1 r;exact PySem.P.str_of_int hz ⟨.str _,H,I.tok _,⟨_,rfl⟩,q⟩
def afR(K:W.Frag)(x:V)(H:aJ)(n:Nat):Prop :=
 match x with
 |.str y=>y.H<=dg/\n=y.H
 |.sP y=>y.O<=dg/\n=y.O
 |.ref p=>(∃xs,gv K H p xs/\n=xs.H)\/∃xs,e5 K H p xs/\n=xs.H
 |_=>False
def IL:zM X (.builtin "len") (λxs H Q=>∃x n,xs=[x]/\afR X.K x H n/\Q (.int n) H):=by
 intro ae s O H xs us Q I r h;obtain⟨x,n,rfl,e,q⟩:=h;obtain⟨u,rfl,cF⟩:=vals1 r;have aB:=zN;have aP:dg=16777216:=mI;cases x with
 |str y =>
  obtain⟨t,rfl⟩:=cF;obtain⟨aK,bN⟩:y.H<=dg/\n=y.H:=e;subst bN;exact len_str Z3 ⟨.int _,H,I.tok _,⟨_,rfl⟩,q⟩
 |sP y =>
  obtain⟨t,rfl⟩:=cF;obtain⟨aK,bN⟩:y.O<=dg/\n=y.O:=e;subst bN;exact W.len_bytes Z3 ⟨.int _,H,I.tok _,⟨_,rfl⟩,q⟩
 |ref p =>
  exists cF
  have bN:(∃xs,gv X.K H p xs/\n=xs.H)\/∃xs,e5 X.K H p xs/\n=xs.H:=e;rcases bN with⟨xs,av,bN⟩|⟨xs,av,bN⟩
  ·subst bN;obtain⟨a5,b5,cQ,hz⟩:=I.list av;have ei:=b5.H;exact Calls.call_len_list cQ.isList (by simp only[eT];lia) ⟨.int xs.H,H,I.tok _,⟨_,by simp only[eT];rw[ei]⟩,q⟩
  ·subst bN;obtain⟨a5,b5,cQ,hz⟩:=I.tuple av;have ei:=b5.H;exact len_tuple cQ (by simp only[eT];lia) ⟨.int xs.H,H,I.tok _,⟨_,by simp only[eT];rw[ei]⟩,q⟩
 |_=>exact(show False from e).elim
end
structure TM (h:Heap) (x oO aN:Addr) (y1:Str->Option mt):Prop where
 obj:h.get? x=J (W.instObj aN oO)
 ns:h.Ns1 oO y1
 ne:oO≠x
def aan{h:Heap}(n:h.Ns1 oO y1):∃hr,h.get? oO=J hr/\∀name,W.lookIn name hr=J (y1 name):=by
 obtain⟨o,es,ep,aZ,hd,aW,_,hm⟩:=n;refine⟨o,aZ,λname=>?_⟩;have e:=hm name;unfold nsFind findBy at e;rw[<-Array.find?_toList]at e;unfold W.lookIn;rw[hd];dsimp only;split
 ·rename_i y q;rw[q]at e;exact congrArg J e
 ·rename_i q;rw[q]at e;have a:es.toList.any (·.refKey)=Y1:=by rw[MJ];intro y aK;obtain⟨z,t,lV⟩:=aW y<|Array.mem_toList_iff.mp aK;simp[DictEntry.refKey,lV]
  have gJ:¬es.toList.any (·.refKey)=Y0:=by rw[a];exact nx
  rw[Y3 gJ];exact congrArg J e
def TM.look(I:TM h x oO aN y1):∃hr,W.InstAt h x (W.instObj aN oO) aN (J hr)/\∀name,W.lookIn name hr=J (y1 name) :=
 let ⟨hr,aZ,aB⟩:=aan I.ns
 ⟨hr,⟨I.obj,rfl,rfl,aZ⟩,aB⟩
def x9.some_of(r:x9 (J v) o):∃u,o=J u/\cW v u:=by
 cases o with
 |none=>exact(show False from r).elim
 |some u=>exact⟨u,rfl,r⟩
structure OA (K:W.Frag) (aN:Addr):Prop where
 VK:W.plainGet K aN Str.empty=Y0
 hd:W.hasDictIn K aN=Y0
 po:W.plainOver K aN=Y0
 a0:W.findIn K ZI "__setattr__" = J (J<|.builtin "object.__setattr__")
def OA.get{K:W.Frag}{aN:Addr}(c:OA K aN)(f:Str):W.plainGet K aN f=Y0:=c.VK
section
variable {X:bI}{ae:List Z1}{O:St}{H:aJ}{s:aR}{A:dH}{E:mt->aR->Prop}{Q:mt->aR->Prop}{c:mt}{b:Bool}
inductive qK (K:W.Frag) (H:aJ):V->mt->Prop where
 |br:qK K H .br<|.type "NoneType"
 |aC (x:Bool):qK K H (.aC x)<|.type "bool"
 |int (i:Int):qK K H (.int i)<|.type "int"
 |str (x:Str):qK K H (.str x)<|.type "str"
 |uS (x:UInt64):qK K H (.uS x)<|.type "float"
 |ao {a:Addr} {xs:List V} (e:H a=J (.ao xs)):qK K H (.ref a)<|.type "list"
 |en {a:Addr} {o:Obj} {xs:List V} (e:H a=J (.en o<|.ao xs)):qK K H (.ref a)<|.type "list"
 |aD {a:Addr} {xs:List V} (e:H a=J (.aD xs)):qK K H (.ref a)<|.type "tuple"
 |aw {a:Addr} {ay:List<|Key×V} (e:H a=J (.aw ay)):qK K H (.ref a)<|.type "dict"
def zO(I:aS X ae O H s)(cF:cW x u)(ty:qK X.K H x t)(e:W.kitOne X.K t c=J b)(h:∀bx,Q (.bool b) { s with toks:=bx}) :
  bl Z2 A (call (.builtin "isinstance") [u,c]) Q E s:=by
 cases ty with
 |br=>cases (show u=Value.none from cF);exact W.kia_one W.kitx_none I.hJ True.intro e (λz=>nomatch z) h
 |aC y=>cases (show u=Value.bool y from cF);exact W.kia_one W.kitx_bool I.hJ True.intro e (λz=>nomatch z) h
 |int i=>obtain⟨t,q⟩:=(show ∃t,u=Value.int i t from cF);exists q;exact W.kia_one W.kitx_int I.hJ True.intro e (λz=>nomatch z) h
 |str y=>obtain⟨t,q⟩:=(show ∃t,u=Value.str y t from cF);exists q;exact W.kia_one W.kitx_str I.hJ True.intro e (λz=>nomatch z) h
 |uS y=>obtain⟨t,q⟩:=(show ∃t,u=Value.float y t from cF);exists q;exact W.kia_one W.kitx_float I.hJ True.intro e (λz=>nomatch z) h
 |@ao a xs cu =>
  cases (show u=Value.ref a from cF);obtain⟨_,_,n,_,af⟩:=(show gO X.R X.w H s.Q a (.ao xs) from I.b1 a _ cu)
  exact W.kia_one W.kitx_list I.hJ ⟨_,af,rfl⟩ e (λz=>nomatch z) h
 |@en a bJ xs cu =>
  cases (show u=Value.ref a from cF);obtain⟨_,_,_,n,_,af⟩:=(show gO X.R X.w H s.Q a (.en bJ<|.ao xs) from I.b1 a _ cu)
  exact W.kia_one W.kitx_list I.hJ ⟨_,af,rfl⟩ e (λz=>nomatch z) h
 |@aD a xs cu =>
  cases (show u=Value.ref a from cF);obtain⟨_,_,_,p⟩:=(show gO X.R X.w H s.Q a (.aD xs) from I.b1 a _ cu)
  obtain⟨o,af,ak,_⟩:=p;exact W.kia_one W.kitx_tuple I.hJ ⟨o,af,ak⟩ e (λz=>nomatch z) h
 |@aw a ay cu =>
  cases (show u=Value.ref a from cF);obtain⟨_,_,ah,_,p⟩:=(show gO X.R X.w H s.Q a (.aw ay) from I.b1 a _ cu)
  obtain⟨o,es,ep,af,ak,_⟩:=p;exact W.kia_one W.kitx_dict I.hJ ⟨o,af,ak.1⟩ e (λz=>nomatch z) h
end
structure eC (k:Nat) (A:dH):Prop where
 hd:A.handled=C
 q1:A.depth+3*k+5<Ho
 un:A.units+16*k+200<ir
def eC.mono{j k:Nat}(r:eC k A)(h:j<=k):eC j A:=⟨r.hd,by have:=r.q1;lia,by have:=r.un;lia⟩
theorem eC.deeper{k:Nat}(r:eC (k+1) A)(env:Env):eC k (A.deeper env) :=
 ⟨r.hd,by have:=r.q1;show A.depth+1+3*k+5<_;lia,by have:=r.un;show A.units+3+16*k+200<_;lia⟩
theorem eC.depth{k:Nat}(r:eC k A):A.depth<Ho:=by have:=r.q1;lia
def eC.Gv{k:Nat}(r:eC k A):A.units<ir:=by have:=r.un;lia
def afS:kS:=λ_ H Q=>Q [] H
def agK(ta:TE)(p1:kS):kS:=λO H Q=>ta O H λx H1=>p1 O H1 λxs bV=>Q (x::xs) bV
section
variable {X:bI}{e:Expr}{es:List Expr}{te:TE}{t:kS}{pos:Pos}
def zP:nG X [] afS:=λ_ _ _ _ H Q I h=>l4 ⟨[],H,I,.nil,h⟩
def ajH(ba:d6 X e te)(aV:nG X es t)(aP:autoParam ZN bu):nG X (e::es)<|agK te t:=by intro pos ae s O H Q I h;rw[aP];show bl _ _ (sm<|ZG::ff pos (b4 es X.I)) _ _ s;refine h9 (b2 (ba ae s O H _ I h) λu s1 ⟨x,H1,bf,bA,aX⟩=>?_);exact b2 (aV pos ae s1 O H1 _ bf aX) λus s2 ⟨xs,bV,cR,cp,bb⟩=>⟨x::xs,bV,cR,.cons bA cp,bb⟩
def afT(t:kS):TE:=λO H Q=>t O H λxs H1=>xs.H<=dg/\∀p,H1 p=C->Q (.ref p) (c4 H1 p<|.aD xs)
def afU(t:kS):TE:=λO H Q=>t O H λxs H1=>xs.H<=dg/\∀p,H1 p=C->Q (.ref p) (c4 H1 p<|.ao xs)
def UL{bH}(h:nG X es t):d6 X (.Tuple es bH pos)<|afT t:=by intro ae s O H Q I a7;refine wpAny_Tuple_spliced (b2 (h pos ae s O H _ I a7) λus s1 ⟨xs,H1,bf,r,z,q⟩=>⟨by rw[<-r.H];exact z,?_⟩);have hf:H1 s1.L=C:=bf.b1.fresh<|cg _;refine⟨.ref s1.L,c4 H1 s1.L<|.aD xs,bf.laid (t':=s1.toks) (λb u e=>ec _ e) (cg _) ?_,rfl,q _ hf⟩;exact⟨z,us,r,⟨_,gB _ rfl,rfl,rfl,_,rfl⟩⟩
def IM(h:nG X es t):d6 X (.List es pos)<|afU t:=by intro ae s O H Q I a7;refine wpAny_List_spliced (b2 (h pos ae s O H _ I a7) λus s1 ⟨xs,H1,bf,r,z,q⟩=>⟨by rw[<-r.H];exact z,?_⟩);have hf:H1 s1.L=C:=bf.b1.fresh<|cg _;refine⟨.ref s1.L,c4 H1 s1.L<|.ao xs,bf.laid (t':=s1.toks) (λb u e=>ec _ e) (cg _) ?_,rfl,q _ hf⟩;exact⟨z,us,0,r,gB _ rfl⟩
end
abbrev kV:=List V->aJ->fg->iu->Prop
abbrev o3:=List Env->aJ->aR->iu->mt->aR->Prop
structure yb (P:dx) (w:c3) (K:W.Frag) (a3:Str->Option mt) (base:Heap) (A:dH) (cj:List Env) (s:aR) (H:aJ):Prop where
 frames:A.frames=J cj
 mod:Mod K a3 base
 bs:∀b o,base.get? b=J o->s.heap.get? b=J o/\H b=C
 mU:base.E.O<=s.L
 kD:s.heap.FunFrames base cj
 o1:∀b∈hb cj,H b=C
 b1:gj P w H s.Q
 ft:oH s.gens
def Hy(cj:List Env)(P:dx)(w:c3)(H:aJ)(s:aR)(Q:fg)(u:mt)(s':aR):Prop :=
 ∃v aj,s'.os=s.os/\oH s'.gens/\gd (hb cj) [] H aj s.Q s'.Q/\gj P w aj s'.Q/\cW v u/\Q v aj
def Ni(CX:o3)(cj:List Env)(P:dx)(w:c3)(H:aJ)(s:aR)(Q:fg)(E:iu)(r:sq)(s':aR):Prop :=
 match r with
 |.ok (.ret u)=>Hy cj P w H s Q u s'
 |.ok _=>False
 |.error e=>CX cj H s E e s'
structure i0 (P:dx) (w:c3) (K:W.Frag) (a3:Str->Option mt) (base:Heap) (CX:o3) (k:Nat) (f:Addr) (fd:hB) (ps:List Str) (sp:kV):Prop where
 len:∀ah H Q E,sp ah H Q E->ah.H=ps.H
 run:∀(A:dH) (cj:List Env) (s:aR) (H:aJ) (args:Args) (us:List mt) (ah:List V) (Q:fg) (E:iu),eC k A->yb P w K a3 base A cj s H->uj s fd args (ps.zip us)->cG ah us->sp ah H Q E ->
  ki (bg P w) A (.call (.ref f) args) (Ni CX cj P w H s Q E) s
section
variable {X:bI}{ae:List Z1}{O:St}{H:aJ}{s s':aR}
def aS.LQ(I:aS X ae O H s):yb X.R X.w X.K X.a3 X.V X.A X.stack s H :=
 ⟨I.ok.frames,I.ok.mod,I.bs,bP I.ok.mU I.wD,I.stack,I.Gy,I.b1,I.ft⟩
def aS.after(I:aS X ae O H s)(h:Hy X.stack X.R X.w H s Q u s'):f5 X ae O Q u s':=by obtain⟨v,aj,os,ft,un,b1,r,q⟩:=h;obtain⟨bp,g,d,t,aao⟩:=s';obtain rfl:aao=s.os:=os;exact⟨v,aj,I.call (h':=bp) (g':=g) (d':=d) (t':=t) (ch:=[]) un b1 ft λb z=>absurd z Z7,r,q⟩
end
def agL(sp:kV)(sV:List V)(E:iu)(t:kS):TE:=λO H Q=>t O H λah H1=>sp (ah++sV) H1 Q E
def Binds(K:W.Frag)(fd:hB)(ps:List Str)(ds:List mt):Prop :=
 ∀(s:aR) (us:List mt),K.In s.Q->(us++ds).H=ps.H->uj s fd ⟨us,[]⟩ (ps.zip<|us++ds)
def Binds.all{K:W.Frag}{fd:hB}{ps:List Str}(h:∀us:List mt,us.H=ps.H->sk fd ⟨us,[]⟩=pure (ps.zip us)):Binds K fd ps []:=λs us _ aB=>by rw[r6]at aB |-;exact .of_eq<|h us aB
def IP(CX:o3)(X:bI)(E:iu):Prop:=∀(ae:List Z1) (O:St) (H:aJ) (s:aR) (e:mt) (s':aR),aS X ae O H s->CX X.stack H s E e s'->X.cv e s'
section
variable {X:bI}{CX:o3}{k:Nat}{f aN:Addr}{fd:hB}{ps:List Str}{sp:kV}{sV:List V}{ds:List mt}{E:iu}{x m:Str}{p pos apos:Pos}{e o:Expr}{es:List Expr}{ta:TE}{t:kS}
def UM{ae:List Z1}{O:St}{H:aJ}{s:aR}{Q:fg}{us:List mt}{ah:List V}(F:i0 X.R X.w X.K X.a3 X.V CX k f fd ps sp)(aV:eC k X.A)(aq:Binds X.K fd ps ds)(hd:cG sV ds)(av:IP CX X E)
  (I:aS X ae O H s) (r:cG ah us) (h:sp (ah++sV) H Q E):bl Z2 X.A (call (.ref f) us) (f5 X ae O Q) X.cv s:=by
 have cp:cG (ah++sV)<|us++ds:=r.append hd;have aB:(us++ds).H=ps.H:=by rw[<-cp.H];exact F.len _ _ _ _ h
 refine uh (sh (F.run X.A X.stack s H ⟨us,[]⟩ (us++ds) (ah++sV) Q E aV I.LQ (aq s us I.hJ aB) cp h) λr s' a7=>?_);cases r with
 |error e=>exact av ae O H s e s' I a7
 |ok bG =>
  cases bG with
  |ret u=>exact I.after a7
  |next=>exact False.elim a7
  |brk=>exact False.elim a7
  |cont=>exact False.elim a7
def ajI(F:i0 X.R X.w X.K X.a3 X.V CX k f fd ps sp)(aV:eC k X.A)(bT:fv X x)(hm:X.a3 x=J (.ref f))(aW:W.keepIn X.K (.ref f)=Y0)(aq:Binds X.K fd ps ds)(hd:cG sV ds)(av:IP CX X E)
  (ba:nG X (e::es) t) (fP:autoParam ZH eL) (he:autoParam ZN bu) (eR:autoParam ((ff pos<|b4 es X.I).any (·.1)=Y1) bu) :
  d6 X ZV (agL sp sV E t):=by
 intro ae s O H Q I h;refine l5<|uU I bT hm ?_ fP;refine W.callWith_K (h₀:=X.V) I.ok.mod.fl aW (b2 (ba pos ae s O H _ I h) λus s1 ⟨ah,H1,bf,r,q⟩=>⟨bf.hJ,?_⟩) he eR;exact UM F aV aq hd av bf r q
structure ano (K:W.Frag) (aN f:Addr):Prop where
 makes:W.makesIn K aN=Y0
 init:W.findIn K ZI "__init__" = J (J<|.ref f)
 fn:W.isFn K (.ref f)=Y0
 b8:W.keepIn K ZI=Y0
end
structure mE (N P:List Str) (sc:jq):Prop where
 kind:sc.kind=.function
 co:sc.isCoroutine=Y1
 gen:sc.isGenerator=Y1
 bW:N.Nodup
 pre:N.take P.H=P
 par:∀x∈P,sc.names.lookup x=J .local\/sc.names.lookup x=J .cell
 ah1:∀y∈sc.e,y.2≠.free
theorem OB{hk:Str->Option sl}:∀{binds:List (Str×mt)} {m:Str->Option mt},(∀v,(x,v)∉binds)->bindL hk binds m x=m x
 |[],_,_=>rfl
 |(n,v)::r,m,h=>by
  unfold bindL;rw[OB λw hw=>h w<|am _ hw];split
  ·have:x≠n:=by rintro rfl;exact h v dS
   simp[this]
  ·rfl
theorem OC{hk:Str->Option sl}:∀{binds:List (Str×mt)} {m:Str->Option mt},(∀v,(x,v)∉binds)->bindC hk binds m x=m x
 |[],_,_=>rfl
 |(n,v)::r,m,h=>by
  unfold bindC;rw[OC λw hw=>h w<|am _ hw];split
  ·rfl
  ·have:x≠n:=by rintro rfl;exact h v dS
   simp[this]
theorem OE{hk:Str->Option sl}:∀{P:List Str} {ah:List mt} {i:Nat} {m:Str->Option mt},P.Nodup->P[i]?=J x->ah[i]?=J v->hk x=J .local ->
  bindL hk (P.zip ah) m x=J v
 |[],_,_,_,_,h,_,_=>by simp at h
 |_::_,[],_,_,_,_,h,_=>by simp at h
 |p::P,w::ah,0,m,bW,af,ak,aW=>by simp at af ak;subst af;subst ak;show bindL hk ((p,w)::P.zip ah) m p=_;unfold bindL;rw[OB λv bS=>(nq.mp bW).1 (BQ bS).1,Y2 aW];simp
 |p::P,w::ah,i+1,m,bW,af,ak,aW=>by show bindL hk ((p,w)::P.zip ah) m x=_;unfold bindL;exact OE (i:=i) (nq.mp bW).2 (by simpa using af) (by simpa using ak) aW
theorem OF{hk:Str->Option sl}:∀{P:List Str} {ah:List mt} {i:Nat} {m:Str->Option mt},P.Nodup->P[i]?=J x->ah[i]?=J v->hk x≠J .local ->
  bindC hk (P.zip ah) m x=J v
 |[],_,_,_,_,h,_,_=>by simp at h
 |_::_,[],_,_,_,_,h,_=>by simp at h
 |p::P,w::ah,0,m,bW,af,ak,aW=>by simp at af ak;subst af;subst ak;show bindC hk ((p,w)::P.zip ah) m p=_;unfold bindC;rw[OC λv bS=>(nq.mp bW).1 (BQ bS).1,Y3 aW];simp
 |p::P,w::ah,i+1,m,bW,af,ak,aW=>by show bindC hk ((p,w)::P.zip ah) m x=_;unfold bindC;exact OF (i:=i) (nq.mp bW).2 (by simpa using af) (by simpa using ak) aW
noncomputable def start(N:List Str)(ah:List V):St:=ah.map J++List.replicate (N.H-ah.H) C
noncomputable def jN(CX:o3)(P:dx)(w:c3)(K:W.Frag)(a3:Str->Option mt)(base:Heap)(N:List Str)(qual:Str)(scope:jq)(f:Addr)(cd:mt)(A:dH)(cj:List Env)(s:aR)(H:aJ)(E:iu):bI where
 prog:=P
 w:=w
 K:=K
 a3:=a3
 base:=base
 A:=A.deeper<|i3 qual scope s.L f cd
 N:=N
 cD:=s
 dI:=H
 env:=i3 qual scope s.L f cd
 cj:=cj
 stack:=i3 qual scope s.L f cd::cj
 ex:=[]
 calm:=Y0
 fn:=λ_=>Y0
 gC:=[]
 cv:=λe s'=>bl (bg P w) (A.deeper<|i3 qual scope s.L f cd) (leaving (i3 qual scope s.L f cd) e) (λ_ k8=>CX cj H s E e k8) (λbN k8=>CX cj H s E bN k8) s'
def OG{sc:jq}{n:Nat}(h:sc.names.lookup x=J .cell):∃c,(cellsFrom n sc.e []).lookup x=J c:=by have q:=W.cellsFrom_some sc.e n []<|.inl h;exact yH.mp q
def OH{CX:o3}{P:dx}{w:c3}{K:W.Frag}{a3:Str->Option mt}{base:Heap}{N ps:List Str}{qual:Str}{scope:jq}{f:Addr}{cd:mt}{A:dH}{cj:List Env}{s s1:aR}{H:aJ}{E:iu}{us:List mt}{ah:List V}
  (cc:mE N ps scope) (hd:A.handled=C) (dE:yb P w K a3 base A cj s H) (aB:ah.H=ps.H) (r:cG ah us)
  (x:InCallC s s.L (bindL (i3 qual scope s.L f cd).kindOf (ps.zip us) λ_=>C) (cellsFrom (s.L+1) scope.e []) (bindC (i3 qual scope s.L f cd).kindOf (ps.zip us) λ_=>C) s1) :
  aS (jN CX P w K a3 base N qual scope f cd A cj s H E) [] (start N ah) H s1:=by
 have eR:ps.H<=N.H:=by have:=congrArg List.H cc.pre;rw[jS]at this;exact bP (d1 this.symm)<|BY _ _
 obtain⟨af,bx,rfl,aW⟩:=x.done;have zQ:∀b:Addr,b∉(jN CX P w K a3 base N qual scope f cd A cj s H E).ex:=λb z=>absurd (show b∈([]:List Addr) from z) Z7
 refine⟨⟨dE.mod,cc.kind,rfl,rfl,cg _,λy z c af ak=>?_,λy aK=>?_,λy c _ h=>?_,λ_=>hd,Around.frames_deeper dE.frames,.inr ⟨rfl,rfl⟩,λb z=>absurd z<|zQ b,dE.bs,dE.mU,λb _ _=>zQ b,λb z=>absurd z<|zQ b,dE.kD,dE.o1⟩,
  rfl,dE.ft,gd.kept aW,⟨_,x.toInCall.ns,λi y v af ak bc=>?_⟩,λy c h=>⟨_,x.cell y c h⟩,dE.b1.fresh<|cg _,λy c h=>?_,λp aF=>absurd (show p∈([]:List Z1) from aF) Z7,dE.b1.kept aW,?_⟩
 ·exact name_of_addr x.apart (PySem.mem_of_lookup af)<|PySem.mem_of_lookup ak
 ·have aK:scope.names.lookup y=J .cell\/scope.names.lookup y=J .free:=aK;rcases aK with aK|aK
  ·exact OG aK
  ·exact absurd rfl<|cc.ah1 _<|PySem.mem_of_lookup aK
 ·exact ez<|x.above y c<|PySem.mem_of_lookup h
 ·have hi:i<ah.H:=by
   unfold start at ak;by_cases hi:i<ah.H
   ·exact hi
   ·rw[BK<|by simpa using hi]at ak;rw[BN]at ak;split at ak<;>exists ak
  have ba:ah[i]?=J v:=by
   unfold start at ak;rw[ym (by simpa using hi),ke]at ak;cases e:ah[i]? with
   |none=>rw[e]at ak;exists ak
   |some a=>rw[e]at ak;cases ak;rfl
  obtain⟨u,b7,bq⟩:=r.get ba;have aF:ps[i]?=J y:=by rw[<-cc.pre,Mv<|d4 hi<|d1 aB];exact af
  have OI:ps.Nodup:=by rw[<-cc.pre];exact cc.bW.sublist<|yq _ _
  refine⟨u,bq,?_⟩;rcases cc.par y (MA aF) with k|k
  ·exact .inl ⟨k,OE OI aF b7 k⟩
  ·obtain⟨c,e⟩:=OG (n:=s.L+1) k;refine .inr ⟨.inl k,c,e,?_⟩;have q:=x.cell y c e;rw[OF OI aF b7<|by show scope.names.lookup y≠_;rw[k];decide]at q;exact q
 ·exact dE.b1.fresh<|ez<|x.above y c<|PySem.mem_of_lookup h
 ·unfold start;show _=N.H;rw[gq,cP,ou];exact nt<|bP (d1 aB) eR
def Ug{CX:o3}{P:dx}{w:c3}{K:W.Frag}{a3:Str->Option mt}{base:Heap}{k:Nat}{f:Addr}{name qual:Str}{params:Arguments}{body:List Stmt}{scope:jq}{wI eA doc pm c8 eD js:mt}{an hr:Option Addr}
  {qk:Array<|Option mt} {N ps:List Str} {sp:kV} (fM:K.lookup f=J ⟨js,hr,.func<|W.fnOf name qual params body scope wI eA doc pm an c8 eD,qk⟩) (g0:W.codeIn K c8 qual=Y0) (cc:mE N ps scope)
  (len:∀ah H Q E,sp ah H Q E->ah.H=ps.H)
  (kJ:∀(A:dH) (cj:List Env) (s:aR) (H:aJ) (ah:List V) (Q:fg) (E:iu),eC k (A.deeper<|i3 qual scope s.L f c8)->sp ah H Q E ->
   ∃t,kp (jN CX P w K a3 base N qual scope f c8 A cj s H E) body t/\t { bD:=λ_ aj=>Q .br aj,aU:=Q} (start N ah) H) :
  i0 P w K a3 base CX (k+1) f (W.fnOf name qual params body scope wI eA doc pm an c8 eD) ps sp:=by
 refine⟨len,λA cj s H args us ah Q E aV dE aq r k9=>?_⟩;have aB:=len _ _ _ _ k9;have lF:K.In s.Q:=dE.mod.fl.keeps λb o e=>(dE.bs b o e).1;have lim:s.Q.NoLimit:=dE.mod.nolimit.keeps λb o e=>(dE.bs b o e).1;have agM:∀y∈ps.zip us,scope.names.lookup y.1=J .local\/(scope.names.lookup y.1=J .cell/\((cellsFrom (s.L+1) scope.e []).lookup y.1).isSome=Y0):=λ⟨n,v⟩ aK=>by
  rcases cc.par n (BQ aK).1 with q|q
  ·exact .inl q
  ·exact .inr ⟨q,W.cellsFrom_some _ _ _<|.inl q⟩
 refine codeAny_call_function aV.depth (lF _ _ fM) rfl cc.co cc.gen rfl (W.codeRec_of lF g0)<|aq _ _ _ _ ?_;refine Na cc.kind agM λenv he s1 x=>?_;subst he;refine⟨lim.keeps x.toInCall.keep,codeAny_func ?_⟩;obtain⟨t,cA,a7⟩:=kJ A cj s H ah Q E (aV.deeper _) k9;have I:aS (jN CX P w K a3 base N qual scope f c8 A cj s H E) [] (start N ah) H s1:=OH cc aV.hd dE aB r x;refine hj (cA [] s1 (start N ah) H _ I a7) (λbG s' aP=>?_) λe s' aP=>aP;have fin:∀{U':St} {aj:aJ} {v:V} {u:mt},aS (jN CX P w K a3 base N qual scope f c8 A cj s H E) [] U' aj s'->cW v u->Q v aj->Hy cj P w H s Q u s' :=
  λ{U' aj v u} cO bq q=>⟨v,aj,cO.os,cO.ft,cO.V,cO.b1,bq,q⟩
 cases bG with
 |ret u =>
  obtain⟨v,U',aj,cO,bq,q⟩:=aP;exact fin cO bq q
 |next =>
  obtain⟨U',aj,cO,q⟩:=aP;exact fin (v:=V.br) (u:=Value.none) cO rfl q
 |brk =>
  obtain⟨_,_,_,q⟩:=aP;exact False.elim q
 |cont =>
  obtain⟨_,_,_,q⟩:=aP;exact False.elim q
end bj
namespace fD
open PySem PyProof.Rows
noncomputable def f9:List Int->List Int->Bool
 |[],[]=>Y1
 |[],_::_=>Y0
 |_::_,[]=>Y1
 |x::xs,y::aO=>if x=y then f9 xs aO else decide (x<y)
section
variable {prog:dx}{w:c3}{A:dH}{E:mt->aR->Prop}{s:aR}
noncomputable def dX(n d:Nat):Option Int->Nat
 |none=>d
 |some v=>if v<0 then(v+(n:Int)).M else min v.M n
def ah2(n d:Nat)(hd:d<=n)(o:Option Int):dX n d o<=n:=by
 cases o with
 |none=>exact hd
 |some v =>
  show(if v<0 then(v+(n:Int)).M else min v.M n)<=n;by_cases bS:v<0
  ·rw[Y2 bS];lia
  ·rw[Y3 bS];exact BY _ _
def OJ(v:Int)(n d:Nat):(if v<0 then max (v+(n:Int)) 0 else min v (n:Int))=((dX n d (J v):Nat):Int):=by
 show(if v<0 then max (v+(n:Int)) 0 else min v (n:Int))=(((if v<0 then(v+(n:Int)).M else min v.M n):Nat):Int)
 by_cases bS:v<0
 ·simp only[Y2 bS];lia
 ·simp only[Y3 bS];lia
def aap(lo hi:Option Int)(n:Nat):Builtin.Slice.sliceAdjust lo hi 1 (n:Int)=(((dX n 0 lo:Nat):Int),((dX n n hi:Nat):Int)):=by
 have af:¬ ((1:Int)<0):=by decide
 unfold Builtin.Slice.sliceAdjust;simp only[af,if_false];refine Prod.ext ?_ ?_
 ·cases lo with
  |none=>rfl
  |some v=>exact OJ v n 0
 ·cases hi with
  |none=>rfl
  |some v=>exact OJ v n n
def aaq(i j:Nat):Builtin.Slice.slicePlaces (i:Int) (j:Int) 1=j-i:=by
 unfold Builtin.Slice.slicePlaces;have af:(1:Int)>0:=by decide
 simp only[af,if_true,Int.ediv_one];split<;>lia
def BF(p:pU v o)(h:Q o s):bl Z9 A (Builtin.Slice.slicePartIndex v) Q E s:=by
 cases p with
 |none=>exact slicePart_none h
 |int i t=>exact slicePart_int h
def VF{lo hi:Option Int}{n:Nat}{Q:Int×Int×Nat->aR->Prop}(aP:s.heap.IsSliceOf cX i5 i6 .none)(cQ:pU i5 lo)(pu:pU i6 hi)
  (h:Q (((dX n 0 lo:Nat):Int),1,dX n n hi-dX n 0 lo) s):bl Z9 A (Builtin.Slice.sliceApplied (.ref cX)<|pure (n:Int)) Q E s:=by
 obtain⟨os,mW,nQ,mi⟩:=id aP;unfold Builtin.Slice.sliceApplied Builtin.Slice.sliceFields;refine a8<|a8<|wz mW mi (x:=i5) rfl<|a8<|wz mW mi (x:=i6) rfl<|a8<|wz mW mi (x:=.none) rfl<|bZ ?_;refine a8<|slicePart_none ?_;show bl _ _ (if((1:Int)==0)=Y0 then _ else _) _ _ s;rw[Y3 Z0];refine a8<|BF cQ<|a8<|BF pu<|a8<|bZ ?_;show bl _ _ (match Builtin.Slice.sliceAdjust lo hi 1 (n:Int) with|(lo,hi)=>pure (lo,(1:Int),Builtin.Slice.slicePlaces lo hi 1)) _ _ s;rw[aap lo hi n];show bl _ _ (pure (((dX n 0 lo:Nat):Int),(1:Int),Builtin.Slice.slicePlaces ((dX n 0 lo:Nat):Int) ((dX n n hi:Nat):Int) 1)) _ _ s;rw[aaq];exact bZ h
def alC(xs:Array mt)(i k:Nat):((List.range k).filterMap λ(m:Nat)=>xs[((i:Int)+(m:Int)*1).M]?).B=((xs.toList.drop i).take k).B:=by
 have e:(λ(m:Nat)=>xs[((i:Int)+(m:Int)*1).M]?)=λm=>xs[i+m]?:=by
  funext m;have:((i:Int)+(m:Int)*1).M=i+m:=by lia
  rw[this]
 rw[e];have:=pick_run xs i k;rw[MG]at this;have au:((λx=>xs[x]?)∘λx=>i+x)=λm=>xs[i+m]?:=rfl;rw[au]at this;rw[this]
def anj{lo hi:Option Int}(cA:IsTup s.Q t items)(aP:s.heap.IsSliceOf cX i5 i6 .none)(cQ:pU i5 lo)(pu:pU i6 hi)
  (hw:¬ (dX items.O 0 lo=0/\dX items.O items.O hi=items.O))
  (h:Q (.ref s.L) { s with heap:=s.heap.push { cls:=.type "tuple",data:=.seq ((items.toList.drop (dX items.O 0 lo)).take (dX items.O items.O hi-dX items.O 0 lo)).B}})
  (hsz:items.O<=dg):bl Z9 A (nC (.ref t)<|.ref cX) Q E s:=by
 have rX:sizeOk<|.seq ((items.toList.drop<|dX items.O 0 lo).take (dX items.O items.O hi-dX items.O 0 lo)).B:=by show((items.toList.drop<|dX items.O 0 lo).take (dX items.O items.O hi-dX items.O 0 lo)).B.O<=dg;rw[eT,jS,gc,gH];lia
 have bU:dX items.O items.O hi<=items.O:=ah2 _ _ (cg _) hi;obtain⟨os,mW,nQ,mi⟩:=id aP;have zR:s.TypeIs (.ref cX) "slice":=⟨os,mW,nQ⟩
 unfold nC
 try with_reducible refine jo ?_
 first|refine a8 (bZ ?_)|skip
 refine a8<|Hj cA.typeIs Z0 ?_
 refine a8 (yM (name:=Str.ofString "__getitem__") cA.typeIs PyProof.Rows.slot_tuple_getitem
  (sg PyProof.Rows.slot_tuple_getitem cA.typeIs Hs ?_<|Ht _ _))
 show bl _ _ (Builtin.Tuple.tupleItemsOf (.ref t) >>= _) _ _ s;refine a8<|Hu cA ?_;refine a8<|si zR ?_;rw[Y2 Z0];refine a8<|VF aP cQ pu ?_;have IQ:¬ ((((dX items.O 0 lo:Nat):Int)==0&&(1:Int)==1&&(dX items.O items.O hi-dX items.O 0 lo)==items.O)=Y0):=by intro q;rw[f3,f3]at q;have aX:((dX items.O 0 lo:Nat):Int)=0:=eq_of_beq q.1.1;have bb:dX items.O items.O hi-dX items.O 0 lo=items.O:=eq_of_beq q.2;exact hw ⟨by lia,by lia⟩
 show bl _ _ (if(((dX items.O 0 lo:Nat):Int)==0&&(1:Int)==1&&(dX items.O items.O hi-dX items.O 0 lo)==items.O)=Y0 then _ else _) _ _ s;rw[Y3 IQ,alC]
 first
  |exact a8 (m:=Builtin.Tuple.tupleExact _)<|kP (bZ ⟨_,rfl,bZ h⟩) rX
  |exact a8 (m:=Builtin.Tuple.tupleExact _)<|kP (a8<|bZ<|bZ ⟨_,rfl,bZ h⟩) rX
  |exact a8<|a8 (m:=Builtin.Tuple.tupleExact _)<|kP (bZ<|bZ ⟨_,rfl,bZ h⟩) rX
  |exact a8<|a8 (m:=Builtin.Tuple.tupleExact _)<|kP (bZ ⟨_,rfl,bZ h⟩) rX
end
end fD
namespace bj
open PySem PySem.Spec PyProof.Rows
abbrev lG:=St->aJ->(Option Int->aJ->Prop)->Prop
def y2(X:bI)(e:Option Expr)(t:lG):Prop :=
 ∀(ae:List Z1) (s:aR) (O:St) (H:aJ) (Q:Option Int->aJ->Prop),aS X ae O H s->t O H Q ->
  bl Z2 X.A (evalPart e X.I) (λu s'=>∃o aj,aS X ae O aj s'/\pU u o/\Q o aj) X.cv s
def ajJ:lG:=λ_ H Q=>Q C H
def agN(t:TE):lG:=λO H Q=>t O H λx H1=>∃i,x=.int i/\Q (J i) H1
section
variable {X:bI}{e:Expr}{te:TE}{lo hi:Option Expr}{hV Cn:lG}{pos c7:Pos}
def ajK:y2 X C ajJ:=by intro ae s O H Q I h;rw[Hr];exact bZ ⟨C,H,I,.none,h⟩
def ajL(h:d6 X e te):y2 X (J e)<|agN te:=by intro ae s O H Q I hw;rw[evalPart_some];refine b2 (h ae s O H _ I hw) λu s1 ⟨x,H1,bf,bA,aX⟩=>?_;obtain⟨i,rfl,q⟩:=aX;obtain⟨t,rfl⟩:=bA;exact⟨J i,H1,bf,.int i t,q⟩
def sW(X:bI)(r:V->Option Int->Option Int->aJ->fg->Prop):Prop :=
 ∀(ae:List Z1) (s:aR) (O:St) (H:aJ) (x:V) (v i5 i6:mt) (lo hi:Option Int) (cX:Addr) (Q:fg),aS X ae O H s->cW x v->s.heap.IsSliceOf cX i5 i6 .none->pU i5 lo->pU i6 hi->r x lo hi H Q ->
  ∃T id,typeLookup (.type T) "__getitem__" = pure (J<|.builtin id)/\s.TypeIs v T/\bl Z2 X.A (nC v<|.ref cX) (f5 X ae O Q) X.cv s
def sW.or(h:sW X r)(h':sW X b5):sW X (λx lo hi H Q=>r x lo hi H Q\/b5 x lo hi H Q):=by
 intro ae s O H x v i5 i6 lo hi cX Q I cF aP cQ pu q;rcases q with q|q
 ·exact h ae s O H x v i5 i6 lo hi cX Q I cF aP cQ pu q
 ·exact h' ae s O H x v i5 i6 lo hi cX Q I cF aP cQ pu q
def aar(r:V->Option Int->Option Int->aJ->fg->Prop)(te:TE)(hV Cn:lG):TE:=λO H Q=>te O H λx H1=>hV O H1 λl bV=>Cn O bV λu ee=>r x l u ee Q
def alD(aV:sW X r)(he:d6 X e te)(aB:y2 X lo hV)(b7:y2 X hi Cn):d6 X (.Subscript e (.Slice lo hi C c7) pos)<|aar r te hV Cn:=by intro ae s O H Q I h;refine Cj (b2 (he ae s O H _ I h) λv s1 ⟨x,H1,bf,bA,aX⟩=>?_);refine wpAny_Slice (b2 (aB ae s1 O H1 _ bf aX) λi5 s2 ⟨l,bV,cR,cQ,bb⟩=>b2 (b7 ae s2 O bV _ cR bb) λi6 s3 ⟨u,ee,fT,pu,cK⟩=>?_);rw[Hr];refine bZ ?_;have ha:aS X ae O ee { s3 with heap:=s3.heap.push { cls:=.type "slice",data:=.fields #[i5,i6,.none]}}:=fT.kept (t':=s3.toks) λb bJ q=>ec _ q;obtain⟨T,id,gs,cA,bT⟩:=aV ae { s3 with heap:=s3.heap.push { cls:=.type "slice",data:=.fields #[i5,i6,.none]}} O ee x v i5 i6 l u s3.L Q ha bA (Heap.IsSliceOf.new ..) cQ pu cK;show bl Z2 X.A (Ci e (.Slice lo hi C c7) v<|.ref s3.L) (f5 X ae O Q) X.cv { s3 with heap:=s3.heap.push { cls:=.type "slice",data:=.fields #[i5,i6,.none]}};exact tail_any (ops:=[.ref s3.L,v]) cA gs bT (by with_unfolding_all rfl)
noncomputable def tJ(xs:List V)(lo hi:Option Int):List V:=(xs.drop<|fD.dX xs.H 0 lo).take (fD.dX xs.H xs.H hi-fD.dX xs.H 0 lo)
def OK(xs:List V)(lo hi:Option Int):(tJ xs lo hi).H<=xs.H:=by unfold tJ;rw[jS,gc];lia
def afV(K:W.Frag):V->Option Int->Option Int->aJ->fg->Prop:=λx lo hi H Q=>∃a xs,x=.ref a/\e5 K H a xs /\
 ¬ (fD.dX xs.H 0 lo=0/\fD.dX xs.H xs.H hi=xs.H)/\∀p,H p=C->Q (.ref p) (c4 H p<|.aD<|tJ xs lo hi)
def ah3:sW X<|afV X.K:=by
 intro ae s O H x v i5 i6 lo hi cX Q I cF aP cQ pu h;obtain⟨a,xs,rfl,av,hw,q⟩:=h
 exists cF
 obtain⟨a5,r,cA,hz⟩:=I.tuple av;have ei:a5.B.O=xs.H:=by rw[eT];exact r.length.symm
 refine⟨"tuple",_,PyProof.Rows.slot_tuple_getitem.lookup,cA.typeIs,?_⟩;refine fD.anj cA aP cQ pu (by rw[ei];exact hw) ?_ (by rw[ei];exact hz);rw[ei];refine⟨.ref s.L,_,I.laid (t':=s.toks) (o:=.aD<|tJ xs lo hi) (λb bJ q=>ec _ q) (cg _) ?_,rfl,q _<|I.b1.fresh<|cg _⟩;exact⟨bP (OK xs lo hi) hz,_,(r.drop<|fD.dX xs.H 0 lo).take (fD.dX xs.H xs.H hi-fD.dX xs.H 0 lo),mh.new _ _⟩
end
noncomputable def sX(n:Nat)(i:Int):Option Nat:=if 0<=i then(if i<n then J i.M else C) else if-(n:Int)<=i then J (i+n).M else C
noncomputable def xb{α:Type}(xs:List α)(i:Int):Option α:=(sX xs.H i).bind λj=>xs[j]?
def OL{n:Nat}{i:Int}{j:Nat}(h:sX n i=J j):seqIndex? i n=J j/\j<n /\ -(n:Int)<=i/\i<n:=by
 unfold sX at h;by_cases h0:0<=i
 ·rw[Y2 h0]at h;by_cases af:i<n
  ·rw[Y2 af]at h;have e:i.M=j:=Option.some.inj h;exact⟨by rw[seqIndex_of h0 af,e],by lia,(jn (Int.neg_nonpos_of_nonneg<|iq _) h0),af⟩
  ·rw[Y3 af]at h;exists h
 ·rw[Y3 h0]at h;by_cases af:-(n:Int)<=i
  ·rw[Y2 af]at h;have e:(i+n).M=j:=Option.some.inj h;exact⟨by rw[seqIndex_neg (sf h0) af,e],by lia,af,(B5 (sf h0)<|iq _)⟩
  ·rw[Y3 af]at h;exists h
def OM{α:Type}{xs:List α}{i:Int}{v:α}(h:xb xs i=J v):∃j,seqIndex? i xs.H=J j/\xs[j]?=J v/\j<xs.H /\ -(xs.H:Int)<=i/\i<xs.H:=by
 unfold xb at h;cases e:sX xs.H i with
 |none=>rw[e]at h;exists h
 |some j =>
  rw[e]at h;obtain⟨af,ak,bc,cL⟩:=OL e;exact⟨j,af,h,ak,bc,cL⟩
def ajM(b:Expr):Prop:=∀o i,Cf b Y1 o i=operate [o,i] (nC o i)
def ON(X:bI)(r:dj):Prop :=
 ∀(value slice:Expr) (ae:List Z1) (s:aR) (O:St) (H:aJ) (x y:V) (v u:mt) (Q:fg),aS X ae O H s->cW x v->cW y u->r x y H Q ->
  Cf slice Y1 v u=operate [v,u] (nC v u)->bl Z2 X.A (Ci value slice v u) (f5 X ae O Q) X.cv s
def aas(X:bI)(id:String)(r:V->List V->aJ->fg->Prop):Prop :=
 ∀(ae:List Z1) (s:aR) (O:St) (H:aJ) (x:V) (xs:List V) (v:mt) (us:List mt) (Q:fg),aS X ae O H s->cW x v->cG xs us->r x xs H Q ->
  bl Z2 X.A (call (.builtin id)<|v::us) (f5 X ae O Q) X.cv s
section
variable {X:bI}{a b:Expr}{ta tb:TE}{pos:Pos}
def afW(K:W.Frag):dj:=λx y H Q=>∃p xs i v,x=.ref p/\y=.int i/\gv K H p xs/\xb xs i=J v/\Q v H
def afX(K:W.Frag):dj:=λx y H Q=>∃p xs i v,x=.ref p/\y=.int i/\e5 K H p xs/\xb xs i=J v/\Q v H
def ajN:ON X<|afW X.K:=by
 intro value slice ae s O H x y v u Q I cF dW h aP;obtain⟨p,xs,i,z,rfl,rfl,a7,he,q⟩:=h
 exists cF
 obtain⟨t,rfl⟩:=dW;obtain⟨a5,r,cQ,hz⟩:=I.list a7;obtain⟨j,af,ak,bc,cL,ef⟩:=OM he;obtain⟨w,nI,kq⟩:=r.get ak;have aB:=r.H;have bz:=zN;have fin:f5 X ae O Q w s:=⟨z,H,I,kq,q⟩
 by_cases h0:0<=i
 ·have bU:i.M=j:=by rw[seqIndex_of h0 ef]at af;exact Option.some.inj af
  exact item_listR cQ.isList h0 Z3 (by rw[bU];simpa using nI) fin aP
 ·have bU:(i+(a5.B.O:Int)).M=j:=by rw[seqIndex_neg (sf h0) cL]at af;rw[eT,<-aB];exact Option.some.inj af
  exact Nd (x:=w) cQ.isList.typeIs slot_list_getitem.lookup
   (wpAny_getItem_list_neg (Q:=λr s'=>r=w/\f5 X ae O Q r s') cQ.isList (sf h0) (by rw[eT]<;>lia) Z3 (by rw[bU];simpa using nI) ⟨rfl,fin⟩) aP
def ah4:ON X<|afX X.K:=by
 intro value slice ae s O H x y v u Q I cF dW h aP;obtain⟨p,xs,i,z,rfl,rfl,a7,he,q⟩:=h
 exists cF
 obtain⟨t,rfl⟩:=dW;obtain⟨a5,r,cQ,hz⟩:=I.tuple a7;obtain⟨j,af,ak,bc,cL,ef⟩:=OM he;obtain⟨w,nI,kq⟩:=r.get ak;have aB:=r.H;have bz:=zN;have fin:f5 X ae O Q w s:=⟨z,H,I,kq,q⟩
 exact Nd (x:=w) cQ.typeIs slot_tuple_getitem.lookup
  (getItem_tuple (j:=j) (Q:=λr s'=>r=w/\f5 X ae O Q r s') cQ Z3 Z3 (by rw[eT,<-aB];exact af) (by simpa using nI) ⟨rfl,fin⟩) aP
def aat(a5:List mt)(n j:Nat)(u:mt):Obj.mapSeq (·.setIfInBounds j u) { cls:=.type "list",data:=.seq a5.B n}={ cls:=.type "list",data:=.seq (a5.set j u).B n}:=by simp[Obj.mapSeq]
theorem aS.ao{ae:List Z1}{O:St}{H:aJ}{s:aR}{p:Addr}{xs:List V}(I:aS X ae O H s)(h:H p=J (.ao xs)) :
  ∃(a5:List mt) (n:Nat),cG xs a5/\s.heap.get? p=J { cls:=.type "list",data:=.seq a5.B n}/\xs.H<=dg:=by
 obtain⟨z,a5,n,r,e⟩:=I.b1 p _ h;exact⟨a5,n,r,e,z⟩
def aS.ah5{ae:List Z1}{O:St}{H:aJ}{s:aR}{p:Addr}{xs aO:List V}{a5 its':List mt}{n n':Nat}{f:Obj->Obj}(I:aS X ae O H s)(h:H p=J (.ao xs))
  (aZ:s.heap.get? p=J { cls:=.type "list",data:=.seq a5.B n}) (hf:f { cls:=.type "list",data:=.seq a5.B n}={ cls:=.type "list",data:=.seq its'.B n'}) (r:cG aO its') (hz:aO.H<=dg) (t:Nat) :
  aS X ae O (c4 H p<|.ao aO) { s with heap:=s.heap.update p f,toks:=t}:=by
 have e:(s.heap.update p f).get? p=J { cls:=.type "list",data:=.seq its'.B n'}:=by rw[qV f aZ (by rw[hf]<;>rfl),hf]
 refine I.write (x:=p) (by rw[h];trivial) (λb u aq q=>(t7 _ _<|Ne.symm aq).trans q) ⟨_,e⟩ ?_;exact⟨hz,its',n',r,e⟩
def Uh:V->V->V->aJ->(aJ->Prop)->Prop:=λo i v H Q=>∃p xs k j,o=.ref p/\i=.int k/\H p=J (.ao xs)/\sX xs.H k=J j/\Q (c4 H p<|.ao<|xs.set j v)
def set_list:LO X Uh:=by
 intro ae s O H o i v jW iv u Q I Co wJ bq h;obtain⟨p,xs,k,j,rfl,rfl,aF,bU,q⟩:=h
 exists Co
 obtain⟨t,rfl⟩:=wJ;obtain⟨a5,n,r,aZ,hz⟩:=I.ao aF;obtain⟨af,ak,bc,cL⟩:=OL bU;have aB:=r.H;have bz:=zN;have eG:aS X ae O (c4 H p<|.ao<|xs.set j v) { s with heap:=s.heap.update p (Obj.mapSeq (·.setIfInBounds j u))} :=
  I.ah5 aF aZ (aat a5 n j u) (r.set bq j) (by rw[r7];exact hz) s.toks
 by_cases h0:0<=k
 ·have aW:k.M=j:=by rw[seqIndex_of h0 cL]at af;exact Option.some.inj af
  exact W.ki_setAt aZ h0 Z3 (by rw[eT,<-aB];exact cL) (by rw[aW];exact⟨_,eG,q⟩)
 ·have aW:(k+(a5.B.O:Int)).M=j:=by rw[seqIndex_neg (sf h0) bc]at af;rw[eT,<-aB];exact Option.some.inj af
  exact W.ki_setBack aZ (sf h0) (by rw[eT,<-aB];exact bc) Z3 (by rw[aW];exact⟨_,eG,q⟩)
def aau(lo hi:Option Int)(n:Nat):(uf lo hi C n).1=((fD.dX n 0 lo:Nat):Int)/\(uf lo hi C n).2.1=((fD.dX n n hi:Nat):Int)/\(uf lo hi C n).2.2=1:=by
 refine⟨?_,?_,rfl⟩
 ·cases lo with
  |none=>simp[uf,fD.dX]
  |some i =>
   simp only[uf,fD.dX,MY,show(1:Int)>0 by decide,if_true];by_cases h:i<0
   ·simp only[h,if_true]<;>lia
   ·simp only[h,if_false]<;>lia
 ·cases hi with
  |none=>simp[uf,fD.dX]
  |some i =>
   simp only[uf,fD.dX,MY,show(1:Int)>0 by decide,if_true];by_cases h:i<0
   ·simp only[h,if_true]<;>lia
   ·simp only[h,if_false]<;>lia
def aav(a5:List mt)(lo hi:Option Int):slicePick a5.B lo hi C=((a5.drop<|fD.dX a5.H 0 lo).take (fD.dX a5.H a5.H hi-fD.dX a5.H 0 lo)).B:=by obtain⟨af,ak,bc⟩:=aau lo hi a5.B.O;unfold slicePick;rw[af,ak,bc];simp only[sliceRange_one,pick_run,eT]<;>rfl
def afY(K:W.Frag):V->Option Int->Option Int->aJ->fg->Prop:=λx lo hi H Q=>∃a xs,x=.ref a/\gv K H a xs/\∀p,H p=C->Q (.ref p) (c4 H p<|.ao<|tJ xs lo hi)
def ajO:sW X<|afY X.K:=by
 intro ae s O H x v i5 i6 lo hi cX Q I cF aP cQ pu h;obtain⟨a,xs,rfl,av,q⟩:=h
 exists cF
 obtain⟨a5,r,cA,hz⟩:=I.list av;have ei:=r.H;refine⟨"list",_,slot_list_getitem.lookup,cA.isList.typeIs,?_⟩;refine Nc cA.isList aP cQ pu .none Z7 ?_ (by rw[eT]<;>lia);rw[aav,<-ei];refine⟨.ref s.L,_,I.laid (t':=s.toks) (o:=.ao<|tJ xs lo hi) (λb bJ q=>ec _ q) (cg _) ?_,rfl,q _<|I.b1.fresh<|cg _⟩;exact⟨bP (OK xs lo hi) hz,_,0,(r.drop<|fD.dX xs.H 0 lo).take (fD.dX xs.H xs.H hi-fD.dX xs.H 0 lo),gB _ rfl⟩
noncomputable def ql:V->Bool
 |.br=>Y0
 |.aC _=>Y0
 |.int _=>Y0
 |.str _=>Y0
 |_=>Y1
noncomputable def mj:V->V->Bool
 |.br,.br=>Y0
 |.aC a,.aC b=>a==b
 |.aC a,.int b=>(if a then 1 else 0)==b
 |.int a,.aC b=>a==(if b then 1 else 0)
 |.int a,.int b=>a==b
 |.str a,.str b=>a==b
 |_,_=>Y1
def ah6(dW:cW y u)(cF:cW x v)(VL:ql y=Y0)(b0:ql x=Y0):SeqAt.EqAt A s u v<|mj y x:=by
 cases y with
 |br =>
  exists dW
  cases x with
  |br=>exists cF;exact SeqAt.EqAt.same _
  |aC b=>exists cF;exact SeqAt.EqAt.none_bool b
  |int b=>obtain⟨t,rfl⟩:=cF;exact SeqAt.EqAt.none_int b t
  |str b=>obtain⟨t,rfl⟩:=cF;exact SeqAt.EqAt.none_str b t
  |_=>exact absurd (show Y1=Y0 from b0) nx
 |aC a =>
  exists dW
  cases x with
  |br=>exists cF;exact SeqAt.EqAt.bool_none a
  |aC b=>exists cF;exact SeqAt.EqAt.bool_bool a b
  |int b=>obtain⟨t,rfl⟩:=cF;exact SeqAt.EqAt.bool_int a b t
  |str b=>obtain⟨t,rfl⟩:=cF;exact SeqAt.EqAt.bool_str a b t
  |_=>exact absurd (show Y1=Y0 from b0) nx
 |int a =>
  obtain⟨t',rfl⟩:=dW;cases x with
  |br=>exists cF;exact SeqAt.EqAt.int_none a t'
  |aC b=>exists cF;exact SeqAt.EqAt.int_bool a t' b
  |int b=>obtain⟨t,rfl⟩:=cF;exact SeqAt.EqAt.int_int a t' b t
  |str b=>obtain⟨t,rfl⟩:=cF;exact SeqAt.EqAt.int_str a t' b t
  |_=>exact absurd (show Y1=Y0 from b0) nx
 |str a =>
  obtain⟨t',rfl⟩:=dW;cases x with
  |br=>exists cF;exact SeqAt.EqAt.str_none a t'
  |aC b=>exists cF;exact SeqAt.EqAt.str_bool a t' b
  |int b=>obtain⟨t,rfl⟩:=cF;exact SeqAt.EqAt.str_int a t' b t
  |str b=>obtain⟨t,rfl⟩:=cF;exact SeqAt.EqAt.str_str a t' b t
  |_=>exact absurd (show Y1=Y0 from b0) nx
 |_=>exact absurd (show Y1=Y0 from VL) nx
noncomputable def jC(x:V)(u:mt):Bool:=match u with
 |.none=>mj .br x
 |.bool b=>mj (.aC b) x
 |.int i _=>mj (.int i) x
 |.str z _=>mj (.str z) x
 |_=>Y1
def IS(r:cW y u)(f:ql y=Y0):jC x u=mj y x:=by
 cases y with
 |br=>exists r;rfl
 |aC b=>exists r;rfl
 |int i=>obtain⟨t,rfl⟩:=r;rfl
 |str z=>obtain⟨t,rfl⟩:=r;rfl
 |_=>exact absurd (show Y1=Y0 from f) nx
theorem IT:∀{xs:List V} {us:List mt},cG xs us->xs.all ql=Y0->us.any (jC x)=xs.any λy=>mj y x
 |_,_,.nil,_=>rfl
 |y::xs,u::us,.cons r t,f=>by rw[jT,f3]at f;rw[oz,oz,IS r f.1,IT t f.2]
theorem zS(cF:cW x v)(b0:ql x=Y0):∀{xs:List V} {us:List mt},cG xs us->xs.all ql=Y0->∀u∈us,SeqAt.EqAt A s u v (jC x u)
 |_,_,.nil,_=>λu b7=>by exists b7
 |y::xs,u::us,.cons r t,f=>λfu b7=>by
  rw[jT,f3]at f;rcases d3.mp b7 with rfl|b7
  ·rw[IS r f.1];exact ah6 r cF f.1 b0
  ·exact zS cF b0 t f.2 fu b7
def Dv(x:V)(xs:List V):Bool:=xs.any λy=>mj y x
def IU(K:W.Frag)(neg:Bool):dj:=λx y H Q=>∃p xs,y=.ref p/\(gv K H p xs\/e5 K H p xs)/\ql x=Y0/\xs.all ql=Y0/\Q (.aC (if neg then !Dv x xs else Dv x xs)) H
def aaw:iS X (hp .NotIn)<|IU X.K Y0:=by
 intro ae s O H x y v u Q I cF dW h;obtain⟨p,xs,rfl,a7,b0,cm,q⟩:=h
 exists dW
 rcases a7 with a7|a7
 ·obtain⟨a5,r,cQ,hz⟩:=I.list a7;refine SeqAt.notIn_listAt (jC x) cQ.isList (λw hw=>zS cF b0 r cm w<|by simpa using hw) ⟨.aC _,H,I,rfl,?_⟩;rw[show a5.toArray.any (jC x)=a5.any (jC x) by simp,IT r cm];exact q
 ·obtain⟨a5,r,cQ,hz⟩:=I.tuple a7;refine SeqAt.notIn_tupleAt (jC x) cQ (λw hw=>zS cF b0 r cm w<|by simpa using hw) ⟨.aC _,H,I,rfl,?_⟩;rw[show a5.toArray.any (jC x)=a5.any (jC x) by simp,IT r cm];exact q
def OO:zM X (.type "list") (λxs H Q=>∃p aO,xs=[.ref p]/\(gv X.K H p aO\/e5 X.K H p aO)/\∀l,H l=C->Q (.ref l) (c4 H l<|.ao aO)):=by
 intro ae s O H xs us Q I r h;obtain⟨p,aO,rfl,a7,q⟩:=h;obtain⟨u,rfl,cF⟩:=vals1 r
 exists cF
 have fin:∀(a5:List mt),cG aO a5->aO.H<=dg->∀(h':Heap) (cH:Nat),(∀b dh,s.heap.get? b=J dh->h'.get? b=J dh) ->
   h'.get? s.L=J { cls:=.type "list",dict:=C,data:=.seq a5.B cH,slots:=#[]}->f5 X ae O Q (.ref s.L) { s with heap:=h'}:=λa5 b5 hz h' cH b8 e =>
  ⟨.ref s.L,_,I.laid (t':=s.toks) b8 (cg _) (show gO X.R X.w _ h' _ (.ao aO) from⟨hz,a5,cH,b5,e⟩),rfl,q _<|I.b1.fresh<|cg _⟩
 rcases a7 with a7|a7
 ·obtain⟨a5,b5,cQ,hz⟩:=I.list a7;have ei:=b5.H;obtain⟨o,aZ,aT,n,hd⟩:=cQ.isList;exact call_list_seq p (.inl rfl) aZ aT hd (λh' cH b8 e=>fin a5 b5 hz h' cH b8 e) (by simp only[eT]<;>lia)
 ·obtain⟨a5,b5,cQ,hz⟩:=I.tuple a7;have ei:=b5.H;obtain⟨o,aZ,aT,n,hd⟩:=cQ;exact call_list_seq p (.inr rfl) aZ aT hd (λh' cH b8 e=>fin a5 b5 hz h' cH b8 e) (by simp only[eT]<;>lia)
def OP:zM X (.type "tuple") (λxs H Q=>∃p aO,xs=[.ref p]/\((gv X.K H p aO/\∀l,H l=C->Q (.ref l) (c4 H l<|.aD aO))\/(e5 X.K H p aO/\Q (.ref p) H))):=by
 intro ae s O H xs us Q I r h;obtain⟨p,aO,rfl,h⟩:=h;obtain⟨u,rfl,cF⟩:=vals1 r
 exists cF
 rcases h with⟨a7,q⟩|⟨a7,q⟩
 ·obtain⟨a5,b5,cQ,hz⟩:=I.list a7;have ei:=b5.H;refine call_tuple_list cQ.isList (λh' b8=>?_) (by simp only[eT]<;>lia);have bf:aS X ae O H { s with heap:=h'}:=I.kept (t':=s.toks) b8;have cR:aS X ae O (c4 H h'.E.O<|.aD aO) { s with heap:=h'.push { cls:=.type "tuple",data:=.seq a5.B}} :=
   bf.laid (t':=s.toks) (λb o e=>ec _ e) (cg _) (show gO X.R X.w _ _ _ (.aD aO) from⟨hz,a5,b5,mh.new _ _⟩)
  exact⟨.ref h'.E.O,_,cR,rfl,q _<|bf.b1.fresh<|cg _⟩
 ·obtain⟨a5,b5,cQ,hz⟩:=I.tuple a7;exact call_tuple_same cQ ⟨.ref p,H,I,rfl,q⟩
def OQ(K:W.Frag)(T:String)(x:V)(H:aJ):Prop:=match x with
 |.str _=>T = "str"
 |.int _=>T = "int"
 |.ref p=>(T = "list" /\ ∃xs,gv K H p xs)\/(T = "tuple" /\ ∃o,K.lookup p=J o/\o.cls=.type "tuple" /\ o.dict=C) \/
   (T = "dict" /\ (∃ay,H p=J (.aw ay)))\/(T = "set" /\ ∃cc n,H p=J (.set cc n))
 |_=>False
def ah7{ae:List Z1}{O:St}{H:aJ}{s:aR}{T:String}{x:V}{v:mt}(I:aS X ae O H s)(r:cW x v)(ty:OQ X.K T x H) :
  s.TypeIs v T/\∀a,v=.ref a->∃bJ,s.heap.get? a=J bJ/\bJ.dict=C:=by
 cases x with
 |str z =>
  obtain⟨t,rfl⟩:=r;cases (show T = "str" from ty);exact⟨typeIs_str s z t,λ_ e=>nomatch e⟩
 |int i =>
  obtain⟨t,rfl⟩:=r;cases (show T = "int" from ty);exact⟨yT s i t,λ_ e=>nomatch e⟩
 |ref p =>
  exists r
  rcases ty with⟨rfl,xs,a7⟩|⟨rfl,o,aW,aT,hd⟩|⟨rfl,aW⟩|⟨rfl,cc,n,aW⟩
  ·obtain⟨a5,_,cQ,_⟩:=I.list a7;refine⟨cQ.isList.typeIs,λa e=>?_⟩
   exists e
   obtain⟨o,n,e,c,hd,_⟩:=cQ;exact⟨o,e,hd⟩
  ·refine⟨⟨o,I.hJ p o aW,aT⟩,λa e=>?_⟩
   exists e
   exact⟨o,I.hJ _ o aW,hd⟩
  ·have z:∃o,s.heap.get? p=J o/\o.ExactDict:=by obtain⟨ay,aW⟩:=aW;obtain⟨_,_,_,_,o,_,_,e,ex,_⟩:=I.b1 p _ aW;exact⟨o,e,ex⟩
   obtain⟨o,e,ex⟩:=z;refine⟨⟨o,e,ex.1⟩,λa au=>?_⟩
   exists au
   exact⟨o,e,ex.2.1⟩
  ·obtain⟨o,_,_,_,e,ex,_⟩:=I.b1 p _ aW;refine⟨⟨o,e,ex.1⟩,λa au=>?_⟩
   exists au
   exact⟨o,e,ex.2.1⟩
 |_=>exact False.elim ty
def aax(K:W.Frag)(T:String)(r:V->List V->aJ->fg->Prop)(to:TE)(t:kS):TE:=λO H Q=>to O H λx H1=>OQ K T x H1/\t O H1 λxs bV=>r x xs bV Q
variable {o e:Expr}{es:List Expr}{to:TE}{t:kS}{name:Str}{apos eb:Pos}{T id:String}{r:V->List V->aJ->fg->Prop}
def L8(pa:PlainAttrs T)(slot:Slot T name id)(aay:typeOf (.builtin id)=pure (.type "method_descriptor"))(hm:aas X id r)(aZ:d6 X o to)(ba:nG X (e::es) t)
  (rY:autoParam (ue o name X.I (eval o X.I)=eval o X.I) bu)
  (Bt:autoParam (((ff eb<|b4 (e::es) X.I).all (λx=>!x.1)&&(ui eb<|ug [] X.I).all (λx=>x.1.isSome)
   && decide ((e::es).H+([]:List pT).H+(if([]:List pT).isEmpty then 0 else 1)<30))=Y0) bu)
  (rZ:autoParam ((apos.endLine==eb.line)=Y0) bu) (aP:autoParam ZN bu) (BE:autoParam ((ff eb<|b4 es X.I).any (·.1)=Y1) bu) :
  d6 X (.Call (.Attribute o name apos) (e::es) [] eb) (aax X.K T r to t):=by
 intro ae s O H Q I h;refine wpAny_Call_method_late rY Bt rZ rfl (b2 (aZ ae s O H _ I h) λv s1 ⟨x,H1,bf,bA,ty,aX⟩=>?_);obtain⟨af,ak⟩:=ah7 bf bA ty;refine⟨T,id,pa,slot,aay,af,ak,?_⟩;have dt:=ba eb ae s1 O H1 _ bf aX;rw[aP]at dt |-;refine ua (by show(Y1||(ff eb (b4 es X.I)).any (·.1))=Y1;rw[BE]<;>rfl) (ub ?_);exact b2 dt λus s2 ⟨ah,bV,cR,cp,bb⟩=>hm ae s2 O bV x ah v us Q cR bA cp bb
end
def OR(X:bI)(id:String)(r:V->List V->aJ->fg->Prop):Prop :=
 ∀(ae:List Z1) (s:aR) (O:St) (H:aJ) (x:V) (xs:List V) (v:mt) (us:List mt) (Q:fg),aS X ae O H s->cW x v->cG xs us->r x xs H Q ->
  bl Z2 X.A (call (.builtin id)<|v::us) (f5 X ae O Q) X.cv s
def cG.one:∀{x:V} {us:List mt},cG [x] us->∃u,us=[u]/\cW x u:=by intro x us h;cases h with|cons r h=>cases h;exact⟨_,rfl,r⟩
def cG.two:∀{x y:V} {us:List mt},cG [x,y] us->∃u v,us=[u,v]/\cW x u/\cW y v:=by intro x y us h;cases h with|cons r h=>cases h with|cons q h=>cases h;exact⟨_,_,rfl,r,q⟩
theorem cG.reverse(h:cG xs us):cG xs.reverse us.reverse:=by
 induction h with
 |nil=>exact .nil
 |cons r t a4=>rw[BP,BP];exact cG.append a4<|.cons r .nil
theorem cG.rep(h:cG xs us):∀k:Nat,cG (List.replicate k xs).flatten (List.replicate k us).flatten
 |0=>.nil
 |k+1=>by rw[ov,ov,tU,tU];exact cG.append h<|cG.rep h k
theorem foldl_rep(a5:List mt):∀(k:Nat) (acc:List mt),
  List.foldl (λbH cf=>bH++cf) acc.B (List.replicate k a5.B)=(acc++(List.replicate k a5).flatten).B
 |0,acc=>by simp
 |k+1,acc=>by
  have e:acc.B++a5.B=(acc++a5).B:=by simp
  have au:(acc++a5)++(List.replicate k a5).flatten=acc++(List.replicate (k+1) a5).flatten:=by rw[ov,tU,h6]
  rw[<-au,<-foldl_rep a5 k (acc++a5),<-e,ov,mG]
section
variable {X:bI}{ae:List Z1}{O:St}{H:aJ}{s:aR}{l b:Addr}{xs aO zs:List V}
def aS.TN{a5 its':List mt}{n:Nat}{f:Array mt->Array mt}{t':Nat}(I:aS X ae O H s)(mM:H l=J (.ao xs))
  (e:s.heap.get? l=J { cls:=.type "list",data:=.seq a5.B n}) (hf:f a5.B=its'.B) (bS:cG aO its') (hz:aO.H<=dg) :
  aS X ae O (c4 H l<|.ao aO) { s with heap:=s.heap.update l (Obj.mapSeq f),toks:=t'}:=by
 have q:=PySem.IsL.update e f;rw[hf]at q;refine I.write (x:=l) (by rw[mM];exact trivial) (λgU u aq b7=>(t7 s.Q (Obj.mapSeq f)<|Ne.symm aq).trans b7) ⟨_,q⟩ ?_;exact⟨hz,its',_,bS,q⟩
def aS.LS{t':Nat}(I:aS X ae O H s)(bS:cG aO a5)(hz:aO.H<=dg) :
  aS X ae O (c4 H s.L<|.ao aO) { s with heap:=s.heap.push { cls:=.type "list",data:=.seq a5.B},toks:=t'} :=
 I.laid (λ_ _ q=>ec _ q) (cg _) ⟨hz,a5,0,bS,gB _ rfl⟩
theorem aS.fresh(I:aS X ae O H s):H s.L=C:=I.b1.fresh<|cg _
def aS.LU(I:aS X ae O H s)(mM:H l=J (.ao xs)):xs.H<=dg/\∃(a5:List mt) (n:Nat),cG xs a5/\xs.H=a5.H/\s.heap.get? l=J { cls:=.type "list",data:=.seq a5.B n}:=by obtain⟨z,a5,n,r,e⟩:=I.b1 l _ mM;exact⟨z,a5,n,r,r.H,e⟩
def OS{n:Nat}(h:n<=dg):Builtin.List.listTooLong n=Y1:=by unfold Builtin.List.listTooLong;exact decide_eq_false<|sa h
end
section
variable {X:bI}
def ajP:V->List V->aJ->fg->Prop:=λx ah H Q=>∃l xs y,x=.ref l/\ah=[y]/\H l=J (.ao xs)/\xs.H<dg/\Q .br (c4 H l<|.ao<|xs++[y])
def IV:OR X "list.append" ajP:=by
 intro ae s O H x ah v us Q I cF bq h;obtain⟨l,xs,y,rfl,rfl,mM,hz,q⟩:=h
 exists cF
 obtain⟨u,rfl,eV⟩:=bq.one;obtain⟨z,a5,n,r,aB,e⟩:=I.LU mM;refine nz F.slot_list_append ⟨_,e,rfl⟩ F.entry_list_append (F.args_list_append_2 _ _) (PySem.list_append l a5.B n u<|by rw[eT];lia) ⟨e,?_⟩;refine⟨.br,_,I.TN (its':=a5++[u]) mM e Z7 (r.append<|.cons eV .nil) ?_,rfl,q⟩;rw[gq,pK];exact hz
def afZ:dj:=λx y H Q=>∃l k xs,x=.ref l/\y=.int k/\H l=J (.ao xs) /\ -(2^63)<=k/\k<2^63/\xs.H*k.M<=dg /\
 ∀p,H p=C->Q (.ref p) (c4 H p<|.ao (List.replicate k.M xs).flatten)
def len_rep{α:Type}(xs:List α)(k:Nat):(List.replicate k xs).flatten.H=k*xs.H:=by
 induction k with
 |zero=>simp
 |succ k a4=>rw[ov,tU,gq,a4,sd,yE]
def ah8:iS X (l8 .Mult) afZ:=by
 intro ae s O H x y v u Q I cF dW h;obtain⟨l,k,xs,rfl,rfl,mM,af,ak,hz,q⟩:=h
 exists cF
 obtain⟨t,rfl⟩:=dW;obtain⟨z,a5,n,r,aB,e⟩:=I.LU mM;have ei:a5.B.O*k.M<=dg:=by rw[eT,<-aB];exact hz
 have af0:¬a5.B.O*k.M>(2^63-1) / 8:=by
  have:(dg:Nat)<=(2^63-1) / 8:=by decide
  lia
 have af1:¬ (!Builtin.List.listFitsIndex k)=Y0:=by rw[fitsIndex_both af ak];exact nx
 have L9:¬Builtin.List.listTooLong (a5.B.O*k.M)=Y0:=by rw[OS ei];exact nx
 have Bu:List.foldl (λbH cf=>bH++cf) #[] (List.replicate (if a5.B.isEmpty=Y0 then 0 else k.M) a5.B)=(List.replicate k.M a5).flatten.B:=by
  have f0:∀m:Nat,List.foldl (λbH cf=>bH++cf) #[] (List.replicate m a5.B)=(List.replicate m a5).flatten.B:=λm=>by have:=foldl_rep a5 m [];rw[pO]at this;exact this
  rw[f0];cases a5 with
  |nil=>simp
  |cons a b5=>rw[Y3 Z7]
 refine Nb (T:="list") (U:="int") Z0 ⟨_,e,rfl⟩ (λs'=>yT s' k t) noFill_list_mul F.fills_int_mul F.slot_int_rmul repeat_list F.slot_int_index.lookup
  (nz F.slot_int_rmul (yT s k t) F.entry_int_rmul (F.args_int_rmul_2 _ _) (int___rmul___int_list k t l a5.B n)
   ⟨e,rfl,⟨_,e,rfl⟩,nz F.slot_list_mul ⟨_,e,rfl⟩ F.entry_list_mul (F.args_list_mul_2 _ _) (AutoListH.list___mul___list_int_3 l a5.B n k t af1 af0 L9) ⟨e,?_⟩⟩)
 rw[Bu];exact⟨.ref _,_,I.LS (t':=s.toks) (r.rep k.M) (by rw[len_rep,qU];exact hz),rfl,q _ I.fresh⟩
end
section
variable {prog:dx}{w:c3}{A:dH}{E:mt->aR->Prop}{s:aR}
set_option maxRecDepth 100000 in
end
section
variable {κ:Type}[DecidableEq κ]
noncomputable def qL(ay:List<|κ×V)(k:κ):Option V:=(ay.find? λc9=>decide (c9.1=k)).map (·.2)
noncomputable def iG(ay:List<|κ×V)(k:κ)(v:V):List (κ×V) :=
 if(ay.any λc9=>decide (c9.1=k))=Y0 then ay.map (λc9=>if c9.1=k then(c9.1,v) else c9) else ay++[(k,v)]
def OT{p:κ×V}{r:List<|κ×V}{k:κ}(e:p.1=k):qL (p::r) k=J p.2:=by simp[qL,ii,e]
def OU{p:κ×V}{r:List<|κ×V}{k:κ}(e:¬p.1=k):qL (p::r) k=qL r k:=by simp[qL,ii,e]
def OV(ay:List<|κ×V)(k:κ)(v:V):(iG ay k v).H<=ay.H+1:=by
 unfold iG;split
 ·rw[cP];exact gb _ _
 ·rw[gq,d8,tX];exact cg _
theorem x9.getD(r:x9 o u)(Hz:cW d d'):cW (o.getD d)<|u.getD d':=by
 cases o with
 |none=>cases u with
  |none=>exact Hz
  |some _=>exact(show False from r).elim
 |some _=>cases u with
  |none=>exact(show False from r).elim
  |some _=>exact r
def fq.val(r:fq ay ah)(k:κ):x9 (qL ay k)<|uk ah k:=by
 unfold fq at r
 induction r with
 |nil=>exact True.intro
 |@cons p q ps ur h t a4 =>
  obtain⟨af,ak⟩:=h;by_cases e:p.1=k
  ·have bN:q.1=k:=af.symm.trans e;have b:uk (q::ur) k=J q.2:=by simp[uk,ii,bN]
   rw[OT e,b];exact ak
  ·have bN:¬q.1=k:=λz=>e<|af.trans z;have b:uk (q::ur) k=uk ur k:=by simp[uk,ii,bN]
   rw[OU e,b];exact a4
theorem fq.any(r:fq ay ah)(k:κ):(ay.any λc9=>decide (c9.1=k))=ah.any λc9=>decide (c9.1=k):=by
 unfold fq at r
 induction r with
 |nil=>rfl
 |cons h t a4=>rw[oz,oz,a4,h.1]
def fq.af2(r:fq ay ah)(k:κ)(dW:cW y u) :
  fq (ay.map λc9=>if c9.1=k then(c9.1,y) else c9) (ah.map λc9=>if c9.1=k then(c9.1,u) else c9):=by
 unfold fq at r |-
 induction r with
 |nil=>exact .nil
 |@cons p q ps ur h t a4 =>
  rw[cU,cU];refine .cons ?_ a4;obtain⟨af,ak⟩:=h;by_cases e:p.1=k
  ·rw[Y2 e,Y2<|af.symm.trans e];exact⟨af,dW⟩
  ·rw[Y3 e,Y3 λz=>e<|af.trans z];exact⟨af,ak⟩
def fq.put(r:fq ay ah)(k:κ)(dW:cW y u):fq (iG ay k y)<|pV ah k u:=by
 unfold iG pV;rw[r.any k];by_cases e:(ah.any λc9=>decide (c9.1=k))=Y0
 ·rw[Y2 e,Y2 e];exact r.af2 k dW
 ·rw[Y3 e,Y3 e];exact Paired.snoc r ⟨rfl,dW⟩
theorem fq.length{ay:List<|κ×V}{ah:List<|κ×mt}(r:fq ay ah):ay.H=ah.H:=Paired.length r
end
def zT(r:cW (eA k) u):(hH P w).is k u=Y0:=by
 cases k with
 |inl i=>obtain⟨t,e⟩:=(show ∃t,u=Value.int i t from r);subst e;exact YW P w i t
 |inr x=>obtain⟨t,e⟩:=(show ∃t,u=Value.str x t from r);subst e;exact YX P w x t
section
variable {P:dx}{w:c3}{H:aJ}{h:Heap}{a:Addr}
def agO(ok:gj P w H h)(e:iM H a u):gO P w H h a u:=e.ok ok
def j4(ok:gj P w H h)(e:iM H a<|.aw ay):ay.H<=dg/\(a==qX)=Y1/\∃ah,fq ay ah/\h.DictOf (hH P w) a ah :=
 show gO P w H h a (.aw ay) from agO ok e
def Uj(ok:gj P w H h)(e:H a=J (.aw ay)):ay.H<=dg/\(a==qX)=Y1/\∃ah,fq ay ah/\h.DictOf (hH P w) a ah:=j4 ok<|.inl e
end
def Bv(H:aJ)(a:Addr)(y:V)(r:Option V):Prop :=
 ∃ay k,iM H a (.aw ay)/\y=eA k/\r=qL ay k
def Bw(H:aJ)(a:Addr)(y v:V)(aj:aJ):Prop :=
 ∃ay k,H a=J (.aw ay)/\y=eA k/\ay.H<dg/\aj=c4 H a (.aw<|iG ay k v)
theorem Bw.k{k:Key}(e:H a=J (.aw ay))(aB:ay.H<dg):Bw H a (eA k) v<|c4 H a<|.aw<|iG ay k v:=⟨ay,k,e,rfl,aB,rfl⟩
section
variable {X:bI}{ae:List Z1}{O:St}{H:aJ}{s:aR}{a:Addr}{y v:V}{u r:mt}{o:Option V}{A:dH}{E:mt->aR->Prop}
def aS.bh(I:aS X ae O H s):qX<s.L:=by have h:kQ<s.L:=(I.mod.glob.keeps I.gr).lt;exact wk Z0 h
def aaz(b7:A.units+1<ir)(I:aS X ae O H s)(g:Bv H a y<|some v)(dW:cW y u)(h:∀fS s',aS X ae O H s'->cW v fS->Q fS s') :
  bl Z2 A (nC (.ref a) u) Q E s:=by
 obtain⟨ay,k,e,i7,l⟩:=g;subst i7;obtain⟨z,hd,ah,rel,dd⟩:=j4 I.b1 e;obtain⟨fS,hw,kq⟩:=x9.some_of (v:=v) (o:=uk ah k) (by rw[l];exact rel.val k);exact wpAny_getItem_of (zT dW) dd.mapOf hw<|h fS _ (I.tok _) kq
def OW{t':Nat}(I:aS X ae O H s)(sv:zG<|H a)(aP:Heap.SameBut a s.Q h')(he:∃q,h'.get? a=J q)(new:gO X.R X.w (c4 H a bJ) h' a bJ) :
  aS X ae O (c4 H a bJ) { s with heap:=h',toks:=t'} :=
 I.write (x:=a) sv (λb q aq z=>(aP.2 b aq).trans z) he new
def Dw(z:ay.H<=dg)(hd:(a==qX)=Y1)(rel:fq ay ah)(dd:h'.DictOf (hH P w) a ah) :
  gO P w aj h' a (.aw ay):=⟨z,hd,ah,rel,dd⟩
def aaA(b7:A.units+1<ir)(I:aS X ae O H s)(g:Bw H a y v aj)(dW:cW y u)(bq:cW v r)(h:∀s',aS X ae O aj s'->Q () s') :
  bl Z2 A (setItem (.ref a) u r) Q E s:=by
 obtain⟨ay,k,e,i7,l,HA⟩:=g;subst i7 HA;obtain⟨z,hd,ah,rel,dd⟩:=Uj I.b1 e;have hz:ah.H<=dg:=by rw[<-rel.H];exact z
 have aB:(iG ay k v).H<=dg:=by have:=OV ay k v;exact bP this l
 refine wpAny_setItem_pairs (hsz:=hz) (zT dW) dd λh' sY aP=>h _ ?_;have he:∃q,h'.get? a=J q:=let ⟨q,_,_,a7,_⟩:=sY;⟨q,a7⟩
 exact OW I (by rw[e];exact True.intro) aP he<|Dw aB hd (rel.put k bq) sY
end
section
variable {X:bI}{ae:List Z1}{O:St}{H:aJ}{s:aR}{a:Addr}{ay:List<|Key×V}{k:Key}{u:mt}{A:dH}{E:mt->aR->Prop}
def agP(I:aS X ae O H s)(e:iM H a<|.aw ay)(h:∀t s',aS X ae O H s'->Q (.int ay.H t) s'):bl Z2 A (call (.builtin "len") [.ref a]) Q E s:=by obtain⟨z,hd,ah,rel,dd⟩:=j4 I.b1 e;refine call_len_dict hd dd (by rw[<-rel.H];rw[mI]at z;lia) ?_;rw[<-rel.H];exact h _ _<|I.tok _
def ajQ{Q:Bool->aR->Prop}(I:aS X ae O H s)(e:iM H a<|.aw ay)(h:∀s',aS X ae O H s'->Q (!ay.isEmpty) s'):bl Z2 A (truthy<|.ref a) Q E s:=by
 obtain⟨z,hd,ah,rel,dd⟩:=j4 I.b1 e;refine wpAny_truthy_dict hd dd (by rw[<-rel.H];rw[mI]at z;lia) ?_;have q:ay.isEmpty=ah.isEmpty:=by exists rel<;>rfl
 rw[<-q];exact h _<|I.tok _
end
def aaB{X:bI}{ae:List Z1}{O:St}{H:aJ}{s:aR}{a:Addr}{y:V}{o:Option V}(I:aS X ae O H s)(g:Bv H a y o):s.TypeIs (.ref a) "dict":=by obtain⟨ay,k,e,_,_⟩:=g;obtain⟨_,_,ah,_,dd⟩:=j4 I.b1 e;exact dd.typeIs
def OX(h:Heap)(aq:qX<h.E.O):gO P w H (h.push { cls:=.type "dict",data:=.dict #[]}) h.E.O (.aw []) :=
 ⟨gG _,beq_eq_false_iff_ne.mpr<|Ne.symm<|bv aq,[],.nil,Heap.DictOf.new h⟩
def ah9:TE:=λ_ H Q=>∀p,H p=C->Q (.ref p) (c4 H p<|.aw [])
section
variable {X:bI}{pos:Pos}
def alE:d6 X (.Dict [] [] pos) ah9:=λae s O H Q I h =>
 wpAny_Dict_empty ⟨.ref s.L,_,I.laid (a:=s.L) (o:=.aw []) (t':=s.toks) (λ_ _ q=>ec _ q) (cg _)<|OX s.Q I.bh,rfl,h _<|I.b1.fresh<|cg _⟩
end
def IW:List (TE×TE)->St->aJ->(List (V×V)->aJ->Prop)->Prop
 |[],_,H,Q=>Q [] H
 |(bx,hW)::r,O,H,Q=>bx O H λx H1=>hW O H1 λy bV=>IW r O bV λps ee=>Q ((x,y)::ps) ee
abbrev Nj:List (V×V)->List (mt×mt)->Prop:=Paired λp q=>cW p.1 q.1/\cW p.2 q.2
def Dx(X:bI)(pos:Pos)(keys:List<|Option Expr)(values:List Expr)(uW:List<|TE×TE):Prop :=
 ∀(ae:List Z1) (s:aR) (O:St) (H:aJ) (Q:List (V×V)->aJ->Prop),aS X ae O H s->IW uW O H Q ->
  bl Z2 X.A (evalPairs<|pairTrees keys values X.I pos) (λah s'=>∃ps aj,aS X ae O aj s'/\Nj ps ah/\Q ps aj) X.cv s
def ajR:Dx X pos [] [] []:=λae s O H Q I h=>pairTrees_nil_walk ⟨[],H,I,.nil,h⟩
def alF(aW:d6 X k bx)(bS:d6 X v hW)(aV:Dx X pos dc ah uW) :
  Dx X pos (J k::dc) (v::ah) ((bx,hW)::uW):=λae s O H Q I h =>
 pairTrees_cons_walk (b2 (aW ae s O H _ I h) λu s1 ⟨x,H1,bf,cF,aX⟩=>b2 (bS ae s1 O H1 _ bf aX) λfL s2 ⟨y,bV,cR,dW,bb⟩ =>
  b2 (aV ae s2 O bV _ cR bb) λws s3 ⟨ps,ee,fT,rel,cK⟩=>⟨(x,y)::ps,ee,fT,.cons ⟨cF,dW⟩ rel,cK⟩)
noncomputable def xc(ay more:List<|Key×V):List<|Key×V:=more.foldl (λacc c9=>iG acc c9.1 c9.2) ay
def fq.merge:∀{more:List (Key×V)} {rs:List (Key×mt)} {ay:List (Key×V)} {ah:List (Key×mt)},fq more rs->fq ay ah->fq (xc ay more) (merged ah rs):=by
 intro more rs ay ah r;unfold fq at r
 induction r generalizing ay ah with
 |nil=>intro q;exact q
 |@cons p q ps ur h t a4 =>
  intro jv;have e:fq (iG ay p.1 p.2)<|pV ah q.1 q.2:=by have:=jv.put p.1 h.2;rw[<-h.1];exact this
  exact a4 e
theorem OY:∀(more ay:List (Key×V)),(xc ay more).H<=ay.H+more.H
 |[],ay=>by show ay.H<=ay.H+0;exact cg _
 |p::r,ay=>by have af:=OY r<|iG ay p.1 p.2;have ak:=OV ay p.1 p.2;show(xc (iG ay p.1 p.2) r).H<=_;rw[d8];lia
theorem OZ:∀{ay:List (Key×V)} {ws:List (mt×mt)},Nj (ay.map λc9=>(eA c9.1,c9.2)) ws->∃rs,Carries (hH P w) ws rs/\fq ay rs
 |[],_,r=>by rw[qR]at r;exists r;exact⟨[],True.intro,.nil⟩
 |p::ay,_,r=>by
  rw[cU]at r;cases r with
  |@cons a b as bs h t =>
   obtain⟨rs,c,q⟩:=OZ (P:=P) (w:=w) t;obtain⟨cq,cE⟩:=b;exact⟨(p.1,cE)::rs,⟨zT h.1,rfl,c⟩,.cons ⟨rfl,h.2⟩ q⟩
def agQ(uW:List<|TE×TE):TE:=λO H Q=>∀p,H p=C->IW uW O (c4 H p<|.aw []) λps bV=>bV p=J (.aw [])/\∃ay:List (Key×V),ps=ay.map (λc9=>(eA c9.1,c9.2))/\ay.H<=15/\Q (.ref p) (c4 bV p<|.aw<|xc [] ay)
def ajS(h:Dx X pos keys values uW)(Bx:keys.all (·.isSome)=Y0)(aB:keys.H=values.H)(h0:keys≠[])
  (aaC:keys.H<=15):d6 X (.Dict keys values pos)<|agQ uW:=by
 intro ae s O H Q I q;have bz:=I.b1.fresh<|cg s.L;have bf:=I.laid (a:=s.L) (o:=.aw []) (h':=s.heap.push { cls:=.type "dict",data:=.dict #[]}) (t':=s.toks) (λ_ _ q=>ec _ q) (cg _)<|OX s.Q I.bh;refine wpAny_Dict_walk (knd:=hH X.R X.w) Bx aB h0 aaC (b2 (h ae _ O _ _ bf<|q _ bz) λws s2 ⟨ps,bV,cR,rel,e,ay,ep,fM,bb⟩=>?_);subst ep;obtain⟨rs,c,rk⟩:=OZ (P:=X.R) (w:=X.w) rel;obtain⟨z,hd,anM,jv,dd⟩:=Uj cR.b1 e
 exists jv
 refine⟨rs,c,dd,λh' sY aP=>⟨.ref s.L,_,?_,rfl,bb⟩⟩;have hz:(xc [] ay).H<=dg:=by have af:=OY ay [];rw[tX]at af;rw[mI];lia
 have he:∃q,h'.get? s.L=J q:=let ⟨q,_,_,a7,_⟩:=sY;⟨q,a7⟩
 exact OW cR (by rw[e];exact True.intro) aP he<|Dw hz hd (rk.merge .nil) sY
structure Cp (X:bI) (o:Expr) (m:Str) (apos:Pos) (e:Expr) (eb:Pos):Prop where
 base:ue o m X.I (eval o X.I)=eval o X.I
 uX:((ff eb<|b4 [e] X.I).all (λx=>!x.1)&&(ui eb<|ug [] X.I).all (λx=>x.1.isSome)
  && decide (([e]:List Expr).H+([]:List pT).H+(if([]:List pT).isEmpty then 0 else 1)<30))=Y0
 line:(apos.endLine==eb.line)=Y0
 trees:ff eb (b4 [e] X.I)=[ZG]
structure M2 (X:bI) (o:Expr) (m:Str) (apos:Pos) (e f:Expr) (eb:Pos):Prop where
 base:ue o m X.I (eval o X.I)=eval o X.I
 uX:((ff eb<|b4 [e,f] X.I).all (λx=>!x.1)&&(ui eb<|ug [] X.I).all (λx=>x.1.isSome)
  && decide (([e,f]:List Expr).H+([]:List pT).H+(if([]:List pT).isEmpty then 0 else 1)<30))=Y0
 line:(apos.endLine==eb.line)=Y0
 trees:ff eb (b4 [e,f] X.I)=[ZG,(Y1,eval f X.I)]
def O0(H:aJ)(a:Addr):Prop:=∃ay,iM H a<|.aw ay
def aia{X:bI}{ae:List Z1}{O:St}{H:aJ}{s:aR}{a:Addr}(I:aS X ae O H s)(d:O0 H a) :
  s.TypeIs (.ref a) "dict" /\ (∀b,Value.ref a=.ref b->∃bJ,s.heap.get? b=J bJ/\bJ.dict=C)/\(a==qX)=Y1:=by
 obtain⟨ay,e⟩:=d;obtain⟨_,hd,ah,_,dd⟩:=j4 I.b1 e;refine⟨dd.typeIs,λb q=>?_,hd⟩;cases q;obtain⟨bJ,_,_,af,ak,_⟩:=dd;exact⟨bJ,af,ak.2.1⟩
section
variable {X:bI}{ae:List Z1}{O:St}{H:aJ}{s:aR}{a:Addr}{y d:V}{u r:mt}{o:Option V}{A:dH}{E:mt->aR->Prop}
def aib(b7:A.units+1<ir)(I:aS X ae O H s)(g:Bv H a y o)(dW:cW y u)(Hz:cW d r)(h:∀fS s',aS X ae O H s'->cW (o.getD d) fS->Q fS s') :
  bl Z2 A (call (.builtin "dict.get") [.ref a,u,r]) Q E s:=by
 obtain⟨ay,k,e,i7,l⟩:=g;subst i7;obtain⟨z,hd,ah,rel,dd⟩:=j4 I.b1 e;refine call_meetsIn PySem.F.slot_dict_get dd.typeIs PySem.F.entry_dict_get (PySem.F.args_dict_get_3 _ _ _) (meets_dict_get_default (hH X.R X.w) a (zT dW) hd r) ⟨_,dd.mapOf,h _ _ (I.tok _) ?_⟩;rw[l];exact(rel.val k).getD Hz
end
def aic(oP ty wK:TE):TE:=λO H Q=>oP O H λx H1=>∃a,x=.ref a/\O0 H1 a/\ty O H1 λy bV=>wK O bV λz ee=>∃o,Bv ee a y o/\Q (o.getD z) ee
section
variable {X:bI}{o e f:Expr}{apos eb:Pos}{oP ty wK:TE}
def alG(b7:X.A.units+1<ir)(aZ:d6 X o oP)(he:d6 X e ty)(hf:d6 X f wK)(m:M2 X o "get" apos e f eb):d6 X (.Call (.Attribute o "get" apos) [e,f] [] eb)<|aic oP ty wK:=by
 intro ae s O H Q I h;refine yN m.V m.uX m.line PySem.F.plainAttrs_dict PySem.F.slot_dict_get PySem.F.type_dict_get (b2 (aZ ae s O H _ I h) λu s1 ⟨x,H1,bf,cF,a,ex,d,aX⟩=>?_);subst ex;obtain rfl:u=Value.ref a:=cF;obtain⟨t1,eH,_⟩:=aia bf d;refine⟨t1,eH,?_⟩;rw[m.trees]
 refine ua rfl (ub (h9 (b2 (he ae s1 O H1 _ bf aX) λiv s2 ⟨y,bV,cR,dW,bb⟩ =>
  h9 (b2 (hf ae s2 O bV _ cR bb) λanp s3 ⟨z,ee,fT,VM,jW,g,cK⟩=>l4 ?_))))
 exact aib b7 fT g dW VM λfS s4 ha kq=>⟨_,ee,ha,kq,cK⟩
end
section
variable {X:bI}{ae:List Z1}{O:St}{H:aJ}{s:aR}{a:Addr}{ay:List<|Key×V}{A:dH}{E:mt->aR->Prop}
def alH(I:aS X ae O H s)(e:iM H a<|.aw ay)(h:∀p s',H p=C->aS X ae O (c4 H p<|.aw ay) s'->Q (.ref p) s'):bl Z2 A (call (.type "dict") [.ref a]) Q E s:=by obtain⟨z,hd,ah,rel,dd⟩:=j4 I.b1 e;refine kt_call_dict hd dd (by rw[<-rel.H];exact z) λh' sY aP=>?_;refine h _ _ (I.b1.fresh<|cg _)<|I.laid (a:=s.L) (o:=.aw ay) (t':=s.toks) (λb q a7=>?_) (cg _)<|Dw z (beq_eq_false_iff_ne.mpr<|Ne.symm<|bv I.bh) rel sY;exact(aP.2 b<|bv<|d5 a7).trans (ec _ a7)
end
end bj
namespace O1
open PySem PySem.W PySem.Calls PyProof.Rows
def aaD:∀(ns:List Int) (ah:List mt),WellAll P h ah (ns.map WData.int)->g9 ah ns:=by
 intro ns
 induction ns with
 |nil =>
  intro ah w;rw[qR]at w
  exists w
  exact .nil
 |cons n ns a4 =>
  intro ah w;rw[cU]at w;cases w with
  |cons a b =>
   exists a
   exact .cons _ _<|a4 _ b
def aaE{l:OpenLaw}{n:Nat}(bz:l.most=J n){P:Params}{args:List WData}
  (yc:l.row.toRowW.claim.pre args=Y0) (Dy:WellAll P h vals args) :
  ∃a ah ns,vals=[Value.ref a]/\args=[WData.list<|ns.map WData.int]/\h.get? a=J { cls:=.type "list",data:=.seq ah.B}/\g9 ah ns/\ns.H<=n:=by
 have aaF:WShape.hasAll [] args [.list .int]=Y0:=(pre_splitW yc).1;have aT:l.pre.holds [] { args:=args}=Y0:=(pre_splitW yc).2;obtain⟨d,r,rfl,af,ak⟩:=hasAllW_cons aaF;obtain rfl:=hasAllW_nil ak;obtain⟨xs,rfl,bc⟩:=hasW_list af;obtain⟨ns,rfl⟩:=items_int bc;have ei:ns.H<=n:=by
  unfold OpenLaw.pre at aT;have cL:(WTm.not<|.lt (.lit<|.int (n:Int))<|.len<|.arg 0).holds [] { args:=[.list<|ns.map .int]}=Y0:=by have cL:=(holds_andW aT).1;rw[bz]at cL;exact cL
  have ef:=condW_of cL<|w_not<|w_lt w_lit<|w_len_list<|w_arg rfl;rw[cP]at ef;refine hR λq=>?_;have eM:(n:Int)<((ns.H:Nat):Int):=by lia
  first
   |(rw[decide_eq_true eM]at ef;exact absurd ef Z0)
   |(simp at ef;lia)
 cases Dy with
 |cons eU fL =>
  exists fL
  cases eU with
  |list aZ Bx=>exact⟨_,_,ns,rfl,rfl,aZ,aaD ns _ Bx,ei⟩
def aaG(l:OpenLaw)(args:List WData):l.row.toRowW.claim.post args (.bool Y0) args=Y0 :=
 postW_of (r:=l.row.toRowW) (X:=(Y0==Y0))
  (show WShape.has [] (.bool Y0) .bool=Y0 by first|rfl|decide|simp[WShape.has,WShape.arms,WShape.armsAll])
  (show(WTm.eq .res<|.lit<|.bool Y0).value [] { args:=args,res:=J<|.bool Y0,after:=args}=J (.bool<|true==Y0) from w_eq_bool (w_res rfl) w_lit) rfl
def anf{l:OpenLaw}{n:Nat}{wL:(Str->Option mt)->Heap->Prop}{sy:c3->Heap->Prop}{d:DefRec}
  (bz:l.most=J n) (sZ:d.params.defaults=[])
  (call:∀(w:c3) (cD dM:aR) (a3 lD:Str->Option mt) (da:Addr) (o:Obj) (pm cd doc:mt) (a:Addr) (ah:List mt) (ns:List Int),
   Ground q loose [] wL w cD a3 lD dM.Q->sy w dM.Q ->
   dM.heap.get? da=J o->o.d=.func (docDef d.name d.params d.body d.Y pm cd doc)->dM.heap.CodeRec cd d.name->a3 d.name=J (.ref da) ->
   dM.heap.get? a=J { cls:=.type "list",data:=.seq ah.B}->g9 ah ns->ns.H<=n->dM.gens=#[] ->
   ki (bg l.R w) so (.call (.ref da) ⟨[.ref a],[]⟩) (λr s'=>r=.ok (.ret<|.bool Y0)/\OldK dM.Q s'.Q/\s'.os=dM.os/\oH s'.gens) dM) :
  WalkO q loose wL sy l.row.toRowW d [] (λf ah=>PySem.call f ah):=by
 intro w cD dM a3 lD G Y da o pm cd doc wI eA aZ hd g0 gV zU bT args vals as yc an2 anN Dy O2;obtain rfl:wI=.none:=Dflts.none gV sZ;obtain rfl:eA=.none:=Dflts.noKw gV;obtain⟨a,ah,ns,rfl,rfl,LV,hints,ei⟩:=aaE bz yc Dy;refine enter_call (sh (call w cD dM a3 lD da o pm cd doc a ah ns G Y aZ (fd_plain hd) g0 zU LV hints ei bT) λr s' a7=>?_);obtain⟨rfl,ak,bc,cL⟩:=a7;exact⟨.inl ⟨.bool Y0,.bool Y0,[],rfl,λ_=>rfl,.bool Y0,aaG l _,λ_=>⟨List.Pairwise.nil,λ_ hm=>(nomatch hm)⟩⟩,ak,bc,cL⟩
end O1
namespace bj
open PySem PySem.Spec PyProof.Rows
theorem qm:∀{ah:List mt} {ns:List Int},g9 ah ns->cG (ns.map V.int) ah
 |_,_,.nil=>.nil
 |_,_,.cons n t h=>.cons ⟨t,rfl⟩<|qm h
def LW(H:aJ):Prop:=∀b,H b=C\/∃o xs,H b=J (.en o<|.ao xs)
def alI{P:dx}{w:c3}{K:W.Frag}{a3 lD:Str->Option mt}{CX:o3}{k:Nat}{da a:Addr}{fd:hB}{x:Str}{sp:kV}{dM:aR}{ah:List mt}{ns:List Int}
  (lF:K.In dM.Q) (rj:dM.heap.Ns kQ a3) (aq:dM.heap.Ns builtinsNs lD) (aaH:∀x:Str,x ≠ "__name__" -> lD x=l6 x) (af3:dM.Q.NoLimit) (bT:dM.gens=#[])
  (ba:dM.heap.get? a=J { cls:=.type "list",data:=.seq ah.B}) (hi:g9 ah ns) (aB:ns.H<=dg) (aV:eC k so)
  (F:∀base:Heap,K.In base->base.Ns kQ a3->i0 P w K a3 base CX k da fd [x] sp) (agR:∀(s:aR) (u:mt),uj s fd ⟨[u],[]⟩ [(x,u)])
  (k9:∀H:aJ,LW H->gv K H a (ns.map V.int)->sp [.ref a] H (λv _=>v=.aC Y0) λ_ _ _=>False)
  (IX:∀H e s',CX [] H dM (λ_ _ _=>False) e s'->False) :
  ki (bg P w) so (.call (.ref da) ⟨[.ref a],[]⟩) (λr s'=>r=.ok (.ret<|.bool Y0)/\OldK dM.Q s'.Q/\s'.os=dM.os/\oH s'.gens) dM:=by
 have bq:=qm hi;have af4:=hi.H;have core:∀H:aJ,LW H->gv K H a (ns.map V.int)->gj P w H dM.Q->(∀b,H b≠C->b=a)->(H a≠C->K.lookup a=C) ->
   ki (bg P w) so (.call (.ref da) ⟨[.ref a],[]⟩) (λr s'=>r=.ok (.ret<|.bool Y0)/\OldK dM.Q s'.Q/\s'.os=dM.os/\oH s'.gens) dM:=by
  intro H wM fw b1 dt ia;have VC:∀{b:Addr} {o:Obj},dM.heap.get? b=J o->H b=C->(rP dM.Q H).get? b=J o:=λe n=>alv e n;have zQ:∀{b:Addr} {o:Obj} {es:Array DictEntry} {ep:Nat},dM.heap.get? b=J o->o.d=.dict es ep->H b=C:=λ{b o es ep} e d=>by
   cases q:H b with
   |none=>rfl
   |some u =>
    have bN:b=a:=dt b (by rw[q];simp);subst bN;rw[ba]at e;exists e;have d':Data.seq ah.B _=Data.dict es ep:=d
    exists d'
  have Dz:∀{b:Addr} {m:Str->Option mt},dM.heap.Ns b m->(rP dM.Q H).Ns b m:=λ{b m} ⟨o,es,ep,e,d,r⟩=>⟨o,es,ep,VC e<|zQ e d,d,r⟩
  have O3:K.In<|rP dM.Q H:=λb o e=>VC (lF b o e) (by
   cases q:H b with
   |none=>rfl
   |some u =>
    have bN:b=a:=dt b (by rw[q];simp);subst bN
    rw[ia<|by rw[q];simp]at e;exists e)
  have eh:Mod K a3<|rP dM.Q H:=⟨O3,Dz rj,⟨lD,Dz aq,aaH⟩,let ⟨HB,af,ak⟩:=af3;⟨HB,Dz af,ak⟩⟩
  have dE:yb P w K a3 (rP dM.Q H) so [] dM H:=⟨rfl,eh,λb o e=>ajB e,d1<|YY _ _,trivial,λb aq=>absurd (show b∈([]:List Addr) from aq) Z7,b1,.of_eq bT⟩
  refine sh ((F _ O3<|Dz rj).run so [] dM H ⟨[.ref a],[]⟩ [.ref a] [.ref a] _ _ aV dE (agR dM<|.ref a) (.cons rfl .nil) (k9 H wM fw)) λr s' h=>?_;cases r with
  |error e=>exact(IX H e s' h).elim
  |ok bG =>
   cases bG with
   |next=>exact False.elim h
   |brk=>exact False.elim h
   |cont=>exact False.elim h
   |ret u =>
    obtain⟨v,aj,os,ft,un,af5,b5,q⟩:=h;have eM:v=.aC Y0:=q;subst eM;obtain rfl:u=Value.bool Y0:=b5;refine⟨rfl,OldK.of_keep λb o e=>?_,os,ft⟩;cases q:H b with
    |none=>exact un.keep b o e q (by intro z;exact absurd (show b∈([]:List Addr) from z) Z7) Z7
    |some u =>
     rcases wM b with z|⟨bJ,xs,z⟩
     ·rw[q]at z;exists z
     ·have dD:=un.ob b bJ _ z;obtain⟨az,_⟩:=b1 b _ z;obtain⟨au,_⟩:=af5 b _ dD;rw[e]at az;exists az;exact au
 cases aW:K.lookup a with
 |some o =>
  have e:=lF a o aW;rw[ba]at e
  exists e
  refine core (λ_=>C) (λ_=>.inl rfl) (.inr ⟨_,ah.B,_,aW,rfl,rfl,rfl,by rw[eT,af4];exact aB,by simpa using bq⟩) (λb u z=>by have kR:(C:Option jV)=J u:=z;cases kR) (λb z=>absurd rfl z) λz=>absurd rfl z
 |none =>
  refine core (λb=>if b=a then J (.en { cls:=.type "list",data:=.seq ah.B}<|.ao<|ns.map V.int) else C) (λb=>?_) (.inl<|.inr ⟨{ cls:=.type "list",data:=.seq ah.B},Y2 rfl⟩) (λb u z=>?_) (λb z=>?_) λ_=>aW
  ·by_cases aq:b=a
   ·exact .inr ⟨_,_,Y2 aq⟩
   ·exact .inl<|Y3 aq
  ·by_cases aq:b=a
   ·have kR:=(Y2 aq).symm.trans z
    exists kR
    subst aq;exact⟨ba,by rw[cP];exact aB,ah,_,bq,ba⟩
   ·have kR:=(Y3 aq).symm.trans z
    exists kR
  ·by_cases aq:b=a
   ·exact aq
   ·exact absurd (Y3 aq) z
def ajT{l:W.OpenLaw}{n k:Nat}{q:dx}{loose:List Str}{wL:(Str->Option mt)->Heap->Prop}{sy:c3->Heap->Prop}{d:DefRec}{K:Params->W.Frag}{CX:c3->o3}{sp:c3->kV}{x:Str}
  (bz:l.most=J n) (aaI:n<=dg) (sZ:d.params.defaults=[]) (aV:eC k so)
  (HC:∀(w:c3) (h:Heap),sy w h->(K w.params).In h)
  (F:∀(w:c3) (a3:Str->Option mt) (da:Addr) (h:Heap),(K w.params).In h->h.Ns kQ a3->a3 d.name=J (.ref da) ->
   ∃fd:hB,(∀(s:aR) (u:mt),uj s fd ⟨[u],[]⟩ [(x,u)]) /\
    ∀base:Heap,(K w.params).In base->base.Ns kQ a3->i0 l.R w (K w.params) a3 base (CX w) k da fd [x] (sp w))
  (k9:∀(w:c3) (H:aJ) (a:Addr) (ns:List Int),ns.H<=n->LW H->gv (K w.params) H a (ns.map V.int)->sp w [.ref a] H (λv _=>v=.aC Y0) λ_ _ _=>False)
  (IX:∀(w:c3) (H:aJ) (s:aR) (e:mt) (s':aR),CX w [] H s (λ_ _ _=>False) e s'->False) :
  W.WalkO q loose wL sy l.row.toRowW d [] (λf ah=>PySem.call f ah):=by
 refine O1.anf bz sZ λw cD dM a3 lD da o pm cd doc a ah ns G Y aZ hd g0 zU LV hints ei bT=>?_;have lF:=HC w _ Y;obtain⟨fd,aq,cx⟩:=F w a3 da _ lF G.T.g zU;exact alI lF G.T.g G.T.b G.T.builtins G.T.nolimit bT LV hints (bP ei aaI) aV cx aq (λH wM fw=>k9 w H a ns ei wM fw) λH e s'=>IX w H dM e s'
noncomputable def nR(s:Stmt):Arguments:=match s with
 |.FunctionDef _ a _ _ _ _ _ _ _ _=>a
 |_=>{ posonlyargs:=[],args:=[],vararg:=C,kwonlyargs:=[],kw_defaults:=[],kwarg:=C,defaults:=[]}
noncomputable def ig(s:Stmt):List Stmt:=match s with
 |.FunctionDef _ _ b _ _ _ _ _ _ _=>b
 |_=>[]
noncomputable def eo(s:Stmt):jq:=match s with
 |.FunctionDef _ _ _ _ _ _ sc _ _ _=>sc
 |_=>{ kind:=.function,names:=[],isGenerator:=Y1,isCoroutine:=Y1}
abbrev iA:o3:=λ_ _ _ _ _ _=>False
abbrev q2:iu:=λ_ _ _=>False
def Uk:IP iA X q2:=λ_ _ _ _ _ _ _ h=>h.elim
structure qn (K:W.Frag) (x qual:Str) (st:Stmt) (f:Addr) (fd:hB):Prop where
 ex:∃(js:mt) (hr:Option Addr) (eA doc pm:mt) (an:Option Addr) (c8 eD:mt) (qk:Array (Option mt)),
  fd=W.fnOf x qual (nR st) (ig st) (eo st) .none eA doc pm an c8 eD/\K.lookup f=J ⟨js,hr,.func fd,qk⟩/\W.codeIn K c8 qual=Y0
 b8:W.keepIn K (.ref f)=Y0
section
variable {P:dx}{w:c3}{K:W.Frag}{a3:Str->Option mt}{base:Heap}
def qn.ok{x qual:Str}{st:Stmt}{f:Addr}{fd:hB}{N ps:List Str}{k:Nat}{sp:kV}(F:qn K x qual st f fd)(cc:mE N ps<|eo st)(len:∀ah H Q E,sp ah H Q E->ah.H=ps.H)
  (kJ:∀(c8:mt) (A:dH) (cj:List Env) (s:aR) (H:aJ) (ah:List V) (Q:fg) (E:iu),eC k (A.deeper<|i3 qual (eo st) s.L f c8)->sp ah H Q E ->
   ∃t,kp (jN iA P w K a3 base N qual (eo st) f c8 A cj s H E).lJ (ig st) t/\t { bD:=λ_ aj=>Q .br aj,aU:=Q} (start N ah) H):i0 P w K a3 base iA (k+1) f fd ps sp:=by
 obtain⟨js,hr,eA,doc,pm,an,c8,eD,qk,rfl,fM,g0⟩:=F.ex;refine Ug fM g0 cc len λA cj s H ah Q E aV k9=>?_;obtain⟨t,h,q⟩:=kJ c8 A cj s H ah Q E aV k9;exact⟨t,h.lJ,q⟩
def qn.binds{x qual:Str}{st:Stmt}{f:Addr}{fd:hB}{ps:List Str}(F:qn K x qual st f fd)
  (h:∀(eA doc pm:mt) (an:Option Addr) (c8 eD:mt) (us:List mt),us.H=ps.H->sk (W.fnOf x qual (nR st) (ig st) (eo st) .none eA doc pm an c8 eD) ⟨us,[]⟩=pure (ps.zip us)):Binds K fd ps []:=by
 obtain⟨js,hr,eA,doc,pm,an,c8,eD,qk,rfl,fM,g0⟩:=F.ex;exact .all<|h eA doc pm an c8 eD
def aid{x qual:Str}{st:Stmt}{f:Addr}{js:mt}{hr an:Option Addr}{qk:Array<|Option mt}{eA doc pm c8 eD:mt}(l:K.lookup f=J ⟨js,hr,.func<|W.fnOf x qual (nR st) (ig st) (eo st) .none eA doc pm an c8 eD,qk⟩)
  (c:W.codeIn K c8 qual=Y0) (k:W.keepIn K (.ref f)=Y0):qn K x qual st f<|W.fnOf x qual (nR st) (ig st) (eo st) .none eA doc pm an c8 eD:=⟨⟨js,hr,eA,doc,pm,an,c8,eD,qk,rfl,l,c⟩,k⟩
end
def FX{A B:Prop}(h:B):if Y1=Y0 then A else B:=by rw[Y3 nx];exact h
def FY{A B:Prop}(h:A):if Y0=Y0 then A else B:=by rw[Y2 rfl];exact h
end bj
end
namespace bj.bO
open PySem
noncomputable abbrev iw:=Sum Int Str
inductive T where
 |br|aC (b:Bool)|int (i:Int)|str (x:Str)|aD (xs:List T)|ao (xs:List T)|bk (ay:List<|iw×T)|dq
 |bJ (a:Nat)
inductive bo where
 |aE|cZ|i1|ag
 deriving DecidableEq
noncomputable def hn:T->Bool
 |.ao _=>Y0
 |.bk _=>Y0
 |_=>Y1
noncomputable abbrev bE:=List<|Option ZJ
noncomputable abbrev bM:=bE->Nat->Option (T×bo×Nat)
noncomputable abbrev fa:=bE->Nat->Option (Bool×Nat)
noncomputable abbrev gg:=bE->Nat->Option (List T×Nat)
noncomputable abbrev ib:=bE->Nat->Option (List T×Nat)
inductive hF where
 |bD|gr|eD|aU (t:T) (aE:Bool)
noncomputable abbrev bw:=bE->Nat->Option (hF×bE×Nat)
noncomputable abbrev cY:=List (T×Bool)->Nat->Option (T×Bool×Nat)
noncomputable abbrev ix:=bE->Nat->Option (List (T×Bool)×Nat)
noncomputable def eO(b:Bool):bo:=match b with
 |true=>.aE
 |false=>.ag
noncomputable def bh:Nat:=1000000
noncomputable def look(m:bo)(t:T):bo:=match m with
 |.aE=>if hn t then .i1 else .ag
 |.cZ=>if hn t then .cZ else .ag
 |.i1=>.i1
 |.ag=>.ag
noncomputable def ai(i:Nat):bM:=λS n=>match S[i]? with
 |some (J (t,m))=>J (t,look m t,n)
 |_=>C
noncomputable def aw(t:T):bM:=λ_ n=>J (t,.ag,n)
noncomputable def en(t:T)(m:bo):Option T:=match m with
 |.aE=>J t
 |.ag=>J t
 |_=>if hn t then C else J t
noncomputable def aY(d:bM):bM:=λS n=>(d S n).bind λr=>(en r.1 r.2.1).map λt=>(t,.ag,r.2.2)
noncomputable def ar:gg:=λ_ n=>J ([],n)
noncomputable def aa(d:bM)(r:gg):gg:=λS n=>(d S n).bind λa=>(r S a.2.2).map λb=>(a.1::b.1,b.2)
noncomputable abbrev eB:=Nat->List T->Option ZJ
noncomputable def aH(g:eB)(a:gg):bM:=λS n=>(a S n).bind λr=>(g r.2 r.1).map λx=>(x.1,x.2,r.2)
noncomputable def flag(m:bo)(t:T):Bool:=match m with
 |.aE=>Y0
 |.ag=>Y0
 |_=>!hn t
noncomputable def a9:ix:=λ_ n=>J ([],n)
noncomputable def ax(d:bM)(r:ix):ix:=λS n=>(d S n).bind λa=>(r S a.2.2).map λb=>((a.1,flag a.2.1 a.1)::b.1,b.2)
noncomputable def bB(dT:Nat)(f:cY)(a:ix):bM:=λS n=>(a S n).bind λr=>if r.1.H=dT then(f r.1 r.2).map λx=>(x.1,eO x.2.1,x.2.2) else C
noncomputable def cw(a:gg):bM:=λS n=>(a S n).bind λr=>if r.1.H<=bh then J (.aD r.1,.ag,r.2) else C
noncomputable def dF(a:gg):bM:=λS n=>(a S n).bind λr=>if r.1.H<=bh then J (.ao r.1,.aE,r.2) else C
noncomputable def s6(c:fa)(a b:bM):bM:=λS n=>(c S n).bind λr=>if r.1 then a S r.2 else b S r.2
noncomputable def rl(a b:bM):bM:=λS n=>(a S n).bind λr=>match r.1 with
 |.aC Y0=>b S r.2.2
 |.aC Y1=>J (.aC Y1,.ag,r.2.2)
 |_=>C
noncomputable def jD:T->Option Bool
 |.br=>J Y1
 |.aC b=>J b
 |.int i=>J<|i != 0
 |.aD xs=>J<|!xs.isEmpty
 |.ao xs=>J<|!xs.isEmpty
 |.bk ay=>J<|!ay.isEmpty
 |_=>C
noncomputable def bK(d:bM):fa:=λS n=>(d S n).bind λr=>(jD r.1).map λb=>(b,r.2.2)
noncomputable def et(c:fa):fa:=λS n=>(c S n).map λr=>(!r.1,r.2)
noncomputable def pC(a b:fa):fa:=λS n=>(a S n).bind λr=>if r.1 then b S r.2 else J (Y1,r.2)
noncomputable def hX(a b:fa):fa:=λS n=>(a S n).bind λr=>if r.1 then J (Y0,r.2) else b S r.2
noncomputable def xd(c:fa):bM:=λS n=>(c S n).map λr=>(.aC<|!r.1,.ag,r.2)
noncomputable def iH:iw->T
 |.inl i=>.int i
 |.inr x=>.str x
noncomputable def walked(t:T)(m:bo):Option<|List T:=match t with
 |.ao xs=>J xs
 |.aD xs=>J xs
 |.bk ay=>match m with
  |.ag=>J (ay.map λc9=>iH c9.1)
  |.aE=>J (ay.map λc9=>iH c9.1)
  |_=>C
 |_=>C
noncomputable def fJ(d:bM):ib:=λS n=>(d S n).bind λr=>(walked r.1 r.2.1).map λxs=>(xs,r.2.2)
noncomputable def iI(d:bM):ib:=λS n=>(d S n).bind λr=>match r.2.1 with
 |.i1=>C
 |m=>(walked r.1 m).map λxs=>(xs,r.2.2)
noncomputable def il(lo hi:Int):List T:=(List.range (hi-lo).M).map λ(k:Nat)=>.int<|lo+k
noncomputable def iB(a:gg):ib:=λS n=>(a S n).bind λr=>match r.1 with
 |[.int j]=>if-bh<=j/\j<=bh then J (il 0 j,r.2) else C
 |_=>C
noncomputable def Gf(a:gg):ib:=λS n=>(a S n).bind λr=>match r.1 with
 |[.int i,.int j]=>if-bh<=i/\i<=bh /\ -bh<=j/\j<=bh then J (il i j,r.2) else C
 |_=>C
noncomputable def iT(put:T->bE->Option bE)(c:fa)(e:bM):List T->bE->Nat->List T->Option (List T×Nat)
 |[],_,n,acc=>J (acc,n)
 |x::xs,S,n,acc=>(put x S).bind λS'=>(c S' n).bind λb=>if b.1 then(aY e S' b.2).bind λr=>if acc.H<bh then iT put c e xs S' r.2.2 (acc++[r.1]) else C
  else iT put c e xs S' b.2 acc
noncomputable def er(it:ib)(src:bE->bE)(put:T->bE->Option bE)(c:fa)(e:bM):bM:=λS n =>
 (it S n).bind λr=>(iT put c e r.1 (src S) r.2 []).map λa=>(.ao a.1,.aE,a.2)
noncomputable def yes:fa:=λ_ n=>J (Y0,n)
noncomputable def cB(i:Nat):T->bE->Option bE:=λt S=>J<|S.set i<|some (t,.ag)
noncomputable def zV(i j:Nat):T->bE->Option bE:=λt S=>match t with
 |.aD [a,b]=>J<|(S.set i<|some (a,.ag)).set j (J (b,.ag))
 |_=>C
noncomputable def ck(l:List<|Option Nat):bE->bE:=λS=>l.map λo=>o.bind λj=>(S[j]?).join
noncomputable def e6:bw:=λS n=>J (.bD,S,n)
noncomputable def bL(a b:bw):bw:=λS n=>(a S n).bind λr=>match r.1 with
 |.bD=>b r.2.1 r.2.2
 |f=>J (f,r.2.1,r.2.2)
noncomputable def dK(i:Nat)(d:bM):bw:=λS n=>(d S n).bind λr=>match r.2.1 with
 |.aE=>J (.bD,S.set i<|some (r.1,.aE),r.2.2)
 |.ag=>J (.bD,S.set i<|some (r.1,.ag),r.2.2)
 |_=>C
noncomputable def TO(put:T->bE->Option bE)(d:bM):bw:=λS n=>(aY d S n).bind λr=>(put r.1 S).map λS'=>(.bD,S',r.2.2)
noncomputable def eF(c:fa)(a b:bw):bw:=λS n=>(c S n).bind λr=>if r.1 then a S r.2 else b S r.2
noncomputable def cT(d:bM):bw:=λS n=>(d S n).bind λr=>match r.2.1 with
 |.aE=>J (.aU r.1 Y0,S,r.2.2)
 |.ag=>J (.aU r.1 Y1,S,r.2.2)
 |_=>C
noncomputable def s7(i:Nat):bw:=λS n=>match S[i]? with
 |some (J (t,.aE))=>J (.aU t Y0,S,n)
 |some (J (t,.ag))=>J (.aU t Y1,S,n)
 |some (J (t,.cZ))=>if hn t then C else J (.aU t Y1,S,n)
 |_=>C
noncomputable def fC(i:Nat)(d:bw):bw:=λS n=>match S[i]? with
 |some (J (t,.aE))=>d (S.set i<|some (t,.ag)) n
 |_=>d S n
noncomputable def dN(i:Nat)(d:bw):bw:=λS n=>match S[i]? with
 |some (J (.bk ay,.aE))=>d (S.set i<|some (.bk ay,.ag)) n
 |_=>d S n
noncomputable def fF(put:T->bE->Option bE)(b:bw):List T->bE->Nat->Option (hF×bE×Nat)
 |[],S,n=>J (.bD,S,n)
 |x::xs,S,n=>(put x S).bind λS1=>(b S1 n).bind λr=>match r.1 with
  |.bD=>fF put b xs r.2.1 r.2.2
  |.eD=>fF put b xs r.2.1 r.2.2
  |.gr=>J (.bD,r.2.1,r.2.2)
  |.aU t m=>J (.aU t m,r.2.1,r.2.2)
noncomputable def iJ(it:ib)(put:T->bE->Option bE)(b:bw):bw:=λS n=>(it S n).bind λr=>fF put b r.1 S r.2
noncomputable def iU(c:fa)(b:bw):Nat->bE->Nat->Option (hF×bE×Nat)
 |0,_,_=>C
 |k+1,S,n=>(c S n).bind λt=>if t.1 then(b S t.2).bind λr=>match r.1 with
   |.bD=>iU c b k r.2.1 r.2.2
   |.eD=>iU c b k r.2.1 r.2.2
   |.gr=>J (.bD,r.2.1,r.2.2)
   |.aU t m=>J (.aU t m,r.2.1,r.2.2)
  else J (.bD,S,t.2)
noncomputable def DA(c:fa)(b:bw):bw:=λS n=>iU c b 100000 S n
noncomputable def DB(i:Nat):bw:=λS n=>match S[i]? with
 |some (J (.dq,_))=>if n<bh then J (.bD,S,n+1) else C
 |_=>C
noncomputable def hM(i:Nat)(g:T->T->Option T)(d:bM):bw:=λS n=>(aY d S n).bind λr=>match S[i]? with
 |some (J (t,.aE))=>(g t r.1).map λt'=>(.bD,S.set i<|some (t',.aE),r.2.2)
 |_=>C
noncomputable def rS:T->T->Option T
 |.ao xs,y=>if xs.H<bh then J (.ao<|xs++[y]) else C
 |_,_=>C
noncomputable def jO:T->T->Option T
 |.ao xs,.ao aO=>if xs.H+aO.H<=bh then J (.ao<|xs++aO) else C
 |.ao xs,.aD aO=>if xs.H+aO.H<=bh then J (.ao<|xs++aO) else C
 |_,_=>C
noncomputable def qo(i:Nat)(g:T->T->T->Option T)(k v:bM):bw:=λS n=>(aY v S n).bind λr=>(k S r.2.2).bind λq=>match S[i]? with
 |some (J (t,.aE))=>(g t q.1 r.1).map λt'=>(.bD,S.set i<|some (t',.aE),q.2.2)
 |_=>C
noncomputable def c0(many:Nat)(b:bw):cY:=λaA n =>
 (b (aA.map (λt=>J (t.1,if t.2 then .ag else .cZ))++List.replicate (many-aA.H) C) n).bind λr=>match r.1 with
  |.aU t m=>J (t,m,r.2.2)
  |.bD=>J (.br,Y1,r.2.2)
  |_=>C
noncomputable def dY(aN:Int->Int->Bool)(g:Int->Int->T):eB:=λ_ aA=>match aA with
 |[.int a,.int b]=>if aN a b then J (g a b,.ag) else C
 |_=>C
noncomputable def ej:eB:=λ_ aA=>match aA with
 |[.int a,.int b]=>J (.int<|a+b,.ag)
 |[.aD a,.aD b]=>if a.H+b.H<=bh then J (.aD<|a++b,.ag) else C
 |[.ao a,.ao b]=>if a.H+b.H<=bh then J (.ao<|a++b,.aE) else C
 |_=>C
noncomputable def ka:eB:=dY (λ_ _=>Y0) λa b=>.int<|a-b
noncomputable def small(i:Int):Bool:=decide (i.natAbs<2^64)
noncomputable def kE:eB:=λ_ aA=>match aA with
 |[.int a,.int b]=>if small a||small b then J (.int<|a*b,.ag) else C
 |[.aD a,.int k]=>if a.H<=1000 /\ -1000<=k/\k<=10000/\a.H*k.M<=bh then J (.aD (List.replicate k.M a).flatten,.ag) else C
 |_=>C
noncomputable def oc:eB:=dY (λ_ b=>decide (0<b)) λa b=>.int<|a%b
noncomputable def FZ:eB:=dY (λ_ b=>decide (0<b)&&decide (b.natAbs<1073741824)) λa b=>.int<|a / b
noncomputable def eE:eB:=dY (λ_ _=>Y0) λa b=>.aC<|decide (a<b)
noncomputable def fK:eB:=dY (λ_ _=>Y0) λa b=>.aC<|decide (a<=b)
noncomputable def rm:eB:=dY (λ_ _=>Y0) λa b=>.aC<|decide (b<a)
noncomputable def nS:T->Bool
 |.br=>Y0
 |_=>Y1
noncomputable def od:eB:=λ_ aA=>match aA with
 |[t]=>J (.aC<|nS t,.ag)
 |_=>C
noncomputable def fe:eB:=λn aA=>match aA with
 |[.ao xs]=>J (.int xs.H,.ag)
 |[.aD xs]=>J (.int xs.H,.ag)
 |[.bk ay]=>J (.int ay.H,.ag)
 |[.dq]=>J (.int n,.ag)
 |_=>C
noncomputable def gE(xs:List T)(i:Int):Option T :=
 if 0<=i then(if i<xs.H then xs[i.M]? else C) else if-(xs.H:Int)<=i then xs[(i+xs.H).M]? else C
noncomputable def kc:T->Option iw
 |.int i=>J<|.inl i
 |.str x=>J<|.inr x
 |_=>C
noncomputable def iV(ay:List<|iw×T)(k:iw):Option T:=(ay.find? λc9=>decide (c9.1=k)).map (·.2)
noncomputable def j5(ay:List<|iw×T)(k:iw)(v:T):List (iw×T) :=
 if(ay.any λc9=>decide (c9.1=k))=Y0 then ay.map (λc9=>if c9.1=k then(c9.1,v) else c9) else ay++[(k,v)]
noncomputable def dv:eB:=λ_ aA=>match aA with
 |[.ao xs,.int i]=>(gE xs i).map λt=>(t,.ag)
 |[.aD xs,.int i]=>(gE xs i).map λt=>(t,.ag)
 |[.bk ay,k]=>(kc k).bind λk=>(iV ay k).map λt=>(t,.ag)
 |_=>C
noncomputable def ml:eB:=λ_ aA=>match aA with
 |[.bk ay,k,x]=>if hn x then C else(kc k).map λk=>((iV ay k).getD x,.ag)
 |_=>C
noncomputable def qM:T->T->T->Option T
 |.ao xs,.int i,v=>if 0<=i/\i<xs.H then J (.ao<|xs.set i.M v) else C
 |.bk ay,k,v=>(kc k).bind λk=>if ay.H<bh then J (.bk<|j5 ay k v) else C
 |_,_,_=>C
mutual
noncomputable def dU:T->T->Bool
 |.br,.br=>Y0
 |.aC a,.aC b=>a==b
 |.aC a,.int b=>(if a then 1 else 0)==b
 |.int a,.aC b=>a==(if b then 1 else 0)
 |.int a,.int b=>a==b
 |.str a,.str b=>a==b
 |.aD a,.aD b=>iK a b
 |.ao a,.ao b=>iK a b
 |_,_=>Y1
noncomputable def iK:List T->List T->Bool
 |[],[]=>Y0
 |x::xs,y::aO=>dU x y&&iK xs aO
 |_,_=>Y1
end
noncomputable def dZ:Nat->T->Bool
 |_,.bk _=>Y1
 |_,.dq=>Y1
 |_,.bJ _=>Y1
 |0,.aD _=>Y1
 |0,.ao _=>Y1
 |k+1,.aD a=>a.all<|dZ k
 |k+1,.ao a=>a.all<|dZ k
 |_,_=>Y0
noncomputable def o4:T->T->Option Bool
 |.bk a,.bk b=>if b.isEmpty then J a.isEmpty else C
 |a,b=>if dZ 6 a&&dZ 6 b then J (dU a b) else C
noncomputable def gk:eB:=λ_ aA=>match aA with
 |[a,b]=>(o4 a b).map λr=>(.aC r,.ag)
 |_=>C
noncomputable def gn:eB:=λ_ aA=>match aA with
 |[a,b]=>(o4 a b).map λr=>(.aC<|!r,.ag)
 |_=>C
inductive Ty where
 |int|bool|list|tuple|str|dict
noncomputable def og:Ty->T->Option Bool
 |.int,.int _=>J Y0
 |.int,.aC _=>J Y0
 |.bool,.aC _=>J Y0
 |.list,.ao _=>J Y0
 |.tuple,.aD _=>J Y0
 |.str,.str _=>J Y0
 |.dict,.bk _=>J Y0
 |_,.dq=>C
 |_,.bJ _=>C
 |_,_=>J Y1
noncomputable def dR(k:Ty):eB:=λ_ aA=>match aA with
 |[t]=>(og k t).map λb=>(.aC b,.ag)
 |_=>C
noncomputable def hP:List T->Option (List Bool)
 |[]=>J []
 |.aC b::r=>(hP r).map (b::·)
 |_=>C
noncomputable def e2:List T->Option ZA
 |[]=>J []
 |.int i::r=>(e2 r).map (i::·)
 |_=>C
noncomputable def ji:eB:=λ_ aA=>match aA with
 |[.ao xs]=>(hP xs).map λbs=>(.aC<|bs.all id,.ag)
 |_=>C
noncomputable def nT:eB:=λ_ aA=>match aA with
 |[.ao xs]=>J (.ao xs,.aE)
 |[.aD xs]=>J (.ao xs,.aE)
 |[.bk ay]=>J (.ao (ay.map λc9=>iH c9.1),.aE)
 |_=>C
noncomputable def qp:eB:=λ_ aA=>match aA with
 |[.ao xs]=>J (.aD xs,.ag)
 |[.aD xs]=>J (.aD xs,.ag)
 |_=>C
noncomputable def ins(x:Int):List Int->List Int
 |[]=>[x]
 |y::aO=>if x<=y then x::y::aO else y::ins x aO
noncomputable def sortI:List Int->List Int
 |[]=>[]
 |x::xs=>ins x<|sortI xs
noncomputable def f9:List Int->List Int->Bool
 |[],[]=>Y1
 |[],_::_=>Y0
 |_::_,[]=>Y1
 |x::xs,y::aO=>if x==y then f9 xs aO else decide (x<y)
noncomputable def vU(x:List Int):List ZA->List ZA
 |[]=>[x]
 |y::aO=>if f9 y x then y::vU x aO else x::y::aO
noncomputable def hK:List ZA->List ZA
 |[]=>[]
 |x::xs=>vU x<|hK xs
noncomputable def aG(l:List Int):T:=.aD<|l.map .int
noncomputable def mm:List T->Option (List ZA)
 |[]=>J []
 |.aD (x::xs)::r=>(e2<|x::xs).bind λl=>(mm r).map (l::·)
 |_=>C
noncomputable def xe:eB:=λ_ aA=>match aA with
 |[.ao xs]=>match e2 xs with
  |some ns=>J (.ao<|(sortI ns).map .int,.aE)
  |none=>(mm xs).map λls=>(.ao<|(hK ls).map aG,.aE)
 |[.aD xs]=>(e2 xs).map λns=>(.ao<|(sortI ns).map .int,.aE)
 |_=>C
noncomputable def hY(ns:List Int):List Int:=ns.foldr (λx r=>if x∈r then r else x::r) []
noncomputable def itemsOf:List (iw×T)->Option (List Z6)
 |[]=>J []
 |(.inl k,.int v)::r=>(itemsOf r).map ((k,v)::·)
 |_=>C
noncomputable def jE(p:Int×Int):List Int:=[p.1,p.2]
noncomputable def DC:eB:=λ_ aA=>match aA with
 |[.bk ay]=>(itemsOf ay).map λps=>(.ao<|(hK<|ps.map jE).map aG,.aE)
 |_=>C
noncomputable def qP:List T->Option (List<|iw×T)
 |[]=>J []
 |.aD [k,v]::r=>(kc k).bind λk=>(qP r).map ((k,v)::·)
 |_=>C
noncomputable def xf:eB:=λ_ aA=>match aA with
 |[.ao xs]=>(qP xs).bind λps=>if ps.H<bh then J (.bk<|ps.foldl (λd p=>j5 d p.1 p.2) [],.aE) else C
 |[.bk ay]=>J (.bk ay,.aE)
 |_=>C
noncomputable def least:List Int->Option Int
 |[]=>C
 |x::xs=>J<|xs.foldl (λa b=>if b<a then b else a) x
noncomputable def tR:List (iw×T)->Option ZA
 |[]=>J []
 |(.inl k,_)::r=>(tR r).map (k::·)
 |_=>C
noncomputable def vV:eB:=λ_ aA=>match aA with
 |[.ao xs]=>(e2 xs).bind λns=>(least ns).map λi=>(.int i,.ag)
 |[.bk ay]=>(tR ay).bind λns=>(least ns).map λi=>(.int i,.ag)
 |[.int a,.int b]=>J (.int (if b<a then b else a),.ag)
 |_=>C
noncomputable def uY:eB:=λ_ aA=>match aA with
 |[.aD xs,.int y]=>(e2 xs).map λns=>(.int (ns.filter λx=>x==y).H,.ag)
 |_=>C
noncomputable def cI:List Int->Int
 |[]=>0
 |x::xs=>x+cI xs
noncomputable def bound(n d:Nat):Option Int->Nat
 |none=>d
 |some v=>if v<0 then(v+(n:Int)).M else min v.M n
noncomputable abbrev y3:=bE->Nat->Option (Option Int×Nat)
noncomputable def lK:y3:=λ_ n=>J (C,n)
noncomputable def lL(d:bM):y3:=λS n=>(d S n).bind λr=>match r.1 with
 |.int i=>J (J i,r.2.2)
 |_=>C
noncomputable def jj(xs:List T)(lo hi:Option Int):List T:=(xs.drop<|bound xs.H 0 lo).take (bound xs.H xs.H hi-bound xs.H 0 lo)
noncomputable def Ma:bM:=λ_ n=>J (.bk [],.aE,n)
noncomputable def Mb(k v:bM):bM:=λS n=>(k S n).bind λa=>(kc a.1).bind λk=>(v S a.2.2).map λb=>(.bk [(k,b.1)],.aE,b.2.2)
noncomputable def gw(g h:eB)(a b c:bM):bM:=λS n=>(a S n).bind λx=>(b S x.2.2).bind λy=>(g y.2.2 [x.1,y.1]).bind λr=>match r.1 with
 |.aC Y0=>(c S y.2.2).bind λz=>(h z.2.2 [y.1,z.1]).map λq=>(q.1,q.2,z.2.2)
 |.aC Y1=>J (.aC Y1,.ag,y.2.2)
 |_=>C
noncomputable def jf:bw:=λ_ _=>C
noncomputable def eS(d:bM):bw:=λS n=>(d S n).map λr=>(.bD,S,r.2.2)
noncomputable def rn(i j:Nat):bw:=λS n=>match S[j]? with
 |some (J (t,.aE))=>J (.bD,(S.set j C).set i (J (t,.aE)),n)
 |some (J (t,.ag))=>J (.bD,S.set i<|some (t,.ag),n)
 |some (J (t,.cZ))=>if hn t then C else J (.bD,S.set i<|some (t,.ag),n)
 |_=>C
theorem IY(x:Int):∀l:List Int,(ins x l).Perm (x::l)
 |[]=>.refl _
 |y::aO=>by
  unfold ins;split
  ·exact .refl _
  ·exact((IY x aO).cons y).trans (.swap x y aO)
theorem sortI_perm:∀l:List Int,(sortI l).Perm l
 |[]=>.refl _
 |x::xs=>(IY x _).trans ((sortI_perm xs).cons x)
theorem O4(x:Int):∀{l:List Int},l.Pairwise (·<=·)->(ins x l).Pairwise (·<=·)
 |[],_=>by unfold ins;simp
 |y::aO,h=>by
  unfold ins;obtain⟨af,ak⟩:=jR.mp h;split
  ·rename_i lM
   exact jR.mpr ⟨λz hz=>by
    rcases d3.mp hz with rfl|hz
    ·exact lM
    ·exact jn lM<|af z hz,h⟩
  ·rename_i lM;refine jR.mpr ⟨λz hz=>?_,O4 x ak⟩;rcases d3.mp ((IY x aO).mem_iff.mp hz) with rfl|hz
   ·exact kO<|sf lM
   ·exact af z hz
theorem ro:∀l:List Int,(sortI l).Pairwise (·<=·)
 |[]=>.nil
 |x::xs=>O4 x<|ro xs
theorem O5:∀{a b:List Int},a.Pairwise (·<=·)->b.Pairwise (·<=·)->a.Perm b->a=b
 |[],b,_,_,p=>(p.nil_eq)
 |x::a,[],_,_,p=>by have:=p.length_eq;simp at this
 |x::a,y::b,ba,aq,p=>by
  obtain⟨xg,IZ⟩:=jR.mp ba;obtain⟨xh,I0⟩:=jR.mp aq;have lM:x<=y:=by
   rcases d3.mp (p.mem_iff.mpr (dS ..)) with e|e
   ·exact He e.symm
   ·exact xg y e
  have I1:y<=x:=by
   rcases d3.mp (p.mem_iff.mp (dS ..)) with e|e
   ·exact He e.symm
   ·exact xh x e
  have:x=y:=(Int.le_antisymm lM I1)
  subst this;rw[O5 IZ I0<|(List.perm_cons x).mp p]
def zW(p:a.Perm b)(h:a.Pairwise (·<=·)):a=sortI b:=O5 h (ro b)<|p.trans (sortI_perm b).symm
theorem zX:∀l:List Int,f9 l l=Y1
 |[]=>rfl
 |x::xs=>by unfold f9;simp[zX xs]
theorem zY:∀{a b c:List Int},f9 a b=Y0->f9 b c=Y0->f9 a c=Y0
 |[],[],_,h,_=>by exists h
 |[],_::_,[],_,h=>by exists h
 |[],_::_,_::_,_,_=>rfl
 |_::_,[],_,h,_=>by exists h
 |_::_,_::_,[],_,h=>by exists h
 |x::xs,y::aO,z::zs,h,h'=>by
  unfold f9 at h h' |-;by_cases e:x=y
  ·subst e;simp only[beq_self_eq_true,if_true]at h;by_cases bN:x=z
   ·subst bN;simp only[beq_self_eq_true,if_true]at h' |-;exact zY h h'
   ·simp only[beq_iff_eq,bN,if_false]at h' |-;exact h'
  ·simp only[beq_iff_eq,e,if_false,decide_eq_true_eq]at h;by_cases bN:y=z
   ·subst bN;simp only[beq_iff_eq,e,if_false,decide_eq_true_eq];exact h
   ·simp only[beq_iff_eq,bN,if_false,decide_eq_true_eq]at h';have:¬x=z:=(yK<|B5 h<|kO h')
    simp only[beq_iff_eq,this,if_false,decide_eq_true_eq];exact B5 h<|kO h'
theorem DD:∀{a b:List Int},f9 a b=Y1->f9 b a=Y1->a=b
 |[],[],_,_=>rfl
 |[],_::_,h,_=>by exists h
 |_::_,[],_,h=>by exists h
 |x::xs,y::aO,h,h'=>by
  unfold f9 at h h';by_cases e:x=y
  ·subst e;simp only[beq_self_eq_true,if_true]at h h';rw[DD h h']
  ·have au:¬y=x:=λz=>e z.symm;simp only[beq_iff_eq,e,au,if_false,decide_eq_false_iff_not]at h h';lia
noncomputable def rank(nss:List ZA)(l:List Int):Nat:=nss.countP λz=>f9 z l
theorem O6{α:Type}{p q:α->Bool}{y:α}:∀{l:List α},(∀z,p z=Y0->q z=Y0)->y∈l->p y=Y1->q y=Y0->l.countP p<l.countP q
 |[],_,aK,_,_=>by simp at aK
 |x::xs,h,aK,af,ak=>by
  have mono:xs.countP p<=xs.countP q:=My λz _ hz=>h z hz;rw[ox,ox];rcases d3.mp aK with rfl|aK
  ·rw[af,ak];simp;exact t4 mono
  ·have a4:=O6 h aK af ak;by_cases e:p x=Y0
   ·rw[e,h x e];exact t4 a4
   ·have:p x=Y1:=by cases z:p x<;>simp_all
    rw[this];simp;exact oA a4
def I2(ba:a∈nss):decide (rank nss a<rank nss b)=f9 a b:=by
 cases e:f9 a b with
 |true =>
  have:=O6 (l:=nss) (y:=a) (p:=λz=>f9 z a) (q:=λz=>f9 z b) (λz hz=>zY hz e) ba (zX a) e;simp[rank,this]
 |false =>
  have:rank nss b<=rank nss a:=by
   unfold rank;refine My λz _ hz=>?_;cases au:f9 b a with
   |true=>exact zY hz au
   |false=>rw[DD e au];exact hz
  simp;exact this
theorem I3(x:List Int):∀l,(vU x l).Perm (x::l)
 |[]=>.refl _
 |y::aO=>by
  unfold vU;split
  ·exact((I3 x aO).cons y).trans (.swap x y aO)
  ·exact .refl _
theorem DE:∀l,(hK l).Perm l
 |[]=>.refl _
 |x::xs=>(I3 x<|hK xs).trans ((DE xs).cons x)
noncomputable abbrev nU(a b:List Int):Prop:=f9 b a=Y1
def aaJ(h:nU a b)(h':nU b c):nU a c:=by
 cases e:f9 c a with
 |false=>exact e
 |true =>
  cases au:f9 a b with
  |true=>have:=zY e au;rw[h']at this;exists this
  |false=>have:=DD au h;subst this;rw[h']at e;exists e
theorem O7(x:List Int):∀{l:List ZA},l.Pairwise nU->(vU x l).Pairwise nU
 |[],_=>by unfold vU;simp
 |y::aO,h=>by
  obtain⟨af,ak⟩:=jR.mp h;unfold vU;split
  ·rename_i lM;refine jR.mpr ⟨λz hz=>?_,O7 x ak⟩;rcases d3.mp ((I3 x aO).mem_iff.mp hz) with rfl|hz
   ·cases e:f9 z y with
    |false=>exact e
    |true=>have:=zY lM e;rw[zX]at this;exists this
   ·exact af z hz
  ·rename_i lM;have lM:nU x y:=by simpa using lM
   exact jR.mpr ⟨λz hz=>by
    rcases d3.mp hz with rfl|hz
    ·exact lM
    ·exact aaJ lM<|af z hz,h⟩
theorem O8:∀l,(hK l).Pairwise nU
 |[]=>.nil
 |x::xs=>O7 x<|O8 xs
theorem O9:∀{a b:List ZA},a.Pairwise nU->b.Pairwise nU->a.Perm b->a=b
 |[],b,_,_,p=>(p.nil_eq)
 |x::a,[],_,_,p=>by have:=p.length_eq;simp at this
 |x::a,y::b,ba,aq,p=>by
  obtain⟨xg,IZ⟩:=jR.mp ba;obtain⟨xh,I0⟩:=jR.mp aq;have lM:nU x y:=by
   rcases d3.mp (p.mem_iff.mpr (dS ..)) with e|e
   ·rw[e];exact zX _
   ·exact xg y e
  have I1:nU y x:=by
   rcases d3.mp (p.mem_iff.mp (dS ..)) with e|e
   ·rw[e];exact zX _
   ·exact xh x e
  have:x=y:=DD I1 lM;subst this;rw[O9 IZ I0<|(List.perm_cons x).mp p]
def Pa(p:a.Perm b)(h:a.Pairwise nU):a=hK b:=O9 h (O8 b)<|p.trans (DE b).symm
noncomputable def rp(n:Nat):List T->Option ZA
 |[.ao xs]=>(e2 xs).bind λns=>if ns.H+1<4096 then J ns else C
 |[.aD xs]=>(e2 xs).bind λns=>if ns.H+1<4096 then J ns else C
 |_=>C
noncomputable def DF:eB:=λn aA=>(rp n aA).map λns=>(.ao<|(sortI<|hY ns).map .int,.aE)
noncomputable def Pb:eB:=λn aA=>(rp n aA).map λns=>(.int (hY ns).H,.ag)
noncomputable def pD:eB:=λ_ aA=>match aA with
 |[.int a]=>J (.int<|-a,.ag)
 |_=>C
noncomputable def LX:eB:=λ_ aA=>match aA with
 |[.ao xs]=>(hP xs).map λbs=>(.aC<|bs.any id,.ag)
 |_=>C
noncomputable def g4:T->Bool
 |.br=>Y0
 |.aC _=>Y0
 |.int _=>Y0
 |.str _=>Y0
 |_=>Y1
noncomputable def tK(xs:List T)(y:T):Nat:=xs.countP λx=>dU x y
noncomputable def I4:eB:=λ_ aA=>match aA with
 |[.ao xs,y]=>if g4 y=Y0/\(xs.all g4)=Y0 then J (.int<|tK xs y,.ag) else C
 |_=>C
noncomputable def o5(ns:List Int)(many:Nat):bE:=J (.ao<|ns.map .int,.cZ)::J (.dq,.ag)::List.replicate (many-2) C
noncomputable def lW(d:bM)(lo hi:y3):bM:=λS n=>(d S n).bind λx=>(lo S x.2.2).bind λl=>(hi S l.2).bind λh=>match x.1 with
 |.ao xs=>J (.ao<|jj xs l.1 h.1,.aE,h.2)
 |.aD xs=>J (.aD<|jj xs l.1 h.1,.ag,h.2)
 |_=>C
noncomputable def lx(d7 fy:bM):bM:=λS n=>(d7 S n).bind λa=>(fy S a.2.2).bind λb=>match a.1,a.2.1,b.1 with
 |.ao xs,.aE,.int k=>if-1000<=k/\k<=10000/\xs.H*k.M<=bh then J (.ao (List.replicate k.M xs).flatten,.aE,b.2.2) else C
 |_,_,_=>C
noncomputable def xi:eB:=λ_ aA=>match aA with
 |[.aD xs]=>(e2 xs).bind λns=>if ns.H<100000/\(ns.all λx=>decide (x.natAbs<=10000000000000)) then J (.int<|cI ns,.ag) else C
 |[.ao xs]=>(e2 xs).bind λns=>if ns.H<100000/\(ns.all λx=>decide (x.natAbs<=10000000000000)) then J (.int<|cI ns,.ag) else C
 |_=>C
noncomputable def By(d:bM):bM:=λS n=>(d S n).bind λx=>match x.1 with
 |.ao xs=>J (.ao xs.reverse,.aE,x.2.2)
 |.aD xs=>J (.aD xs.reverse,.ag,x.2.2)
 |_=>C
noncomputable def rq:eB:=λ_ aA=>match aA with
 |[.ao xs]=>(e2 xs).bind λns=>if ns.H<64 then J (.ao<|(sortI ns).map .int,.aE) else C
 |[.aD xs]=>(e2 xs).bind λns=>if ns.H<64 then J (.ao<|(sortI ns).map .int,.aE) else C
 |_=>C
abbrev dm:=bE->Nat->Option (Nat×Nat)
abbrev uv:=bE->Nat->Option Nat
abbrev e7:=List (T×Bool)->Nat->Option (Nat×Nat)
noncomputable def o6:Nat->Str
 |0=>"NoDie"
 |1=>"NoDice"
 |2=>"NoTotals"
 |3=>"NoNumber"
 |4=>"TooMany"
 |5=>"NoText"
 |6=>"NoSide"
 |7=>"NoRoll"
 |8=>"NoChoices"
 |9=>"Against"
 |_=>"Nothing"
noncomputable def fQ:dm:=λ_ _=>C
noncomputable def d0(dT:Nat)(f:e7)(a:ix):dm:=λS n=>(a S n).bind λr=>if r.1.H=dT then f r.1 r.2 else C
noncomputable def md:uv:=λ_ n=>J n
def uw(d:bM)(r:uv):uv:=λS n=>(d S n).bind λa=>match a.1 with
 |.int i=>if small i then r S a.2.2 else C
 |_=>C
noncomputable def mX(c:Nat)(a:uv):dm:=λS n=>(a S n).map λn'=>(c,n')
noncomputable def dy(cM:dm)(a:bw)(jw:dm):dm:=λS n=>match cM S n with
 |some r=>J r
 |none=>(a S n).bind λr=>match r.1 with
  |.bD=>jw r.2.1 r.2.2
  |_=>C
noncomputable def fG(c:fa)(cM eW:dm):dm:=λS n=>(c S n).bind λr=>if r.1 then cM S r.2 else eW S r.2
noncomputable def s8(put:T->bE->Option bE)(b:bw)(eW:dm):List T->bE->Nat->Option (Nat×Nat)
 |[],_,_=>C
 |x::xs,S,n=>(put x S).bind λS1=>match eW S1 n with
  |some r=>J r
  |none=>(b S1 n).bind λr=>match r.1 with
   |.bD=>s8 put b eW xs r.2.1 r.2.2
   |.eD=>s8 put b eW xs r.2.1 r.2.2
   |_=>C
noncomputable def F0(it:ib)(put:T->bE->Option bE)(b:bw)(eW:dm):dm:=λS n=>(it S n).bind λr=>s8 put b eW r.1 S r.2
noncomputable def fnX(many:Nat)(eW:dm):e7:=λaA n=>eW (aA.map (λt=>J (t.1,if t.2 then .ag else .cZ))++List.replicate (many-aA.H) C) n
def uZ{α:Type}(l:List α)(i:Int):Option α:=if 0<=i/\i<l.H then l[i.M]? else C
def yd(k:bM)(cm:List<|Nat×cY)(a:ix):bM:=λS n=>(k S n).bind λr=>match r.1 with
 |.int i=>(uZ cm i).bind λf=>bB f.1 f.2 a S r.2.2
 |_=>C
def F1(k:bM)(cm:List<|Nat×e7)(a:ix):dm:=λS n=>(k S n).bind λr=>match r.1 with
 |.int i=>(uZ cm i).bind λf=>d0 f.1 f.2 a S r.2.2
 |_=>C
noncomputable def mY(a:Nat)(b:Bool):eB:=λ_ aA=>match aA with
 |[.bJ x]=>if x=a then J (.aC b,.ag) else C
 |_=>C
end bj.bO
namespace bj.bO
noncomputable def zZ(cs:List Nat)(b:bw)(eW:dm)(h:Nat->Option T):bw:=λS n=>match eW S n with
 |some r=>if r.1∈cs then(h r.1).map λt=>(.aU t Y1,S,r.2) else C
 |none=>b S n
end bj.bO
namespace bj.bO
open PySem
def rr:eB:=λ_ aA=>match aA with
 |[.ao xs]=>(mm xs).bind λls=>if ls.H<64 then J (.ao<|(hK ls).map aG,.aE) else C
 |_=>C
noncomputable def agS(l:List Int):T:=.aD [.int l.H,aG l]
def z0(a:gg):bM:=λS n=>(iB a S n).map λr=>(.ao r.1,.aE,r.2)
def dz(l:List Int):T:=.ao<|l.map .int
def strsOf:List T->Option (List Str)
 |[]=>J []
 |.str x::r=>(strsOf r).map (x::·)
 |_=>C
def j6(i:Int):Str:=Str.ofString<|toString i
def z1:eB:=λ_ aA=>match aA with
 |[.int i]=>if 0<=i/\i<=1000 then J (.str<|j6 i,.ag) else C
 |_=>C
def xk:eB:=λ_ aA=>match aA with
 |[.str sep,.ao xs]=>(strsOf xs).bind λws=>if(ws.map (·.H)).sum+ws.H*sep.H<=bh then J (.str<|Str.join sep ws,.ag) else C
 |_=>C
def af6(x:Str):Option Nat:=(List.range 31).find? λ(k:Nat)=>j6 (k:Int)==x
end bj.bO
namespace bj.bO
open PySem PySem.Spec PyProof.Rows
section
variable (tw:Addr)(H:aJ)
mutual
def aI:T->V->Prop
 |.br,v=>v=.br
 |.aC b,v=>v=.aC b
 |.int i,v=>v=.int i
 |.str x,v=>v=.str x
 |.aD xs,v=>∃a ah,v=.ref a/\H a=J (.aD ah)/\bR xs ah
 |.ao xs,v=>∃a o ah,v=.ref a/\H a=J (.en o<|.ao ah)/\bR xs ah
 |.bk ay,v=>∃a o ws,v=.ref a/\H a=J (.en o<|.aw ws)/\cJ ay ws
 |.dq,v=>v=.ref tw
 |.bJ a,v=>v=.ref a
def bR:List T->List V->Prop
 |[],ah=>ah=[]
 |x::xs,ah=>∃v r,ah=v::r/\aI x v/\bR xs r
def cJ:List (Key×T)->List (Key×V)->Prop
 |[],ws=>ws=[]
 |(k,x)::xs,ws=>∃v r,ws=(k,v)::r/\aI x v/\cJ xs r
end
end
def eI(H aj:aJ):Prop:=∀a,(∀ah,H a=J (.aD ah)->aj a=J (.aD ah))/\∀o u,H a=J (.en o u)->aj a=J (.en o u)
structure dn (tw:Addr) (H aj:aJ):Prop where
 to:∀a o,H a=J o->a≠tw->aj a=J o
def df(tw:Addr)(n:Nat)(H:aJ):Prop:=H tw=J (.ao<|List.replicate n<|.int 0)
def eI.refl(H:aJ):eI H H:=λ_=>⟨λ_ h=>h,λ_ _ h=>h⟩
def eI.trans(a:eI H H1)(b:eI H1 bV):eI H bV:=λx=>⟨λah h=>(b x).1 ah ((a x).1 ah h),λo u h=>(b x).2 o u ((a x).2 o u h)⟩
def dn.refl(tw:Addr)(H:aJ):dn tw H H:=⟨λ_ _ h _=>h⟩
def dn.trans(a:dn tw H H1)(b:dn tw H1 bV):dn tw H bV:=⟨λx o h n=>b.to x o (a.to x o h n) n⟩
def dn.all(k:∀a o,H a=J o->aj a=J o):dn tw H aj:=⟨λa o h _=>k a o h⟩
def dn.put(e:dn tw B H)(de:B a=C):dn tw B<|c4 H a o:=⟨λb u q nb=>by rw[e0<|by rintro rfl;rw[de]at q;cases q];exact e.to b u q nb⟩
def df.Mq{n:Nat}(t:df tw n H)(h:H a=J (.aD ah)):a≠tw:=by intro e;subst e;rw[df]at t;rw[t]at h;exists h
def df.Gw{n:Nat}(t:df tw n H)(h:H a=J (.en o u)):a≠tw:=by intro e;subst e;rw[df]at t;rw[t]at h;exists h
def dn.b0{n:Nat}(t:df tw n H)(e:dn tw H aj):eI H aj:=λa =>
 ⟨λah h=>e.to a _ h<|t.Mq h,λo u h=>e.to a _ h<|t.Gw h⟩
def eI.new(h:H p=C):eI H<|c4 H p o:=λa =>
 ⟨λah e=>by rw[e0<|w8 e h];exact e,λ_ _ e=>by rw[e0<|w8 e h];exact e⟩
def dn.new(h:H p=C):dn tw H<|c4 H p o:=.all λa u e=>by rw[e0<|w8 e h];exact e
def df.new{n:Nat}(t:df tw n H)(h:H p=C):df tw n<|c4 H p o:=by unfold df at*;rw[e0<|w8 t h];exact t
mutual
theorem aI.mono(h:eI H aj):∀(t:T) (v:V),aI tw H t v->aI tw aj t v
 |.br,v,r=>by simpa[aI]using r
 |.aC b,v,r=>by simpa[aI]using r
 |.int i,v,r=>by simpa[aI]using r
 |.str x,v,r=>by simpa[aI]using r
 |.dq,v,r=>by simpa[aI]using r
 |.bJ a,v,r=>by simpa[aI]using r
 |.aD xs,v,r=>by rw[aI]at r |-;obtain⟨a,ah,e,p,q⟩:=r;exact⟨a,ah,e,(h a).1 _ p,bR.mono h xs ah q⟩
 |.ao xs,v,r=>by rw[aI]at r |-;obtain⟨a,o,ah,e,p,q⟩:=r;exact⟨a,o,ah,e,(h a).2 _ _ p,bR.mono h xs ah q⟩
 |.bk xs,v,r=>by rw[aI]at r |-;obtain⟨a,o,ah,e,p,q⟩:=r;exact⟨a,o,ah,e,(h a).2 _ _ p,cJ.mono h xs ah q⟩
theorem bR.mono(h:eI H aj):∀(t:List T) (v:List V),bR tw H t v->bR tw aj t v
 |[],v,r=>by rw[bR]at r |-;exact r
 |x::xs,v,r=>by rw[bR]at r |-;obtain⟨w,hq,e,p,q⟩:=r;exact⟨w,hq,e,aI.mono h x w p,bR.mono h xs hq q⟩
theorem cJ.mono(h:eI H aj):∀(t:List (Key×T)) (v:List (Key×V)),cJ tw H t v->cJ tw aj t v
 |[],v,r=>by rw[cJ]at r |-;exact r
 |(k,x)::xs,v,r=>by rw[cJ]at r |-;obtain⟨w,hq,e,p,q⟩:=r;exact⟨w,hq,e,aI.mono h x w p,cJ.mono h xs hq q⟩
end
section
variable {tw:Addr}{H:aJ}
def jg(r:bR tw H [] ah):ah=[]:=by rw[bR]at r;exact r
def hc(r:bR tw H (x::xs) ah):∃v w,ah=v::w/\aI tw H x v/\bR tw H xs w:=by rw[bR]at r;exact r
def bR.nil:bR tw H [] []:=by rw[bR]
def bR.cons{x:T}{v:V}{xs:List T}{ah:List V}(a:aI tw H x v)(b:bR tw H xs ah):bR tw H (x::xs)<|v::ah:=by rw[bR];exact⟨v,ah,rfl,a,b⟩
theorem bR.length:∀{xs:List T} {ah:List V},bR tw H xs ah->xs.H=ah.H
 |[],_,r=>by rw[jg r];rfl
 |_::xs,_,r=>by obtain⟨v,w,rfl,_,q⟩:=hc r;rw[d8,d8,bR.length q]
theorem bR.get:∀{xs:List T} {ah:List V} {i:Nat} {x:T},bR tw H xs ah->xs[i]?=J x->∃v,ah[i]?=J v/\aI tw H x v
 |[],_,_,_,_,e=>by simp at e
 |y::xs,_,0,x,r,e=>by obtain⟨v,w,rfl,p,q⟩:=hc r;simp at e;subst e;exact⟨v,rfl,p⟩
 |y::xs,_,i+1,x,r,e=>by obtain⟨v,w,rfl,p,q⟩:=hc r;obtain⟨u,af,ak⟩:=bR.get (i:=i) (x:=x) q (by simpa using e);exact⟨u,by simpa using af,ak⟩
theorem bR.append:∀{xs aO:List T} {ah ws:List V},bR tw H xs ah->bR tw H aO ws->bR tw H (xs++aO) (ah++ws)
 |[],_,_,_,r,s=>by rw[jg r];exact s
 |x::xs,aO,_,ws,r,s=>by obtain⟨v,w,rfl,p,q⟩:=hc r;exact .cons p<|bR.append q s
theorem bR.take:∀{xs:List T} {ah:List V} (n:Nat),bR tw H xs ah->bR tw H (xs.take n) (ah.take n)
 |_,_,0,_=>by simp;exact .nil
 |[],_,_+1,r=>by rw[jg r];exact .nil
 |x::xs,_,n+1,r=>by obtain⟨v,w,rfl,p,q⟩:=hc r;exact .cons p<|bR.take n q
theorem bR.drop:∀{xs:List T} {ah:List V} (n:Nat),bR tw H xs ah->bR tw H (xs.drop n) (ah.drop n)
 |_,_,0,r=>r
 |[],_,_+1,r=>by rw[jg r];exact .nil
 |x::xs,_,n+1,r=>by obtain⟨v,w,rfl,p,q⟩:=hc r;exact bR.drop n q
theorem bR.set(a:aI tw H x v):∀{xs:List T} {ah:List V} (i:Nat),bR tw H xs ah->bR tw H (xs.set i x) (ah.set i v)
 |[],_,_,r=>by rw[jg r];exact .nil
 |y::xs,_,0,r=>by obtain⟨hS,w,rfl,p,q⟩:=hc r;exact .cons a q
 |y::xs,_,i+1,r=>by obtain⟨hS,w,rfl,p,q⟩:=hc r;exact .cons p<|bR.set a i q
theorem bR.reverse(r:bR tw H xs ah):bR tw H xs.reverse ah.reverse:=by
 induction xs generalizing ah with
 |nil=>rw[jg r];exact .nil
 |cons x xs a4 =>
  obtain⟨v,w,rfl,p,q⟩:=hc r;rw[BP,BP];exact(a4 q).append (.cons p .nil)
theorem bR.rep(r:bR tw H xs ah):∀k:Nat,bR tw H (List.replicate k xs).flatten (List.replicate k ah).flatten
 |0=>.nil
 |k+1=>by rw[ov,ov,tU,tU];exact r.append<|bR.rep r k
def bR.ints(ns:List Int):bR tw H (ns.map T.int)<|ns.map V.int:=by
 induction ns with
 |nil=>exact .nil
 |cons n ns a4=>exact .cons (by rw[aI]) a4
theorem xl:∀{ns:List Int} {ah:List V},bR tw H (ns.map T.int) ah->ah=ns.map V.int
 |[],_,r=>jg r
 |n::ns,_,r=>by obtain⟨v,w,rfl,p,q⟩:=hc r;rw[aI]at p;rw[p,xl q];rfl
end
def u0(K:PySem.W.Frag)(tw:Addr)(H:aJ)(a:Addr)(ah:List V):Prop :=
 (a≠tw/\iM H a (.ao ah)) \/
  (∃(o:Obj) (a5:Array mt) (n:Nat),K.lookup a=J o/\o.cls=.type "list" /\ o.dict=C/\o.d=.seq a5 n/\a5.O<=dg/\cG ah a5.D)
def u0.gh{K:PySem.W.Frag}{tw:Addr}{H:aJ}{a:Addr}{ah:List V}(h:u0 K tw H a ah):gv K H a ah:=h.imp (·.2) id
def u0.ext{K:PySem.W.Frag}{tw:Addr}{H aj:aJ}{a:Addr}{ah:List V}(e:dn tw H aj)(h:u0 K tw H a ah):u0 K tw aj a ah:=by
 rcases h with⟨n,h⟩|h
 ·rcases h with h|⟨o,h⟩
  ·exact .inl ⟨n,.inl<|e.to a _ h n⟩
  ·exact .inl ⟨n,.inr ⟨o,e.to a _ h n⟩⟩
 ·exact .inr h
def eu(K:PySem.W.Frag)(tw:Addr)(H:aJ):T->V->Prop
 |.ao xs,v=>∃a ah,v=.ref a/\u0 K tw H a ah/\bR tw H xs ah
 |.bk ay,v=>∃a ws,v=.ref a/\a≠tw/\iM H a (.aw ws)/\cJ tw H ay ws
 |t,v=>aI tw H t v
def mn(tw:Addr)(H:aJ)(a:Addr):T->Prop
 |.ao xs=>∃ah,H a=J (.ao ah)/\bR tw H xs ah
 |.bk ay=>∃ws,H a=J (.aw ws)/\cJ tw H ay ws
 |_=>False
section
variable {K:PySem.W.Frag}{tw:Addr}{H aj:aJ}{n:Nat}
def eu.Mr(aQ:df tw n H)(r:aI tw H t v):eu K tw H t v:=by
 cases t with
 |ao xs =>
  rw[aI]at r;obtain⟨a,o,ah,e,h,q⟩:=r;exact⟨a,ah,e,.inl ⟨aQ.Gw h,.inr ⟨o,h⟩⟩,q⟩
 |bk ay =>
  rw[aI]at r;obtain⟨a,o,ws,e,h,q⟩:=r;exact⟨a,ws,e,aQ.Gw h,.inr ⟨o,h⟩,q⟩
 |_=>exact r
def eu.rep(b:hn t=Y1)(r:eu K tw H t v):aI tw H t v:=by
 cases t with
 |ao xs=>exists b
 |bk ay=>exists b
 |_=>exact r
theorem eu.ext(aQ:df tw n H)(e:dn tw H aj)(r:eu K tw H t v):eu K tw aj t v:=by
 cases t with
 |ao xs =>
  obtain⟨a,ah,bN,h,q⟩:=r;exact⟨a,ah,bN,h.ext e,bR.mono (e.b0 aQ) _ _ q⟩
 |bk ay =>
  obtain⟨a,ws,bN,na,h,q⟩:=r;refine⟨a,ws,bN,na,?_,cJ.mono (e.b0 aQ) _ _ q⟩;rcases h with h|⟨o,h⟩
  ·exact .inl<|e.to a _ h na
  ·exact .inr ⟨o,e.to a _ h na⟩
 |_=>exact aI.mono (e.b0 aQ) _ _ r
def mn.root(na:a≠tw)(h:mn tw H a t):eu K tw H t<|.ref a:=by
 cases t with
 |ao xs =>
  obtain⟨ah,e,q⟩:=h;exact⟨a,ah,rfl,.inl ⟨na,.inl e⟩,q⟩
 |bk ay =>
  obtain⟨ws,e,q⟩:=h;exact⟨a,ws,rfl,na,.inl e,q⟩
 |_=>exact h.elim
def mn.ext(na:a≠tw)(aQ:df tw n H)(e:dn tw H aj)(h:mn tw H a t):mn tw aj a t:=by
 cases t with
 |ao xs =>
  obtain⟨ah,bN,q⟩:=h;exact⟨ah,e.to a _ bN na,bR.mono (e.b0 aQ) _ _ q⟩
 |bk ay =>
  obtain⟨ws,bN,q⟩:=h;exact⟨ws,e.to a _ bN na,cJ.mono (e.b0 aQ) _ _ q⟩
 |_=>exact h.elim
def mn.some(h:mn tw H a t):H a≠C:=by
 intro z;cases t with
 |ao xs =>
  obtain⟨ah,bN,q⟩:=h;rw[z]at bN;exists bN
 |bk ay =>
  obtain⟨ws,bN,q⟩:=h;rw[z]at bN;exists bN
 |_=>exact h.elim
end
structure dr (K:PySem.W.Frag) (B:aJ) (tw:Addr) (S:bE) (n:Nat) (O:St) (H:aJ):Prop where
 ext:dn tw B H
 aQ:df tw n H
 la:∃n0,df tw n0 B
 len:S.H=O.H
 ag:∀(i:Nat) (t:T),S[i]?=J (J (t,.ag))->∃v,O[i]?=J (J v)/\aI tw H t v
 cZ:∀(i:Nat) (t:T),S[i]?=J (J (t,.cZ))->∃v,O[i]?=J (J v)/\eu K tw B t v
 aE:∀(i:Nat) (t:T),S[i]?=J (J (t,.aE))->∃a,O[i]?=J (J<|.ref a)/\B a=C/\mn tw H a t
 nV:∀(i:Nat) (t:T),S[i]?≠J (J (t,.i1))
 o7:∀(i j:Nat) (t t':T) (a:Addr),S[i]?=J (J (t,.aE))->S[j]?=J (J (t',.aE))->O[i]?=J (J<|.ref a)->O[j]?=J (J<|.ref a)->i=j
def Val(K:PySem.W.Frag)(B:aJ)(tw:Addr)(hs H:aJ)(t:T)(m:bo)(v:V):Prop :=
 match m with
 |.ag=>aI tw H t v
 |.cZ=>eu K tw B t v
 |.i1=>eu K tw H t v
 |.aE=>∃a,v=.ref a/\hs a=C/\mn tw H a t
section
variable {K:PySem.W.Frag}{B:aJ}{tw:Addr}{S:bE}{n n' n0:Nat}{O:St}{H aj hs H1:aJ}{t:T}{m:bo}{v:V}
def df.tS(aQ:df tw n H)(h:H a=C):a≠tw:=λe=>by subst e;unfold df at aQ;rw[h]at aQ;exists aQ
def dn.free(e:dn tw hs H)(aQ:df tw n H)(h:H a=C):hs a=C:=by
 cases z:hs a with
 |none=>rfl
 |some o=>have:=e.to a o z<|aQ.tS h;rw[h]at this;cases this
def dr.v9(R:dr K B tw S n O H)(h:B a=C):a≠tw:=let ⟨_,b⟩:=R.la;b.tS h
theorem dr.mono(R:dr K B tw S n O H)(e:dn tw H aj)(aaK:df tw n' aj):dr K B tw S n' O aj :=
 ⟨R.ext.trans e,aaK,R.la,R.len,λi t h=>let ⟨v,af,ak⟩:=R.ag i t h;⟨v,af,aI.mono (e.b0 R.aQ) _ _ ak⟩,R.cZ,
  λi t h=>let ⟨a,af,ak,bc⟩:=R.aE i t h;⟨a,af,ak,bc.ext (R.v9 ak) R.aQ e⟩,R.nV,R.o7⟩
def Val.back(e:dn tw hs H1)(af:df tw n H1)(h:Val K B tw H1 H t m v):Val K B tw hs H t m v:=by
 cases m with
 |ag=>exact h
 |cZ=>exact h
 |i1=>exact h
 |aE =>
  obtain⟨a,aX,bb,cK⟩:=h;exact⟨a,aX,e.free af bb,cK⟩
theorem Val.root(R:dr K B tw S n O H)(h0:df tw n0 hs)(h:Val K B tw hs H t m v):eu K tw H t v:=by
 cases m with
 |ag=>exact eu.Mr R.aQ h
 |cZ=>exact let ⟨_,b⟩:=R.la;eu.ext (v:=v) b R.ext h
 |i1=>exact h
 |aE =>
  obtain⟨a,rfl,bb,cK⟩:=h;exact cK.root<|h0.tS bb
end
inductive r0 (K:PySem.W.Frag) (tw:Addr) (H:aJ):List T->List V->Prop
 |nil:r0 K tw H [] []
 |cons {t:T} {v:V} {aA:List T} {ah:List V}:eu K tw H t v->r0 K tw H aA ah->r0 K tw H (t::aA) (v::ah)
def q3(K:PySem.W.Frag)(B:aJ)(tw:Addr)(S:bE)(n:Nat)(t:T)(m:bo)(n':Nat):TE:=λO H Q =>
 dr K B tw S n O H/\∀v aj,dn tw H aj->df tw n' aj->Val K B tw H aj t m v->Q v aj
def VN(K:PySem.W.Frag)(B:aJ)(tw:Addr)(S:bE)(n:Nat)(aA:List T)(n':Nat):kS:=λO H Q =>
 dr K B tw S n O H/\∀ah aj,dn tw H aj->df tw n' aj->r0 K tw aj aA ah->Q ah aj
def KF(K:PySem.W.Frag)(B:aJ)(tw:Addr)(f:hF)(S':bE)(n':Nat)(D:Ends)(H:aJ):Prop:=match f with
  |.bD=>∀U' aj,eI H aj->dr K B tw S' n' U' aj->D.bD U' aj
  |.gr=>∀U' aj,eI H aj->dr K B tw S' n' U' aj->D.gr U' aj
  |.eD=>∀U' aj,eI H aj->dr K B tw S' n' U' aj->D.eD U' aj
  |.aU t m=>∀v aj,eI H aj->dn tw B aj->df tw n' aj->Val K B tw B aj t (eO m) v->D.aU v aj
def KF.b0{K:PySem.W.Frag}{B:aJ}{tw:Addr}{f:hF}{S':bE}{n':Nat}{D:Ends}{H H1:aJ}(e:eI H H1)(h:KF K B tw f S' n' D H):KF K B tw f S' n' D H1:=by
 cases f with
 |bD=>exact λU' aj x y=>h U' aj (e.trans x) y
 |gr=>exact λU' aj x y=>h U' aj (e.trans x) y
 |eD=>exact λU' aj x y=>h U' aj (e.trans x) y
 |aU t m=>exact λv aj x y z w=>h v aj (e.trans x) y z w
def wN(K:PySem.W.Frag)(B:aJ)(tw:Addr)(S:bE)(n:Nat)(f:hF)(S':bE)(n':Nat):kT:=λD O H =>
 dr K B tw S n O H/\KF K B tw f S' n' D H
def bF(X:bI)(tw:Addr)(e:Expr)(d:bM):Prop:=∀B S n t m n',d S n=J (t,m,n')->d6 X e (q3 X.K B tw S n t m n')
def nJ(X:bI)(tw:Addr)(es:List Expr)(d:gg):Prop:=∀B S n aA n',d S n=J (aA,n')->nG X es (VN X.K B tw S n aA n')
def gW(X:bI)(tw:Addr)(st:Stmt)(d:bw):Prop:=∀B S n f S' n',d S n=J (f,S',n')->oK X st (wN X.K B tw S n f S' n')
def hZ(X:bI)(tw:Addr)(st:List Stmt)(d:bw):Prop:=∀B S n f S' n',d S n=J (f,S',n')->kp X st (wN X.K B tw S n f S' n')
section
variable {X:bI}{tw:Addr}
def lN(i:Nat){x:Str}{pos:Pos}(dJ:autoParam (X.N[i]?=J x) bu)(bS:autoParam (qi X.I.Y x) az7._auto_1)(hd:autoParam ZH eL)
  (g0:autoParam ((x==("__classdict__" : Str))=Y1) eL):bF X tw (.Name x pos)<|ai i:=by
 intro B S n t m n' h ae s O H Q I ⟨R,k⟩;unfold ai at h;cases e:S[i]? with
 |none=>rw[e]at h;exists h
 |some o =>
  cases o with
  |none=>rw[e]at h;exists h
  |some p =>
   obtain⟨t',gf⟩:=p;rw[e]at h;have h:J (t',look gf t',n)=J (t,m,n'):=h;cases h;have fin:∃v,O[i]?=J (J v)/\Val X.K B tw H H t (look gf t) v:=by
    cases gf with
    |ag=>exact R.ag i t e
    |i1 =>
     cases t with
     |_=>exact absurd e<|R.nV i _
    |cZ =>
     obtain⟨v,af,ak⟩:=R.cZ i t e;refine⟨v,af,?_⟩;unfold look;cases b:hn t with
     |true=>exact ak
     |false=>exact let ⟨_,q4⟩:=R.la;aI.mono (R.ext.b0 q4) _ _ (ak.rep b)
    |aE =>
     obtain⟨a,af,ak,bc⟩:=R.aE i t e;refine⟨.ref a,af,?_⟩;unfold look;cases b:hn t with
     |true=>exact bc.root<|R.v9 ak
     |false=>exists t<;>first|exact(show False from bc).elim|cases b
   obtain⟨v,af,ak⟩:=fin;exact uT dJ bS hd g0 ae s O H Q I ⟨v,af,k v H (.refl _ _) R.aQ ak⟩
def ye{e:Expr}{t:T}{v:V}(h:d6 X e<|wF v)(r:∀H,aI tw H t v):bF X tw e<|aw t:=by
 intro B S n t' m n' hd ae s O H Q I ⟨R,k⟩
 exists hd
 exact h ae s O H Q I<|k v H (.refl _ _) R.aQ<|r H
def z2{i:Int}{j pos}:bF X tw (.Constant (.int i) j pos)<|aw<|.int i:=ye Dm λ_=>by rw[aI]
def Mc{b:Bool}{j pos}:bF X tw (.Constant (.bool b) j pos)<|aw<|.aC b:=ye agC λ_=>by rw[aI]
def aie{j pos}:bF X tw (.Constant .none j pos)<|aw .br:=ye ahM λ_=>by rw[aI]
def I5{x:Str}{j pos}:bF X tw (.Constant (.str x) j pos)<|aw<|.str x:=ye IA λ_=>by rw[aI]
def xm{x:Str}{i:Int}{t:Tok}{pos:Pos}(hm:X.a3 x=J (.int i t))(bT:autoParam (fv X x) bu)(hd:autoParam ZH eL):bF X tw (.Name x pos) (aw<|.int i) :=
 ye (Ou bT hm (v:=.int i) ⟨t,rfl⟩ hd) λ_=>by rw[aI]
end
section
variable {X:bI}{ae:List Z1}{O:St}{H:aJ}{s:aR}{a:Addr}{u:jV}{tw:Addr}
def _root_.bj.aS.freeze(I:aS X ae O H s)(h:H a=J u)(b7:(∃xs,u=.ao xs)\/∃ay,u=.aw ay):∃o,aS X ae O (c4 H a<|.en o u) s:=by
 have ok:=I.b1 a u h;have⟨o,aZ⟩:∃o,s.heap.get? a=J o:=by
  rcases b7 with⟨xs,rfl⟩|⟨ay,rfl⟩
  ·obtain⟨_,a5,n,_,e⟩:=ok;exact⟨_,e⟩
  ·obtain⟨_,_,_,_,o,_,_,e,_⟩:=ok;exact⟨_,e⟩
 have af7:∀b xs,H b=J (.aD xs)->b≠a:=λb xs e z=>by subst z;rw[h]at e;cases e;rcases b7 with⟨_,q⟩|⟨_,q⟩<;>cases q
 have af8:∀b dh fu,H b=J (.en dh fu)->b≠a:=λb dh fu e z=>by subst z;rw[h]at e;cases e;rcases b7 with⟨_,q⟩|⟨_,q⟩<;>cases q
 have bz:∀b,H b=C->b≠a:=λb e z=>by subst z;rw[h]at e;exists e
 have b1:gj X.R X.w (c4 H a<|.en o u) s.Q:=λb fS e=>by
  have st:∀(c:Addr) (fS:jV),gO X.R X.w H s.Q c fS->gO X.R X.w (c4 H a<|.en o u) s.Q c fS:=λc fS q =>
   q.pz (λ_ z=>z)
  by_cases aq:b=a
  ·subst aq;rw[fB]at e;exists e;exact⟨aZ,st _ _ ok⟩
  ·rw[e0 aq]at e;exact st _ _<|I.b1 b fS e
 refine⟨o,?_⟩
 have un:gd X.cm [] H (c4 H a<|.en o u) s.Q s.Q:=⟨λb bJ e _ _ _=>e,λb bJ e _ _ _=>⟨bJ.slots,e⟩,λb bJ e n _=>by rw[e0<|bz b n];exact n,λb bJ e _=>⟨bJ,e⟩,
  λb xs e=>by rw[e0<|af7 b xs e];exact e,λb dh fu e=>by rw[e0<|af8 b dh fu e];exact e⟩
 exact I.un (h':=s.Q) (t':=s.toks) un b1
theorem eI.en{o:Obj}(h:H a=J u)(b7:(∃xs,u=.ao xs)\/∃ay,u=.aw ay):eI H<|c4 H a<|.en o u:=λb =>
 ⟨λah e=>by rw[e0<|by rintro rfl;rw[h]at e;cases e;rcases b7 with⟨_,q⟩|⟨_,q⟩<;>cases q];exact e,
  λdh fu e=>by rw[e0<|by rintro rfl;rw[h]at e;cases e;rcases b7 with⟨_,q⟩|⟨_,q⟩<;>cases q];exact e⟩
end
def aaL(h:∀y∈scope.e,y.2=.free->∃c,env.cells.lookup y.1=J c) :
  ∃cl,closureFor scope env=pure cl/\(∀x c,cl.lookup x=J c->env.cells.lookup x=J c)/\∀y∈scope.e,y.2=.free->∃c,cl.lookup y.1=J c:=by
 have key:∀(names:List (Str×sl)) (acc:List (Str×Addr)),(∀y∈names,y.2=.free->∃c,env.cells.lookup y.1=J c)->(∀x c,acc.lookup x=J c->env.cells.lookup x=J c) ->
   ∃cl,(forIn names acc λx cs=>match x with
    |(name,kind)=>if(kind==.free)=Y0 then(cellOf env name >>= λc=>pure<|ForInStep.yield<|(name,c)::cs) else pure (ForInStep.yield cs):Sem<|List<|Str×Addr)=pure cl /\
    (∀x c,cl.lookup x=J c->env.cells.lookup x=J c)/\(∀x c,acc.lookup x=J c->∃cH,cl.lookup x=J cH)/\∀y∈names,y.2=.free->∃c,cl.lookup y.1=J c:=by
  intro names
  induction names with
  |nil=>intro acc _ ba;exact⟨acc,rfl,ba,λx c e=>⟨c,e⟩,λy aK=>nomatch aK⟩
  |cons z r a4 =>
   intro acc bz ba;obtain⟨nm,p2⟩:=z;by_cases aW:(p2==NameKind.free)=Y0
   ·have aaM:p2=.free:=by simpa using aW
    obtain⟨c,aT⟩:=bz (nm,p2) dS aaM;have aT:env.cells.lookup nm=J c:=aT
    obtain⟨cl,e,af,ak,bc⟩:=a4 ((nm,c)::acc) (λy aK=>bz y<|am _ aK) (λx cH e=>by
     rw[r5]at e;split at e
     ·rename_i q;have q:x=nm:=by simpa using q
      exists e;rw[q];exact aT
     ·exact ba x cH e)
    refine⟨cl,?_,af,λx cH q=>?_,λy aK hf=>?_⟩
    ·rw[List.forIn_cons];simp only[aW,if_true];have az:cellOf env nm=pure c:=by unfold cellOf;rw[aT]
     rw[az];exact e
    ·by_cases av:x=nm
     ·subst av;exact ak x c (by simp[r5])
     ·exact ak x cH (by rw[r5,show(x==nm)=Y1 by simpa using av];exact q)
    ·rcases d3.mp aK with rfl|aK
     ·exact ak nm c (by simp[r5])
     ·exact bc y aK hf
   ·obtain⟨cl,e,af,ak,bc⟩:=a4 acc (λy aK=>bz y<|am _ aK) ba;refine⟨cl,?_,af,ak,λy aK hf=>?_⟩
    ·rw[List.forIn_cons];simp only[aW];exact e
    ·rcases d3.mp aK with rfl|aK
     ·exact absurd (by simpa using hf) (by simpa using aW)
     ·exact bc y aK hf
 obtain⟨cl,e,af,_,bc⟩:=key scope.e [] h (λx c e=>by simp at e);refine⟨cl,?_,af,bc⟩;unfold closureFor;dsimp only;rw[e];rfl
theorem DG{env:Env}:∀{names:List (Str×sl)} {x:Str} {k:sl},
  (names.map λ(n,k)=>if(k==NameKind.free&&env.Y.kind==.function&&env.kindOf n==J .cell) then(n,NameKind.cell) else(n,k)).lookup x=J k ->
  names.lookup x=J k\/(names.lookup x=J .free/\k=.cell)
 |[],_,_,h=>by simp at h
 |(n,k0)::r,x,k,h=>by
  have a4:=@DG env r x k;have ak:List.lookup x ((if(k0==NameKind.free&&env.Y.kind==.function&&env.kindOf n==J .cell)=Y0 then(n,NameKind.cell) else(n,k0))::(r.map λ(n,k)=>if(k==NameKind.free&&env.Y.kind==.function&&env.kindOf n==J .cell)=Y0 then(n,NameKind.cell) else(n,k)))=J k:=h;clear h;cases av:x==n with
  |true =>
   by_cases aT:(k0==NameKind.free&&env.Y.kind==.function&&env.kindOf n==J .cell)=Y0
   ·rw[Y2 aT]at ak;simp only[r5,av]at ak |-;have dE:k0=.free:=by simp only[f3,beq_iff_eq]at aT;exact aT.1.1
    subst dE;exact .inr ⟨rfl,(Option.some.inj ak).symm⟩
   ·rw[Y3 aT]at ak;simp only[r5,av]at ak |-;exact .inl ak
  |false =>
   by_cases aT:(k0==NameKind.free&&env.Y.kind==.function&&env.kindOf n==J .cell)=Y0
   ·rw[Y2 aT]at ak;simp only[r5,av]at ak |-;exact a4 ak
   ·rw[Y3 aT]at ak;simp only[r5,av]at ak |-;exact a4 ak
section
variable {prog:dx}{w:c3}{A:dH}{R:sq->aR->Prop}{s:aR}
def aaN(I:Nat->aR->Prop)
  (turn:∀n s,I n s->bl Z9 A (mK it) (λr dM=>match r with
   |none=>R (.ok .next) dM
   | some v=>bl Z9 A (B9 target it v) (λ_ dM=>bl Z9 A (nD target env v) (λ_ gT =>
     bl Z9 A (forIn ifs Y0 λc r=>if r=Y0 then do let ok<-isTrue c env (eval c env);pure (ForInStep.yield ok) else pure (ForInStep.yield r)) (λok HD =>
      if ok=Y0 then bl Z9 A (eval elt env) (λx Nk =>
       bl Z9 A (call (.builtin "list.append") [acc,x]) (λ_ Nl=>∃m,m<n/\I m Nl) (λ_ _=>False) Nk) (λ_ _=>False) HD
      else ∃m,m<n/\I m HD) (λ_ _=>False) gT) (λ_ _=>False) dM) (λ_ _=>False) dM) (λ_ _=>False) s)
  (n:Nat) (h:I n s) :
  ki Z9 A (.compLoop (.ListComp elt [⟨target,iter,ifs,0⟩] scope pos) 0 it acc env) R s:=by
 refine codeAny_loop rfl I (λn s p3=>?_) n h;show bl _ A ((compTurn (.ListComp elt [⟨target,iter,ifs,0⟩] scope pos) 0 it acc env).onRaise (λx=>do noteFrame x env;theTreesLotGoes x)) _ _ s;refine wpAny_noted ?_;rw[compTurn_list];refine a8<|Hq<|a8 (hj (turn n s p3) (λr dM h₁=>?_) λ_ _ h'=>h'.elim);cases r with
 |none=>exact bZ h₁
 |some v =>
  refine a8 (hj h₁ (λ_ dM h₁=>?_) λ_ _ h'=>h'.elim);refine a8 (hj h₁ (λ_ gT Nm=>a8 (hj Nm (λok HD Nn=>?_) λ_ _ h'=>h'.elim)) λ_ _ h'=>h'.elim);cases ok with
  |false=>exact bZ ⟨rfl,Nn⟩
  |true =>
   exact a8<|a8 (hj Nn (λx Nk VO=>a8 (hj VO (λ_ Nl VP=>bZ<|bZ ⟨rfl,VP⟩) λ_ _ h'=>h'.elim)) λ_ _ h'=>h'.elim)
end
noncomputable def gx(X:bI)(N':List Str)(scope:jq)(cl:List<|Str×Addr)(aN:Addr)(cD:aR)(dI:aJ)(fp:List Addr):bI :=
 { X with N:=N',cD:=cD,dI:=dI,env:=compEnvC scope cl aN X.I,cj:=X.stack,stack:=X.stack,ex:=fp,fn:=λ_=>Y1,gC:=[],cv:=λ_ _=>False}
structure l0 (X:bI) (scope:jq) (N':List Str) (fo:List<|Option Nat):Prop where
 kind:scope.kind=.function
 cell:∀y∈scope.e,y.2≠.cell
 names:∀y∈scope.e,y.2=.local->scope.names.lookup y.1=J .local
 free:∀y∈scope.e,y.2=.free->X.env.kindOf y.1=J .cell\/X.env.kindOf y.1=J .free
 len:fo.H=N'.H
 src:∀(i j:Nat),fo[i]?=J (J j)->∃x,N'[i]?=J x/\X.N[j]?=J x/\scope.names.lookup x≠J .local
noncomputable def tL(l:List<|Option Nat)(O:St):St:=l.map λo=>o.bind λj=>(O[j]?).join
def I6{i:Nat}(h:(tL l O)[i]?=J (J v)):∃j,l[i]?=J (J j)/\O[j]?=J (J v):=by
 unfold tL at h;rw[ke]at h;cases e:l[i]? with
 |none=>rw[e]at h;exists h
 |some o =>
  rw[e]at h;cases o with
  |none=>exists h
  |some j =>
   refine⟨j,rfl,?_⟩;have h:(O[j]?).join=J v:=Option.some.inj h;cases q:O[j]? with
   |none=>rw[q]at h;exists h
   |some p=>rw[q]at h;rw[show p=J v from h]
def aaO{X:bI}{scope:jq}{N':List Str}{fo:List<|Option Nat}{cl:List<|Str×Addr}{ae:List Z1}{O:St}{H:aJ}{s:aR}{h':Heap}{fp:List Addr}{bx:Nat}
  (aN:l0 X scope N' fo) (I:aS X ae O H s) (mZ:∀x c,cl.lookup x=J c->X.env.cells.lookup x=J c) (u1:∀y∈scope.e,y.2=.free->∃c,cl.lookup y.1=J c)
  (hf:∀b∈fp,pB X ae H b) (aZ:∀b∈fp,∃o,s.heap.get? b=J o)
  (bz:h'.Ns s.L λ_=>C) (b8:∀b o,s.heap.get? b=J o->h'.get? b=J o) :
  aS (gx X N' scope cl s.L s H fp) [] (tL fo O) H { s with heap:=h',toks:=bx}:=by
 have aaP:∀b∈fp,b<s.L:=λb aq=>let ⟨o,e⟩:=aZ b aq;d5 e
 have kinds:∀(x:Str) (k:sl),(compEnvC scope cl s.L X.I).kindOf x=J k->(k=.cell\/k=.free)->scope.names.lookup x=J .free:=λx k h aW=>by
  rcases DG (env:=X.I) (names:=scope.e) (x:=x) (k:=k) h with e|⟨e,_⟩
  ·rcases aW with rfl|rfl
   ·exact absurd rfl<|aN.cell _<|PySem.mem_of_lookup e
   ·exact e
  ·exact e
 have b1:(gx X N' scope cl s.L s H fp).Ok:=by
  refine⟨I.ok.mod,aN.kind,I.ok.glob,I.ok.blt,cg _,λx y c af ak=>I.ok.inj x y c (mZ x c af)<|mZ y c ak,λx h=>?_,λx c h=>(by exists h),I.ok.hd,I.ok.frames,.inl rfl,λb aq=>⟨?_,λx c e=>?_⟩,I.bs,bP I.ok.mU I.wD,λb o e aq=>?_,λb aq z=>?_,I.stack,I.Gy⟩
  ·rcases h with h|h
   ·exact u1 _ (PySem.mem_of_lookup<|kinds x _ h<|.inl rfl) rfl
   ·exact u1 _ (PySem.mem_of_lookup<|kinds x _ h<|.inr rfl) rfl
  ·exact bv<|aaP b aq
  ·exact(hf b aq).2.2.2.2.1 x c (mZ x c e)
  ·rcases(hf b aq).2.2.2.1 with z|z
   ·exact I.ok.rQ b o e z
   ·exact absurd (d4 (d5 e)<|bP I.ok.mU z)<|oD _
  ·obtain⟨_,f1,f2,_⟩:=hf b aq;rcases d3.mp (I.Mp b z) with q|q
   ·exact f1 q
   ·exact f2 q
 refine⟨b1,rfl,I.ft,gd.kept b8,⟨_,bz,λi x v af ak bc=>?_⟩,λx c h=>?_,I.b1.fresh<|cg _,λx c h=>I.kI x c<|mZ x c h,λp aF=>(by exists aF),I.b1.kept b8,by show(fo.map _).H=N'.H;rw[cP,aN.len]⟩
 ·obtain⟨j,az,au⟩:=I6 ak;obtain⟨y,aX,bb,cK⟩:=aN.src i j az;have af:N'[i]?=J x:=af;rw[aX]at af;cases af;have Gb:scope.names.lookup x=J .free:=by
   rcases bc with k|k|k
   ·rcases DG (env:=X.I) (names:=scope.e) (x:=x) (k:=.local) k with e|⟨e,z⟩
    ·exact absurd e cK
    ·cases z
   ·exact kinds x _ k<|.inl rfl
   ·exact kinds x _ k<|.inr rfl
  have z3:=aN.free _ (PySem.mem_of_lookup Gb) rfl;obtain⟨m,_,aB⟩:=I.loc;obtain⟨u,eV,fM⟩:=aB j x v bb au<|.inr z3;refine⟨u,eV,.inr ⟨?_,?_⟩⟩
  ·rcases bc with k|k|k
   ·rcases DG (env:=X.I) (names:=scope.e) (x:=x) (k:=.local) k with e|⟨e,z⟩
    ·exact absurd e cK
    ·cases z
   ·exact .inl k
   ·exact .inr k
  ·rcases fM with⟨k,_⟩|⟨_,c,aT,VQ⟩
   ·have z3:X.env.kindOf x=J .cell\/X.env.kindOf x=J .free:=z3;rw[k]at z3;rcases z3 with z|z<;>cases z
   ·obtain⟨cH,sT⟩:=u1 _ (PySem.mem_of_lookup Gb) rfl;have:=mZ _ _ sT;rw[show X.env.cells.lookup x=J c from aT]at this
    exists this
    obtain⟨o,e,d⟩:=VQ;exact⟨c,sT,o,b8 c o e,d⟩
 ·obtain⟨v,o,e,d⟩:=I.cell x c<|mZ x c h;exact⟨v,o,b8 c o e,d⟩
def wO(X:bI)(ifs:List Expr)(t:TT):Prop :=
 ∀(ae:List Z1) (s:aR) (O:St) (H:aJ) (Q:Bool->aJ->Prop),aS X ae O H s->t O H Q ->
  bl Z2 X.A (forIn ifs Y0 λc r=>if r=Y0 then do let ok<-isTrue c X.I (eval c X.I);pure (ForInStep.yield ok) else pure (ForInStep.yield r)) (Ck X ae O Q) X.cv s
def aif:wO X [] (λO H Q=>Q Y0 H):=λae s O H Q I h=>wpAny_tests_nil ⟨H,I,h⟩
def aih(h:nF X c t):wO X [c] t:=λae s O H Q I hw=>wpAny_tests_one<|h ae s O H Q I hw
def Gg(ma:TI)(fo:List<|Option Nat)(g:pX)(tt:TT)(te:TE):TE:=λO H Q=>ma O H λcO H1=>∀D,H1 D=C ->
 ∃W:Nat->Nat->List V->St->aJ->Prop,(∃m,W 0 m [] (tL fo O)<|c4 H1 D<|.ao [])/\∀i m acc U' aj,W i m acc U' aj ->
  (cO.stop i aj/\Q (.ref D) aj)\/(cO.go i aj/\∃wQ:List V->St->aJ->Prop,(∀acc O H,wQ acc O H->∃gf,gf<m/\W (i+1) gf acc O H) /\
   ∀x bV,cO.Dr i aj x bV->g x U' bV λU3 ee=>tt U3 ee λb pZ=>if b=Y0 then te U3 pZ λy jt=>jt D=J (.ao acc)/\acc.H<dg/\wQ (acc++[y]) U3 (c4 jt D<|.ao<|acc++[y]) else wQ acc U3 pZ)
def Pc{X:bI}{elt di iter:Expr}{ifs:List Expr}{scope:jq}{pos af9:Pos}{N':List Str}{fo:List<|Option Nat}{ma:TI}{g:pX}{tt:TT}{te:TE}{use:Option<|mt->Sem Unit}{Qv:mt->aR->Prop}{Q:fg}{ae:List Z1}{s:aR}{O:St}{H:aJ}(I:aS X ae O H s)(h:Gg ma fo g tt te O H Q)(aT:X.calm=Y0)
  (aN:l0 X scope N' fo) (hi:oL X di iter ma) (bT:∀cl aN cD dI fp,pY ZS di g) (cA:∀cl aN cD dI fp,wO ZS ifs tt)
  (he:∀cl aN cD dI fp,d6 ZS elt te) (aP:∀x,oE iter X.I x=pure x)
  (fin:∀(D:Addr) (aj:aJ) (ju:aR) (aN:Addr),(∀h',Heap.SameBut aN ju.Q h'->aS X ae O aj { ju with heap:=h'})->(∃m,ju.heap.Ns aN m)->pB X ae aj aN->Q (.ref D) aj->compPost (bg X.R X.w) X.A X.cv use Qv (.ref D) aN (.ok .next) ju) :
  bl Z2 X.A (comprehension Za scope X.I af9 (newList []) Y1 (eval iter X.I) use) Qv X.cv s:=by
 obtain⟨cl,agT,mZ,u1⟩:=aaL (scope:=scope) (env:=X.I) λy aK hf=>I.ok.has _<|aN.free y aK hf;refine wpAny_comprehension_free (use:=use) rfl aP agT aN.kind aN.e (b2 (hi ae s O H _ I h) λanq s1 af=>b2 af λIE s2 ak=>?_);obtain⟨it,fp,aQ,cO,H1,e,cR,T,hx,f2,q⟩:=ak;subst e;refine kP ?_;have gV:H1 s2.L=C:=cR.fresh;have fT:aS X ae O (c4 H1 s2.L<|.ao []) { s2 with heap:=s2.heap.push { cls:=.type "list",data:=.seq ([]:List mt).B}}:=cR.LS (a5:=[]) (t':=s2.toks) .nil<|gG _;obtain⟨W,⟨m0,q0⟩,turn⟩:=q _ gV;refine wpAny_newFunctionEnv aN.cell (by intro y aK;simp at aK) (λcL rj lb=>?_) aN.kind;have anO:s2.L≠(s2.heap.push { cls:=.type "list",data:=.seq ([]:List mt).B}).E.O:=by rw[nv];exact bv<|oC _
 have aaQ:∀b∈fp,∃o,(s2.heap.push { cls:=.type "list",data:=.seq ([]:List mt).B}).get? b=J o:=λb aq=>let ⟨o,e,_⟩:=T.obj 0 _ hx b aq;⟨o,ec _ e⟩
 have aaR:∀b∈fp,b≠s2.L:=λb aq z=>by obtain⟨o,e,_⟩:=T.obj 0 _ hx b aq;exact absurd (d5 e) (by rw[z];exact oD _)
 have el:∀b∈fp,pB X ae (c4 H1 s2.L<|.ao []) b:=λb aq=>⟨by rw[e0<|aaR b aq];exact(f2 b aq).1,(f2 b aq).2⟩
 have Pd:∀b o,(s2.heap.push { cls:=.type "list",data:=.seq ([]:List mt).B}).get? b=J o->cL.get? b=J o:=λb o e =>
  lb.extBut b o (bv<|d5 e) (ec _ e)
 have ha:=aaO (bx:=s2.toks+([]:List<|Str×mt).H) aN fT mZ u1 el aaQ (by simpa using rj) Pd;have Pe:aQ 0 cL:=T.keep 0 _ _ hx λb aq o e=>Pd b o<|ec _ e;have I7:∀{aj:aJ},(∀b∈fp,aj b=C)->∀b∈fp,pB (gx X N' scope cl (s2.heap.push { cls:=.type "list",data:=.seq ([]:List mt).B}).objs.size { s2 with heap:=s2.heap.push { cls:=.type "list",data:=.seq ([]:List mt).B}} (c4 H1 s2.L<|.ao []) fp) [] aj b:=λ{aj} bz b aq=>by refine⟨bz b aq,(ha.ok.sR b aq).1,ha.ok.rR b aq,.inl aq,λx c e z=>(ha.ok.sR b aq).2 x c e z,λp aF=>by exists aF⟩
 have loop:ki Z2 X.A (.compLoop Za 0 (.ref it) (.ref s2.L)<|compEnvC scope cl (s2.heap.push { cls:=.type "list",data:=.seq ([]:List mt).B}).objs.size X.I)
   (compPost Z2 X.A X.cv use Qv (.ref s2.L) (s2.heap.push { cls:=.type "list",data:=.seq ([]:List mt).B}).E.O) { s2 with heap:=cL,toks:=s2.toks+([]:List (Str×mt)).H}:=by
  refine aaN (λn s'=>∃i acc U' aj,aS (gx X N' scope cl (s2.heap.push { cls:=.type "list",data:=.seq ([]:List mt).B}).objs.size { s2 with heap:=s2.heap.push { cls:=.type "list",data:=.seq ([]:List mt).B}} (c4 H1 s2.L (.ao [])) fp) [] U' aj s'/\aQ i s'.Q/\(∀b∈fp,aj b=C)/\W i n acc U' aj) ?_ m0
   ⟨0,[],_,_,ha,Pe,λb aq=>(el b aq).1,q0⟩
  rintro n s5 ⟨i,acc,U5,jt,wG,xa,Du,VR⟩;rcases turn i n acc U5 jt VR with⟨stop,uo⟩|⟨go,wQ,dJ,step⟩
  ·refine b2 (T.done (gx X N' scope cl _ _ _ fp) rfl rfl rfl aT i [] s5 U5 jt (λ_ _=>False) wG (I7 Du) xa stop) λr ju ⟨aV,oM⟩=>?_;subst aV;obtain⟨VS,aaS,_⟩:=oM.loc;refine fin _ jt ju _ (λh' s9=>?_) ⟨VS,aaS⟩ (fT.ya (cg _) oM.free) uo;have VT:∀b u,jt b=J u->b≠(s2.heap.push { cls:=.type "list",data:=.seq ([]:List mt).B}).E.O:=λb u e z=>by
    have:=oM.free;rw[show(gx X N' scope cl (s2.heap.push { cls:=.type "list",data:=.seq ([]:List mt).B}).objs.size { s2 with heap:=s2.heap.push { cls:=.type "list",data:=.seq ([]:List mt).B}} (c4 H1 s2.L (.ao [])) fp).I.locals=(s2.heap.push { cls:=.type "list",data:=.seq ([]:List mt).B}).E.O from rfl,<-z,e]at this
    exists this
   have b1:gj X.R X.w jt h':=λb u e=>(oM.b1 b u e).pz (λv q=>s9.extBut b v (VT b u e) q);have un:gd (hb X.stack) fp (c4 H1 s2.L<|.ao []) jt (s2.heap.push { cls:=.type "list",data:=.seq ([]:List mt).B}) h':=by
    have lt:∀b o,(s2.heap.push { cls:=.type "list",data:=.seq ([]:List mt).B}).get? b=J o->b≠(s2.heap.push { cls:=.type "list",data:=.seq ([]:List mt).B}).E.O:=λb o e=>bv<|d5 e;have u:=oM.V
    exact⟨λb o e n aq av=>s9.extBut b o (lt b o e)<|u.keep b o e n aq av,λb o e n aq av=>let ⟨cX,q⟩:=u.slot b o e n aq av;⟨cX,s9.extBut b _ (lt b o e) q⟩,λb o e n av=>u.free b o e n av,
     λb o e av=>let ⟨dh,q⟩:=u.there b o e av;⟨dh,s9.extBut b _ (lt b o e) q⟩,u.pA,u.ob⟩
   exact fT.Gd (s':={ ju with heap:=h'}) (ch:=fp) oM.os un b1 oM.ft λb aq=>let ⟨_,g1,g2,g3,gK,mO⟩:=el b aq;⟨g3,g1,gK,mO⟩
  ·refine b2 (T.item (gx X N' scope cl _ _ _ fp) rfl rfl rfl aT i [] s5 U5 jt (λ_ _=>False) wG (I7 Du) xa go) λr ju ⟨u,aV,HE⟩=>?_;subst aV;refine b2 HE λ_ oN ⟨x,mc,lE,wH,y4,I8,aaT⟩=>?_;have aaU:=lE.pinned (I7 aaT)<|T.obj _ _ I8;refine b2 (bT _ _ _ _ _ _ oN U5 mc x u _ aaU wH<|step x mc y4) λ_ VU ⟨U8,VV,VW,VX⟩=>?_;refine b2 (cA _ _ _ _ _ _ VU U8 VV _ VW VX) λb y5 ⟨VY,Np,Cq⟩=>?_;have again:∀{U0:St} {hs:aJ} {F2:List V} {s0:aR},aS (gx X N' scope cl (s2.heap.push { cls:=.type "list",data:=.seq ([]:List mt).B}).objs.size { s2 with heap:=s2.heap.push { cls:=.type "list",data:=.seq ([]:List mt).B}} (c4 H1 s2.L (.ao [])) fp) ([]++zL fp oN.Q) U0 hs s0->wQ F2 U0 hs ->
     ∃m,m<n/\∃i acc U' aj,aS (gx X N' scope cl (s2.heap.push { cls:=.type "list",data:=.seq ([]:List mt).B}).objs.size { s2 with heap:=s2.heap.push { cls:=.type "list",data:=.seq ([]:List mt).B}} (c4 H1 s2.L<|.ao []) fp) [] U' aj s0/\aQ i s0.Q/\(∀b∈fp,aj b=C)/\W i m acc U' aj:=λ{U0 hs F2 s0} f6 n0=>by
    obtain⟨gf,hm,aaV⟩:=dJ F2 U0 hs n0;refine⟨gf,hm,i+1,F2,U0,hs,f6.GA,T.keep _ _ _ I8 λb aq o e=>(f6.pin (b,o)<|l1 _<|l1 _<|Ds aq e).1,λb aq=>?_,aaV⟩;obtain⟨o,e,d⟩:=T.obj _ _ I8 b aq;exact(f6.pin (b,o)<|l1 _<|l1 _<|Ds aq e).2.1
   cases b with
   |false =>
    rw[Y3 Z0]at Cq |-;exact again Np Cq
   |true =>
    rw[Y2 rfl]at Cq |-;refine b2 (he _ _ _ _ _ _ y5 U8 VY _ Np Cq) λNq z4 ⟨y,aaW,aaX,dW,mq,aaY,aaZ⟩=>?_;refine b2 (IV (X:=gx X N' scope cl _ _ _ fp) _ z4 U8 aaW (.ref s2.L) [y] (.ref s2.L) [Nq] (λ_ H=>wQ (acc++[y]) U8 H) aaX rfl (.cons dW .nil) ⟨_,acc,y,rfl,rfl,mq,aaY,aaZ⟩) λ_ Pf ⟨v11,anP,aa0,_,aa1⟩=>?_;exact again aa0 aa1
 exact codeAny_compStart_list loop<|T.self _ 0 _ _ _ Pe loop
def ajU(aT:X.calm=Y0)
  (aN:l0 X scope N' fo) (hi:oL X di iter ma) (bT:∀cl aN cD dI fp,pY ZS di g) (cA:∀cl aN cD dI fp,wO ZS ifs tt)
  (he:∀cl aN cD dI fp,d6 ZS elt te) (aP:autoParam (∀x,oE iter X.I x=pure x) sA) :
  d6 X Za (Gg ma fo g tt te):=by
 intro ae s O H Q I h;rw[eval_ListComp];exact Pc (use:=C) I h aT aN hi bT cA he aP λD aj ju aN HF ux _ q=>let ⟨m,hm⟩:=ux;⟨m,hm,λh' s9=>⟨.ref D,aj,HF h' s9,rfl,q⟩⟩
def ajV{i:Nat}(aT:X.calm=Y0)
  (dJ:X.N.Nodup) (gy:X.N[i]?=J y) (aK:X.env.scope.names.lookup y=J .local)
  (aN:l0 X scope N' fo) (hi:oL X di iter ma) (bT:∀cl aN cD dI fp,pY ZS di g) (cA:∀cl aN cD dI fp,wO ZS ifs tt)
  (he:∀cl aN cD dI fp,d6 ZS elt te)
  (z5:nA Za (J<|.Name y py) vW.line X.I=pure Y0) (aP:autoParam (∀x,oE iter X.I x=pure x) sA) :
  oK X (.Assign [.Name y py] Za vW) (LP (Gg ma fo g tt te)<|L7 i):=by
 intro ae s O H D I h;rw[exec_Assign_Name_used _ _ _ _ z5];refine a8<|Hq<|a8 ?_;show bl _ X.A (do let _<-comprehension (.ListComp elt [⟨di,iter,ifs,0⟩] scope pos) scope X.I _ (newList []) Y1 (eval iter X.I) (J (nD (.Name y py) X.I))) _ _ s;refine a8 (hj (Pc (use:=J<|nD (.Name y py) X.I) (Qv:=λ_ s'=>oJ X ae D .next s') I h aT aN hi bT cA he aP λDa aj ju aN HF ux mP q=>?_) (λ_ s' a7=>bZ<|bZ a7) λ_ _ e=>e);obtain⟨m,hm⟩:=ux;have oM:aS X ae O aj ju:=HF ju.Q<|.refl ..;show bl _ X.A (nD (.Name y py) X.I<|.ref Da) _ _ _;refine wpAny_assign_Name<|Om oM dJ gy (.inl aK) (v:=.ref Da) rfl (λoN lE cV=>?_)<|.inr aK;obtain⟨a,cV,ba⟩:=cV;have na:aN≠a:=by
  rcases ba with e|e
  ·rw[e];exact mP.2.1
  ·exact(mP.2.2.2.2.1 y a e).symm
 refine⟨m,hm.sameBut cV na,λh' s9=>⟨_,aj,?_,q⟩⟩;obtain⟨f0,f1,f2,el,f4,hT⟩:=mP;exact lE.turned (t':=oN.toks) (λb o aq e=>s9.extBut b o aq e) f0 f1 el f4 hT
section
variable {X:bI}{tw:Addr}
def cn{α β:Type}{o:Option α}{f:α->Option β}{b:β}(h:o.bind f=J b):∃a,o=J a/\f a=J b:=by
 cases o with
 |none=>exists h
 |some a=>exact⟨a,rfl,h⟩
def dw{α β:Type}{o:Option α}{f:α->β}{b:β}(h:o.map f=J b):∃a,o=J a/\f a=b:=by
 cases o with
 |none=>exists h
 |some a=>exact⟨a,rfl,Option.some.inj h⟩
def I9{n n':Nat}(h:aH g a S n=J (t,m,n')):∃aA,a S n=J (aA,n')/\g n' aA=J (t,m):=by obtain⟨r,az,au⟩:=cn h;obtain⟨x,a6,bX⟩:=dw au;have q:=congrArg (λz:T×bo×Nat=>z.2.2) bX;have q:r.2=n':=q;subst q;have p:=congrArg (λz:T×bo×Nat=>(z.1,z.2.1)) bX;have p:x=(t,m):=p;subst p;exact⟨r.1,az,a6⟩
def xn{n n':Nat}(h:aa d a S n=J (l,n')):∃t m aM y6,d S n=J (t,m,aM)/\a S aM=J (y6,n')/\l=t::y6:=by obtain⟨r,az,au⟩:=cn h;obtain⟨x,a6,bX⟩:=dw au;have q:x.2=n':=congrArg Prod.snd bX;subst q;exact⟨_,_,_,x.1,az,a6,(congrArg Prod.fst bX).symm⟩
def Ja{n n':Nat}(h:ar S n=J (l,n')):l=[]/\n=n':=⟨(congrArg (λz:Option (List T×Nat)=>(z.getD ([],0)).1) h).symm,congrArg (λz:Option (List T×Nat)=>(z.getD ([],0)).2) h⟩
def DH{n n':Nat}(h:aH g (aa eP ar) S n=J (t,m,n')):∃t0 m0,eP S n=J (t0,m0,n')/\g n' [t0]=J (t,m):=by obtain⟨aA,af,e⟩:=I9 h;obtain⟨_,_,_,_,f0,ak,rfl⟩:=xn af;obtain⟨rfl,rfl⟩:=Ja ak;exact⟨_,_,f0,e⟩
def Jb{n n':Nat}(h:aH g (aa eP<|aa d7 ar) S n=J (t,m,n')):∃t0 m0 n0 t1 cS,eP S n=J (t0,m0,n0)/\d7 S n0=J (t1,cS,n')/\g n' [t0,t1]=J (t,m):=by obtain⟨aA,af,e⟩:=I9 h;obtain⟨_,_,_,_,f0,ak,rfl⟩:=xn af;obtain⟨_,_,_,_,f1,bc,rfl⟩:=xn ak;obtain⟨rfl,rfl⟩:=Ja bc;exact⟨_,_,_,_,_,f0,f1,e⟩
def ajW{n n':Nat}(h:aH g (aa eP<|aa d7<|aa fy ar) S n=J (t,m,n')):∃t0 m0 n0 t1 cS aM eH gu,eP S n=J (t0,m0,n0)/\d7 S n0=J (t1,cS,aM)/\fy S aM=J (eH,gu,n')/\g n' [t0,t1,eH]=J (t,m):=by obtain⟨aA,af,e⟩:=I9 h;obtain⟨_,_,_,_,f0,ak,rfl⟩:=xn af;obtain⟨_,_,_,_,f1,bc,rfl⟩:=xn ak;obtain⟨_,_,_,_,f2,cL,rfl⟩:=xn bc;obtain⟨rfl,rfl⟩:=Ja cL;exact⟨_,_,_,_,_,_,_,_,f0,f1,f2,e⟩
def bF.run{e:Expr}{d:bM}(h:bF X tw e d){B:aJ}{S:bE}{n:Nat}{t:T}{m:bo}{n':Nat}(hd:d S n=J (t,m,n')){ae:List Z1}{s:aR}{O:St}{H:aJ}(I:aS X ae O H s)(R:dr X.K B tw S n O H) :
  bl Z2 X.A (eval e X.I) (λu s'=>∃v aj,aS X ae O aj s'/\cW v u/\dn tw H aj/\dr X.K B tw S n' O aj/\Val X.K B tw H aj t m v) X.cv s :=
 b2 (h B S n t m n' hd ae s O H (λv aj=>dn tw H aj/\df tw n' aj/\Val X.K B tw H aj t m v) I ⟨R,λv aj a b c=>⟨a,b,c⟩⟩) λu s' ⟨v,aj,eG,r,a,b,c⟩=>⟨v,aj,eG,r,a,R.mono a b,c⟩
def nJ.run{es:List Expr}{d:gg}(h:nJ X tw es d){B:aJ}{S:bE}{n:Nat}{aA:List T}{n':Nat}(hd:d S n=J (aA,n'))(pos:Pos){ae:List Z1}{s:aR}{O:St}{H:aJ}(I:aS X ae O H s)(R:dr X.K B tw S n O H) :
  bl Z2 X.A (sm<|ff pos<|b4 es X.I) (λus s'=>∃ah aj,aS X ae O aj s'/\cG ah us/\dn tw H aj/\dr X.K B tw S n' O aj/\r0 X.K tw aj aA ah) X.cv s :=
 b2 (h B S n aA n' hd pos ae s O H (λah aj=>dn tw H aj/\df tw n' aj/\r0 X.K tw aj aA ah) I ⟨R,λv aj a b c=>⟨a,b,c⟩⟩) λu s' ⟨v,aj,eG,r,a,b,c⟩=>⟨v,aj,eG,r,a,R.mono a b,c⟩
def xo{e:Expr}{d:bM}(h:bF X tw e d):bF X tw e<|aY d:=by
 intro B S n t m n' hd ae s O H Q I ⟨R,k⟩;obtain⟨⟨t0,m0,n0⟩,af,ak⟩:=cn hd;obtain⟨t1,bc,cL⟩:=dw ak;cases cL;refine b2 (h.run af I R) λu s' ⟨v,aj,eG,r,a,Cr,c⟩=>?_;have same:∀(q:t0=t),aI tw aj t0 v->f5 X ae O Q u s':=λq c=>⟨v,aj,eG,r,k v aj a Cr.aQ<|q▸c⟩
 cases m0 with
 |ag=>exact same (Option.some.inj bc) c
 |i1 =>
  have bc:(if hn t0 then C else J t0)=J t:=bc;split at bc
  ·cases bc
  ·rename_i b;exact same (Option.some.inj bc)<|eu.rep (by simpa using b) c
 |cZ =>
  have bc:(if hn t0 then C else J t0)=J t:=bc;split at bc
  ·cases bc
  ·rename_i b;exact same (Option.some.inj bc)<|eu.rep (by simpa using b) (let ⟨_,q4⟩:=R.la;eu.ext (v:=v) q4 Cr.ext c)
 |aE =>
  obtain⟨ad,rfl,bb,cK⟩:=c;obtain rfl:t0=t:=Option.some.inj bc;cases t0 with
  |ao xs =>
   obtain⟨ah,az,au⟩:=cK;obtain⟨o,cR⟩:=eG.freeze az<|.inl ⟨ah,rfl⟩;have na:ad≠tw:=R.aQ.tS bb;refine⟨_,_,cR,r,k _ _ (a.put bb) ?_ ?_⟩
   ·show c4 aj ad _ tw=_;rw[e0 na.symm];exact Cr.aQ
   ·show aI tw _ (.ao xs) _;rw[aI];exact⟨ad,o,ah,rfl,fB,bR.mono (eI.en az<|.inl ⟨ah,rfl⟩) _ _ au⟩
  |bk ay =>
   obtain⟨ah,az,au⟩:=cK;obtain⟨o,cR⟩:=eG.freeze az<|.inr ⟨ah,rfl⟩;have na:ad≠tw:=R.aQ.tS bb;refine⟨_,_,cR,r,k _ _ (a.put bb) ?_ ?_⟩
   ·show c4 aj ad _ tw=_;rw[e0 na.symm];exact Cr.aQ
   ·show aI tw _ (.bk ay) _;rw[aI];exact⟨ad,o,ah,rfl,fB,cJ.mono (eI.en az<|.inr ⟨ah,rfl⟩) _ _ au⟩
  |_=>exact cK.elim
def aii:nJ X tw [] ar:=by
 intro B S n aA n' hd pos ae s O H Q I ⟨R,k⟩
 exists hd
 exact zP pos ae s O H Q I<|k [] H (.refl _ _) R.aQ .nil
def ajX{e:Expr}{es:List Expr}{d:bM}{r:gg}(af:bF X tw e d)(ak:nJ X tw es r)(aP:autoParam ZN bu):nJ X tw (e::es)<|aa d r:=by
 intro B S n aA n' hd pos ae s O H Q I ⟨R,k⟩;obtain⟨⟨t,m,aM⟩,az,au⟩:=cn hd;obtain⟨⟨m1,bC⟩,a6,bX⟩:=dw au
 exists bX
 rw[aP];show bl _ _ (sm<|ZG::ff pos (b4 es X.I)) _ _ s;refine h9 (b2 (af.run az I R) λu s1 ⟨v,H1,bf,bA,a1,bt,b6⟩=>?_);refine b2 (ak.run a6 pos bf bt) λus s2 ⟨ah,bV,cR,cp,a2,dj,dA⟩=>?_;exact⟨v::ah,bV,cR,.cons bA cp,k _ _ (a1.trans a2) dj.aQ<|.cons (eu.ext bt.aQ a2<|b6.root bt R.aQ) dA⟩
def fR(X:bI)(tw:Addr)(f:List mt->Sem mt)(g:eB):Prop :=
 ∀(B:aJ) (ae:List Z1) (s:aR) (O:St) (H:aJ) (ah:List V) (us:List mt) (aA:List T) (n:Nat) (t:T) (m:bo) (Q:fg),aS X ae O H s->cG ah us->r0 X.K tw H aA ah->df tw n H->g n aA=J (t,m) ->
  (∀v aj,dn tw H aj->df tw n aj->Val X.K B tw H aj t m v->Q v aj)->bl Z2 X.A (f us) (f5 X ae O Q) X.cv s
def tc{x:Str}{id:String}{g:eB}{p pos:Pos}{e:Expr}{es:List Expr}{a:gg}(aF:fR X tw (λus=>call (.builtin id) us) g)(hm:X.a3 x=C)(bS:l6 x=J (.builtin id))(ba:nJ X tw (e::es) a)(bT:autoParam (fv X x) bu)(bz:autoParam (x ≠ "__name__") eL)
  (fP:autoParam ZH eL) (he:autoParam ZN bu) (eR:autoParam ((ff pos<|b4 es X.I).any (·.1)=Y1) bu):bF X tw ZV<|aH g a:=by
 intro B S n t m n' hd ae s O H Q I ⟨R,k⟩;obtain⟨⟨aA,aM⟩,az,au⟩:=cn hd;obtain⟨⟨t1,cS⟩,a6,bX⟩:=dw au;cases bX;refine l5<|k7 I bT hm bS ?_ bz fP;refine PyProof.Rows.callWith_builtin1 (b2 (ba.run az pos I R) λus s1 ⟨ah,H1,bf,bA,a1,bt,b6⟩=>?_) he eR;exact aF B ae s1 O H1 ah us aA _ _ _ Q bf bA b6 bt.aQ a6 λv aj a b c=>k v aj (a1.trans a) b<|c.back a1 bt.aQ
def DI{x:Str}{kW:String}{g:eB}{p pos:Pos}{e:Expr}{es:List Expr}{a:gg}(aF:fR X tw (λus=>call (.type kW) us) g)(hm:X.a3 x=C)(bS:l6 x=J (.type kW))(ba:nJ X tw (e::es) a)(bT:autoParam (fv X x) bu)(bz:autoParam (x ≠ "__name__") eL)
  (fP:autoParam ZH eL) (he:autoParam ZN bu) (eR:autoParam ((ff pos<|b4 es X.I).any (·.1)=Y1) bu):bF X tw ZV<|aH g a:=by
 intro B S n t m n' hd ae s O H Q I ⟨R,k⟩;obtain⟨⟨aA,aM⟩,az,au⟩:=cn hd;obtain⟨⟨t1,cS⟩,a6,bX⟩:=dw au;cases bX;refine l5<|k7 I bT hm bS ?_ bz fP;refine PyProof.Rows.callWith_type1 (b2 (ba.run az pos I R) λus s1 ⟨ah,H1,bf,bA,a1,bt,b6⟩=>?_) he eR;exact aF B ae s1 O H1 ah us aA _ _ _ Q bf bA b6 bt.aQ a6 λv aj a b c=>k v aj (a1.trans a) b<|c.back a1 bt.aQ
noncomputable def two(f:mt->mt->Sem mt):List mt->Sem mt
 |[a,b]=>f a b
 |_=>unsupported "two"
def DJ{a b:Expr}{dP db:bM}{f:mt->mt->Sem mt}{g:eB}(aF:fR X tw (two f) g)(ba:bF X tw a dP)(aq:bF X tw b db){B:aJ}{S:bE}{n:Nat}{t:T}{m:bo}{n':Nat}(hd:aH g (aa dP<|aa db ar) S n=J (t,m,n'))
  {ae:List Z1} {s:aR} {O:St} {H:aJ} {Q:fg} (I:aS X ae O H s) (R:dr X.K B tw S n O H) (k:∀v aj,dn tw H aj->df tw n' aj->Val X.K B tw H aj t m v->Q v aj) :
  bl Z2 X.A (eval a X.I) (λv dM=>bl Z2 X.A (eval b X.I) (λu gT=>bl Z2 X.A (f v u) (f5 X ae O Q) X.cv gT) X.cv dM) X.cv s:=by
 obtain⟨⟨aA,aM⟩,az,au⟩:=cn hd;obtain⟨⟨t1,cS⟩,a6,bX⟩:=dw au;cases bX;obtain⟨⟨ta,Nr,na⟩,f1,f2⟩:=cn az;obtain⟨⟨tb,nb⟩,el,f4⟩:=dw f2;cases f4;obtain⟨⟨aa2,lD,xp⟩,g1,g2⟩:=cn el;cases g2;refine b2 (ba.run f1 I R) λfW s1 ⟨v1,H1,bf,bA,a1,bt,b6⟩=>?_;refine b2 (aq.run g1 bf bt) λf7 s2 ⟨v2,bV,cR,cp,a2,dj,dA⟩=>?_;exact aF B ae s2 O bV [v1,v2] [fW,f7] [ta,aa2] _ _ _ Q cR (.cons bA<|.cons cp .nil) (.cons (eu.ext bt.aQ a2<|b6.root bt R.aQ)<|.cons (dA.root dj bt.aQ) .nil) dj.aQ a6
  λv aj x y z=>k v aj (a1.trans<|a2.trans x) y<|(z.back a2 dj.aQ).back a1 bt.aQ
def u2{a b:Expr}{dP db:bM}{op:Operator}{g:eB}{pos:Pos}(aF:fR X tw (two<|l8 op) g)(ba:bF X tw a dP)(aq:bF X tw b db):bF X tw (.BinOp a op b pos)<|aH g<|aa dP<|aa db ar:=by intro B S n t m n' hd ae s O H Q I ⟨R,k⟩;exact wpAny_BinOp<|DJ aF ba aq hd I R k
def Jc{a b:Expr}{dP db:bM}{op:CmpOp}{g:eB}{pos:Pos}(aF:fR X tw (two<|hp op) g)(ba:bF X tw a dP)(aq:bF X tw b db)(af:autoParam (wx op b=Y1) az8._auto_1) :
  bF X tw (.Compare a [op] [b] pos) (aH g<|aa dP<|aa db ar):=by
 intro B S n t m n' hd ae s O H Q I ⟨R,k⟩;exact wpAny_Compare1 (DJ aF ba aq hd I R k) af
def z6{a b:Expr}{dP db:bM}{g:eB}{pos:Pos}(aF:∀value slice,(∀v u,Cf slice Y1 v u=operate [v,u] (nC v u))->fR X tw (two λv u=>Ci value slice v u) g)(ba:bF X tw a dP)(aq:bF X tw b db)(aP:ajM b) :
  bF X tw (.Subscript a b pos) (aH g<|aa dP<|aa db ar):=by
 intro B S n t m n' hd ae s O H Q I ⟨R,k⟩;exact Cj<|DJ (aF a b aP) ba aq hd I R k
def wR(K:PySem.W.Frag)(B:aJ)(tw:Addr)(S:bE)(n:Nat)(b:Bool)(n':Nat):TT:=λO H Q=>dr K B tw S n O H/\∀aj,dn tw H aj->df tw n' aj->Q b aj
def ST(X:bI)(tw:Addr)(e:Expr)(d:fa):Prop:=∀B S n b n',d S n=J (b,n')->nF X e (wR X.K B tw S n b n')
def oQ(X:bI)(tw:Addr)(e:Expr)(d:fa):Prop:=∀B S n b n',d S n=J (b,n')->yX X e (wR X.K B tw S n b n')
def oQ.st{e:Expr}{d:fa}(h:oQ X tw e d):ST X tw e d:=λB S n b n' hd=>(h B S n b n' hd).pt
def ST.run{e:Expr}{d:fa}(h:ST X tw e d){B:aJ}{S:bE}{n:Nat}{b:Bool}{n':Nat}(hd:d S n=J (b,n')){ae:List Z1}{s:aR}{O:St}{H:aJ}(I:aS X ae O H s)(R:dr X.K B tw S n O H) :
  bl Z2 X.A (isTrue e X.I<|eval e X.I) (λc s'=>c=b/\∃aj,aS X ae O aj s'/\dn tw H aj/\dr X.K B tw S n' O aj) X.cv s :=
 b2 (h B S n b n' hd ae s O H (λc aj=>c=b/\dn tw H aj/\df tw n' aj) I ⟨R,λaj x y=>⟨rfl,x,y⟩⟩) λc s' ⟨aj,eG,e,x,y⟩=>⟨e,aj,eG,x,R.mono x y⟩
def Jd{t:T}{b:Bool}{v:V}{u:mt}{ae:List Z1}{s:aR}{O:St}{H:aJ}{Q:Bool->aR->Prop}(I:aS X ae O H s)(r:cW v u)(aU:eu X.K tw H t v)(h:jD t=J b)(k:∀s',aS X ae O H s'->Q b s') :
  bl Z2 X.A (truthy u) Q X.cv s:=by
 have go:TL X.K v H b->bl Z2 X.A (truthy u) Q X.cv s:=λq =>
  b2 (ah0 ae s O H v u (λc aj=>c=b/\aj=H) I r ⟨b,q,rfl,rfl⟩) λc s' ⟨aj,eG,az,au⟩=>by subst az au;exact k s' eG
 cases t with
 |br =>
  have aU:aI tw H .br v:=aU;rw[aI]at aU;subst aU;exists h;exact go rfl
 |aC c =>
  have aU:aI tw H (.aC c) v:=aU;rw[aI]at aU;subst aU;exists h;exact go rfl
 |int i =>
  have aU:aI tw H (.int i) v:=aU;rw[aI]at aU;subst aU;exists h;exact go rfl
 |aD xs =>
  have aU:aI tw H (.aD xs) v:=aU;rw[aI]at aU;obtain⟨a,ah,rfl,e,q⟩:=aU
  exists h
  refine go<|.inr<|.inl ⟨ah,e5.of e,?_⟩;have:=q.H
  exists xs<;>exists ah<;>first|rfl|(simp at this)
 |ao xs =>
  obtain⟨a,ah,rfl,e,q⟩:=aU
  exists h
  refine go<|.inl ⟨ah,e.gh,?_⟩;have:=q.H
  exists xs<;>exists ah<;>first|rfl|(simp at this)
 |bk ay =>
  obtain⟨a,ws,rfl,na,e,q⟩:=aU
  exists h
  exists r
  refine ajQ I e λs' eG=>?_;have:(!ws.isEmpty)=!ay.isEmpty:=by
   cases ay with
   |nil=>rw[cJ]at q;rw[q];rfl
   |cons p r=>obtain⟨k,x⟩:=p;rw[cJ]at q;obtain⟨_,_,e,_⟩:=q;rw[e];rfl
  rw[this];exact k s' eG
 |_=>exists h
def UN{e:Expr}{d:bM}(h:bF X tw e d)(he:autoParam (∀whole,isTrue e X.I whole=(do let v<-whole;standAt e.pos;oG [v] (truthy v))) sA):ST X tw e<|bK d:=by
 intro B S n b n' hd ae s O H Q I ⟨R,k⟩;obtain⟨⟨t,m,aM⟩,az,au⟩:=cn hd;obtain⟨gU,a6,bX⟩:=dw au
 exists bX
 exact isTrue_plain (b2 (h.run az I R) λu s1 ⟨v,H1,bf,bA,a1,bt,b6⟩=>Jd bf bA (b6.root bt R.aQ) a6 λs2 cR=>⟨H1,cR,k H1 a1 bt.aQ⟩)<|he _
def xq{a b:Expr}{dP db:bM}{op:CmpOp}{g:eB}{pos:Pos}(aF:fR X tw (two<|hp op) g)(ba:bF X tw a dP)(aq:bF X tw b db)(af:autoParam (wx op b=Y1) az8._auto_1) :
  ST X tw (.Compare a [op] [b] pos) (bK<|aH g<|aa dP<|aa db ar):=by
 intro B S n c n' hd ae s O H Q I ⟨R,k⟩;obtain⟨⟨t,m,aM⟩,az,au⟩:=cn hd;obtain⟨gU,a6,bX⟩:=dw au
 exists bX
 refine wpAny_isTrue_Compare1 (b2 (DJ aF ba aq az (Q:=λv aj=>dn tw H aj/\df tw aM aj/\Val X.K B tw H aj t m v) I R λv aj x y z=>⟨x,y,z⟩) λv s1 aX=>b2 aX λu s2 bb=>b2 bb λw s3 ⟨x,aj,eG,b5,gJ,gU,cH⟩=>?_) af;exact Jd eG b5 (cH.root (R.mono gJ gU) R.aQ) a6 λs4 ha=>⟨aj,ha,k aj gJ gU⟩
def UO{e:Expr}{d:fa}{pos:Pos}(h:ST X tw e d):ST X tw (.UnaryOp .Not e pos)<|et d:=by
 intro B S n b n' hd ae s O H Q I ⟨R,k⟩;obtain⟨⟨c,aM⟩,az,au⟩:=dw hd
 exists au
 exact ahP (h B S n c aM az) ae s O H Q I ⟨R,λaj x y=>k aj x y⟩
def ajY{e:Expr}{d:fa}{pos:Pos}(h:ST X tw e d):oQ X tw (.BoolOp .And [e] pos) d:=λB S n b n' hd=>ajD<|h B S n b n' hd
def UP{e:Expr}{d:fa}{pos:Pos}(h:ST X tw e d):oQ X tw (.BoolOp .Or [e] pos) d:=λB S n b n' hd=>ahO<|h B S n b n' hd
def aij{a b:Expr}{rest:List Expr}{dP db:fa}{pos:Pos}(af:ST X tw a dP)(ak:oQ X tw (.BoolOp .And (b::rest) pos) db):oQ X tw (.BoolOp .And (a::b::rest) pos)<|pC dP db:=by
 intro B S n c n' hd yY ae s O H Q I ⟨R,k⟩;obtain⟨⟨x,aM⟩,az,au⟩:=cn hd;refine isTrue_and (b2 (af.run az I R) λy s1 ⟨i7,H1,bf,a1,bt⟩=>?_);subst i7;cases y with
 |true =>
  have au:db S aM=J (c,n'):=au;exact ak B S aM c n' au yY ae s1 O H1 Q bf ⟨bt,λaj p q=>k aj (a1.trans p) q⟩
 |false =>
  have au:J (Y1,aM)=J (c,n'):=au
  exists au
  exact⟨H1,bf,k H1 a1 bt.aQ⟩
def Ul{a b:Expr}{rest:List Expr}{dP db:fa}{pos:Pos}(af:ST X tw a dP)(ak:oQ X tw (.BoolOp .Or (b::rest) pos) db):oQ X tw (.BoolOp .Or (a::b::rest) pos)<|hX dP db:=by
 intro B S n c n' hd yY ae s O H Q I ⟨R,k⟩;obtain⟨⟨x,aM⟩,az,au⟩:=cn hd;refine isTrue_or (b2 (af.run az I R) λy s1 ⟨i7,H1,bf,a1,bt⟩=>?_);subst i7;cases y with
 |false =>
  have au:db S aM=J (c,n'):=au;exact ak B S aM c n' au yY ae s1 O H1 Q bf ⟨bt,λaj p q=>k aj (a1.trans p) q⟩
 |true =>
  have au:J (Y0,aM)=J (c,n'):=au
  exists au
  exact⟨H1,bf,k H1 a1 bt.aQ⟩
def aik{e:Expr}{d:bM}{pos:Pos}(h:bF X tw e d):bF X tw (.UnaryOp .Not e pos)<|xd<|bK d:=by intro B S n t m n' hd ae s O H Q I ⟨R,k⟩;obtain⟨⟨b,aM⟩,az,au⟩:=dw hd;cases au;obtain⟨⟨t,m,bC⟩,a6,bX⟩:=cn az;obtain⟨gU,eQ,fN⟩:=dw bX;cases fN;refine UnaryOp_ (b2 (h.run a6 I R) λu s1 ⟨v,H1,bf,bA,a1,bt,b6⟩=>not_of (Jd bf bA (b6.root bt R.aQ) eQ λs2 cR=>?_));exact⟨.aC<|!b,H1,cR,rfl,k _ H1 a1 bt.aQ<|by show aI tw H1 (.aC<|!b) _;rw[aI]⟩
def agU{c a b:Expr}{gi:fa}{dP db:bM}{pos:Pos}(aT:ST X tw c gi)(ba:bF X tw a dP)(aq:bF X tw b db):bF X tw (.IfExp c a b pos)<|s6 gi dP db:=by
 intro B S n t m n' hd ae s O H Q I ⟨R,k⟩;obtain⟨⟨x,aM⟩,az,au⟩:=cn hd;refine alx (tA:=wR X.K B tw S n x aM) (ta:=λO H Q=>x=Y0/\q3 X.K B tw S aM t m n' O H Q) (tb:=λO H Q=>x=Y1/\q3 X.K B tw S aM t m n' O H Q) (aT B S n x aM az) ?_ ?_ ae s O H Q I ⟨R,λaj p q=>?_⟩
 ·rintro ae s O H Q I ⟨rfl,h⟩;exact ba B S aM t m n' au ae s O H Q I h
 ·rintro ae s O H Q I ⟨rfl,h⟩;exact aq B S aM t m n' au ae s O H Q I h
 ·have bt:=R.mono p q;cases x with
  |true=>exact FY ⟨rfl,bt,λv bV a b c=>k v bV (p.trans a) b<|c.back p q⟩
  |false=>exact FX ⟨rfl,bt,λv bV a b c=>k v bV (p.trans a) b<|c.back p q⟩
def ail{op}{e:Expr}{d:bM}{pos:Pos}(h:bF X tw e d):bF X tw (.BoolOp op [e] pos) d:=λB S n t m n' hd=>ahQ<|h B S n t m n' hd
def aim{a b:Expr}{rest:List Expr}{dP db:bM}{pos:Pos}(af:bF X tw a dP)(ak:bF X tw (.BoolOp .And (b::rest) pos) db):bF X tw (.BoolOp .And (a::b::rest) pos)<|rl dP db:=by
 intro B S n t m n' hd ae s O H Q I ⟨R,k⟩;obtain⟨⟨x,cS,aM⟩,az,au⟩:=cn hd;refine BoolOp_and (b2 (af.run az I R) λu s1 ⟨v,H1,bf,bA,a1,bt,b6⟩=>?_);have aU:=b6.root bt R.aQ;cases x with
 |aC c =>
  have aU:aI tw H1 (.aC c) v:=aU;rw[aI]at aU;subst aU;exists bA;refine qW ?_;cases c with
  |true =>
   have au:db S aM=J (t,m,n'):=au;exact ak B S aM t m n' au ae s1 O H1 Q bf ⟨bt,λv aj p q r=>k v aj (a1.trans p) q<|r.back a1 bt.aQ⟩
  |false =>
   have au:J (T.aC Y1,bo.ag,aM)=J (t,m,n'):=au
   exists au
   exact⟨.aC Y1,H1,bf,rfl,k _ H1 a1 bt.aQ<|by show aI tw H1 (.aC Y1) _;rw[aI]⟩
 |_=>exists au
def VZ(K:PySem.W.Frag)(B:aJ)(tw:Addr)(S:bE)(n:Nat)(aA:List T)(n':Nat):kS:=λO H Q =>
 dr K B tw S n O H/\∀ah aj,dn tw H aj->df tw n' aj->bR tw aj aA ah->Q ah aj
def sz(X:bI)(tw:Addr)(es:List Expr)(d:gg):Prop:=∀B S n aA n',d S n=J (aA,n')->nG X es (VZ X.K B tw S n aA n')
def nW:sz X tw [] ar:=by
 intro B S n aA n' hd pos ae s O H Q I ⟨R,k⟩
 exists hd
 exact zP pos ae s O H Q I<|k [] H (.refl _ _) R.aQ .nil
def g5{e:Expr}{es:List Expr}{d:bM}{r:gg}(af:bF X tw e d)(ak:sz X tw es r)(aP:autoParam ZN bu):sz X tw (e::es)<|aa (aY d) r:=by
 intro B S n aA n' hd pos ae s O H Q I ⟨R,k⟩;obtain⟨⟨t,m,aM⟩,az,au⟩:=cn hd;obtain⟨⟨m1,bC⟩,a6,bX⟩:=dw au
 exists bX
 obtain rfl:m=.ag:=by obtain⟨_,_,q⟩:=cn az;obtain⟨_,_,q⟩:=dw q;cases q;rfl
 rw[aP];show bl _ _ (sm<|ZG::ff pos (b4 es X.I)) _ _ s;refine h9 (b2 ((xo af).run az I R) λu s1 ⟨v,H1,bf,bA,a1,bt,b6⟩=>?_);refine b2 (ak B S aM m1 bC a6 pos ae s1 O H1 (λah bV=>dn tw H1 bV/\df tw bC bV/\bR tw bV m1 ah) bf ⟨bt,λah aj x y z=>⟨x,y,z⟩⟩) λus s2 ⟨ah,bV,cR,cp,a2,eH,dA⟩=>?_;exact⟨v::ah,bV,cR,.cons bA cp,k _ _ (a1.trans a2) eH<|.cons (aI.mono (a2.b0 bt.aQ) _ _ b6) dA⟩
def qq{k:Nat}(h:k<=bh):k<=dg:=bP h (by rw[mI];decide)
def DK{k:Nat}(h:k<bh):k<dg:=d4 h (by rw[mI];decide)
def Je{es:List Expr}{a:gg}{bH}{pos:Pos}(h:sz X tw es a):bF X tw (.Tuple es bH pos)<|cw a:=by
 intro B S n t m n' hd ae s O H Q I ⟨R,k⟩;obtain⟨⟨aA,aM⟩,az,au⟩:=cn hd;by_cases aq:aA.H<=bh
 ·rw[Y2 aq]at au
  exists au
  refine UL (h B S n aA aM az) ae s O H Q I ⟨R,λah aj x y z=>⟨by rw[<-z.H];exact qq aq,λp aF=>k _ _ (x.trans<|.new aF) (y.new aF) ?_⟩⟩;show aI tw _ (.aD aA) _;rw[aI];exact⟨p,ah,rfl,fB,bR.mono (.new aF) _ _ z⟩
 ·rw[Y3 aq]at au;exists au
def u5{es:List Expr}{a:gg}{pos:Pos}(h:sz X tw es a):bF X tw (.List es pos)<|dF a:=by
 intro B S n t m n' hd ae s O H Q I ⟨R,k⟩;obtain⟨⟨aA,aM⟩,az,au⟩:=cn hd;by_cases aq:aA.H<=bh
 ·rw[Y2 aq]at au
  exists au
  refine IM (h B S n aA aM az) ae s O H Q I ⟨R,λah aj x y z=>⟨by rw[<-z.H];exact qq aq,λp aF=>k _ _ (x.trans<|.new aF) (y.new aF) ?_⟩⟩;exact⟨p,rfl,x.free y aF,ah,fB,bR.mono (.new aF) _ _ z⟩
 ·rw[Y3 aq]at au;exists au
inductive Args (K:PySem.W.Frag) (tw:Addr) (H:aJ):List (T×Bool)->List V->Prop
 |nil:Args K tw H [] []
 |cons {t:T} {b:Bool} {v:V} {aA:List<|T×Bool} {ah:List V}:(b=Y0->aI tw H t v)->eu K tw H t v->Args K tw H aA ah->Args K tw H ((t,b)::aA) (v::ah)
theorem Args.length{K:PySem.W.Frag}{H:aJ}:∀{aA:List (T×Bool)} {ah:List V},Args K tw H aA ah->aA.H=ah.H
 |_,_,.nil=>rfl
 |_,_,.cons _ _ b=>by rw[d8,d8,Args.length b]
def V0(K:PySem.W.Frag)(B:aJ)(tw:Addr)(S:bE)(n:Nat)(aA:List<|T×Bool)(n':Nat):kS:=λO H Q =>
 dr K B tw S n O H/\∀ah aj,dn tw H aj->df tw n' aj->Args K tw aj aA ah->Q ah aj
def SB(X:bI)(tw:Addr)(es:List Expr)(d:ix):Prop:=∀B S n aA n',d S n=J (aA,n')->nG X es (V0 X.K B tw S n aA n')
def UQ:SB X tw [] a9:=by
 intro B S n aA n' hd pos ae s O H Q I ⟨R,k⟩
 exists hd
 exact zP pos ae s O H Q I<|k [] H (.refl _ _) R.aQ .nil
noncomputable def DL:bo->bo
 |.aE=>.ag
 |.cZ=>.cZ
 |.i1=>.i1
 |.ag=>.ag
noncomputable def vX(d:bM):bM:=λS n=>(d S n).map λr=>(r.1,DL r.2.1,r.2.2)
def Jf{e:Expr}{d:bM}(h:bF X tw e d):bF X tw e<|vX d:=by
 intro B S n t m n' hd;obtain⟨⟨t0,m0,n0⟩,af,ak⟩:=dw hd;cases ak;cases m0 with
 |aE=>exact xo h B S n _ _ _ (by unfold aY;rw[af];rfl)
 |cZ=>exact h B S n _ _ _ af
 |i1=>exact h B S n _ _ _ af
 |ag=>exact h B S n _ _ _ af
def Pg{e:Expr}{es:List Expr}{d:bM}{r:ix}(af:bF X tw e d)(ak:SB X tw es r)(aP:autoParam ZN bu):SB X tw (e::es)<|ax d r:=by
 intro B S n aA n' hd pos ae s O H Q I ⟨R,k⟩;obtain⟨⟨t,m,aM⟩,az,au⟩:=cn hd;obtain⟨⟨m1,bC⟩,a6,bX⟩:=dw au
 exists bX
 rw[aP];show bl _ _ (sm<|ZG::ff pos (b4 es X.I)) _ _ s;have td:vX d S n=J (t,DL m,aM):=by unfold vX;rw[az];rfl
 refine h9 (b2 ((Jf af).run td I R) λu s1 ⟨v,H1,bf,bA,a1,bt,b6⟩=>?_);refine b2 (ak B S aM m1 bC a6 pos ae s1 O H1 (λah bV=>dn tw H1 bV/\df tw bC bV/\Args X.K tw bV m1 ah) bf ⟨bt,λah aj x y z=>⟨x,y,z⟩⟩) λus s2 ⟨ah,bV,cR,cp,a2,eH,dA⟩=>?_;refine⟨v::ah,bV,cR,.cons bA cp,k _ _ (a1.trans a2) eH<|.cons (λaq=>?_) (eu.ext bt.aQ a2<|b6.root bt R.aQ) dA⟩;have aU:eu X.K tw H1 t v:=b6.root bt R.aQ;cases m with
 |aE=>exact aI.mono (a2.b0 bt.aQ) _ _ b6
 |ag=>exact aI.mono (a2.b0 bt.aQ) _ _ b6
 |cZ=>exact aI.mono (a2.b0 bt.aQ) _ _ (aU.rep<|by simpa[flag]using aq)
 |i1=>exact aI.mono (a2.b0 bt.aQ) _ _ (aU.rep<|by simpa[flag]using aq)
def nX(K:PySem.W.Frag)(tw:Addr)(dT:Nat)(f:cY):kV:=λah H Q _=>ah.H=dT/\∃aA n t m n',Args K tw H aA ah/\df tw n H/\f aA n=J (t,m,n') /\
 ∀v aj,dn tw H aj->df tw n' aj->Val K H tw H aj t (eO m) v->Q v aj
def Val.base{K:PySem.W.Frag}{B uy:aJ}{hs H:aJ}{t:T}{m:Bool}{v:V}(h:Val K B tw hs H t (eO m) v):Val K uy tw hs H t (eO m) v:=by
 exists m<;>exact h
def ajZ{f:cY}{lv:Nat}{da:Addr}{fd:hB}{ps:List Str}{x:Str}{p pos:Pos}{e:Expr}{es:List Expr}{a:ix}{dT:Nat}(F:i0 X.R X.w X.K X.a3 X.V iA lv da fd ps<|nX X.K tw dT f)(aV:eC lv X.A)(hm:X.a3 x=J (.ref da))(aW:PySem.W.keepIn X.K (.ref da)=Y0)
  (aq:Binds X.K fd ps []) (ba:SB X tw (e::es) a) (bT:autoParam (fv X x) bu) (fP:autoParam ZH eL) (he:autoParam ZN bu)
  (eR:autoParam ((ff pos<|b4 es X.I).any (·.1)=Y1) bu):bF X tw ZV<|bB dT f a:=by
 intro B S n t m n' hd ae s O H Q I ⟨R,k⟩;obtain⟨⟨aA,aM⟩,az,au⟩:=cn hd;by_cases aB:aA.H=dT
 ·rw[Y2 aB]at au;obtain⟨⟨t1,cS,bC⟩,a6,bX⟩:=dw au;cases bX;refine ajI (E:=q2) (sp:=nX X.K tw dT f) F aV bT hm aW aq .nil Uk (ba B S n aA aM az) fP he eR ae s O H Q I ⟨R,λah aj x y z=>?_⟩;show nX X.K tw dT f (ah++[]) aj Q q2;rw[r6];exact⟨z.H▸aB,aA,aM,t1,cS,bC,z,y,a6,λv ed a b c=>k v ed (x.trans a) b<|c.base.back x y⟩
 ·rw[Y3 aB]at au;exists au
section
variable {K:PySem.W.Frag}{B:aJ}{S:bE}{n:Nat}{O:St}{H:aJ}{i j:Nat}{t t':T}{m:bo}{v:V}
def ho{α:Type}{l:List α}{i j:Nat}{x y:α}(h:(l.set i x)[j]?=J y):(j=i/\y=x/\i<l.H)\/(j≠i/\l[j]?=J y):=by
 rw[ys]at h;by_cases e:i=j
 ·subst e;rw[Y2 rfl]at h;split at h
  ·rename_i aB;exact .inl ⟨rfl,(Option.some.inj h).symm,aB⟩
  ·exists h
 ·rw[Y3 e]at h;exact .inr ⟨λz=>e z.symm,h⟩
def DM{α:Type}{l:List α}{i:Nat}{x:α}(h:i<l.H):(l.set i x)[i]?=J x:=by rw[ys,Y2 rfl,Y2 h]
def nY{α:Type}{l:List α}{i j:Nat}{x:α}(h:j≠i):(l.set i x)[j]?=l[j]?:=by rw[ys,Y3<|Ne.symm h]
def dr.pE(R:dr K B tw S n O H)(h:aI tw H t v):dr K B tw (S.set i<|some (t,.ag)) n (O.set i<|some v) H:=by
 refine⟨R.ext,R.aQ,R.la,by rw[r7,r7];exact R.len,λj t' e=>?_,λj t' e=>?_,λj t' e=>?_,λj t' e=>?_,λj k t1 eH a az au s1 s2=>?_⟩
 ·rcases ho e with⟨rfl,q,aB⟩|⟨ne,e⟩
  ·exists q;exact⟨v,DM<|R.len▸aB,h⟩
  ·obtain⟨w,af,ak⟩:=R.ag j t' e;exact⟨w,by rw[nY ne];exact af,ak⟩
 ·rcases ho e with⟨rfl,q,aB⟩|⟨ne,e⟩
  ·cases q
  ·obtain⟨w,af,ak⟩:=R.cZ j t' e;exact⟨w,by rw[nY ne];exact af,ak⟩
 ·rcases ho e with⟨rfl,q,aB⟩|⟨ne,e⟩
  ·cases q
  ·obtain⟨w,af,ak⟩:=R.aE j t' e;exact⟨w,by rw[nY ne];exact af,ak⟩
 ·rcases ho e with⟨rfl,q,aB⟩|⟨ne,e⟩
  ·cases q
  ·exact R.nV j t' e
 ·rcases ho az with⟨rfl,q,aB⟩|⟨aM,az⟩
  ·cases q
  ·rcases ho au with⟨rfl,q,aB⟩|⟨bC,au⟩
   ·cases q
   ·rw[nY aM]at s1;rw[nY bC]at s2;exact R.o7 j k t1 eH a az au s1 s2
def dr.TP(R:dr K B tw S n O H)(de:B a=C)(h:mn tw H a t)(hd:∀(j:Nat) (t':T),j≠i->S[j]?=J (J (t',.aE))->O[j]?≠J (J<|.ref a)) :
  dr K B tw (S.set i<|some (t,.aE)) n (O.set i<|some<|.ref a) H:=by
 refine⟨R.ext,R.aQ,R.la,by rw[r7,r7];exact R.len,λj t' e=>?_,λj t' e=>?_,λj t' e=>?_,λj t' e=>?_,λj k t1 eH b az au s1 s2=>?_⟩
 ·rcases ho e with⟨rfl,q,aB⟩|⟨ne,e⟩
  ·cases q
  ·obtain⟨w,af,ak⟩:=R.ag j t' e;exact⟨w,by rw[nY ne];exact af,ak⟩
 ·rcases ho e with⟨rfl,q,aB⟩|⟨ne,e⟩
  ·cases q
  ·obtain⟨w,af,ak⟩:=R.cZ j t' e;exact⟨w,by rw[nY ne];exact af,ak⟩
 ·rcases ho e with⟨rfl,q,aB⟩|⟨ne,e⟩
  ·exists q;exact⟨a,DM<|R.len▸aB,de,h⟩
  ·obtain⟨w,af,ak⟩:=R.aE j t' e;exact⟨w,by rw[nY ne];exact af,ak⟩
 ·rcases ho e with⟨rfl,q,aB⟩|⟨ne,e⟩
  ·cases q
  ·exact R.nV j t' e
 ·rcases ho az with⟨rfl,q,aB⟩|⟨aM,td⟩
  ·rw[DM<|R.len▸aB]at s1
   exists s1
   rcases ho au with⟨rfl,q,aB⟩|⟨bC,au⟩
   ·rfl
   ·rw[nY bC]at s2;exact absurd s2<|hd k eH bC au
  ·rw[nY aM]at s1;rcases ho au with⟨rfl,q,aB⟩|⟨bC,au⟩
   ·rw[DM<|R.len▸aB]at s2
    exists s2
    exact absurd s1<|hd j t1 aM td
   ·rw[nY bC]at s2;exact R.o7 j k t1 eH b td au s1 s2
def dr.drop(R:dr K B tw S n O H)(i:Nat):dr K B tw (S.set i C) n O H:=by
 have key:∀(j:Nat) (p:T×bo),(S.set i C)[j]?=J (J p)->S[j]?=J (J p):=λj p e=>by
  rcases ho e with⟨rfl,q,aB⟩|⟨ne,e⟩
  ·exists q
  ·exact e
 exact⟨R.ext,R.aQ,R.la,by rw[r7];exact R.len,λj t' e=>R.ag j t'<|key j _ e,λj t' e=>R.cZ j t'<|key j _ e,λj t' e=>R.aE j t'<|key j _ e,λj t' e=>R.nV j t'<|key j _ e,
  λj k t1 eH a az au s1 s2=>R.o7 j k t1 eH a (key j _ az) (key k _ au) s1 s2⟩
end
def Ph:hZ X tw [] e6:=by
 intro B S n f S' n' hd ae s O H D I ⟨R,k⟩
 exists hd
 exact ajE ae s O H D I<|k O H (.refl _) R
def DN{st:Stmt}{d:bw}(h:gW X tw st d):hZ X tw [st] d:=λB S n f S' n' hd=>Ov<|h B S n f S' n' hd
def DO{st:Stmt}{nP:List Stmt}{d e:bw}(af:gW X tw st d)(ak:hZ X tw nP e):hZ X tw (st::nP)<|bL d e:=by
 intro B S n f S' n' hd ae s O H D I ⟨R,k⟩;obtain⟨⟨f1,S1,aM⟩,az,au⟩:=cn hd;cases f1 with
 |bD =>
  have au:e S1 aM=J (f,S',n'):=au;exact uV (af B S n .bD S1 aM az) (ak B S1 aM f S' n' au) ae s O H D I ⟨R,λU' aj x y=>⟨y,k.b0 x⟩⟩
 |gr=>exists au;exact uV (af B S n .gr S1 aM az) Dn ae s O H D I ⟨R,k⟩
 |eD=>exists au;exact uV (af B S n .eD S1 aM az) Dn ae s O H D I ⟨R,k⟩
 |aU t m=>exists au;exact uV (af B S n (.aU t m) S1 aM az) Dn ae s O H D I ⟨R,k⟩
def alJ{st:Stmt}:gW X tw st jf:=by
 intro B S n f S' n' hd
 exists hd
def Um{c:Expr}{a b:List Stmt}{gi:fa}{dP db:bw}{pos:Pos}(aT:ST X tw c gi)(ba:hZ X tw a dP)(aq:hZ X tw b db):gW X tw (.If c a b pos)<|eF gi dP db:=by
 intro B S n f S' n' hd ae s O H D I ⟨R,k⟩;obtain⟨⟨x,aM⟩,az,au⟩:=cn hd;refine wpAny_If (b2 (aT.run az I R) λy s1 ⟨i7,H1,bf,a1,bt⟩=>?_);subst i7;cases y with
 |true=>exact ba B S aM f S' n' au ae s1 O H1 D bf ⟨bt,k.b0<|a1.b0 R.aQ⟩
 |false=>exact aq B S aM f S' n' au ae s1 O H1 D bf ⟨bt,k.b0<|a1.b0 R.aQ⟩
def Pj{e:Expr}{d:bM}{pos:Pos}(h:bF X tw e d)(aP:autoParam (nA e C pos.line X.I=pure Y1) bu):gW X tw (.Expr e pos)<|eS d:=by intro B S n f S' n' hd ae s O H D I ⟨R,k⟩;obtain⟨⟨t,m,aM⟩,az,au⟩:=dw hd;cases au;exact zI (h B S n t m aM az) aP ae s O H D I ⟨R,λv aj x y z=>k O aj (x.b0 R.aQ)<|R.mono x y⟩
def DP{e:Expr}{d:bM}{pos:Pos}(h:bF X tw e d):gW X tw (.Return (J e) pos)<|cT d:=by
 intro B S n f S' n' hd ae s O H D I ⟨R,k⟩;obtain⟨⟨t,m,aM⟩,az,au⟩:=cn hd;refine IC (h B S n t m aM az) ae s O H D I ⟨R,λv aj x y z=>?_⟩;cases m with
 |aE =>
  exists au
  exact k v aj (x.b0 R.aQ) (R.ext.trans x) y<|z.back R.ext R.aQ
 |ag =>
  exists au
  exact k v aj (x.b0 R.aQ) (R.ext.trans x) y z
 |_=>exists au
def aa3(i:Nat){x:Str}{pos pos':Pos}(dJ:autoParam (X.N[i]?=J x) bu)(bS:autoParam (qi X.I.Y x) az7._auto_1)(hd:autoParam ZH eL)
  (g0:autoParam ((x==("__classdict__" : Str))=Y1) eL):gW X tw (.Return (J<|.Name x pos') pos)<|s7 i:=by
 intro B S n f S' n' bp ae s O H D I ⟨R,k⟩;have fin:∃v,O[i]?=J (J v)/\D.aU v H:=by
  unfold s7 at bp;cases e:S[i]? with
  |none=>rw[e]at bp;exists bp
  |some o =>
   cases o with
   |none=>rw[e]at bp;exists bp
   |some p =>
    obtain⟨t,m⟩:=p;rw[e]at bp;cases m with
    |aE =>
     exists bp
     obtain⟨a,af,ak,bc⟩:=R.aE i t e;exact⟨_,af,k _ H (.refl _) R.ext R.aQ ⟨a,rfl,ak,bc⟩⟩
    |ag =>
     exists bp
     obtain⟨v,af,ak⟩:=R.ag i t e;exact⟨_,af,k _ H (.refl _) R.ext R.aQ ak⟩
    |cZ =>
     have bp:(if hn t then C else J (hF.aU t Y1,S,n))=J (f,S',n'):=bp;split at bp
     ·exists bp
     ·rename_i b
      exists bp
      obtain⟨v,af,ak⟩:=R.cZ i t e;exact⟨_,af,k _ H (.refl _) R.ext R.aQ (let ⟨_,q4⟩:=R.la;aI.mono (R.ext.b0 q4) _ _ (ak.rep<|by simpa using b))⟩
    |i1=>exists bp
 obtain⟨v,af,ak⟩:=fin;exact IC (uT dJ bS hd g0) ae s O H D I ⟨v,af,ak⟩
def Pk{K:PySem.W.Frag}{B:aJ}{S:bE}{n:Nat}{O:St}{H:aJ}{a:Addr}(R:dr K B tw S n O H)(h:H a=C):∀(j:Nat) (t':T),S[j]?=J (J (t',.aE))->O[j]?≠J (J<|.ref a):=λj t' e z=>by obtain⟨b,af,_,bc⟩:=R.aE j t' e;rw[z]at af;exists af;exact bc.some h
def dr.store{K:PySem.W.Frag}{B:aJ}{S S':bE}{n n':Nat}{O:St}{H aj:aJ}{i:Nat}{t:T}{m:bo}{v:V}(R:dr K B tw S n O H)(x:dn tw H aj)(y:df tw n' aj)(z:Val K B tw H aj t m v)
  (h:(match m with|.aE=>J (S.set i<|some (t,bo.aE))|.ag=>J (S.set i<|some (t,bo.ag))|_=>C)=J S'):dr K B tw S' n' (O.set i<|some v) aj:=by
 have bt:=R.mono x y;cases m with
 |aE =>
  exists h
  obtain⟨a,rfl,bb,cK⟩:=z;exact bt.TP (R.ext.free R.aQ bb) cK λj t' _ e z=>Pk R bb j t' e z
 |ag =>
  exists h
  exact bt.pE z
 |_=>exists h
def UR(i:Nat){x:Str}{e:Expr}{d:bM}{pos pos':Pos}(h:bF X tw e d)(dJ:X.N.Nodup)(hi:autoParam (X.N[i]?=J x) bu)(av:autoParam (Loc X.I.Y x) az4._auto_1)(aP:autoParam (nA e (J<|.Name x pos') pos.line X.I=pure Y1) bu)
  (hf:autoParam ZW pW):gW X tw (.Assign [.Name x pos'] e pos)<|dK i d:=by
 intro B S n f S' n' hd ae s O H D I ⟨R,k⟩;obtain⟨⟨t,m,aM⟩,az,au⟩:=cn hd;refine Dq dJ hi av (h B S n t m aM az) aP hf ae s O H D I ⟨R,λv aj x y z=>?_⟩;cases m with
 |aE=>exists au;exact k _ aj (x.b0 R.aQ)<|R.store x y z rfl
 |ag=>exists au;exact k _ aj (x.b0 R.aQ)<|R.store x y z rfl
 |_=>exists au
def aa4(i j:Nat){x y:Str}{pos pos' py:Pos}(dJ:X.N.Nodup)(jF:autoParam (i≠j) eL)(hi:autoParam (X.N[i]?=J x) bu)(av:autoParam (Loc X.I.Y x) az4._auto_1)(bU:autoParam (X.N[j]?=J y) bu)(bS:autoParam (qi X.I.Y y) az7._auto_1)
  (hd:autoParam ((y==("__debug__" : Str))=Y1) eL) (g0:autoParam ((y==("__classdict__" : Str))=Y1) eL) (aP:autoParam (nA (.Name y py) (J<|.Name x pos') pos.line X.I=pure Y1) bu)
  (hf:autoParam ZW pW):gW X tw (.Assign [.Name x pos'] (.Name y py) pos)<|rn i j:=by
 intro B S n f S' n' bp ae s O H D I ⟨R,k⟩;have fin:∃v,O[j]?=J (J v)/\D.bD (O.set i<|some v) H:=by
  unfold rn at bp;cases e:S[j]? with
  |none=>rw[e]at bp;exists bp
  |some o =>
   cases o with
   |none=>rw[e]at bp;exists bp
   |some p =>
    obtain⟨t,m⟩:=p;rw[e]at bp;cases m with
    |aE =>
     exists bp
     obtain⟨a,af,ak,bc⟩:=R.aE j t e;refine⟨_,af,k _ H (.refl _) ((R.drop j).TP ak bc λl t' _ az au=>?_)⟩;rcases ho az with⟨_,q,_⟩|⟨ne,az⟩
     ·exists q
     ·exact ne<|R.o7 l j t' t a az e au af
    |ag =>
     exists bp
     obtain⟨v,af,ak⟩:=R.ag j t e;exact⟨_,af,k _ H (.refl _)<|R.pE ak⟩
    |cZ =>
     have bp:(if hn t then C else J (hF.bD,S.set i<|some (t,bo.ag),n))=J (f,S',n'):=bp;split at bp
     ·exists bp
     ·rename_i b
      exists bp
      obtain⟨v,af,ak⟩:=R.cZ j t e;exact⟨_,af,k _ H (.refl _)<|R.pE (let ⟨_,q4⟩:=R.la;aI.mono (R.ext.b0 q4) _ _ (ak.rep<|by simpa using b))⟩
    |i1=>exists bp
 obtain⟨v,af,ak⟩:=fin;exact Dq dJ hi av (uT bU bS hd g0) aP hf ae s O H D I ⟨v,af,ak⟩
theorem Jg{i:Nat}{S:bE}{n:Nat}{f:hF}{S':bE}{n':Nat}{g:T->Option T}(h:(match S[i]? with
  |some (J (t,.aE))=>(g t).map λt'=>(hF.bD,S.set i<|some (t',bo.aE),n)
  |_=>C)=J (f,S',n')):∃t t',S[i]?=J (J (t,bo.aE))/\g t=J t'/\f=.bD/\S'=S.set i (J (t',bo.aE))/\n'=n:=by
 cases e:S[i]? with
 |none=>rw[e]at h;exists h
 |some o =>
  cases o with
  |none=>rw[e]at h;exists h
  |some p =>
   obtain⟨t,m⟩:=p;rw[e]at h;cases m with
   |aE =>
    obtain⟨t',af,ak⟩:=dw h;cases ak;exact⟨t,t',rfl,af,rfl,rfl,rfl⟩
   |_=>exists h
def z7{n:Nat}{n':Nat}(e:aY d S n=J (t,m,n')):m=.ag:=by obtain⟨_,_,q⟩:=cn e;obtain⟨_,_,q⟩:=dw q;cases q;rfl
def mn.other(h:mn tw H b t)(b0:eI H<|c4 H a o)(nb:b≠a):mn tw (c4 H a o) b t:=by
 cases t with
 |ao xs=>obtain⟨ah,cN,dD⟩:=h;exact⟨ah,by rw[e0 nb];exact cN,bR.mono b0 _ _ dD⟩
 |bk ay=>obtain⟨ah,cN,dD⟩:=h;exact⟨ah,by rw[e0 nb];exact cN,cJ.mono b0 _ _ dD⟩
 |_=>exact h.elim
def dr.write{K:PySem.W.Frag}{B:aJ}{S:bE}{n:Nat}{O:St}{H:aJ}{i:Nat}{t t':T}{a:Addr}{o:jV}(R:dr K B tw S n O H)(e:S[i]?=J (J (t,.aE)))(es:O[i]?=J (J<|.ref a))(h:eI H (c4 H a o)->mn tw (c4 H a o) a t') :
  dr K B tw (S.set i<|some (t',.aE)) n O (c4 H a o)/\eI H (c4 H a o):=by
 obtain⟨gJ,az,de,kX⟩:=R.aE i t e;rw[es]at az;exists az;have na:=R.v9 de
 have b0:eI H<|c4 H a o:=λb=>⟨λah q=>by rw[e0<|by rintro rfl;exists t<;>first|(exact(show False from kX).elim)|(obtain⟨_,z,_⟩:=kX;rw[q]at z;exists z)];exact q,
  λdh u q=>by
   rw[e0<|by rintro rfl;exists t<;>first|(exact(show False from kX).elim)|(obtain⟨_,z,_⟩:=kX;rw[q]at z;exists z)];exact q⟩
 have anr:i<S.H:=(kK.mp e).1;refine⟨⟨R.ext.put de,by show c4 H a o tw=_;rw[e0 na.symm];exact R.aQ,R.la,by rw[r7];exact R.len,λj t1 q=>?_,λj t1 q=>?_,λj t1 q=>?_,λj t1 q=>?_,λj k t1 eH b aX bb s1 s2=>?_⟩,b0⟩
 ·rcases ho q with⟨_,z,_⟩|⟨ne,q⟩
  ·cases z
  ·obtain⟨v,af,ak⟩:=R.ag j t1 q;exact⟨v,af,aI.mono b0 _ _ ak⟩
 ·rcases ho q with⟨_,z,_⟩|⟨ne,q⟩
  ·cases z
  ·exact R.cZ j t1 q
 ·rcases ho q with⟨rfl,z,_⟩|⟨ne,q⟩
  ·exists z;exact⟨a,es,de,h b0⟩
  ·obtain⟨b,af,ak,bc⟩:=R.aE j t1 q;exact⟨b,af,ak,bc.other b0<|by rintro rfl;exact ne<|R.o7 j i t1 t b q e af es⟩
 ·rcases ho q with⟨_,z,_⟩|⟨ne,q⟩
  ·cases z
  ·exact R.nV j t1 q
 ·have back:∀(l:Nat) (t0:T),(S.set i<|some (t',bo.aE))[l]?=J (J (t0,bo.aE))->∃aa5,S[l]?=J (J (aa5,bo.aE)):=λl t0 z=>by
   rcases ho z with⟨rfl,_,_⟩|⟨_,z⟩
   ·exact⟨t,e⟩
   ·exact⟨t0,z⟩
  obtain⟨fW,cN⟩:=back j t1 aX;obtain⟨f7,dD⟩:=back k eH bb;exact R.o7 j k fW f7 b cN dD s1 s2
def agV:LN:=λo i v H Q=>Uh o i v H Q\/∃a aj,o=.ref a/\Bw H a i v aj/\Q aj
def alK(b7:X.A.units+1<ir):LO X agV:=by
 intro ae s O H o i v jW iv u Q I Co wJ bq h;rcases h with h|⟨a,aj,rfl,g,q⟩
 ·exact set_list ae s O H o i v jW iv u Q I Co wJ bq h
 ·exists Co
  exact aaA b7 I g wJ bq λs' eG=>⟨aj,eG,q⟩
theorem cJ.length:∀{ay:List (Key×T)} {ws:List (Key×V)},cJ tw H ay ws->ay.H=ws.H
 |[],_,r=>by rw[cJ]at r;rw[r];rfl
 |(k,x)::xs,_,r=>by rw[cJ]at r;obtain⟨v,w,rfl,p,q⟩:=r;rw[d8,d8,cJ.length q]
def xr(a:aI tw H x v)(b:cJ tw H xs ws):cJ tw H ((k,x)::xs)<|(k,v)::ws:=by rw[cJ];exact⟨v,ws,rfl,a,b⟩
theorem cJ.at(k:Key):∀{ay:List (Key×T)} {ws:List (Key×V)},cJ tw H ay ws->(iV ay k=C/\qL ws k=C)\/∃t v,iV ay k=J t/\qL ws k=J v/\aI tw H t v
 |[],_,r=>by rw[cJ]at r;rw[r];exact .inl ⟨rfl,rfl⟩
 |(fH,x)::xs,_,r=>by
  rw[cJ]at r;obtain⟨v,w,rfl,p,q⟩:=r;by_cases e:fH=k
  ·subst e;exact .inr ⟨x,v,by simp[iV,ii],OT rfl,p⟩
  ·have az:iV ((fH,x)::xs) k=iV xs k:=by simp[iV,ii,e]
   rw[az,OU (show ¬ (fH,v).1=k from e)];exact cJ.at k q
theorem cJ.any(k:Key)(r:cJ tw H ay ws):(ay.any λc9=>decide (c9.1=k))=(ws.any λc9=>decide (c9.1=k)):=by
 induction ay generalizing ws with
 |nil=>rw[cJ]at r;rw[r];rfl
 |cons p xs a4 =>
  obtain⟨fH,x⟩:=p;rw[cJ]at r;obtain⟨v,w,rfl,p,q⟩:=r;rw[oz,oz,a4 q]
def cJ.put(k:Key)(av:aI tw H x v)(r:cJ tw H ay ws):cJ tw H (j5 ay k x)<|iG ws k v:=by
 unfold j5 iG;rw[<-r.any k];have mapped:∀{ay:List (Key×T)} {ws:List (Key×V)},cJ tw H ay ws->cJ tw H (ay.map λc9=>if c9.1=k then(c9.1,x) else c9) (ws.map λc9=>if c9.1=k then(c9.1,v) else c9):=by
  intro ay
  induction ay with
  |nil=>intro ws r;rw[cJ]at r;rw[r];rw[qR,qR,cJ]
  |cons p xs a4 =>
   intro ws r;obtain⟨fH,y⟩:=p;rw[cJ]at r;obtain⟨hS,w,rfl,p,q⟩:=r;rw[cU,cU];by_cases e:fH=k
   ·rw[Y2 e,Y2 e];exact xr av<|a4 q
   ·rw[Y3 e,Y3 e];exact xr p<|a4 q
 have snoc:∀{ay:List (Key×T)} {ws:List (Key×V)},cJ tw H ay ws->cJ tw H (ay++[(k,x)]) (ws++[(k,v)]):=by
  intro ay
  induction ay with
  |nil=>intro ws r;rw[cJ]at r;rw[r];exact xr av (by rw[cJ])
  |cons p xs a4 =>
   intro ws r;obtain⟨fH,y⟩:=p;rw[cJ]at r;obtain⟨hS,w,rfl,p,q⟩:=r;exact xr p<|a4 q
 split
 ·exact mapped r
 ·exact snoc r
def Jh{H:aJ}{t:T}{k:Key}{v:V}{K:PySem.W.Frag}(h:kc t=J k)(r:eu K tw H t v):v=eA k:=by
 cases t with
 |int i=>exists h;have r:aI tw H (.int i) v:=r;rw[aI]at r;exact r
 |str x=>exists h;have r:aI tw H (.str x) v:=r;rw[aI]at r;exact r
 |_=>exists h
def ain{n:Nat}{i:Int}(h0:0<=i)(af:i<n):sX n i=J i.M:=by unfold sX;rw[Y2 h0,Y2 af]
def alL(i:Nat){x:Str}{nK e:Expr}{me d:bM}{pos pos' e4:Pos}(b7:X.A.units+1<ir)(bS:bF X tw e d)(aW:bF X tw nK me)(dJ:autoParam (X.N[i]?=J x) bu)(vY:autoParam (qi X.I.Y x) az7._auto_1)(hd:autoParam ZH eL)
  (g0:autoParam ((x==("__classdict__" : Str))=Y1) eL)
  (ba:autoParam (∀v,nD (.Subscript (.Name x e4) nK pos') X.I v=(do
   let jW<-oG [v] (eval (.Name x e4) X.I)
   let iv<-oG [v,jW] (eval nK X.I)
   standAt pos'
   oG [v,jW,iv] (setItem jW iv v)
   release [v,jW,iv] [])) sA)
  (aP:autoParam (swapsWithSole [.Subscript (.Name x e4) nK pos'] e pos.line X.I=pure Y1) bu) (hw:autoParam (swappedStores [.Subscript (.Name x e4) nK pos'] e X.I=pure C) bu)
  (af:autoParam ((mJ [.Subscript (.Name x e4) nK pos'] X.I).map (·.2)=[nD (.Subscript (.Name x e4) nK pos') X.I]) bu):gW X tw (.Assign [.Subscript (.Name x e4) nK pos'] e pos)<|qo i qM me d:=by
 intro B S n f S' n' bp ae s O H D I ⟨R,k⟩;obtain⟨⟨hW,HG,aM⟩,az,au⟩:=cn bp;obtain⟨⟨bx,mk,bC⟩,a6,bX⟩:=cn au;obtain rfl:=z7 az;obtain⟨t,t',hG,dQ,rfl,rfl,rfl⟩:=Jg (g:=λt=>qM t bx hW) bX;obtain⟨a,es,de,_⟩:=R.aE i t hG;refine ahU ((xo bS) B S n hW .ag aM az) (ahT (uT dJ vY hd g0) (aW B S aM bx mk _ a6) (alK b7) ba) aP hw af ae s O H D I ⟨R,λv H1 bH fb cN=>?_⟩;have bt:=R.mono bH fb;refine⟨.ref a,es,bt,λc9 bV cf lH dD=>?_⟩;have dj:=bt.mono cf lH;have rk:=dD.root dj bt.aQ;have bq:aI tw bV hW v:=aI.mono (cf.b0 bt.aQ) _ _ cN;obtain⟨gJ,je,_,kX⟩:=dj.aE i t hG;rw[es]at je;exists je;have nZ:eI H bV:=(bH.trans cf).b0 R.aQ;cases t with
 |ao xs =>
  obtain⟨ah,af,ak⟩:=kX;cases bx with
  |int j =>
   have dQ:(if 0<=j/\j<xs.H then J (T.ao<|xs.set j.M hW) else C)=J t':=dQ;split at dQ
   ·rename_i bU
    exists dQ
    have rk:aI tw bV (.int j) c9:=rk;rw[aI]at rk;subst rk;have aB:=ak.H;refine .inl ⟨a,ah,j,j.M,rfl,rfl,af,ain bU.1 (by rw[<-aB];exact bU.2),?_⟩;obtain⟨W,b0⟩:=dj.write (t':=.ao<|xs.set j.M hW) (o:=.ao<|ah.set j.M v) hG es λb0=>⟨_,fB,bR.set (aI.mono b0 _ _ bq) _<|bR.mono b0 _ _ ak⟩
    exact k O _ (nZ.trans b0) W
   ·exists dQ
  |_=>exists dQ
 |bk ay =>
  obtain⟨ws,af,ak⟩:=kX;have dQ:(kc bx).bind (λk=>if ay.H<bh then J (T.bk<|j5 ay k hW) else C)=J t':=dQ;obtain⟨gX,aX,bb⟩:=cn dQ;split at bb
  ·rename_i aq
   exists bb
   have:=Jh aX rk;subst this;refine .inr ⟨a,_,rfl,Bw.k af (by rw[<-cJ.length ak];exact DK aq),?_⟩;obtain⟨W,b0⟩:=dj.write (t':=.bk<|j5 ay gX hW) (o:=.aw<|iG ws gX v) hG es λb0=>⟨_,fB,cJ.put gX (aI.mono b0 _ _ bq)<|cJ.mono b0 _ _ ak⟩
   exact k O _ (nZ.trans b0) W
  ·exists bb
 |_=>exact(show False from kX).elim
def aio(i:Nat){x:Str}{e:Expr}{d:bM}{pos e4 apos eb:Pos}(bS:bF X tw e d)(dJ:autoParam (X.N[i]?=J x) bu)(vY:autoParam (qi X.I.Y x) az7._auto_1)(hd:autoParam ZH eL)
  (g0:autoParam ((x==("__classdict__" : Str))=Y1) eL) (rY:autoParam (ue (.Name x e4) "append" X.env (eval (.Name x e4) X.I)=eval (.Name x e4) X.I) bu)
  (Bt:autoParam (((ff eb<|b4 [e] X.I).all (λx=>!x.1)&&(ui eb<|ug [] X.I).all (λx=>x.1.isSome)
   && decide (([e]:List Expr).H+([]:List pT).H+(if([]:List pT).isEmpty then 0 else 1)<30))=Y0) bu)
  (rZ:autoParam ((apos.endLine==eb.line)=Y0) bu) (aP:autoParam (b4 [e] X.I=ZG::b4 [] X.I) bu) (BE:autoParam ((ff eb<|b4 [] X.I).any (·.1)=Y1) bu) :
  gW X tw (.Expr (.Call (.Attribute (.Name x e4) "append" apos) [e] [] eb) pos) (hM i rS d):=by
 intro B S n f S' n' bp ae s O H D I ⟨R,k⟩;obtain⟨⟨hW,HG,aM⟩,az,au⟩:=cn bp;obtain rfl:=z7 az;obtain⟨t,t',hG,dQ,rfl,rfl,rfl⟩:=Jg au;obtain⟨a,es,de,kX⟩:=R.aE i t hG;have cx:sz X tw [e]<|aa (aY d) ar:=g5 bS nW aP;have a6:aa (aY d) ar S n=J ([hW],n'):=by unfold aa;rw[az];rfl
 refine zI (L8 PySem.F.plainAttrs_list PySem.F.slot_list_append PySem.F.type_list_append IV (uT dJ vY hd g0) (cx B S n [hW] _ a6) rY Bt rZ aP BE) (by rfl) ae s O H D I ?_;cases t with
 |ao xs =>
  obtain⟨ah,af,ak⟩:=kX;have dQ:(if xs.H<bh then J (T.ao<|xs++[hW]) else C)=J t':=dQ;split at dQ
  ·rename_i aq
   exists dQ
   refine⟨.ref a,es,.inl ⟨rfl,ah,gv.of af⟩,R,λws H1 bH fb cN=>?_⟩;have bt:=R.mono bH fb;obtain⟨v,w,rfl,bq,kq⟩:=hc cN;obtain rfl:=jg kq;have kr:=bH.to a _ af<|R.v9 de;have tf:=bR.mono (bH.b0 R.aQ) _ _ ak;refine⟨a,ah,v,rfl,rfl,kr,by rw[<-ak.H];exact DK aq,?_⟩;obtain⟨W,b0⟩:=bt.write (t':=.ao<|xs++[hW]) (o:=.ao<|ah++[v]) hG es λb0=>⟨_,fB,(bR.mono b0 _ _ tf).append (.cons (aI.mono b0 _ _ bq) .nil)⟩
   exact k O _ ((bH.b0 R.aQ).trans b0) W
  ·exists dQ
 |_=>exists dQ
section
open PySem.AutoSeq1
def aj0(l:Addr)(items:Array mt)(n:Nat)(b:Addr)(yl:Array mt)(bC:Nat)(c:String)(aT:c = "list" \/ c = "tuple")(oO:Option Addr)(cX:Array<|Option mt)(anQ:¬(!items.isEmpty&&Builtin.List.listTooLong (items.O+yl.O))=Y0)(xt:items.O<=dg)(iz:items.O+yl.O<=dg+1) :
  Meets (Builtin.«list.extend» ⟨[.ref l,.ref b],[]⟩) (λ_ R s=>s.heap.get? l=J { cls:=.type "list",dict:=C,data:=.seq items n,slots:=#[]}/\s.heap.get? b=J { cls:=.type c,dict:=oO,data:=.seq yl bC,slots:=cX}/\R (.ok<|.ret Value.none) { s with heap:=s.heap.update l (Obj.mapSeq λx=>x++yl),toks:=s.toks}):=by
 rcases aT with rfl|rfl
 ·exact .of_wp λprog w A R s h=>by
   obtain⟨aF,g,d,bx,os⟩:=s;obtain⟨aB,aq,h⟩:=h;have f1:=idx_int;have f2:=PySem.AutoSeq1.sub_tuple_tuple;have el:=PySem.AutoSeq1.sub_list_list;have f4:=PySem.AutoSeq1.sub_tuple_list;have hT:=PySem.AutoSeq1.sub_list_tuple;
   have qr:(items++yl).O<=dg+1:=by rw[M5];exact iz
   wp_walk using (ud aB rfl (hz:=xt) (_hz':=qr)),Ca aB,Ca aq;exact⟨_,rfl,h⟩
 ·exact .of_wp λprog w A R s h=>by
   obtain⟨aF,g,d,bx,os⟩:=s;obtain⟨aB,aq,h⟩:=h;have f1:=idx_int;have f2:=PySem.AutoSeq1.sub_tuple_tuple;have el:=PySem.AutoSeq1.sub_list_list;have f4:=PySem.AutoSeq1.sub_tuple_list;have hT:=PySem.AutoSeq1.sub_list_tuple;
   have qr:(items++yl).O<=dg+1:=by rw[M5];exact iz
   wp_walk using (ud aB rfl (hz:=xt) (_hz':=qr)),Ca aB,Ca aq;exact⟨_,rfl,h⟩
end
def TQ(K:PySem.W.Frag):V->List V->aJ->fg->Prop:=λx ah H Q=>∃l b xs zs,x=.ref l/\ah=[.ref b]/\H l=J (.ao xs)/\(gv K H b zs\/e5 K H b zs)/\xs.H+zs.H<=dg/\Q .br (c4 H l<|.ao<|xs++zs)
def aip:OR X "list.extend"<|TQ X.K:=by
 intro ae s O H x ah v us Q I cF bq h;obtain⟨l,b,xs,zs,rfl,rfl,mM,de,hz,q⟩:=h
 exists cF
 obtain⟨u,rfl,eV⟩:=bq.one
 exists eV
 obtain⟨z,a5,n,r,aB,e⟩:=I.LU mM;have key:∀(hN:List mt),cG zs hN->(∃(o:Obj) (c:String) (bC:Nat),s.heap.get? b=J o/\(c = "list" \/ c = "tuple")/\o.cls=.type c/\o.d=.seq hN.B bC) ->
   bl Z2 X.A (call (.builtin "list.extend") [.ref l,.ref b]) (f5 X ae O Q) X.cv s:=λhN cp aZ=>by
  have DQ:=cp.H;have hsz:a5.B.O+hN.B.O<=dg:=by rw[eT,eT];lia
  have L9:¬ (!a5.B.isEmpty&&Builtin.List.listTooLong (a5.B.O+hN.B.O))=Y0:=by rw[OS hsz,wt];exact nx
  obtain⟨⟨cl,oO,Nt,cX⟩,c,bC,au,aT,rfl,rfl⟩:=aZ;refine nz F.slot_list_extend ⟨_,e,rfl⟩ F.entry_list_extend (F.args_list_extend_2 _ _) (aj0 l a5.B n b hN.B bC c aT oO cX L9 (by rw[eT];exact l2 hsz)<|oA hsz) ⟨e,au,?_⟩;exact⟨.br,_,I.TN (its':=a5++hN) mM e Z7 (r.append cp) (by rw[gq];exact hz),rfl,q⟩
 rcases de with de|de
 ·obtain⟨hN,cp,⟨o,bC,au,dA,_,fy⟩,_⟩:=I.list de;exact key hN cp ⟨o,"list",bC,au,.inl rfl,dA,fy⟩
 ·obtain⟨hN,cp,⟨o,au,dA,bC,fy⟩,_⟩:=I.tuple de;exact key hN cp ⟨o,"tuple",bC,au,.inr rfl,dA,fy⟩
def US(i:Nat){x:Str}{e:Expr}{d:bM}{pos e4 apos eb:Pos}(bS:bF X tw e d)(dJ:autoParam (X.N[i]?=J x) bu)(vY:autoParam (qi X.I.Y x) az7._auto_1)(hd:autoParam ZH eL)
  (g0:autoParam ((x==("__classdict__" : Str))=Y1) eL) (rY:autoParam (ue (.Name x e4) "extend" X.env (eval (.Name x e4) X.I)=eval (.Name x e4) X.I) bu)
  (Bt:autoParam (((ff eb<|b4 [e] X.I).all (λx=>!x.1)&&(ui eb<|ug [] X.I).all (λx=>x.1.isSome)
   && decide (([e]:List Expr).H+([]:List pT).H+(if([]:List pT).isEmpty then 0 else 1)<30))=Y0) bu)
  (rZ:autoParam ((apos.endLine==eb.line)=Y0) bu) (aP:autoParam (b4 [e] X.I=ZG::b4 [] X.I) bu) (BE:autoParam ((ff eb<|b4 [] X.I).any (·.1)=Y1) bu) :
  gW X tw (.Expr (.Call (.Attribute (.Name x e4) "extend" apos) [e] [] eb) pos) (hM i jO d):=by
 intro B S n f S' n' bp ae s O H D I ⟨R,k⟩;obtain⟨⟨hW,HG,aM⟩,az,au⟩:=cn bp;obtain rfl:=z7 az;obtain⟨t,t',hG,dQ,rfl,rfl,rfl⟩:=Jg au;obtain⟨a,es,de,kX⟩:=R.aE i t hG;have cx:sz X tw [e]<|aa (aY d) ar:=g5 bS nW aP;have a6:aa (aY d) ar S n=J ([hW],n'):=by unfold aa;rw[az];rfl
 refine zI (L8 PySem.F.plainAttrs_list PySem.F.slot_list_extend PySem.F.type_list_extend aip (uT dJ vY hd g0) (cx B S n [hW] _ a6) rY Bt rZ aP BE) (by rfl) ae s O H D I ?_;cases t with
 |ao xs =>
  obtain⟨ah,af,ak⟩:=kX;refine⟨.ref a,es,.inl ⟨rfl,ah,gv.of af⟩,R,λws H1 bH fb cN=>?_⟩;have bt:=R.mono bH fb;obtain⟨v,w,rfl,bq,kq⟩:=hc cN;obtain rfl:=jg kq;have kr:=bH.to a _ af<|R.v9 de;have tf:=bR.mono (bH.b0 R.aQ) _ _ ak;have fin:∀(aO:List T) (b:Addr) (ws:List V),v=.ref b->bR tw H1 aO ws->(gv X.K H1 b ws\/e5 X.K H1 b ws)->(if xs.H+aO.H<=bh then J (T.ao<|xs++aO) else C)=J t'->TQ X.K (.ref a) [v] H1 (λ_ bV=>D.bD O bV):=λaO b ws ev rws gh dQ=>by
   split at dQ
   ·rename_i aq
    exists dQ
    subst ev;refine⟨a,b,ah,ws,rfl,rfl,kr,gh,by rw[<-ak.H,<-rws.H];exact qq aq,?_⟩;obtain⟨W,b0⟩:=bt.write (t':=.ao<|xs++aO) (o:=.ao<|ah++ws) hG es λb0=>⟨_,fB,(bR.mono b0 _ _ tf).append (bR.mono b0 _ _ rws)⟩
    exact k O _ ((bH.b0 R.aQ).trans b0) W
   ·exists dQ
  cases hW with
  |ao aO =>
   rw[aI]at bq;obtain⟨b,o,ws,ev,aq,rws⟩:=bq;exact fin aO b ws ev rws (.inl<|.inl<|.inr ⟨o,aq⟩) dQ
  |aD aO =>
   rw[aI]at bq;obtain⟨b,ws,ev,aq,rws⟩:=bq;exact fin aO b ws ev rws (.inr<|e5.of aq) dQ
  |_=>exists dQ
 |_=>exists dQ
def aj1(i:Nat){x:Str}{j:Nat}{pos e4 apos eb pc:Pos}(dJ:autoParam (X.N[i]?=J x) bu)(vY:autoParam (qi X.I.Y x) az7._auto_1)(hd:autoParam ZH eL)
  (g0:autoParam ((x==("__classdict__" : Str))=Y1) eL) (rY:autoParam (ue (.Name x e4) "append" X.env (eval (.Name x e4) X.I)=eval (.Name x e4) X.I) bu)
  (rZ:autoParam ((apos.endLine==eb.line)=Y0) bu) :
  gW X tw (.Expr (.Call (.Attribute (.Name x e4) "append" apos) [.Constant (.int 0) j pc] [] eb) pos) (DB i):=by
 intro B S n f S' n' bp ae s O H D I ⟨R,k⟩;have⟨m,hG,aq,V1,HH,y7⟩:∃m,S[i]?=J (J (T.dq,m))/\n<bh/\f=.bD/\S'=S/\n'=n+1:=by
  unfold DB at bp;cases e:S[i]? with
  |none=>rw[e]at bp;exists bp
  |some o =>
   cases o with
   |none=>rw[e]at bp;exists bp
   |some p =>
    obtain⟨t,m⟩:=p;rw[e]at bp;cases t with
    |dq =>
     have bp:(if n<bh then J (hF.bD,S,n+1) else C)=J (f,S',n'):=bp;split at bp
     ·rename_i aq;exists bp;exact⟨m,rfl,aq,rfl,rfl,rfl⟩
     ·exists bp
    |_=>exists bp
 subst V1 HH y7;have es:O[i]?=J (J<|.ref tw):=by
  cases m with
  |ag=>obtain⟨v,af,ak⟩:=R.ag i _ hG;rw[aI]at ak;rw[af,ak]
  |cZ=>obtain⟨v,af,ak⟩:=R.cZ i _ hG;have ak:aI tw B .dq v:=ak;rw[aI]at ak;rw[af,ak]
  |aE=>obtain⟨a,af,ak,bc⟩:=R.aE i _ hG;exact(show False from bc).elim
  |i1=>exact absurd hG<|R.nV i _
 refine zI (L8 PySem.F.plainAttrs_list PySem.F.slot_list_append PySem.F.type_list_append IV (uT dJ vY hd g0) (ajH Dm zP) rY (by rfl) rZ (by rfl)<|by rfl) (by rfl) ae s O H D I ?_;have aQ:=R.aQ;unfold df at aQ;refine⟨.ref tw,es,.inl ⟨rfl,_,gv.of aQ⟩,tw,_,.int 0,rfl,rfl,aQ,by rw[ou];exact DK aq,?_⟩;have az:List.replicate n (V.int 0)++[V.int 0]=List.replicate (n+1) (V.int 0):=by rw[MB]
 rw[az];have b0:eI H<|c4 H tw<|.ao<|List.replicate (n+1)<|V.int 0:=λb=>⟨λah q=>by rw[e0<|R.aQ.Mq q];exact q,λ_ _ q=>by rw[e0<|R.aQ.Gw q];exact q⟩
 refine k O _ b0<|R.mono ⟨λb u q nb=>by rw[e0 nb];exact q⟩ ?_;exact fB
def UT(i:Nat){st:Stmt}{d:bw}(h:gW X tw st d):gW X tw st<|fC i d:=by
 intro B S n f S' n' bp ae s O H D I ⟨R,k⟩;unfold fC at bp;cases e:S[i]? with
 |none=>rw[e]at bp;exact h B S n f S' n' bp ae s O H D I ⟨R,k⟩
 |some o =>
  cases o with
  |none=>rw[e]at bp;exact h B S n f S' n' bp ae s O H D I ⟨R,k⟩
  |some p =>
   obtain⟨t,m⟩:=p;rw[e]at bp;cases m with
   |aE =>
    have bp:d (S.set i<|some (t,bo.ag)) n=J (f,S',n'):=bp;obtain⟨a,es,de,kX⟩:=R.aE i t e;have na:=R.v9 de;have go:∀u,H a=J u->((∃xs,u=.ao xs)\/∃ay,u=.aw ay)->(∀o,aI tw (c4 H a<|.en o u) t<|.ref a)->bl Z2 X.A (exec st X.I) (oJ X ae D) X.cv s:=λu b7 Pl aV=>by
     obtain⟨o,cR⟩:=I.freeze b7 Pl;have b0:eI H<|c4 H a<|.en o u:=eI.en b7 Pl;refine h B _ n f S' n' bp ae s O _ D cR ⟨?_,k.b0 b0⟩;refine⟨R.ext.put de,by show c4 H a _ tw=_;rw[e0 na.symm];exact R.aQ,R.la,by rw[r7];exact R.len,λj t1 q=>?_,λj t1 q=>?_,λj t1 q=>?_,λj t1 q=>?_,λj k t1 eH b aX bb s1 s2=>?_⟩
     ·rcases ho q with⟨rfl,z,_⟩|⟨ne,q⟩
      ·exists z;exact⟨_,es,aV o⟩
      ·obtain⟨v,af,ak⟩:=R.ag j t1 q;exact⟨v,af,aI.mono b0 _ _ ak⟩
     ·rcases ho q with⟨_,z,_⟩|⟨ne,q⟩
      ·cases z
      ·exact R.cZ j t1 q
     ·rcases ho q with⟨rfl,z,_⟩|⟨ne,q⟩
      ·cases z
      ·obtain⟨b,af,ak,bc⟩:=R.aE j t1 q;exact⟨b,af,ak,bc.other b0<|by rintro rfl;exact ne<|R.o7 j i t1 t b q e af es⟩
     ·rcases ho q with⟨_,z,_⟩|⟨ne,q⟩
      ·cases z
      ·exact R.nV j t1 q
     ·rcases ho aX with⟨_,z,_⟩|⟨_,aX⟩
      ·cases z
      ·rcases ho bb with⟨_,z,_⟩|⟨_,bb⟩
       ·cases z
       ·exact R.o7 j k t1 eH b aX bb s1 s2
    cases t with
    |ao xs =>
     obtain⟨ah,af,ak⟩:=kX;exact go _ af (.inl ⟨ah,rfl⟩) λo=>by rw[aI];exact⟨a,o,ah,rfl,fB,bR.mono (eI.en af<|.inl ⟨ah,rfl⟩) _ _ ak⟩
    |bk ay =>
     obtain⟨ah,af,ak⟩:=kX;exact go _ af (.inr ⟨ah,rfl⟩) λo=>by rw[aI];exact⟨a,o,ah,rfl,fB,cJ.mono (eI.en af<|.inr ⟨ah,rfl⟩) _ _ ak⟩
    |_=>exact(show False from kX).elim
   |ag=>exact h B S n f S' n' bp ae s O H D I ⟨R,k⟩
   |cZ=>exact h B S n f S' n' bp ae s O H D I ⟨R,k⟩
   |i1=>exact h B S n f S' n' bp ae s O H D I ⟨R,k⟩
end
section
variable {X:bI}{tw:Addr}{di:Expr}
def qN(tw:Addr)(cO:kU)(H:aJ)(aA:List T):Prop:=∀(i:Nat),
 (∀t,aA[i]?=J t->cO.go i H/\∀x bV,cO.Dr i H x bV->dn tw H bV/\(∀n,df tw n H->df tw n bV)/\aI tw bV t x)/\(aA.H<=i->cO.stop i H)
def rt(X:bI)(tw:Addr)(di iter:Expr)(d:ib):Prop:=∀B S n aA n',d S n=J (aA,n')->oL X di iter (λO H R=>dr X.K B tw S n O H /\
 ∀cO aj,dn tw H aj->df tw n' aj->(∀ed qs,df tw qs ed->dn tw aj ed->qN tw cO ed aA)->R cO aj)
def z8(X:bI)(tw:Addr)(di iter:Expr)(d:ib):Prop:=∀B S n aA n',d S n=J (aA,n')->oL X di iter (λO H R=>dr X.K B tw S n O H /\
 ∀cO aj,dn tw H aj->df tw n' aj->(∀ed qs,df tw qs ed->eI aj ed->dn tw B ed->qN tw cO ed aA)->R cO aj)
def DR{ae:List Z1}{O:St}{H:aJ}{s:aR}{a:Addr}{ah:List V}{R:kU->aJ->Prop}(I:aS X ae O H s)(a7:gv X.K H a ah)(q:R (IF X.K a) H):bl Z2 X.A (l9<|.ref a) (sU X ae O di R) X.cv s:=by
 obtain⟨a5,bq,p,hz⟩:=I.list a7;refine B8 p.isList ?_;refine⟨s.L,[s.L],_,_,H,rfl,I.kept (t':=s.toks) λb o e=>ec _ e,aaa a _,⟨_,gB _ rfl,rfl,rfl⟩,λb aq=>?_,q⟩;have e:b=s.L:=by simpa using aq
 subst e;exact I.ya (cg _)<|I.b1.fresh<|cg _
def aiq{ae:List Z1}{O:St}{H:aJ}{s:aR}{a:Addr}{ah:List V}{R:kU->aJ->Prop}(I:aS X ae O H s)(a7:e5 X.K H a ah)(q:R (IG X.K a) H):bl Z2 X.A (l9<|.ref a) (sU X ae O di R) X.cv s:=by
 obtain⟨a5,bq,p,hz⟩:=I.tuple a7;refine Hi (show s.heap.IsTuple a a5.B from p) ?_;refine⟨s.L,[s.L],_,_,H,rfl,I.kept (t':=s.toks) λb o e=>ec _ e,aab a _,⟨_,gB _ rfl,rfl,rfl⟩,λb aq=>?_,q⟩;have e:b=s.L:=by simpa using aq
 subst e;exact I.ya (cg _)<|I.b1.fresh<|cg _
noncomputable def Ji(a:Addr)(o:Obj)(ws:List<|Key×V):kU :=
 ⟨λi H=>H a=J (.en o<|.aw ws)/\i<ws.H,λi H x aj=>aj=H/\∃k v,ws[i]?=J (k,v)/\x=eA k,λi H=>H a=J (.en o<|.aw ws)/\ws.H<=i⟩
def Jj{ep:Nat}(b1:gj P w H h)(e:H a=J (.en o<|.aw ws))(hd:o.d=.dict es ep) :
  ∃ah,fq ws ah/\h.DictAt (hH P w) a ah ep/\(a==qX)=Y1:=by
 obtain⟨af,_,bc,ah,cL,dh,je,sS,aX,bb,cK,fV⟩:=(show gO P w H h a (.en o<|.aw ws) from b1 a _ e)
 rw[af]at aX;exists aX;rw[hd]at cK;exists cK;exact⟨ah,cL,⟨o,es,af,bb,hd,fV⟩,bc⟩
def Jk(r:fq ws ah):∀{i:Nat} {k:Key} {v:V},ws[i]?=J (k,v)->∃u,ah[i]?=J (k,u):=by
 unfold fq at r
 induction r with
 |nil=>intro i k v e;simp at e
 |@cons p q ps ur h t a4 =>
  intro i k v e;cases i with
  |zero =>
   simp at e;subst e;refine⟨q.2,?_⟩;have:k=q.1:=h.1;rw[this];rfl
  |succ i=>obtain⟨u,b7⟩:=a4 (i:=i) (k:=k) (v:=v) (by simpa using e);exact⟨u,by simpa using b7⟩
def Jl(h:(hH P w).is k u=Y0):cW (eA k) u:=by
 rcases qh (show uR k u=Y0 from h) with⟨i,t,rfl,rfl⟩|⟨x,t,rfl,rfl⟩
 ·exact⟨t,rfl⟩
 ·exact⟨t,rfl⟩
def aa6{P:dx}{w:c3}{K:PySem.W.Frag}{di:Expr}(a it:Addr)(o:Obj)(ws:List<|Key×V)(es:Array DictEntry)(ep:Nat)(hd:o.d=.dict es ep):Turn P w K di (Ji a o ws) [it] it (λi h=>h.IsKeyIter it a i ws.H ep) where
 mem:=by simp
 obj:=λi h st b aq=>by
  have e:b=it:=by simpa using aq
  subst e;obtain⟨o,e,c,d⟩:=st;exact⟨o,e,λv z=>by rw[d]at z;exists z⟩
 keep:=λi h h' st k=>st.at λo e=>k it Z7 o e
 item:=by
  intro X e3 hw ia aT i ae s O H E I hf st bT;subst e3 hw ia;obtain⟨a7,av⟩:=bT;obtain⟨ah,bq,dd,_⟩:=Jj I.b1 a7 hd;have aB:ws.H=ah.H:=Paired.length bq;obtain⟨k,v,aW⟩:∃k v,ws[i]?=J (k,v):=⟨ws[i].1,ws[i].2,by simp[av]⟩
  obtain⟨u,b7⟩:=Jk bq aW;obtain⟨f0,f1,f2,el,f4,hT⟩:=hf it Z7;rw[aB]at st;refine wpAny_pyNext_dict_item st dd b7 λkey h' lV c1 cV=>?_;have bf:aS X ae O H { s with heap:=h'}:=I.turned (t':=s.toks) (λb o aq e=>(cV.2 b aq).trans e) f0 f1 el f4 hT;obtain⟨dh,e,c,d⟩:=id c1;exact⟨key,rfl,Ge (s:={ s with heap:=h'}) e c d Z0 ⟨eA k,H,bf,Jl lV,⟨rfl,k,v,aW,rfl⟩,by rw[aB];exact c1,λb aq=>(hf b aq).1⟩⟩
 done:=by intro X e3 hw ia aT i ae s O H E I hf st bT;subst e3 hw ia;obtain⟨a7,av⟩:=bT;obtain⟨ah,bq,dd,_⟩:=Jj I.b1 a7 hd;have aB:ws.H=ah.H:=Paired.length bq;obtain⟨f0,f1,f2,el,f4,hT⟩:=hf it Z7;rw[aB]at st;exact wpAny_pyNext_dict_end (I.ok.hd aT) st dd (GH<|bP (d1 aB.symm) av) λh' hD=>⟨rfl,I.turned (t':=s.toks) (λb o aq e=>hD b o aq e) f0 f1 el f4 hT⟩
 self:=λ_ _ _ _ _ st h=>wpAny_pyIter_keyiter st h
def aj2{ae:List Z1}{O:St}{H:aJ}{s:aR}{a:Addr}{o:Obj}{ws:List<|Key×V}{R:kU->aJ->Prop}(I:aS X ae O H s)(a7:H a=J (.en o<|.aw ws))(q:R (Ji a o ws) H):bl Z2 X.A (l9<|.ref a) (sU X ae O di R) X.cv s:=by
 obtain⟨af,_,bc,ah,cL,dh,es,ep,aX,bb,cK,fV⟩:=(show gO X.R X.w H s.Q a (.en o<|.aw ws) from I.b1 a _ a7)
 rw[af]at aX;exists aX;obtain⟨ah,bq,dd,_⟩:=Jj I.b1 a7 cK;have aB:ws.H=ah.H:=Paired.length bq;refine wpAny_pyIter_dict bc dd ?_;refine⟨s.L,[s.L],_,_,H,rfl,I.kept (t':=s.toks) λb o e=>ec _ e,aa6 a _ o ws es ep cK,⟨_,gB _ rfl,rfl,by rw[aB];rfl⟩,λb aq=>?_,q⟩;have e:b=s.L:=by simpa using aq
 subst e;exact I.ya (cg _)<|I.b1.fresh<|cg _
def DS{K:PySem.W.Frag}{H:aJ}{a:Addr}{ah:List V}{xs:List T}(aP:gv K H a ah)(r:bR tw H xs ah):qN tw (IF K a) H xs:=λi=>by refine⟨λt e=>?_,λaB=>⟨ah,aP,by rw[<-r.H];exact aB⟩⟩;obtain⟨v,af,ak⟩:=r.get e;refine⟨⟨ah,v,aP,af⟩,λx bV y=>?_⟩;obtain⟨rfl,y⟩:=y;have:=y ah aP;rw[af]at this;exists this;exact⟨.refl _ _,λ_ z=>z,ak⟩
def air{K:PySem.W.Frag}{H:aJ}{a:Addr}{ah:List V}{xs:List T}(aP:e5 K H a ah)(r:bR tw H xs ah):qN tw (IG K a) H xs:=λi=>by refine⟨λt e=>?_,λaB=>⟨ah,aP,by rw[<-r.H];exact aB⟩⟩;obtain⟨v,af,ak⟩:=r.get e;refine⟨⟨ah,v,aP,af⟩,λx bV y=>?_⟩;obtain⟨rfl,y⟩:=y;have:=y ah aP;rw[af]at this;exists this;exact⟨.refl _ _,λ_ z=>z,ak⟩
theorem DT:∀{ay:List (Key×T)} {ws:List (Key×V)} {i:Nat} {k:Key} {t:T},cJ tw H ay ws->ay[i]?=J (k,t)->∃v,ws[i]?=J (k,v)/\aI tw H t v
 |[],_,_,_,_,_,e=>by simp at e
 |(fH,x)::xs,_,0,k,t,r,e=>by rw[cJ]at r;obtain⟨v,w,rfl,p,q⟩:=r;simp at e;obtain⟨rfl,rfl⟩:=e;exact⟨v,rfl,p⟩
 |(fH,x)::xs,_,i+1,k,t,r,e=>by rw[cJ]at r;obtain⟨v,w,rfl,p,q⟩:=r;obtain⟨u,af,ak⟩:=DT (i:=i) (k:=k) (t:=t) q (by simpa using e);exact⟨u,by simpa using af,ak⟩
def Jm(k:Key):aI tw H (iH k)<|eA k:=by
 cases k with
 |inl i=>show aI tw H (.int i) (.int i);rw[aI]
 |inr x=>show aI tw H (.str x) (.str x);rw[aI]
def aj3(aP:H a=J (.en o<|.aw ws))(r:cJ tw H ay ws):qN tw (Ji a o ws) H (ay.map λc9=>iH c9.1):=λi=>by
 have aB:=cJ.length r;refine⟨λt e=>?_,λh=>⟨aP,by rw[<-aB];simpa using h⟩⟩;rw[ke]at e;cases q:ay[i]? with
 |none=>rw[q]at e;exists e
 |some p =>
  obtain⟨k,t'⟩:=p;rw[q]at e;have e:iH k=t:=Option.some.inj e;subst e;obtain⟨v,af,ak⟩:=DT r q;refine⟨⟨aP,(kK.mp af).1⟩,λx bV y=>?_⟩;obtain⟨rfl,k2,v2,fb,rfl⟩:=y;rw[af]at fb;exists fb;exact⟨.refl _ _,λ_ z=>z,Jm k⟩
def Pm(lo:Int)(m:Nat):qN tw (zK lo m) H ((List.range m).map λ(k:Nat)=>T.int<|lo+k):=λi=>by
 refine⟨λt e=>?_,λh=>by show m<=i;simpa using h⟩;rw[ke]at e;cases q:(List.range m)[i]? with
 |none=>rw[q]at e;exists e
 |some j =>
  rw[q]at e;have e:T.int (lo+j)=t:=Option.some.inj e;subst e;obtain⟨hi,bU⟩:=kK.mp q;rw[List.getElem_range]at bU;subst bU;rw[tV]at hi;refine⟨hi,λx bV y=>?_⟩;obtain⟨rfl,rfl⟩:=y;exact⟨.refl _ _,λ_ z=>z,by rw[aI]⟩
def Pn{ae:List Z1}{O:St}{H:aJ}{s:aR}{t:T}{m:bo}{xs:List T}{v:V}{u:mt}{R:kU->aJ->Prop}(I:aS X ae O H s)(bq:cW v u)(r:aI tw H t v)(h:walked t m=J xs)
  (k:∀cO,(∀ed,eI H ed->qN tw cO ed xs)->R cO H):bl Z2 X.A (l9 u) (sU X ae O di R) X.cv s:=by
 cases t with
 |ao aO =>
  exists h
  rw[aI]at r;obtain⟨a,o,ah,rfl,e,q⟩:=r
  exists bq
  exact DR I (.inl<|.inr ⟨o,e⟩) (k _ λed b0=>DS (.inl<|.inr ⟨o,(b0 a).2 _ _ e⟩)<|bR.mono b0 _ _ q)
 |aD aO =>
  exists h
  rw[aI]at r;obtain⟨a,ah,rfl,e,q⟩:=r
  exists bq
  exact aiq I (e5.of e) (k _ λed b0=>air (e5.of<|(b0 a).1 _ e)<|bR.mono b0 _ _ q)
 |bk ay =>
  rw[aI]at r;obtain⟨a,o,ws,rfl,e,q⟩:=r
  exists bq
  have au:xs=ay.map λc9=>iH c9.1:=by exists m<;>first|(exists h;rfl)|exists h
  subst au;exact aj2 I e (k _ λed b0=>aj3 ((b0 a).2 _ _ e)<|cJ.mono b0 _ _ q)
 |_=>exists h
def aga{e:Expr}{d:bM}(h:bF X tw e d):rt X tw di e<|fJ d:=by
 intro B S n aA n' hd ae s O H R I ⟨jX,k⟩;obtain⟨⟨t,m,aM⟩,az,au⟩:=cn hd;obtain⟨xs,a6,bX⟩:=dw au
 exists bX
 have td:vX d S n=J (t,DL m,aM):=by unfold vX;rw[az];rfl
 refine b2 ((Jf h).run td I jX) λu s1 ⟨v,H1,bf,bA,a1,bt,b6⟩=>?_;have aU:=b6.root bt jX.aQ;have tO:aI tw H1 t v->bl Z2 X.A (l9 u) (sU X ae O di R) X.cv s1:=λiy =>
  Pn bf bA iy a6 λcO y8=>k cO H1 a1 bt.aQ λed qs DU ext=>y8 ed<|ext.b0 bt.aQ
 cases m with
 |aE=>exact tO b6
 |ag=>exact tO b6
 |cZ =>
  cases t with
  |ao aO =>
   exists a6
   obtain⟨a,ah,rfl,e,q⟩:=aU
   exists bA
   exact DR bf e.gh (k _ H1 a1 bt.aQ λed qs DU ext=>DS (e.ext ext).gh (bR.mono (ext.b0 bt.aQ) _ _ q))
  |aD aO=>exact tO aU
  |_=>exists a6
 |i1 =>
  cases t with
  |ao aO =>
   exists a6
   obtain⟨a,ah,rfl,e,q⟩:=aU
   exists bA
   exact DR bf e.gh (k _ H1 a1 bt.aQ λed qs DU ext=>DS (e.ext ext).gh (bR.mono (ext.b0 bt.aQ) _ _ q))
  |aD aO=>exact tO aU
  |_=>exists a6
def agb{e:Expr}{d:bM}(h:bF X tw e d):z8 X tw di e<|iI d:=by
 intro B S n aA n' hd ae s O H R I ⟨jX,k⟩;obtain⟨⟨t,m,aM⟩,az,au⟩:=cn hd;have td:vX d S n=J (t,DL m,aM):=by unfold vX;rw[az];rfl
 refine b2 ((Jf h).run td I jX) λu s1 ⟨v,H1,bf,bA,a1,bt,b6⟩=>?_;have aU:=b6.root bt jX.aQ;have tO:∀xs,walked t m=J xs->(xs,aM)=(aA,n')->aI tw H1 t v->bl Z2 X.A (l9 u) (sU X ae O di R) X.cv s1:=λxs a6 bX iy=>by
  exists bX
  exact Pn bf bA iy a6 λcO y8=>k cO H1 a1 bt.aQ λed qs DU b0 _=>y8 ed b0
 cases m with
 |aE=>obtain⟨xs,a6,bX⟩:=dw au;exact tO xs a6 bX b6
 |ag=>obtain⟨xs,a6,bX⟩:=dw au;exact tO xs a6 bX b6
 |cZ =>
  obtain⟨xs,a6,bX⟩:=dw au;cases t with
  |ao aO =>
   exists a6
   exists bX
   have b6:eu X.K tw B (.ao _) v:=b6;obtain⟨n0,q4⟩:=jX.la;obtain⟨a,ah,rfl,e,q⟩:=b6
   exists bA
   exact DR bf (e.ext bt.ext).gh (k _ H1 a1 bt.aQ λed qs DU b0 ext=>DS (e.ext ext).gh (bR.mono (ext.b0 q4) _ _ q))
  |aD aO=>exact tO xs a6 bX aU
  |_=>exists a6
 |i1=>exists au
def ru(X:bI)(tw:Addr)(di iter:Expr)(d:ib):Prop:=∀B S n aA n',d S n=J (aA,n')->oL X di iter (λO H R=>dr X.K B tw S n O H/\∀cO aj,dn tw H aj->df tw n' aj->(∀ed,qN tw cO ed aA)->R cO aj)
theorem ru.c{iter:Expr}{d:ib}(h:ru X tw di iter d):rt X tw di iter d:=λB S n aA n' hd ae s O H R I ⟨jX,k⟩=>h B S n aA n' hd ae s O H R I ⟨jX,λcO aj a b c=>k cO aj a b λed _ _ _=>c ed⟩
theorem ru.s{iter:Expr}{d:ib}(h:ru X tw di iter d):z8 X tw di iter d:=λB S n aA n' hd ae s O H R I ⟨jX,k⟩=>h B S n aA n' hd ae s O H R I ⟨jX,λcO aj a b c=>k cO aj a b λed _ _ _ _=>c ed⟩
def iW{K:PySem.W.Frag}{H:aJ}{i:Int}{v:V}(r:eu K tw H (.int i) v):v=.int i:=by have r:aI tw H (.int i) v:=r;rw[aI]at r;exact r
def aj4{pos p:Pos}{a:Expr}{dP:gg}(ba:nJ X tw [a] dP)(hm:X.a3 "range" = C)(bT:autoParam (fv X "range") bu)(aP:autoParam (b4 [a] X.I=[(Y1,eval a X.I)]) bu):ru X tw di (.Call (.Name "range" p) [a] [] pos)<|iB dP:=by
 intro B S n aA n' hd ae s O H R I ⟨jX,k⟩;obtain⟨⟨m1,aM⟩,az,au⟩:=cn hd;refine aad bT hm (ba B S n m1 aM az) aP ae s O H R I ⟨jX,λah aj x y z=>?_⟩;cases z with
 |nil=>exists au
 |@cons t v an3 mr cN dD =>
  cases dD with
  |nil =>
   cases t with
   |int j =>
    have au:(if-bh<=j/\j<=bh then J (il 0 j,aM) else C)=J (aA,n'):=au;split at au
    ·rename_i aq
     exists au
     have de:(bh:Int)=1000000:=rfl;refine⟨j,by rw[iW cN],(jn Z0 aq.1),(ny aq.2 Z0),k _ aj x y λed=>?_⟩;have:=Pm (tw:=tw) (H:=ed) 0 j.M
     unfold il;rw[Int.sub_zero];exact this
    ·exists au
   |_=>exists au
  |cons a b=>exists t<;>exists au
def alM{m1 aA:List T}{aM n':Nat}(au:(match m1 with|[.int i,.int j]=>if-bh<=i/\i<=bh /\ -bh<=j/\j<=bh then J (il i j,aM) else C|_=>C)=J (aA,n')):∃i j,m1=[.int i,.int j]/\(-bh<=i/\i<=bh /\ -bh<=j/\j<=bh)/\aA=il i j/\n'=aM:=by
 split at au
 ·rename_i i j;split at au
  ·rename_i aq;exists au;exact⟨i,j,rfl,aq,rfl,rfl⟩
  ·exists au
 ·exists au
def aj5{pos p:Pos}{a b:Expr}{dP:gg}(ba:nJ X tw [a,b] dP)(hm:X.a3 "range" = C)(bT:autoParam (fv X "range") bu)(aP:autoParam (b4 [a,b] X.I=[(Y1,eval a X.I),(Y1,eval b X.I)]) bu)(iz:autoParam (b4 [b] X.I=[(Y1,eval b X.I)]) bu) :
  ru X tw di (.Call (.Name "range" p) [a,b] [] pos) (Gf dP):=by
 intro B S n aA n' hd ae s O H R I ⟨jX,k⟩;obtain⟨⟨m1,aM⟩,az,au⟩:=cn hd;refine aae bT hm (ba B S n m1 aM az) aP iz ae s O H R I ⟨jX,λah aj x y z=>?_⟩;obtain⟨i,j,rfl,aq,rfl,rfl⟩:=alM au;have de:(bh:Int)=1000000:=rfl;cases z with
 |cons cN dD =>
  cases dD with
  |cons dD iN =>
   exists iN
   refine⟨i,j,by rw[iW cN,iW dD],⟨(jn Z0 aq.1),(ny aq.2.1 Z0),(jn Z0 aq.2.2.1),(ny aq.2.2.2 Z0)⟩,k _ aj x y λed=>?_⟩;exact Pm i (j-i).M
def tg(S':bE)(U':St)(S:bE)(O:St):Prop:=∀(j:Nat) (t:T) (a:Addr),S'[j]?=J (J (t,.aE))->U'[j]?=J (J<|.ref a)->∃(q5:Nat) (t':T),S[q5]?=J (J (t',.aE))/\O[q5]?=J (J<|.ref a)
def tg.pE(i:Nat)(t:T)(v:V):tg (S.set i<|some (t,.ag)) (O.set i<|some v) S O:=λj t' a e bN=>by
 rcases ho e with⟨_,z,_⟩|⟨ne,e⟩
 ·cases z
 ·rw[nY ne]at bN;exact⟨j,t',e,bN⟩
def tg.trans(a:tg S2 U2 S1 U1)(b:tg S1 U1 S O):tg S2 U2 S O:=λj t x e bN=>let ⟨q5,t',af,ak⟩:=a j t x e bN;b q5 t' x af ak
def Cs(X:bI)(tw:Addr)(put:T->bE->Option bE):pX:=λv O H Q=>∃B S n t S',dr X.K B tw S n O H/\aI tw H t v/\put t S=J S'/\∀U',dr X.K B tw S' n U' H->tg S' U' S O->Q U' H
def sC(X:bI)(tw:Addr)(di:Expr)(put:T->bE->Option bE):Prop:=pY X di<|Cs X tw put
def Po(i:Nat){x:Str}{pos:Pos}(dJ:X.N.Nodup)(hi:autoParam (X.N[i]?=J x) bu)(av:autoParam (Loc X.I.Y x) az4._auto_1)(hf:autoParam ZW pW):sC X tw (.Name x pos)<|cB i:=by
 intro ae s O H v u Q I r h;obtain⟨B,S,n,t,S',R,aU,aF,k⟩:=h
 exists aF
 exact ID dJ hi av hf ae s O H v u Q I r<|k _ (R.pE aU)<|.pE _ _ _
def ais(i j:Nat){x y:Str}{e4 py pos:Pos}{mb:Nat}(aT:X.calm=Y0)(dJ:X.N.Nodup)(hi:autoParam (X.N[i]?=J x) bu)(bU:autoParam (X.N[j]?=J y) bu)(av:autoParam (Loc X.I.Y x) az4._auto_1)(aK:autoParam (Loc X.I.Y y) az4._auto_1)
  (hf:autoParam ZW pW) (aa7:autoParam (X.fn y=Y0\/X.env.scope.names.lookup y=J .local) pW)
  (bz:autoParam ((mJ [.Name x e4,.Name y py] X.I).H=2) bu) (jB:autoParam ((mJ [.Name x e4,.Name y py] X.I).findIdx? (·.1)=C) bu)
  (af:autoParam ((mJ [.Name x e4,.Name y py] X.I).map (·.2)=nD (.Name x e4) X.I::(mJ [.Name y py] X.I).map (·.2)) bu) (ak:autoParam ((mJ [.Name y py] X.I).map (·.2)=nD (.Name y py) X.I::(mJ [] X.I).map (·.2)) bu):sC X tw (.Tuple [.Name x e4,.Name y py] mb pos)<|zV i j:=by
 intro ae s O H v u Q I r h;obtain⟨B,S,n,t,S',R,aU,aF,k⟩:=h;have⟨a,b,dQ,HH⟩:∃a b,t=.aD [a,b]/\S'=(S.set i (J (a,.ag))).set j (J (b,.ag)):=by
  match t,aF with
  |.aD [a,b],aF=>exists aF;exact⟨a,b,rfl,rfl⟩
 subst dQ HH;rw[aI]at aU;obtain⟨ad,ah,rfl,e,q⟩:=aU;obtain⟨fI,eU,rfl,V2,q⟩:=hc q;obtain⟨sD,fL,rfl,V3,q⟩:=hc q;obtain rfl:=jg q;refine ahS aT (Ow (ID dJ hi av hf) (Ow (ID dJ bU aK aa7) ajF ak) af) bz jB ae s O H _ u Q I r ⟨ad,[fI,sD],rfl,e5.of e,rfl,fI,[sD],rfl,sD,[],rfl,rfl,?_⟩;exact k _ ((R.pE V2).pE V3)<|(tg.pE _ _ _).trans (.pE _ _ _)
def ait{iter:Expr}{body:List Stmt}{d:ib}{put:T->bE->Option bE}{b:bw}{pos:Pos}(aT:X.calm=Y0)(av:X.cv=λ_ _=>False)(hi:z8 X tw di iter d)(bT:sC X tw di put)(aq:hZ X tw body b)(aP:autoParam (∀x,oE iter X.I x=pure x) sA) :
  gW X tw (.For di iter body [] pos) (iJ d put b):=by
 intro B S n f S' n' hd ae s O H D I ⟨R,k⟩;obtain⟨⟨aA,aM⟩,az,au⟩:=cn hd;have aF:yU Z2 X.A X.I X.cv:=by rw[av];exact PassesOwn.never
 have kJ:kp X body (λD O H=>∃S n f S' n',b S n=J (f,S',n')/\wN X.K B tw S n f S' n' D O H):=λae s O H D I h=>by obtain⟨S,n,f,S',n',e,h⟩:=h;exact aq B S n f S' n' e ae s O H D I h
 refine UJ aF aT (hi B S n aA aM az) bT kJ aP ae s O H D I ⟨R,λcO H1 bH fb it=>?_⟩;have bt:=R.mono bH fb;have k1:KF X.K B tw f S' n' D H1:=k.b0<|bH.b0 R.aQ;refine⟨λi m U' aj=>m=aA.H-i/\i<=aA.H/\eI H1 aj/\∃Si kY,dr X.K B tw Si kY U' aj/\fF put b (aA.drop i) Si kY=J (f,S',n'),⟨aA.H,by simp,gG _,.refl _,S,aM,bt,by simpa using au⟩,?_⟩;rintro i m U2 bV ⟨rfl,ks,nZ,S2,bC,dj,a6⟩;have at2:=it bV bC dj.aQ nZ dj.ext i;by_cases dC:i<aA.H
 ·right;obtain⟨go,uz⟩:=at2.1 aA[i] (by simp[dC]);have y9:aA.drop i=aA[i]::aA.drop (i+1):=pJ dC;rw[y9]at a6;obtain⟨S3,bX,eQ⟩:=cn (show(put aA[i] S2).bind _=_ from a6);obtain⟨⟨f4,S4,ht⟩,fN,gL⟩:=cn eQ;refine⟨go,λU' aj=>eI H1 aj/\dr X.K B tw S4 ht U' aj/\fF put b (aA.drop<|i+1) S4 ht=J (f,S',n'),λU' aj ⟨cN,dD,iN⟩=>⟨aA.H-(i+1),by lia,rfl,dC,cN,S4,ht,dD,iN⟩,λx aj uA=>?_⟩;obtain⟨cv,mQ,jw⟩:=uz x aj uA;have lO:eI H1 aj:=nZ.trans<|cv.b0 dj.aQ;refine⟨B,S2,bC,aA[i],S3,dj.mono cv<|mQ bC dj.aQ,jw,bX,λU3 mf _=>⟨S3,bC,f4,S4,ht,fN,mf,?_⟩⟩;cases f4 with
  |bD=>exact λU' ed cN dD=>⟨lO.trans cN,dD,gL⟩
  |eD=>exact λU' ed cN dD=>⟨lO.trans cN,dD,gL⟩
  |gr =>
   have gL:J (hF.bD,S4,ht)=J (f,S',n'):=gL
   exists gL
   exact λU' ed cN dD=>k1 U' ed (lO.trans cN) dD
  |aU t kj =>
   have gL:J (hF.aU t kj,S4,ht)=J (f,S',n'):=gL
   exists gL
   exact λv ed cN dD iN uB=>k1 v ed (lO.trans cN) dD iN uB
 ·left;have jG:aA.H<=i:=hR dC;refine⟨at2.2 jG,?_⟩;rw[wa jG]at a6;have a6:J (hF.bD,S2,bC)=J (f,S',n'):=a6
  exists a6
  exact k1 U2 bV nZ dj
def alN{c:Expr}{body:List Stmt}{gi:fa}{b:bw}{pos:Pos}(av:X.cv=λ_ _=>False)(aT:ST X tw c gi)(aq:hZ X tw body b):gW X tw (.While c body [] pos)<|DA gi b:=by
 intro B S n f S' n' hd ae s O H D I ⟨R,k⟩;have aF:yU Z2 X.A X.I X.cv:=by rw[av];exact PassesOwn.never
 have kJ:kp X body (λD O H=>∃S n f S' n',b S n=J (f,S',n')/\wN X.K B tw S n f S' n' D O H):=λae s O H D I h=>by obtain⟨S,n,f,S',n',e,h⟩:=h;exact aq B S n f S' n' e ae s O H D I h
 have agW:nF X c (λO H Q=>∃S n b n',gi S n=J (b,n')/\wR X.K B tw S n b n' O H Q):=λae s O H Q I h=>by obtain⟨S,n,b,n',e,h⟩:=h;exact aT B S n b n' e ae s O H Q I h
 refine alz aF agW kJ ae s O H D I ⟨λm U' aj=>eI H aj/\∃Si kY,dr X.K B tw Si kY U' aj/\iU gi b m Si kY=J (f,S',n'),⟨100000,.refl _,S,n,R,hd⟩,?_⟩;rintro m U2 bV ⟨nZ,S2,bC,dj,a6⟩;cases m with
 |zero=>exists a6
 |succ m =>
  obtain⟨⟨t,fU⟩,bX,eQ⟩:=cn (show(gi S2 bC).bind _=_ from a6);refine⟨S2,bC,t,fU,bX,dj,λee bY nL=>?_⟩;have mf:=dj.mono bY nL;have lO:eI H ee:=nZ.trans<|bY.b0 dj.aQ;cases t with
  |false =>
   have eQ:J (hF.bD,S2,fU)=J (f,S',n'):=eQ
   exists eQ
   exact FX<|k U2 ee lO mf
  |true =>
   obtain⟨⟨f4,S4,ht⟩,fN,gL⟩:=cn (show(b S2 fU).bind _=_ from eQ);refine FY ⟨λU' aj=>eI H aj/\dr X.K B tw S4 ht U' aj/\iU gi b m S4 ht=J (f,S',n'),λU' aj ⟨cN,dD,iN⟩=>⟨m,oC _,cN,S4,ht,dD,iN⟩,S2,fU,f4,S4,ht,fN,mf,?_⟩;cases f4 with
   |bD=>exact λU' ed cN dD=>⟨lO.trans cN,dD,gL⟩
   |eD=>exact λU' ed cN dD=>⟨lO.trans cN,dD,gL⟩
   |gr =>
    have gL:J (hF.bD,S4,ht)=J (f,S',n'):=gL
    exists gL
    exact λU' ed cN dD=>k U' ed (lO.trans cN) dD
   |aU t kj =>
    have gL:J (hF.aU t kj,S4,ht)=J (f,S',n'):=gL
    exists gL
    exact λv ed cN dD iN uB=>k v ed (lO.trans cN) dD iN uB
def th(X:bI)(tw:Addr)(ifs:List Expr)(d:fa):Prop:=∀B S n b n',d S n=J (b,n')->wO X ifs (wR X.K B tw S n b n')
def aj6:th X tw [] yes:=by
 intro B S n b n' hd ae s O H Q I ⟨R,k⟩
 exists hd
 exact aif ae s O H Q I<|k H (.refl _ _) R.aQ
def aj7{c:Expr}{d:fa}(h:ST X tw c d):th X tw [c] d:=λB S n b n' hd=>aih<|h B S n b n' hd
def xu{i:Nat}(h:(ck l S)[i]?=J (J p)):∃j,l[i]?=J (J j)/\S[j]?=J (J p):=by
 unfold ck at h;rw[ke]at h;cases e:l[i]? with
 |none=>rw[e]at h;exists h
 |some o =>
  rw[e]at h;cases o with
  |none=>exists h
  |some j =>
   refine⟨j,rfl,?_⟩;have h:(S[j]?).join=J p:=Option.some.inj h;cases q:S[j]? with
   |none=>rw[q]at h;exists h
   |some eM=>rw[q]at h;rw[show eM=J p from h]
def Jn{i j:Nat}(h:l[i]?=J (J j))(e:O[j]?=J (J v)):(tL l O)[i]?=J (J v):=by unfold tL;rw[ke,h];show J ((O[j]?).join)=_;rw[e];rfl
def dr.src{K:PySem.W.Frag}{B:aJ}{S:bE}{n:Nat}{O:St}{H:aJ}{l:List<|Option Nat}(R:dr K B tw S n O H)(inj:∀(i q6 j:Nat),l[i]?=J (J j)->l[q6]?=J (J j)->i=q6):dr K B tw (ck l S) n (tL l O) H:=by
 refine⟨R.ext,R.aQ,R.la,by unfold ck tL;rw[cP,cP],λi t e=>?_,λi t e=>?_,λi t e=>?_,λi t e=>?_,λi q6 t t' a e bN s s'=>?_⟩
 ·obtain⟨j,af,ak⟩:=xu e;obtain⟨v,aX,bb⟩:=R.ag j t ak;exact⟨v,Jn af aX,bb⟩
 ·obtain⟨j,af,ak⟩:=xu e;obtain⟨v,aX,bb⟩:=R.cZ j t ak;exact⟨v,Jn af aX,bb⟩
 ·obtain⟨j,af,ak⟩:=xu e;obtain⟨v,aX,bb⟩:=R.aE j t ak;exact⟨v,Jn af aX,bb⟩
 ·obtain⟨j,af,ak⟩:=xu e;exact R.nV j t ak
 ·obtain⟨j,af,ak⟩:=xu e;obtain⟨q5,kr,tf⟩:=xu bN;obtain⟨k,k1,k2⟩:=I6 s;obtain⟨fH,Pp,aa8⟩:=I6 s';rw[af]at k1;exists k1;rw[kr]at Pp;exists Pp;obtain rfl:=R.o7 j q5 t t' a ak tf k2 aa8;exact inj i q6 j af kr
def dr.anc{K:PySem.W.Frag}{B:aJ}{S:bE}{n:Nat}{O:St}{H:aJ}{D:Addr}{acc:List V}{o:jV}(R:dr K B tw S n O H)(gV:H D=J (.ao acc))(de:B D=C)(bW:∀(j:Nat) (t:T),S[j]?=J (J (t,.aE))->O[j]?≠J (J<|.ref D)):dr K B tw S n O<|c4 H D o:=by
 have b0:eI H<|c4 H D o:=λa=>⟨λah q=>by rw[e0<|by rintro rfl;rw[gV]at q;exists q];exact q,λ_ _ q=>by rw[e0<|by rintro rfl;rw[gV]at q;exists q];exact q⟩
 refine⟨R.ext.put de,by show c4 H D o tw=_;rw[e0 (R.v9 de).symm];exact R.aQ,R.la,R.len,λi t e=>let ⟨v,af,ak⟩:=R.ag i t e;⟨v,af,aI.mono b0 _ _ ak⟩,R.cZ,λi t e=>?_,R.nV,R.o7⟩;obtain⟨a,af,ak,bc⟩:=R.aE i t e;have na:a≠D:=by rintro rfl;exact bW i t e af
 refine⟨a,af,ak,?_⟩;cases t with
 |ao xs=>obtain⟨ah,cN,dD⟩:=bc;exact⟨ah,by rw[e0 na];exact cN,bR.mono b0 _ _ dD⟩
 |bk ay=>obtain⟨ah,cN,dD⟩:=bc;exact⟨ah,by rw[e0 na];exact cN,cJ.mono b0 _ _ dD⟩
 |_=>exact bc.elim
def l0.inj{scope:jq}{N':List Str}{fo:List<|Option Nat}(aN:l0 X scope N' fo)(bW:N'.Nodup):∀(i q6 j:Nat),fo[i]?=J (J j)->fo[q6]?=J (J j)->i=q6:=λi q6 j h h'=>by obtain⟨x,aX,bb,_⟩:=aN.src i j h;obtain⟨fz,Jo,DV,_⟩:=aN.src q6 j h';rw[bb]at DV;exists DV;exact Dl bW aX Jo
def Ct(X:bI)(B:aJ)(tw:Addr)(S:bE)(n:Nat)(aA:List T)(n':Nat):TI:=λO H R=>dr X.K B tw S n O H/\∀cO aj,dn tw H aj->df tw n' aj->(∀ed qs,df tw qs ed->dn tw aj ed->qN tw cO ed aA)->R cO aj
def za(X:bI)(B:aJ)(tw:Addr)(c:fa):TT:=λO H Q=>∃S n b n',c S n=J (b,n')/\wR X.K B tw S n b n' O H Q
def wU(X:bI)(B:aJ)(tw:Addr)(e:bM):TE:=λO H Q=>∃S n t m n',aY e S n=J (t,m,n')/\q3 X.K B tw S n t m n' O H Q
def Pq{n aM bC:Nat}(aN:l0 X scope N' fo)(bW:N'.Nodup)(R:dr X.K B tw S n O H)(a6:iT put c e aA (ck fo S) aM []=J (out,bC))
  (k:∀v aj,dn tw H aj->df tw bC aj->Val X.K B tw H aj (.ao out) .aE v->Q v aj):Gg (Ct X B tw S n aA aM) fo (Cs X tw put) (za X B tw c) (wU X B tw e) O H Q:=by
 refine⟨R,λcO H1 bH fb it D gV=>?_⟩;have bt:=R.mono bH fb;have Nu:D≠tw:=bt.aQ.tS gV;refine⟨λi m acc U' aj=>m=aA.H-i/\i<=aA.H/\aj D=J (.ao acc)/\dn tw H1 aj/\∃Si kY as,dr X.K B tw Si kY U' aj/\(∀(j:Nat) (t:T),Si[j]?=J (J (t,bo.aE))->U'[j]?≠J (J<|V.ref D))/\bR tw aj as acc/\iT put c e (aA.drop i) Si kY as=J (out,bC),⟨aA.H,by simp,gG _,fB,.new gV,ck fo S,aM,[],(bt.src<|aN.inj bW).mono (.new gV) (bt.aQ.new gV),Pk (bt.src<|aN.inj bW) gV,.nil,by simpa using a6⟩,?_⟩;rintro i m acc U2 bV ⟨rfl,ks,u6,cf,S2,fU,as,dj,aa9,oR,eQ⟩;have at2:=it bV fU dj.aQ cf i;by_cases dC:i<aA.H
 ·right;obtain⟨go,uz⟩:=at2.1 aA[i] (by simp[dC]);have y9:aA.drop i=aA[i]::aA.drop (i+1):=pJ dC;rw[y9]at eQ;obtain⟨S3,fN,gL⟩:=cn (show(put aA[i] S2).bind _=_ from eQ);obtain⟨⟨b,ht⟩,q7,p4⟩:=cn gL;refine⟨go,λtM U' aj=>aj D=J (.ao tM)/\dn tw H1 aj/\∃Si kY DW,dr X.K B tw Si kY U' aj/\(∀(j:Nat) (t:T),Si[j]?=J (J (t,bo.aE))->U'[j]?≠J (J<|V.ref D))/\bR tw aj DW tM/\iT put c e (aA.drop<|i+1) Si kY DW=J (out,bC),λtM U' aj ⟨cN,dD,Si,kY,DW,iN,HI,uB,uC⟩=>⟨aA.H-(i+1),by lia,rfl,dC,cN,dD,Si,kY,DW,iN,HI,uB,uC⟩,λx ee uA=>?_⟩;obtain⟨cv,mQ,jw⟩:=uz x ee uA;refine⟨B,S2,fU,aA[i],S3,dj.mono cv<|mQ fU dj.aQ,jw,fN,λU3 mf aba=>⟨S3,fU,b,ht,q7,mf,λpZ ct p5=>?_⟩⟩;have zb:=mf.mono ct p5;have Jp:∀(j:Nat) (t:T),S3[j]?=J (J (t,bo.aE))->U3[j]?≠J (J<|V.ref D):=λj t q eM=>let ⟨q5,t',af,ak⟩:=aba j t D q eM;aa9 q5 t' af ak
  have DX:dn tw bV pZ:=cv.trans ct;cases b with
  |false =>
   have p4:iT put c e (aA.drop<|i+1) S3 ht as=J (out,bC):=p4;exact FX ⟨DX.to D _ u6 Nu,cf.trans DX,S3,ht,as,zb,Jp,bR.mono (DX.b0 dj.aQ) _ _ oR,p4⟩
  |true =>
   obtain⟨⟨HJ,ans,sE⟩,mq,z9⟩:=cn (show(aY e S3 ht).bind _=_ from p4);obtain rfl:=z7 mq;have z9:(if as.H<bh then iT put c e (aA.drop<|i+1) S3 sE (as++[HJ]) else C)=J (out,bC):=z9;split at z9
   ·rename_i aq;refine FY ⟨S3,ht,HJ,.ag,sE,mq,zb,λv jt fX uq uC=>?_⟩;have Jq:=DX.trans fX;have DY:jt D=J (.ao acc):=Jq.to D _ u6 Nu;have HK:=zb.mono fX uq;have b0:eI jt<|c4 jt D<|.ao<|acc++[v]:=λa=>⟨λah q=>by rw[e0<|by rintro rfl;rw[DY]at q;exists q];exact q,λ_ _ q=>by rw[e0<|by rintro rfl;rw[DY]at q;exists q];exact q⟩
    have abb:B D=C:=R.ext.free R.aQ<|bH.free fb gV;refine⟨DY,by rw[<-oR.H];exact DK aq,fB,(cf.trans Jq).put gV,S3,sE,as++[HJ],?_,Jp,(bR.mono b0 _ _<|bR.mono (Jq.b0 dj.aQ) _ _ oR).append (.cons (aI.mono b0 _ _ uC) .nil),z9⟩
    ·exact HK.anc DY abb Jp
   ·exists z9
 ·left;have jG:aA.H<=i:=hR dC;refine⟨at2.2 jG,?_⟩;rw[wa jG]at eQ;have eQ:J (as,fU)=J (out,bC):=eQ
  exists eQ
  exact k _ bV (bH.trans cf) dj.aQ ⟨D,rfl,bH.free fb gV,acc,u6,oR⟩
def Jr{elt iter:Expr}{ifs:List Expr}{scope:jq}{pos:Pos}{N':List Str}{fo:List<|Option Nat}{d:ib}{put:T->bE->Option bE}{c:fa}{e:bM}(aT:X.calm=Y0)(aN:l0 X scope N' fo)(bW:N'.Nodup)(hi:rt X tw di iter d)
  (bT:∀cl aN cD dI fp,sC ZS tw di put) (cA:∀cl aN cD dI fp,th ZS tw ifs c) (he:∀cl aN cD dI fp,bF ZS tw elt e)
  (aP:autoParam (∀x,oE iter X.I x=pure x) sA):bF X tw Za<|er d (ck fo) put c e:=by
 intro B S n t m n' hd ae s O H Q I ⟨R,k⟩;obtain⟨⟨aA,aM⟩,az,au⟩:=cn hd;obtain⟨⟨out,bC⟩,a6,bX⟩:=dw au;cases bX;refine ajU aT aN (hi B S n aA aM az) (g:=Cs X tw put) (tt:=za X B tw c) (te:=wU X B tw e) (λcl aN cD dI fp=>bT cl aN cD dI fp) (λcl aN cD dI fp ae s O H Q I h=>?_) (λcl aN cD dI fp ae s O H Q I h=>?_) aP ae s O H Q I<|Pq aN bW R a6 k
 ·obtain⟨S,n,b,n',e,h⟩:=h;exact cA cl aN cD dI fp B S n b n' e ae s O H Q I h
 ·obtain⟨S,n,t,m,n',bN,h⟩:=h;exact xo (he cl aN cD dI fp) B S n t m n' bN ae s O H Q I h
def abc(i:Nat){y:Str}{elt iter:Expr}{ifs:List Expr}{scope:jq}{pos vW py:Pos}{N':List Str}{fo:List<|Option Nat}{d:ib}{put:T->bE->Option bE}{c:fa}{e:bM}(aT:X.calm=Y0)(dJ:X.N.Nodup)(aN:l0 X scope N' fo)(bW:N'.Nodup)(hi:rt X tw di iter d)
  (bT:∀cl aN cD dI fp,sC ZS tw di put) (cA:∀cl aN cD dI fp,th ZS tw ifs c) (he:∀cl aN cD dI fp,bF ZS tw elt e)
  (gy:autoParam (X.N[i]?=J y) bu) (aK:autoParam (X.env.scope.names.lookup y=J .local) bu) (z5:autoParam (nA Za (J<|.Name y py) vW.line X.I=pure Y0) bu) (aP:autoParam (∀x,oE iter X.I x=pure x) sA) :
  gW X tw (.Assign [.Name y py] Za vW) (dK i<|er d (ck fo) put c e):=by
 intro B S n f S' n' hd ae s O H D I ⟨R,k⟩;obtain⟨⟨t,m,n0⟩,dE,DZ⟩:=cn hd;obtain⟨⟨aA,aM⟩,az,au⟩:=cn dE;obtain⟨⟨out,bC⟩,a6,bX⟩:=dw au;cases bX;cases DZ;refine ajV aT dJ gy aK aN (hi B S n aA aM az) (g:=Cs X tw put) (tt:=za X B tw c) (te:=wU X B tw e) (λcl aN cD dI fp=>bT cl aN cD dI fp) (λcl aN cD dI fp ae s O H Q I h=>?_) (λcl aN cD dI fp ae s O H Q I h=>?_) z5 aP ae s O H D I (Pq aN bW R a6 λv aj x y z=>k _ aj (x.b0 R.aQ)<|R.store x y z rfl)
 ·obtain⟨S,n,b,n',e,h⟩:=h;exact cA cl aN cD dI fp B S n b n' e ae s O H Q I h
 ·obtain⟨S,n,t,m,n',bN,h⟩:=h;exact xo (he cl aN cD dI fp) B S n t m n' bN ae s O H Q I h
def aj8(i:Nat){st:Stmt}{d:bw}(h:gW X tw st d):gW X tw st<|dN i d:=by
 intro B S n f S' n' bp;have key:dN i d S n=d S n\/dN i d S n=fC i d S n:=by
  unfold dN fC;cases S[i]? with
  |none=>exact .inl rfl
  |some o =>
   cases o with
   |none=>exact .inl rfl
   |some p =>
    obtain⟨t,m⟩:=p
    exists t<;>exists m<;>first|exact .inl rfl|exact .inr rfl
 rcases key with e|e
 ·exact h B S n f S' n'<|e▸bp
 ·exact UT i h B S n f S' n'<|e▸bp
theorem Js{K:PySem.W.Frag}{H:aJ}:∀{aA:List (T×Bool)} {ah:List V},Args K tw H aA ah->∀(i:Nat) (t:T) (b:Bool),aA[i]?=J (t,b)->∃v,ah[i]?=J v/\(b=Y0->aI tw H t v)/\eu K tw H t v
 |_,_,.nil,_,_,_,e=>by simp at e
 |_,_,.cons af ak _,0,_,_,e=>by simp at e;obtain⟨rfl,rfl⟩:=e;exact⟨_,rfl,af,ak⟩
 |_,_,.cons _ _ r,i+1,t,b,e=>by obtain⟨v,aX,bb⟩:=Js r i t b (by simpa using e);exact⟨v,by simpa using aX,bb⟩
def Jt{K:PySem.W.Frag}{H:aJ}{N:List Str}{aA:List<|T×Bool}{ah:List V}{n:Nat}(a:Args K tw H aA ah)(aQ:df tw n H) :
  dr K H tw (aA.map (λt=>J (t.1,if t.2 then bo.ag else bo.cZ))++List.replicate (N.H-aA.H) C) n (start N ah) H:=by
 have aB:=a.H;have get:∀(i:Nat) (p:T×bo),(aA.map (λt=>J (t.1,if t.2 then bo.ag else bo.cZ))++List.replicate (N.H-aA.H) C)[i]?=J (J p)->∃b,aA[i]?=J (p.1,b)/\p.2=(if b then bo.ag else bo.cZ):=λi p e=>by
  by_cases h:i<aA.H
  ·rw[ym (by simpa using h),ke]at e;cases q:aA[i]? with
   |none=>rw[q]at e;exists e
   |some t=>rw[q]at e;exists e;exact⟨t.2,rfl,rfl⟩
  ·rw[BK (by simpa using h),BN]at e;split at e<;>exists e
 have val:∀(i:Nat) (v:V),ah[i]?=J v->(start N ah)[i]?=J (J v):=λi v e=>by have h:i<ah.H:=(kK.mp e).1;unfold start;rw[ym (by simpa using h),ke,e];rfl
 refine⟨.refl _ _,aQ,⟨n,aQ⟩,by unfold start;rw[gq,gq,cP,cP,ou,ou,aB],λi t e=>?_,λi t e=>?_,λi t e=>?_,λi t e=>?_,λi j t t' a e bN=>?_⟩
 ·obtain⟨b,aX,bb⟩:=get i _ e;obtain⟨v,af,ak,bc⟩:=Js a i t b aX;cases b with
  |true=>exact⟨v,val i v af,ak rfl⟩
  |false=>exists bb
 ·obtain⟨b,aX,bb⟩:=get i _ e;obtain⟨v,af,ak,bc⟩:=Js a i t b aX;exact⟨v,val i v af,bc⟩
 ·obtain⟨b,aX,bb⟩:=get i _ e;exists b<;>exists bb
 ·obtain⟨b,aX,bb⟩:=get i _ e;exists b<;>exists bb
 ·obtain⟨b,aX,bb⟩:=get i _ e;exists b<;>exists bb
def agX{P:dx}{w:c3}{K:PySem.W.Frag}{a3:Str->Option mt}{base:Heap}{x qual:Str}{st:Stmt}{f:Addr}{fd:hB}{N ps:List Str}{lv:Nat}{b:bw}(F:qn K x qual st f fd)(cc:mE N ps<|eo st)
  (kJ:∀(c8:mt) (A:dH) (cj:List Env) (s:aR) (H:aJ) (E:iu),eC lv (A.deeper<|i3 qual (eo st) s.L f c8)->hZ (jN iA P w K a3 base N qual (eo st) f c8 A cj s H E).lJ tw (ig st) b):i0 P w K a3 base iA (lv+1) f fd ps<|nX K tw ps.H<|c0 N.H b:=by
 refine F.ok cc (λah H Q E h=>h.1) λc8 A cj s H ah Q E aV h=>?_;obtain⟨aB,aA,n,t,m,n',a,aQ,e,k⟩:=h;obtain⟨⟨bG,S',aM⟩,az,au⟩:=cn e;refine⟨_,kJ c8 A cj s H E aV H _ n bG S' aM az,Jt a aQ,?_⟩;cases bG with
 |aU t0 m0=>exists au;exact λv aj _ x y z=>k v aj x y z
 |bD=>exists au;exact λU' aj _ R=>k .br aj R.ext R.aQ (by show aI tw aj .br _;rw[aI])
 |gr=>exists au
 |eD=>exists au
end
section
variable {X:bI}{tw:Addr}
def m2{K:PySem.W.Frag}{H:aJ}{a b:T}{ah:List V}(r:r0 K tw H [a,b] ah):∃v w,ah=[v,w]/\eu K tw H a v/\eu K tw H b w:=by
 cases r with
 |cons bA cp=>cases cp with
  |cons cp hE=>exists hE;exact⟨_,_,rfl,bA,cp⟩
def iX{K:PySem.W.Frag}{H:aJ}{a:T}{ah:List V}(r:r0 K tw H [a] ah):∃v,ah=[v]/\eu K tw H a v:=by
 cases r with
 |cons bA cp=>exists cp;exact⟨_,rfl,bA⟩
def Aa{f:mt->mt->Sem mt}{aN:Int->Int->Bool}{g:Int->Int->T}{HL:Int->Int->V}{r:dj}(aZ:iS X f r)(aV:∀a b H Q,aN a b=Y0->Q (HL a b) H->r (.int a) (.int b) H Q)(bT:∀a b H,aI tw H (g a b)<|HL a b):fR X tw (two f)<|dY aN g:=by
 intro B ae s O H ah us aA n t m Q I bq aU aQ e k;have⟨a,b,rv,oS,dQ,em⟩:∃a b,aA=[.int a,.int b]/\aN a b=Y0/\t=g a b/\m=.ag:=by
  match aA,e with
  |[.int a,.int b],e =>
   have e:(if aN a b then J (g a b,bo.ag) else C)=J (t,m):=e;split at e
   ·rename_i h;exists e;exact⟨a,b,rfl,h,rfl,rfl⟩
   ·exists e
 subst rv dQ em;obtain⟨v,w,rfl,bA,cp⟩:=m2 aU;obtain rfl:=iW bA;obtain rfl:=iW cp;obtain⟨fW,f7,rfl,aX,bb⟩:=bq.two;exact aZ ae s O H _ _ fW f7 Q I aX bb<|aV a b H Q oS<|k _ H (.refl _ _) aQ<|bT a b H
def aiu:fR X tw (two<|l8 .Sub) ka:=Aa ahX (λa b H Q _ q=>⟨a,b,rfl,rfl,q⟩) λa b H=>by rw[aI]
def Ju:fR X tw (two<|l8 .Mod) oc:=Aa ahZ (λa b H Q h q=>⟨a,b,rfl,rfl,by simpa using h,q⟩) λa b H=>by rw[aI]
def aiv:fR X tw (two<|l8 .FloorDiv) FZ:=Aa ajG (λa b H Q h q=>⟨a,b,rfl,rfl,by
 simp only[f3,decide_eq_true_eq]at h
 exact⟨h.1,by have:=h.2;lia⟩,q⟩) λa b H=>by rw[aI]
def Jv{p:Int->Int->Bool}(rule:∀(i j:Int) (t u:Tok) (Q:mt->aR->Prop) (s:aR),Q (.bool<|p i j) s->bl Z2 X.A (hp op (.int i t)<|.int j u) Q X.cv s):iS X (hp op) (λx y H Q=>∃i j,x=.int i/\y=.int j/\Q (.aC<|p i j) H):=by intro ae s O H x y v u Q I cF dW h;obtain⟨i,j,rfl,rfl,q⟩:=h;obtain⟨t,rfl⟩:=cF;obtain⟨t',rfl⟩:=dW;exact rule i j t t' _ s ⟨.aC _,H,I,rfl,q⟩
def Un:fR X tw (two<|hp .Lt) eE:=Aa (Jv λ_ _ _ _ _ _ h=>lt_int h) (λa b H Q _ q=>⟨a,b,rfl,rfl,q⟩) λa b H=>by rw[aI]
def Uo:fR X tw (two<|hp .Gt) rm:=Aa (Jv λ_ _ _ _ _ _ h=>gt_int h) (λa b H Q _ q=>⟨a,b,rfl,rfl,q⟩) λa b H=>by rw[aI]
def aiw{e:Expr}{d:bM}{j pos pos'}(h:bF X tw e d):bF X tw (.Compare e [.Is] [.Constant .none j pos'] pos)<|aH od<|aa d ar:=by
 intro B S n t m n' hd ae s O H Q I ⟨R,k⟩;obtain⟨⟨aA,aM⟩,az,au⟩:=cn hd;obtain⟨⟨t0,m0,n0⟩,f1,f2⟩:=cn az
 exists f2
 exists au
 refine UI (IB<|h B S n t0 m0 _ f1) (by rfl) ae s O H Q I ⟨R,λv aj x y z=>k _ aj x y ?_⟩;have bt:=R.mono x y;have aU:=z.root bt R.aQ;have:decide (v=.br)=nS t0:=by
  cases t0 with
  |br=>have aU:aI tw aj .br v:=aU;rw[aI]at aU;subst aU;rfl
  |aC b=>have aU:aI tw aj (.aC b) v:=aU;rw[aI]at aU;subst aU;rfl
  |int b=>have aU:aI tw aj (.int b) v:=aU;rw[aI]at aU;subst aU;rfl
  |str b=>have aU:aI tw aj (.str b) v:=aU;rw[aI]at aU;subst aU;rfl
  |aD b=>have aU:aI tw aj (.aD b) v:=aU;rw[aI]at aU;obtain⟨_,_,rfl,_⟩:=aU;rfl
  |dq=>have aU:aI tw aj .dq v:=aU;rw[aI]at aU;subst aU;rfl
  |bJ b=>have aU:aI tw aj (.bJ b) v:=aU;rw[aI]at aU;subst aU;rfl
  |ao b=>obtain⟨_,_,rfl,_⟩:=aU;rfl
  |bk b=>obtain⟨_,_,rfl,_⟩:=aU;rfl
 rw[this];show aI tw aj (.aC _) _;rw[aI]
abbrev uD(p:Int->Int->Bool):dj:=λx y H Q=>∃i j,x=.int i/\y=.int j/\Q (.aC<|p i j) H
abbrev uE(p:Int->Int->Bool):eB:=dY (λ_ _=>Y0) λa b=>.aC<|p a b
def D0{p:Int->Int->Bool}{n:Nat}(h:uE p n [a,b]=J (t,m)):∃i j,a=.int i/\b=.int j/\t=.aC (p i j)/\m=.ag:=by
 match a,b,h with
 |.int i,.int j,h=>exists h;exact⟨i,j,rfl,rfl,rfl,rfl⟩
def Pr{dB c7:Int->Int->Bool}{n:Nat}{n':Nat}(hd:gw (uE dB) (uE c7) dP db gi S n=J (t,m,n'))(R:dr X.K B tw S n O H)(k:∀v aj,dn tw H aj->df tw n' aj->Val X.K B tw H aj t m v->Q v aj) :
  IK (uD dB) (uD c7) (λO H Q=>∃n t m n',dP S n=J (t,m,n')/\q3 X.K B tw S n t m n' O H Q) (λO H Q=>∃n t m n',db S n=J (t,m,n')/\q3 X.K B tw S n t m n' O H Q) (λO H Q=>∃n t m n',gi S n=J (t,m,n')/\q3 X.K B tw S n t m n' O H Q) O H Q:=by
 obtain⟨⟨ta,Nr,na⟩,az,au⟩:=cn hd;obtain⟨⟨tb,lD,nb⟩,a6,bX⟩:=cn au;obtain⟨⟨p1,V4⟩,eQ,fN⟩:=cn bX;obtain⟨i,j,rfl,rfl,rfl,rfl⟩:=D0 eQ;refine⟨n,_,_,_,az,R,λv1 H1 bH fb cN=>⟨_,_,_,_,a6,R.mono bH fb,λv2 bV cf lH dD=>?_⟩⟩;have bt:=R.mono bH fb;have dj:=bt.mono cf lH;obtain rfl:=iW<|cN.root bt R.aQ;obtain rfl:=iW<|dD.root dj bt.aQ;refine⟨i,j,rfl,rfl,dB i j,rfl,?_⟩;have Pt:=bH.trans cf;cases aF:dB i j with
 |false =>
  rw[aF]at fN;have fN:J (T.aC Y1,bo.ag,nb)=J (t,m,n'):=fN
  exists fN
  exact FX (k _ bV Pt lH<|by show aI tw bV (.aC Y1) _;rw[aI])
 |true =>
  rw[aF]at fN;obtain⟨⟨nH,HB,V5⟩,gL,q7⟩:=cn (show(gi S nb).bind _=_ from fN);obtain⟨⟨V6,V7⟩,p4,mq⟩:=dw q7;obtain⟨mg,uF,Nv,rfl,rfl,rfl⟩:=D0 p4
  exists Nv
  cases mq;refine FY ⟨_,_,_,_,gL,dj,λNw ee bY nL iN=>?_⟩;obtain rfl:=iW<|iN.root (dj.mono bY nL) dj.aQ;exact⟨j,uF,rfl,rfl,k _ ee (Pt.trans bY) nL<|by show aI tw ee (.aC _) _;rw[aI]⟩
def xv{e:Expr}{d:bM}(h:bF X tw e d)(B:aJ)(S:bE):d6 X e (λO H Q=>∃n t m n',d S n=J (t,m,n')/\q3 X.K B tw S n t m n' O H Q):=λae s O H Q I ⟨n,t,m,n',e,q⟩=>h B S n t m n' e ae s O H Q I q
def alO{a b c:Expr}{dP db gi:bM}{fs i8:CmpOp}{dB c7:Int->Int->Bool}{pos:Pos}(af:iS X (hp fs)<|uD dB)(ak:iS X (hp i8)<|uD c7)(ba:bF X tw a dP)(aq:bF X tw b db)(aT:bF X tw c gi)
  (hm:autoParam (lastMarks [fs,i8] [b,c]=Y1) az5._auto_1):bF X tw (.Compare a [fs,i8] [b,c] pos)<|gw (uE dB) (uE c7) dP db gi:=by
 intro B S n t m n' hd ae s O H Q I ⟨R,k⟩;exact alA af ak (xv ba B S) (xv aq B S) (xv aT B S) hm ae s O H Q I<|Pr hd R k
def alP{a b c:Expr}{dP db gi:bM}{fs i8:CmpOp}{dB c7:Int->Int->Bool}{pos:Pos}(af:iS X (hp fs)<|uD dB)(ak:iS X (hp i8)<|uD c7)(ba:bF X tw a dP)(aq:bF X tw b db)(aT:bF X tw c gi)
  (hm:autoParam (lastMarks [fs,i8] [b,c]=Y1) az5._auto_1):ST X tw (.Compare a [fs,i8] [b,c] pos)<|bK<|gw (uE dB) (uE c7) dP db gi:=by
 intro B S n ant n' hd ae s O H Q I ⟨R,k⟩;obtain⟨⟨t,m,aM⟩,az,au⟩:=cn hd;obtain⟨gU,a6,bX⟩:=dw au
 exists bX
 refine alB af ak (xv ba B S) (xv aq B S) (xv aT B S) hm ae s O H Q I (Pr az R λv aj x y z=>?_);have abd:∃q,t=.aC q:=by
  obtain⟨⟨ta,Nr,na⟩,g1,g2⟩:=cn az;obtain⟨⟨tb,lD,nb⟩,g3,gK⟩:=cn g2;obtain⟨⟨p1,V4⟩,mO,sF⟩:=cn gK;obtain⟨i,j,rfl,rfl,rfl,rfl⟩:=D0 mO;cases aF:dB i j with
  |false =>
   rw[aF]at sF;have sF:J (T.aC Y1,bo.ag,nb)=J (t,m,aM):=sF
   exists sF;exact⟨_,rfl⟩
  |true =>
   rw[aF]at sF;obtain⟨⟨nH,HB,V5⟩,anu,V8⟩:=cn (show(gi S nb).bind _=_ from sF);obtain⟨⟨V6,V7⟩,V9,abe⟩:=dw V8;obtain⟨_,_,_,_,rfl,_⟩:=D0 V9
   exists abe;exact⟨_,rfl⟩
 obtain⟨q,rfl⟩:=abd
 exists a6
 have aU:aI tw aj (.aC _) v:=(z.root (R.mono x y) R.aQ)
 rw[aI]at aU;subst aU;exact⟨_,rfl,k aj x y⟩
def qt(h:H a=J (.aD ah))(r:bR tw H xs ah):aI tw H (.aD xs)<|.ref a:=by rw[aI];exact⟨a,ah,rfl,h,r⟩
def ku{K:PySem.W.Frag}{H:aJ}{xs:List T}{v:V}(r:eu K tw H (.aD xs) v):∃a ah,v=.ref a/\H a=J (.aD ah)/\bR tw H xs ah:=by have r:aI tw H (.aD xs) v:=r;rw[aI]at r;exact r
end
end bj.bO
namespace bj.bO
open PySem PySem.Spec PyProof.Rows PySem.SeqAt
section
variable {X:bI}{tw:Addr}
theorem Jw(e3:∀t t' v,P t=Y0->P t'=Y0->aI tw H t v->aI tw H t' v->t=t'):∀(xs aO:List T) (ah:List V),xs.all P=Y0->aO.all P=Y0->bR tw H xs ah->bR tw H aO ah->xs=aO
 |[],aO,ah,p,fY,r,b5=>by
  obtain rfl:=jg r;cases aO with
  |nil=>rfl
  |cons y aO=>obtain⟨_,_,e,_⟩:=hc b5;exists e
 |x::xs,aO,ah,p,fY,r,b5=>by
  obtain⟨v,w,rfl,aX,bb⟩:=hc r;cases aO with
  |nil=>cases jg b5
  |cons y aO =>
   obtain⟨hS,fS,e,Jo,DV⟩:=hc b5;cases e;rw[jT,f3]at p fY;rw[e3 x y v p.1 fY.1 aX Jo,Jw e3 xs aO w p.2 fY.2 bb DV]
def Pu(bS:∀a,v≠.ref a)(r:aI tw H t v)(b5:aI tw H t' v):t=t':=by
 exists t<;>rw[aI]at r<;>first|(exact False.elim r)|(subst r;exists t'<;>rw[aI]at b5<;>first|rfl|(exact False.elim b5)|(exists b5;rfl)|(exists b5;done)|(obtain⟨_,_,e,_⟩:=b5;exists e;done)|(obtain⟨_,_,_,e,_⟩:=b5;exists e;done))|(obtain⟨_,_,e,_⟩:=r;exact absurd e<|bS _)|(obtain⟨_,_,_,e,_⟩:=r;exact absurd e<|bS _)|(exact absurd r<|bS _)
def aj9:∀(k:Nat) (t t':T) (v:V),dZ k t=Y0->dZ k t'=Y0->aI tw H t v->aI tw H t' v->t=t':=by
 intro k
 induction k with
 |zero =>
  intro t t' v p fY r b5;refine Pu (λa e=>?_) r b5;subst e
  exists t<;>first|(exists p;done)|(rw[aI]at r;exists r;done)
 |succ k a4 =>
  intro t t' v p fY r b5;cases t with
  |aD xs =>
   rw[aI]at r;obtain⟨a,ah,rfl,e,q⟩:=r;cases t' with
   |aD aO =>
    rw[aI]at b5;obtain⟨gJ,mr,cu,bN,eM⟩:=b5
    exists cu
    rw[e]at bN;exists bN;rw[Jw (P:=dZ k) (a4) xs aO ah p fY q eM]
   |ao aO=>rw[aI]at b5;obtain⟨gJ,o,mr,cu,bN,_⟩:=b5;exists cu;rw[e]at bN;exists bN
   |bk aO=>exists fY
   |dq=>exists fY
   |bJ _=>exists fY
   |_=>rw[aI]at b5;exists b5
  |ao xs =>
   rw[aI]at r;obtain⟨a,o,ah,rfl,e,q⟩:=r;cases t' with
   |ao aO =>
    rw[aI]at b5;obtain⟨gJ,dh,mr,cu,bN,eM⟩:=b5
    exists cu
    rw[e]at bN;exists bN;rw[Jw (P:=dZ k) (a4) xs aO ah p fY q eM]
   |aD aO=>rw[aI]at b5;obtain⟨gJ,mr,cu,bN,_⟩:=b5;exists cu;rw[e]at bN;exists bN
   |bk aO=>exists fY
   |dq=>exists fY
   |bJ _=>exists fY
   |_=>rw[aI]at b5;exists b5
  |bk _=>exists p
  |dq=>exists p
  |bJ _=>exists p
  |_ =>
   refine Pu (λa e=>?_) r b5;subst e;rw[aI]at r;exists r
theorem Jx(e3:∀t,P t=Y0->dU t t=Y0):∀(xs:List T),xs.all P=Y0->iK xs xs=Y0
 |[],_=>by rw[iK]
 |x::xs,p=>by rw[jT,f3]at p;rw[iK,e3 x p.1,Jx e3 xs p.2];rfl
def alQ:∀(k:Nat) (t:T),dZ k t=Y0->dU t t=Y0:=by
 intro k
 induction k with
 |zero=>intro t p;exists t<;>first|(exists p;done)|(rw[dU];done)|(rw[dU];simp)
 |succ k a4 =>
  intro t p;cases t with
  |aD xs=>rw[dU];exact Jx a4 xs p
  |ao xs=>rw[dU];exact Jx a4 xs p
  |bk _=>exists p
  |dq=>exists p
  |bJ _=>exists p
  |br=>rw[dU]
  |_=>rw[dU];simp
theorem Jy:∀(xs aO:List T),xs.H≠aO.H->iK xs aO=Y1
 |[],[],h=>absurd rfl h
 |[],_::_,_=>by simp[iK]
 |_::_,[],_=>by simp[iK]
 |x::xs,y::aO,h=>by rw[iK,Jy xs aO (λe=>h<|by rw[d8,d8,e]),wt]
theorem Jz:∀(xs aO:List T),xs.H=aO.H->iK xs aO=(List.range xs.H).all λj=>dU (xs.getD j .br) (aO.getD j .br)
 |[],[],_=>by rw[iK];rfl
 |[],_::_,h=>by exists h
 |_::_,[],h=>by exists h
 |x::xs,y::aO,h=>by rw[iK,Jz xs aO (by simpa using h),d8,GG,jT,pP];rfl
def JA(r:bR tw H xs ah)(bq:cG ah us){j:Nat}(h:j<us.H):∃v,aI tw H (xs.getD j .br) v/\cW v us[j]:=by
 have af:j<ah.H:=by rw[bq.H];exact h
 have ak:j<xs.H:=by rw[r.H];exact af
 obtain⟨v,az,au⟩:=r.get (i:=j) (x:=xs[j]) (by simp[ak]);obtain⟨u,a6,bX⟩:=bq.get az;have:us[j]=u:=by have:=hh h;rw[this]at a6;exact Option.some.inj a6
 refine⟨v,?_,this▸bX⟩;rw[nj,hh ak];exact au
inductive oT (s:aR) (tw:Addr) (H:aJ):T->mt->Prop
 |br:oT s tw H .br .none
 |aC (b:Bool):oT s tw H (.aC b)<|.bool b
 |int (i:Int) (t:Tok):oT s tw H (.int i)<|.int i t
 |str (x:Str) (t:Tok):oT s tw H (.str x)<|.str x t
 |aD {xs:List T} {a:Addr} {us:List mt} {ah:List V}:s.heap.IsTuple a us.B->bR tw H xs ah->cG ah us->oT s tw H (.aD xs) (.ref a)
 |ao {xs:List T} {a:Addr} {us:List mt} {ah:List V}:s.heap.IsList a us.B->bR tw H xs ah->cG ah us->oT s tw H (.ao xs) (.ref a)
def xw{ae:List Z1}{s:aR}{O:St}{H:aJ}{k:Nat}{t:T}{v:V}{u:mt}(I:aS X ae O H s)(p:dZ k t=Y0)(r:eu X.K tw H t v)(bq:cW v u):oT s tw H t u:=by
 cases t with
 |br=>have r:aI tw H .br v:=r;rw[aI]at r;subst r;exists bq;exact .br
 |aC b=>have r:aI tw H (.aC b) v:=r;rw[aI]at r;subst r;exists bq;exact .aC b
 |int i=>have r:aI tw H (.int i) v:=r;rw[aI]at r;subst r;obtain⟨t,rfl⟩:=bq;exact .int i t
 |str x=>have r:aI tw H (.str x) v:=r;rw[aI]at r;subst r;obtain⟨t,rfl⟩:=bq;exact .str x t
 |aD xs =>
  obtain⟨a,ah,rfl,e,q⟩:=ku r
  exists bq
  obtain⟨a5,bA,dB,_⟩:=I.tuple<|e5.of e;exact .aD dB q bA
 |ao xs =>
  obtain⟨a,ah,rfl,e,q⟩:=r
  exists bq
  obtain⟨a5,bA,dB,_⟩:=I.list e.gh;exact .ao dB.isList q bA
 |bk _=>exists k<;>exists p
 |dq=>exists k<;>exists p
 |bJ _=>exists k<;>exists p
def in1_units{A:dH}:A.in1.units=A.units+1:=rfl
def Uc{A:dH}{s:aR}{u fu:mt}{b c:Bool}(h:RcNeAt A s u fu b)(e:b=c):RcNeAt A s u fu c:=e▸h
def JB(tw:Addr)(H:aJ)(A:dH)(s:aR)(t t':T)(u fu:mt):Prop:=RcAt A s u fu (dU t t')/\RcNeAt A s u fu (!dU t t')/\((∃v,aI tw H t v/\cW v u)->(∃v,aI tw H t' v/\cW v fu)->EqAt A s u fu (dU t t'))
def eq3{b:Bool}(af:RcAt A s u fu b)(ak:RcNeAt A s u fu<|!b)(bc:EqAt A s u fu b)(e:dU t t'=b:=by first|rfl|rw[dU]):JB tw H A s t t' u fu:=by subst e;exact⟨af,ak,λ_ _=>bc⟩
def Up{ae:List Z1}{s:aR}{O:St}{H:aJ}{n:Nat}(I:aS X ae O H s)(aQ:df tw n H)(k:Nat):∀(A:dH) (t t':T) (u fu:mt),A.units+k<ir->dZ k t=Y0->dZ k t'=Y0->oT s tw H t u->oT s tw H t' fu->JB tw H A s t t' u fu:=by
 induction k using Nat.strongRecOn with
 |_ k a4 =>
 intro A t t' u fu b7 p fY d d';have dt:A.units<ir:=gS (gb _ _) b7
 have refs:∀{a b:Addr} {t t':T},dZ k t=Y0->dZ k t'=Y0->RcAt A s (.ref a) (.ref b) (dU t t')->RcNeAt A s (.ref a) (.ref b) (!dU t t')->JB tw H A s t t' (.ref a) (.ref b):=λ{a b t t'} p fY h h'=>⟨h,h',λ⟨v,bq,ev⟩ ⟨hS,abf,abg⟩=>by
  by_cases D1:a=b
  ·subst D1;obtain rfl:=ev.inj abg;obtain rfl:=aj9 k t t' v p fY bq abf;rw[alQ k t p];exact EqAt.same _
  ·exact .of_refs D1 h⟩
 have items:∀{xs aO:List T} {us ws:List mt} {ah mr:List V} {fH:Nat},k=fH+1->xs.all (dZ fH)=Y0->aO.all (dZ fH)=Y0->bR tw H xs ah->cG ah us->bR tw H aO mr->cG mr ws->∀j (af:j<us.B.O) (ak:j<ws.B.O),EqAt A.in1 s us.B[j] ws.B[j] (dU (xs.getD j .br)<|aO.getD j .br):=λ{xs aO us ws ah mr fH} iO e4 py cF sG dW p6 j af ak=>by
  subst iO;have kr:j<us.H:=by simpa using af
  have tf:j<ws.H:=by simpa using ak
  obtain⟨v1,a1,cq⟩:=JA cF sG kr;obtain⟨v2,a2,cE⟩:=JA dW p6 tf;have g:∀{xs:List T},xs.all (dZ fH)=Y0->j<xs.H->dZ fH (xs.getD j .br)=Y0:=λe4 aB=>by rw[nj,hh aB];exact iL.mp e4 _<|oy _
  have g1:=g e4 (by rw[cF.H,sG.H];exact kr);have g2:=g py (by rw[dW.H,p6.H];exact tf);have:=(a4 fH (oC _) A.in1 _ _ _ _ (by rw[in1_units];lia) g1 g2 (xw I g1 (eu.Mr aQ a1) cq)<|xw I g2 (eu.Mr aQ a2) cE).2.2 ⟨v1,a1,cq⟩ ⟨v2,a2,cE⟩;simpa using this
 cases d with
 |br =>
  cases d' with
  |br=>exact eq3 (RcAt.none_none) (RcNeAt.none_none)<|EqAt.same _
  |aC b=>exact eq3 (RcAt.none_bool b) (RcNeAt.none_bool b)<|EqAt.none_bool b
  |int b tb=>exact eq3 (RcAt.none_int b tb) (RcNeAt.none_int b tb)<|EqAt.none_int b tb
  |str b tb=>exact eq3 (RcAt.none_str b tb) (RcNeAt.none_str b tb)<|EqAt.none_str b tb
  |aD b9=>exact eq3 (RcAt.none_tuple b9 dt) (RcNeAt.none_tuple b9 dt)<|EqAt.none_tuple b9 dt
  |ao b9=>exact eq3 (RcAt.none_list b9 dt) (RcNeAt.none_list b9 dt)<|EqAt.none_list b9 dt
 |aC a =>
  cases d' with
  |br=>exact eq3 (RcAt.bool_none a) (RcNeAt.bool_none a)<|EqAt.bool_none a
  |aC b=>exact eq3 (RcAt.bool_bool a b) (RcNeAt.bool_bool a b)<|EqAt.bool_bool a b
  |int b tb=>exact eq3 (RcAt.bool_int a b tb) (RcNeAt.bool_int a b tb)<|EqAt.bool_int a b tb
  |str b tb=>exact eq3 (RcAt.bool_str a b tb) (RcNeAt.bool_str a b tb)<|EqAt.bool_str a b tb
  |aD b9=>exact eq3 (RcAt.bool_tuple a b9 dt) (RcNeAt.bool_tuple a b9 dt)<|EqAt.bool_tuple a b9 dt
  |ao b9=>exact eq3 (RcAt.bool_list a b9 dt) (RcNeAt.bool_list a b9 dt)<|EqAt.bool_list a b9 dt
 |int a ta =>
  cases d' with
  |br=>exact eq3 (RcAt.int_none a ta) (RcNeAt.int_none a ta)<|EqAt.int_none a ta
  |aC b=>exact eq3 (RcAt.int_bool a ta b) (RcNeAt.int_bool a ta b)<|EqAt.int_bool a ta b
  |int b tb=>exact eq3 (RcAt.int_int a ta b tb) (RcNeAt.int_int a ta b tb)<|EqAt.int_int a ta b tb
  |str b tb=>exact eq3 (RcAt.int_str a ta b tb) (RcNeAt.int_str a ta b tb)<|EqAt.int_str a ta b tb
  |aD b9=>exact eq3 (RcAt.int_tuple a ta b9 dt) (RcNeAt.int_tuple a ta b9 dt)<|EqAt.int_tuple a ta b9 dt
  |ao b9=>exact eq3 (RcAt.int_list a ta b9 dt) (RcNeAt.int_list a ta b9 dt)<|EqAt.int_list a ta b9 dt
 |str a ta =>
  cases d' with
  |br=>exact eq3 (RcAt.str_none a ta) (RcNeAt.str_none a ta)<|EqAt.str_none a ta
  |aC b=>exact eq3 (RcAt.str_bool a ta b) (RcNeAt.str_bool a ta b)<|EqAt.str_bool a ta b
  |int b tb=>exact eq3 (RcAt.str_int a ta b tb) (RcNeAt.str_int a ta b tb)<|EqAt.str_int a ta b tb
  |str b tb=>exact eq3 (RcAt.str_str a ta b tb) (RcNeAt.str_str a ta b tb)<|EqAt.str_str a ta b tb
  |aD b9=>exact eq3 (RcAt.str_tuple a ta b9 dt) (RcNeAt.str_tuple a ta b9 dt)<|EqAt.str_tuple a ta b9 dt
  |ao b9=>exact eq3 (RcAt.str_list a ta b9 dt) (RcNeAt.str_list a ta b9 dt)<|EqAt.str_list a ta b9 dt
 |@aD xs a us ah cb cF sG =>
  cases k with
  |zero=>exists p
  |succ k =>
  cases d' with
  |br=>exact eq3 (RcAt.tuple_none cb dt) (RcNeAt.tuple_none cb dt)<|EqAt.tuple_none cb dt
  |aC b=>exact eq3 (RcAt.tuple_bool b cb dt) (RcNeAt.tuple_bool b cb dt)<|EqAt.tuple_bool b cb dt
  |int b tb=>exact eq3 (RcAt.tuple_int b tb cb dt) (RcNeAt.tuple_int b tb cb dt)<|EqAt.tuple_int b tb cb dt
  |str b tb=>exact eq3 (RcAt.tuple_str b tb cb dt) (RcNeAt.tuple_str b tb cb dt)<|EqAt.tuple_str b tb cb dt
  |@ao aO b ws mr b9 dW p6=>exact refs p fY (t:=.aD xs) (t':=.ao aO) (RcAt.tuple_list cb b9 dt)<|RcNeAt.tuple_list cb b9 dt
  |@aD aO b ws mr b9 dW p6 =>
   have ex:xs.H=us.H:=cF.length.trans sG.H;have i7:aO.H=ws.H:=dW.length.trans p6.H;have it:=items rfl p fY cF sG dW p6;have e:((List.range<|min us.B.O ws.B.O).all (λj=>dU (xs.getD j .br)<|aO.getD j .br)&&us.B.O==ws.B.O)=dU (.aD xs) (.aD aO):=by
    rw[eT,eT,<-ex,<-i7,dU];by_cases aB:xs.H=aO.H
    ·rw[Jz xs aO aB,<-aB,Nat.min_self,beq_self_eq_true,Bool.and_true]
    ·rw[Jy xs aO aB,beq_eq_false_iff_ne.mpr aB,wt]
   have af:=RcAt.tuples (A:=A) cb b9 dt it;have ak:=RcNeAt.tuples (A:=A) cb b9 dt it;rw[e]at af ak;exact refs p fY af ak
 |@ao xs a us ah cb cF sG =>
  cases k with
  |zero=>exists p
  |succ k =>
  cases d' with
  |br=>exact eq3 (RcAt.list_none cb dt) (RcNeAt.list_none cb dt)<|EqAt.list_none cb dt
  |aC b=>exact eq3 (RcAt.list_bool b cb dt) (RcNeAt.list_bool b cb dt)<|EqAt.list_bool b cb dt
  |int b tb=>exact eq3 (RcAt.list_int b tb cb dt) (RcNeAt.list_int b tb cb dt)<|EqAt.list_int b tb cb dt
  |str b tb=>exact eq3 (RcAt.list_str b tb cb dt) (RcNeAt.list_str b tb cb dt)<|EqAt.list_str b tb cb dt
  |@aD aO b ws mr b9 dW p6=>exact refs p fY (t:=.ao xs) (t':=.aD aO) (RcAt.list_tuple cb b9 dt)<|RcNeAt.list_tuple cb b9 dt
  |@ao aO b ws mr b9 dW p6 =>
   have ex:xs.H=us.H:=cF.length.trans sG.H;have i7:aO.H=ws.H:=dW.length.trans p6.H;by_cases aB:xs.H=aO.H
   ·have it:=items rfl p fY cF sG dW p6;have aP:us.B.O=ws.B.O:=by rw[eT,eT,<-ex,<-i7,aB]
    have e:(List.range us.B.O).all (λj=>dU (xs.getD j .br)<|aO.getD j .br)=dU (.ao xs) (.ao aO):=by rw[eT,<-ex,dU,Jz xs aO aB]
    have af:=RcAt.lists (A:=A) cb b9 aP dt it;have ak:=RcNeAt.lists (A:=A) cb b9 aP dt it;rw[e]at af ak;exact refs p fY af ak
   ·have e:dU (.ao xs) (.ao aO)=Y1:=by rw[dU,Jy xs aO aB]
    have aP:(us.B.O != ws.B.O)=Y0:=bne_iff_ne.mpr (by rw[eT,eT,<-ex,<-i7];exact aB);exact refs p fY (e▸RcAt.lists_lengths cb b9 aP dt) (Uc (RcNeAt.lists_lengths cb b9 aP dt)<|by rw[e];rfl)
def agY{ae:List Z1}{s:aR}{O:St}{H:aJ}{n:Nat}(I:aS X ae O H s)(aQ:df tw n H)(k:Nat)(A:dH)(t t':T)(u fu:mt)(b7:A.units+(k+1)<ir)(p:dZ (k+1) t=Y0)(fY:dZ (k+1) t'=Y0)(d:oT s tw H t u)(d':oT s tw H t' fu):RcNeAt A s u fu (!dU t t') :=
 (Up I aQ (k+1) A t t' u fu b7 p fY d d').2.1
def Pw{r:Bool}(h:o4 a b=J r):(∃ay,a=.bk ay/\b=.bk []/\r=ay.isEmpty)\/(dZ 6 a=Y0/\dZ 6 b=Y0/\r=dU a b):=by
 have gen:(if dZ 6 a&&dZ 6 b then J (dU a b) else C)=J r->(dZ 6 a=Y0/\dZ 6 b=Y0/\r=dU a b):=λh=>by
  split at h
  ·rename_i q;rw[f3]at q
   exists h;exact⟨q.1,q.2,rfl⟩
  ·exists h
 cases a with
 |bk ay =>
  cases b with
  |bk ws =>
   have h:(if ws.isEmpty then J ay.isEmpty else C)=J r:=h;cases ws with
   |nil=>exists h;exact .inl ⟨ay,rfl,rfl,rfl⟩
   |cons p q=>exists h
  |_=>exact .inr<|gen h
 |_=>exact .inr<|gen h
end
end bj.bO
namespace bj.bO
open PySem PySem.Spec PyProof.Rows
section
variable {X:bI}{tw:Addr}
def agZ(b7:X.A.units+6<ir)(hd:∀(ae:List Z1) (s:aR) (O:St) (H:aJ) (a b:Addr) (ws:List (Key×V)) (Q:mt->aR->Prop),aS X ae O H s->iM H a (.aw ws)->iM H b (.aw [])->(∀s',aS X ae O H s'->Q (.bool ws.isEmpty) s')->bl Z2 X.A (hp .Eq (.ref a)<|.ref b) Q X.cv s) :
  fR X tw (two<|hp .Eq) gk:=by
 intro B ae s O H ah us aA n t m Q I bq aU aQ e k;have⟨a,b,r,rv,hG,dQ,em⟩:∃a b r,aA=[a,b]/\o4 a b=J r/\t=.aC r/\m=.ag:=by
  match aA,e with
  |[a,b],e=>obtain⟨r,af,ak⟩:=dw e;exists ak;exact⟨a,b,r,rfl,af,rfl,rfl⟩
 subst rv dQ em;obtain⟨v,w,rfl,bA,cp⟩:=m2 aU;obtain⟨fW,f7,rfl,aX,bb⟩:=bq.two;have fin:∀s',aS X ae O H s'->f5 X ae O Q (.bool r) s':=λs' eG=>⟨.aC r,H,eG,rfl,k _ H (.refl _ _) aQ<|by show aI tw H (.aC r) _;rw[aI]⟩
 rcases Pw hG with⟨ay,rfl,rfl,rfl⟩|⟨p,fY,rfl⟩
 ·obtain⟨a1,eU,rfl,_,az,bH⟩:=bA;obtain⟨a2,fL,rfl,_,au,cf⟩:=cp
  exists aX;exists bb
  rw[cJ]at cf;subst cf;have:eU.isEmpty=ay.isEmpty:=by have:=cJ.length bH;exists ay<;>exists eU<;>first|rfl|(simp at this)
  exact hd ae s O H a1 a2 eU _ I az au λs' eG=>by rw[this];exact fin s' eG
 ·exact(Up I aQ 6 X.A a b fW f7 b7 p fY (xw I p bA aX)<|xw I fY cp bb).1 X.R X.w X.cv _ (fin s I)
def Uq(b7:X.A.units+6<ir)(hd:∀(ae:List Z1) (s:aR) (O:St) (H:aJ) (a b:Addr) (ws:List (Key×V)) (Q:mt->aR->Prop),aS X ae O H s->iM H a (.aw ws)->iM H b (.aw [])->(∀s',aS X ae O H s'->Q (.bool<|!ws.isEmpty) s')->bl Z2 X.A (hp .NotEq (.ref a)<|.ref b) Q X.cv s) :
  fR X tw (two<|hp .NotEq) gn:=by
 intro B ae s O H ah us aA n t m Q I bq aU aQ e k;have⟨a,b,r,rv,hG,dQ,em⟩:∃a b r,aA=[a,b]/\o4 a b=J r/\t=.aC (!r)/\m=.ag:=by
  match aA,e with
  |[a,b],e=>obtain⟨r,af,ak⟩:=dw e;exists ak;exact⟨a,b,r,rfl,af,rfl,rfl⟩
 subst rv dQ em;obtain⟨v,w,rfl,bA,cp⟩:=m2 aU;obtain⟨fW,f7,rfl,aX,bb⟩:=bq.two;have fin:∀s',aS X ae O H s'->f5 X ae O Q (.bool<|!r) s':=λs' eG=>⟨.aC<|!r,H,eG,rfl,k _ H (.refl _ _) aQ<|by show aI tw H (.aC<|!r) _;rw[aI]⟩
 rcases Pw hG with⟨ay,rfl,rfl,rfl⟩|⟨p,fY,rfl⟩
 ·obtain⟨a1,eU,rfl,_,az,bH⟩:=bA;obtain⟨a2,fL,rfl,_,au,cf⟩:=cp
  exists aX;exists bb
  rw[cJ]at cf;subst cf;have:eU.isEmpty=ay.isEmpty:=by have:=cJ.length bH;exists ay<;>exists eU<;>first|rfl|(simp at this)
  exact hd ae s O H a1 a2 eU _ I az au λs' eG=>by rw[this];exact fin s' eG
 ·exact(agY I aQ 5 X.A a b fW f7 b7 p fY (xw I p bA aX)<|xw I fY cp bb) X.R X.w X.cv _ (fin s I)
def aix:fR X tw (two<|l8 .Add) ej:=by
 intro B ae s O H ah us aA n t m Q I bq aU aQ e k
 match aA,e with
 |[.int a,.int b],e =>
  exists e
  obtain⟨v,w,rfl,bA,cp⟩:=m2 aU;obtain rfl:=iW bA;obtain rfl:=iW cp;obtain⟨fW,f7,rfl,aX,bb⟩:=bq.two;exact ahW ae s O H _ _ fW f7 Q I aX bb ⟨a,b,rfl,rfl,k _ H (.refl _ _) aQ<|by show aI tw H (.int _) _;rw[aI]⟩
 |[.aD xs,.aD aO],e =>
  have e:(if xs.H+aO.H<=bh then J (T.aD<|xs++aO,bo.ag) else C)=J (t,m):=e;split at e
  ·rename_i aq
   exists e
   obtain⟨v,w,rfl,bA,cp⟩:=m2 aU;obtain⟨a,fI,rfl,cu,cM⟩:=ku bA;obtain⟨b,sD,rfl,hD,eW⟩:=ku cp;obtain⟨fW,f7,rfl,aX,bb⟩:=bq.two
   exists aX;exists bb
   obtain⟨a5,o8,dB,_⟩:=I.tuple<|e5.of (K:=X.K) cu;obtain⟨hN,lP,c7,_⟩:=I.tuple<|e5.of (K:=X.K) hD;obtain⟨⟨cls,dd,data,cX⟩,aZ,aT,aM,hd⟩:=id dB;obtain⟨⟨agc,u7,data2,Ab⟩,o9,Ac,bC,hd2⟩:=id c7;simp only at aT hd Ac hd2;subst aT hd Ac hd2;have fh:=cM.H;have fE:=eW.H;have fc:=o8.H;have fO:=lP.H;by_cases h0:a5=[]
   ·refine Ce ⟨_,aZ,rfl⟩ ⟨_,o9,rfl⟩ Hl rc PySem.F.slot_tuple_add PySem.F.entry_tuple_add (PySem.F.args_tuple_add_2 _ _) (tuple_addW0 a b a5.B hN.B aM bC dd u7 cX Ab<|by simp[h0]) ⟨aZ,o9,?_⟩;have:xs=[]:=io (by rw[fh,fc,h0];rfl);subst this;exact⟨.ref b,H,I,rfl,k _ H (.refl _ _) aQ<|qt hD eW⟩
   ·by_cases af:hN=[]
    ·refine Ce ⟨_,aZ,rfl⟩ ⟨_,o9,rfl⟩ Hl rc PySem.F.slot_tuple_add PySem.F.entry_tuple_add (PySem.F.args_tuple_add_2 _ _) (tuple_addW1 a b a5.B hN.B aM bC dd u7 cX Ab (by simpa using h0)<|by simp[af]) ⟨aZ,o9,?_⟩;have:aO=[]:=io (by rw[fE,fO,af];rfl);subst this;rw[r6]at k;exact⟨.ref a,H,I,rfl,k _ H (.refl _ _) aQ<|qt cu cM⟩
    ·refine Ce ⟨_,aZ,rfl⟩ ⟨_,o9,rfl⟩ Hl rc PySem.F.slot_tuple_add PySem.F.entry_tuple_add (PySem.F.args_tuple_add_2 _ _) (tuple_addW2 a b a5.B hN.B aM bC dd u7 cX Ab (by simpa using h0) (by simpa using af)<|by rw[eT,eT,<-fc,<-fO,<-fh,<-fE];exact qq aq) ⟨aZ,o9,?_⟩;have uG:a5.B++hN.B=(a5++hN).B:=by simp
     rw[uG];have aF:H s.L=C:=I.b1.fresh<|cg _;refine⟨.ref s.L,_,I.laid (t':=s.toks) (o:=.aD<|fI++sD) (λb bJ q=>ec _ q) (cg _) ⟨by rw[gq,<-fh,<-fE];exact qq aq,_,o8.append lP,mh.new _ _⟩,rfl,k _ _ (.new aF) (aQ.new aF)<|qt fB<|(bR.mono (.new aF) _ _ cM).append (bR.mono (.new aF) _ _ eW)⟩
  ·exists e
 |[.ao xs,.ao aO],e =>
  have e:(if xs.H+aO.H<=bh then J (T.ao<|xs++aO,bo.aE) else C)=J (t,m):=e;split at e
  ·rename_i aq
   exists e
   obtain⟨v,w,rfl,bA,cp⟩:=m2 aU;obtain⟨a,fI,rfl,cu,cM⟩:=bA;obtain⟨b,sD,rfl,hD,eW⟩:=cp;obtain⟨fW,f7,rfl,aX,bb⟩:=bq.two
   exists aX;exists bb
   obtain⟨a5,o8,⟨⟨cls,dd,data,cX⟩,aM,aZ,aT,_,hd⟩,_⟩:=I.list cu.gh;obtain⟨hN,lP,⟨⟨agc,u7,data2,Ab⟩,bC,o9,Ac,_,hd2⟩,_⟩:=I.list hD.gh;simp only at aT hd Ac hd2;subst aT hd Ac hd2;have fh:=cM.H;have fE:=eW.H;have fc:=o8.H;have fO:=lP.H;refine Ce ⟨_,aZ,rfl⟩ ⟨_,o9,rfl⟩ noFill_list_add seq_list_add PySem.F.slot_list_add PySem.F.entry_list_add (PySem.F.args_list_add_2 _ _) (list_addW a b a5.B hN.B aM bC dd u7 cX Ab<|by rw[eT,eT,<-fc,<-fO,<-fh,<-fE];exact qq aq) ⟨aZ,o9,?_⟩;have uG:a5.B++hN.B=(a5++hN).B:=by simp
   rw[uG];have aF:H s.L=C:=I.b1.fresh<|cg _;exact⟨.ref _,_,I.LS (t':=s.toks) (o8.append lP) (by rw[gq,<-fh,<-fE];exact qq aq),rfl,k _ _ (.new aF) (aQ.new aF) ⟨_,rfl,aF,_,fB,(bR.mono (.new aF) _ _ cM).append (bR.mono (.new aF) _ _ eW)⟩⟩
  ·exists e
def aiy:fR X tw (λus=>call (.builtin "len") us) fe:=by
 intro B ae s O H ah us aA n t m Q I bq aU aQ e k;have num:∀(i:Int),Val X.K B tw H H (.int i) .ag<|.int i:=λi=>by show aI tw H (.int i) _;rw[aI]
 match aA,e with
 |[.ao xs],e =>
  exists e
  obtain⟨v,rfl,a,fI,rfl,cu,cM⟩:=iX aU;exact IL ae s O H _ us Q I bq ⟨_,fI.H,rfl,.inl ⟨fI,cu.gh,rfl⟩,by rw[<-cM.H];exact k _ H (.refl _ _) aQ<|num _⟩
 |[.aD xs],e =>
  exists e
  obtain⟨v,rfl,r⟩:=iX aU;obtain⟨a,fI,rfl,cu,cM⟩:=ku r;exact IL ae s O H _ us Q I bq ⟨_,fI.H,rfl,.inr ⟨fI,e5.of cu,rfl⟩,by rw[<-cM.H];exact k _ H (.refl _ _) aQ<|num _⟩
 |[.bk ay],e =>
  exists e
  obtain⟨v,rfl,a,fI,rfl,_,cu,cM⟩:=iX aU;obtain⟨u,rfl,eV⟩:=bq.one
  exists eV
  exact agP I cu λt' s' eG=>⟨.int fI.H,H,eG,⟨t',rfl⟩,by rw[<-cJ.length cM];exact k _ H (.refl _ _) aQ<|num _⟩
 |[.dq],e =>
  exists e
  obtain⟨v,rfl,r⟩:=iX aU;have r:aI tw H .dq v:=r;rw[aI]at r;subst r;exact IL ae s O H _ us Q I bq ⟨_,n,rfl,.inl ⟨_,gv.of aQ,by rw[ou]⟩,k _ H (.refl _ _) aQ<|num _⟩
def alR:fR X tw (λus=>call (.type "tuple") us) qp:=by
 intro B ae s O H ah us aA n t m Q I bq aU aQ e k
 match aA,e with
 |[.ao xs],e =>
  exists e
  obtain⟨v,rfl,a,fI,rfl,cu,cM⟩:=iX aU;exact OP ae s O H _ us Q I bq ⟨a,fI,rfl,.inl ⟨cu.gh,λl aB=>k _ _ (.new aB) (aQ.new aB)<|qt fB<|bR.mono (.new aB) _ _ cM⟩⟩
 |[.aD xs],e =>
  exists e
  obtain⟨v,rfl,r⟩:=iX aU;obtain⟨a,fI,rfl,cu,cM⟩:=ku r;exact OP ae s O H _ us Q I bq ⟨a,fI,rfl,.inr ⟨e5.of cu,k _ H (.refl _ _) aQ<|qt cu cM⟩⟩
def u9:T->Option (List T)
 |.ao xs=>J xs
 |.aD xs=>J xs
 |.bk ay=>J (ay.map λc9=>iH c9.1)
 |_=>C
def Ad{A':dH}{E:mt->aR->Prop}{ae:List Z1}{s:aR}{O:St}{H:aJ}{t:T}{v:V}{u:mt}{xs:List T}(bp:A'.handled=C)(I:aS X ae O H s)(r:eu X.K tw H t v)(bq:cW v u)(h:u9 t=J xs) :
  bl Z2 A' (l9 u) (λit gT=>∃oU fp wr P St,it=.ref oU/\Walks X.R X.w A' oU fp wr xs.H P St/\St 0 gT.Q/\(∀b∈fp,b<gT.L)/\(∀i u,P i u->∃v x,cW v u/\xs[i]?=J x/\aI tw H x v) /\
   ∀h' bx,(∀b o,b∉wr->gT.heap.get? b=J o->h'.get? b=J o)->aS X ae O H { gT with heap:=h',toks:=bx}) E s:=by
 have fin:∀{o:Obj} {h':Heap} {bx:Nat},(∀b dh,b∉[s.L]->(s.heap.push o).get? b=J dh->h'.get? b=J dh)->aS X ae O H { s with heap:=h',toks:=bx}:=λ{o h' bx} b8 =>
  I.kept λb dh e=>b8 b dh (by simp;exact bv<|d5 e)<|ec _ e
 have item:∀{us:List mt} {ah:List V} {aO:List T},cG ah us->bR tw H aO ah->∀(i:Nat) (w:mt),us.B[i]?=J w->∃v x,cW v w/\aO[i]?=J x/\aI tw H x v:=λ{us ah aO} bq rs i w e=>by
  have e:us[i]?=J w:=by simpa using e
  have hi:i<us.H:=(kK.mp e).1;obtain⟨v,af,ak⟩:=JA rs bq hi;have ks:i<aO.H:=by rw[rs.H,bq.H];exact hi
  refine⟨v,aO[i],?_,by simp[ks],?_⟩
  ·have:=(kK.mp e).2;rw[<-this];exact ak
  ·rw[nj,hh ks]at af;exact af
 cases t with
 |ao aO =>
  cases h;obtain⟨a,ah,rfl,e,q⟩:=r;cases bq;obtain⟨a5,bq,p,hz⟩:=I.list e.gh;have ba:a≠s.L:=bv (let ⟨o,aZ,_⟩:=p.isList;d5 aZ);refine B8 p.isList ⟨s.L,[s.L,a],[s.L],λi v=>a5.B[i]?=J v,λi h=>h.IsListIter s.L a i/\h.IsList a a5.B,rfl,?_,⟨⟨_,gB _ rfl,rfl,rfl⟩,p.isList.push _⟩,λb aq=>?_,item bq q,λh' bx b8=>fin b8⟩
  ·have:=Walks.list (prog:=X.R) (w:=X.w) bp s.L a ba a5.B;rw[show a5.B.O=xs.length by rw[eT,<-bq.H,<-q.H]]at this;exact this
  ·rw[nv];simp at aq;rcases aq with rfl|rfl
   ·exact oC _
   ·exact oB (let ⟨o,aZ,_⟩:=p.isList;d5 aZ)
 |aD aO =>
  cases h;obtain⟨a,ah,rfl,e,q⟩:=ku r;cases bq;obtain⟨a5,bq,p,hz⟩:=I.tuple<|e5.of (K:=X.K) e;have p:s.heap.IsTuple a a5.B:=p;have ba:a≠s.L:=bv (let ⟨o,aZ,_⟩:=p;d5 aZ);refine Hi p ⟨s.L,[s.L,a],[s.L],λi v=>a5.B[i]?=J v,λi h=>h.IsTupleIter s.L a i/\h.IsTuple a a5.B,rfl,?_,⟨⟨_,gB _ rfl,rfl,rfl⟩,let ⟨o,aZ,r⟩:=p;⟨o,ec _ aZ,r⟩⟩,λb aq=>?_,item bq q,λh' bx b8=>fin b8⟩
  ·have:=Walks.tuple (prog:=X.R) (w:=X.w) bp s.L a ba a5.B;rw[show a5.B.O=xs.length by rw[eT,<-bq.H,<-q.H]]at this;exact this
  ·rw[nv];simp at aq;rcases aq with rfl|rfl
   ·exact oC _
   ·exact oB (let ⟨o,aZ,_⟩:=p;d5 aZ)
 |bk ay =>
  exists h
  obtain⟨a,ws,rfl,na,e,q⟩:=r
  exists bq
  obtain⟨z,hd,us,rel,dd⟩:=j4 I.b1 e;obtain⟨ep,dP⟩:=dd.dictAt;have aB:ws.H=us.H:=Paired.length rel;have ba:a≠s.L:=bv dP.lt_size;refine wpAny_pyIter_dict hd dP ⟨s.L,[s.L,a],[s.L],λi v=>∃k x,us[i]?=J (k,x)/\(hH X.R X.w).is k v=Y0,λi h=>h.IsKeyIter s.L a i us.H ep/\h.DictAt (hH X.R X.w) a us ep,rfl,?_,⟨⟨_,gB _ rfl,rfl,rfl⟩,dP.push _⟩,λb aq=>?_,λi w aF=>?_,λh' bx b8=>fin b8⟩
  ·have:=Walks.dictKeys (prog:=X.R) (w:=X.w) (knd:=hH X.R X.w) bp s.L a ba us ep;have aW:us.H=(ay.map λc9=>iH c9.1).H:=by rw[cP,cJ.length q,aB]
   rw[<-aW];exact this
  ·rw[nv];simp at aq;rcases aq with rfl|rfl
   ·exact oC _
   ·exact oB dP.lt_size
  ·obtain⟨k,x,af,ak⟩:=aF;refine⟨eA k,iH k,Jl ak,?_,Jm k⟩;rw[ke];have hi:i<us.H:=(kK.mp af).1;have ks:i<ay.H:=by rw[cJ.length q,aB];exact hi
   obtain⟨v,g1,_⟩:=DT (k:=ay[i].1) (t:=ay[i].2) q (show ay[i]?=J (ay[i].1,ay[i].2) by simp[ks]);obtain⟨fu,g2⟩:=Jk rel g1;rw[af]at g2;have:k=ay[i].1:=by injection g2 with g2;injection g2
   rw[hh ks];show J (iH ay[i].1)=J (iH k);rw[this]
 |_=>exists h
theorem qu:∀{xs:List T} {ns:List Int},e2 xs=J ns->xs=ns.map T.int
 |[],_,h=>by exists h;rfl
 |.int i::r,ns,h=>by obtain⟨ms,af,ak⟩:=dw (show(e2 r).map (i::·)=J ns from h);subst ak;rw[cU,qu af]
 |.br::_,_,h=>by exists h
 |.aC _::_,_,h=>by exists h
 |.str _::_,_,h=>by exists h
 |.aD _::_,_,h=>by exists h
 |.ao _::_,_,h=>by exists h
 |.bk _::_,_,h=>by exists h
 |.dq::_,_,h=>by exists h
theorem Px:∀{ay:List (Key×T)} {ns:List Int},tR ay=J ns->(ay.map λc9=>iH c9.1)=ns.map T.int
 |[],_,h=>by exists h;rfl
 |(.inl k,x)::r,ns,h=>by obtain⟨ms,af,ak⟩:=dw (show(tR r).map (k::·)=J ns from h);subst ak;rw[cU,cU,Px af];rfl
 |(.inr k,x)::r,ns,h=>by exists h
def D2{ns:List Int}{i:Nat}(h:∃v x,cW v u/\(ns.map T.int)[i]?=J x/\aI tw H x v):∃t,u=.int (ns.getD i 0) t:=by
 obtain⟨v,x,af,ak,bc⟩:=h;rw[ke]at ak;cases e:ns[i]? with
 |none=>rw[e]at ak;exists ak
 |some z =>
  rw[e]at ak;have ak:T.int z=x:=Option.some.inj ak;subst ak;rw[aI]at bc;subst bc;obtain⟨t,rfl⟩:=af;refine⟨t,?_⟩;rw[nj,e];rfl
def abh(lt:Int->Int->Bool)(ns:List Int):∀(m:Nat),m<ns.H->ns.getD (argBest (λi j=>lt (ns.getD i 0)<|ns.getD j 0) m) 0=((ns.take<|m+1).tail).foldl (λa b=>if lt b a then b else a) (ns.getD 0 0):=by
 intro m
 induction m with
 |zero =>
  intro h;cases ns with
  |nil=>simp at h
  |cons x xs=>rfl
 |succ m a4 =>
  intro h;have a4:=a4<|ez h;have e:(ns.take<|m+1+1).tail=(ns.take<|m+1).tail++[ns.getD (m+1) 0]:=by
   cases ns with
   |nil=>simp at h
   |cons x xs =>
    rw[MD,MD,List.tail_cons,List.tail_cons];have h':m<xs.H:=by simpa using h
    rw[GR,hh h',nj,GC,hh h'];rfl
  rw[e,MK,<-a4];show ns.getD (if lt (ns.getD (m+1) 0) (ns.getD (argBest (λi j=>lt (ns.getD i 0)<|ns.getD j 0) m) 0)=Y0 then m+1 else argBest (λi j=>lt (ns.getD i 0)<|ns.getD j 0) m) 0=_;rw[mG,List.foldl_nil];split<;>rfl
def abi{i:Int}(h:least ns=J i):0<ns.H/\ns.getD (argBest (λi j=>decide (ns.getD i 0<ns.getD j 0))<|ns.H-1) 0=i:=by
 cases ns with
 |nil=>exists h
 |cons x xs =>
  refine⟨Nat.succ_pos _,?_⟩;have:=abh (λa b=>decide (a<b)) (x::xs) xs.H<|oC _;show(x::xs).getD (argBest _<|xs.H+1-1) 0=i;rw[MU];refine Eq.trans this ?_;rw[show(x::xs).take (xs.H+1)=x::xs from wb<|cg _];have h:xs.foldl (λa b=>if b<a then b else a) x=i:=Option.some.inj h;rw[<-h];show xs.foldl (λa b=>if decide (b<a)=Y0 then b else a) x=_;simp only[decide_eq_true_eq]
def Py{t:T}{xs:List T}{ns:List Int}{i:Int}{ae:List Z1}{s:aR}{O:St}{H:aJ}{v:V}{u:mt}{Q:fg}(bp:X.A.handled=C)(I:aS X ae O H s)(r:eu X.K tw H t v)(bq:cW v u)(h:u9 t=J xs)(av:xs=ns.map T.int)(aB:least ns=J i)(q:Q (.int i) H) :
  bl Z2 X.A (call (.builtin "min") [u]) (f5 X ae O Q) X.cv s:=by
 subst av;obtain⟨h0,aq⟩:=abi aB;refine call_min_walk (b2 (Ad (A':=X.A.in1) bp I r bq h) λit gT ⟨oU,fp,wr,P,St,e,W,st,rx,e3,fin⟩=>?_);refine⟨oU,fp,wr,_,P,St,_,e,W,st,rx,by simpa using h0,CmpOf.ints_lt (λi=>ns.getD i 0) λi v bS=>D2<|e3 i v bS,λhS h' bx bS b8=>?_⟩;obtain⟨D3,rfl⟩:=D2<|e3 _ _ bS;rw[cP];exact⟨.int i,H,fin h' bx b8,⟨D3,by rw[aq]⟩,q⟩
def aiz(aT:X.calm=Y0):fR X tw (λus=>call (.builtin "min") us) vV:=by
 intro B ae s O H ah us aA n t m Q I bq aU aQ e k;have num:∀(i:Int),Val X.K B tw H H (.int i) .ag<|.int i:=λi=>by show aI tw H (.int i) _;rw[aI]
 have bp:=I.ok.hd aT
 match aA,e with
 |[.ao xs],e =>
  obtain⟨ns,az,au⟩:=cn (show(e2 xs).bind _=_ from e);obtain⟨i,a6,bX⟩:=dw au
  exists bX
  obtain⟨v,rfl,r⟩:=iX aU;obtain⟨u,rfl,eV⟩:=bq.one;exact Py bp I r eV rfl (qu az) a6<|k _ H (.refl _ _) aQ<|num i
 |[.bk ay],e =>
  obtain⟨ns,az,au⟩:=cn (show(tR ay).bind _=_ from e);obtain⟨i,a6,bX⟩:=dw au
  exists bX
  obtain⟨v,rfl,r⟩:=iX aU;obtain⟨u,rfl,eV⟩:=bq.one;exact Py bp I r eV rfl (Px az) a6<|k _ H (.refl _ _) aQ<|num i
 |[.int a,.int b],e =>
  exists e
  obtain⟨v,w,rfl,bA,cp⟩:=m2 aU;obtain rfl:=iW bA;obtain rfl:=iW cp;exact aal aT ae s O H _ us Q I bq ⟨a,b,rfl,k _ H (.refl _ _) aQ<|num _⟩
def Pz(ns:List Int):∀(m:Nat),m<=ns.H->preSum (λi=>ns.getD i 0) m=cI (ns.take m):=by
 have app:∀(a b:List Int),cI (a++b)=cI a+cI b:=λa b=>by
  induction a with
  |nil=>simp[cI]
  |cons x xs a4=>rw[GP,cI,a4,cI];lia
 intro m
 induction m with
 |zero=>intro _;rfl
 |succ m a4 =>
  intro h;have h':m<ns.H:=h;rw[preSum,a4<|ez h',GR,hh h',app,nj,hh h'];simp[cI]
theorem JC:∀{xs:List T} {bs:List Bool},hP xs=J bs->xs=bs.map T.aC
 |[],_,h=>by exists h;rfl
 |.aC i::r,ns,h=>by obtain⟨ms,af,ak⟩:=dw (show(hP r).map (i::·)=J ns from h);subst ak;rw[cU,JC af]
 |.br::_,_,h=>by exists h
 |.int _::_,_,h=>by exists h
 |.str _::_,_,h=>by exists h
 |.aD _::_,_,h=>by exists h
 |.ao _::_,_,h=>by exists h
 |.bk _::_,_,h=>by exists h
 |.dq::_,_,h=>by exists h
def PA{bs:List Bool}{i:Nat}(h:∃x y,cW x v/\(bs.map T.aC)[i]?=J y/\aI tw H y x):v=.bool (bs.getD i Y1):=by obtain⟨x,y,af,ak,bc⟩:=h;rw[ke]at ak;obtain⟨z,e,rfl⟩:=dw ak;rw[aI]at bc;subst bc;rw[nj,e];exact af
theorem PB:∀bs:List Bool,((List.range bs.H).all λi=>bs.getD i Y1)=bs.all id
 |[]=>rfl
 |b::bs=>by rw[d8,GG,jT,pP,jT,<-PB bs];rfl
def aiA(aT:X.calm=Y0):fR X tw (λus=>call (.builtin "all") us) ji:=by
 intro B ae s O H ah us aA n t m Q I bq aU aQ e k;have bp:=I.ok.hd aT
 match aA,e with
 |[.ao xs],e =>
  obtain⟨bs,az,au⟩:=dw (show(hP xs).map _=_ from e)
  exists au
  obtain rfl:=JC az;obtain⟨v,rfl,r⟩:=iX aU;obtain⟨u,rfl,eV⟩:=bq.one;refine call_all_walk (b2 (Ad (A':=X.A.in1) bp I r eV rfl) λit gT ⟨oU,fp,wr,P,St,e,W,st,rx,e3,fin⟩=>?_);refine⟨oU,fp,wr,_,P,St,λi=>bs.getD i Y1,e,W,st,λi v s' e8 oV bS eM=>?_,λh' bx b8=>?_⟩
  ·rw[PA<|e3 i v bS];exact qW eM
  ·rw[cP,PB bs];exact⟨.aC _,H,fin h' bx b8,rfl,k _ H (.refl _ _) aQ<|by show aI tw H (.aC _) _;rw[aI]⟩
def UU{i:Int}(r:bR tw H xs ah)(h:gE xs i=J t):∃v,xb ah i=J v/\aI tw H t v:=by
 have aB:=r.H;unfold gE at h;unfold xb sX;by_cases h0:0<=i
 ·rw[Y2 h0]at h |-;by_cases af:i<xs.H
  ·rw[Y2 af]at h;rw[Y2<|by rw[<-aB];exact af];obtain⟨v,az,au⟩:=r.get h;exact⟨v,az,au⟩
  ·rw[Y3 af]at h;exists h
 ·rw[Y3 h0]at h |-;by_cases af:-(xs.H:Int)<=i
  ·rw[Y2 af]at h;rw[Y2<|by rw[<-aB];exact af];obtain⟨v,az,au⟩:=r.get h;exact⟨v,by rw[<-aB];exact az,au⟩
  ·rw[Y3 af]at h;exists h
def Ae(b7:X.A.units+1<ir)(value slice:Expr)(aP:∀v u,Cf slice Y1 v u=operate [v,u] (nC v u)):fR X tw (two λv u=>Ci value slice v u) dv:=by
 intro B ae s O H ah us aA n t m Q I bq aU aQ e k
 match aA,e with
 |[.ao xs,.int i],e =>
  obtain⟨t0,az,au⟩:=dw (show(gE xs i).map _=_ from e)
  exists au
  obtain⟨v,w,rfl,bA,cp⟩:=m2 aU;obtain rfl:=iW cp;obtain⟨a,fI,rfl,cu,cM⟩:=bA;obtain⟨fW,f7,rfl,aX,bb⟩:=bq.two;obtain⟨x,af,ak⟩:=UU cM az;exact ajN value slice ae s O H _ _ fW f7 Q I aX bb ⟨a,fI,i,x,rfl,rfl,cu.gh,af,k _ H (.refl _ _) aQ ak⟩<|aP _ _
 |[.aD xs,.int i],e =>
  obtain⟨t0,az,au⟩:=dw (show(gE xs i).map _=_ from e)
  exists au
  obtain⟨v,w,rfl,bA,cp⟩:=m2 aU;obtain rfl:=iW cp;obtain⟨a,fI,rfl,cu,cM⟩:=ku bA;obtain⟨fW,f7,rfl,aX,bb⟩:=bq.two;obtain⟨x,af,ak⟩:=UU cM az;exact ah4 value slice ae s O H _ _ fW f7 Q I aX bb ⟨a,fI,i,x,rfl,rfl,e5.of cu,af,k _ H (.refl _ _) aQ ak⟩<|aP _ _
 |[.bk ay,kt],e =>
  obtain⟨gX,az,au⟩:=cn (show(kc kt).bind _=_ from e);obtain⟨t0,a6,bX⟩:=dw au
  exists bX
  obtain⟨v,w,rfl,bA,cp⟩:=m2 aU;obtain rfl:=Jh az cp;obtain⟨a,ws,rfl,_,cu,cM⟩:=bA;obtain⟨fW,f7,rfl,aX,bb⟩:=bq.two
  exists aX
  rcases cJ.at gX cM with⟨z,_⟩|⟨t1,x,af,ak,bc⟩
  ·rw[a6]at z;exists z
  ·rw[a6]at af;exists af;have g:Bv H a (eA gX)<|some x:=⟨ws,gX,cu,rfl,ak.symm⟩
   exact tail_any (ops:=[.ref a,f7]) (aaB I g) PySem.F.slot_dict_getitem.lookup (aaz b7 I g bb λfS s' eG kq=>⟨x,H,eG,kq,k _ H (.refl _ _) aQ bc⟩)<|aP _ _
def zc(X:bI)(tw:Addr)(e:Option Expr)(d:y3):Prop:=∀B S n i n',d S n=J (i,n')->y2 X e (λO H Q=>dr X.K B tw S n O H/\∀aj,dn tw H aj->df tw n' aj->Q i aj)
def aka:zc X tw C lK:=by
 intro B S n i n' hd ae s O H Q I ⟨R,k⟩
 exists hd
 exact ajK ae s O H Q I<|k H (.refl _ _) R.aQ
def akb(h:bF X tw e d):zc X tw (J e)<|lL d:=by
 intro B S n i n' hd ae s O H Q I ⟨R,k⟩;obtain⟨⟨t,m,aM⟩,az,au⟩:=cn hd;cases t with
 |int j =>
  exists au
  refine ajL (h B S n _ m aM az) ae s O H Q I ⟨R,λv aj x y z=>?_⟩;obtain rfl:=iW<|z.root (R.mono x y) R.aQ;exact⟨j,rfl,k aj x y⟩
 |_=>exists au
def ti(n d:Nat)(o:Option Int):bound n d o=fD.dX n d o:=by exists o<;>rfl
def akc{o e f:Expr}{eP ic Nx:bM}{apos eb:Pos}(b7:X.A.units+1<ir)(aZ:bF X tw o eP)(he:bF X tw e ic)(hf:bF X tw f Nx)(m:M2 X o "get" apos e f eb):bF X tw (.Call (.Attribute o "get" apos) [e,f] [] eb)<|aH ml<|aa eP<|aa ic<|aa Nx ar:=by
 intro B S n t kj n' hd ae s O H Q I ⟨R,k⟩;obtain⟨to,mo,no,te,zd,ne,HM,Wa,f1,g1,af,a6⟩:=ajW hd;refine alG b7 (aZ B S n to mo no f1) (he B S no te zd ne g1) (hf B S ne HM Wa n' af) m ae s O H Q I ⟨R,λv H1 bH fb cN=>?_⟩;have bt:=R.mono bH fb;cases to with
 |bk ay =>
  have a6:(if hn HM then C else(kc te).map λk=>((iV ay k).getD HM,bo.ag))=J (t,kj):=a6;split at a6
  ·exists a6
  ·rename_i aq;obtain⟨gX,aX,bb⟩:=dw a6
   exists bb
   have aU:=cN.root bt R.aQ;obtain⟨a,ws,rfl,na,cu,cM⟩:=id aU;refine⟨a,rfl,⟨ws,cu⟩,bt,λv2 bV cf lH dD=>?_⟩;have dj:=bt.mono cf lH;refine⟨dj,λNw ee bY nL iN=>?_⟩;have mf:=dj.mono bY nL;obtain rfl:=Jh aX<|dD.root dj bt.aQ;have Af:=cf.trans bY;obtain⟨gJ,Ag,abj,_,hD,eW⟩:=eu.ext bt.aQ Af aU
   exists abj
   refine⟨qL Ag gX,⟨Ag,gX,hD,rfl,rfl⟩,k _ ee (bH.trans Af) nL ?_⟩;rcases cJ.at gX eW with⟨b6,dA⟩|⟨t,x,b6,dA,jY⟩
   ·rw[b6,dA];exact(iN.root mf dj.aQ).rep (by simpa using aq)
   ·rw[b6,dA];exact jY
 |_=>exists a6
noncomputable def tyName:Ty->String
 |.int=>"int"
 |.bool=>"bool"
 |.list=>"list"
 |.tuple=>"tuple"
 |.str=>"str"
 |.dict=>"dict"
noncomputable def VE:T->String
 |.br=>"NoneType"
 |.aC _=>"bool"
 |.int _=>"int"
 |.str _=>"str"
 |.aD _=>"tuple"
 |.ao _=>"list"
 |.bk _=>"dict"
 |.dq=>"list"
 |.bJ _=>"object"
def aiB(K:W.Frag)(k:Ty)(t:T)(b:Bool)(h:og k t=J b):W.kitOne K (.type<|VE t) (.type<|tyName k)=J b:=by
 exists k<;>exists t<;>first|(exists h;done)|(exists h;first|rfl|decide+kernel|kernel_rfl)
def alS{ae:List Z1}{s:aR}{O:St}{H:aJ}{t:T}{v:V}{u c:mt}{b:Bool}{Q:mt->aR->Prop}(I:aS X ae O H s)(r:eu X.K tw H t v)(bq:cW v u)(cA:t≠.dq)(ba:∀a,t≠.bJ a)(e:W.kitOne X.K (.type<|VE t) c=J b)(h:∀bx,Q (.bool b) { s with toks:=bx}) :
  bl Z2 X.A (call (.builtin "isinstance") [u,c]) Q X.cv s:=by
 cases t with
 |br=>have r:aI tw H .br v:=r;rw[aI]at r;subst r;exact zO I bq .br e h
 |aC b=>have r:aI tw H (.aC b) v:=r;rw[aI]at r;subst r;exact zO I bq (.aC b) e h
 |int i=>have r:aI tw H (.int i) v:=r;rw[aI]at r;subst r;exact zO I bq (.int i) e h
 |str x=>have r:aI tw H (.str x) v:=r;rw[aI]at r;subst r;exact zO I bq (.str x) e h
 |aD xs=>obtain⟨a,ah,rfl,cu,q⟩:=ku r;exact zO I bq (.aD cu) e h
 |dq=>exact absurd rfl cA
 |bJ a=>exact absurd rfl<|ba a
 |ao xs =>
  obtain⟨a,ah,rfl,cu,q⟩:=r
  exists bq
  obtain⟨a5,_,⟨o,n,aZ,aT,_⟩,_⟩:=I.list cu.gh;exact W.kia_one W.kitx_list I.hJ ⟨o,aZ,aT⟩ e (λz=>nomatch z) h
 |bk ay =>
  obtain⟨a,ws,rfl,_,cu,q⟩:=r
  exists bq
  obtain⟨_,_,ah,_,o,es,ep,af,ak,_⟩:=j4 I.b1 cu;exact W.kia_one W.kitx_dict I.hJ ⟨o,af,ak.1⟩ e (λz=>nomatch z) h
def D4{e:Expr}{d:bM}{k:Ty}{kW:Str}{p gM pos:Pos}(h:bF X tw e d)(hm:X.a3 "isinstance" = C)(gs:X.a3 kW=C)(bS:l6 kW=J (.type<|tyName k))(bT:autoParam (fv X "isinstance") bu)(abk:autoParam (fv X kW) bu)(bz:autoParam (kW ≠ "__name__") eL)(fP:autoParam ((kW==("__debug__" : Str))=Y1) eL)
  (he:autoParam (b4 [e,.Name kW gM] X.I=ZG::b4 [.Name kW gM] X.I) bu) (lg:autoParam (b4 [.Name kW gM] X.I=(Y1,eval (.Name kW gM) X.I)::b4 [] X.I) bu) (eR:autoParam ((ff pos<|b4 [.Name kW gM] X.I).any (·.1)=Y1) bu) (aq:autoParam (l6 "isinstance" = J (.builtin "isinstance")) az11._auto_1) :
  bF X tw (.Call (.Name "isinstance" p) [e,.Name kW gM] [] pos) (aH (dR k)<|aa d ar):=by
 intro B S n t m n' hd ae s O H Q I ⟨R,mb⟩;obtain⟨t0,m0,f1,a6⟩:=DH hd;obtain⟨b,g1,g2⟩:=dw (show(og k t0).map _=_ from a6)
 exists g2
 refine l5<|k7 I bT hm aq ?_ Z0 Z0;refine PyProof.Rows.callWith_builtin1 ?_ he eR;rw[he];show bl _ _ (sm<|ZG::ff pos (b4 [.Name kW gM] X.I)) _ _ s;refine h9 (b2 (h.run f1 I R) λu s1 ⟨v,H1,bf,bA,a1,bt,b6⟩=>?_);rw[lg];show bl _ _ (sm<|(Y1,eval (.Name kW gM) X.I)::ff pos (b4 [] X.I)) _ _ s1;refine h9<|k7 bf abk gs bS (l4 ?_) bz fP;refine alS bf (b6.root bt R.aQ) bA (λz=>by subst z;cases k<;>cases g1) (λa z=>by subst z;cases k<;>cases g1) (aiB X.K k t0 b g1) λbx=>?_;exact⟨.aC b,H1,bf.tok bx,rfl,mb _ H1 a1 bt.aQ<|by show aI tw H1 (.aC b) _;rw[aI]⟩
def alT(b7:X.A.units<ir):∀(ae:List Z1) (s:aR) (O:St) (H:aJ) (a b:Addr) (ws:List (Key×V)) (Q:mt->aR->Prop),aS X ae O H s->iM H a (.aw ws)->iM H b (.aw [])->(∀s',aS X ae O H s'->Q (.bool ws.isEmpty) s')->bl Z2 X.A (hp .Eq (.ref a)<|.ref b) Q X.cv s:=by
 intro ae s O H a b ws Q I cu hD k;obtain⟨_,ba,us,oR,dP⟩:=j4 I.b1 cu;obtain⟨_,aq,va,wV,db⟩:=j4 I.b1 hD
 exists wV
 refine W.keq_eq (r:=Y0) ba aq dP db b7 (λaB=>?_) ?_
 ·obtain rfl:=io aB;exact .nil
 ·cases oR with
  |nil=>exact k s I
  |cons _ _=>exact k s I
def PC(b7:X.A.units<ir):∀(ae:List Z1) (s:aR) (O:St) (H:aJ) (a b:Addr) (ws:List (Key×V)) (Q:mt->aR->Prop),aS X ae O H s->iM H a (.aw ws)->iM H b (.aw [])->(∀s',aS X ae O H s'->Q (.bool<|!ws.isEmpty) s')->bl Z2 X.A (hp .NotEq (.ref a)<|.ref b) Q X.cv s:=by
 intro ae s O H a b ws Q I cu hD k;obtain⟨_,ba,us,oR,dP⟩:=j4 I.b1 cu;obtain⟨_,aq,va,wV,db⟩:=j4 I.b1 hD
 exists wV
 refine W.keq_ne (r:=Y0) ba aq dP db b7 (λaB=>?_) ?_
 ·obtain rfl:=io aB;exact .nil
 ·cases oR with
  |nil=>exact k s I
  |cons _ _=>exact k s I
def akd{pos:Pos}:bF X tw (.Dict [] [] pos) Ma:=by
 intro B S n t m n' hd ae s O H Q I ⟨R,k⟩
 exists hd
 exact alE ae s O H Q I λp aF=>k _ _ (.new aF) (R.aQ.new aF) ⟨p,rfl,aF,[],fB,by rw[cJ]⟩
def ake{i:Int}{j:Nat}{pi pos:Pos}{e:Expr}{d:bM}(h:bF X tw e d):bF X tw (.Dict [J<|.Constant (.int i) j pi] [e] pos)<|Mb (aw<|.int i)<|aY d:=by
 intro B S n t m n' hd ae s O H Q I ⟨R,k⟩;obtain⟨⟨bx,mk,mR⟩,az,au⟩:=cn hd
 exists az
 obtain⟨gX,a6,bX⟩:=cn au
 exists a6
 obtain⟨⟨hW,HG,Ny⟩,eQ,fN⟩:=dw bX;cases fN;obtain rfl:=z7 eQ;refine ajS (alF Dm ((xo h) B S n hW .ag Ny eQ) ajR) rfl rfl Z7 Z7 ae s O H Q I λp aF=>?_;have bt:=R.mono (.new (o:=.aw []) aF)<|R.aQ.new aF;show q3 X.K B tw S n hW .ag Ny O (c4 H p<|.aw []) _;refine⟨bt,λv bV x y z=>?_⟩;have np:p≠tw:=R.aQ.tS aF;have JD:bV p=J (.aw []):=x.to p _ fB np;refine⟨JD,[(.inl i,v)],rfl,by simp,?_⟩;have de:eI bV<|c4 bV p<|.aw<|xc [] [(.inl i,v)]:=λb=>⟨λah q=>by rw[e0<|by rintro rfl;rw[JD]at q;cases q];exact q,λ_ _ q=>by rw[e0<|by rintro rfl;rw[JD]at q;cases q];exact q⟩
 refine k _ _ (((dn.new aF).trans x).put aF) ?_ ⟨p,rfl,aF,_,fB,?_⟩
 ·show c4 bV p _ tw=_;rw[e0 np.symm];exact y
 ·show cJ tw _ [(.inl i,hW)] [(.inl i,v)];exact xr (aI.mono de _ _ z) (by rw[cJ])
def abl:fillsNumberSlot (.type "tuple") "mul" = pure Y1 :=
 PySem.fillsNumberSlot_seq (id:="tuple.__mul__") (r:=J<|.builtin "tuple.__rmul__") PySem.F.slot_tuple_mul.lookup (by decide+kernel) PySem.F.slot_tuple_rmul.lookup (by decide+kernel)
def abm:seqRepeat? (.type "tuple")=pure (J<|.builtin "tuple.__mul__"):=by unfold seqRepeat?;rw[PySem.seqSlot_of (T:="tuple") (name:="__mul__") (id:="tuple.__mul__") PySem.F.slot_tuple_mul.lookup (by decide+kernel),PySem.seqSlot_of (T:="tuple") (name:="__rmul__") (id:="tuple.__rmul__") PySem.F.slot_tuple_rmul.lookup<|by decide+kernel];rfl
def alU(a:Int)(t:Tok)(l:Addr)(items:Array mt)(n:Nat)(dd:Option Addr)(cX:Array<|Option mt) :
  Meets (Builtin.«int.__rmul__» ⟨[.int a t,.ref l],[]⟩) (λ_ R s=>s.heap.get? l=J { cls:=.type "tuple",dict:=dd,data:=.seq items n,slots:=cX}/\R (.ok<|.ret Value.notImplemented) s) :=
 .of_wp λprog w A R s h=>by obtain⟨aF,g,d,bx,os⟩:=s;obtain⟨aB,h⟩:=h;wp_walk;exact⟨_,rfl,h⟩
def abn(l:Addr)(items:Array mt)(n:Nat)(dd:Option Addr)(cX:Array<|Option mt)(x:Int)(u:Tok)(h0:items.isEmpty=Y1)(af:(x==1)=Y1)(ak:¬x<=0)(bc:x<2^63)(cL:items.O*x.M<=dg) :
  Meets (Builtin.«tuple.__mul__» ⟨[.ref l,.int x u],[]⟩) (λ_ R s=>s.heap.get? l=J { cls:=.type "tuple",dict:=dd,data:=.seq items n,slots:=cX}/\R (.ok<|.ret<|Value.ref s.L) { s with heap:=s.heap.push { cls:=Value.type "tuple",data:=Data.seq (List.foldl (λbH cf=>bH++cf) #[] (List.replicate x.M items))},toks:=s.toks}) :=
 .of_wp λprog w A R s h=>by
  obtain⟨aF,g,d,bx,os⟩:=s;obtain⟨aB,h⟩:=h;have f1:=PySem.AutoSeq1.idx_int
  have az:¬ (decide (x < -2^63)||decide (x>=2^63))=Y0:=by simp;lia
  have au:¬ (items.isEmpty||x==1)=Y0:=by rw[h0,af];decide
  have a6:¬ (decide (x<=0)||items.isEmpty)=Y0:=by rw[h0];simp;exact sf ak
  have dE:(items.O:Int)*x<=dg:=by
   have:x=(x.M:Int):=by lia
   rw[this];exact_mod_cast cL
  have bX:¬ ↑items.O*x>(2^63-1) / 8:=by
   have:((dg:Nat):Int)<=(2^63-1) / 8:=by decide
   exact yJ<|jn dE this
  have eQ:¬Builtin.Tuple.tupleTooMany (↑items.O*x)=Y0:=by unfold Builtin.Tuple.tupleTooMany;simp;exact dE
  have fN:¬ (List.foldl (λbH cf=>bH++cf) #[] (List.replicate x.M items)).O>dg:=by
   have:=foldl_rep items.D x.M []
   rw[pO,B2]at this;have e:(#[]:Array mt)=([]:List mt).B:=rfl;rw[e,this,eT,len_rep,qU,gH];exact sa cL
  wp_walk using PySem.AutoSeq1.wpAny_loadPart' aB
  rw[Y3 az]
  wp_walk using PySem.AutoSeq1.wpAny_loadPart' aB
  rw[Y3 bX]
  wp_walk
  exact⟨_,rfl,h⟩
def abo(l:Addr)(items:Array mt)(n:Nat)(dd:Option Addr)(cX:Array<|Option mt)(x:Int)(u:Tok)(af:(items.isEmpty||x==1)=Y0)(bc:x<2^63)(cL:-(2^63)<=x) :
  Meets (Builtin.«tuple.__mul__» ⟨[.ref l,.int x u],[]⟩) (λ_ R s=>s.heap.get? l=J { cls:=.type "tuple",dict:=dd,data:=.seq items n,slots:=cX}/\R (.ok<|.ret<|Value.ref l) s) :=
 .of_wp λprog w A R s h=>by
  obtain⟨aF,g,d,bx,os⟩:=s;obtain⟨aB,h⟩:=h;have f1:=PySem.AutoSeq1.idx_int
  have az:¬ (decide (x < -2^63)||decide (x>=2^63))=Y0:=by simp;exact And.intro cL bc
  wp_walk using PySem.AutoSeq1.wpAny_loadPart' aB
  rw[Y3 az]
  wp_walk using PySem.AutoSeq1.wpAny_loadPart' aB
  exact⟨_,rfl,h⟩
def abp(l:Addr)(items:Array mt)(n:Nat)(dd:Option Addr)(cX:Array<|Option mt)(x:Int)(u:Tok)(h0:items.isEmpty=Y1)(ak:x<=0)(cL:-(2^63)<=x) :
  Meets (Builtin.«tuple.__mul__» ⟨[.ref l,.int x u],[]⟩) (λ_ R s=>s.heap.get? l=J { cls:=.type "tuple",dict:=dd,data:=.seq items n,slots:=cX}/\R (.ok<|.ret<|Value.ref s.L) { s with heap:=s.heap.push { cls:=Value.type "tuple",data:=Data.seq #[]},toks:=s.toks}) :=
 .of_wp λprog w A R s h=>by
  obtain⟨aF,g,d,bx,os⟩:=s;obtain⟨aB,h⟩:=h;have f1:=PySem.AutoSeq1.idx_int
  have az:¬ (decide (x < -2^63)||decide (x>=2^63))=Y0:=by simp;exact And.intro cL<|ny ak Z0
  have au:¬ (items.isEmpty||x==1)=Y0:=by rw[h0];simp;exact yK<|ny ak Z0
  have a6:(decide (x<=0)||items.isEmpty)=Y0:=by simp[ak]
  wp_walk using PySem.AutoSeq1.wpAny_loadPart' aB
  rw[Y3 az]
  wp_walk using PySem.AutoSeq1.wpAny_loadPart' aB
  rw[Y3 au]
  wp_walk
  exact⟨_,rfl,h⟩
def abq{n:Nat}{x:Int}(aB:s.heap.get? l=J { cls:=.type "tuple",dict:=dd,data:=.seq a5.B n,slots:=cX})
  (af:-(2^63)<=x) (ak:x<2^63) (cL:a5.H*x.M<=dg) (h:(a5=[]\/x=1)->Q (.ref l) s) (h':Q (.ref s.L) { s with heap:=s.heap.push { cls:=Value.type "tuple",data:=Data.seq (List.replicate x.M a5).flatten.B},toks:=s.toks}) :
  bl Z2 X.A (l8 .Mult (.ref l)<|.int x u) Q X.cv s:=by
 refine Nb (T:="tuple") (U:="int") Z0 ⟨_,aB,rfl⟩ (λs'=>yT s' x u) abl F.fills_int_mul F.slot_int_rmul abm F.slot_int_index.lookup
  (nz F.slot_int_rmul (yT s x u) F.entry_int_rmul (F.args_int_rmul_2 _ _) (alU x u l a5.B n dd cX) ⟨aB,rfl,⟨_,aB,rfl⟩,?_⟩)
 have f0:List.foldl (λbH cf=>bH++cf) #[] (List.replicate x.M a5.B)=(List.replicate x.M a5).flatten.B:=by
  have:=foldl_rep a5 x.M []
  rw[pO]at this;exact this
 by_cases b6:a5=[]\/x=1
 ·refine nz F.slot_tuple_mul ⟨_,aB,rfl⟩ F.entry_tuple_mul (F.args_tuple_mul_2 _ _) (abo l a5.B n dd cX x u ?_ ak af) ⟨aB,h b6⟩;rcases b6 with c|c<;>simp[c]
 ·have dA:a5≠[]:=λz=>b6<|.inl z;have jY:x≠1:=λz=>b6<|.inr z;have hu:a5.B.isEmpty=Y1:=by cases a5 with
   |nil=>exact absurd rfl dA
   |cons a r=>simp
  by_cases q8:x<=0
  ·refine nz F.slot_tuple_mul ⟨_,aB,rfl⟩ F.entry_tuple_mul (F.args_tuple_mul_2 _ _) (abp l a5.B n dd cX x u hu q8 af) ⟨aB,?_⟩;have:x.M=0:=by lia
   rw[this]at h';exact h'
  ·refine nz F.slot_tuple_mul ⟨_,aB,rfl⟩ F.entry_tuple_mul (F.args_tuple_mul_2 _ _) (abn l a5.B n dd cX x u hu (by simpa using jY) q8 ak<|by rw[eT];exact cL) ⟨aB,?_⟩;rw[f0];exact h'
def aiC:fR X tw (two<|l8 .Mult) kE:=by
 intro B ae s O H ah us aA n t m Q I bq aU aQ e k
 match aA,e with
 |[.int a,.int b],e =>
  have e:(if small a||small b then J (T.int<|a*b,bo.ag) else C)=J (t,m):=e;split at e
  ·rename_i aP
   exists e
   obtain⟨v,w,rfl,bA,cp⟩:=m2 aU;obtain rfl:=iW bA;obtain rfl:=iW cp;obtain⟨fW,f7,rfl,aX,bb⟩:=bq.two;have aT:FW a b:=by
    simp only[small,Bool.or_eq_true,decide_eq_true_eq]at aP;rcases aP with aP|aP
    ·exact .inl ⟨by lia,by lia⟩
    ·exact .inr ⟨by lia,by lia⟩
   exact ahY ae s O H _ _ fW f7 Q I aX bb ⟨a,b,rfl,rfl,aT,k _ H (.refl _ _) aQ<|by show aI tw H (.int _) _;rw[aI]⟩
  ·exists e
 |[.aD xs,.int j],e =>
  have e:(if xs.H<=1000 /\ -1000<=j/\j<=10000/\xs.H*j.M<=bh then J (T.aD (List.replicate j.M xs).flatten,bo.ag) else C)=J (t,m):=e;split at e
  ·rename_i aq;obtain⟨_,cq,cE,fj⟩:=aq
   exists e
   obtain⟨v,w,rfl,bA,cp⟩:=m2 aU;obtain⟨a,fI,rfl,cu,cM⟩:=ku bA;obtain rfl:=iW cp;obtain⟨fW,f7,rfl,aX,bb⟩:=bq.two
   exists aX
   obtain⟨bx,rfl⟩:=bb;obtain⟨a5,o8,dB,_⟩:=I.tuple<|e5.of (K:=X.K) cu;obtain⟨⟨cls,dd,data,cX⟩,aZ,aT,aM,hd⟩:=id dB;simp only at aT hd;subst aT hd;have fh:=cM.H;have fc:=o8.H;have hz:a5.H*j.M<=dg:=by rw[<-fc,<-fh];exact qq fj
   have aF:H s.L=C:=I.b1.fresh<|cg _;refine abq aZ (jn Z0 cq) (ny cE Z0) hz (λc=>?_) ?_
   ·have:(List.replicate j.M xs).flatten=xs:=by
     rcases c with c|c
     ·have:xs=[]:=io (by rw[fh,fc,c];rfl);subst this;simp
     ·subst c;simp
    rw[this]at k;exact⟨.ref a,H,I,rfl,k _ H (.refl _ _) aQ<|qt cu cM⟩
   ·refine⟨.ref s.L,_,I.laid (t':=s.toks) (o:=.aD (List.replicate j.M fI).flatten) (λb bJ q=>ec _ q) (cg _) ⟨by rw[len_rep,qU,fc];exact hz,_,o8.rep _,mh.new _ _⟩,rfl,k _ _ (.new aF) (aQ.new aF)<|qt fB<|(bR.mono (.new aF) _ _ cM).rep _⟩
  ·exists e
theorem xy:∀{xs:List T} {us:List mt},us.H=xs.H->(∀(i:Nat) (u:mt),us[i]?=J u->∃v x,cW v u/\xs[i]?=J x/\aI tw H x v)->∃ah,cG ah us/\bR tw H xs ah
 |[],[],_,_=>⟨[],.nil,.nil⟩
 |x::xs,u::us,aB,h=>by
  obtain⟨v,fz,r,e,q⟩:=h 0 u rfl;have e:x=fz:=by simpa using e
  subst e;obtain⟨ah,af,ak⟩:=xy (xs:=xs) (us:=us) (by simpa using aB) λi u e=>by obtain⟨v,x,r,bN,q⟩:=h (i+1) u (by simpa using e);exact⟨v,x,r,by simpa using bN,q⟩
  exact⟨v::ah,.cons r af,.cons q ak⟩
 |[],_::_,aB,_=>by simp at aB
 |_::_,[],aB,_=>by simp at aB
def PD{a:Addr}{s:aR}{ae:List Z1}{O:St}{ay:List<|Key×T}{us:List<|Key×mt}(q:cJ tw H ay ws)(rel:fq ws us)(i:Nat)(w:mt)
  (aF:∃k x,us[i]?=J (k,x)/\(hH X.R X.w).is k w=Y0):∃v x,cW v w/\(ay.map λc9=>iH c9.1)[i]?=J x/\aI tw H x v:=by
 obtain⟨k,x,af,ak⟩:=aF;have aB:ws.H=us.H:=Paired.length rel;refine⟨eA k,iH k,Jl ak,?_,Jm k⟩;rw[ke];have hi:i<us.H:=(kK.mp af).1;have ks:i<ay.H:=by rw[cJ.length q,aB];exact hi
 obtain⟨v,g1,_⟩:=DT (k:=ay[i].1) (t:=ay[i].2) q (show ay[i]?=J (ay[i].1,ay[i].2) by simp[ks]);obtain⟨fu,g2⟩:=Jk rel g1;rw[af]at g2;have:k=ay[i].1:=by injection g2 with g2;injection g2
 rw[hh ks];show J (iH ay[i].1)=J (iH k);rw[this]
def abr{A':dH}{E:mt->aR->Prop}{ae:List Z1}{s:aR}{O:St}{H:aJ}{t:T}{v:V}{u:mt}{xs:List T}{Q:List mt->aR->Prop}(bp:A'.handled=C)(I:aS X ae O H s)(r:eu X.K tw H t v)(bq:cW v u)(h:u9 t=J xs)
  (k:∀us ah h' bx,cG ah us->bR tw H xs ah->us.H<=dg->ZX->Q us { s with heap:=h',toks:=bx}):bl (bg X.R X.w) A' (collect u) Q E s:=by
 cases t with
 |ao aO =>
  exists h
  obtain⟨a,ah,rfl,e,q⟩:=r
  exists bq
  obtain⟨a5,bq,p,hz⟩:=I.list e.gh;obtain⟨o,aZ,aT,n,hd⟩:=p.isList;have qr:a5.B.O<=dg:=by rw[eT];first|exact hz|(rw[<-bq.H];exact hz)
  exact wpAny_collect_seq a (.inl rfl) aZ aT hd (λh' b8=>k a5 ah h' s.toks bq q (by simpa using qr) b8) qr
 |aD aO =>
  exists h
  obtain⟨a,ah,rfl,e,q⟩:=ku r
  exists bq
  obtain⟨a5,bq,p,hz⟩:=I.tuple<|e5.of (K:=X.K) e;obtain⟨o,aZ,aT,n,hd⟩:=id p;have qr:a5.B.O<=dg:=by rw[eT];first|exact hz|(rw[<-bq.H];exact hz)
  exact wpAny_collect_seq a (.inr rfl) aZ aT hd (λh' b8=>k a5 ah h' s.toks bq q (by simpa using qr) b8) qr
 |bk ay =>
  exists h
  obtain⟨a,ws,rfl,na,e,q⟩:=r
  exists bq
  obtain⟨z,hd,us,rel,dd⟩:=j4 I.b1 e;obtain⟨ep,dP⟩:=dd.dictAt;have aB:ws.H=us.H:=Paired.length rel;refine W.kdu_collect (W.kdl_dict (knd:=hH X.R X.w) («kvs»:=us) (ep:=ep) hd) bp dP (by rw[<-aB];exact z) λh' bx acc b8 hi=>?_;obtain⟨ah,af,ak⟩:=xy (tw:=tw) (H:=H) (xs:=ay.map λc9=>iH c9.1) (us:=acc.D) (by rw[gH,hi.1,cP,cJ.length q,aB]) λi w e =>
   PD (X:=X) (a:=a) (s:=s) (ae:=ae) (O:=O) q rel i w (hi.2 i w<|by rw[<-lB];exact e)
  exact k _ ah h' bx af ak (by rw[gH,hi.1,<-aB];exact z) b8
 |_=>exists h
theorem PE:∀{us:List mt} {ns:List Int},g9 us ns->cG (ns.map V.int) us
 |_,_,.nil=>.nil
 |_,_,.cons n t h=>.cons ⟨t,rfl⟩<|PE h
theorem qm:∀{ns:List Int} {us:List mt},cG (ns.map V.int) us->g9 us ns
 |[],_,.nil=>.nil
 |n::ns,_,.cons ⟨t,e⟩ h=>by subst e;exact .cons n t<|qm h
def akf(bp:X.A.handled=C):fR X tw (λus=>call (.type "list") us) nT:=by
 intro B ae s O H ah us aA n t m Q I bq aU aQ e k
 match aA,e with
 |[.ao xs],e =>
  exists e
  obtain⟨v,rfl,a,fI,rfl,cu,cM⟩:=iX aU;exact OO ae s O H _ us Q I bq ⟨a,fI,rfl,.inl cu.gh,λl aB=>k _ _ (.new aB) (aQ.new aB) ⟨l,rfl,aB,_,fB,bR.mono (.new aB) _ _ cM⟩⟩
 |[.aD xs],e =>
  exists e
  obtain⟨v,rfl,r⟩:=iX aU;obtain⟨a,fI,rfl,cu,cM⟩:=ku r;exact OO ae s O H _ us Q I bq ⟨a,fI,rfl,.inr<|e5.of cu,λl aB=>k _ _ (.new aB) (aQ.new aB) ⟨l,rfl,aB,_,fB,bR.mono (.new aB) _ _ cM⟩⟩
 |[.bk ay],e =>
  exists e
  obtain⟨v,rfl,a,ws,rfl,na,cu,q⟩:=iX aU;obtain⟨u,rfl,eV⟩:=bq.one
  exists eV
  obtain⟨z,hd,us,rel,dd⟩:=j4 I.b1 cu;obtain⟨ep,dP⟩:=dd.dictAt;have aB:ws.H=us.H:=Paired.length rel;refine W.kdl_call (W.kdl_dict (knd:=hH X.R X.w) («kvs»:=us) (ep:=ep) hd) bp dP (by rw[<-aB];exact z) λh' bx acc c b8 fw hi=>?_;obtain⟨ah,af,ak⟩:=xy (tw:=tw) (H:=H) (xs:=ay.map λc9=>iH c9.1) (us:=acc.D) (by rw[gH,hi.1,cP,cJ.length q,aB]) λi w e =>
   PD (X:=X) (a:=a) (s:=s) (ae:=ae) (O:=O) q rel i w (hi.2 i w<|by rw[<-lB];exact e)
  have aF:H s.L=C:=I.b1.fresh<|cg _;have eG:=I.laid (a:=s.L) (o:=.ao ah) (t':=bx) (h':=h') b8 (cg _) ⟨by rw[af.H,gH,hi.1,<-aB];exact z,acc.D,c,af,by simpa using fw⟩;exact⟨.ref s.L,_,eG,rfl,k _ _ (.new aF) (aQ.new aF) ⟨_,rfl,aF,_,fB,bR.mono (.new aF) _ _ ak⟩⟩
def _root_.bj.aS.Gx(I:aS X ae O H s)(h:H a=J (.aD xs)):∃a5:List mt,cG xs a5/\mh s.Q a a5.B/\xs.H<=dg:=by obtain⟨z,a5,r,p⟩:=I.b1 a _ h;exact⟨a5,r,p,z⟩
noncomputable def isInt(j:Int):mt->Bool
 |.int i _=>i==j
 |_=>Y1
def abt(j:Int)(h:g9 us ns):us.countP (isInt j)=(ns.filter λx=>x==j).H:=by
 induction h with
 |nil=>rfl
 |cons n t h a4 =>
  rw[ox,tW,a4];show _+(if(n==j)=Y0 then 1 else 0)=_;cases n==j<;>simp
def alV(h:g9 us ns)(aK:y∈us):∃i t,y=.int i t:=by
 induction h with
 |nil=>exists aK
 |cons n t h a4 =>
  rcases d3.mp aK with rfl|aK
  ·exact⟨n,t,rfl⟩
  ·exact a4 aK
def abu{k:Nat}(a6:uY k [to,te]=J (t1,cS)):∃xs j ns,to=.aD xs/\te=.int j/\e2 xs=J ns/\t1=.int (ns.filter λx=>x==j).H/\cS=.ag:=by
 match to,te,a6 with
 |.aD xs,.int j,a6 =>
  obtain⟨ns,af,ak⟩:=dw (show(e2 xs).map _=_ from a6)
  exists ak
  exact⟨xs,j,ns,rfl,rfl,af,rfl,rfl⟩
def alW{o e:Expr}{eP ic:bM}{apos eb:Pos}(aZ:bF X tw o eP)(he:bF X tw e ic)(m:Cp X o "count" apos e eb):bF X tw (.Call (.Attribute o "count" apos) [e] [] eb)<|aH uY<|aa eP<|aa ic ar:=by
 intro B S n t kj n' hd ae s O H Q I ⟨R,k⟩;obtain⟨to,mo,no,te,zd,f1,g1,a6⟩:=Jb hd;obtain⟨xs,j,ns,mS,uG,hi,dQ,em⟩:=abu a6;subst mS uG dQ em;refine yN m.V m.uX m.line PySem.F.plainAttrs_tuple PySem.F.slot_tuple_count PySem.F.type_tuple_count (b2 (aZ.run f1 I R) λu s1 ⟨v,H1,bf,bA,a1,bt,b6⟩=>?_);obtain⟨a,fI,rfl,cu,cM⟩:=ku<|b6.root bt R.aQ
 exists bA
 obtain⟨a5,o8,⟨fs,lh,Ah,vb,_⟩,_⟩:=bf.Gx cu;refine⟨⟨fs,lh,Ah⟩,λb e=>?_,?_⟩
 ·exists e;exact⟨fs,lh,vb⟩
 ·rw[m.trees];refine ua rfl<|ub<|h9 (b2 (he.run g1 bf bt) λiv s2 ⟨y,bV,cR,dW,a2,dj,dA⟩=>l4 ?_);obtain rfl:=iW<|dA.root dj bt.aQ;obtain⟨bx,rfl⟩:=dW;have vc:bV a=J (.aD fI):=a2.to a _ cu<|bt.aQ.Mq cu;obtain⟨a5,lP,⟨⟨cls,dd,data,cX⟩,aZ,aT,hd,nn,kb⟩,_⟩:=cR.Gx vc;simp only at aT kb
  subst aT kb
  have Wb:=qu hi;subst Wb;have abv:=xl cM;subst abv;have p3:=qm lP;have LY:=abt j p3;refine nz PySem.F.slot_tuple_count ⟨_,aZ,rfl⟩ PySem.F.entry_tuple_count (PySem.F.args_tuple_count_2 _ _) (PySem.SeqAt.tuple_countAt a a5.B nn dd cX (.int j bx)<|isInt j) ⟨aZ,λy aK=>?_,?_⟩
  ·have aK:y∈a5:=by simpa using aK
   have:=alV p3 aK;obtain⟨i,t,rfl⟩:=this;exact PySem.SeqAt.EqAt.int_int i t j bx
  ·refine⟨.int _,bV,cR.tok _,⟨_,rfl⟩,?_⟩;show Q (.int ((List.countP (isInt j) a5.B.D:Nat):Int)) bV;rw[show a5.B.D=a5 from rfl,LY];exact k _ bV (a1.trans a2) dj.aQ (by show aI tw bV (.int _) _;rw[aI])
def abw:typeLookup (.type "list") "keys" = pure C:=by rw[Cb,B7];kernel_rfl
def abx{k:Nat}
  (av:s.heap.get? a=J o) (aT:o.cls=.type "list") (kb:o.d=.seq xs k) (hd:o.dict=C) (dt:A.handled=C)
  (h:∀h' bx,ZX->Q C { s with heap:=h',toks:=bx}) :
  bl Z9 A (getAttr? (.ref a) "keys") Q E s:=by
 obtain⟨c,anR,dat,cX⟩:=o;simp only at aT kb hd;subst aT kb hd;obtain⟨aF,g,d,bx,os⟩:=s;have gs:∀D3,(⟨aF,g,d,D3,os⟩:aR).TypeIs (.ref a) "list":=λ_=>⟨_,av,rfl⟩
 have f1:=sub_AttributeError;have el:=F.slot_list_getattribute.lookup;have f4:=F.slot_list_getattribute.bind<|.ref a;have hT:=am_list_getattr_none;unfold getAttr? getAttrBy? getAttrBy
 repeat (any_goals (first|assumption|exact gs _|((with_reducible show bl _ _ (call (Value.builtin "list.__getattribute__") _ _) _ _ _);refine nz F.slot_list_getattribute (gs _) am_entry_list_getattribute (F.args_list_getattribute_2 _ _) (meets_getattribute_miss_list a xs k cX "keys" _ abw (by decide)) ⟨av,dt,λh' D3 e fm=>?_⟩)|wp_step))
 obtain⟨t',fu,he⟩:=fm.there;show bl _ _ (getattributeRaised _ _ _ _ _ _ _) _ _ _;unfold getattributeRaised
 repeat (any_goals (first|assumption|wp_step))
 exact h _ _ fm.keeps
def PF:yV table "dict.update.loop" = J Builtin.«dict.update.loop»:=entryFor_of_tree (by kernel_rfl)
def D5:plainId "dict.update.loop" = Y0:=by decide+kernel
section
variable {prog:dx}{w:c3}{K:Type}[DecidableEq K]{knd:KeyKind prog w K}{A:dH}{R:sq->aR->Prop}{I d:Addr}{fp wr:List Addr}{P:Nat->mt->Prop}{St:Nat->Heap->Prop}
noncomputable def tQ(ps:List<|K×mt):List<|K×mt:=ps.foldl (λm p=>pV m p.1 p.2) []
def aby(m:List<|K×mt)(k:K)(v:mt):(pV m k v).H<=m.H+1:=by
 unfold pV;split
 ·rw[cP];exact gb _ _
 ·rw[gq];simp
def abz(ps:List<|K×mt):∀m:List (K×mt),(ps.foldl (λm p=>pV m p.1 p.2) m).H<=m.H+ps.H:=by
 induction ps with
 |nil=>intro m;simp
 |cons p ps a4 =>
  intro m;rw[mG];have af:=a4<|pV m p.1 p.2;have ak:=aby m p.1 p.2;rw[d8];lia
def abA{h₀:Heap}{ps:List<|K×mt}(W:Walks prog w A.in1 I fp wr ps.H P St)(sZ:d∉fp)(res:mt)(bz:ps.H<=dg)
  (e3:∀i v,P i v->∃b k key x o m,v=.ref b/\b≠d/\b∉wr/\h₀.get? b=J o/\o.cls=.type "tuple" /\ o.d=.seq #[key,x] m/\knd.is k key=Y0/\ps[i]?=J (k,x)) :
  ∀(j i:Nat) (s:aR),ps.H-i=j->i<=ps.H->St i s.Q->(∀b o,b≠d->b∉wr->h₀.get? b=J o->s.heap.get? b=J o)->s.heap.DictOf knd d (tQ<|ps.take i) ->
  (∀h' bx,(∀b o,b≠d->b∉wr->h₀.get? b=J o->h'.get? b=J o)->h'.DictOf knd d (tQ ps)->R (.ok<|.ret res) { s with heap:=h',toks:=bx}) ->
  ki Z9 A (.builtin "dict.update.loop" ⟨[.ref d,.ref I,gI i,res],[]⟩) R s:=by
 have PG:d∉wr:=λh=>sZ<|W.sub _ h;intro j
 induction j with
 |zero =>
  intro i s bU hi jB aW gV gY;have pd:i=ps.H:=(h8 hi<|yA bU)
  subst pd;refine pR PF ?_;rw[Around.under_plainId D5 _];show bl _ A.in1 (mK (.ref I) >>= _) _ _ s;refine a8 (W.done s _ _ jB λh' bx hm=>?_);rw[yw]at gV;refine a8<|bZ ?_;exact bZ<|gY h' bx (λb o aq hw e=>hm b o hw<|aW b o aq hw e) (let ⟨o,es,ep,aZ,r⟩:=gV;⟨o,es,ep,hm d o PG aZ,r⟩)
 |succ j a4 =>
  intro i s bU hi jB aW gV gY;have dC:i<ps.H:=(G1<|qT<|d1 bU.symm)
  refine pR PF ?_;rw[Around.under_plainId D5 _];show bl _ A.in1 (mK (.ref I) >>= _) _ _ s;refine a8 (W.item i s _ _ dC jB λv h' bx aF agd hm=>?_);obtain⟨b,k,key,x,o,m,rfl,abB,abC,aZ,aT,kb,lV,D6⟩:=e3 i v aF;have pe:∀b o,b≠d->b∉wr->h₀.get? b=J o->h'.get? b=J o:=λb o aq hw e=>hm b o hw<|aW b o aq hw e;have xh:=pe b o abB abC aZ;have abD:h'.DictOf knd d<|tQ<|ps.take i:=let ⟨o,es,ep,aZ,r⟩:=gV;⟨o,es,ep,hm d o PG aZ,r⟩
  refine a8<|jo ?_;refine a8<|Cc ?_;unfold Builtin.Dict.pairItems;refine a8<|si (T:="tuple") ⟨o,xh,aT⟩ ?_;rw[Y2 Z0];refine a8<|Cd xh kb ?_;refine bZ ?_;show bl _ _ (oG [key,x]<|dictSet d key x) _ _ _;have ei:(tQ<|ps.take i).H<=dg:=by have:=abz (ps.take i) [];rw[jS]at this;unfold tQ;simp at this;lia
  refine jo<|wpAny_dictSet_pairs (s:={ s with heap:=h',toks:=bx}) lV abD (λak u6 iz=>?_) ei;have Md:tQ (ps.take<|i+1)=pV (tQ<|ps.take i) k x:=by
   have:ps.take (i+1)=ps.take i++[(k,x)]:=by rw[ML,D6];rfl
   unfold tQ;rw[this,MK];rfl
  refine bZ ⟨oF D5 _,?_⟩;refine a4 (i+1) { s with heap:=ak,toks:=bx+1} Z3 dC (W.frame _ _ _ agd λc sT dh e=>?_) (λc dh aq hw e=>?_) (by rw[Md];exact u6) λbc JE vd abE=>gY bc JE vd abE
  ·have:c≠d:=λz=>sZ<|z▸sT;exact(iz.2 c this).trans e
  ·exact(iz.2 c aq).trans (pe c dh aq hw e)
end
def alX{k:Key}(h:kc t=J k)(r:aI tw H t v):v=eA k:=by
 cases t with
 |int i=>exists h;rw[aI]at r;exact r
 |str x=>exists h;rw[aI]at r;exact r
 |_=>exists h
def aiD(H:aJ)(P:dx)(w:c3)(h:Heap)(v:V)(u:mt)(k:Key)(x:V)(y:mt):Prop :=
 ∃b o m key,v=.ref b/\u=.ref b/\H b=J (.aD [eA k,x])/\h.get? b=J o/\o.cls=.type "tuple" /\ o.d=.seq #[key,y] m/\(hH P w).is k key=Y0/\cW x y
theorem pairs_at{ae:List Z1}{s:aR}{O:St}{H:aJ}(I:aS X ae O H s):∀{xs:List T} {ps:List (Key×T)} {ah:List V} {us:List mt},qP xs=J ps->bR tw H xs ah->cG ah us ->
  ∃(ws:List (Key×V)) (aO:List (Key×mt)),cJ tw H ps ws/\fq ws aO/\aO.H=us.H/\∀(i:Nat) (u:mt),us[i]?=J u->∃v k x y,aiD H X.R X.w s.Q v u k x y/\aO[i]?=J (k,y)
 |[],ps,ah,us,h,r,bq=>by
  exists h
  cases jg r
  exists bq
  exact⟨[],[],by rw[cJ],.nil,rfl,λi u e=>by simp at e⟩
 |t::xs,ps,ah,us,h,r,bq=>by
  have⟨kt,wW,k,xA,az,au,a6,bX⟩:∃kt wW k xA,t=.aD [kt,wW]/\kc kt=J k/\qP xs=J xA/\ps=(k,wW)::xA:=by
   match t,h with
   |.aD [kt,wW],h =>
    obtain⟨k,af,ak⟩:=cn (show(kc kt).bind _=_ from h);obtain⟨xA,bc,cL⟩:=dw ak;exact⟨kt,wW,k,xA,rfl,af,bc,cL.symm⟩
  subst az bX;obtain⟨v,mr,rfl,bA,cp⟩:=hc r;cases bq with
  |cons abF xB =>
   rename_i u va;obtain⟨ws,aO,g1,g2,g3,gK⟩:=pairs_at I a6 cp xB;obtain⟨b,fI,rfl,aq,q⟩:=ku (K:=X.K) bA;obtain⟨abG,anS,rfl,aX,bb⟩:=hc q;obtain⟨PH,an4,rfl,cK,fV⟩:=hc bb;cases jg fV;have iO:abG=eA k:=alX au aX;subst iO
   exists abF
   obtain⟨a5,wJ,⟨o,aZ,aT,D7,m,kb⟩,_⟩:=I.Gx aq;obtain⟨Wc,Nz,rfl,rk,dW⟩:=wJ.two;refine⟨(k,PH)::ws,(k,Nz)::aO,xr cK g1,.cons ⟨rfl,dW⟩ g2,by rw[d8,d8,g3],λi u e=>?_⟩;cases i with
   |zero =>
    have e:Value.ref b=u:=by simpa using e
    subst e;exact⟨.ref b,k,PH,Nz,⟨b,o,m,Wc,rfl,rfl,aq,aZ,aT,kb,zT rk,dW⟩,rfl⟩
   |succ i =>
    obtain⟨v,fH,x,y,dB,c7⟩:=gK i u (by simpa using e);exact⟨v,fH,x,y,dB,by simpa using c7⟩
theorem cJ.fold:∀{ps:List (Key×T)} {ws:List (Key×V)},cJ tw H ps ws->∀{d:List (Key×T)} {e:List (Key×V)},cJ tw H d e->cJ tw H (ps.foldl (λd p=>j5 d p.1 p.2) d) (ws.foldl (λd p=>iG d p.1 p.2) e)
 |[],_,r,_,_,q=>by rw[cJ]at r;subst r;exact q
 |(k,x)::ps,_,r,d,e,q=>by rw[cJ]at r;obtain⟨v,fS,rfl,bA,cp⟩:=r;exact cJ.fold cp<|cJ.put k bA q
def fq.fold:∀{ws:List (Key×V)} {aO:List (Key×mt)},fq ws aO->∀{d:List (Key×V)} {e:List (Key×mt)},fq d e->fq (ws.foldl (λd p=>iG d p.1 p.2) d) (aO.foldl (λd p=>pV d p.1 p.2) e):=by
 intro ws aO r;unfold fq at r
 induction r with
 |nil=>intro d e q;exact q
 |cons h t a4 =>
  intro d e q;rename_i a b as bs;obtain⟨k,v⟩:=a;obtain⟨fH,y⟩:=b;obtain⟨af,ak⟩:=h;simp only at af ak;subst af;exact a4<|fq.put q k ak
def alY(ws:List<|Key×V):∀d:List (Key×V),(ws.foldl (λd p=>iG d p.1 p.2) d).H<=d.H+ws.H:=by
 induction ws with
 |nil=>intro d;simp
 |cons p ps a4 =>
  intro d;rw[mG];have af:=a4<|iG d p.1 p.2;have ak:(iG d p.1 p.2).H<=d.H+1:=by
   unfold iG;split
   ·rw[cP];exact gb _ _
   ·rw[gq];simp
  rw[d8];lia
theorem PI:∀{xs:List T} {ps:List (Key×T)},qP xs=J ps->ps.H=xs.H
 |[],_,h=>by exists h;rfl
 |t::xs,ps,h=>by
  match t,h with
  |.aD [kt,wW],h =>
   obtain⟨k,af,ak⟩:=cn (show(kc kt).bind _=_ from h);obtain⟨xA,bc,cL⟩:=dw ak;subst cL;rw[d8,d8,PI bc]
def akg(bp:X.A.handled=C):fR X tw (λus=>call (.type "dict") us) xf:=by
 intro B ae s O H ah us aA n t m Q I bq aU aQ e k
 match aA,e with
 |[.bk ay],e =>
  exists e
  obtain⟨v,rfl,a,ws,rfl,na,cu,q⟩:=iX aU;obtain⟨u,rfl,eV⟩:=bq.one
  exists eV
  exact alH I cu λp s' aF eG=>⟨.ref p,_,eG,rfl,k _ _ (.new aF) (aQ.new aF) ⟨p,rfl,aF,_,fB,cJ.mono (.new aF) _ _ q⟩⟩
 |[.ao xs],e =>
  obtain⟨ps,az,au⟩:=cn (show(qP xs).bind _=_ from e);split at au
  ·rename_i age
   exists au
   obtain⟨v,rfl,a,fI,rfl,cu,cM⟩:=iX aU;obtain⟨u,rfl,eV⟩:=bq.one
   exists eV
   obtain⟨a5,bA,⟨o,nn,aZ,aT,D7,kb⟩,hz⟩:=I.list cu.gh;obtain⟨ws,aO,g1,g2,g3,gK⟩:=pairs_at I az cM bA;have eR:=PI az;have abH:aO.H=ps.H:=by rw[g3,<-bA.H,<-cM.H,eR]
   have Dy:ws.H=ps.H:=(cJ.length g1).symm;have abI:ps.H<=dg:=qq<|ez age;refine callType_codes (Q₁:=λobj dM=>obj=.ref s.L/\dM={ s with heap:=s.heap.push { cls:=.type "dict",data:=.dict #[]}}) F.kt_called_dict (F.kt_typeCall_dict_1 _) F.entry_dict_init (kt_code_dict_new _ ⟨rfl,rfl⟩) ?_;rintro obj dM ⟨rfl,rfl⟩;have Bu:(s.heap.push { cls:=.type "dict",data:=.dict #[]}).DictOf (hH X.R X.w) s.L []:=Heap.DictOf.new s.Q;refine⟨Bu.typeIs,F.args_dict_init_2 _ _,?_⟩;have PJ:a<s.L:=d5 aZ;have lh:=ec { cls:=.type "dict",data:=.dict #[]} aZ;unfold Builtin.«dict.__init__»;refine a8 ?_;unfold Builtin.Dict.selfAndRest;refine a8<|wpAny_notOrdered_dict Bu.typeIs ?_;show bl _ _ (pure (s.L,[Value.ref a])) _ _ _;refine bZ ?_;show bl _ _ (Builtin.Dict.updateFrom "dict.__init__" s.heap.objs.size (.ref a) [] .none) _ _ _;unfold Builtin.Dict.updateFrom;refine a8<|si (T:="list") ⟨o,lh,aT⟩ ?_;rw[Y2 Z0];refine a8 (abx lh aT kb D7 bp λh' bx b8=>?_);rw[Y2<|by rfl];refine a8<|l7 ?_;have m3:h'.IsList a a5.B:=⟨o,b8 a o lh,aT,nn,kb⟩
   have PK:h'.DictOf (hH X.R X.w) s.L []:=let ⟨dh,es,ep,ko,r⟩:=Bu;⟨dh,es,ep,b8 _ _ ko,r⟩
   have F3:s.L<h'.E.O:=let ⟨dh,es,ep,ko,r⟩:=PK;d5 ko
   have hsz:a5.B.O=aO.H:=by rw[eT,g3]
   have ba:a≠h'.E.O:=bv<|wk PJ F3;refine a8<|B8 m3 ?_;refine bZ ⟨oF D5 _,?_⟩;have W:=Walks.list (prog:=X.R) (w:=X.w) (A:=X.A.in1.in1) bp h'.E.O a ba a5.B;rw[hsz]at W;refine abA (knd:=hH X.R X.w) (h₀:=h') (ps:=aO) W (λhm=>?_) .none (by rw[abH];exact abI) (λi v aF=>?_) aO.H 0 _ rfl (gG _) ⟨⟨_,gB _ rfl,rfl,rfl⟩,m3.push _⟩ (λb dh _ _ e=>ec _ e) (PK.push _) λak Ai kv u6=>?_
   ·simp at hm;rcases hm with hm|hm
    ·exact absurd F3 (by rw[<-hm];exact oD _)
    ·exact absurd PJ (by rw[<-hm];exact oD _)
   ·obtain⟨hS,fH,x,y,⟨b,dh,gf,key,rfl,rfl,_,aq,abJ,fP,lV,_⟩,aK⟩:=gK i v (by simpa using aF);have TR:b<s.L:=d5 aq;exact⟨b,fH,key,y,dh,gf,rfl,bv TR,by simp;exact bv<|wk TR F3,b8 b dh<|ec _ aq,abJ,fP,lV,aK⟩
   ·have aF:H s.L=C:=I.b1.fresh<|cg _;have ve:(ws.foldl (λd p=>iG d p.1 p.2) []).H<=dg:=by have:=alY ws [];simp at this;lia
    have eG:=I.laid (a:=s.L) (o:=.aw<|ws.foldl (λd p=>iG d p.1 p.2) []) (t':=Ai) (h':=ak) (λb u q=>kv b u (bv<|d5 q) (by simp;exact bv<|wk (d5 q) F3)<|b8 b u<|ec _ q) (cg _)
     (Dw ve (beq_eq_false_iff_ne.mpr<|Ne.symm<|bv I.bh) (fq.fold g2 .nil) u6)
    exact⟨rfl,.ref s.L,_,eG,rfl,k _ _ (.new aF) (aQ.new aF) ⟨_,rfl,aF,_,fB,cJ.mono (.new aF) _ _ (cJ.fold g1<|by rw[cJ])⟩⟩
  ·exists au
end
end bj.bO
namespace bj.Tm
open PySem PyProof.Rows
section
variable {O:Type}{M:Model}{A:dH}{E:mt->aR->Prop}{s:aR}{α β:Type}{Q:α->O->Prop}{st:O}
def tj(h:wpS M A E s m Q st):bl M A (m st) (λr s'=>s'=s/\Q r.1 r.2) E s:=h
end
section
variable {O:Type}{M:Model}{A:dH}{E:mt->aR->Prop}{s:aR}{α:Type}{Q:α->O->Prop}{st:O}{m₁ m₂:StateT O Sem α}
def iC[Decidable c](af:c->wpS M A E s m₁ Q st)(ak:¬c->wpS M A E s m₂ Q st):wpS M A E s (if c then m₁ else m₂) Q st:=by
 split
 ·exact af ‹_›
 ·exact ak ‹_›
def jH{x y:Nat}(af:x=y->wpS M A E s m₁ Q st)(ak:x≠y->wpS M A E s m₂ Q st):wpS M A E s (if(x==y)=Y0 then m₁ else m₂) Q st :=
 iC (λc=>af<|eq_of_beq c) λc=>ak λe=>c<|beq_iff_eq.mpr e
def tk[Decidable p](af:p->wpS M A E s m₁ Q st)(ak:¬p->wpS M A E s m₂ Q st):wpS M A E s (if decide p=Y0 then m₁ else m₂) Q st :=
 iC (λc=>af<|of_decide_eq_true c) λc=>ak λe=>c<|decide_eq_true e
end
def pf{O:Type}{M:Model}{α:Type}{m:StateT O Sem α}{Q:α->O->Prop}{st:O}(h:∀e8,e8=Q->wpS M A E s m e8 st):wpS M A E s m Q st:=h Q rfl
def pg{β:Type}{v:β}{G:β->Prop}(P:β->Prop)(bS:P v)(h:∀x,P x->G x):∀x,x=v->G x:=λx e=>h x<|e▸bS
def PL:Bool->b3->Array b3->Nat->Nat->Nat->StateT dO Sem (Option Nat):=sortPriv% PySem.Builtin.gallop
section
variable {prog:dx}{w:c3}{A:dH}{E:mt->aR->Prop}{s:aR}{κ:wC}{du:Array b3}{rk:b3->Nat}
def oh(prog:dx)(w:c3)(A:dH)(E:mt->aR->Prop)(s:aR)(κ:wC)(du:Array b3)(rk:b3->Nat):Prop :=
 ∀(st:dO) (x y:b3) (Q:Option Bool->dO->Prop),hk st=κ->x∈du->y∈du->Q (J<|decide (rk x<rk y)) st->wpS Z9 A E s (lt' x y) Q st
noncomputable def at_(rk:b3->Nat)(xs:Array b3)(i:Nat):Nat:=(xs[i]?.map rk).getD 0
def fZ(rk:b3->Nat)(xs:Array b3)(lo hi:Nat):Prop:=∀i j,lo<=i->i<=j->j<hi->at_ rk xs i<=at_ rk xs j
def ih{arr:Array b3}{i:Nat}{st:dO}{Q:b3->dO->Prop}(h:i<arr.O)(q:Q arr[i] st):wpS Z9 A E s (elem' arr i) Q st:=by rw[elem'_eq,t8 h];exact c6 q
def hy(rk:b3->Nat)(left:Bool)(key:b3)(arr:Array b3)(i:Nat):Bool:=if left then decide (at_ rk arr i<rk key) else !decide (rk key<at_ rk arr i)
def hg{i:Nat}(h:i<xs.O):at_ rk xs i=rk xs[i]:=by unfold at_;rw[t8 h];rfl
def alZ{left:Bool}{base n:Nat}(aP:fZ rk arr base<|base+n){i j:Nat}(jF:i<=j)(bU:j<n)(h:hy rk left key arr (base+j)=Y0):hy rk left key arr (base+i)=Y0:=by
 have:=aP (base+i) (base+j) (gb _ _) (h7 jF _)<|nu bU _;unfold hy at *
 exists left
 ·simp at h |-;exact bP this h
 ·simp at h |-;exact gS this h
def abK(ek:oh prog w A E s κ du rk){st:dO}(aW:hk st=κ){left:Bool}{key:b3}{arr:Array b3}{i:Nat}(lV:key∈du)(LZ:∀x∈arr,x∈du)(hi:i<arr.O)
  {Q:Option Bool->dO->Prop} (h:Q (J<|hy rk left key arr i) st):wpS Z9 A E s (do
   let x<-elem' arr i
   if left=Y0 then lt' x key else do
    let y<-lt' key x
    pure (Option.map (λx=>!x) y)) Q st:=by
 refine cz<|ih hi ?_;have hm:arr[i]∈du:=LZ _<|jU hi;unfold hy at h;rw[hg hi]at h;cases left with
 |true=>rw[Y2 rfl]at h |-;exact ek st _ _ _ aW hm lV h
 |false =>
  rw[Y3 Z0]at h |-;exact cz<|ek st _ _ _ aW lV hm<|c6 h
inductive sH {S:Type} (L R:Nat->Prop) (cD:dO) (n d:Nat):Option S×Nat×Nat->dO->Prop
 |mk (l r:Nat) (af:l<=r) (ak:r<=n) (bc:r-l<=d) (gK:∀i,i<l->L i) (mO:∀i,r<=i->i<n->R i):sH L R cD n d (C,l,r) cD
inductive ze {S:Type} (T F:Nat->Prop) (cD:dO) (x:Nat):Option S×Nat×Nat->dO->Prop
 |mk (cy f:Nat) (af:T cy) (bc:cy<f) (cL:x+1<=f\/F f):ze T F cD x (C,cy,f) cD
def Ur{l r:Nat}(h:l<r):(r-l) / 2<r-l:=Nat.div_lt_self (G2 h) Z0
def half{l r:Nat}(h:l<r):l<=l+(r-l) / 2/\l+(r-l) / 2<r:=⟨gb _ _,Nat.add_lt_of_lt_sub'<|Ur h⟩
def UW{l r n x:Nat}(h:l<r)(d:r-l<=n-x):r-(l+(r-l) / 2+1)<=n-(x+1)/\l+(r-l) / 2-l<=n-(x+1):=by have e:r-(l+1)<=n-(x+1):=GW d 1;exact⟨bP (GZ (wh (half h).1) r) e,bP (by rw[yz];exact GX<|Ur h) e⟩
def twice{x f:Nat}(h:x+1<=f):f<2*f+1/\x+1+1<=2*f+1:=⟨t4<|tZ _ Z0,wh<|bP h<|tZ _ Z0⟩
def xC(ek:oh prog w A E s κ du rk){st:dO}(aW:hk st=κ){left:Bool}{key:b3}{arr:Array b3}{base n hint:Nat}(lV:key∈du)(LZ:∀x∈arr,x∈du)(aq:base+n<=arr.O)(bp:hint<n)(aP:fZ rk arr base<|base+n)
  {Q:Option Nat->dO->Prop} (h:∀k,k<=n->(∀i,i<k->hy rk left key arr (base+i)=Y0)->(∀i,k<=i->i<n->hy rk left key arr (base+i)=Y1)->Q (J k) st):wpS Z9 A E s (PL left key arr base n hint) Q st:=by
 unfold PL;unfold wpS;wp_delta;wp_delta;refine tj ?_;dsimp only;have pos:∀{i j:Nat},i<=j->j<n->hy rk left key arr (base+j)=Y0->hy rk left key arr (base+i)=Y0:=λjF bU=>alZ aP jF bU;have neg:∀{i j:Nat},i<=j->j<n->hy rk left key arr (base+i)=Y1->hy rk left key arr (base+j)=Y1:=λ{i j} jF bU hf=>by
  cases e:hy rk left key arr (base+j) with
  |false=>rfl
  |true=>rw[pos jF bU e]at hf;exact hf
 have at':∀{i:Nat},i<n->base+i<arr.O:=λhi=>d4 (nu hi _) aq;revert pos neg;generalize de:(λi=>hy rk left key arr<|base+i)=B;have PM:∀i,hy rk left key arr (base+i)=B i:=λi=>congrFun de i;simp only[PM]at h |-;intro pos neg
 have ask:∀{i:Nat} {Q:Option Bool->dO->Prop},i<n->Q (J<|B i) st->wpS Z9 A E s (do
   let x<-elem' arr (base+i)
   if left=Y0 then lt' x key else do
    let y<-lt' key x
    pure (Option.map (λx=>!x) y)) Q st:=λ{i Q} hi q=>abK ek aW lV LZ (at' hi) (by rw[PM];exact q)
 refine cz<|ask bp ?_;dsimp only;have fin:∀{c:Option (Option Nat)×Nat×Nat} {c1:dO},sH (λi=>B i=Y0) (λi=>B i=Y1) st n 0 c c1->∃k,c=(C,k,k)/\c1=st/\Q (J k) st:=λh'=>by obtain⟨l,r,af,ak,bc,cL,ef⟩:=h';have:l=r:=h8 af<|yA<|h8 bc<|gG _;subst this;exact⟨l,rfl,rfl,h l ak cL ef⟩
 cases aV:B hint with
 |true =>
  rw[Y2 rfl]
  refine cz (lC (mL
   (I:=ze (λcy=>hint+cy<n/\B (hint+cy)=Y0) (λ_=>False) st)
   (Q:=ze (λcy=>hint+cy<n/\B (hint+cy)=Y0) (λf=>n-hint<=f\/hint+f<n/\B (hint+f)=Y1) st n) ?step ?fin (.mk 0 1 ⟨bp,aV⟩ Z0<|.inl Z0)) ?post)
  case fin =>
   intro c c1 fA;obtain⟨cy,f,af,ak,bc⟩:=fA;exact .mk cy f af ak<|.inr<|.inl<|bc.elim (λz=>by lia) False.elim
  case step =>
   intro x c c1 _ av fA;obtain⟨cy,f,af,ak,bc⟩:=fA;dsimp only;refine iC (λaZ=>c6<|.mk cy f af ak<|.inr<|.inl aZ) λaZ=>?_;have hf:hint+f<n:=by lia
   refine cz<|ask hf ?_;dsimp only;cases hm:B (hint+f) with
   |true =>
    rw[Y3 Z0];have t:=twice<|bc.elim id False.elim;exact c6<|.mk f (2*f+1) ⟨hf,hm⟩ t.1<|.inl t.2
   |false =>
    rw[Y2 Z0];exact c6<|.mk cy f af ak<|.inr<|.inr ⟨hf,hm⟩
  case post =>
   intro c c1 fA;obtain⟨cy,f,⟨af,kr⟩,ak,bc⟩:=fA;dsimp only
   refine cz (lC (mL (I:=λx=>sH (λi=>B i=Y0) (λi=>B i=Y1) st n<|n-x) (Q:=sH (λi=>B i=Y0) (λi=>B i=Y1) st n 0) ?Aj ?fin2
    (.mk (hint+cy+1) (hint+min f (n-hint)) Z3 Z3 Z3 (λi hi=>pos (kg hi) af kr) λi hi pd=>?up)) ?Me)
   case up =>
    rcases bc with bc|bc|⟨cL,ef⟩
    ·lia
    ·lia
    ·exact neg Z3 pd ef
   case fin2 =>
    intro c c1 h';rw[lf,B0]at h';exact h'
   case Me =>
    intro c c1 h';obtain⟨k,rfl,rfl,q⟩:=fin h';exact c6 q
   case Aj =>
    intro x c c1 _ av h';obtain⟨l,r,af,ak,bc,cL,ef⟩:=h';dsimp only;refine iC (λjG=>c6<|.mk l r af ak (d1<|GV jG) cL ef) λjG=>?_;have dC:=sb jG;obtain⟨cS,gu⟩:=half dC;obtain⟨d7,fy⟩:=UW dC bc;have jx:=d4 gu ak;refine cz<|ask jx ?_;dsimp only;cases hm:B (l+(r-l) / 2) with
    |true =>
     rw[Y2 rfl];exact c6<|.mk _ r gu ak d7 (λi gy=>pos (kg gy) jx hm) ef
    |false =>
     rw[Y3 Z0];exact c6 (.mk l _ cS (ez jx) fy cL λi gy pd=>neg gy pd hm)
 |false =>
  rw[Y3 Z0]
  refine cz (lC (mL
   (I:=ze (λcy=>cy<=hint/\B (hint-cy)=Y1) (λ_=>False) st)
   (Q:=ze (λcy=>cy<=hint/\B (hint-cy)=Y1) (λf=>hint+1<=f\/f<=hint/\B (hint-f)=Y0) st n) ?step ?fin (.mk 0 1 ⟨gG _,aV⟩ Z0<|.inl Z0)) ?post)
  case fin =>
   intro c c1 fA;obtain⟨cy,f,af,ak,bc⟩:=fA;exact .mk cy f af ak<|.inr<|.inl<|bc.elim (λz=>by lia) False.elim
  case step =>
   intro x c c1 _ av fA;obtain⟨cy,f,af,ak,bc⟩:=fA;dsimp only;refine iC (λaZ=>c6<|.mk cy f af ak<|.inr<|.inl aZ) λaZ=>?_;have hf:f<=hint:=by lia
   refine cz<|ask (gS (mH _ _) bp) ?_;dsimp only;cases hm:B (hint-f) with
   |true =>
    rw[Y2 rfl];exact c6<|.mk cy f af ak<|.inr<|.inr ⟨hf,hm⟩
   |false =>
    rw[Y3 Z0];have t:=twice<|bc.elim id False.elim;exact c6<|.mk f (2*f+1) ⟨hf,hm⟩ t.1<|.inl t.2
  case post =>
   intro c c1 fA;obtain⟨cy,f,⟨af,kr⟩,ak,bc⟩:=fA;dsimp only
   refine cz (lC (mL (I:=λx=>sH (λi=>B i=Y0) (λi=>B i=Y1) st n<|n-x) (Q:=sH (λi=>B i=Y0) (λi=>B i=Y1) st n 0) ?Aj ?fin2
    (.mk (hint+1-min f (hint+1)) (hint-cy) Z3 Z3 Z3 (λi hi=>?mT) λi hi pd=>neg hi pd kr)) ?Me)
   case mT =>
    rcases bc with bc|bc|⟨cL,ef⟩
    ·lia
    ·lia
    ·exact pos Z3 (gS (mH _ _) bp) ef
   case fin2 =>
    intro c c1 h';rw[lf,B0]at h';exact h'
   case Me =>
    intro c c1 h';obtain⟨k,rfl,rfl,q⟩:=fin h';exact c6 q
   case Aj =>
    intro x c c1 _ av h';obtain⟨l,r,af,ak,bc,cL,ef⟩:=h';dsimp only;refine iC (λjG=>c6<|.mk l r af ak (d1<|GV jG) cL ef) λjG=>?_;have dC:=sb jG;obtain⟨cS,gu⟩:=half dC;obtain⟨d7,fy⟩:=UW dC bc;have jx:=d4 gu ak;refine cz<|ask jx ?_;dsimp only;cases hm:B (l+(r-l) / 2) with
    |true =>
     rw[Y2 rfl];exact c6<|.mk _ r gu ak d7 (λi gy=>pos (kg gy) jx hm) ef
    |false =>
     rw[Y3 Z0];exact c6 (.mk l _ cS (ez jx) fy cL λi gy pd=>neg gy pd hm)
end
def PN:Array b3->Array b3->StateT dO Sem (Array b3):=sortPriv% PySem.Builtin.mergeLo
def PO:Array b3->Array b3->StateT dO Sem (Array b3):=sortPriv% PySem.Builtin.mergeHi
section
variable {rk:b3->Nat}{cy eZ o:List b3}{cb b9:Nat}
structure gD (rk:b3->Nat) (cy eZ o:List b3) (cb b9:Nat):Prop where
 perm:o.Perm<|cy.take cb++eZ.take b9
 lQ:o.Pairwise λx y=>rk x<=rk y
 p7:∀x∈o,∀y∈cy.drop cb,rk x<=rk y
 p8:∀x∈o,∀y∈eZ.drop b9,rk x<=rk y
abbrev eX(rk:b3->Nat)(l:List b3):Prop:=l.Pairwise λx y=>rk x<=rk y
def gD.swap(h:gD rk cy eZ o cb b9):gD rk eZ cy o b9 cb:=⟨h.perm.trans r2,h.lQ,h.p8,h.p7⟩
def gD.app(h:gD rk cy eZ o cb b9)(a0:eX rk cy)(k:Nat)(av:∀x∈(cy.drop cb).take k,∀y∈eZ.drop b9,rk x<=rk y):gD rk cy eZ (o++(cy.drop cb).take k) (cb+k) b9:=by
 have hd:eX rk<|cy.drop cb:=a0.sublist<|wd _ _;have aiE:(cy.drop cb).take k++(cy.drop cb).drop k=cy.drop cb:=pL k _;rw[<-aiE]at hd;obtain⟨af,ak,bc⟩:=pN.mp hd;refine⟨?_,?_,?_,?_⟩
 ·have:cy.take (cb+k)=cy.take cb++(cy.drop cb).take k:=GS;rw[this];refine(h.perm.append_right _).trans ?_;rw[h6,h6];exact(r2).append_left _
 ·refine pN.mpr ⟨h.lQ,af,λx av y aK=>h.p7 x av y<|tT aK⟩
 ·intro x fm y aK;have PQ:y∈(cy.drop cb).drop k:=by rw[BS];exact aK
  rcases hQ.mp fm with fm|fm
  ·exact h.p7 x fm y<|wc PQ
  ·exact bc x fm y PQ
 ·intro x fm y aK;rcases hQ.mp fm with fm|fm
  ·exact h.p8 x fm y aK
  ·exact av x fm y aK
def gD.UX(h:gD rk cy eZ o cb b9)(a0:eX rk cy)(aq:eZ.H<=b9):eX rk (o++cy.drop cb)/\(o++cy.drop cb).Perm (cy++eZ):=by refine⟨pN.mpr ⟨h.lQ,a0.sublist<|wd _ _,h.p7⟩,?_⟩;refine(h.perm.append_right _).trans ?_;rw[wb aq,h6];refine((r2).append_left _).trans ?_;rw[<-h6,pL]
end
def gD.last{cb b9:Nat}(h:gD rk cy eZ o cb b9)(a0:eX rk cy)(cV:eX rk eZ)(av:∀x∈eZ.drop b9,∀y∈cy.drop cb,rk x<=rk y):eX rk (o++eZ.drop b9++cy.drop cb)/\(o++eZ.drop b9++cy.drop cb).Perm (cy++eZ):=by
 refine⟨pN.mpr ⟨pN.mpr ⟨h.lQ,cV.sublist<|wd _ _,h.p8⟩,a0.sublist<|wd _ _,λx fm y aK=>?_⟩,?_⟩
 ·rcases hQ.mp fm with fm|fm
  ·exact h.p7 x fm y aK
  ·exact av x fm y aK
 ·refine((h.perm.append_right _).append_right _).trans ?_;rw[h6<|cy.take cb,pL,h6];refine(List.Perm.append_left _ r2).trans ?_;rw[<-h6,pL]
def gD.good{rk:b3->Nat}{cy eZ o:List b3}{cb b9:Nat}(h:gD rk cy eZ o cb b9)(a0:eX rk cy)(cV:eX rk eZ)(av:eZ.H<=b9\/cy.H<=cb):eX rk (o++cy.drop cb++eZ.drop b9)/\(o++cy.drop cb++eZ.drop b9).Perm (cy++eZ):=by
 rcases av with av|av
 ·rw[wa av,r6];exact h.UX a0 av
 ·rw[wa av,r6];obtain⟨af,ak⟩:=h.swap.UX cV av;exact⟨af,ak.trans r2⟩
def abL(out:Array b3)(x:b3):(out.push x).D=out.D++[x]:=by simp
def PR(out a:Array b3)(i j:Nat):(out++a.extract i j).D=out.D++(a.toList.drop i).take (j-i):=by rw[wq,B3,BL]
def D8(out a:Array b3)(i:Nat):(out++a.extract i a.O).D=out.D++a.toList.drop i:=by rw[PR,wb<|by rw[gc,gH];exact cg _]
def D9(a:Array b3){i:Nat}(h:i<a.O):(a.toList.drop i).take 1=[a[i]]:=by
 have h':i<a.D.H:=by simpa using h
 rw[pJ h'];simp
abbrev jk(st:dO)(g:Nat):dO:=SortSt.mk' (hk st) (cC st) (fx st) g<|qZ st
inductive HN {α β γ ζ:Type} (In:Nat->α->β->γ->Prop) (st:dO) (n:Nat):Option (Array b3)×α×β×γ×ζ->dO->Prop
 |mk (g:Nat) (u:α) (v:β) (w:γ) (z:ζ) (h:In n u v w):HN In st n (C,u,v,w,z)<|jk st g
inductive Cu {α β γ ζ:Type} (G:Array b3->Prop) (In:Nat->α->β->γ->Prop) (st:dO) (n:Nat):Option (Array b3)×α×β×γ×ζ->dO->Prop
 |ret (g:Nat) (r:Array b3) (z:α×β×γ×ζ) (h:G r):Cu G In st n (J r,z)<|jk st g
 |go (g:Nat) (u:α) (v:β) (w:γ) (z:ζ) (h:In n u v w):Cu G In st n (C,u,v,w,z)<|jk st g
def xD{M:Model}{A:dH}{E:mt->aR->Prop}{s:aR}{α β γ ζ:Type}{In:Nat->α->β->γ->Prop}{G:Array b3->Prop}{st:dO}(m:Nat->Nat)(q:Nat){N:Nat}{f:Nat->Option (Array b3)×α×β×γ×ζ->StateT dO Sem (ForInStep<|Option (Array b3)×α×β×γ×ζ)}{g:Nat}{u:α}{v:β}{w:γ}{z:ζ}
  {Q:Option (Array b3)×α×β×γ×ζ->dO->Prop} (h:In (m 0) u v w)
  (Md:∀x g u v w z,x<N->In (m x) u v w->wpS M A E s (f x (C,u,v,w,z)) (λr c1=>match r with|.done cH=>Cu G In st q cH c1|.yield cH=>HN In st (m<|x+1) cH c1) (jk st g))
  (agf:∀u v w,In (m N) u v w->In q u v w) (agg:∀g r z,G r->Q (J r,z) (jk st g)) (abM:∀g u v w z,In q u v w->Q (C,u,v,w,z) (jk st g)):wpS M A E s (forIn [0:N] (C,u,v,w,z) f) Q<|jk st g:=by
 refine lC (mL (I:=λx=>HN In st<|m x) (Q:=Cu G In st q) (λx c c1 _ av h=>?_) (λc c1 h=>?_)<|.mk g u v w z h) λc c1 h=>?_
 ·obtain⟨g,u,v,w,z,h⟩:=h;exact lC (Md x g u v w z av h) λr c1 h=>by exists r<;>exact h
 ·rw[lf]at h;obtain⟨g,u,v,w,z,h⟩:=h;exact .go g u v w z<|agf u v w h
 ·rcases h with⟨g,r,z,h⟩|⟨g,u,v,w,z,h⟩
  ·exact agg g r z h
  ·exact abM g u v w z h
section
variable {prog:dx}{w:c3}{A:dH}{E:mt->aR->Prop}{s:aR}{κ:wC}{du:Array b3}{rk:b3->Nat}
def i9(rk:b3->Nat)(a b r:Array b3):Prop:=eX rk r.D/\r.toList.Perm (a.D++b.D)
def Us(h:eX rk l){i:Nat}(hi:i<l.H):∀y∈l.drop i,rk l[i]<=rk y:=by
 intro y aK;rw[pJ hi]at aK;have hd:eX rk<|l.drop i:=h.sublist<|wd _ _;rw[pJ hi]at hd;rcases d3.mp aK with rfl|aK
 ·exact cg _
 ·exact(jR.mp hd).1 y aK
def gD.v5{a b out:Array b3}{cb b9:Nat}(h:gD rk a.D b.D out.D cb b9)(cV:eX rk b.D)(aq:b9<b.O)(av:∀y∈a.toList.drop cb,rk b[b9]<=rk y):gD rk a.D b.D (out.push b[b9]).D cb (b9+1):=by have:=h.swap.app cV 1 (by rw[D9 b aq];intro x fm y aK;rw[ow.mp fm];exact av y aK);rw[D9 b aq]at this;rw[abL];exact this.swap
def gD.v7{a b out:Array b3}{cb b9:Nat}(h:gD rk a.D b.D out.D cb b9)(a0:eX rk a.D)(ba:cb<a.O)(av:∀y∈b.toList.drop b9,rk a[cb]<=rk y):gD rk a.D b.D (out.push a[cb]).D (cb+1) b9:=(gD.v5 (a:=b) (b:=a) h.swap a0 ba av).swap
def gD.Bz{a b out:Array b3}{cb b9 k:Nat}(h:gD rk a.D b.D out.D cb b9)(a0:eX rk a.D)(av:∀x∈(a.toList.drop cb).take k,∀y∈b.toList.drop b9,rk x<=rk y):gD rk a.D b.D (out++a.extract cb (cb+k)).D (cb+k) b9:=by rw[PR,yz];exact h.app a0 k av
def gD.L0{a b out:Array b3}{cb b9 k:Nat}(h:gD rk a.D b.D out.D cb b9)(cV:eX rk b.D)(av:∀x∈(b.toList.drop b9).take k,∀y∈a.toList.drop cb,rk x<=rk y):gD rk a.D b.D (out++b.extract b9 (b9+k)).D cb (b9+k):=(gD.Bz (a:=b) (b:=a) h.swap cV av).swap
def Ak{cb b9:Nat}(h:gD rk a.D b.D out.D cb b9)(a0:eX rk a.D)(cV:eX rk b.D)(av:b.O<=b9\/a.O<=cb):i9 rk a b<|out++a.extract cb a.O++b.extract b9 b.O:=by unfold i9;rw[D8,D8];exact h.good a0 cV (by simpa using av)
def Ea{cb b9:Nat}(h:gD rk a.D b.D out.D cb b9)(a0:eX rk a.D)(cV:eX rk b.D)(av:∀x∈b.toList.drop b9,∀y∈a.toList.drop cb,rk x<=rk y):i9 rk a b<|out++b.extract b9 b.O++a.extract cb a.O:=by unfold i9;rw[D8,D8];exact h.last a0 cV av
def vf{a:Array b3}(h:eX rk a.D){i:Nat}(hi:i<a.O):∀y∈a.toList.drop i,rk a[i]<=rk y:=λy aK=>by have:=Us h (i:=i) (by simpa using hi) y aK;simpa using this
def xE{lo hi:Nat}(h:eX rk a.D)(bp:hi<=a.O):fZ rk a lo hi:=λi j _ jF bU=>by
 have af:i<a.O:=(gS jF<|d4 bU bp)
 have ak:j<a.O:=(d4 bU bp)
 rw[hg af,hg ak]
 have:=Us h (i:=i) (by simpa using af) a[j] (by
  rw[yn]
  exact⟨j-i,by rw[gc,gH];lia,by rw[yt];simp;congr 1;exact nt jF⟩)
 simpa using this
def Al{a:Array b3}{i k:Nat}{x:b3}(h:x∈(a.toList.drop i).take k):∃j,j<k/\∃aP:i+j<a.O,x=a[i+j]:=by obtain⟨j,bU,rfl⟩:=yn.mp h;rw[jS,gc,gH]at bU;exact⟨j,(d4 bU<|Nat.min_le_left _ _),by lia,by rw[yu,yt];simp⟩
def PS:Nat->StateT dO Sem Unit:=sortPriv% PySem.Builtin.setMinGallop
def Eb{st:dO}{g:Nat}{Q:Unit->dO->Prop}(h:Q ()<|jk st g):wpS Z9 A E s (PS g) Q st:=by unfold PS;unfold wpS;wp_delta;wp_delta;refine tj ?_;exact wB h
structure q9 (rk:b3->Nat) (a b:Array b3) (n:Nat) (out:Array b3) (cb b9:Nat):Prop where
 m:gD rk a.D b.D out.D cb b9
 p:cb+1<a.O
 q:b9<b.O
 s:n<=cb+b9
def q9.le{n m cb b9:Nat}(h:q9 rk a b n out cb b9)(l:m<=n):q9 rk a b m out cb b9:=⟨h.m,h.p,h.q,bP l h.s⟩
def abN(ek:oh prog w A E s κ du rk){st:dO}(aW:hk st=κ){a b:Array b3}(ba:∀x∈a,x∈du)(aq:∀x∈b,x∈du)(a0:eX rk a.D)(cV:eX rk b.D)(na:0<a.O)(nb:0<b.O)
  (hf:rk b[0]<rk a[0]) (aB:∀x∈b,rk x<rk a[a.O-1])
  {Q:Array b3->dO->Prop} (h:∀r g,i9 rk a b r->Q r (jk st g)):wpS Z9 A E s (PN a b) Q st:=by
 have same:∀r,i9 rk a b r->Q r st:=λr aV=>h r (sr st) aV;have Gh:∀(cb b9:Nat),cb+1=a.O->∀x∈b.toList.drop b9,∀y∈a.toList.drop cb,rk x<=rk y:=λcb b9 he x av y aK=>by
  have hi:cb<a.D.H:=by rw[gH];exact d4 (oC _)<|d1 he
  have hd:a.toList.drop cb=[a[a.O-1]]:=by rw[pJ hi,wa<|by rw[gH,he];exact cg _];simp[<-he]
  rw[hd]at aK;rw[ow.mp aK];exact ez (aB x<|by simpa using wc av)
 have start:gD rk a.D b.D (#[b[0]]:Array b3).D 0 1:=gD.v5 (out:=#[]) ⟨by simp,.nil,by simp,by simp⟩ cV nb λy aK=>bP (ez hf)<|vf a0 na y aK;unfold PN;unfold wpS;wp_delta;wp_delta;refine tj ?_;refine cz<|su<|l7 ⟨rfl,?_⟩
 repeat fail
 refine cz<|ih nb ?_
 repeat fail
 refine jH (λb6=>c6<|same _<|Ak start a0 cV<|.inl<|d1 b6.symm) λb6=>jH (λdA=>c6<|same _<|Ea start a0 cV<|Gh 0 1 dA) λdA=>?_;refine cz<|oI ?_
 repeat fail
 refine cz (xD (In:=q9 rk a b) (G:=i9 rk a b) (λx=>x+1) (a.O+b.O) ⟨start,r9 na dA,r9 nb b6,cg _⟩ ?step (λ_ _ _ h=>h.le<|t6 _) (λg r _ aV=>c6<|h r g aV) λg out cb b9 a3 h=>?post)
 case post =>
  have af:=h.p;have ak:=h.q;have bc:=h.s;lia
 case step =>
  intro x g out cb b9 a3 av af;show wpS _ _ _ _ (Bind.bind _ _) _ _;dsimp (zeta:=Y1) (zetaHave:=Y1) only;refine cz (xD (G:=i9 rk a b) (z:=(0,0)) (λy=>x+1+y) (x+2) af ?s1 (λ_ _ _ h=>h.le<|BV<|oA na) (λg r z aV=>?bA) λg out cb b9 z af=>?dB)
  case s1 =>
   intro y g out cb b9 z aK fk;obtain⟨g1,g2,g3,gK⟩:=fk;obtain⟨ac,ra⟩:=z;have tl:=kN g2;show wpS _ _ _ _ (Bind.bind _ _) _ _;dsimp (zeta:=Y1) (zetaHave:=Y1) only;refine cz<|ih g3<|cz<|ih tl<|cz<|ek _ _ _ _ aW (aq _<|jU _) (ba _<|jU _) ?_;dsimp (zeta:=Y1) (zetaHave:=Y1) only;refine tk (λhw=>?_) λhw=>?_
   ·refine cz (ih g3 ?_)
    repeat fail
    have cS:=g1.v5 cV g3 λy aK=>bP (ez hw)<|vf a0 tl y aK;refine jH (λc=>c6<|.ret _ _ _<|Ak cS a0 cV<|.inl<|d1 c.symm) λc=>?_;have bz:q9 rk a b (x+1+y+1) _ cb<|b9+1:=⟨cS,g2,r9 g3 c,wh gK⟩
    exact iC (λ_=>c6<|.go _ _ _ _ _<|bz.le Z3) λ_=>c6<|.mk _ _ _ _ _ bz
   ·refine cz (ih tl ?_)
    repeat fail
    have cS:=g1.v7 a0 tl λy aK=>bP (hR hw)<|vf cV g3 y aK;refine jH (λc=>c6<|.ret _ _ _<|Ea cS a0 cV<|Gh _ _ c) λc=>?_;have bz:q9 rk a b (x+1+y+1) _ (cb+1) b9:=⟨cS,r9 g2 c,g3,by lia⟩
    exact iC (λ_=>c6<|.go _ _ _ _ _<|bz.le Z3) λ_=>c6<|.mk _ _ _ _ _ bz
  case bA =>
   repeat fail
   exact c6<|.ret _ _ _ aV
  case dB =>
   obtain⟨ac,ra⟩:=z;show wpS _ _ _ _ (Bind.bind _ _) _ _;dsimp (zeta:=Y1) (zetaHave:=Y1) only;refine cz<|su<|l7 ⟨rfl,?_⟩
   repeat fail
   refine cz (xD (G:=i9 rk a b) (z:=(_,ac,ra)) (λ_=>x+2) (x+2) af ?s2 (λ_ _ _ h=>h) (λg r z aV=>?cp) λg out cb b9 z af=>?c7)
   case cp =>
    repeat fail
    exact c6<|.ret _ _ _ aV
   case c7 =>
    obtain⟨a3,ac,ra⟩:=z;show wpS _ _ _ _ (Bind.bind _ _) _ _;dsimp (zeta:=Y1) (zetaHave:=Y1) only
    repeat fail
    exact cz<|Eb<|c6<|.mk _ _ _ _ _ af
   case s2 =>
     intro y g out cb b9 z aK fk;obtain⟨g1,g2,g3,gK⟩:=fk;obtain⟨a3,ac,ra⟩:=z;have tl:=kN g2
     fail;fail;fail;fail;fail;fail;fail;fail;fail;fail;fail
     dsimp (zeta:=Y1) (zetaHave:=Y1) only;refine pf ?_;intro e8 gz;extract_lets+onlyGivenNames-underBinder jpv;clear_value (hjpv:jpv=_);revert jpv;refine pg (P:=λjp=>∀u m,wpS Z9 A E s (jp u m) e8<|jk st g) ?rb ?k0
     case k0 =>
      subst gz;intro jp bU;refine iC (λ_=>?_) λ_=>bU _ _
      fail
      exact bU _ _
     case rb =>
      subst gz;intro u ry;refine cz<|Eb<|cz<|ih g3<|cz (xC (st:=jk st ry) (arr:=a) (base:=cb) (n:=a.O-cb) ek aW (aq _<|jU _) ba Z3 (G2 tl) (xE a0 Z3) λk pe qv vd=>?_);dsimp (zeta:=Y1) (zetaHave:=Y1) only;have lo:∀x∈(a.toList.drop cb).take k,∀y∈b.toList.drop b9,rk x<=rk y:=λx av y aK=>by obtain⟨j,bU,aP,rfl⟩:=Al av;have:=qv j bU;unfold hy at this;rw[hg aP]at this;simp at this;exact bP this<|vf cV g3 y aK
      have hi:∀(aP:cb+k<a.O),rk b[b9]<rk a[cb+k]:=λaP=>by have:=vd k (cg _) Z3;unfold hy at this;rw[hg aP]at this;simpa using this
      fail
      refine pf ?_;intro e8 gz;extract_lets+onlyGivenNames-underBinder jpv;clear_value (hjpv:jpv=_);revert jpv;refine pg (P:=λjp=>∀u (pF:Array b3) (qw:Nat),q9 rk a b (x+2) pF qw b9->(dC:qw<a.O)->rk b[b9]<rk a[qw]->wpS Z9 A E s (jp u pF qw) e8 (jk st ry)) ?nM ?k1
      case k1 =>
       subst gz;intro jp bU;refine iC (λaW=>?_) λaW=>?_
       ·fail;fail
        have cS:=g1.Bz a0 lo;refine jH (λc=>c6<|.ret _ _ _<|Ea cS a0 cV<|Gh _ _ c) λc=>jH (λcH=>c6<|.ret _ _ _<|Ak cS a0 cV<|.inr<|d1 cH.symm) λcH=>?_;exact bU _ _ _ ⟨cS,by lia,g3,by lia⟩ Z3<|hi Z3
       ·have:k=0:=(h8 (hR aW)<|gG _)
        subst this;exact bU _ _ _ ⟨g1,g2,g3,gK⟩ tl<|hi tl
      case nM =>
       subst gz;intro u pF qw aM Am fU;refine cz<|ih g3 ?_
       fail;fail
       have cS:=aM.m.v5 cV g3 λy aK=>bP (ez fU)<|vf a0 Am y aK;refine jH (λc=>c6<|.ret _ _ _<|Ak cS a0 cV<|.inl<|d1 c.symm) λc=>?_;have sE:=r9 g3 c;refine cz<|ih Am<|cz (xC (st:=jk st ry) (arr:=b) (base:=b9+1) (n:=b.O-(b9+1)) ek aW (ba _<|jU _) aq Z3 (G2 sE) (xE cV Z3) λk2 n1 vg An=>?_);dsimp (zeta:=Y1) (zetaHave:=Y1) only;have vh:∀x∈(b.toList.drop (b9+1)).take k2,∀y∈a.toList.drop qw,rk x<=rk y:=λx av y aK=>by obtain⟨j,bU,aP,rfl⟩:=Al av;have:=vg j bU;unfold hy at this;rw[hg aP]at this;simp at this;exact bP (ez this)<|vf a0 Am y aK
       have ks:∀(aP:b9+1+k2<b.O),rk a[qw]<=rk b[b9+1+k2]:=λaP=>by have:=An k2 (cg _) Z3;unfold hy at this;rw[hg aP]at this;simpa using this
       fail
       refine pf ?_;intro e8 gz;extract_lets+onlyGivenNames-underBinder jpv;clear_value (hjpv:jpv=_);revert jpv;refine pg (P:=λjp=>∀u (v8:Array b3) (xF:Nat),q9 rk a b (x+3) v8 qw xF->(dC:xF<b.O)->rk a[qw]<=rk b[xF]->wpS Z9 A E s (jp u v8 xF) e8 (jk st ry)) ?uF ?k2
       case k2 =>
        subst gz;intro jp bU;refine iC (λaW=>?_) λaW=>?_
        ·fail;fail
         have gu:=cS.L0 cV vh;refine jH (λcH=>c6<|.ret _ _ _<|Ak gu a0 cV<|.inl<|d1 cH.symm) λcH=>?_;have ux:b9+1+k2<b.O:=by lia
         exact bU _ _ _ ⟨gu,aM.p,ux,by have:=aM.s;lia⟩ ux<|ks ux
        ·have:k2=0:=(h8 (hR aW)<|gG _)
         subst this;exact bU _ _ _ ⟨cS,aM.p,sE,wh aM.s⟩ sE<|ks sE
       case uF =>
        subst gz;intro u v8 xF dB c7 jy;refine cz<|ih Am ?_
        fail;fail
        have jx:=dB.m.v7 a0 Am λy aK=>bP jy<|vf cV c7 y aK;refine jH (λcH=>c6<|.ret _ _ _<|Ea jx a0 cV<|Gh _ _ cH) λcH=>?_;have bz:q9 rk a b (x+2) _ (qw+1) xF:=⟨jx,r9 aM.p cH,c7,by have:=dB.s;lia⟩
        exact iC (λ_=>c6<|.go _ _ _ _ _ bz) λ_=>c6<|.mk _ _ _ _ _ bz
end
section
variable {rk:b3->Nat}{cy eZ R:List b3}{na nb:Nat}
structure gZ (rk:b3->Nat) (cy eZ R:List b3) (na nb:Nat):Prop where
 perm:R.Perm<|cy.drop na++eZ.drop nb
 lQ:eX rk R
 p7:∀x∈cy.take na,∀y∈R,rk x<=rk y
 p8:∀x∈eZ.take nb,∀y∈R,rk x<=rk y
def gZ.swap(h:gZ rk cy eZ R na nb):gZ rk eZ cy R nb na:=⟨h.perm.trans r2,h.lQ,h.p8,h.p7⟩
def gZ.app(h:gZ rk cy eZ R na nb)(a0:eX rk cy)(m:Nat)(hm:m<=na)(av:∀x∈(cy.drop m).take (na-m),∀y∈eZ.take nb,rk y<=rk x):gZ rk cy eZ ((cy.drop m).take (na-m)++R) m nb:=by
 have hd:cy.drop m=(cy.drop m).take (na-m)++cy.drop na:=by
  have:(cy.drop m).drop (na-m)=cy.drop na:=by rw[BS];congr 1;exact nt hm
  rw[<-this,pL]
 have cA:cy.take na=cy.take m++(cy.drop m).take (na-m):=by have:=GS (l:=cy) (i:=m) (j:=na-m);rw[show m+(na-m)=na from(nt hm)]at this;exact this
 have st:eX rk<|cy.take na:=a0.sublist<|yq _ _;rw[cA]at st;obtain⟨s1,s2,s3⟩:=pN.mp st;refine⟨?_,?_,?_,?_⟩
 ·refine(h.perm.append_left _).trans ?_;rw[<-h6,<-hd]
 ·exact pN.mpr ⟨s2,h.lQ,λx fm y aK=>h.p7 x (by rw[cA];exact l1 _ fm) y aK⟩
 ·intro x fm y aK;rcases hQ.mp aK with aK|aK
  ·exact s3 x fm y aK
  ·exact h.p7 x (by rw[cA];exact pM _ fm) y aK
 ·intro x fm y aK;rcases hQ.mp aK with aK|aK
  ·exact av y aK x fm
  ·exact h.p8 x fm y aK
def gZ.fin(h:gZ rk cy eZ R na nb)(a0:eX rk cy)(cV:eX rk eZ)(av:∀x∈cy.take na,∀y∈eZ.take nb,rk x<=rk y):eX rk (cy.take na++eZ.take nb++R)/\(cy.take na++eZ.take nb++R).Perm (cy++eZ):=by
 refine⟨pN.mpr ⟨pN.mpr ⟨a0.sublist<|yq _ _,cV.sublist<|yq _ _,av⟩,h.lQ,λx fm y aK=>?_⟩,?_⟩
 ·rcases hQ.mp fm with fm|fm
  ·exact h.p7 x fm y aK
  ·exact h.p8 x fm y aK
 ·refine(h.perm.append_left _).trans ?_;have p:(cy.take na++eZ.take nb++(cy.drop na++eZ.drop nb)).Perm (cy.take na++cy.drop na++(eZ.take nb++eZ.drop nb)):=by rw[h6,h6];refine List.Perm.append_left _ ?_;rw[<-h6,<-h6];exact r2.append_right _
  rw[pL,pL]at p;exact p
end
section
variable {prog:dx}{w:c3}{A:dH}{E:mt->aR->Prop}{s:aR}{κ:wC}{du:Array b3}{rk:b3->Nat}
def Ao(a:Array b3)(m n:Nat):(a.extract m n).D=(a.toList.drop m).take (n-m):=by rw[B3,BL]
def al0(out:Array b3)(x:b3):(out.push x).D.reverse=[x]++out.D.reverse:=by simp
def akh(out c:Array b3):(out++c.reverse).D.reverse=c.D++out.D.reverse:=by simp
def Ec(a:Array b3)(n:Nat):(a.extract 0 n).D=a.toList.take n:=by rw[Ao];simp
def gZ.v7{a b out:Array b3}{na nb:Nat}(h:gZ rk a.D b.D out.D.reverse na nb)(a0:eX rk a.D)(h0:0<na)(ba:na-1<a.O)(av:∀y∈b.toList.take nb,rk y<=rk a[na-1]):gZ rk a.D b.D (out.push a[na-1]).D.reverse (na-1) nb:=by
 have e:(a.toList.drop<|na-1).take (na-(na-1))=[a[na-1]]:=by rw[show na-(na-1)=1 from(Nat.sub_sub_self h0),D9 a ba]
 have:=h.app a0 (na-1) (mH _ _) (by rw[e];intro x fm y aK;rw[ow.mp fm];exact av y aK);rw[e]at this;rw[al0];exact this
def gZ.v5{a b out:Array b3}{na nb:Nat}(h:gZ rk a.D b.D out.D.reverse na nb)(cV:eX rk b.D)(h0:0<nb)(aq:nb-1<b.O)(av:∀y∈a.toList.take na,rk y<=rk b[nb-1]):gZ rk a.D b.D (out.push b[nb-1]).D.reverse na (nb-1):=(gZ.v7 (a:=b) (b:=a) h.swap cV h0 aq av).swap
def gZ.Bz{a b out:Array b3}{na nb m:Nat}(h:gZ rk a.D b.D out.D.reverse na nb)(a0:eX rk a.D)(hm:m<=na)(av:∀x∈(a.toList.drop m).take (na-m),∀y∈b.toList.take nb,rk y<=rk x):gZ rk a.D b.D (out++(a.extract m na).reverse).D.reverse m nb:=by rw[akh,Ao];exact h.app a0 m hm av
def gZ.L0{a b out:Array b3}{na nb m:Nat}(h:gZ rk a.D b.D out.D.reverse na nb)(cV:eX rk b.D)(hm:m<=nb)(av:∀x∈(b.toList.drop m).take (nb-m),∀y∈a.toList.take na,rk y<=rk x):gZ rk a.D b.D (out++(b.extract m nb).reverse).D.reverse na m:=(gZ.Bz (a:=b) (b:=a) h.swap cV hm av).swap
def Ap{a b out:Array b3}{na nb:Nat}(h:gZ rk a.D b.D out.D.reverse na nb)(a0:eX rk a.D)(cV:eX rk b.D)(av:na=0\/nb=0):i9 rk a b<|a.extract 0 na++b.extract 0 nb++out.reverse:=by
 unfold i9;rw[wq,wq,Ec,Ec,M3];refine h.fin a0 cV ?_;rcases av with rfl|rfl
 ·intro x av;simp at av
 ·intro x _ y aK;simp at aK
def Ed{a b out:Array b3}{na nb:Nat}(h:gZ rk a.D b.D out.D.reverse na nb)(a0:eX rk a.D)(cV:eX rk b.D)(av:∀x∈b.toList.take nb,∀y∈a.toList.take na,rk x<=rk y):i9 rk a b<|b.extract 0 nb++a.extract 0 na++out.reverse:=by unfold i9;rw[wq,wq,Ec,Ec,M3];obtain⟨af,ak⟩:=h.swap.fin cV a0 av;exact⟨af,ak.trans r2⟩
def xG{a:Array b3}(h:eX rk a.D){n:Nat}(h0:0<n)(bz:n-1<a.O):∀y∈a.toList.take n,rk y<=rk a[n-1]:=by intro y aK;obtain⟨j,bU,rfl⟩:=yn.mp aK;rw[jS,gH]at bU;rw[yu];have:=xE (rk:=rk) (lo:=0) (hi:=a.O) h (cg _) j (n-1) (gG _) Z3<|bz;rw[hg<|d4 bU<|BY _ _,hg bz]at this;simpa using this
structure jZ (rk:b3->Nat) (a b:Array b3) (n na nb:Nat) (out:Array b3):Prop where
 m:gZ rk a.D b.D out.D.reverse na nb
 p:0<na
 q:na<=a.O
 r:1<nb
 t:nb<=b.O
 s:n+na+nb<=a.O+b.O
def jZ.le{n m na nb:Nat}(h:jZ rk a b n na nb out)(l:m<=n):jZ rk a b m na nb out:=⟨h.m,h.p,h.q,h.r,h.t,by have:=h.s;lia⟩
def jZ.ga{n na nb:Nat}(h:jZ rk a b n na nb out):na-1<a.O:=by have:=h.p;have:=h.q;lia
def jZ.kZ{n na nb:Nat}(h:jZ rk a b n na nb out):nb-1<b.O:=by have:=h.r;have:=h.t;lia
def jZ.a1{n na nb:Nat}(h:jZ rk a b n na nb out)(m:gZ rk a.D b.D pF.D.reverse (na-1) nb)(c:na-1≠0):jZ rk a b (n+1) (na-1) nb pF:=⟨m,kf c,bP (mH _ _) h.q,h.r,h.t,by have:=h.p;have:=h.s;lia⟩
def jZ.cq{n na nb:Nat}(h:jZ rk a b n na nb out)(m:gZ rk a.D b.D pF.D.reverse na<|nb-1)(c:nb-1≠1):jZ rk a b (n+1) na (nb-1) pF:=⟨m,h.p,h.q,by have:=h.r;lia,bP (mH _ _) h.t,by have:=h.r;have:=h.s;lia⟩
def abO(ek:oh prog w A E s κ du rk){st:dO}(aW:hk st=κ){a b:Array b3}(ba:∀x∈a,x∈du)(aq:∀x∈b,x∈du)(a0:eX rk a.D)(cV:eX rk b.D)(Aq:0<a.O)(Ee:0<b.O)
  (hf:∀x∈a,rk b[0]<rk x) (aB:∀x∈b,rk x<rk a[a.O-1])
  {Q:Array b3->dO->Prop} (h:∀r g,i9 rk a b r->Q r (jk st g)):wpS Z9 A E s (PO a b) Q st:=by
 have same:∀r,i9 rk a b r->Q r st:=λr aV=>h r (sr st) aV;have Ar:∀{nb} na,nb=1->∀x∈b.toList.take nb,∀y∈a.toList.take na,rk x<=rk y:=λna e x av y aK=>by
  subst e;have av:x=b[0]:=by have:=D9 b Ee;rw[yx]at this;rw[this]at av;exact ow.mp av
  rw[av];exact ez (hf y<|by simpa using tT aK)
 have xg:a.O-1<a.O:=wo Aq Z0;have start:gZ rk a.D b.D (#[a[a.O-1]]:Array b3).D.reverse (a.O-1) b.O:=by
  have h0:gZ rk a.D b.D (#[]:Array b3).D.reverse a.O b.O:=⟨by simp,by simp,by simp,by simp⟩
  exact h0.v7 a0 Aq xg λy aK=>ez (aB y<|by simpa using tT aK)
 unfold PO;unfold wpS;wp_delta;wp_delta;refine tj ?_;refine cz<|su<|l7 ⟨rfl,?_⟩
 repeat fail
 refine cz<|ih (i:=a.O-1) xg ?_
 repeat fail
 refine jH (λb6=>c6<|same _<|Ap start a0 cV<|.inl b6) λb6=>jH (λdA=>c6<|same _<|Ed start a0 cV<|Ar _ dA) λdA=>?_;refine cz<|oI ?_
 repeat fail
 refine cz (xD (In:=jZ rk a b) (G:=i9 rk a b) (λx=>x+1) (a.O+b.O) ⟨start,kf b6,mH _ _,by lia,cg _,by lia⟩ ?step (λ_ _ _ h=>h.le<|t6 _) (λg r _ aV=>c6<|h r g aV) λg na nb out a3 h=>?post)
 case post =>
  have af:=h.p;have bc:=h.s;lia
 case step =>
  intro x g na nb out a3 av af;show wpS _ _ _ _ (Bind.bind _ _) _ _;dsimp (zeta:=Y1) (zetaHave:=Y1) only;refine cz (xD (G:=i9 rk a b) (z:=(0,0)) (λy=>x+1+y) (x+2) af ?s1 (λ_ _ _ h=>h.le<|BV<|oA Aq) (λg r z aV=>?bA) λg na nb out z af=>?dB)
  case s1 =>
   intro y g na nb out z aK fk;obtain⟨ac,ra⟩:=z;have ga:=fk.ga;have kZ:=fk.kZ;show wpS _ _ _ _ (Bind.bind _ _) _ _;dsimp (zeta:=Y1) (zetaHave:=Y1) only;refine cz<|ih kZ<|cz<|ih ga<|cz<|ek _ _ _ _ aW (aq _<|jU _) (ba _<|jU _) ?_;dsimp (zeta:=Y1) (zetaHave:=Y1) only;refine tk (λhw=>?_) λhw=>?_
   ·repeat fail
    refine cz<|ih ga ?_
    repeat fail
    have cS:=fk.m.v7 a0 fk.p ga λy aK=>bP (xG cV (kN fk.r) kZ y aK)<|ez hw;refine jH (λc=>c6<|.ret _ _ _<|Ap cS a0 cV<|.inl c) λc=>?_;have bz:=fk.a1 cS c;exact iC (λ_=>c6<|.go _ _ _ _ _<|bz.le<|t4<|gb _ _) λ_=>c6<|.mk _ _ _ _ _ bz
   ·repeat fail
    refine cz<|ih kZ ?_
    repeat fail
    have cS:=fk.m.v5 cV (kN fk.r) kZ λy aK=>bP (xG a0 fk.p ga y aK)<|hR hw;refine jH (λc=>c6<|.ret _ _ _<|Ed cS a0 cV<|Ar _ c) λc=>?_;have bz:=fk.cq cS c;exact iC (λ_=>c6<|.go _ _ _ _ _<|bz.le<|t4<|gb _ _) λ_=>c6<|.mk _ _ _ _ _ bz
  case bA =>
   repeat fail
   exact c6<|.ret _ _ _ aV
  case dB =>
   obtain⟨ac,ra⟩:=z;show wpS _ _ _ _ (Bind.bind _ _) _ _;dsimp (zeta:=Y1) (zetaHave:=Y1) only;refine cz<|su<|l7 ⟨rfl,?_⟩
   repeat fail
   refine cz (xD (G:=i9 rk a b) (z:=(_,ac,ra)) (λ_=>x+2) (x+2) af ?s2 (λ_ _ _ h=>h) (λg r z aV=>?cp) λg na nb out z af=>?c7)
   case cp =>
    repeat fail
    exact c6<|.ret _ _ _ aV
   case c7 =>
    obtain⟨a3,ac,ra⟩:=z;show wpS _ _ _ _ (Bind.bind _ _) _ _;dsimp (zeta:=Y1) (zetaHave:=Y1) only
    repeat fail
    exact cz<|Eb<|c6<|.mk _ _ _ _ _ af
   case s2 =>
     intro y g na nb out z aK fk;obtain⟨a3,ac,ra⟩:=z;have ga:=fk.ga;have kZ:=fk.kZ
     fail;fail;fail;fail;fail;fail;fail;fail;fail;fail;fail
     dsimp (zeta:=Y1) (zetaHave:=Y1) only;refine pf ?_;intro e8 gz;extract_lets+onlyGivenNames-underBinder jpv;clear_value (hjpv:jpv=_);revert jpv;refine pg (P:=λjp=>∀u m,wpS Z9 A E s (jp u m) e8<|jk st g) ?rb ?k0
     case k0 =>
      subst gz;intro jp bU;refine iC (λ_=>?_) λ_=>bU _ _
      fail
      exact bU _ _
     case rb =>
      subst gz;intro u ry;refine cz<|Eb<|cz<|ih kZ<|cz (xC (st:=jk st ry) (arr:=a) (base:=0) (n:=na) ek aW (aq _<|jU _) ba (by have:=fk.q;exact yB this<|gG _) (wo fk.p Z0) (xE a0 (by have:=fk.q;exact yB this<|gG _)) λk pe qv vd=>?_);dsimp (zeta:=Y1) (zetaHave:=Y1) only;have lo:∀x∈(a.toList.drop k).take (na-k),∀y∈b.toList.take nb,rk y<=rk x:=λx av y aK=>by obtain⟨j,bU,aP,rfl⟩:=Al av;have:=vd (k+j) (gb _ _) Z3;unfold hy at this;rw[t5,hg aP]at this;simp at this;exact bP (xG cV (kN fk.r) kZ y aK)<|ez this
      have hi:∀(h0:0<k) (aP:k-1<a.O),rk a[k-1]<=rk b[nb-1]:=λh0 aP=>by have:=qv (k-1)<|wo h0 Z0;unfold hy at this;rw[t5,hg aP]at this;simpa using this
      fail;fail
      refine pf ?_;intro e8 gz;extract_lets+onlyGivenNames-underBinder jpv;clear_value (hjpv:jpv=_);revert jpv;refine pg (P:=λjp=>∀u (qx:Nat) (pF:Array b3),jZ rk a b (x+2) qx nb pF->(dC:qx-1<a.O)->rk a[qx-1]<=rk b[nb-1]->wpS Z9 A E s (jp u qx pF) e8 (jk st ry)) ?nM ?k1
      case k1 =>
       subst gz;intro jp bU;refine iC (λaW=>?_) λaW=>?_
       ·fail;fail
        have cS:=fk.m.Bz a0 pe lo;refine jH (λc=>c6<|.ret _ _ _<|Ap cS a0 cV<|.inl c) λc=>?_;have bz:jZ rk a b (x+2) k nb _:=⟨cS,kf c,bP pe fk.q,fk.r,fk.t,by have:=fk.s;lia⟩
        exact bU _ _ _ bz bz.ga<|hi bz.p bz.ga
       ·have:k=na:=by lia
        subst this;exact bU _ _ _ fk ga<|hi fk.p ga
      case nM =>
       subst gz;intro u qx pF aM As ht
       fail
       refine cz<|ih kZ ?_
       fail
       have cS:=aM.m.v5 cV (kN aM.r) kZ λy aK=>bP (xG a0 aM.p As y aK) ht;refine jH (λc=>c6<|.ret _ _ _<|Ed cS a0 cV<|Ar _ c) λc=>?_;have bC:=aM.cq cS c;refine cz<|ih As<|cz (xC (st:=jk st ry) (arr:=b) (base:=0) (n:=nb-1) ek aW (ba _<|jU _) aq (by have:=bC.t;exact yB this<|gG _) (wo (kN bC.r) Z0) (xE cV (by have:=bC.t;exact yB this<|gG _)) λk2 n1 vg An=>?_);dsimp (zeta:=Y1) (zetaHave:=Y1) only;have vh:∀x∈(b.toList.drop k2).take (nb-1-k2),∀y∈a.toList.take qx,rk y<=rk x:=λx av y aK=>by obtain⟨j,bU,aP,rfl⟩:=Al av;have:=An (k2+j) (gb _ _) Z3;unfold hy at this;rw[t5,hg aP]at this;simp at this;exact bP (xG a0 aM.p As y aK) this
       have ks:∀(h0:0<k2) (aP:k2-1<b.O),rk b[k2-1]<rk a[qx-1]:=λh0 aP=>by have:=vg (k2-1)<|wo h0 Z0;unfold hy at this;rw[t5,hg aP]at this;simpa using this
       fail;fail
       refine pf ?_;intro e8 gz;extract_lets+onlyGivenNames-underBinder jpv;clear_value (hjpv:jpv=_);revert jpv;refine pg (P:=λjp=>∀u (xp:Nat) (v8:Array b3),jZ rk a b (x+2+1) qx xp v8->(dC:xp-1<b.O)->rk b[xp-1]<rk a[qx-1]->wpS Z9 A E s (jp u xp v8) e8 (jk st ry)) ?uF ?k2
       case k2 =>
        subst gz;intro jp bU;refine iC (λaW=>?_) λaW=>?_
        ·fail;fail
         have gu:=cS.L0 cV n1 vh;refine jH (λcH=>c6<|.ret _ _ _<|Ed gu a0 cV<|Ar _ cH) λcH=>jH (λPT=>c6<|.ret _ _ _<|Ap gu a0 cV<|.inr PT) λPT=>?_;have bz:jZ rk a b (x+2+1) qx k2 _:=⟨gu,aM.p,aM.q,by lia,bP n1 bC.t,by have:=bC.s;lia⟩
         exact bU _ _ _ bz bz.kZ<|ks (kN bz.r) bz.kZ
        ·have:k2=nb-1:=by lia
         subst this;exact bU _ _ _ bC bC.kZ<|ks (kN bC.r) bC.kZ
       case uF =>
        subst gz;intro u xp v8 dB c7 sI
        fail
        refine cz<|ih As ?_
        fail
        have jx:=dB.m.v7 a0 aM.p As λy aK=>bP (xG cV (kN dB.r) c7 y aK)<|ez sI;refine jH (λcH=>c6<|.ret _ _ _<|Ap jx a0 cV<|.inl cH) λcH=>?_;have bz:=(dB.a1 jx cH).le (gb (x+2) 2);exact iC (λ_=>c6<|.go _ _ _ _ _ bz) λ_=>c6<|.mk _ _ _ _ _ bz
end
def abP(m:List b3):∀(n:Nat) (arr:Array b3) (lo:Nat),lo+n+m.H<=arr.O ->
  ((m.zipIdx n).foldl (λa (p:b3×Nat)=>a.setIfInBounds (lo+p.2) p.1) arr).D=arr.toList.take (lo+n)++m++arr.toList.drop (lo+n+m.H):=by
 induction m with
 |nil=>intro n arr lo h;simp
 |cons x m a4 =>
  intro n arr lo h;rw[List.zipIdx_cons,mG,a4 (n+1) _ lo<|by rw[Array.size_setIfInBounds,d8]at*;lia];rw[d8]at h;have dC:lo+n<arr.D.H:=by rw[gH];exact qS h
  rw[MZ];have az:(arr.toList.set (lo+n) x).take (lo+(n+1))=arr.toList.take (lo+n)++[x]:=by rw[show lo+(n+1)=lo+n+1 from(yF _),ML,List.take_set_of_le<|cg _];rw[GF dC];rfl
  have au:(arr.toList.set (lo+n) x).drop (lo+(n+1)+m.H)=arr.toList.drop (lo+n+(x::m).H):=by rw[List.drop_set_of_lt Z3,d8];congr 1;lia
  rw[az,au];simp
def PU:Nat->StateT dO Sem Bool:=sortPriv% PySem.Builtin.mergeAt
section
variable {prog:dx}{w:c3}{A:dH}{E:mt->aR->Prop}{s:aR}{κ:wC}{du:Array b3}{rk:b3->Nat}
abbrev xH(st:dO)(p:Array<|Nat×Nat×Nat)(xs:Array b3)(g:Nat):dO:=SortSt.mk' (hk st) xs p g<|qZ st
structure JF (rk:b3->Nat) (xs m4:Array b3) (lo hi:Nat):Prop where
 perm:m4.Perm xs
 same:∀i,(i<lo\/hi<=i)->m4[i]?=xs[i]?
 lQ:fZ rk m4 lo hi
def PV{lo hi i j:Nat}(h:fZ rk xs lo hi)(af:lo<=i)(ak:j<=hi)(bc:hi<=xs.O):eX rk (xs.extract i j).D:=by rw[Ao,eX,GB];intro p q aF a7 abQ;rw[jS,gc,gH]at aF a7;rw[yu,yt,yu,yt];have:=h (i+p) (i+q) (oA af) (h7 (ez abQ) _) Z3;rw[hg Z3,hg Z3]at this;simpa using this
def JG{xs:Array b3}{i j k:Nat}(h:k<(xs.extract i j).O)(h':i+k<xs.O):(xs.extract i j)[k]=xs[i+k]:=by rw[Array.getElem_extract]
def Au{xs:Array b3}{i j:Nat}(h:j<=xs.O):(xs.extract i j).O=j-i:=by rw[Array.size_extract,Nat.min_eq_left h]
def Ef{xs:Array b3}{i j:Nat}{x:b3}(bU:j<=xs.O)(h:x∈xs.extract i j):∃k,i<=k/\k<j/\∃aP:k<xs.O,x=xs[k]:=by obtain⟨k,aW,rfl⟩:=Array.mem_iff_getElem.mp h;rw[Au bU]at aW;exact⟨i+k,(gb _ _),by lia,by lia,JG _ _⟩
def abR{a0 na nb k k2:Nat}(hsz:a0+na+nb<=xs.O)(aW:k<na)(h0:0<k2)(qv:k2<=nb)(s1:fZ rk xs a0<|a0+na)(s2:fZ rk xs (a0+na)<|a0+na+nb)
  (lo:∀p,a0<=p->p<a0+k->at_ rk xs p<=at_ rk xs (a0+na)) (up:∀p,a0+k<=p->p<a0+na->at_ rk xs (a0+na)<at_ rk xs p)
  (vh:∀p,a0+na<=p->p<a0+na+k2->at_ rk xs p<at_ rk xs (a0+na-1)) (Eg:∀p,a0+na+k2<=p->p<a0+na+nb->at_ rk xs (a0+na-1)<=at_ rk xs p)
  (aV:i9 rk (xs.extract (a0+k)<|a0+na) (xs.extract (a0+na)<|a0+na+k2) r) :
  JF rk xs (List.foldl (λa (p:b3×Nat)=>a.setIfInBounds (a0+k+p.2) p.1) xs r.D.zipIdx) a0 (a0+na+nb):=by
 obtain⟨b7,aF⟩:=aV;have ei:r.D.H=na-k+k2:=by rw[aF.length_eq,gq,gH,gH,Au<|l2 hsz,Au<|bP (h7 qv _) hsz,GY,yz]
 have au:a0+na+k2=a0+k+(na-k+k2):=by rw[<-yD,yD a0 k,nt<|ez aW]
 have W:=abP r.D 0 xs (a0+k) (by rw[ei,G6,<-au];exact bP (h7 qv _) hsz);rw[G6,ei]at W;generalize anT:List.foldl (λa (p:b3×Nat)=>a.setIfInBounds (a0+k+p.2) p.1) xs r.D.zipIdx=aO at W |-;have PW:(xs.extract (a0+k)<|a0+na).D++(xs.extract (a0+na)<|a0+na+k2).D=(xs.toList.drop<|a0+k).take (na-k+k2):=by
  rw[Ao,Ao,GS,BS];congr 2
  ·exact GY _ _ _
  ·exact yz _ _
  ·congr 1;lia
 have dC:(xs.toList.take<|a0+k).H=a0+k:=by rw[jS,gH];lia
 have hi:∀{p},a0+k<=p->p<a0+na+k2->p-(a0+k)<r.D.H:=λh h'=>by rw[ei];exact yy h<|au▸h'
 have g1:∀p,p<a0+k->aO[p]?=xs[p]?:=λp h=>by rw[<-lB,W,h6,ym<|d4 h<|d1 dC.symm,Mv h,lB]
 have g2:∀p,a0+k<=p->p<a0+na+k2->aO[p]?=r.D[p-(a0+k)]?:=λp h h'=>by rw[<-lB,W,h6,BK<|bP (d1 dC) h,dC,ym<|hi h h']
 have g3:∀p,a0+na+k2<=p->aO[p]?=xs[p]?:=λp h=>by rw[<-lB,W,BK (by rw[gq,dC,ei,<-au];exact h),gq,dC,ei,List.getElem?_drop,<-au,nt h,lB]
 have inr:∀p,a0+k<=p->p<a0+na+k2->∃q,a0+k<=q/\q<a0+na+k2/\at_ rk aO p=at_ rk xs q:=λp h h'=>by
  have hi:=hi h h';have hm:r.D[p-(a0+k)]∈(xs.toList.drop<|a0+k).take (na-k+k2):=by rw[<-PW];exact aF.mem_iff.mp<|oy hi
  obtain⟨j,bU,aP,e⟩:=Al hm;refine⟨a0+k+j,(gb _ _),by lia,?_⟩;rw[hg aP,<-e];unfold at_;rw[g2 p h h',hh hi];rfl
 have a1:∀p,p<a0+k->at_ rk aO p=at_ rk xs p:=λp h=>by unfold at_;rw[g1 p h]
 have k4:∀p,a0+na+k2<=p->at_ rk aO p=at_ rk xs p:=λp h=>by unfold at_;rw[g3 p h]
 refine⟨?_,λp h=>?_,λp q af ak bc=>?_⟩
 ·rw[M0,W];have:xs.D=xs.toList.take (a0+k)++((xs.toList.drop<|a0+k).take (na-k+k2)++xs.toList.drop (a0+k+(na-k+k2))):=by
   have e:xs.toList.drop (a0+k+(na-k+k2))=(xs.toList.drop<|a0+k).drop (na-k+k2):=by rw[BS]
   rw[e,pL,pL]
  rw[h6]
  conv=>rhs;rw[this]
  refine List.Perm.append_left _<|List.Perm.append_right _ ?_;rw[<-PW];exact aF
 ·rcases h with h|h
  ·exact g1 p<|oA h
  ·exact g3 p<|bP (h7 qv _) h
 ·have key:∀u v,a0<=u->u<a0+na->a0+na<=v->v<a0+na+nb->(u<a0+k\/a0+na+k2<=v)->at_ rk xs u<=at_ rk xs v:=λu v cq cE fj wX sJ=>by
   rcases sJ with sJ|sJ
   ·exact bP (lo u cq sJ)<|s2 _ v (cg _) fj wX
   ·exact bP (s1 u (a0+na-1) cq (t2 cE)<|BX cE)<|Eg v sJ wX
  have cmp:∀u v,a0<=u->u<=v->v<a0+na+nb->(u<a0+k\/a0+na+k2<=v)->at_ rk xs u<=at_ rk xs v:=λu v cq cE fj wX=>by
   rcases l3 v (a0+na) with c|c
   ·exact s1 u v cq cE c
   ·rcases l3 u (a0+na) with d|d
    ·exact key u v cq d c fj wX
    ·exact s2 u v d cE fj
  rcases l3 p (a0+k) with b6|b6
  ·rw[a1 p b6];rcases l3 q (a0+k) with dA|dA
   ·rw[a1 q dA];exact cmp p q af ak bc<|.inl b6
   ·rcases l3 q (a0+na+k2) with jY|jY
    ·obtain⟨eM,aX,bb,e⟩:=inr q dA jY;rw[e];exact cmp p eM af (bP (ez b6) aX) (d4 bb<|h7 qv _)<|.inl b6
    ·rw[k4 q jY];exact cmp p q af ak bc<|.inl b6
  ·rcases l3 p (a0+na+k2) with dA|dA
   ·rcases l3 q (a0+na+k2) with jY|jY
    ·have eR:p-(a0+k)<r.O:=hi b6 dA;have abS:q-(a0+k)<r.O:=hi (bP b6 ak) jY;have:=xE (rk:=rk) (lo:=0) (hi:=r.O) b7 (cg _) (p-(a0+k)) (q-(a0+k)) (gG _) (GW ak _) abS;unfold at_ at this |-;rw[g2 p b6 dA,g2 q (bP b6 ak) jY,lB,lB];exact this
    ·obtain⟨fY,aX,bb,e⟩:=inr p b6 dA;rw[e,k4 q jY];exact cmp fY q (l2 aX) (bP (ez bb) jY) bc<|.inr jY
   ·rw[k4 p dA,k4 q<|bP dA ak];exact cmp p q af ak bc<|.inr<|bP dA ak
def al1{st c1:dO}{Q:PUnit->dO->Prop}(h:Q ⟨⟩ c1):wpS Z9 A E s (set c1:StateT dO Sem PUnit) Q st:=by unfold wpS;rw[StateT.run_set];exact bZ ⟨rfl,h⟩
def abT(ek:oh prog w A E s κ du rk){st:dO}(aW:hk st=κ)(aF:(cC st).Perm du)(abU:qZ st=C){i a0 na pa nb pb:Nat}(dB:(fx st)[i]?=J (a0,na,pa))(c7:(fx st)[i+1]?=J (a0+na,nb,pb))
  (Aq:0<na) (Ee:0<nb) (hsz:a0+na+nb<=(cC st).O) (s1:fZ rk (cC st) a0<|a0+na) (s2:fZ rk (cC st) (a0+na)<|a0+na+nb)
  {Q:Bool->dO->Prop} (h:∀xs g,JF rk (cC st) xs a0 (a0+na+nb)->Q Y0 (xH st Zc xs g)):wpS Z9 A E s (PU i) Q st:=by
 unfold PU;unfold wpS;wp_delta;wp_delta;refine tj ?_;have rT:∀x∈cC st,x∈du:=λx av=>aF.mem_iff.mp av
 have done:(∀p q,a0<=p->p<a0+na->a0+na<=q->q<a0+na+nb->at_ rk (cC st) p<=at_ rk (cC st) q)->JF rk (cC st) (cC st) a0 (a0+na+nb):=λav=>⟨.refl _,λ_ _=>rfl,λp q af ak bc=>by
  rcases l3 q (a0+na) with c|c
  ·exact s1 p q af ak c
  ·rcases l3 p (a0+na) with cH|cH
   ·exact av p q af cH c bc
   ·exact s2 p q cH ak bc⟩
 have lb:a0+na<(cC st).O:=(d4 (BV Ee) hsz)
 refine cz<|oI ?_;rw[show(PyProof.Rows.pendingOf st)[i]?=J (a0,na,pa) from dB,show(PyProof.Rows.pendingOf st)[i+1]?=J (a0+na,nb,pb) from c7];dsimp (zeta:=Y1) (zetaHave:=Y1) only;refine cz<|al1 ?_;refine cz<|ih lb ?_;refine cz (xC (st:=xH st Zc (cC st)<|sr st) (arr:=cC st) (base:=a0) (n:=na) ek aW (rT _<|jU _) rT (ez lb) Aq s1 λk pe qv vd=>?_);dsimp (zeta:=Y1) (zetaHave:=Y1) only;have lo:∀p,a0<=p->p<a0+k->at_ rk (cC st) p<=at_ rk (cC st) (a0+na):=λp af ak=>by have:=qv (p-a0)<|yy af ak;unfold hy at this;rw[show a0+(p-a0)=p from(nt af)]at this;rw[hg lb];simpa using this
 have up:∀p,a0+k<=p->p<a0+na->at_ rk (cC st) (a0+na)<at_ rk (cC st) p:=λp af ak=>by have:=vd (p-a0) (MT af)<|yy (l2 af) ak;unfold hy at this;rw[show a0+(p-a0)=p from(nt<|l2 af)]at this;rw[hg lb];simpa using this
 by_cases c:na-k=0
 ·rw[Y2<|by simpa using c];refine c6<|h _ (sr st) (done λp q af ak bc cL=>bP (lo p af<|d4 ak<|h7 (yA c) _)<|s2 (a0+na) q (cg _) bc cL)
 rw[Y3<|by simpa using c];have wY:a0+k+(na-k)-1=a0+na-1:=by rw[yD,nt pe]
 have JH:a0+k+(na-k)-1<(cC st).O:=gS (d1 wY)<|BZ lb;refine cz<|ih JH ?_;refine cz (xC (st:=xH st Zc (cC st)<|sr st) (arr:=cC st) (base:=a0+na) (n:=nb) ek aW (rT _<|jU _) rT (hsz) (wo Ee Z0) s2 λk2 n1 vg An=>?_);dsimp (zeta:=Y1) (zetaHave:=Y1) only;have vh:∀p,a0+na<=p->p<a0+na+k2->at_ rk (cC st) p<at_ rk (cC st) (a0+na-1):=λp af ak=>by have:=vg (p-(a0+na))<|yy af ak;unfold hy at this;rw[show a0+na+(p-(a0+na))=p from(nt af)]at this;rw[<-wY,hg JH];simpa using this
 have Eg:∀p,a0+na+k2<=p->p<a0+na+nb->at_ rk (cC st) (a0+na-1)<=at_ rk (cC st) p:=λp af ak=>by have:=An (p-(a0+na)) (MT af)<|yy (l2 af) ak;unfold hy at this;rw[show a0+na+(p-(a0+na))=p from(nt<|l2 af)]at this;rw[<-wY,hg JH];simpa using this
 by_cases cH:k2=0
 ·rw[Y2<|by simpa using cH];refine c6<|h _ (sr st) (done λp q af ak bc cL=>bP (s1 p (a0+na-1) af (t2 ak)<|BX ak)<|Eg q (by rw[cH];exact bc) cL)
 rw[Y3<|by simpa using cH]
 fail;fail
 refine pf ?_;intro e8 gz;extract_lets+onlyGivenNames-underBinder jpv;clear_value (hjpv:jpv=_);revert jpv;refine pg (P:=λjp=>∀(r:Array b3) g,i9 rk ((cC st).extract (a0+k) (a0+na)) ((cC st).extract (a0+na) (a0+na+k2)) r->wpS Z9 A E s (jp r) e8 (xH st Zc (cC st) g)) ?rb ?k0
 case k0 =>
  subst gz;intro jp bU;have Cv:((cC st).extract (a0+k) (a0+na)).O=na-k:=by rw[Au<|ez lb,GY]
  have Cw:((cC st).extract (a0+na) (a0+na+k2)).O=k2:=by rw[Au<|bP (h7 n1 _) hsz];exact yz _ _
  have NA:∀x∈(cC st).extract (a0+k) (a0+na),x∈du:=λx av=>by obtain⟨p,_,_,aP,rfl⟩:=Ef (ez lb) av;exact rT _<|jU _
  have NB:∀x∈(cC st).extract (a0+na) (a0+na+k2),x∈du:=λx av=>by obtain⟨p,_,_,aP,rfl⟩:=Ef (bP (h7 n1 _) hsz) av;exact rT _<|jU _
  have NC:eX rk ((cC st).extract (a0+k) (a0+na)).D:=PV s1 (gb _ _) (cg _)<|ez lb;have ND:eX rk ((cC st).extract (a0+na) (a0+na+k2)).D:=PV s2 (cg _) (h7 n1 _)<|hsz;have HO:((cC st).extract (a0+na) (a0+na+k2))[0]'(d4 (kf cH)<|d1 Cw.symm)=(cC st)[a0+na]:=JG (k:=0) _ lb;have cx:∀x∈(cC st).extract (a0+k) (a0+na),rk (((cC st).extract (a0+na) (a0+na+k2))[0]'(d4 (kf cH)<|d1 Cw.symm))<rk x:=λx av=>by obtain⟨p,aX,bb,aP,rfl⟩:=Ef (ez lb) av;rw[HO];have:=up p aX bb;rw[hg aP,hg lb]at this;exact this
  have PX:∀x∈(cC st).extract (a0+na) (a0+na+k2),rk x<rk (((cC st).extract (a0+k) (a0+na))[((cC st).extract (a0+k) (a0+na)).O-1]'(Nat.sub_one_lt<|Cv▸c)):=λx av=>by
   have e:a0+k+(((cC st).extract (a0+k) (a0+na)).O-1)=a0+na-1:=by rw[Cv,<-MV (kf c),wY]
   obtain⟨p,aX,bb,aP,rfl⟩:=Ef (bP (h7 n1 _) hsz) av;rw[JG (h':=by rw[e];exact BZ lb)];have:=vh p aX bb;rw[hg aP,hg<|BZ lb]at this;simp only[e];exact this
  split
  ·exact cz (abN (st:=xH st Zc (cC st)<|sr st) ek aW NA NB NC ND (d4 (kf c)<|d1 Cv.symm) (d4 (kf cH)<|d1 Cw.symm) (cx _<|jU _) PX λr g aV=>bU r g aV)
  ·exact cz (abO (st:=xH st Zc (cC st)<|sr st) ek aW NA NB NC ND (d4 (kf c)<|d1 Cv.symm) (d4 (kf cH)<|d1 Cw.symm) cx PX λr g aV=>bU r g aV)
 case rb =>
  subst gz;intro r g aV;refine cz<|wB ?_;refine cz<|oI ?_;refine c6 ?_;have e:(qZ st).isNone=Y0:=by rw[abU];rfl
  show e8 (qZ st).isNone _;rw[e];exact h _ g<|abR hsz (G1<|kf c) (kf cH) n1 s1 s2 lo up vh Eg aV
def PY(ek:oh prog w A E s κ du rk){st:dO}(aW:hk st=κ)(hm:∀x∈cC st,x∈du){i j:Nat}(hi:i<(cC st).O)(bU:j<(cC st).O){Q:Option Bool->dO->Prop}(h:Q (J<|decide (at_ rk (cC st) i<at_ rk (cC st) j)) st):wpS Z9 A E s (ltAt' i j) Q st:=by rw[ltAt'_eq];refine cz<|oI ?_;refine cz<|ih hi<|cz<|ih bU ?_;refine ek st _ _ _ aW (hm _<|jU _) (hm _<|jU _) ?_;rw[hg hi,hg bU]at h;exact h
noncomputable def FV:Nat->Nat->Nat->StateT dO Sem Bool:=sortPriv% PySem.Builtin.binarySort
noncomputable def tK:Nat->Nat->StateT dO Sem (Option Nat):=sortPriv% PySem.Builtin.countRun
structure iD (xs m4:Array b3) (lo hi:Nat):Prop where
 perm:m4.Perm xs
 same:∀i,(i<lo\/hi<=i)->m4[i]?=xs[i]?
theorem iD.refl(xs:Array b3)(lo hi:Nat):iD xs xs lo hi:=⟨.refl _,λ_ _=>rfl⟩
theorem iD.trans{lo hi:Nat}(a:iD xs aO lo hi)(b:iD aO zs lo hi):iD xs zs lo hi:=⟨b.perm.trans a.perm,λi h=>(b.same i h).trans (a.same i h)⟩
def iD.size{lo hi:Nat}(a:iD xs aO lo hi):aO.O=xs.O:=a.perm.size_eq
def PZ{lo ok:Nat}(h:fZ rk xs lo<|lo+ok):fZ rk xs lo<|lo+max ok 1:=λp q cq cE fj=>by
 rcases l3 q (lo+ok) with c|c
 ·exact h p q cq cE c
 ·have:p=q:=by lia
  subst this;exact cg _
def aki{lo hi:Nat}(h:∀p,lo<=p->p+1<hi->at_ rk xs p<=at_ rk xs (p+1)):fZ rk xs lo hi:=λi j cq cE fj=>by
 induction cE with
 |refl=>exact cg _
 |step cE a4=>exact bP (a4<|kN fj)<|h _ (bP cq cE) fj
def akj{lo l k:Nat}(aP:lo+k<xs.O)(aB:l<=k)(s:fZ rk xs lo<|lo+k)(gK:∀i,i<l->at_ rk xs (lo+i)<=at_ rk xs (lo+k))(mO:∀i,l<=i->i<k->at_ rk xs (lo+k)<at_ rk xs (lo+i)) :
  (∀p,p<lo\/lo+k<p->(bubble xs (lo+k)<|lo+k-(lo+l))[p]?=xs[p]?)/\fZ rk (bubble xs (lo+k)<|lo+k-(lo+l)) lo (lo+k+1):=by
 have fE:=h7 aB lo;have e:∀p,(bubble xs (lo+k)<|lo+k-(lo+l))[p]?=if p=lo+l then xs[lo+k]? else if lo+l<p/\p<=lo+k then xs[p-1]? else xs[p]?:=λp=>by rw[getElem?_bubble aP _ (mH _ _) p,Nat.sub_sub_self fE]
 refine⟨λp aF=>?_,aki λp cq cE=>?_⟩
 ·rw[e,Y3,Y3]
  ·exact λz=>aF.elim (λc=>G7 c<|gS (gb _ _) z.1) λc=>sa z.2 c
  ·rintro rfl;exact aF.elim (λc=>sa (gb _ _) c) λc=>sa fE c
 ·obtain⟨i,rfl⟩:=Nat.exists_eq_add_of_le cq;have fj:=Nat.lt_of_succ_lt_succ cE;unfold at_;rw[e,e];rcases Nat.lt_trichotomy i l with c|c|c
  ·have cH:=nu c lo;rw[Y3<|bv cH,Y3 λz=>G7 cH z.1];rcases Nat.eq_or_lt_of_le c with d|d
   ·rw[Y2 (show lo+i+1=lo+l from congrArg (lo+·) d)];exact gK i c
   ·have d':lo+i+1<lo+l:=nu d lo;rw[Y3<|bv d',Y3 λz=>G7 d' z.1];exact s _ _ cq (t6 _)<|d4 d' fE
  ·subst c;rw[Y2 rfl,Y3<|Nat.succ_ne_self _,Y2 ⟨oC _,fj⟩];exact ez<|mO i (cg _)<|Nat.lt_of_add_lt_add_left fj
  ·have cH:=nu c lo;rw[Y3<|pQ cH,Y2 ⟨cH,ez fj⟩,Y3<|pQ<|oB cH,Y2 ⟨oB cH,fj⟩];exact s _ _ (GX<|gS (gb _ _) cH) (mH _ _) fj
inductive HP (rk:b3->Nat) (st:dO) (lo n k:Nat):Option Bool×Unit->dO->Prop
 |mk (xs:Array b3) (af:iD (cC st) xs lo<|lo+n) (ak:fZ rk xs lo<|lo+k) (bc:k<=n\/n=0):HP rk st lo n k (C,())<|jr st xs
def Gi{l r:Nat}(h:l<r):l<=(l+r) / 2/\(l+r) / 2<r:=by lia
def akk{l r n x:Nat}(h:l<r)(d:r-l<=n-x):r-((l+r) / 2+1)<=n-(x+1)/\(l+r) / 2-l<=n-(x+1):=by have e:r-(l+1)<=n-(x+1):=GW d 1;exact⟨bP (GZ (wh (Gi h).1) r) e,bP (GX<|Nat.sub_lt_sub_right (Gi h).1 (Gi h).2) e⟩
def aiF(ek:oh prog w A E s κ du rk){st:dO}(aW:hk st=κ)(aF:(cC st).Perm du){lo n ok:Nat}(bz:lo+n<=(cC st).O)(b1:ok<=n)(aP:fZ rk (cC st) lo<|lo+ok)
  {Q:Bool->dO->Prop} (h:∀xs,iD (cC st) xs lo (lo+n)->fZ rk xs lo (lo+n)->Q Y0 (jr st xs)):wpS Z9 A E s (FV lo n ok) Q st:=by
 unfold FV;unfold wpS;wp_delta;wp_delta;refine tj ?_;refine cz<|lC (mL (I:=HP rk st lo n) (Q:=HP rk st lo n n) ?step ?fin<|.mk (cC st) (.refl _ _ _) (PZ aP) Z3) ?post
 case fin =>
  intro c c1 fA;obtain⟨xs,af,ak,bc⟩:=fA;exact .mk xs af (λp q cq cE fj=>ak p q cq cE<|d4 fj<|h7 (G3 _ _) _)<|.inl<|cg _
 case post =>
  intro c c1 fA;obtain⟨xs,af,ak,bc⟩:=fA
  repeat fail
  exact c6<|h xs af ak
 case step =>
  intro k c c1 anU abV fA;obtain⟨xs,af,ak,bc⟩:=fA;have JI:lo+k<xs.O:=d4 (nu abV lo)<|bP bz<|d1 af.O.symm;have hm:∀x∈xs,x∈du:=λx av=>(af.perm.trans aF).mem_iff.mp av
  repeat fail
  refine cz (lC (mL (I:=λx=>sH (λi=>at_ rk xs (lo+i)<=at_ rk xs (lo+k)) (λi=>at_ rk xs (lo+k)<at_ rk xs (lo+i)) (jr st xs) k<|k-x)
   (Q:=sH (λi=>at_ rk xs (lo+i)<=at_ rk xs (lo+k)) (λi=>at_ rk xs (lo+k)<at_ rk xs (lo+i)) (jr st xs) k 0) ?s1 ?f1 (.mk 0 k (gG _) (cg _) (cg _) (λi hi=>absurd hi<|Nat.not_lt_zero _) λi hi bU=>absurd bU<|sa hi)) ?dB)
  case f1 =>
   intro c c1 h';rw[lf,B0]at h';exact h'
  case s1 =>
   intro x c c1 _ av fA;obtain⟨l,r,g1,g2,g3,gK,mO⟩:=fA
   repeat fail
   dsimp (zeta:=Y1) (zetaHave:=Y1) only;refine iC (λjG=>c6<|.mk l r g1 g2 (d1<|GV jG) gK mO) λjG=>?_;have dC:=sb jG;obtain⟨cS,gu⟩:=Gi dC;obtain⟨d7,fy⟩:=akk dC g3;have jx:=d4 gu g2
   repeat fail
   refine cz<|PY (st:=jr st xs) ek aW hm JI (wk (nu jx lo) JI) ?_;dsimp (zeta:=Y1) (zetaHave:=Y1) only;refine tk (λhw=>?_) λhw=>?_
   ·repeat fail
    exact c6 (.mk l _ cS (ez jx) fy gK λp cq cE=>d4 hw<|ak _ _ (gb _ _) (h7 cq _)<|nu cE _)
   ·repeat fail
    exact c6<|.mk _ r gu g2 d7 (λp cq=>bP (ak _ _ (gb _ _) (h7 (kg cq) _)<|nu jx _)<|hR hw) mO
  case dB =>
   intro c c1 fA;obtain⟨l,r,g1,g2,g3,gK,mO⟩:=fA;have:l=r:=h8 g1<|yA<|h8 g3<|gG _;subst this
   repeat fail
   dsimp (zeta:=Y1) (zetaHave:=Y1) only;refine cz ?_;refine wB ?_;obtain⟨ja,mg⟩:=akj JI g2 ak gK mO;have TS:k<n:=by lia
   exact c6<|.mk _ (af.trans ⟨bubble_perm _ _ _,λp xI=>ja p (xI.imp id λc=>d4 (nu TS _) c)⟩) mg<|.inl TS
def Eh{st:dO}{i j:Nat}{Q:Unit->dO->Prop}(h:Q ()<|jr st<|mirror (cC st) i j<|(j-i) / 2):wpS Z9 A E s (reverseSlice' i j) Q st:=by rw[reverseSlice'_eq];exact wB h
def P0{i j:Nat}(bU:j<=xs.O)(p:Nat):at_ rk (mirror xs i j<|(j-i) / 2) p=if i<=p/\p<j then at_ rk xs (i+j-1-p) else at_ rk xs p:=by unfold at_;rw[getElem?_mirror_all bU p];split<;>rfl
def JJ{i j:Nat}(bU:j<=xs.O)(he:∀p,i<=p->p<j->at_ rk xs p=at_ rk xs (j-1))(p:Nat):at_ rk (mirror xs i j<|(j-i) / 2) p=at_ rk xs p:=by
 rw[P0 bU];split
 ·rename_i h;rw[he _ Z3 Z3,he p h.1 h.2]
 ·rfl
theorem iD.mirror{i j lo hi:Nat}(bU:j<=xs.O)(af:lo<=i)(ak:j<=hi):iD xs (mirror xs i j<|(j-i) / 2) lo hi:=⟨mirror_perm _ _ _ _,λp aF=>by
 rw[getElem?_mirror_all bU p,Y3 λz=>aF.elim (λc=>G4 c<|bP af z.1) λc=>sa (bP ak c) z.2]⟩
def uH(rk:b3->Nat)(xs:Array b3)(lo hi:Nat):Prop:=∀p q,lo<=p->p<=q->q<hi->at_ rk xs q<=at_ rk xs p
def P1{R:Nat->Nat->Prop}(Wd:∀a,R a a)(p1:∀{a b c},R a b->R b c->R a c){f:Nat->Nat}{lo x:Nat}(g:∀p q,lo<=p->p<=q->q<lo+x->R (f p) (f q))(hw:R (f<|lo+x-1)<|f<|lo+x):∀p q,lo<=p->p<=q->q<lo+(x+1)->R (f p) (f q):=λp q cq cE fj=>by
 rcases l3 q (lo+x) with c|c
 ·exact g p q cq cE c
 ·obtain rfl:q=lo+x:=h8 (kg fj) c;rcases l3 p (lo+x) with d|d
  ·exact p1 (g p (lo+x-1) cq (t2 d)<|BX d) hw
  ·obtain rfl:p=lo+x:=h8 cE d;exact Wd _
def fZ.ext{lo x:Nat}(g:fZ rk xs lo<|lo+x)(hw:at_ rk xs (lo+x-1)<=at_ rk xs (lo+x)):fZ rk xs lo<|lo+(x+1):=P1 (R:=(·<=·)) cg bP g hw
def uH.ext{lo x:Nat}(g:uH rk xs lo<|lo+x)(hw:at_ rk xs (lo+x)<=at_ rk xs (lo+x-1)):uH rk xs lo<|lo+(x+1):=P1 (R:=λa b=>b<=a) cg (λh h'=>bP h' h) g hw
inductive zf {S:Type} (P:Nat->Prop) (cD:dO):Option S×Nat->dO->Prop
 |mk (n:Nat) (h:P n):zf P cD (C,n) cD
structure Cx (rk:b3->Nat) (xs:Array b3) (lo nrem n:Nat):Prop where
 a:1<=n
 b:n<=nrem
 c:fZ rk xs lo<|lo+n
inductive ib {S:Type} (rk:b3->Nat) (st:dO) (lo nrem:Nat) (P:Nat->Prop):Option S×Nat×Nat->dO->Prop
 |mk (xs:Array b3) (n ph:Nat) (h:P n) (aX:iD (cC st) xs lo<|lo+nrem) (bb:uH rk xs lo<|lo+n) (cK:ph+1<=n) (fV:∀p,lo+n-(ph+1)<=p->p<lo+n->at_ rk xs p=at_ rk xs (lo+n-1)) (hU:n<=nrem):ib rk st lo nrem P (C,n,ph)<|jr st xs
def JK{lo x:Nat}:∀p,lo+(x+1)-(0+1)<=p->p<lo+(x+1)->at_ rk xs p=at_ rk xs (lo+(x+1)-1):=λ_ cq cE=>congrArg _<|h8 (kg cE) cq
def Av(ek:oh prog w A E s κ du rk){st:dO}(aW:hk st=κ)(aF:(cC st).Perm du){lo nrem:Nat}(bz:lo+nrem<=(cC st).O)(af:1<=nrem)
  {Q:Option Nat->dO->Prop} (h:∀xs n,1<=n->n<=nrem->iD (cC st) xs lo (lo+nrem)->fZ rk xs lo (lo+n)->(fZ rk (cC st) lo (lo+nrem)->n=nrem)->Q (J n) (jr st xs)):wpS Z9 A E s (tK lo nrem) Q st:=by
 have abW:∀{xs:Array b3},iD (cC st) xs lo (lo+nrem)->∀x∈xs,x∈du:=λm x av=>(m.perm.trans aF).mem_iff.mp av;have BD:∀{xs:Array b3} {x y:Nat} {Q:Option Bool->dO->Prop},iD (cC st) xs lo (lo+nrem)->x<nrem->y<nrem->Q (J<|decide (at_ rk xs (lo+x)<at_ rk xs (lo+y))) (jr st xs)->wpS Z9 A E s (ltAt' (lo+x)<|lo+y) Q (jr st xs):=λ{xs x y Q} m av aK q =>
  have hz:∀{x},x<nrem->lo+x<xs.O:=λav=>d4 (nu av _)<|bP bz<|d1 m.O.symm
  PY (st:=jr st xs) ek aW (abW m) (hz av) (hz aK) q
 have pred:∀{x:Nat},1<=x->lo+x-1=lo+(x-1):=λh=>MV h lo;have m0:iD (cC st) (cC st) lo<|lo+nrem:=.refl _ _ _;have tm:∀{xs:Array b3} {n:Nat},iD (cC st) xs lo (lo+nrem)->n<=nrem->lo+n<=xs.O:=λm g=>bP (h7 g _)<|bP bz<|d1 m.O.symm;unfold tK;unfold wpS;wp_delta;wp_delta;refine tj ?_
 refine cz (lC (mL (I:=λx=>zf (λn=>n=x/\Cx rk (cC st) lo nrem n) st) (Q:=zf (λn=>Cx rk (cC st) lo nrem n/\(n<nrem->at_ rk (cC st) (lo+n)<at_ rk (cC st) (lo+n-1))) st) ?s1 ?f1
  (.mk 1 ⟨rfl,cg _,af,PZ (ok:=0) λp q cq cE fj=>absurd (bP cq cE)<|G4 fj⟩)) ?dB)
 case f1 =>
  intro c c1 fA;obtain⟨n,rfl,g⟩:=fA;exact .mk _ ⟨g,λdC=>absurd dC<|sa<|G3 _ _⟩
 case s1 =>
  intro x c c1 _ av fA;obtain⟨n,rfl,g⟩:=fA
  repeat fail
  dsimp (zeta:=Y1) (zetaHave:=Y1) only;rw[pred g.a];refine cz<|BD m0 av (gS (mH _ _) av) ?_;dsimp (zeta:=Y1) (zetaHave:=Y1) only;rw[<-pred g.a];refine tk (λhw=>c6<|.mk _ ⟨g,λ_=>hw⟩) λhw=>?_
  repeat fail
  exact c6<|.mk _ ⟨rfl,wi _ _,av,g.c.ext<|hR hw⟩
 case dB =>
  intro c c1 fA;obtain⟨n,⟨g1,g2,g3⟩,gK⟩:=fA
  repeat fail
  dsimp (zeta:=Y1) (zetaHave:=Y1) only;refine jH (λc=>c6 (h _ n g1 g2 m0 g3 λ_=>c)) λc=>?_;have cH:=r9 g2 c;have gK:=gK cH;have no:∀{m:Nat},fZ rk (cC st) lo (lo+nrem)->m=nrem:=λz=>absurd (z (lo+n-1) (lo+n) (t2<|h7 g1 _) (mH _ _)<|nu cH _)<|G4 gK;refine pf ?_;intro e8 gz;extract_lets+onlyGivenNames-underBinder jpv;clear_value (hjpv:jpv=_);revert jpv;refine pg (P:=λjp=>∀u xs,iD (cC st) xs lo (lo+nrem)->(∀p,lo<=p->p<lo+n->at_ rk xs p=at_ rk xs lo)->at_ rk xs (lo+n)<at_ rk xs (lo+n-1)->wpS Z9 A E s (jp u) e8 (jr st xs)) ?rb ?k0
  case k0 =>
   subst gz;intro jp bU;refine iC (λ_=>?_) λabX=>?_
   ·have q:=BD (x:=0) (y:=n-1) (Q:=λr s'=>s'=st/\r=J (decide (at_ rk (cC st) lo<at_ rk (cC st) (lo+n-1)))) m0 af (gS (mH _ _) cH) (by rw[pred g1];exact⟨rfl,rfl⟩);rw[<-pred g1]at q;refine cz<|lC q ?_;rintro r s' ⟨rfl,rfl⟩;dsimp (zeta:=Y1) (zetaHave:=Y1) only;refine tk (λhw=>c6<|h _ n g1 g2 m0 g3 no) λhw=>?_;have heq:∀p,lo<=p->p<lo+n->at_ rk (cC s') p=at_ rk (cC s') (lo+n-1):=λp cq cE =>
     h8 (g3 p (lo+n-1) cq (t2 cE)<|BX cE) (bP (hR hw)<|g3 lo p (cg _) cq cE)
    have m5:=JJ (rk:=rk) (xs:=cC s') (i:=lo) (j:=lo+n) (tm m0 g2) heq;refine cz<|Eh ?_;refine bU _ _ (.mirror (tm m0 g2) (cg _)<|h7 g2 _) (λp cq cE=>?_) ?_
    ·rw[m5,m5,heq p cq cE,heq lo (cg _)<|BV g1]
    ·rw[m5,m5];exact gK
   ·obtain rfl:n=1:=h8 (hR abX) g1;exact bU _ _ m0 (λp cq cE=>congrArg _<|h8 (kg cE) cq) gK
  case rb =>
   subst gz;intro u xs cS az au;refine cz<|su<|l7 ⟨rfl,?_⟩
   fail;fail
   have n0:uH rk xs lo<|lo+(n+1):=uH.ext (λp q cq cE fj=>by rw[az p cq<|gS cE fj,az q (bP cq cE) fj];exact cg _)<|ez au;refine cz<|lC (mL (I:=λx=>ib rk st lo nrem (·=x)) (Q:=ib rk st lo nrem λ_=>True) ?s2 ?f2<|.mk xs (n+1) 0 rfl cS n0 (wi _ _) JK cH) ?c7
   case f2 =>
    intro c pG fA;obtain⟨xs,n,ph,_,aX,bb,cK,fV,hU⟩:=fA;exact .mk xs n ph trivial aX bb cK fV hU
   case s2 =>
    intro x c pG JL av fA;obtain⟨xs,n,ph,rfl,aX,bb,cK,fV,hU⟩:=fA;have aM:=qT cK;have fm:=gS (mH n 1) av
    repeat fail
    dsimp (zeta:=Y1) (zetaHave:=Y1) only;rw[pred aM];refine cz<|BD aX av fm ?_;dsimp (zeta:=Y1) (zetaHave:=Y1) only
    fail
    rw[<-pred aM];refine tk (λhw=>?_) λhw=>?_
    ·fail
     refine iC (λ_=>?_) λ_=>?_
     ·refine cz<|Eh ?_;have m5:=JJ (rk:=rk) (xs:=xs) (i:=lo+n-(ph+1)) (j:=lo+n) (tm aX hU) fV
      repeat fail
      refine c6<|.mk _ _ 0 rfl (aX.trans<|.mirror (tm aX hU) (t2<|h7 cK _)<|h7 hU _) (λp q cq cE fj=>?_) (wi _ _) JK av;rw[m5,m5];exact bb.ext (ez hw) p q cq cE fj
     ·repeat fail
      exact c6<|.mk xs _ 0 rfl aX (bb.ext<|ez hw) (wi _ _) JK av
    ·rw[pred aM];refine cz<|BD aX fm av ?_;dsimp (zeta:=Y1) (zetaHave:=Y1) only;rw[<-pred aM];refine tk (λJM=>c6<|.mk xs n ph trivial aX bb cK fV hU) λJM=>?_
     repeat fail
     refine c6<|.mk xs _ (ph+1) rfl aX (bb.ext<|hR JM) (wh cK) (λp cq cE=>?_) av;have e:lo+(n+1)-1=lo+n:=rfl;rw[e];rcases l3 p (lo+n) with d|d
     ·rw[fV p (bP Z3 cq) d];exact h8 (hR hw)<|hR JM
     ·rw[show p=lo+n from h8 (kg cE) d]
   case c7 =>
    intro c pG fA;obtain⟨xs,n',ph,_,aX,bb,cK,fV,hU⟩:=fA
    repeat fail
    dsimp (zeta:=Y1) (zetaHave:=Y1) only;refine pf ?_;intro e8 gz;extract_lets+onlyGivenNames-underBinder jpv;clear_value (hjpv:jpv=_);revert jpv;refine pg (P:=λjp=>∀u xs,iD (cC st) xs lo (lo+nrem)->uH rk xs lo (lo+n')->wpS Z9 A E s (jp u) e8 (jr st xs)) ?nM ?k1
    case k1 =>
     subst gz;intro jp bU;refine iC (λ_=>?_) λ_=>bU _ xs aX bb;refine cz<|Eh ?_;have m5:=JJ (rk:=rk) (xs:=xs) (i:=lo+n'-(ph+1)) (j:=lo+n') (tm aX hU) fV;exact bU _ _ (aX.trans<|.mirror (tm aX hU) (t2<|h7 cK _)<|h7 hU _) λp q cq cE fj=>by rw[m5,m5];exact bb p q cq cE fj
    case nM =>
     subst gz;intro u xs bA cp;refine cz<|Eh ?_;have m5:=P0 (rk:=rk) (xs:=xs) (i:=lo) (j:=lo+n')<|tm bA hU;have hE:iD (cC st) (mirror xs lo (lo+n')<|(lo+n'-lo) / 2) lo<|lo+nrem:=bA.trans<|.mirror (tm bA hU) (cg _)<|h7 hU _;have p0:fZ rk (mirror xs lo (lo+n')<|(lo+n'-lo) / 2) lo<|lo+n':=λp q cq cE fj=>by rw[m5,m5,Y2<|And.intro cq<|gS cE fj,Y2<|And.intro (bP cq cE) fj];exact cp _ _ Z3 (GZ cE _) Z3
     show wpS _ _ _ _ _ _ (jr st<|mirror xs lo (lo+n')<|(lo+n'-lo) / 2);generalize mirror xs lo (lo+n') ((lo+n'-lo) / 2)=aO at hE p0;refine cz<|lC (mL (I:=λx=>zf (λn=>n=x/\Cx rk aO lo nrem n)<|jr st aO) (Q:=zf (Cx rk aO lo nrem)<|jr st aO) ?s3 ?el<|.mk _ ⟨rfl,qT cK,hU,p0⟩) ?jy
     case el =>
      intro c pG fA;obtain⟨n,rfl,g⟩:=fA;exact .mk _ g
     case jy =>
      intro c pG fA;obtain⟨fU,t⟩:=fA
      repeat fail
      exact c6<|h aO fU t.a t.b hE t.c no
     case s3 =>
      intro x c pG _ av fA;obtain⟨n,rfl,g⟩:=fA
      repeat fail
      dsimp (zeta:=Y1) (zetaHave:=Y1) only;rw[pred g.a];refine cz<|BD hE av (gS (mH _ _) av) ?_;dsimp (zeta:=Y1) (zetaHave:=Y1) only;rw[<-pred g.a];refine tk (λhw=>c6<|.mk _ g) λhw=>?_
      repeat fail
      exact c6<|.mk _ ⟨rfl,wi _ _,av,g.c.ext<|hR hw⟩
def Runs(rk:b3->Nat)(xs:Array b3):List (Nat×Nat×Nat)->Nat->Nat->Prop
 |[],b,e=>b=e
 |(t,n,_)::r,b,e=>t=b/\0<n/\fZ rk xs b (b+n)/\Runs rk xs r (b+n) e
theorem Runs.le:∀{l:List (Nat×Nat×Nat)} {b e:Nat},Runs rk xs l b e->b+l.H<=e
 |[],b,e,h=>by have h:b=e:=h;simp;exact d1 h
 |(t,n,q)::r,b,e,h=>by obtain⟨_,af,_,ak⟩:=h;have:=Runs.le ak;rw[d8];lia
theorem Runs.split:∀{l m:List (Nat×Nat×Nat)} {b e:Nat},Runs rk xs (l++m) b e->∃c,Runs rk xs l b c/\Runs rk xs m c e
 |[],m,b,e,h=>⟨b,rfl,h⟩
 |(t,n,q)::r,m,b,e,h=>by obtain⟨h0,af,ak,bc⟩:=h;obtain⟨c,g1,g2⟩:=Runs.split bc;exact⟨c,⟨h0,af,ak,g1⟩,g2⟩
theorem Runs.join:∀{l m:List (Nat×Nat×Nat)} {b c e:Nat},Runs rk xs l b c->Runs rk xs m c e->Runs rk xs (l++m) b e
 |[],m,b,c,e,h,g=>by have h:b=c:=h;subst h;exact g
 |(t,n,q)::r,m,b,c,e,h,g=>by obtain⟨h0,af,ak,bc⟩:=h;exact⟨h0,af,ak,Runs.join bc g⟩
theorem Runs.congr:∀{l:List (Nat×Nat×Nat)} {b e:Nat},(∀p,b<=p->p<e->at_ rk aO p=at_ rk xs p)->Runs rk xs l b e->Runs rk aO l b e
 |[],b,e,_,h=>h
 |(t,n,q)::r,b,e,av,h=>by obtain⟨h0,af,ak,bc⟩:=h;have:=Runs.le bc;exact⟨h0,af,λp q cq cE fj=>by rw[av p (cq) Z3,av q (bP cq cE)<|d4 fj<|l2 this];exact ak p q cq cE fj,Runs.congr (λp cq cE=>av p (l2 cq) cE) bc⟩
structure p9 (κ:wC) (du:Array b3) (rk:b3->Nat) (st:dO) (e:Nat):Prop where
 kind:hk st=κ
 perm:(cC st).Perm du
 yf:qZ st=C
 runs:Runs rk (cC st) (fx st).D 0 e
def Aw{p:Nat}(h:aO[p]?=xs[p]?):at_ rk aO p=at_ rk xs p:=by unfold at_;rw[h]
def P2(ek:oh prog w A E s κ du rk){st:dO}{e i:Nat}(fw:p9 κ du rk st e)(he:e<=du.O)(hi:i+1<(fx st).O){Q:Bool->dO->Prop}(h:∀c1,p9 κ du rk c1 e->(fx c1).O+1=(fx st).O->(∀p,e<=p->(cC c1)[p]?=(cC st)[p]?)->Q Y0 c1):wpS Z9 A E s (mergeAt' i) Q st:=by
 have gy:i+1<(fx st).D.H:=by simpa using hi
 obtain⟨a0,na,pa,az⟩:∃a0 na pa,(fx st).D[i]=(a0,na,pa):=⟨_,_,_,rfl⟩
 obtain⟨cV,nb,pb,au⟩:∃cV nb pb,(fx st).D[i+1]=(cV,nb,pb):=⟨_,_,_,rfl⟩
 have aB:(fx st).D=(fx st).toList.take i++(a0,na,pa)::(cV,nb,pb)::(fx st).toList.drop (i+2):=by have d7:=pJ (l:=(fx st).D) (i:=i)<|ez gy;have fy:=pJ (l:=(fx st).D) (i:=i+1) gy;rw[au]at fy;rw[az,fy]at d7;rw[<-d7,pL]
 have aV:=fw.runs;rw[aB]at aV;obtain⟨c,bA,cp⟩:=Runs.split aV;obtain⟨rfl,hE,p0,rfl,yZ,We,wH⟩:=cp;have hle:=Runs.le wH;have hsz:=fw.perm.size_eq;refine abT (pa:=pa) (pb:=pb) ek fw.kind fw.perm fw.yf (i:=i) (a0:=a0) (na:=na) (nb:=nb) ?_ ?_ hE yZ Z3 p0 We λxs g aT=>?_
 ·rw[<-lB,hh<|ez gy,az]
 ·rw[<-lB,hh gy,au]
 ·have ei:((fx st).toList.take i).H=i:=by rw[jS];lia
  have aF:(((fx st).setIfInBounds i (a0,na+nb,pa)).eraseIdxIfInBounds (i+1)).D=(fx st).toList.take i++(a0,na+nb,pa)::(fx st).toList.drop (i+2):=by
   rw[Array.toList_eraseIdxIfInBounds,MZ]
   conv=>lhs;rw[aB]
   rw[List.set_append_right _ _<|d1 ei,ei,B0,List.eraseIdx_append_of_length_le<|oA<|d1 ei,ei];simp
  refine h _ ⟨fw.kind,aT.perm.trans fw.perm,fw.yf,?_⟩ ?_ λp xI=>aT.same p<|.inr<|bP (l2 hle) xI
  ·show Runs rk xs (((fx st).setIfInBounds i (a0,na+nb,pa)).eraseIdxIfInBounds (i+1)).D 0 e;rw[aF];refine Runs.join (Runs.congr (λp cq cE=>Aw<|aT.same p Z3) bA) ⟨rfl,(oA hE),by rw[<-yD];exact aT.lQ,?_⟩;rw[<-yD];exact Runs.congr (λp cq cE=>Aw<|aT.same p Z3) wH
  ·show(((fx st).setIfInBounds i (a0,na+nb,pa)).eraseIdxIfInBounds (i+1)).O+1=_;rw[<-gH,aF,gq,d8,ei,gc,<-gH];lia
def aiG[Decidable c]{n:Nat}(h:¬n<=1):(if c then n-2-1 else n-2)+1<n:=by split<;>(lia)
def abY{st:dO}{n:Nat}(h:(cC st).O=n):((sortPriv% PySem.Builtin.SortState.a) st).O=n:=h
theorem P4{Cy:Nat}:∀{l:List (Nat×Nat×Nat)} {i b e:Nat},Runs rk xs l b e->Runs rk xs (l.modify i λx=>(x.1,x.2.1,Cy)) b e
 |[],i,b,e,h=>by exists i<;>exact h
 |(t,n,q)::r,0,b,e,h=>h
 |(t,n,q)::r,i+1,b,e,h=>by obtain⟨h0,af,ak,bc⟩:=h;exact⟨h0,af,ak,P4 bc⟩
def al2{xs:Array b3}{Cy:Nat}{p:Array<|Nat×Nat×Nat}{i e:Nat}(h:Runs rk xs p.D 0 e):Runs rk xs (p.modify i λx=>(x.1,x.2.1,Cy)).D 0 e:=by rw[Array.toList_modify];exact P4 h
def akl(ek:oh prog w A E s κ du rk){st:dO}(aW:hk st=κ)(aF:(cC st).Perm du)(hf:qZ st=C)(abZ:fx st=#[]){Q:Unit->dO->Prop}
  (h:∀c1,(cC c1).Perm du->qZ c1=C->fZ rk (cC c1) 0 du.O->Q () c1):wpS Z9 A E s sortRuns' Q st:=by
 unfold sortRuns';unfold wpS;wp_delta;wp_delta;refine tj ?_;refine cz<|oI ?_
 fail;fail;fail
 have hsz:(cC st).O=du.O:=aF.size_eq
 refine cz (lC (mL
  (I:=λx c c1=>∃lo,c=(C,lo)/\p9 κ du rk c1 lo/\lo<=du.O/\(x<=lo\/lo=du.O))
  (Q:=λc c1=>c=(C,du.O)/\p9 κ du rk c1 du.O) ?s1 ?f1 ⟨0,rfl,⟨aW,aF,hf,by rw[abZ];rfl⟩,(gG _),by(lia)⟩) ?dB)
 case f1 =>
  rintro c c1 ⟨lo,rfl,g1,g2,g3⟩;have:lo=du.O:=by
   rcases g3 with g3|g3
   ·have e:(PyProof.Rows.arrOf st).O=du.O:=hsz;simp only[e]at g3;exact h8 g2 g3
   ·exact g3
  subst this;exact⟨rfl,g1⟩
 case dB =>
  rintro c c1 ⟨rfl,g1⟩
  repeat fail
  dsimp (zeta:=Y1) (zetaHave:=Y1) only;have hle:=Runs.le g1.runs;rw[gH]at hle
  refine cz (lC (mL
   (I:=λx c c1=>c=(C,())/\p9 κ du rk c1 du.O/\(fx c1).O<=max 1 (du.O-x))
   (Q:=λc c1=>c=(C,())/\p9 κ du rk c1 du.O/\(fx c1).O<=1) ?s2 ?f2 ⟨rfl,g1,by(lia)⟩) ?c7)
  case f2 =>
   rintro c pG ⟨rfl,aX,bb⟩;have e:(PyProof.Rows.arrOf st).O=du.O:=hsz;simp only[e]at bb;exact⟨rfl,aX,by(lia)⟩
  case c7 =>
   rintro c pG ⟨rfl,aX,bb⟩
   repeat fail
   refine c6<|h _ aX.perm aX.yf ?_;have aV:=aX.runs;have aB:(fx pG).D.H<=1:=by rw[gH];exact bb
   match hm:(fx pG).D,aB with
   |[],_ =>
    rw[hm]at aV;have aV:0=du.O:=aV;intro p q cq cE fj;(lia)
   |[(t,n,Cy)],_ =>
    rw[hm]at aV;obtain⟨_,_,cp,hE⟩:=aV;have hE:0+n=du.O:=hE;rw[hE]at cp;exact cp
  case s2 =>
   rintro x c pG _ av ⟨rfl,aX,bb⟩;refine cz<|oI ?_
   fail
   by_cases c:(fx pG).O<=1
   ·rw[Y2 c];exact c6 ⟨rfl,aX,c⟩
   ·rw[Y3 c]
    fail;fail;fail
    refine cz (P2 ek aX (cg _) (aiG c) λDt t1 eH _=>?_);rw[Y3 Z0];exact c6 ⟨rfl,t1,by(lia)⟩
 case s1 =>
  rintro x c c1 _ av ⟨lo,rfl,g1,g2,g3⟩;have qr:(cC c1).O=du.O:=g1.perm.size_eq
  repeat fail
  dsimp (zeta:=Y1) (zetaHave:=Y1) only;have e:(PyProof.Rows.arrOf st).O=du.O:=hsz;have bN:=abY hsz;by_cases c:lo>=du.O
  ·rw[Y2<|by rw[<-e]at c;exact c];have:lo=du.O:=(h8 g2 c)
   subst this;exact c6 ⟨rfl,g1⟩
  rw[Y3<|by rw[<-e]at c;exact c];refine cz (Av (st:=c1) ek g1.kind g1.perm (lo:=lo) (nrem:=(PyProof.Rows.arrOf st).O-lo) (by(lia)) (by(lia)) λxs n aM bC cS s1 _=>?_);rw[e]at bC cS;rw[show lo+(du.O-lo)=du.O from(nt g2)]at cS;dsimp (zeta:=Y1) (zetaHave:=Y1) only
  fail
  refine pf ?_;intro e8 gz;extract_lets+onlyGivenNames-underBinder jpv;clear_value (hjpv:jpv=_);revert jpv;refine pg (P:=λjp=>∀u n xs,1<=n->lo+n<=du.O->iD (cC c1) xs lo du.O->fZ rk xs lo (lo+n)->wpS Z9 A E s (jp u n) e8 (jr c1 xs)) ?rb ?k0
  case k0 =>
   subst gz;intro jp bU;split
   ·rename_i an5;refine cz (su<|l7 ⟨rfl,?_⟩)
    fail
    refine cz (aiF (st:=jr c1 xs) ek g1.kind (cS.perm.trans g1.perm) (by show _<=xs.O;rw[cS.O];have:=bN;(lia)) (by have:=bN;(lia)) s1 λaO gu s2=>?_);rw[Y3 Z0]
    fail
    refine bU _ _ aO (by have:=bN;(lia)) (by have:=bN;(lia)) (cS.trans ⟨gu.perm,λp xI=>gu.same p (by have:=bN;(lia))⟩) s2
   ·exact bU _ _ xs aM (by(lia)) cS s1
  case rb =>
   subst gz;intro u n xs aM bC cS s1;refine cz<|oI ?_;refine pf ?_;intro e8 gz;extract_lets+onlyGivenNames-underBinder jpv;clear_value (hjpv:jpv=_);revert jpv;refine pg (P:=λjp=>∀u hx,p9 κ du rk hx lo->fZ rk (cC hx) lo (lo+n)->wpS Z9 A E s (jp u) e8 hx) ?nM ?k1
   case nM =>
    subst gz;intro u hx aX bb;refine cz<|wB ?_
    fail
    refine c6 ⟨lo+n,rfl,⟨aX.kind,aX.perm,aX.yf,?_⟩,bC,by(lia)⟩;show Runs rk (cC hx) ((fx hx).push (lo,n,0)).D 0 (lo+n);rw[B4];exact Runs.join aX.runs ⟨rfl,aM,bb,rfl⟩
   case k1 =>
    subst gz;intro jp bU;have d9:p9 κ du rk (jr c1 xs) lo:=⟨g1.kind,cS.perm.trans g1.perm,g1.yf,Runs.congr (λp cq cE=>Aw<|cS.same p<|.inl cE) g1.runs⟩
    split
    ·fail
     refine cz (lC (mL
      (I:=λ_ c hx=>c=(C,())/\p9 κ du rk hx lo/\fZ rk (cC hx) lo (lo+n))
      (Q:=λc hx=>c=(C,())/\p9 κ du rk hx lo/\fZ rk (cC hx) lo (lo+n)) ?s3 ?el ⟨rfl,d9,s1⟩) ?jy)
     case el=>exact λc hx z=>z
     case jy =>
      rintro c hx ⟨rfl,aX,bb⟩
      repeat fail
      dsimp (zeta:=Y1) (zetaHave:=Y1) only;refine cz<|wB ?_;refine bU _ _ ⟨aX.kind,aX.perm,aX.yf,?_⟩ bb;exact al2 aX.runs
     case s3 =>
      rintro y c hx _ _ ⟨rfl,aX,bb⟩;refine cz<|oI ?_
      fail
      split
      ·rename_i hm;split
       ·exact c6 ⟨rfl,aX,bb⟩
       ·have hz:1<(fx hx).O:=by
         by_cases z:(fx hx).O>1
         ·exact z
         ·rw[Y3 z]at hm;exists hm
        refine cz (P2 ek aX (g2) (by show _<(fx hx).O;have:(fx hx).O-2+1<(fx hx).O:=(by(lia));exact this)
         λDt t1 eH t3=>?_)
        rw[Y3 Z0];exact c6 ⟨rfl,t1,λp q cq cE fj=>by rw[Aw<|t3 p cq,Aw<|t3 q<|bP cq cE];exact bb p q cq cE fj⟩
      ·exact c6 ⟨rfl,aX,bb⟩
    ·exact bU _ _ d9 s1
end
end bj.Tm
namespace bj.bO
open PySem PySem.Spec PyProof.Rows bj.Tm
def Ax(prog:dx)(w:c3)(h:Heap)(ah:List mt)(rk:b3->Nat):Prop :=
 2<=ah.H->∃κ,∀(A:dH) (E:mt->aR->Prop) (s:aR),(∀b o,h.get? b=J o->s.heap.get? b=J o) ->
  bl Z9 A (keyKind' ah.B) (λk s'=>k=κ/\s'=s) E s/\oh prog w A E s κ (PyProof.Rows.pairsOf ah) rk
def JN(prog:dx)(w:c3)(A:dH)(E:mt->aR->Prop)(h:Heap)(ah:List mt)(rk:b3->Nat):Prop :=
 2<=ah.H->∃κ,∀s:aR,(∀b o,h.get? b=J o->s.heap.get? b=J o) ->
  bl Z9 A (keyKind' ah.B) (λk s'=>k=κ/\s'=s) E s/\oh prog w A E s κ (PyProof.Rows.pairsOf ah) rk
def Ax.at(x:Ax prog w h ah rk):JN prog w A E h ah rk:=λak=>let ⟨κ,k⟩:=x ak;⟨κ,k A E⟩
section
variable {prog:dx}{w:c3}{A:dH}{E:mt->aR->Prop}{s:aR}
def JO{n:Nat}{Q:Nat->aR->Prop}(aZ:s.heap.get? a=J o)(hd:o.d=.seq xs n)(q:Q n s):bl Z9 A (seqEpoch a) Q E s:=seqEpoch_at aZ hd q
def al3{n:Nat}(aZ:s.heap.get? a=J (i4 "list" ah.toArray n))(hz:ah.H<=dg)
  (ab0:∀b o,h0.get? b=J o->b≠a) (ab1:∀b o,h0.get? b=J o->s.heap.get? b=J o) (fw:JN prog w A E h0 ah rk)
  (h:∀xs:Array b3,xs.Perm (PyProof.Rows.pairsOf ah)->fZ rk xs 0 ah.H->P (.done<|.ret .none) { s with heap:=sortedHeap s.Q a ah (xs.map (·.2))}) :
  bl Z9 A (Builtin.«list.sort» ⟨[.ref a],[]⟩) P E s:=by
 rw[list_sort_plain];have dC:a<s.L:=d5 aZ;obtain⟨az,k1⟩:∃az,(s.heap.update a (Obj.mapSeq λ_=>#[])).get? a=J (i4 "list" #[] az):=⟨_,get?_update_seq aZ λ_=>#[]⟩
 refine a8<|listItems_at aZ rfl<|a8<|Hv aZ rfl<|a8<|JO k1 rfl<|a8<|wpAny_newTuple<|a8<|wpAny_newList<|jo ?_;have b8:∀b o,b≠a->s.heap.get? b=J o->(((s.heap.update a (Obj.mapSeq λ_=>#[])).push (i4 "tuple" ah.toArray 0)).push (i4 "list" #[] 0)).get? b=J o:=λb o nb q=>by have aq:b<s.L:=d5 q;rw[yG _ _ _ (by rw[size_push',B1];exact bv<|oB aq),yG _ _ _ (by rw[B1];exact bv aq),Heap.get?_update_ne _ _ _ _ nb];exact q
 have k2:(((s.heap.update a (Obj.mapSeq λ_=>#[])).push (i4 "tuple" ah.toArray 0)).push (i4 "list" #[] 0)).get? a=J (i4 "list" #[] az):=by rw[yG _ _ _ (by rw[size_push',B1];exact bv<|oB dC),yG _ _ _<|by rw[B1];exact bv dC];exact k1
 show bl Z9 A _ P E { s with heap:=((s.heap.update a (Obj.mapSeq λ_=>#[])).push (i4 "tuple" ah.toArray 0)).push (i4 "list" #[] 0)};dsimp only;have hsz:ah.B.O=ah.H:=by simp
 have D6:(PyProof.Rows.pairsOf ah).O=ah.H:=pairsOf_size ah;by_cases ak:ah.B.O<2
 ·rw[Y2 ak,Y2 ak];refine a8<|bZ ?_;rw[StateT.run_pure];refine a8<|bZ<|a8<|JO k2 rfl<|a8<|Hv k2 rfl ?_ (hsz2:=by rw[Array.size_map];show(PyProof.Rows.pairsOf ah).O<=_;lia);dsimp only;simp only[bne_self_eq_false,jm,if_false];refine bZ (h (PyProof.Rows.pairsOf ah) (Array.Perm.refl _) λi j _ jF bU=>?_);have:i=j:=by lia
  rw[this];exact cg _
 ·rw[Y3 ak,Y3 ak];obtain⟨κ,Wf⟩:=fw<|hR ak;obtain⟨aX,bb⟩:=Wf { s with heap:=((s.heap.update a (Obj.mapSeq λ_=>#[])).push (i4 "tuple" ah.toArray 0)).push (i4 "list" #[] 0)} λb o e=>b8 b o (ab0 b o e)<|ab1 b o e;refine a8 (hj aX ?_ λ_ _ e=>e);rintro k s' ⟨rfl,rfl⟩;refine a8 (hj (akl bb (st:=SortSt.mk' k (PyProof.Rows.pairsOf ah) #[] 7 C) rfl (Array.Perm.refl _) rfl rfl (Q:=λ_ c1=>(cC c1).Perm (PyProof.Rows.pairsOf ah)/\qZ c1=C/\fZ rk (cC c1) 0 ah.H) λc1 a1 a2 k4=>⟨a1,a2,by rw[D6]at k4;exact k4⟩) ?_ λ_ _ e=>e);rintro⟨⟨⟩,c1⟩ s' ⟨rfl,aF,hf,aP⟩;dsimp only;refine a8<|JO k2 rfl<|a8<|Hv k2 rfl ?_ (hsz2:=bP (d1<|(Array.size_map ..).trans (aF.size_eq.trans D6))<|MW hz);rw[hf];simp only[bne_self_eq_false,jm,if_false];exact bZ<|h _ aF aP
end
section
variable {X:bI}{tw:Addr}
def JP
  (aT:bl Z2 A'.in1 (collect x) (λah s1=>∃rk,ah.H<=dg/\(∀E,JN X.R X.w A'.in1.in1 E s1.Q ah rk)/\∀h' (xs:Array b3) e,(∀b o,s1.heap.get? b=J o->h'.get? b=J o)->h'.get? s1.L=J (i4 "list" (xs.map (·.2)) e)->xs.Perm (PyProof.Rows.pairsOf ah)->fZ rk xs 0 ah.H->Q (.ref s1.L) { s1 with heap:=h'}) E s) :
  bl Z2 A' (call (.builtin "sorted") [x]) Q E s:=by
 refine Calls.call_function_entry kind_sorted plain_sorted entry_sorted (args_sorted1 _) ?_;unfold Builtin.«sorted»;refine a8 (m:=checkCount "sorted" 1 1 _)<|bZ<|a8 (hj aT (λah s1 h=>?_) λ_ _ e=>e);obtain⟨rk,hz,fw,k⟩:=h;refine a8<|wpAny_newList ?_ hz;have w9:(s1.heap.push<|i4 "list" ah.toArray 0).get? s1.L=J (i4 "list" ah.toArray 0):=gB _ rfl;show bl _ _ _ _ _ { s1 with heap:=s1.heap.push (i4 "list" ah.toArray 0)};refine a8<|jo<|sg slot_list_sort ⟨_,w9,rfl⟩ entry_list_sort (al3 (h0:=s1.Q) w9 hz (λb o aq=>bv<|d5 aq) (λb o aq=>ec _ aq) (fw _) λxs a1 a2=>⟨_,rfl,?_⟩)<|args_list_sort _;obtain⟨e,he⟩:=sortedHeap_at (out:=xs.map (·.2)) w9;refine bZ ⟨_,rfl,k _ xs e (λb o aq=>?_) he a1 a2⟩;have dC:b<s1.L:=d5 aq;rw[sortedHeap_old (bv dC)<|by rw[nv];exact oB dC];exact ec _ aq
end
noncomputable def intOf?:mt->Option Int
 |.int i _=>J i
 |_=>C
noncomputable def iY(h:Heap):mt->List Int
 |.ref a=>match h.get? a with
  |some o=>match o.d with
   |.seq xs _=>xs.toList.filterMap intOf?
   |_=>[]
  |none=>[]
 |.int i _=>[i]
 |_=>[]
theorem P5:∀{us:List mt} {ns:List Int},g9 us ns->us.filterMap intOf?=ns
 |_,_,.nil=>rfl
 |_,_,.cons n t h=>by rw[r4];show n::_=_;rw[P5 h]
def rU(h:Heap)(v:mt)(l:List Int):Prop:=∃a o xs n,v=.ref a/\h.get? a=J o/\o.cls=.type "tuple" /\ o.d=.seq xs n/\g9 xs.D l/\l≠[]
def rU.gX(t:rU h v l):iY h v=l:=by
 obtain⟨a,o,xs,n,rfl,aZ,aT,hd,hi,_⟩:=t
 show(match h.get? a with
  |some o=>match o.d with
   |.seq xs _=>xs.toList.filterMap intOf?
   |_=>[]
  |none=>[])=l
 rw[aZ]
 show(match o.d with
   |.seq xs _=>xs.toList.filterMap intOf?
   |_=>[])=l
 rw[hd];exact P5 hi
def rU.mono(k:∀b o,h.get? b=J o->h'.get? b=J o)(t:rU h v l):rU h' v l:=by obtain⟨a,o,xs,n,r,aZ,q⟩:=t;exact⟨a,o,xs,n,r,k a o aZ,q⟩
section
variable {prog:dx}{w:c3}{A:dH}{E:mt->aR->Prop}{s:aR}
def al4{Q:Bool->aR->Prop}:∀{us ah:List mt} {as bs:List Int} (i:Nat),g9 us as->g9 ah bs->Q (f9 as bs) s->W.KatLex prog w A Y0 (decide (us.H<ah.H)) Q (us.zip ah) i s:=by
 have gen:∀{us ah:List mt} {as bs:List Int} (i:Nat) (fin:Bool),g9 us as->g9 ah bs->(decide (us.H<ah.H)=fin)->Q (f9 as bs) s->W.KatLex prog w A Y0 fin Q (us.zip ah) i s:=by
  intro us
  induction us with
  |nil =>
   intro ah as bs i fin af ak hf q
   exists af
   cases ak with
   |nil=>subst hf;exact q
   |cons n t h=>subst hf;exact q
  |cons u us a4 =>
   intro ah as bs i fin af ak hf q;cases af with
   |cons n t h =>
    cases ak with
    |nil=>subst hf;exact q
    |cons m r g =>
     refine W.kat_cons<|wpAny_eqBool_int ?_;unfold f9 at q;by_cases e:n=m
     ·subst e;rw[beq_self_eq_true]at q |-;exact W.kat_yes (a4 (i+1) fin h g (by simpa using hf)<|by simpa using q)
     ·have bN:(n==m)=Y1:=by simpa using e
      rw[bN]at q |-;refine W.kat_no ?_;have q:Q (decide (n<m)) s:=by simpa using q
      cases i with
      |zero=>exact oneLt_int q
      |succ i=>exact W.kat_one _ _<|lt_int q
 intro us ah as bs i af ak q;exact gen i _ af ak rfl q
def aiH{Q:Bool->aR->Prop}(av:rU s.Q x a)(aK:rU s.Q y b)(q:Q (f9 a b) s):bl Z9 A (keyLt' (tuples' Y0) x y) Q E s:=by obtain⟨p,o,xs,n,rfl,aZ,aT,hd,hi,_⟩:=av;obtain⟨fY,dh,aO,n',rfl,ko,sT,mV,gy,_⟩:=aK;refine W.kat_lt aZ hd ko mV ?_;have:=al4 (prog:=prog) (w:=w) (A:=A) (s:=s) (Q:=Q) 0 hi gy q;simpa using this
end
def Ay(h:x∈PyProof.Rows.pairsOf ah):x.1∈ah/\x.2=x.1:=by have h:x∈(PyProof.Rows.pairsOf ah).D:=Array.mem_def.mp h;rw[pairsOf_toList]at h;have:=mem_zip_self h;exact⟨this.2,this.1.symm⟩
inductive lX (h:Heap):List mt->List ZA->Prop
 |nil:lX h [] []
 |cons {v:mt} {l:List Int} {ah:List mt} {ls:List ZA}:rU h v l->lX h ah ls->lX h (v::ah) (l::ls)
theorem lX.gX:∀{ah:List mt} {ls:List ZA},lX h ah ls->ah.map (iY h)=ls
 |_,_,.nil=>rfl
 |_,_,.cons t r=>by rw[cU,t.gX,r.gX]
theorem lX.mem:∀{ah:List mt} {ls:List ZA},lX h ah ls->v∈ah->rU h v (iY h v)
 |_,_,.cons t r,bS=>by
  rcases d3.mp bS with rfl|bS
  ·rw[t.gX];exact t
  ·exact r.mem bS
theorem lX.mono(k:∀b o,h.get? b=J o->h'.get? b=J o):∀{ah:List mt} {ls:List ZA},lX h ah ls->lX h' ah ls
 |_,_,.nil=>.nil
 |_,_,.cons t r=>.cons (t.mono k)<|r.mono k
theorem lX.gF:∀{ah:List mt} {ls:List ZA},lX h ah ls->∃cm,W.KatTups h ah cm/\cm.H=ah.H/\∀f∈cm,∃i t,f=.int i t
 |_,_,.nil=>⟨[],.nil,rfl,λf hf=>by simp at hf⟩
 |_,_,.cons t r=>by
  obtain⟨cm,k1,k2,k3⟩:=r.gF;obtain⟨a,o,xs,n,rfl,aZ,aT,hd,hi,vi⟩:=t;have⟨i,u,av⟩:∃i u,xs[0]?=J (.int i u):=by
   rw[<-lB];cases gy:xs.D with
   |nil=>rw[gy]at hi;exists hi;exact absurd rfl vi
   |cons v ah=>rw[gy]at hi;cases hi with
    |cons n t _=>exact⟨n,t,rfl⟩
  refine⟨.int i u::cm,.cons aZ aT hd av k1,by simp[k2],λf hf=>?_⟩;rcases d3.mp hf with rfl|hf
  ·exact⟨i,u,rfl⟩
  ·exact k3 f hf
def P6(t:lX h ah ls):Ax prog w h ah λx=>rank ls<|iY h x.1:=by
 intro ak;refine⟨tuples' Y0,λA E s b8=>⟨?_,λst x y Q aW av aK q=>?_⟩⟩
 ·obtain⟨cm,k1,k2,k3⟩:=(t.mono b8).gF;refine W.kat_kind (T:=.type "int") k1 (kN<|d4 ak<|d1 k2.symm) (λv bS=>?_) Z0 ⟨rfl,rfl⟩;obtain⟨i,u,rfl⟩:=k3 v bS;exact .now
 ·have NF:=Ay av;have Wg:=Ay aK;have wK:=(t.mem NF.1).mono b8;have ty:=(t.mem Wg.1).mono b8;rw[I2<|by rw[<-t.gX];exact kd NF.1]at q;rw[lt'_eq];refine cz<|oI ?_;rw[aW];exact cz<|su<|wy<|aiH wK ty ⟨rfl,c6 q⟩
def JQ(gX:ah.map (iY h)=ls)(p:xs.Perm<|PyProof.Rows.pairsOf ah)(Wh:fZ (λx=>rank ls<|iY h x.1) xs 0 ah.H) :
  (xs.map (·.2)).toList.Perm ah/\(xs.map (·.2)).toList.map (iY h)=hK ls:=by
 have aB:xs.toList.Perm<|ah.zip ah:=by rw[<-pairsOf_toList];exact M0.mp p
 have c7:(xs.map (·.2)).toList.Perm ah:=by have:=aB.map (·.2);rw[List.map_snd_zip<|cg _]at this;rw[Array.toList_map];exact this
 refine⟨c7,?_⟩;have jy:=c7.map<|iY h;rw[gX]at jy;refine Pa jy ?_;have hsz:xs.O=ah.H:=by rw[p.size_eq,pairsOf_size]
 have rT:∀x,x∈xs->x.1∈ah/\x.2=x.1:=λx av=>Ay<|p.mem_iff.mp av;rw[GB];intro i j hi bU jF;have gy:i<xs.O:=by simpa using hi
 have rz:j<xs.O:=by simpa using bU
 have q:=Wh i j (gG _) (ez jF)<|d4 rz<|d1 hsz;rw[hg gy,hg rz]at q;have cS:=rT _<|jU gy;have gu:=rT _<|jU rz;have az:((xs.map (·.2)).toList.map (iY h))[i]=iY h xs[i].1:=by simp[cS.2]
 have au:((xs.map (·.2)).toList.map (iY h))[j]=iY h xs[j].1:=by simp[gu.2]
 show f9 _ _=Y1;rw[az,au,<-I2 (nss:=ls) (by rw[<-gX];exact kd gu.1)];simpa using q
section
variable {X:bI}{tw:Addr}
def _root_.bj.aS.ag0{t':Nat}(I:aS X ae O H s)(k:∀b u,s.heap.get? b=J u->h'.get? b=J u)(old:∀b u,H b=J u->aj b=J u)
  (aF:∀b,b<s.L->H b=C->aj b=C) (new:∀b u,H b=C->aj b=J u->gO X.R X.w aj h' b u):aS X ae O aj { s with heap:=h',toks:=t'}:=by
 refine I.un ⟨λb u q _ _ _=>k b u q,λb u q _ _ _=>⟨u.slots,k b u q⟩,λb u q n _=>aF b (d5 q) n,λb u q _=>⟨u,k b u q⟩,λb xs q=>old b _ q,λb o u q=>old b _ q⟩ λb u e=>?_;cases z:H b with
 |none=>exact new b u z e
 |some bJ =>
  have:=old b bJ z;rw[this]at e;exists e;exact(I.b1 b _ z).pz (k b)
def P7(ns:List Int):hK (ns.map λi=>[i])=(sortI ns).map λi=>[i]:=by
 refine(Pa ((sortI_perm ns).map _) ?_).symm;rw[yv];refine(ro ns).imp λ{a b} h=>?_;show f9 [b] [a]=Y1;unfold f9;by_cases e:b=a
 ·subst e;simp[f9]
 ·simp[e];exact h
def P8(t:g9 ah ns):Ax prog w h ah λx=>rank (ns.map λi=>[i])<|iY h x.1:=by
 intro ak;refine⟨oneType',λA E s b8=>⟨?_,λst x y Q aW av aK q=>?_⟩⟩
 ·match ah,ak,t with
  |v1::v2::rest,_,t=>rw[keyKind_ints t];exact bZ ⟨rfl,rfl⟩
 ·have get:∀{v:mt} {ah:List mt} {ns:List Int},g9 ah ns->v∈ah->∃i u,v=.int i u/\i∈ns:=by
   intro v ah ns t
   induction t with
   |nil=>intro bS;simp at bS
   |cons n u r a4 =>
    intro bS;rcases d3.mp bS with rfl|bS
    ·exact⟨n,u,rfl,dS ..⟩
    ·obtain⟨i,u,e,m⟩:=a4 bS;exact⟨i,u,e,am _ m⟩
  obtain⟨bH,cf⟩:=x;obtain⟨fb,lH⟩:=y;obtain⟨i,u,rfl,Wi⟩:=get t (Ay av).1;obtain⟨j,fu,rfl,anv⟩:=get t (Ay aK).1;have q:Q (J<|decide (rank (ns.map λi=>[i]) [i]<rank (ns.map λi=>[i]) [j])) st:=q
  rw[I2<|kd Wi,show f9 [i] [j]=decide (i<j) from by
   unfold f9;by_cases e:i=j
   ·subst e;simp[f9]
   ·simp[e]]at q
  rw[lt'_eq];refine cz<|oI ?_;rw[aW,keyLt'_oneType];exact cz<|su<|wy<|oneLt_int ⟨rfl,c6 q⟩
theorem Ei:∀{ah:List mt} {ns:List Int},g9 ah ns->ah.map (iY h)=ns.map λi=>[i]
 |_,_,.nil=>rfl
 |_,_,.cons n t r=>by rw[cU,cU,Ei r];rfl
theorem P9{ae:List Z1}{s:aR}{O:St}{H:aJ}(I:aS X ae O H s):∀{xs:List T} {ls:List ZA} {ah:List V} {us:List mt},mm xs=J ls->bR tw H xs ah->cG ah us->lX s.Q us ls
 |[],ls,ah,us,e,r,bq=>by
  exists e
  cases jg r
  exists bq
  exact .nil
 |.aD (x::xs)::rest,ls,ah,us,e,r,bq=>by
  obtain⟨l,az,au⟩:=cn (show(e2<|x::xs).bind _=_ from e);obtain⟨ab2,a6,bX⟩:=dw au
  exists bX
  obtain⟨v,w,rfl,p,q⟩:=hc r;cases bq with
  |cons bA cp =>
   rw[aI]at p;obtain⟨a,fI,rfl,cu,cM⟩:=p
   exists bA
   obtain⟨a5,aX,⟨o,aZ,aT,_,n,hd⟩,_⟩:=I.Gx cu;have ex:=qu az;rw[ex]at cM;cases xl cM;refine .cons ⟨a,o,a5.B,n,rfl,aZ,aT,hd,by simpa using qm aX,?_⟩<|P9 I a6 q cp;rintro rfl
   exists ex
 |.aD []::_,_,_,_,e,_,_=>by exists e
 |.br::_,_,_,_,e,_,_=>by exists e
 |.aC _::_,_,_,_,e,_,_=>by exists e
 |.int _::_,_,_,_,e,_,_=>by exists e
 |.str _::_,_,_,_,e,_,_=>by exists e
 |.ao _::_,_,_,_,e,_,_=>by exists e
 |.bk _::_,_,_,_,e,_,_=>by exists e
 |.dq::_,_,_,_,e,_,_=>by exists e
theorem Qa:∀{xs:List T} {ls:List ZA},mm xs=J ls->xs=ls.map aG
 |[],ls,e=>by exists e;rfl
 |.aD (x::xs)::rest,ls,e=>by
  obtain⟨l,az,au⟩:=cn (show(e2<|x::xs).bind _=_ from e);obtain⟨ab2,a6,bX⟩:=dw au
  exists bX
  rw[cU,<-Qa a6,aG,<-qu az]
 |.aD []::_,_,e=>by exists e
 |.br::_,_,e=>by exists e
 |.aC _::_,_,e=>by exists e
 |.int _::_,_,e=>by exists e
 |.str _::_,_,e=>by exists e
 |.ao _::_,_,e=>by exists e
 |.bk _::_,_,e=>by exists e
 |.dq::_,_,e=>by exists e
def Qb(bq:cG ah us)(r:bR tw H (ls.map mk) ah)(gX:us.map (iY h)=ls)(p:out.Perm us):∃ws,cG ws out/\bR tw H ((out.map<|iY h).map mk) ws:=by
 have all:∀{ls:List ZA} {ah:List V} {us:List mt},cG ah us->bR tw H (ls.map mk) ah->us.map (iY h)=ls->∀u∈us,∃v,cW v u/\aI tw H (mk<|iY h u) v:=by
  intro ls ah us bq
  induction bq generalizing ls with
  |nil=>intro _ _ u b7;simp at b7
  |cons bA cp a4 =>
   rename_i v u ah us;intro iy iO fu b7;subst iO;rw[cU,cU]at iy;obtain⟨hS,w,e,dB,c7⟩:=hc iy;cases e;rcases d3.mp b7 with rfl|b7
   ·exact⟨v,bA,dB⟩
   ·exact a4 c7 rfl fu b7
 have Bx:=all bq r gX;refine xy Z7 λi u e=>?_;obtain⟨v,aX,bb⟩:=Bx u<|p.mem_iff.mp<|MA e;exact⟨v,mk<|iY h u,aX,by simp[e],bb⟩
def JR(bp:X.A.handled=C):fR X tw (λus=>call (.builtin "sorted") us) xe:=by
 intro B ae s O H ah us aA n t m Q I bq aU aQ e k;have run:∀{t0:T} {xs:List T} {ls:List ZA} {mk:List Int->T} {v:V} {u:mt},eu X.K tw H t0 v->cW v u->u9 t0=J xs->xs=ls.map mk ->
   (∀(h':Heap) (ah:List V) (us:List mt),cG ah us->bR tw H xs ah->ZX->us.map (iY h')=ls/\Ax X.R X.w h' us λx=>rank ls<|iY h' x.1) ->
   (∀v aj,dn tw H aj->df tw n aj->Val X.K B tw H aj (.ao<|(hK ls).map mk) .aE v->Q v aj)->bl Z2 X.A (call (.builtin "sorted") [u]) (f5 X ae O Q) X.cv s:=by
  intro t0 xs ls mk v u r eV hw av aP mb;refine JP (abr bp I r eV hw λus ah h' bx af ak bc b8=>?_);obtain⟨gX,fw⟩:=aP h' ah us af ak b8;refine⟨_,bc,λ_=>fw.at,λAz m4 e kv he aF AB=>?_⟩;have xI:m4.Perm<|PyProof.Rows.pairsOf us:=aF;obtain⟨c7,au⟩:=JQ gX xI AB;subst av;obtain⟨ws,eU,fL⟩:=Qb af ak gX c7;rw[au]at fL;have bf:aS X ae O H { s with heap:=h',toks:=bx}:=I.kept b8;have hf:H h'.E.O=C:=bf.b1.fresh<|cg _;have eG:=bf.laid (a:=h'.E.O) (o:=.ao ws) (t':=bx) (h':=Az) kv (cg _) ⟨by rw[eU.H,c7.length_eq];exact bc,(m4.map (·.2)).D,e,eU,by rw[B2];exact he⟩;exact⟨.ref h'.E.O,_,eG,rfl,mb _ _ (.new hf) (aQ.new hf) ⟨_,rfl,hf,_,fB,bR.mono (.new hf) _ _ fL⟩⟩
 have TU:∀{t0:T} {xs:List T} {ns:List Int} {v:V} {u:mt},eu X.K tw H t0 v->cW v u->u9 t0=J xs->e2 xs=J ns ->
   (∀v aj,dn tw H aj->df tw n aj->Val X.K B tw H aj (.ao<|(sortI ns).map T.int) .aE v->Q v aj)->bl Z2 X.A (call (.builtin "sorted") [u]) (f5 X ae O Q) X.cv s:=by
  intro t0 xs ns v u r eV hw hi mb;have av:=qu hi;refine run (ls:=ns.map λi=>[i]) (mk:=λl=>.int<|l.headD 0) r eV hw (by rw[ci];exact av) (λh' ah us af ak b8=>?_) λv aj a b c=>mb v aj a b (by rw[P7,ci]at c;exact c);rw[av]at ak;cases xl ak;exact⟨Ei<|qm af,P8<|qm af⟩
 match aA,e with
 |[.ao xs],e =>
  obtain⟨v,rfl,r⟩:=iX aU;obtain⟨u,rfl,eV⟩:=bq.one;cases hi:e2 xs with
  |some ns =>
   have e:(match e2 xs with
    |some ns=>J (T.ao<|(sortI ns).map .int,bo.aE)
    |none=>(mm xs).map λls=>(T.ao<|(hK ls).map aG,bo.aE))=J (t,m):=e
   rw[hi]at e
   exists e
   exact TU r eV rfl hi k
  |none =>
   have e:(match e2 xs with
    |some ns=>J (T.ao<|(sortI ns).map .int,bo.aE)
    |none=>(mm xs).map λls=>(T.ao<|(hK ls).map aG,bo.aE))=J (t,m):=e
   rw[hi]at e;obtain⟨ls,az,au⟩:=dw e
   exists au
   exact run (mk:=aG) r eV rfl (Qa az) (λh' ah us af ak b8=>let tt:=P9 (I.kept (t':=s.toks) b8) az ak af;⟨tt.gX,P6 tt⟩) k
 |[.aD xs],e =>
  obtain⟨v,rfl,r⟩:=iX aU;obtain⟨u,rfl,eV⟩:=bq.one;obtain⟨ns,az,au⟩:=dw (show(e2 xs).map _=_ from e)
  exists au
  exact TU r eV rfl az k
def al5{nP:List Stmt}:hZ X tw nP jf:=λ_ _ _ _ _ _ hd=>by exists hd
def _root_.bj.bO.fR.weak(h:fR X tw f g)(w:∀n aA r,g' n aA=J r->g n aA=J r):fR X tw f g':=λB ae s O H ah us aA n t m Q I bq aU aQ e k=>h B ae s O H ah us aA n t m Q I bq aU aQ (w _ _ _ e) k
def al6(bp:X.A.handled=C):fR X tw (λus=>call (.builtin "sorted") us) rq:=(JR bp).weak λn aA r e=>by
 have fin:∀{xs:List T},((e2 xs).bind λns=>if ns.H<64 then J (T.ao<|(sortI ns).map .int,bo.aE) else C)=J r->∃ns,e2 xs=J ns/\J (T.ao<|(sortI ns).map .int,bo.aE)=J r:=λ{xs} e=>by
  obtain⟨ns,az,au⟩:=cn e;split at au
  ·exact⟨ns,az,au⟩
  ·exists au
 match aA,e with
 |[.ao xs],e =>
  obtain⟨ns,az,au⟩:=fin e
  show(match e2 xs with
   |some ns=>J (T.ao<|(sortI ns).map .int,bo.aE)
   |none=>_)=_
  rw[az];exact au
 |[.aD xs],e =>
  obtain⟨ns,az,au⟩:=fin e;show(e2 xs).map _=_;rw[az];exact au
def al7(bp:X.A.handled=C):fR X tw (λus=>call (.builtin "sorted") us) rr:=(JR bp).weak λn aA r e=>by
 match aA,e with
 |[.ao xs],e =>
  obtain⟨ls,az,au⟩:=cn (show(mm xs).bind _=_ from e);split at au
  ·show(match e2 xs with
    |some ns=>J (T.ao<|(sortI ns).map .int,bo.aE)
    |none=>(mm xs).map λls=>(T.ao<|(hK ls).map aG,bo.aE))=_
   match xs,az with
   |[],az=>exists az;exact au
   |.aD _::_,az=>rw[az];exact au
  ·exists au
theorem Qc:∀{ay:List (iw×T)} {ps:List Z6},itemsOf ay=J ps->ay=ps.map λp=>(Sum.inl p.1,T.int p.2)
 |[],_,e=>by exists e;rfl
 |(.inl k,.int v)::r,_,e=>by
  obtain⟨ps,az,au⟩:=dw (show(itemsOf r).map _=_ from e)
  exists au
  rw[Qc az];rfl
 |(.inr _,_)::_,_,e=>by exists e
 |(.inl _,.br)::_,_,e=>by exists e
 |(.inl _,.aC _)::_,_,e=>by exists e
 |(.inl _,.str _)::_,_,e=>by exists e
 |(.inl _,.aD _)::_,_,e=>by exists e
 |(.inl _,.ao _)::_,_,e=>by exists e
 |(.inl _,.bk _)::_,_,e=>by exists e
 |(.inl _,.dq)::_,_,e=>by exists e
theorem Qd:∀{ps:List Z6} {ws:List (Key×V)},cJ tw H (ps.map λp=>(Sum.inl p.1,T.int p.2)) ws->ws=ps.map λp=>(Sum.inl p.1,V.int p.2)
 |[],_,r=>by rw[qR,cJ]at r;subst r;rfl
 |p::ps,_,r=>by rw[cU,cJ]at r;obtain⟨v,b5,rfl,h,q⟩:=r;rw[aI]at h;rw[Qd q,h];rfl
theorem Qe:∀{ps:List Z6} {us:List (Key×mt)},fq (ps.map λp=>(Sum.inl p.1,V.int p.2)) us->∀(j:Nat) (k:Key) (x:mt),us[j]?=J (k,x)->∃p t,ps[j]?=J p/\k=Sum.inl p.1/\x=.int p.2 t
 |[],_,r,j,k,x,e=>by exists r;simp at e
 |p::ps,_,r,j,k,x,e=>by
  rw[cU]at r;cases r with
  |cons h t =>
   rename_i q ur;cases j with
   |zero =>
    simp at e;subst e;obtain⟨af,u,ak⟩:=h;exact⟨p,u,rfl,af.symm,ak⟩
   |succ j=>exact Qe t j k x (by simpa using e)
noncomputable def rA(H:aJ)(as:List Addr)(ls:List ZA):aJ:=λb=>match as.findIdx? (·==b) with
 |some j=>J<|.aD<|(ls.getD j []).map V.int
 |none=>H b
def AD(h:b∉as):rA H as ls b=H b:=by
 unfold rA;have:as.findIdx? (·==b)=C:=by rw[Mu];intro x av;simp;rintro rfl;exact h av
 rw[this]
def Qf{j:Nat}(bW:as.Nodup)(h:as[j]?=J b):rA H as ls b=J (.aD<|(ls.getD j []).map V.int):=by
 unfold rA;have:as.findIdx? (·==b)=J j:=by
  obtain⟨bU,e⟩:=kK.mp h;rw[BH];refine⟨bU,by simp[e],λi hi=>?_⟩;have:as[i]≠b:=λz=>by have:=(MN (h₀:=(gS (ez hi) bU)) (h₁:=bU) bW).mp (z.trans e.symm);lia
  simpa using this
 rw[this]
def ab3{o:Expr}{eP:bM}{p apos eb pos:Pos}(bp:X.A.handled=C)(aZ:bF X tw o eP)(hm:X.a3 "sorted" = C)(bT:autoParam (fv X "sorted") bu)(rY:autoParam (ue o "items" X.env (eval o X.I)=eval o X.I) bu)(rZ:autoParam ((apos.endLine==eb.line)=Y0) bu)
  (he:autoParam (b4 [.Call (.Attribute o "items" apos) [] [] eb] X.I=(Y1,eval (.Call (.Attribute o "items" apos) [] [] eb) X.I)::b4 [] X.I) bu) :
  bF X tw (.Call (.Name "sorted" p) [.Call (.Attribute o "items" apos) [] [] eb] [] pos) (aH DC<|aa eP ar):=by
 intro B S n t kj n' hd ae s O H Q I ⟨R,k⟩;obtain⟨to,mo,f1,a6⟩:=DH hd;have⟨ay,ps,mS,hi,dQ,em⟩:∃ay ps,to=.bk ay/\itemsOf ay=J ps/\t=.ao ((hK (ps.map jE)).map aG)/\kj=.aE:=by
  match to,a6 with
  |.bk ay,a6 =>
   obtain⟨ps,af,ak⟩:=dw (show(itemsOf ay).map _=_ from a6)
   exists ak
   exact⟨ay,ps,rfl,af,rfl,rfl⟩
 subst mS dQ em;refine l5<|k7 I bT hm yW ?_ Z0 Z0;refine PyProof.Rows.callWith_builtin1 (Q:=f5 X ae O Q) ?_ he rfl;rw[he];refine h9<|wpAny_Call_method0_late rY rZ (b2 (aZ.run f1 I R) λu s1 ⟨v,H1,bf,bA,a1,bt,b6⟩=>?_);obtain⟨a,ws,rfl,na,cu,cM⟩:=b6.root bt R.aQ
 exists bA
 obtain⟨z,ab4,us,rel,dd⟩:=j4 bf.b1 cu;obtain⟨fs,hA,Qg,lh,ab5,_⟩:=id dd;refine⟨"dict","dict.items",PySem.F.plainAttrs_dict,PySem.F.slot_dict_items,PySem.F.type_dict_items,dd.typeIs,λb e=>by exists e;exact⟨fs,lh,ab5.2.1⟩,ua rfl<|PySem.evalArgs_none ?_⟩;refine call_meetsIn PySem.F.slot_dict_items dd.typeIs PySem.F.entry_dict_items (PySem.F.args_dict_items_1 _) (meets_dict_items (hH X.R X.w) a ab4) ⟨⟨us,dd⟩,?_⟩;refine l4 ?_;have cR:aS X ae O H1 { s1 with heap:=s1.heap.push { cls:=.type "dict_items",data:=.fields #[.ref a]}}:=bf.kept (t':=s1.toks) λb u q=>ec _ q;have u7:(s1.heap.push { cls:=.type "dict_items",data:=.fields #[.ref a]}).DictOf (hH X.R X.w) a us:=by obtain⟨_,_,va,an6,sY⟩:=j4 cR.b1 cu;obtain⟨fs,hA,Qg,aX,bb,cK⟩:=dd;exact⟨fs,hA,Qg,ec _ aX,bb,cK⟩
 obtain⟨ep,dP⟩:=u7.dictAt;have aB:ws.H=us.H:=Paired.length rel;have iO:=Qc hi;subst iO;have nI:=Qd cM;subst nI;have Qh:ps.H=us.H:=by rw[<-aB,cP]
 refine JP (W.kdx_collect (d:=a) bp ⟨_,gB _ rfl,rfl,rfl⟩ dP (by rw[<-aB];exact z) λh' bx as b8 has iP=>?_);have pr:∀(j:Nat) (b:Addr),as[j]?=J b->∃(q:Int×Int) (t eH:Tok),ps[j]?=J q/\h'.get? b=J { cls:=.type "tuple",data:=.seq #[.int q.1 t,.int q.2 eH]}:=λj b e=>by
  obtain⟨key,mb,x,g1,g2,g3⟩:=iP.pairs j b e;obtain⟨q,eH,af,rfl,rfl⟩:=Qe rel j mb x g1;have⟨t,aW⟩:∃t,key=.int q.1 t:=by
   have g2:Value.isInt q.1 key=Y0:=g2
   exists key<;>simp[Value.isInt]at g2
   subst g2;exact⟨_,rfl⟩
  subst aW;exact⟨q,t,eH,af,g3⟩
 have tt:∀{as:List Addr} {ps:List Z6},as.H=ps.H->(∀(j:Nat) (b:Addr),as[j]?=J b->∃(q:Int×Int) (t eH:Tok),ps[j]?=J q/\h'.get? b=J { cls:=.type "tuple",data:=.seq #[.int q.1 t,.int q.2 eH]})->lX h' (as.map Value.ref) (ps.map jE):=by
  intro as
  induction as with
  |nil=>intro ps e _;cases ps with
   |nil=>exact .nil
   |cons _ _=>simp at e
  |cons b as a4 =>
   intro ps e h;cases ps with
   |nil=>simp at e
   |cons q ps =>
    obtain⟨eM,t,eH,g1,g2⟩:=h 0 b rfl;simp at g1;subst g1
    exact .cons ⟨b,_,_,_,rfl,g2,rfl,rfl,.cons _ _<|.cons _ _ .nil,by simp[jE]⟩ (a4 (by simpa using e) λj gU bN=>by
     obtain⟨ab6,t,eH,g1,g2⟩:=h (j+1) gU (by simpa using bN)
     exact⟨ab6,t,eH,by simpa using g1,g2⟩)
 have T0:=tt (by rw[has,Qh]) pr;have bW:as.Nodup:=iP.rise.imp λh=>bv h;refine⟨_,by rw[cP,has,<-aB];exact z,λ_=>(P6 T0).at,λAz m4 e kv av aF AB=>?_⟩;obtain⟨c7,au⟩:=JQ T0.gX aF AB;have above:∀b∈as,s1.L<=b:=λb aq=>by have:=iP.above b aq;rw[nv]at this;exact ez<|kN this
 have fr:∀b∈as,H1 b=C:=λb aq=>bf.b1.fresh<|above b aq;have fT:aS X ae O (rA H1 as<|ps.map jE) { s1 with heap:=h',toks:=bx}:=by
  refine bf.ag0 (λb u q=>b8 b u<|ec _ q) (λb u q=>?_) (λb aq q=>?_) λb u q e=>?_
  ·rw[AD λaq=>by rw[fr b aq]at q;exists q];exact q
  ·rw[AD λmu=>absurd aq<|G8.mpr<|above b mu];exact q
  ·by_cases aq:b∈as
   ·obtain⟨j,bU⟩:=List.mem_iff_getElem?.mp aq;rw[Qf bW bU]at e;exists e;obtain⟨eM,t,eH,g1,g2⟩:=pr j b bU;have:(ps.map jE).getD j []=[eM.1,eM.2]:=by simp[List.getD,g1,jE]
    rw[this];exact⟨by simp;decide,[.int eM.1 t,.int eM.2 eH],.cons ⟨t,rfl⟩<|.cons ⟨eH,rfl⟩ .nil,_,g2,rfl,rfl,_,rfl⟩
   ·rw[AD aq,q]at e;exists e
 have bY:dn tw H1<|rA H1 as<|ps.map jE:=.all λb u q=>by rw[AD λaq=>by rw[fr b aq]at q;exists q];exact q
 have Qi:df tw n'<|rA H1 as<|ps.map jE:=by have:=bt.aQ;unfold df at this |-;rw[AD (λaq=>by rw[fr tw aq]at this;exists this)];exact this
 have iy:∃ah,cG ah (as.map Value.ref)/\bR tw (rA H1 as<|ps.map jE) ((ps.map jE).map aG) ah:=by
  refine xy (by rw[cP,cP,cP,has,Qh]) λj u e=>?_;rw[ke]at e;cases q:as[j]? with
  |none=>rw[q]at e;exists e
  |some b =>
   rw[q]at e;exists e;obtain⟨eM,t,eH,g1,g2⟩:=pr j b q;refine⟨.ref b,aG<|jE eM,rfl,by simp[g1],?_⟩;rw[aG,aI];refine⟨b,_,rfl,Qf bW q,?_⟩;rw[show(ps.map jE).getD j []=jE eM by simp[List.getD,g1]];exact bR.ints _
 obtain⟨ah,v1,v2⟩:=iy;obtain⟨Ag,eU,fL⟩:=Qb v1 v2 T0.gX c7;rw[au]at fL;have hf:rA H1 as (ps.map jE) h'.E.O=C:=fT.b1.fresh<|cg _;have ha:=fT.laid (a:=h'.E.O) (o:=.ao Ag) (t':=bx) (h':=Az) kv (cg _) ⟨by rw[eU.H,c7.length_eq,cP,has,<-aB];exact z,(m4.map (·.2)).D,e,eU,by rw[B2];exact av⟩;exact⟨.ref h'.E.O,_,ha,rfl,k _ _ (a1.trans<|bY.trans<|.new hf) (Qi.new hf) ⟨_,rfl,a1.free bt.aQ<|bY.free Qi hf,_,fB,bR.mono (.new hf) _ _ fL⟩⟩
end
end bj.bO
section
namespace bj.bO
open PySem PySem.Spec PyProof.Rows bj.Tm
def AE(K:W.Frag):kV:=λah H Q _=>∃(a:Addr) (ns:List Int),ah=[.ref a]/\gv K H a (ns.map V.int)/\ns.H<=63/\∀aj,Q (.aC Y0) aj
def aiI{P:dx}{w:c3}{K:W.Frag}{a3:Str->Option mt}{base:Heap}{st:Stmt}{f:Addr}{fd:hB}{N:List Str}{lv:Nat}{rest:List Stmt}{b:bw}{e4 cQ pos:Pos}(F:qn K "law" "law" st f fd)(cc:mE N ["_law_script"]<|eo st)
  (aq:ig st=.Assign [.Name "_law_town" e4] (.List [] cQ) pos::rest) (af:N[1]?=J ("_law_town" : Str)) (ak:2<=N.H) (av:Loc (eo st) "_law_town")
  (aP:∀(c8:mt) (A:dH) (cj:List Env) (s:aR) (H:aJ) (E:iu),nA (.List [] cQ) (J<|.Name "_law_town" e4) pos.line (jN iA P w K a3 base N "law" (eo st) f c8 A cj s H E).lJ.I=pure Y1)
  (kJ:∀(tw:Addr) (c8:mt) (A:dH) (cj:List Env) (s:aR) (H:aJ) (E:iu),eC lv (A.deeper<|i3 "law" (eo st) s.L f c8)->hZ (jN iA P w K a3 base N "law" (eo st) f c8 A cj s H E).lJ tw rest b)
  (run:∀ns:List Int,ns.H<=63->∃S' n',b (o5 ns N.H) 0=J (.aU (.aC Y0) Y1,S',n')):i0 P w K a3 base iA (lv+1) f fd ["_law_script"]<|AE K:=by
 refine F.ok cc (λah H Q E h=>?_) λc8 A cj s H ah Q E aV h=>?_
 ·obtain⟨a,ns,rfl,_⟩:=h;rfl
 obtain⟨a,ns,rfl,fw,ab7,q⟩:=h;obtain⟨S',n',e⟩:=run ns ab7;rw[aq];refine⟨_,uV (Dq (i:=1) cc.bW af av (IM zP) (aP c8 A cj s H E)<|.inl rfl) (u:=λD O H=>∃tw B,wN K B tw (o5 ns N.H) 0 (.aU (.aC Y0) Y1) S' n' D O H) λae s' O aj D I h=>?_,?_⟩
 ·obtain⟨tw,B,h⟩:=h;exact kJ tw c8 A cj s H E aV B _ 0 _ _ _ e ae s' O aj D I h
 ·refine⟨by show 0<=dg;exact gG _,λp aF=>?_⟩;have na:∀b o,H b=J o->b≠p:=λb o z=>by rintro rfl;rw[aF]at z;exists z
  have a7:u0 K p (c4 H p<|.ao []) a<|ns.map V.int:=by
   rcases fw with(z|⟨o,z⟩)|z
   ·exact .inl ⟨na _ _ z,.inl<|by rw[e0<|na _ _ z];exact z⟩
   ·exact .inl ⟨na _ _ z,.inr ⟨o,by rw[e0<|na _ _ z];exact z⟩⟩
   ·exact .inr z
  refine⟨p,c4 H p<|.ao [],⟨?_,?_⟩⟩
  ·have aQ:df p 0<|c4 H p<|.ao []:=by unfold df;rw[fB];rfl
   have ei:(o5 ns N.H).H=N.H:=by unfold o5;simp;lia
   have jB:start N [V.ref a]=J (V.ref a)::List.replicate (N.H-1) C:=rfl;have xt:((start N [V.ref a]).set 1 (J<|V.ref p))=J (V.ref a)::J (V.ref p)::List.replicate (N.H-2) C:=by rw[jB,show N.H-1=(N.H-2)+1 by lia,ov];rfl
   have get:∀(i:Nat) (x:T×bo),(o5 ns N.H)[i]?=J (J x)->(i=0/\x=(.ao<|ns.map .int,.cZ))\/(i=1/\x=(.dq,.ag)):=λi x z=>by
    unfold o5 at z
    match i,z with
    |0,z=>simp at z;exact .inl ⟨rfl,z.symm⟩
    |1,z=>simp at z;exact .inr ⟨rfl,z.symm⟩
    |i+2,z =>
     have z:(List.replicate (N.H-2) (C:Option ZJ))[i]?=J (J x):=z;rw[BN]at z;split at z<;>exists z
   rw[xt];refine⟨.refl _ _,aQ,⟨0,aQ⟩,by rw[ei];simp;lia,λi t z=>?_,λi t z=>?_,λi t z=>?_,λi t z=>?_,λi j t t' a z=>?_⟩
   ·rcases get i _ z with⟨rfl,z⟩|⟨rfl,z⟩
    ·exists z
    ·exists z;exact⟨_,rfl,by rw[aI]⟩
   ·rcases get i _ z with⟨rfl,z⟩|⟨rfl,z⟩
    ·exists z;exact⟨_,rfl,a,_,rfl,a7,bR.ints ns⟩
    ·exists z
   ·rcases get i _ z with⟨rfl,z⟩|⟨rfl,z⟩<;>exists z
   ·rcases get i _ z with⟨rfl,z⟩|⟨rfl,z⟩<;>exists z
   ·rcases get i _ z with⟨rfl,z⟩|⟨rfl,z⟩<;>exists z
  ·intro v aj _ _ _ z;have z:aI p aj (.aC Y0) v:=z;rw[aI]at z;subst z;exact q aj
def ag1{l:W.OpenLaw}{q:dx}{loose:List Str}{wL:(Str->Option mt)->Heap->Prop}{sy:c3->Heap->Prop}{d:DefRec}{K:Params->W.Frag}(k:Nat)(bz:l.most=J 63)(sZ:d.params.defaults=[])(aV:eC k so)
  (HC:∀(w:c3) (h:Heap),sy w h->(K w.params).In h)
  (F:∀(w:c3) (a3:Str->Option mt) (da:Addr) (h:Heap),(K w.params).In h->h.Ns kQ a3->a3 d.name=J (.ref da) ->
   ∃fd:hB,(∀(s:aR) (u:mt),uj s fd ⟨[u],[]⟩ [("_law_script",u)])/\∀base:Heap,(K w.params).In base->base.Ns kQ a3->i0 l.R w (K w.params) a3 base iA k da fd ["_law_script"] (AE<|K w.params)) :
  W.WalkO q loose wL sy l.row.toRowW d [] (λf ah=>PySem.call f ah) :=
 bj.ajT (n:=63) (k:=k) (x:="_law_script") (CX:=λ_=>iA) (sp:=λw=>AE<|K w.params) bz Z0 sZ aV HC F (λw _ a ns aB _ fw=>⟨a,ns,rfl,fw,aB,λ_=>rfl⟩) λ_ _ _ _ _ z=>z
def l0.of{X:bI}{scope:jq}{N':List Str}{fo:List<|Option Nat}(af:autoParam (scope.kind=.function) bu)(ak:autoParam ((scope.names.all λy=>y.2 != .cell)=Y0) bu)
  (bc:autoParam ((scope.names.all λy=>y.2 != .local||scope.names.lookup y.1==J .local)=Y0) bu)
  (cL:autoParam ((scope.names.all λy=>y.2 != .free||X.env.kindOf y.1==J .cell||X.env.kindOf y.1==J .free)=Y0) bu)
  (ef:autoParam (fo.H=N'.H) bu)
  (HE:autoParam (((List.range fo.H).all λi=>match fo[i]? with
   | some (J j)=>(match N'[i]? with
    |some x=>X.N[j]?==J x&&scope.names.lookup x != J .local
    |none=>Y1)
   |_=>Y0)=Y0) bu):l0 X scope N' fo:=by
 refine⟨af,λy aK z=>?_,λy aK z=>?_,λy aK z=>?_,ef,λi j e=>?_⟩
 ·have:=iL.mp ak y aK;rw[z]at this;exists this
 ·have:=iL.mp bc y aK;rw[z]at this;exact eq_of_beq (by simpa using this)
 ·have:=iL.mp cL y aK;rw[z]at this;simpa using this
 ·have hi:i<fo.H:=(kK.mp e).1;have:=iL.mp HE i<|nr.mpr hi;rw[e]at this
  have:(match N'[i]? with
    |some x=>X.N[j]?==J x&&scope.names.lookup x != J .local
    |none=>Y1)=Y0:=this
  cases q:N'[i]? with
  |none=>rw[q]at this;exists this
  |some x =>
   rw[q]at this;simp only[f3,beq_iff_eq,bne_iff_ne]at this;exact⟨x,rfl,this.1,this.2⟩
end bj.bO
namespace bj
open PySem
def eC.fW{k:Nat}(r:eC k A):A.units+1<ir:=by have:=r.un;lia
def eC.Cz{k:Nat}(r:eC k A):A.units+6<ir:=by have:=r.un;lia
end bj
end
namespace bj.bO
open PySem PySem.Spec PyProof.Rows
def pH(xs:Array Nat):Prop:=∀(i j:Nat) (hi:i<xs.O) (bU:j<xs.O),i<j->xs[i]<xs[j]
theorem JS{j:Nat}(aV:pH xs):∀(fuel lo hi:Nat),hi-lo<=fuel->lo<=hi->hi<=xs.O->(∀i (h:i<xs.O),i<lo->xs[i]<j)->(∀i (h:i<xs.O),hi<=i->j<=xs[i]) ->
  ∃p,SetTable.below.go xs j fuel lo hi=p/\lo<=p/\p<=hi/\(∀i (h:i<xs.O),i<p->xs[i]<j)/\∀i (h:i<xs.O),p<=i->j<=xs[i]
 |0,lo,hi,hf,aB,aP,af,ak=>⟨lo,rfl,cg _,aB,af,λi h gy=>ak i h Z3⟩
 |fuel+1,lo,hi,hf,aB,aP,af,ak=>by
  unfold SetTable.below.go;by_cases c:lo<hi
  ·rw[Y2 c];have hm:(lo+hi) / 2<xs.O:=by lia
   have bT:xs.getD ((lo+hi) / 2) j=xs[(lo+hi) / 2]:=by simp[Array.getD,hm]
   dsimp only;rw[bT];by_cases d:xs[(lo+hi) / 2]<j
   ·rw[Y2 d]
    obtain⟨p,e,a,b,aX,bb⟩:=JS aV fuel ((lo+hi) / 2+1) hi Z3 Z3 aP (λi h gy=>by
     by_cases z:i=(lo+hi) / 2
     ·subst z;exact d
     ·exact wk (aV i _ h hm<|r9 (kg gy) z) d) ak
    exact⟨p,e,by lia,b,aX,bb⟩
   ·rw[Y3 d]
    obtain⟨p,e,a,b,aX,bb⟩:=JS aV fuel lo ((lo+hi) / 2) Z3 Z3 (ez hm) af (λi h gy=>by
     by_cases z:i=(lo+hi) / 2
     ·subst z;exact hR d
     ·exact bP (hR d)<|ez<|aV _ i hm h Z3)
    exact⟨p,e,a,by lia,aX,bb⟩
  ·rw[Y3 c];exact⟨lo,rfl,cg _,aB,af,λi h gy=>ak i h<|bP (hR c) gy⟩
def JT(aV:pH xs)(j:Nat):SetTable.below xs j<=xs.O/\(∀i (h:i<xs.O),i<SetTable.below xs j->xs[i]<j)/\∀i (h:i<xs.O),SetTable.below xs j<=i->j<=xs[i]:=by obtain⟨p,e,_,b,aX,bb⟩:=JS aV (j:=j) xs.O 0 xs.O (cg _) (gG _) (cg _) (λi h z=>by lia) (λi h z=>by lia);have e:SetTable.below xs j=p:=e;rw[e];exact⟨b,aX,bb⟩
def yg(xs:Array Nat)(j:Nat):Prop:=xs[SetTable.below xs j]?≠J j
def akm{α:Type}(xs:Array α)(p:Nat)(x:α)(aF:p<=xs.O):(SetTable.insertAt xs p x).D=xs.toList.take p++x::xs.toList.drop p:=by unfold SetTable.insertAt;rw[wq,B4,B3,B3,BL,BL];simp only[yF,yx,h6,List.singleton_append];congr 2;exact wb Z7
def JU:pH xs↔xs.toList.Pairwise (·<·):=by
 rw[GB];constructor
 ·intro h i j hi bU jF;simpa using h i j (by simpa using hi) (by simpa using bU) jF
 ·intro h i j hi bU jF;have:=h i j (by simpa using hi) (by simpa using bU) jF;rw[M4,M4]at this;exact this
def al8{j:Nat}(aV:pH xs)(bz:yg xs j):pH<|SetTable.insertAt xs (SetTable.below xs j) j:=by
 obtain⟨b,aX,bb⟩:=JT aV j;have cK:∀i (h:i<xs.O),SetTable.below xs j<=i->j<xs[i]:=λi h hi=>by
  have:=bb i h hi;rcases Nat.lt_or_eq_of_le this with z|z
  ·exact z
  ·by_cases e:i=SetTable.below xs j
   ·refine absurd ?_ bz;rw[<-e,t8 h,<-z]
   ·have dC:SetTable.below xs j<xs.O:=(gS hi h)
    have:=aV (SetTable.below xs j) i dC h Z3;have:=bb (SetTable.below xs j) dC<|cg _;lia
 rw[JU,akm _ _ _ b];have aB:=JU.mp aV;rw[pN];have cS:∀a∈xs.toList.take (SetTable.below xs j),a<j:=λa ba=>by obtain⟨i,hi,e⟩:=yn.mp ba;rw[jS]at hi;rw[yu]at e;have:=aX i (by simp at hi;exact d4 hi<|BY _ _)<|d4 hi<|Nat.min_le_left _ _;simp at e;exact gS (d1 e.symm) this
 have gu:∀a∈xs.toList.drop (SetTable.below xs j),j<a:=λa ba=>by obtain⟨i,hi,e⟩:=yn.mp ba;rw[gc]at hi;rw[yt]at e;have:=cK (SetTable.below xs j+i) (by simp at hi;lia)<|gb _ _;simp at e;exact d4 this<|d1 e
 refine⟨aB.sublist<|yq _ _,jR.mpr ⟨gu,aB.sublist<|wd _ _⟩,λa ba c aT=>?_⟩;have:=cS a ba;rcases d3.mp aT with rfl|aT
 ·exact this
 ·have:=gu c aT;lia
structure lZ (led:Bool) (t:pS):Prop where
 led:t.led=led
 rise:t.plain=Y0->pH t.place
theorem lZ.fresh(led:Bool):lZ led<|.fresh 0 0 led:=⟨rfl,λ_ i j hi=>by simp[SetTable.fresh]at hi⟩
theorem lZ.standIn{led:Bool}(g:lZ led t)(n:Nat):lZ led<|t.standIn n:=⟨g.led,λz=>by exists z⟩
def Qj{t:pS}{j:Nat}(h:∀i,t.slot j≠.live i):yg t.place j:=by intro z;refine h (SetTable.below t.place j) ?_;unfold SetTable.slot;dsimp only;rw[z];simp
theorem JV{t:pS}{f:Nat->Int}{h:Int}:∀(fuel:Nat) (p:SetTable.Probe) (j:Nat) (d:Option Nat),(∀x,p.dummy=J x->yg t.place x)->SetTable.probe.go t f h fuel p=J (.empty j d)->yg t.place j/\∀x,d=J x->yg t.place x
 |0,p,j,d,_,e=>by exists e
 |fuel+1,p,j,d,hd,e=>by
  unfold SetTable.probe.go at e;have Qk:∀q:SetTable.Probe,(t.advance q).dummy=q.dummy:=λq=>by unfold SetTable.advance;split<;>rfl
  cases aP:t.slot p.j with
  |empty =>
   rw[aP]at e
   exists e
   exact⟨Qj (λi z=>by rw[aP]at z;exists z),hd⟩
  |dummy =>
   rw[aP]at e
   exact JV fuel _ j d (λx av=>by
    rw[Qk]at av
    exists av
    exact Qj λi z=>by rw[aP]at z;exists z) e
  |live i =>
   rw[aP]at e;dsimp only at e;split at e
   ·exists e
   ·exact JV fuel _ j d (λx av=>by rw[Qk]at av;exact hd x av) e
def akn{t:pS}{h:Int}{j:Nat}{w:Bool}(e:t.freeSlot h=J (j,w)):yg t.place j:=by
 unfold SetTable.freeSlot at e;split at e
 ·rename_i q5 d aF
  exists e
  obtain⟨aM,bC⟩:=JV _ _ _ _ (λx av=>by exists av) aF;cases d with
  |none=>exact aM
  |some x=>exact bC x rfl
 ·exists e
def lZ.lay{led:Bool}(g:lZ led t)(es:Array<|Int×mt)(h:Int)(x:mt):lZ led (layNew t es h x).2.1:=by
 unfold layNew;cases e:t.freeSlot h with
 |none=>exact g.standIn _
 |some q =>
  obtain⟨j,w⟩:=q;dsimp only;have g1:lZ led (t.put j).1:=⟨g.led,λz=>al8 (g.rise z)<|akn e⟩
  unfold SetTable.orStandIn;split
  ·exact g1
  ·exact g1.standIn _
def ab8(m:Nat)(f:Nat->Option Nat):((List.range m).filterMap λj=>(f j).map (j,·)).Pairwise (λa b=>a.1<b.1):=by
 rw[List.pairwise_filterMap];refine Mw.imp λ{a b} D1 x av y aK=>?_;cases ba:f a with
 |none=>rw[ba]at av;exists av
 |some u =>
  cases aq:f b with
  |none=>rw[aq]at aK;exists aK
  |some v=>rw[ba]at av;rw[aq]at aK;exists av;exists aK;exact D1
def lZ.ag2{led:Bool}(g:lZ led t)(es:Array<|Int×mt)(k:Nat):lZ led (wA t es k).2.1:=by
 unfold wA;cases e:t.relaid (es.map (·.1)) k with
 |none=>exact g.standIn _
 |some q =>
  obtain⟨t',order⟩:=q;dsimp only;split
  ·unfold SetTable.relaid SetTable.laid at e;obtain⟨owner,_,au⟩:=cn (show(SetTable.layClean _ _).bind _=_ from e)
   exists au
   refine⟨g.led,λz=>?_⟩;rw[JU];dsimp only;rw[yv];exact ab8 _ _
  ·exact g.standIn _
def ab9(aV:pH xs){k:Nat}(aW:k<xs.O):SetTable.below xs (xs[k]+1)=k+1:=by
 obtain⟨b,aX,bb⟩:=JT aV<|xs[k]+1;have af:k<SetTable.below xs (xs[k]+1):=by
  by_cases c:k<SetTable.below xs (xs[k]+1)
  ·exact c
  ·have:=bb k aW<|hR c;lia
 have ak:SetTable.below xs (xs[k]+1)<=k+1:=by
  by_cases c:SetTable.below xs (xs[k]+1)<=k+1
  ·exact c
  ·have pe:k+1<xs.O:=(d4 (sb c) b)
   have a1:=aX (k+1) pe<|sb c;have a2:=aV k (k+1) aW pe<|cg _;lia
 exact h8 ak af
def aca(aV:pH xs):SetTable.below xs 0=0:=by
 obtain⟨b,aX,bb⟩:=JT aV 0;by_cases c:SetTable.below xs 0=0
 ·exact c
 ·have:=aX 0 (d4 (kf c) b)<|kf c;lia
noncomputable def mv(w:c3):Bool:=w.params.followText "set-order"
structure kF (prog:dx) (w:c3) (h:Heap) (a:Addr) (es:Array<|Int×mt) (ep:Nat) (t:pS):Prop where
 obj:∃o,h.get? a=J o/\o.ExactSet/\o.d=.set es ep t
 bd:es.O<nB
 fit:t.fits es.O=Y0
 good:lZ (!mv w) t
def kF.kept{ep:Nat}(g:kF prog w h a es ep t)(k:∀o,h.get? a=J o->h'.get? a=J o):kF prog w h' a es ep t:=by obtain⟨o,af,ak⟩:=g.obj;exact⟨⟨o,k o af,ak⟩,g.bd,g.fit,g.good⟩
structure oj (prog:dx) (w:c3) (h:Heap) (a:Addr) (es:Array<|Int×mt) (ep:Nat) (t:pS):Prop where
 obj:∃o,h.get? a=J o/\o.ExactSet/\o.d=.set es ep t
 qa:ElemsOf (i2 prog w) es.D
 bd:es.O<nB
 fit:t.fits es.O=Y0
 good:lZ (!mv w) t
def oj.i{ep:Nat}(g:oj prog w h a es ep t):kF prog w h a es ep t:=⟨g.obj,g.bd,g.fit,g.good⟩
section
variable {prog:dx}{w:c3}{A:dH}{E:mt->aR->Prop}{s:aR}{a:Addr}{es:Array<|Int×mt}{ep:Nat}{t:pS}
def oj.kept(g:oj prog w h a es ep t)(k:∀o,h.get? a=J o->h'.get? a=J o):oj prog w h' a es ep t:=by obtain⟨o,af,ak⟩:=g.obj;exact⟨⟨o,k o af,ak⟩,g.qa,g.bd,g.fit,g.good⟩
def oj.store(g:oj prog w h a es ep t)(qa:ElemsOf (i2 prog w) je.D)(bd:je.O<nB)(fit:t'.fits je.O=Y0)(good:lZ (!mv w) t') :
  oj prog w (h.update a<|Obj.putSet je t') a je (ep+1) t':=by
 obtain⟨o,af,ak,bc⟩:=g.obj;have:=qV (Obj.putSet je t') af (by rw[putSet_of je t' bc];rfl);rw[putSet_of je t' bc]at this;exact⟨⟨_,this,ak,rfl⟩,qa,bd,fit,good⟩
def agh{v:Int}{Q:Bool->aR->Prop}(g:oj prog w s.Q a es ep t)(room:es.O+1<nB)
  (af:(∃e∈es.D,(i2 prog w).is v e.2=Y0)->Q Y1 s)
  (ak:(¬ ∃e∈es.D,(i2 prog w).is v e.2=Y0)->∀h' je sS t',Heap.SameBut a s.Q h'->oj prog w h' a je sS t'->je.toList.Perm (es.D++[((i2 prog w).hash v,.int v bx)])->Q Y0 { s with heap:=h'}) :
  bl Z9 A (setAddHashed a (.int v bx)<|(i2 prog w).hash v) Q E s:=by
 have lV:(i2 prog w).is v (.int v bx)=Y0:=intKind_is _ _ _ _;obtain⟨o,aZ,hex,hd⟩:=g.obj;unfold setAddHashed setAddHashedIn;refine jo<|a8<|yO aZ hd g.fit ?_;dsimp only;rw[byScan_of (x:=.int v bx) rfl g.bd g.qa,Y2 rfl];unfold setAddByScan;refine a8<|a8<|l7<|a8<|wpAny_setScan_of lV aZ hd g.fit g.qa ?_;cases aV:List.findIdx? (λe=>(i2 prog w).is v e.2) es.D with
 |some j =>
  obtain⟨bU,aF,_⟩:=BH.mp aV;exact bZ<|bZ<|af ⟨_,oy bU,aF⟩
 |none =>
  have no:¬ ∃e∈es.D,(i2 prog w).is v e.2=Y0:=λ⟨e,he,aF⟩=>by have:=Mu.mp aV e he;rw[aF]at this;exists this
  have k2:=ak no;have dB:=layNew_perm t es ((i2 prog w).hash v)<|.int v bx;have f1:=layNew_fits t es ((i2 prog w).hash v)<|.int v bx;have g1:=g.good.lay es ((i2 prog w).hash v)<|.int v bx;dsimp only;generalize layNew t es ((i2 prog w).hash v) (.int v bx)=L at dB f1 g1 |-;obtain⟨hA,t1,uI,HL⟩:=L;dsimp only at dB f1 g1 |-;rw[B4]at dB;have wD:hA.O=es.O+1:=by rw[<-gH,dB.length_eq];simp
  have Ql:ElemsOf (i2 prog w) hA.D:=(g.qa.push lV rfl).perm dB;have way:∀(b:Bool) {dM:aR} {e8:Unit->aR->Prop},e8 () dM->bl Z9 A (match b with|true=>rule "set.scan.the-table-gave-way" |false=>pure ()) e8 E dM:=λb dM e8 a7=>by
   exists b
   ·exact bZ a7
   ·exact l7 a7
  have cq:hA.O<nB:=(gS (d1 wD) room)
  have jz:oj prog w (s.heap.update a<|Obj.putSet hA t1) a hA (ep+1) t1:=g.store Ql cq f1 g1;have Qm:=Heap.SameBut.update s.Q a<|Obj.putSet hA t1
  have tail:bl Z9 A (do
    storeSet a hA t1
    if(!uI&&t1.tooFull)=Y0 then do
      (match (wA t1 hA<|SetTable.grown hA.O).2.2 with|true=>rule "set.scan.the-table-gave-way" |false=>pure ())
      storeSet a (wA t1 hA<|SetTable.grown hA.O).1 (wA t1 hA<|SetTable.grown hA.O).2.1
      pure (J Y0)
     else pure (J Y0)) (λr s'=>r=J Y0/\Q Y0 s') E s:=by
   refine a8<|wpAny_storeSet_of aZ hd ?_<|yP cq;split
   ·have c7:=relayAll_perm t1 hA<|SetTable.grown hA.O;have f2:=relayAll_fits t1 hA<|SetTable.grown hA.O;have g2:=g1.ag2 hA<|SetTable.grown hA.O;generalize wA t1 hA (SetTable.grown hA.O)=jX at c7 f2 g2 |-;obtain⟨JW,eH,anV⟩:=jX;dsimp only at c7 f2 g2 |-;have acb:JW.O=hA.O:=by rw[<-gH,c7.length_eq,gH]
    have cE:JW.O<nB:=(gS (d1 acb) cq)
    obtain⟨fs,lh,_,vb⟩:=jz.obj;refine a8<|way _<|a8<|wpAny_storeSet_of lh vb ?_<|yP cE;exact bZ ⟨rfl,k2 _ JW _ eH (Qm.trans<|Heap.SameBut.update _ a _) (jz.store (Ql.perm c7) cE f2 g2)<|c7.trans dB⟩
   ·exact bZ ⟨rfl,k2 _ hA _ t1 Qm jz dB⟩
  refine a8<|way _ ?_;have eq1:hashByValue 8 (.int v bx)=pure Y0:=rfl;split
  ·rw[eq1];refine a8<|bZ ?_;simp only[if_true];refine hj tail (λr s' z=>?_) λ_ _ e=>e;obtain⟨rfl,z⟩:=z;exact bZ z
  ·refine a8<|bZ ?_;simp only[if_true];refine hj tail (λr s' z=>?_) λ_ _ e=>e;obtain⟨rfl,z⟩:=z;exact bZ z
end
def om(prog:dx)(w:c3)(h:Heap)(a:Addr)(dc:List Int):Prop:=∃es ep t,oj prog w h a es ep t/\g9 (es.toList.map (·.2)) dc/\dc.Nodup
section
variable {prog:dx}{w:c3}{A:dH}{E:mt->aR->Prop}{s:aR}{a:Addr}
theorem om.kept(g:om prog w h a dc)(k:∀o,h.get? a=J o->h'.get? a=J o):om prog w h' a dc:=by obtain⟨es,ep,t,g1,g2⟩:=g;exact⟨es,ep,t,g1.kept k,g2⟩
def JX(h:g9 us dc)(p:va.Perm us):∃lR,g9 va lR/\lR.Perm dc:=by refine⟨va.map numOf,intsAre_map va λv bS=>h.all v<|p.mem_iff.mp bS,?_⟩;have:=p.map numOf;rwa [h.nums]at this
def acd(h:g9 us dc)(v:Int):(∃u∈us,(i2 prog w).is v u=Y0)↔v∈dc:=by
 induction h with
 |nil=>simp
 |cons n t r a4 =>
  have e:(i2 prog w).is v (.int n t)=Y0↔v=n:=by show Value.isInt v (.int n t)=Y0↔v=n;simp[Value.isInt];exact eq_comm
  rw[d3,<-a4];constructor
  ·rintro⟨u,b7,z⟩;rcases d3.mp b7 with rfl|b7
   ·exact .inl<|e.mp z
   ·exact .inr ⟨u,b7,z⟩
  ·rintro(z|⟨u,b7,z⟩)
   ·exact⟨_,dS ..,e.mpr z⟩
   ·exact⟨u,am _ b7,z⟩
theorem ints_snoc:∀{us:List mt} {dc:List Int},g9 us dc->∀(v:Int) (bx:Tok),g9 (us++[.int v bx]) (dc++[v])
 |_,_,.nil,v,bx=>.cons v bx .nil
 |_,_,.cons n t r,v,bx=>.cons n t<|ints_snoc r v bx
def agi{v:Int}{Q:Bool->aR->Prop}(g:om prog w s.Q a dc)(room:dc.H+1<nB)
  (h:∀h' lR,Heap.SameBut a s.Q h'->om prog w h' a lR->(∀x,x∈lR↔x∈dc\/x=v)->lR.H<=dc.H+1->∀b,Q b { s with heap:=h'}) :
  bl Z9 A (setAddHashed a (.int v bx)<|(i2 prog w).hash v) Q E s:=by
 obtain⟨es,ep,t,g1,g2,g3⟩:=g;have aB:es.O=dc.H:=by rw[<-g2.H];simp
 have ex:(∃e∈es.D,(i2 prog w).is v e.2=Y0)↔v∈dc:=by
  rw[<-acd (prog:=prog) (w:=w) g2 v];constructor
  ·rintro⟨e,he,z⟩;exact⟨e.2,kd he,z⟩
  ·rintro⟨u,b7,z⟩;obtain⟨e,he,rfl⟩:=ey.mp b7;exact⟨e,he,z⟩
 refine agh g1 Z3 (λz=>?_) λz h' je sS t' cV cc p=>?_
 ·have:s={ s with heap:=s.Q}:=rfl;rw[this];refine h s.Q dc (Heap.SameBut.refl a s.Q) ⟨es,ep,t,g1,g2,g3⟩ (λx=>⟨.inl,λq=>q.elim id λq=>by rw[q];exact ex.mp z⟩) (t6 _) Y1
 ·have c7:=p.map (·.2);rw[lA]at c7;have gK:g9 (es.toList.map (·.2)++[.int v bx])<|dc++[v]:=ints_snoc g2 v bx;obtain⟨lR,aX,bb⟩:=JX gK c7;refine h h' lR cV ⟨je,sS,t',cc,aX,?_⟩ (λx=>by rw[bb.mem_iff];simp) (by rw[bb.length_eq];simp) Y0;rw[bb.nodup_iff,we];refine⟨g3,by simp,λx av y aK e=>?_⟩;simp at aK;subst aK e;exact z<|ex.mpr av
def al9{P:Nat->mt->Prop}{St:Nat->Heap->Prop}{ns:List Int}(W:Walks prog w A.in1 I fp wr ns.H P St)(fw:a∉fp)(e3:∀i v,P i v->∃t,v=.int (ns.getD i 0) t)(aq:ns.H+1<nB) :
  ∀(k i:Nat) (s:aR) (dc:List Int),ns.H-i=k->i<=ns.H->St i s.Q->om prog w s.Q a dc->(∀x,x∈dc↔x∈ns.take i)->dc.H<=i ->
   (∀h' bx lR,(∀b o,b≠a->b∉wr->s.heap.get? b=J o->h'.get? b=J o)->om prog w h' a lR->(∀x,x∈lR↔x∈ns)->R (.ok<|.ret .none) { s with heap:=h',toks:=bx}) ->
   ki Z9 A (.builtin "set.update.loop" ⟨[.ref a,.ref I],[]⟩) R s:=by
 have hw:a∉wr:=λz=>fw<|W.sub _ z;intro k
 induction k with
 |zero =>
  intro i s dc aW hi st g hm aB fin;have e:i=ns.H:=(h8 hi<|yA aW)
  subst e;refine pR F.entry_set_update_loop ?_;rw[Around.under_plainId F.plain_set_update_loop _];refine a8 (m:=mK<|.ref I) (W.done s _ _ st λh' bx b8=>?_);exact bZ (fin h' bx dc (λb o _ nb z=>b8 b o nb z) (g.kept λo z=>b8 a o hw z) λx=>by rw[hm x,yw])
 |succ k a4 =>
  intro i s dc aW hi st g hm aB fin;have dC:i<ns.H:=(G1<|qT<|d1 aW.symm)
  refine pR F.entry_set_update_loop ?_;rw[Around.under_plainId F.plain_set_update_loop _];refine a8 (m:=mK<|.ref I) (W.item i s _ _ dC st λv h' bx bS c1 b8=>?_);obtain⟨t,rfl⟩:=e3 i v bS;refine a8 (m:=oG [Value.int (ns.getD i 0) t]<|setAdd a<|.int (ns.getD i 0) t)<|jo ?_;unfold setAdd;refine jo<|a8<|(i2 prog w).pyHash (k:=ns.getD i 0) (intKind_is _ _ _ _) ?_;refine agi (s:={ s with heap:=h',toks:=bx+1}) (g.kept λo z=>b8 a o hw z) Z3 λak Ej cV g2 gu fE b=>?_;refine bZ ⟨oF F.plain_set_update_loop _,a4 (i+1) _ Ej Z3 dC (W.frame _ _ _ c1 λb aq o z=>?_) g2 (λx=>?_) (bP fE<|t4 aB) λbc JE ace acf g3 jx=>?_⟩
  ·show ak.get? b=J o;rw[cV.2 b λq=>fw<|by rw[<-q];exact aq];exact z
  ·rw[gu x,hm x,GR,hQ,hh dC];have:ns.getD i 0=ns[i]:=by simp[List.getD,dC]
   rw[this];simp
  ·refine fin bc JE ace (λb o nb nw z=>acf b o nb nw ?_) g3 jx;show ak.get? b=J o;rw[cV.2 b nb];exact b8 b o nw z
end
end bj.bO
section
set_option maxHeartbeats 8000000
namespace bj.bO
open PySem PySem.Spec PyProof.Rows
section
variable {prog:dx}{w:c3}{A:dH}{E:mt->aR->Prop}{s:aR}
noncomputable abbrev jI(w:c3):Obj:={ cls:=.type "set",dict:=C,data:=.set #[] 0 (.fresh 0 0<|!mv w)}
def ako(x:mt)(h:Q₁ (.ref s.L) { s with heap:=s.heap.push (jI w)}) :
  ki Z9 A (.call (.builtin "set.__new__") ⟨[.type "set",x],[]⟩) (wants Q₁ E) s:=by
 refine codeAny_of_tree (show bl _ A.in1 (do checkBuiltinCall "set.__new__" ⟨[.type "set",x],[]⟩;again (.builtin "set.__new__" ⟨[.type "set",x],[]⟩)) _ _ s from ?_)
 refine a8 (wpAny_of_eq (F.newCall_set_1 x) (bZ ⟨oF F.plain_set_new _,pR F.entry_set_new (by
  rw[Around.under_plainId F.plain_set_new _];unfold Builtin.«set.__new__» Builtin.Frozenset.newClass;have agj:=sub_set_self;obtain⟨aF,g,d,bx,os⟩:=s;dsimp only;wp_walk;refine yQ<|bZ ?_;dsimp only;simp only[newObj]
  exact a8<|wpAny_alloc<|bZ<|bZ h)⟩))
def acg(bT:h.get? a=J (jI w)):om prog w h a [] :=
 ⟨#[],0,_,⟨⟨_,bT,⟨rfl,rfl,rfl⟩,rfl⟩,λe he=>by simp at he,by decide,rfl,.fresh _⟩,.nil,.nil⟩
def UY{items:Array mt}{P:Nat->mt->Prop}{St:Nat->Heap->Prop}(xJ:s.heap.get? l=J ol)(hi:g9 items.D ns)(aq:ns.H+1<nB)
  (W:Walks prog w A.in1 (s.heap.push<|jI w).E.O [(s.heap.push<|jI w).E.O,l] [(s.heap.push<|jI w).E.O] ns.H P St) (st:St 0<|(s.heap.push<|jI w).push oi) (e3:∀i v,P i v->items[i]?=J v)
  (fin:∀h' bx dc,om prog w h' s.L dc->(∀x,x∈dc↔x∈ns)->ZX->R (.ok<|.ret .none) { s with heap:=h',toks:=bx}) :
  ki Z9 A (.builtin "set.update.loop" ⟨[.ref s.L,.ref (s.heap.push<|jI w).E.O],[]⟩) R { s with heap:=(s.heap.push (jI w)).push oi}:=by
 have fw:(s.heap.push<|jI w).get? s.L=J (jI w):=gB _ rfl;have ach:l<s.L:=d5 xJ;have Ek:s.L∉[(s.heap.push<|jI w).E.O,l]:=by rw[nv];simp;exact pQ ach
 refine al9 W Ek (λi v bS=>IntsAre.int_at hi i v<|by rw[lB];exact e3 i v bS) aq ns.H 0 _ [] (yF _) (gG _) st (acg<|ec _ fw) (λx=>by simp) Z7 λh' bx dc b8 g m=>fin h' bx dc g m λb o z=>?_;have aq:=d5 z;exact b8 b o (bv aq) (by rw[nv];simp;exact bv<|oB aq)<|ec _<|ec _ z
def aiJ(aT:c = "list" \/ c = "tuple"){nl:Nat}(bp:A.handled=C)(xJ:s.heap.get? l=J ol)(mZ:ol.cls=.type c)(Qn:ol.d=.seq items nl)(hi:g9 items.D ns)(aq:ns.H+1<nB)
  (h:∀(h':Heap) (bx:Nat) (dc:List Int),om prog w h' s.L dc->(∀x,x∈dc↔x∈ns)->ZX->Q (.ref s.L) { s with heap:=h',toks:=bx}) :
  bl Z9 A (call (.type "set") [.ref l]) Q E s:=by
 have ei:items.O=ns.H:=by rw[<-hi.H];simp
 obtain⟨cH,hV,an7⟩:=F.called_set.mro;have aoa:=F.called_set.made;have agj:=F.called_set.sub;refine uh<|codeAny_of_tree (show bl _ _ (callAny (.type "set") _) _ _ _ from bZ ⟨Code.quiet_builtin _ (by decide+kernel),pR F.entry_type_call ?_⟩);rw[Around.under_plain (weight_type_call_type "set" [.ref l] []) rfl];have k1:=F.called_set.notType;have k2:=F.called_set.canCreate;have k3:=F.typeCall_set_1<|.ref l
 repeat (any_goals (first|assumption|wp_step))
 refine sh (ako (.ref l) (E:=E) (Q₁:=λobj dM=>obj=.ref s.L/\dM={ s with heap:=s.heap.push (jI w)}) ⟨rfl,rfl⟩) λr dM aV=>?_;cases r with
 |error e=>exact aV
 |ok bG =>
  cases bG with
  |ret obj =>
   obtain⟨rfl,rfl⟩:=aV;have fw:(s.heap.push<|jI w).get? s.L=J (jI w):=gB _ rfl;have gs:Shared.TypeIs { s with heap:=s.heap.push (jI w)} (.ref s.L) "set":=⟨_,fw,rfl⟩
   have zg:=F.called_set.init.lookup;have k5:=F.called_set.init.bind<|.ref s.L
   repeat (any_goals (first|assumption|wp_step))
   refine sh (Hg (R:=wants (λr gT=>r=.none/\∃h' bx dc,gT={ s with heap:=h',toks:=bx}/\om prog w h' s.L dc/\(∀x,x∈dc↔x∈ns)/\ZX) E) F.called_set.init.plain F.entry_set_init<|check_set_init_1 gs ?_) λWj gT JY=>?_
   ·have TV:(s.heap.push<|jI w).get? l=J ol:=ec _ xJ;have TX:l≠(s.heap.push<|jI w).E.O:=by rw[nv];exact bv (oB<|d5 xJ)
    have Qo:A.in1.in1.in1.handled=C:=by simp[bp]
    obtain⟨an8,aob,aoc,aod⟩:=ol;simp only at mZ Qn;subst mZ;subst Qn;rcases aT with rfl|rfl
    ·have aX:=F.sub_list_set;have bb:=F.sub_list_frozenset;have cK:(Value.type "list" == Value.type "dict")=Y1:=by decide
     have vj:(s.heap.push<|jI w).IsList l items:=⟨_,TV,rfl,nl,rfl⟩
     unfold Builtin.«set.__init__» noKeywords Builtin.Frozenset.updateFrom;generalize JZ:l9=oL
     wp_walk
     subst JZ;refine B8 vj<|a8<|Hp ?_;have W:=Walks.list (prog:=prog) (w:=w) Qo _ l TX items;rw[ei]at W;exact UY xJ hi aq W ⟨⟨_,gB _ rfl,rfl,rfl⟩,vj.push _⟩ (λi v z=>z) λh' bx dc g m b8=>bZ<|bZ ⟨rfl,h',bx,dc,rfl,g,m,b8⟩
    ·have aX:isSubtype (.type "tuple") (.type "set")=pure Y1:=by rw[yS];kernel_rfl
     have bb:isSubtype (.type "tuple") (.type "frozenset")=pure Y1:=by rw[yS];kernel_rfl
     have cK:(Value.type "tuple" == Value.type "dict")=Y1:=by decide
     have vj:(s.heap.push<|jI w).IsTuple l items:=⟨_,TV,rfl,nl,rfl⟩
     unfold Builtin.«set.__init__» noKeywords Builtin.Frozenset.updateFrom;generalize JZ:l9=oL
     wp_walk
     subst JZ;refine Hi vj<|a8<|Hp ?_;have W:=Walks.tuple (prog:=prog) (w:=w) Qo _ l TX items;rw[ei]at W;exact UY xJ hi aq W ⟨⟨_,gB _ rfl,rfl,rfl⟩,let ⟨o,aZ,r⟩:=vj;⟨o,ec _ aZ,r⟩⟩ (λi v z=>z) λh' bx dc g m b8=>bZ<|bZ ⟨rfl,h',bx,dc,rfl,g,m,b8⟩
   ·cases Wj with
    |error e=>exact JY
    |ok aci =>
     cases aci with
     |ret r =>
      obtain⟨rfl,h',bx,dc,rfl,g,m,b8⟩:=JY
      repeat (any_goals (first|assumption|wp_step))
      exact h _ _ _ g m b8
     |_=>exact JY.elim
  |_=>exact aV.elim
end
end bj.bO
end
section
set_option maxHeartbeats 1000000
namespace bj.bO
open PySem PySem.Spec PyProof.Rows
def UZ:Manifest.owners.lookup (String.ofList ['r','o','t','a','r','e','t','i','_','t','e','s'].reverse)=J Manifest.sig_set_iterator:=by kernel_rfl
def tn:Slot "set_iterator" "__next__" "set_iterator.__next__" :=
 .of (owner:="set_iterator") (n:="__next__") (by rw[Cb,B7];kernel_rfl) (by decide+kernel) (by decide+kernel) (by decide+kernel) (by first|exact .inl (by decide+kernel)|exact .inr<|by decide+kernel) (by rw[yS];kernel_rfl)
def Qp:yV table "set_iterator.__next__" = J Builtin.«set_iterator.__next__»:=entryFor_of_tree (by kernel_rfl)
def Qq(a:mt):qY "set_iterator.__next__" ⟨[a],[]⟩:=by unfold qY;rw[signature?_of (id:="set_iterator.__next__") (n:=['_','_','t','x','e','n','_','_']) (o:=['r','o','t','a','r','e','t','i','_','t','e','s']) (by kernel_rfl) UZ];kernel_rfl
def acj:yV table "set.__iter__" = J Builtin.«frozenset.__iter__»:=entryFor_alias (id':="frozenset.__iter__") (by kernel_rfl) rfl (by decide+kernel) (by kernel_rfl)
noncomputable abbrev qy(f:mt)(i:Nat)(a:Addr)(n ep:Nat):Obj:={ cls:=.type "set_iterator",data:=.fields #[f,gI i,.ref a,gI n,gI ep]}
section
variable {prog:dx}{w:c3}{A:dH}{E:mt->aR->Prop}{s:aR}{I a:Addr}{es:Array<|Int×mt}{ep i:Nat}{t:pS}
def Qr{α:Type}{Q:α->aR->Prop}(bp:A.handled=C)(h:∀e h',ZX->Shared.TypeIs { s with heap:=h'} e "StopIteration" -> E e { s with heap:=h'}):bl Z9 A (newExc (.type "StopIteration") [] >>= λe=>(raiseNew e:Sem α)) Q E s:=by refine a8 ?_;simp only[newExc,newTuple];refine a8 (kP ?_<|by size_fits);refine a8 (m:=firstArgMember _ _)<|wpAny_of_eq (a:=Value.none) (by first|rfl|(simp only[firstArgMember];rfl)) ?_;refine kP ?_ (by size_fits);simp only[raiseNew];refine a8 (wpAny_handled ?_);rw[bp];exact a8 (bZ (wpAny_throw (h (.ref _) _ (λb o z=>ec _<|ec _ z) ⟨_,gB _ rfl,rfl⟩)))
def El{slot Qs:Nat}(g:kF prog w s.Q a es ep t)(hd:mv w=Y1->(!t.plain&&decide (es.O>1))=Y1)(ack:Qs=ep)
  (af:mv w=Y0->Q (((sj (w.params.setOrder a ep) es)[i]?).map λe=>(e.2,slot)) s)
  (ak:mv w=Y1->Q (match es[SetTable.below t.place slot]?,t.place[SetTable.below t.place slot]? with|some (_,x),J j=>J (x,j+1)|_,_=>C) s):bl Z9 A (setNext a slot i Qs) Q E s:=by
 subst ack;obtain⟨o,aZ,av,lj⟩:=g.obj;unfold setNext setsByText;refine a8<|yO aZ lj g.fit ?_;dsimp only;refine a8<|a8<|yQ<|bZ ?_;show bl _ _ (if mv w=Y0 then _ else _) _ _ s;cases aq:mv w with
 |true =>
  rw[Y2 rfl,Y3 Z7];unfold setWalk setsByText;refine a8<|a8<|yO aZ lj g.fit ?_;dsimp only;refine a8<|a8<|yQ<|bZ ?_;show bl _ _ (if mv w=Y0 then _ else _) _ _ s;rw[aq,Y2 rfl];refine a8<|yQ<|bZ<|bZ<|af aq
 |false =>
  rw[Y3 Z7];have az:=hd aq;have au:t.led=Y0:=by rw[g.good.led,aq];rfl
  show bl _ _ (if(!t.plain&&decide (es.O>1))=Y0 then _ else _) _ _ s;rw[az,Y3 Z0];refine a8 ?_;wp_delta;rw[au,Y3 Z7];exact bZ<|bZ<|ak aq
def Em{slot:Nat}{r:Option<|mt×Nat}{Q:Option mt->aR->Prop}(bp:A.handled=C)(hit:s.heap.get? I=J (qy (gI slot) i a es.O ep))(g:kF prog w s.Q a es ep t)
  (bz:∀(A':dH) (oV:mt->aR->Prop) (e8:Option (mt×Nat)->aR->Prop),e8 r s->bl Z9 A' (setNext a slot i ep) e8 oV s)
  (af:∀x bD,r=J (x,bD)->∀h',h'.get? I=J (qy (gI bD) (i+1) a es.O ep)->Heap.SameBut I s.Q h'->Q (J x) { s with heap:=h'})
  (ak:r=C->∀h',(∀b o,b≠I->s.heap.get? b=J o->h'.get? b=J o)->Q C { s with heap:=h'}):bl (bg prog w) A (mK (.ref I)) Q E s:=by
 have gs:s.TypeIs (.ref I) "set_iterator":=⟨_,hit,rfl⟩
 obtain⟨o,aZ,av,lj⟩:=g.obj;unfold mK;refine a8<|wy<|yM (name:=Str.ofString "__next__") gs tn<|sg tn gs Qp ?_<|Qq _;unfold Builtin.«set_iterator.__next__»;refine a8<|bZ<|a8<|wpAny_fieldsOf hit rfl ?_;dsimp only;refine a8<|Hh aZ lj g.fit ?_;rw[Y3 Z7];simp only[gI,t9];refine a8<|bz _ _ _ ?_;cases r with
 |some q =>
  obtain⟨x,bD⟩:=q;dsimp only;refine a8<|wu hit rfl Z7<|a8 ?_;have F4:=qV (Obj.mapFields (·.setIfInBounds 0 (gI bD))) hit rfl;refine wu F4 rfl Z7<|bZ ⟨_,rfl,bZ<|af x bD rfl _ ?_<|(Heap.SameBut.update ..).trans (Heap.SameBut.update ..)⟩;exact qV _ F4 rfl
 |none =>
  dsimp only;refine a8<|wu hit rfl Z7 (Qr (by simpa using bp) λe h' b8 HQ=>?_);refine a8<|Hm (T:="StopIteration") (b:=Y0) HQ isSubtype_stop<|bZ (ak rfl h' λb o nb z=>b8 b o ?_);rw[(Heap.SameBut.update s.Q I _).2 b nb];exact z
def Qt{tp:Addr}{HR:Obj}{cQ:Array mt}{m:Nat}{Q:Option mt->aR->Prop}(bp:A.handled=C)(hit:s.heap.get? I=J (qy (.ref tp) i a es.O ep))(g:kF prog w s.Q a es ep t)(acm:s.heap.get? tp=J HR)(anW:HR.cls=.type "tuple")(agk:HR.d=.seq cQ m)
  (af:∀p,cQ[i]?=J (gI (p:Nat))->∃av x,es[p]?=J (av,x)/\∀h',h'.get? I=J (qy (.ref tp) (i+1) a es.O ep)->Heap.SameBut I s.Q h'->Q (J x) { s with heap:=h'})
  (h0:cQ[i]?=C\/∃p:Nat,cQ[i]?=J (gI p))
  (ak:cQ[i]?=C->∀h',(∀b o,b≠I->s.heap.get? b=J o->h'.get? b=J o)->Q C { s with heap:=h'}):bl (bg prog w) A (mK (.ref I)) Q E s:=by
 have gs:s.TypeIs (.ref I) "set_iterator":=⟨_,hit,rfl⟩
 obtain⟨o,aZ,av,lj⟩:=g.obj;unfold mK;refine a8<|wy<|yM (name:=Str.ofString "__next__") gs tn<|sg tn gs Qp ?_<|Qq _;unfold Builtin.«set_iterator.__next__»;refine a8<|bZ<|a8<|wpAny_fieldsOf hit rfl ?_;dsimp only;refine a8<|Hh aZ lj g.fit ?_;rw[Y3 Z7];refine a8<|Cd acm agk ?_;simp only[gI,t9];rcases h0 with bz|⟨p,aF⟩
 ·simp only[bz];refine a8<|wu hit rfl Z7<|a8 ?_;have F4:=qV (Obj.mapFields (·.setIfInBounds 0 (gI 0))) hit rfl;refine wu F4 rfl Z7 (Qr (by simpa using bp) λe h' b8 HQ=>?_);refine a8<|Hm (T:="StopIteration") (b:=Y0) HQ isSubtype_stop<|bZ (ak bz h' λb o nb z=>b8 b o ?_);rw[(Heap.SameBut.update _ I _).2 b nb,(Heap.SameBut.update s.Q I _).2 b nb];exact z
 ·obtain⟨fm,x,e,k⟩:=af p aF;simp only[aF,gI,t9];unfold setNextDrawn;refine a8<|a8<|yO aZ lj g.fit ?_;dsimp only;rw[Y3 Z7,e];refine bZ<|a8<|wu hit rfl Z7<|bZ ⟨_,rfl,bZ<|k _ ?_<|Heap.SameBut.update ..⟩;exact qV _ hit rfl
end
end bj.bO
end
section
set_option maxHeartbeats 1000000
namespace bj.bO
open PySem PySem.Spec PyProof.Rows
theorem J0{α:Type}:∀{l:List α} {i:Nat} (h:i<l.H),(l[i]::l.eraseIdx i).Perm l
 |[],i,h=>by simp at h
 |x::l,0,h=>.refl _
 |x::l,i+1,h=>by rw[List.getElem_cons_succ,List.eraseIdx_cons_succ];exact(List.Perm.swap _ _ _).trans ((J0<|by simpa using h).cons x)
theorem Qu{α:Type}(f:Nat->Nat):∀(fuel k:Nat) (left:List α) (out:Array α),fuel=left.H->(pickOrder.go f fuel k left out).toList.Perm (out.D++left)
 |0,k,left,out,h=>by have:left=[]:=GD.mp h.symm;subst this;unfold pickOrder.go;simp
 |fuel+1,k,left,out,h=>by unfold pickOrder.go;have aB:f k%left.H<left.H:=Nat.mod_lt _<|qT<|d1 h;rw[hh aB];dsimp only;refine(Qu f fuel (k+1) _ _<|by rw[Ms aB];lia).trans ?_;rw[B4,h6];exact List.Perm.append_left _<|J0 aB
def J1{α:Type}(f:Nat->Nat)(xs:Array α):(sj f xs).toList.Perm xs.D:=by have:=Qu f xs.O 0 xs.D #[] Z7;simpa[sj]using this
section
variable {prog:dx}{w:c3}{A:dH}{E:mt->aR->Prop}{s:aR}{I a:Addr}{es:Array<|Int×mt}{ep i:Nat}{t:pS}
def acn{n:Nat}{Q:Nat->aR->Prop}(bz:n≠0)(h:∀k d,k<n->Q k { s with drawn:=d}):bl Z9 A (choose src n) Q E s:=by intro Γ p Wk;show Sem.wp _ _ (.choose src n _) _ _ _ _;rw[Sem.wp_choose];refine⟨bz,?_⟩;exact bZ (h _ _<|Nat.mod_lt _<|kf bz) Γ p Wk
theorem Qw{α:Type}:∀(n:Nat) (xs:List α) (s:aR) (Q:List α->aR->Prop),n=xs.H->(∀l d,l.Perm xs->Q l { s with drawn:=d})->bl (bg prog w) A (drawOrder n xs) Q E s
 |0,xs,s,Q,e,h=>by have:xs=[]:=GD.mp e.symm;subst this;unfold drawOrder;exact bZ<|h [] s.drawn<|.refl _
 |n+1,[],s,Q,e,h=>by exists e
 |n+1,x::xs,s,Q,e,h=>by unfold drawOrder;refine a8 (acn Z7 λk d aW=>?_);rw[hh aW];dsimp only;refine a8 (Qw n _ _ _ (by rw[Ms aW];exact Nat.add_right_cancel e) λl d' p=>bZ ?_);exact h _ d'<|(p.cons _).trans (J0 aW)
def Qx:Slot "set_iterator" "__iter__" "set_iterator.__iter__" :=
 .of (owner:="set_iterator") (n:="__iter__") (by rw[Cb,B7];kernel_rfl) (by decide+kernel) (by decide+kernel) (by decide+kernel) (by first|exact .inl (by decide+kernel)|exact .inr<|by decide+kernel) (by rw[yS];kernel_rfl)
def ama(a:mt):qY "set_iterator.__iter__" ⟨[a],[]⟩:=by unfold qY;rw[signature?_of (id:="set_iterator.__iter__") (n:=['_','_','r','e','t','i','_','_']) (o:=['r','o','t','a','r','e','t','i','_','t','e','s']) (by kernel_rfl) UZ];kernel_rfl
def aco:yV table "set_iterator.__iter__" = J Builtin.«dict_keyiterator.__iter__»:=entryFor_alias (id':="dict_keyiterator.__iter__") (by kernel_rfl) rfl (by decide+kernel) (by kernel_rfl)
def J2{o:Obj}{Q:mt->aR->Prop}(aZ:s.heap.get? I=J o)(aT:o.cls=.type "set_iterator")(h:Q (.ref I) s):bl Z9 A (l9<|.ref I) Q E s:=by
 have gs:s.TypeIs (.ref I) "set_iterator":=⟨_,aZ,aT⟩
 refine wpAny_pyIter_slot gs Qx<|sg Qx gs aco (show bl _ _ (ret<|.ref I) _ _ s from ?_)<|ama _;exact bZ ⟨_,rfl,"set_iterator",_,gs,tn.lookup,h⟩
noncomputable def slotAt(cQ:Array Nat):Nat->Nat
 |0=>0
 |i+1=>cQ.getD i 0+1
def Qy(aV:pH cQ)(hi:i<=cQ.O):SetTable.below cQ (slotAt cQ i)=i:=by
 cases i with
 |zero=>exact aca aV
 |succ i =>
  have h:i<cQ.O:=hi;have e:slotAt cQ (i+1)=cQ[i]+1:=by unfold slotAt;simp[Array.getD,h]
  rw[e];exact ab9 aV h
def acp(aq:mv w=Y1)(aV:pH t.place)(hd:(!t.plain&&decide (es.O>1))=Y1)(bp:A.handled=C)(AF:I≠a) :
  Walks prog w A I [I,a] [I] es.O (λi v=>(es.toList.map (·.2))[i]?=J v) (λi h=>h.get? I=J (qy (gI<|slotAt t.place i) i a es.O ep)/\kF prog w h a es ep t) where
 sub:=λb aq=>by simp at aq;simp[aq]
 frame:=λi h h' st k=>⟨k I Z7 _ st.1,st.2.kept λo z=>k a Z7 o z⟩
 item:=λi s Q E hi st hC=>by
  have hsz:t.place.O=es.O:=by have:=st.2.fit;simp[SetTable.fits]at this;exact this.1
  have aF:i<t.place.O:=(d4 hi<|d1 hsz.symm)
  refine Em (r:=J (es[i].2,t.place[i]+1)) bp st.1 st.2 (λA' oV e8 q=>El st.2 (λ_=>hd) rfl (λz=>by rw[aq]at z;exists z) λ_=>?_) (λx bD e h' af cV=>?_) λz=>by exists z
  ·rw[Qy aV<|ez aF,t8 hi,t8 aF];exact q
  ·exists e
   refine hC _ h' s.toks (by simp[hi]) ⟨?_,st.2.kept λo z=>by rw[cV.2 a<|Ne.symm AF];exact z⟩ λb o nb z=>by rw[cV.2 b<|by simpa using nb];exact z
   rw[af];simp[slotAt,Array.getD,aF]
 done:=λs Q E st hC=>by
  have hsz:t.place.O=es.O:=by have:=st.2.fit;simp[SetTable.fits]at this;exact this.1
  refine Em (r:=C) bp st.1 st.2 (λA' oV e8 q=>El st.2 (λ_=>hd) rfl (λz=>by rw[aq]at z;exists z) λ_=>?_) (λx bD e=>by exists e) λ_ h' b8=>hC h' s.toks λb o nb z=>b8 b o (by simpa using nb) z;rw[Qy aV<|d1 hsz.symm,M1<|cg _];exact q
 self:=λ_ s Q E st hC=>J2 st.1 rfl hC
def acq(aq:mv w=Y0)(bp:A.handled=C)(AF:I≠a) :
  Walks prog w A I [I,a] [I] es.O (λi v=>((sj (w.params.setOrder a ep) es).toList.map (·.2))[i]?=J v) (λi h=>h.get? I=J (qy (gI (0:Nat)) i a es.O ep)/\kF prog w h a es ep t) where
 sub:=λb aq=>by simp at aq;simp[aq]
 frame:=λi h h' st k=>⟨k I Z7 _ st.1,st.2.kept λo z=>k a Z7 o z⟩
 item:=λi s Q E hi st hC=>by
  have eR:(sj (w.params.setOrder a ep) es).O=es.O:=by have:=(J1 (w.params.setOrder a ep) es).length_eq;simpa using this
  have aF:i<(sj (w.params.setOrder a ep) es).O:=(d4 hi<|d1 eR.symm)
  refine Em (r:=J ((sj (w.params.setOrder a ep) es)[i].2,0)) bp st.1 st.2 (λA' oV e8 q=>El st.2 (λz=>by rw[aq]at z;exists z) rfl (λ_=>?_) λz=>by rw[aq]at z;exists z) (λx bD e h' af cV=>?_) λz=>by exists z
  ·rw[t8 aF];exact q
  ·exists e
   exact hC _ h' s.toks (by simp[aF]) ⟨af,st.2.kept λo z=>by rw[cV.2 a<|Ne.symm AF];exact z⟩ λb o nb z=>by rw[cV.2 b<|by simpa using nb];exact z
 done:=λs Q E st hC=>by
  have eR:(sj (w.params.setOrder a ep) es).O=es.O:=by have:=(J1 (w.params.setOrder a ep) es).length_eq;simpa using this
  refine Em (r:=C) bp st.1 st.2 (λA' oV e8 q=>El st.2 (λz=>by rw[aq]at z;exists z) rfl (λ_=>?_) λz=>by rw[aq]at z;exists z) (λx bD e=>by exists e) λ_ h' b8=>hC h' s.toks λb o nb z=>b8 b o (by simpa using nb) z;rw[M1<|d1 eR];exact q
 self:=λ_ s Q E st hC=>J2 st.1 rfl hC
def acr{tp:Addr}{l:List Nat}(aB:l.Perm<|List.range es.O)(bp:A.handled=C)(AF:I≠a)(acs:I≠tp) :
  Walks prog w A I [I,a,tp] [I] es.O (λi v=>(l.map λp=>((es[p]?).map (·.2)).getD .none)[i]?=J v) (λi h=>h.get? I=J (qy (.ref tp) i a es.O ep)/\kF prog w h a es ep t/\∃m,h.get? tp=J { cls:=.type "tuple",data:=.seq (l.map λ(i:Nat)=>gI i).B m}) where
 sub:=λb aq=>by simp at aq;simp[aq]
 frame:=λi h h' st k=>⟨k I Z7 _ st.1,st.2.1.kept λo z=>k a Z7 o z,let ⟨m,z⟩:=st.2.2;⟨m,k tp Z7 _ z⟩⟩
 item:=λi s Q E hi st hC=>by
  obtain⟨s1,s2,m,s3⟩:=st;have xK:l.H=es.O:=by rw[aB.length_eq];simp
  have AG:i<l.H:=(d4 hi<|d1 xK.symm)
  have dC:l[i]<es.O:=by simpa using aB.mem_iff.mp<|oy AG
  have aF:(l.map λ(i:Nat)=>gI i).B[i]?=J (gI l[i]):=by simp[AG]
  refine Qt bp s1 s2 s3 rfl rfl (λp e=>?_) (.inr ⟨_,aF⟩) λz=>by rw[aF]at z;exists z
  rw[aF]at e;have e:((l[i]:Nat):Int)=p:=by simpa[gI]using e
  have e:l[i]=p:=by lia
  subst e;refine⟨es[l[i]].1,es[l[i]].2,by simp[dC],λh' af cV=>hC _ h' s.toks (by simp[AG,dC]) ⟨af,s2.kept λo z=>by rw[cV.2 a<|Ne.symm AF];exact z,m,by rw[cV.2 tp<|Ne.symm acs];exact s3⟩ λb o nb z=>by rw[cV.2 b<|by simpa using nb];exact z⟩
 done:=λs Q E st hC=>by
  obtain⟨s1,s2,m,s3⟩:=st;have xK:l.H=es.O:=by rw[aB.length_eq];simp
  have aF:(l.map λ(i:Nat)=>gI i).B[es.O]?=C:=by simp[xK]
  exact Qt bp s1 s2 s3 rfl rfl (λp e=>by rw[aF]at e;exists e) (.inl aF) λ_ h' b8=>hC h' s.toks λb o nb z=>b8 b o (by simpa using nb) z
 self:=λ_ s Q E st hC=>J2 st.1 rfl hC
end
end bj.bO
end
section
set_option maxHeartbeats 1000000
namespace bj.bO
open PySem PySem.Spec PyProof.Rows
section
variable {prog:dx}{w:c3}{A:dH}{E:mt->aR->Prop}{s:aR}{a:Addr}{es:Array<|Int×mt}{ep:Nat}{t:pS}
def ag3(prog:dx)(w:c3)(s:aR)(a:Addr)(us:List mt)(it:mt)(gT:aR):Prop :=
 ∃(ah:List mt) (I:Addr) (fp:List Addr) (St:Nat->Heap->Prop) (d:Drawn),it=.ref I/\ah.Perm us/\s.L<=I/\(∀b∈fp,b=a\/s.L<=b)/\(∀A',A'.handled=C->Walks prog w A' I fp [I] ah.H (λi v=>ah[i]?=J v) St)/\St 0 gT.Q /\
  (∀b o,s.heap.get? b=J o->gT.heap.get? b=J o)/\gT={ s with heap:=gT.Q,drawn:=d}
def Qz(h:b∈[n,a]):b=a\/n<=b:=by
 rcases d3.mp h with rfl|h
 ·exact .inr<|cg _
 ·exact .inl (by simpa using h)
def amb(g:kF prog w s.Q a es ep t):bl Z9 A (l9<|.ref a) (ag3 prog w s a<|es.toList.map (·.2)) E s:=by
 obtain⟨o,aZ,av,lj⟩:=g.obj;have gs:s.TypeIs (.ref a) "set":=⟨_,aZ,av.1⟩
 have ba:a<s.L:=d5 aZ;have hsz:t.place.O=es.O:=by have:=g.fit;simp[SetTable.fits]at this;exact this.1
 refine wpAny_pyIter_slot gs F.slot_set_iter<|sg F.slot_set_iter gs acj ?_<|F.args_set_iter_1 _;unfold Builtin.«frozenset.__iter__»;refine a8 (m:=Builtin.Frozenset.slot0 _ _)<|bZ<|a8 ?_;unfold Builtin.Frozenset.sizeOf;refine a8<|Hh aZ lj g.fit<|bZ<|a8 ?_;unfold setDrawn setsByText;refine a8<|yO aZ lj g.fit ?_;dsimp only;refine a8<|a8<|yQ<|bZ<|bZ ?_;show bl _ _ (if(!mv w&&(!t.plain&&decide (es.O>1)))=Y0 then _ else _) _ _ s;cases aq:mv w with
 |true =>
  rw[Y3 Z7];refine a8<|bZ<|a8<|Hk aZ lj g.fit<|a8<|kP<|bZ ⟨_,rfl,"set_iterator",_,⟨_,gB _ rfl,rfl⟩,tn.lookup,?_⟩;have aF:=(J1 (w.params.setOrder a ep) es).map (·.2);refine⟨_,s.L,[s.L,a],λi h=>h.get? s.L=J (qy (gI (0:Nat)) i a es.O ep)/\kF prog w h a es ep t,s.drawn,rfl,aF,cg _,λb mu=>Qz mu,λA' bp=>?_,⟨gB _ rfl,g.kept λo z=>ec _ z⟩,λb o z=>ec _ z,rfl⟩;have W:=acq (prog:=prog) (es:=es) (t:=t) (ep:=ep) aq bp<|pQ ba;rw[aF.length_eq];simpa using W
 |false =>
  cases hd:(!t.plain&&decide (es.O>1)) with
  |false =>
   rw[Y3 Z7];refine a8<|bZ<|a8<|Hk aZ lj g.fit<|a8<|kP<|bZ ⟨_,rfl,"set_iterator",_,⟨_,gB _ rfl,rfl⟩,tn.lookup,?_⟩;have aV:pH t.place:=by
    cases eR:t.plain with
    |true=>exact g.good.rise eR
    |false =>
     rw[eR]at hd;intro i j hi bU jF;have:¬es.O>1:=by simpa using hd
     omega
   refine⟨_,s.L,[s.L,a],λi h=>h.get? s.L=J (qy (gI<|slotAt t.place i) i a es.O ep)/\kF prog w h a es ep t,s.drawn,rfl,.refl _,cg _,λb mu=>Qz mu,λA' bp=>?_,⟨gB _ rfl,g.kept λo z=>ec _ z⟩,λb o z=>ec _ z,rfl⟩;have W:=acp (prog:=prog) (es:=es) (t:=t) (ep:=ep) aq aV hd bp<|pQ ba;simpa using W
  |true =>
   rw[Y2 Z7];refine a8 (Qw es.O (List.range es.O) s _ Z7 λl d aB=>?_);have xK:l.H=es.O:=by rw[aB.length_eq];simp
   refine a8 (wpAny_newTuple ?_<|by rw[cP,xK];exact yP g.bd);have g2:kF prog w (s.heap.push<|i4 "tuple" (l.map λ(i:Nat)=>gI i).toArray 0) a es ep t:=g.kept λo z=>ec _ z;obtain⟨i8,o9,QA,agl⟩:=g2.obj;refine a8<|Hk o9 agl g.fit<|a8<|kP<|bZ ⟨_,rfl,"set_iterator",_,⟨_,gB _ rfl,rfl⟩,tn.lookup,?_⟩;have aF:(l.map λp=>((es[p]?).map (·.2)).getD .none).Perm (es.toList.map (·.2)):=by
    refine(aB.map _).trans ?_;have:(List.range es.O).map (λp=>((es[p]?).map (·.2)).getD .none)=es.toList.map (·.2):=by
     refine List.ext_getElem Z7 λi af ak=>?_;have:i<es.O:=by simpa using af
     simp[this]
    rw[this]
   refine⟨_,(s.heap.push<|i4 "tuple" (l.map λ(i:Nat)=>gI i).toArray 0).E.O,[(s.heap.push<|i4 "tuple" (l.map λ(i:Nat)=>gI i).toArray 0).E.O,a,s.L],λi h=>h.get? (s.heap.push<|i4 "tuple" (l.map λ(i:Nat)=>gI i).toArray 0).E.O=J (qy (.ref s.L) i a es.O ep)/\kF prog w h a es ep t/\∃m,h.get? s.L=J { cls:=.type "tuple",data:=.seq (l.map λ(i:Nat)=>gI i).B m},d,rfl,aF,by rw[nv];exact t6 _,λb mu=>?_,λA' bp=>?_,⟨gB _ rfl,g2.kept λo z=>ec _ z,0,ec _<|gB _ rfl⟩,λb o z=>ec _<|ec _ z,rfl⟩
   ·simp at mu;rcases mu with z|z|z
    ·right;rw[z];exact t6 _
    ·exact .inl z
    ·right;rw[z];exact cg _
   ·have W:=acr (prog:=prog) (w:=w) (es:=es) (t:=t) (ep:=ep) aB bp (I:=(s.heap.push<|i4 "tuple" (l.map λ(i:Nat)=>gI i).toArray 0).E.O) (a:=a) (tp:=s.L) (by rw[nv];exact pQ<|oB ba) (by rw[nv];exact pQ<|oC _);rw[cP,xK];exact W
def akp:typeLookup (.type "set") "__len__" = pure (J<|.builtin "set.__len__"):=by rw[Cb,B7];kernel_rfl
def amc(gs:s.TypeIs (.ref a) "set"){Q:Bool->aR->Prop}(h:Q Y1 s):bl Z9 A (Builtin.List.listLengthHint<|.ref a) Q E s:=by unfold Builtin.List.listLengthHint;refine a8<|wpAny_specialOf gs akp ?_;generalize QB:("set.__len__" : String)=En;wp_delta;rw[show splitId En=J ("set","__len__") from by subst QB;decide+kernel];subst QB;refine a8<|Hm (T:="set") (b:=Y0) gs (by rw[yS];kernel_rfl) ?_;refine Hn (λz=>absurd z Z0) λ_=>Hn (λ_=>a8<|si gs<|bZ h) λz=>absurd (by decide+kernel) z
def acu(bp:A.handled=C)(g:kF prog w s.Q a es ep t)(cc:Addr)(QC:cc≠a)(res:mt)(c₀:Nat)(fw:s.heap.get? cc=J { cls:=.type "list",data:=.seq #[] c₀})
  (gY:∀h' bx d acc c ah,(∀b o,b≠cc->s.heap.get? b=J o->h'.get? b=J o)->h'.get? cc=J { cls:=.type "list",dict:=C,data:=.seq acc c,slots:=#[]}->ah.Perm (es.toList.map (·.2))->acc.D=ah->R (.ok<|.ret res) { s with heap:=h',toks:=bx,drawn:=d}) :
  bl Z9 A.in1 (Builtin.List.listExtendWith (.ref cc) (.ref a) res)
   (λfin s'=>match fin with|.done f=>R (.ok f) s'|.again cH=>cH.quiet=Y0/\ki Z9 A cH R s') (λe s'=>R (.error e) s') s:=by
 obtain⟨o,aZ,av,lj⟩:=g.obj;have gs:s.TypeIs (.ref a) "set":=⟨_,aZ,av.1⟩
 have acv:=d5 fw;unfold Builtin.List.listExtendWith;refine a8<|si (T:="set") gs ?_;simp only[show Builtin.List.listSameRef (.ref cc) (.ref a)=Y1 from by simp[Builtin.List.listSameRef,QC],show(Value.type "set" == Value.type "list")=Y1 from by decide,show(Value.type "set" == Value.type "tuple")=Y1 from by decide,Bool.or_false,jm,if_false];refine a8 (hj (amb g) (λit gT z=>?_) λ_ _ e=>e);obtain⟨ah,I,fp,St,d,rfl,aF,p3,rx,jA,st,b8,Wl⟩:=z;obtain⟨Nm,anw,anx,k₂,anz⟩:=gT
 exists Wl
 have Ek:cc∉fp:=λz=>by rcases rx cc z with q|q;exact QC q;exact absurd acv<|G8.mpr q
 have W:=jA A.in1 bp;have J3:ah.H<=dg:=by rw[aF.length_eq];simp;exact yP g.bd
 have J4:=b8 cc _ fw;have key:∀(h:Heap) (c₁ bx:Nat),St 0 h->(∀b o,b≠cc->s.heap.get? b=J o->h.get? b=J o)->h.get? cc=J { cls:=.type "list",data:=.seq #[] c₁}->ki Z9 A (.builtin "list.extend.loop" ⟨[.ref cc,.ref I,res],[]⟩) R { s with heap:=h,toks:=bx,drawn:=d}:=by
  intro h c₁ bx jB aW J5;refine codeAny_extend_loopS W.toS J3 cc Ek res ah.H 0 _ #[] c₁ rfl (gG _) jB J5 (ItemsOf.nil _) λs' tM cH hm acw TY=>?_;have e:=Moved.eq_with hm;rw[e];refine gY s'.Q s'.toks d tM cH ah (λb o nb z=>hm.heap b o (λq=>?_)<|aW b o nb z) acw aF ?_
  ·rcases d3.mp q with q|q
   ·exact nb q
   ·have dC:=d5 z;have q:b=I:=by simpa using q
    rw[q]at dC;exact absurd dC<|G8.mpr p3
  ·refine List.ext_getElem? λi=>?_;by_cases hi:i<tM.O
   ·have:=TY.2 i tM[i] (by simp[hi]);rw[this,lB];simp[hi]
   ·have af:tM.D[i]?=C:=by simp;exact hR hi
    have ak:ah[i]?=C:=by have:=TY.1;simp;exact bP (d1 this.symm)<|hR hi
    rw[af,ak]
 refine a8<|jo<|amc (let ⟨o,z,q⟩:=gs;⟨o,b8 a o z,q⟩) ?_;refine Hn (λ_=>?_) λ_=>bZ ⟨oF PySem.F.plain_extend_loop _,key _ c₀ _ st (λb o _ z=>b8 b o z) J4⟩;refine a8<|l7<|a8 (show bl _ _ (updateSeq cc (·.push .none) >>= λ_=>updateSeq cc (·.pop)) _ _ _ from ?_);have bb:=qV (Obj.mapSeq (·.push Value.none)) J4 rfl;have cK:=qV (Obj.mapSeq (·.pop)) bb rfl;refine a8<|ud J4 rfl<|ud (hz:=by seq_fits) bb rfl<|bZ ⟨oF PySem.F.plain_extend_loop _,key _ _ _ ?_ (λb o nb z=>?_) cK⟩
 ·refine W.frame 0 _ _ st λb aq o z=>?_;have nb:b≠cc:=λq=>Ek<|q▸aq;exact(t7 _ _<|Ne.symm nb).trans ((t7 _ _<|Ne.symm nb).trans z)
 ·exact(t7 _ _<|Ne.symm nb).trans ((t7 _ _<|Ne.symm nb).trans (b8 b o z))
def acx(bp:A.handled=C)(g:kF prog w s.Q a es ep t)
  (h:∀h' bx d ah,ZX->ah.Perm (es.toList.map (·.2))->R ah { s with heap:=h',toks:=bx,drawn:=d}):bl (bg prog w) A (collect (.ref a)) R E s:=by
 obtain⟨o,aZ,av,lj⟩:=g.obj;have ba:=d5 aZ;unfold collect;refine a8<|Hp<|pR PyProof.Rows.entry_proto_collect' ?_;rw[Around.under_plainId PySem.F.plain_proto_collect _];refine(show bl _ A.in1 (newList [] >>= λl=>again<|.builtin "list.__iadd__" ⟨[l,.ref a],[]⟩) _ _ s from a8<|kP<|bZ ⟨oF PySem.F.plain_list_iadd _,pR PyProof.Rows.entry_list_iadd' ?_⟩);rw[Around.under_plainId PySem.F.plain_list_iadd _];have J5:(s.heap.push { cls:=.type "list",data:=.seq ([]:List mt).B}).get? s.L=J { cls:=.type "list",data:=.seq #[]}:=gB _ rfl;have key:=acu (A:=A) (s:={ s with heap:=s.heap.push { cls:=.type "list",data:=.seq ([]:List mt).B}})
  (R:=λ(q:sq) (s':aR)=>∃h' bx d acc c ah,q=.ok (.ret<|.ref s.L)/\s'={ s with heap:=h',toks:=bx,drawn:=d}/\(∀b o,s.heap.get? b=J o->h'.get? b=J o)/\h'.get? s.L=J { cls:=.type "list",dict:=C,data:=.seq acc c,slots:=#[]}/\ah.Perm (es.toList.map (·.2))/\acc.D=ah)
  bp (g.kept λo z=>ec _ z) s.L (pQ ba) (.ref s.L) 0 J5
  (λh' bx d acc c ah k1 k2 k3 zg=>⟨h',bx,d,acc,c,ah,rfl,rfl,λb o z=>k1 b o (bv<|d5 z)<|ec _ z,k2,k3,zg⟩)
 have fin:∀{q:sq} {s':aR},(∃h' bx d acc c ah,q=.ok (.ret<|.ref s.L)/\s'={ s with heap:=h',toks:=bx,drawn:=d}/\ZX/\h'.get? s.L=J { cls:=.type "list",dict:=C,data:=.seq acc c,slots:=#[]}/\ah.Perm (es.toList.map (·.2))/\acc.D=ah)->True:=λ_=>trivial;refine hj key (λf s' x=>?_) λe s' x=>?_
 ·cases f with
  |done f =>
   obtain⟨h',bx,d,acc,c,ah,e,rfl,k1,k2,k3,rfl⟩:=x
   exists e
   exact(show bl _ A (load s.L >>= _) _ _ _ from a8<|wpAny_load k2<|bZ<|h h' bx d _ k1 k3)
  |again c₁ =>
   refine⟨x.1,sh x.2 λq gT y=>?_⟩;obtain⟨h',bx,d,acc,c,ah,rfl,rfl,k1,k2,k3,rfl⟩:=y;exact(show bl _ A (load s.L >>= _) _ _ _ from a8<|wpAny_load k2<|bZ<|h h' bx d _ k1 k3)
 ·obtain⟨_,_,_,_,_,_,bN,_⟩:=x
  exists bN
end
end bj.bO
end
namespace bj.bO
open PySem PySem.Spec PyProof.Rows bj.Tm
def _root_.bj.aS.akq(I:aS X ae O H s)(d:Drawn):aS X ae O H { s with drawn:=d}:=⟨I.ok,I.os,I.ft,I.V,I.loc,I.cell,I.free,I.kI,I.pin,I.b1,I.len⟩
theorem Eo(x:Int):∀ns:List Int,x∈hY ns↔x∈ns
 |[]=>by simp[hY]
 |n::ns=>by
  have a4:=Eo x ns;unfold hY at a4 |-;rw[BR];split
  ·rename_i h;rw[a4,d3];exact⟨.inr,λz=>z.elim (λe=>by rw[e];exact(Eo n ns).mp h) id⟩
  ·rw[d3,d3,a4]
theorem AH:∀ns:List Int,(hY ns).Nodup
 |[]=>by simp[hY]
 |n::ns=>by
  have a4:=AH ns;unfold hY at a4 |-;rw[BR];split
  ·exact a4
  ·rename_i h;exact nq.mpr ⟨h,a4⟩
section
variable {X:bI}{tw:Addr}
def QD{e:Expr}{d:bM}{B:aJ}{S:bE}{n aM:Nat}{ns:List Int}{aA:List T}{ae:List Z1}{s:aR}{O:St}{H:aJ}{Q:mt->aR->Prop}{c7 mC:Pos}(bp:X.A.handled=C)(h:bF X tw e d)(rB:X.a3 "set" = C)(AI:fv X "set")(lg:b4 [e] X.I=ZG::b4 [] X.I)
  (az:aa d ar S n=J (aA,aM)) (hi:rp aM aA=J ns) (I:aS X ae O H s) (R:dr X.K B tw S n O H)
  (k:∀s' aj a dc,aS X ae O aj s'->dn tw H aj->dr X.K B tw S aM O aj->om X.R X.w s'.Q a dc->dc.Perm (hY ns)->Q (.ref a) s') :
  bl Z2 X.A (eval (.Call (.Name "set" c7) [e] [] mC) X.I) Q X.cv s:=by
 refine l5<|k7 I AI rB boot_set ?_ Z0 Z0;refine PyProof.Rows.callWith_type1 ?_ lg rfl;rw[lg];obtain⟨⟨to,mo,no⟩,f1,f2⟩:=cn az
 exists f2
 refine h9 (b2 (h.run f1 I R) λu s1 ⟨v,H1,bf,bA,a1,bt,b6⟩=>l4 ?_);have aU:=b6.root bt R.aQ;have fin:∀{c:String} {l:Addr} {ol:Obj} {items:Array mt} {nl:Nat},(c = "list" \/ c = "tuple")->s1.heap.get? l=J ol->ol.cls=.type c->ol.d=.seq items nl->g9 items.D ns->ns.H+1<4096->bl Z2 X.A (call (.type "set") [.ref l]) Q X.cv s1:=λaT aZ mZ hd p3 aq=>by
  refine aiJ aT bp aZ mZ hd p3 (by unfold nB;exact aq) λh' bx dc g m b8=>?_;have cR:aS X ae O H1 { s1 with heap:=h',toks:=bx}:=bf.kept b8;have bW:dc.Nodup:=by obtain⟨_,_,_,_,_,z⟩:=g;exact z
  exact k _ H1 _ dc cR a1 bt g ((Mt bW<|AH ns).mpr λx=>by rw[m x,Eo])
 match to,hi,aU with
 |.ao xs,hi,aU =>
  obtain⟨acy,af,ak⟩:=cn (show(e2 xs).bind _=_ from hi);split at ak
  ·rename_i aq
   exists ak
   obtain⟨l,ah,rfl,gh,iy⟩:=aU
   exists bA
   have av:=qu af;subst av;cases xl iy;obtain⟨a5,bq,cQ,hz⟩:=bf.list gh.gh;obtain⟨o,aZ,aT,m,hd⟩:=cQ.isList;exact fin (.inl rfl) aZ aT hd (by simpa using qm bq) aq
  ·exists ak
 |.aD xs,hi,aU =>
  obtain⟨acy,af,ak⟩:=cn (show(e2 xs).bind _=_ from hi);split at ak
  ·rename_i aq
   exists ak
   obtain⟨l,ah,rfl,cu,iy⟩:=ku aU
   exists bA
   have av:=qu af;subst av;cases xl iy;obtain⟨a5,bq,⟨o,aZ,aT,m,hd⟩,hz⟩:=bf.tuple<|e5.of (K:=X.K) cu;exact fin (.inr rfl) aZ aT hd (by simpa using qm bq) aq
  ·exists ak
def acz{e:Expr}{d:bM}{p c7 pos mC:Pos}(bp:X.A.handled=C)(h:bF X tw e d)(hm:X.a3 "len" = C)(rB:X.a3 "set" = C)(bT:autoParam (fv X "len") bu)(AI:autoParam (fv X "set") bu)(lg:autoParam (b4 [e] X.I=ZG::b4 [] X.I) bu)
  (he:autoParam (b4 [.Call (.Name "set" c7) [e] [] mC] X.I=(Y1,eval (.Call (.Name "set" c7) [e] [] mC) X.I)::b4 [] X.I) bu) :
  bF X tw (.Call (.Name "len" p) [.Call (.Name "set" c7) [e] [] mC] [] pos) (aH Pb<|aa d ar):=by
 intro B S n t kj n' hd ae s O H Q I ⟨R,k⟩;obtain⟨⟨aA,aM⟩,az,au⟩:=cn hd;obtain⟨⟨t1,cS⟩,a6,bX⟩:=dw au;cases bX;obtain⟨ns,hi,eQ⟩:=dw (show(rp aM aA).map _=_ from a6);cases eQ;refine l5<|k7 I bT hm boot_len ?_ Z0 Z0;refine PyProof.Rows.callWith_builtin1 (Q:=f5 X ae O Q) ?_ he rfl;rw[he];refine h9 (QD bp h rB AI lg az hi I R λs1 H1 a dc bf bH bt g HS=>l4 ?_);obtain⟨es,ep,tt,g1,g2,g3⟩:=g;obtain⟨o,aZ,av,lj⟩:=g1.obj;have aB:es.O=(hY ns).H:=by rw[<-HS.length_eq,<-g2.H];simp
 have aq:=g1.bd;have lb:nB=4096:=rfl;refine call_len_set aZ av lj g1.fit (by omega) ⟨.int (hY ns).H,H1,bf.tok _,⟨_,by rw[aB]⟩,k _ _ bH bt.aQ ?_⟩;show aI tw H1 (.int _) _;rw[aI]
def acA{e:Expr}{d:bM}{p c7 pos mC:Pos}(bp:X.A.handled=C)(h:bF X tw e d)(hm:X.a3 "sorted" = C)(rB:X.a3 "set" = C)(bT:autoParam (fv X "sorted") bu)(AI:autoParam (fv X "set") bu)(lg:autoParam (b4 [e] X.I=ZG::b4 [] X.I) bu)
  (he:autoParam (b4 [.Call (.Name "set" c7) [e] [] mC] X.I=(Y1,eval (.Call (.Name "set" c7) [e] [] mC) X.I)::b4 [] X.I) bu) :
  bF X tw (.Call (.Name "sorted" p) [.Call (.Name "set" c7) [e] [] mC] [] pos) (aH DF<|aa d ar):=by
 intro B S n t kj n' hd ae s O H Q I ⟨R,k⟩;obtain⟨⟨aA,aM⟩,az,au⟩:=cn hd;obtain⟨⟨t1,cS⟩,a6,bX⟩:=dw au;cases bX;obtain⟨ns,hi,eQ⟩:=dw (show(rp aM aA).map _=_ from a6);cases eQ;refine l5<|k7 I bT hm yW ?_ Z0 Z0;refine PyProof.Rows.callWith_builtin1 (Q:=f5 X ae O Q) ?_ he rfl;rw[he];refine h9 (QD bp h rB AI lg az hi I R λs1 H1 a dc bf bH bt g HS=>l4 ?_);obtain⟨es,ep,tt,g1,g2,g3⟩:=g;refine JP (acx (A:=X.A.in1) bp g1.i λh' bx dd ah b8 CA=>?_);obtain⟨lR,aX,bb⟩:=JX g2 CA;have aB:ah.H<=dg:=by rw[CA.length_eq];simp;exact yP g1.bd
 refine⟨_,aB,λ_=>(P8 aX).at,λAz m4 uG kv av aF AB=>?_⟩;obtain⟨QE,QF⟩:=JQ (Ei aX) aF AB;have cR:aS X ae O H1 { s1 with heap:=h',toks:=bx,drawn:=dd}:=(bf.kept b8).akq dd;have hf:H1 h'.E.O=C:=cR.b1.fresh<|cg _;obtain⟨Ej,eU,fL⟩:=JX aX QE;have acB:Ej=sortI (hY ns):=by
  have z:=Ei (h:=h') eU;rw[z,P7]at QF;have:Ej=sortI lR:=by have:=congrArg (List.map λl:List Int=>l.headD 0) QF;simpa[ci,Function.comp_def]using this
  rw[this];exact zW ((sortI_perm lR).trans (bb.trans HS))<|ro lR
 subst acB;have fT:=cR.laid (a:=h'.E.O) (o:=.ao<|(sortI<|hY ns).map V.int) (t':=bx) (h':=Az) kv (cg _) ⟨by rw[cP,<-eU.H,QE.length_eq];exact aB,(m4.map (·.2)).D,uG,PE eU,by rw[B2];exact av⟩;exact⟨.ref h'.E.O,_,fT,rfl,k _ _ (bH.trans<|.new hf) (bt.aQ.new hf) ⟨_,rfl,bH.free bt.aQ hf,_,fB,bR.ints _⟩⟩
end
end bj.bO
namespace bj.bO
open PySem PySem.Spec PyProof.Rows
section
variable {X:bI}{tw:Addr}
def akr{k:Nat}(a6:pD k [to]=J (t1,cS)):∃i,to=.int i/\t1=.int (-i)/\cS=.ag:=by
 match to,a6 with
 |.int i,a6=>exists a6;exact⟨i,rfl,rfl,rfl⟩
def QG{e:Expr}{d:bM}{pos:Pos}(h:bF X tw e d):bF X tw (.UnaryOp .USub e pos)<|aH pD<|aa d ar:=by intro B S n t kj n' hd ae s O H Q I ⟨R,k⟩;obtain⟨to,mo,f1,a6⟩:=DH hd;obtain⟨i,rfl,rfl,rfl⟩:=akr a6;refine Ue UK (h B S n (.int i) mo _ f1) ae s O H Q I ⟨R,λv aj x y z=>?_⟩;have:=iW<|z.root (R.mono x y) R.aQ;subst this;exact⟨i,rfl,k _ aj x y<|by show aI tw aj (.int _) _;rw[aI]⟩
theorem QH:∀bs:List Bool,((List.range bs.H).any λi=>bs.getD i Y1)=bs.any id
 |[]=>rfl
 |b::bs=>by rw[d8,GG,oz,GU,oz,<-QH bs];rfl
def aiK(aT:X.calm=Y0):fR X tw (λus=>call (.builtin "any") us) LX:=by
 intro B ae s O H ah us aA n t m Q I bq aU aQ e k;have bp:=I.ok.hd aT
 match aA,e with
 |[.ao xs],e =>
  obtain⟨bs,az,au⟩:=dw (show(hP xs).map _=_ from e)
  exists au
  obtain rfl:=JC az;obtain⟨v,rfl,r⟩:=iX aU;obtain⟨u,rfl,eV⟩:=bq.one;refine call_any_walk (b2 (Ad (A':=X.A.in1) bp I r eV rfl) λit gT ⟨oU,fp,wr,P,St,e,W,st,rx,e3,fin⟩=>?_);refine⟨oU,fp,wr,_,P,St,λi=>bs.getD i Y1,e,W,st,λi v s' e8 oV bS eM=>?_,λh' bx b8=>?_⟩
  ·rw[PA<|e3 i v bS];exact qW eM
  ·rw[cP,QH];exact⟨.aC _,H,fin h' bx b8,rfl,k _ H (.refl _ _) aQ<|by show aI tw H (.aC _) _;rw[aI]⟩
def AJ(h:g4 t=Y0)(r:aI tw H t v):ql v=Y0:=by
 cases t with
 |br=>rw[aI]at r;subst r;rfl
 |aC b=>rw[aI]at r;subst r;rfl
 |int i=>rw[aI]at r;subst r;rfl
 |str x=>rw[aI]at r;subst r;rfl
 |_=>exists h
def QI(h:g4 t=Y0)(h':g4 t'=Y0)(r:aI tw H t v)(b5:aI tw H t' hS):mj v hS=dU t t':=by
 cases t with
 |br=>cases t' with
  |br=>rw[aI]at r;rw[aI]at b5;subst r b5;rfl
  |aC b=>rw[aI]at r;rw[aI]at b5;subst r b5;rfl
  |int i=>rw[aI]at r;rw[aI]at b5;subst r b5;rfl
  |str x=>rw[aI]at r;rw[aI]at b5;subst r b5;rfl
  |_=>exists h'
 |aC b=>cases t' with
  |br=>rw[aI]at r;rw[aI]at b5;subst r b5;rfl
  |aC b=>rw[aI]at r;rw[aI]at b5;subst r b5;simp[mj,dU]
  |int i=>rw[aI]at r;rw[aI]at b5;subst r b5;simp[mj,dU]
  |str x=>rw[aI]at r;rw[aI]at b5;subst r b5;rfl
  |_=>exists h'
 |int i=>cases t' with
  |br=>rw[aI]at r;rw[aI]at b5;subst r b5;rfl
  |aC b=>rw[aI]at r;rw[aI]at b5;subst r b5;simp[mj,dU]
  |int i=>rw[aI]at r;rw[aI]at b5;subst r b5;simp[mj,dU]
  |str x=>rw[aI]at r;rw[aI]at b5;subst r b5;rfl
  |_=>exists h'
 |str x=>cases t' with
  |br=>rw[aI]at r;rw[aI]at b5;subst r b5;rfl
  |aC b=>rw[aI]at r;rw[aI]at b5;subst r b5;rfl
  |int i=>rw[aI]at r;rw[aI]at b5;subst r b5;rfl
  |str x=>rw[aI]at r;rw[aI]at b5;subst r b5;simp[mj,dU]
  |_=>exists h'
 |_=>exists h
theorem Ep:∀{xs:List T} {ah:List V},(xs.all g4)=Y0->bR tw H xs ah->ah.all ql=Y0
 |[],ah,_,r=>by cases jg r;rfl
 |x::xs,ah,h,r=>by obtain⟨v,w,rfl,p,q⟩:=hc r;rw[jT,f3]at h;rw[jT,AJ h.1 p,Ep h.2 q];rfl
theorem J6(aK:g4 y=Y0)(dW:aI tw H y z):∀{xs:List T} {ah:List V} {us:List mt},(xs.all g4)=Y0->bR tw H xs ah->cG ah us->us.map (jC z)=xs.map λx=>dU x y
 |[],ah,us,_,r,bq=>by cases jg r;exists bq;rfl
 |x::xs,ah,us,h,r,bq=>by
  obtain⟨v,w,rfl,p,q⟩:=hc r;rw[jT,f3]at h;cases bq with
  |cons bA cp=>rw[cU,cU,J6 aK dW h.2 q cp,IS bA<|AJ h.1 p,QI h.1 aK p dW]
def J7{K:W.Frag}{H:aJ}{t:T}{v:V}(h:g4 t=Y0)(r:eu K tw H t v):aI tw H t v:=by
 refine eu.rep ?_ r;cases t with
 |br=>rfl
 |aC b=>rfl
 |int i=>rfl
 |str x=>rfl
 |_=>exists h
def J8{us:List mt}{z:V}{xs:List T}{y:T}(h:us.map (jC z)=xs.map λx=>dU x y):us.countP (jC z)=tK xs y:=by
 have a:∀{α:Type} (f:α->Bool) (l:List α),l.countP f=(l.map f).countP id:=λf l=>by rw[List.countP_map];rfl
 rw[tK,a,h,<-a]
def acC{o e:Expr}{eP ic:bM}{apos eb:Pos}(aZ:bF X tw o eP)(he:bF X tw e ic)(m:Cp X o "count" apos e eb):bF X tw (.Call (.Attribute o "count" apos) [e] [] eb)<|aH I4<|aa eP<|aa ic ar:=by
 intro B S n t kj n' hd ae s O H Q I ⟨R,k⟩;obtain⟨to,mo,no,te,zd,f1,g1,a6⟩:=Jb hd;have⟨xs,mS,aK,av,dQ,em⟩:∃xs,to=.ao xs/\g4 te=Y0/\(xs.all g4)=Y0/\t=.int (tK xs te)/\kj=.ag:=by
  match to,a6 with
  |.ao xs,a6 =>
   have a6:(if g4 te=Y0/\(xs.all g4)=Y0 then J (T.int<|tK xs te,bo.ag) else C)=J (t,kj):=a6;split at a6
   ·rename_i h;exists a6;exact⟨xs,rfl,h.1,h.2,rfl,rfl⟩
   ·exists a6
 subst mS dQ em;refine yN m.V m.uX m.line PySem.F.plainAttrs_list PySem.F.slot_list_count PySem.F.type_list_count (b2 (aZ.run f1 I R) λu s1 ⟨v,H1,bf,bA,a1,bt,b6⟩=>?_);obtain⟨a,fI,rfl,cu,cM⟩:=b6.root bt R.aQ
 exists bA
 obtain⟨a5,o8,⟨fs,acD,lh,Ah,vb,_⟩,_⟩:=bf.list cu.gh;refine⟨⟨fs,lh,Ah⟩,λb e=>?_,?_⟩
 ·exists e;exact⟨fs,lh,vb⟩
 ·rw[m.trees];refine ua rfl<|ub<|h9 (b2 (he.run g1 bf bt) λiv s2 ⟨y,bV,cR,dW,a2,dj,dA⟩=>l4 ?_);have aU:=J7 aK<|dA.root dj bt.aQ;have vc:=cu.ext a2;have vk:=bR.mono (a2.b0 bt.aQ) _ _ cM;obtain⟨a5,lP,⟨⟨cls,dd,data,cX⟩,nn,aZ,aT,hd,kb⟩,_⟩:=cR.list vc.gh;simp only at aT kb
  subst aT kb
  have LY:=J8<|J6 aK aU av vk lP;refine nz PySem.F.slot_list_count ⟨_,aZ,rfl⟩ PySem.F.entry_list_count (PySem.F.args_list_count_2 _ _) (PySem.SeqAt.list_countAt a a5.B nn dd cX iv<|jC y) ⟨aZ,λw hw=>zS dW (AJ aK aU) lP (Ep av vk) w (by simpa using hw),?_⟩
  ·refine⟨.int _,bV,cR.tok _,⟨_,rfl⟩,?_⟩;show Q (.int ((List.countP (jC y) a5.B.D:Nat):Int)) bV;rw[show a5.B.D=a5 from rfl,LY];exact k _ bV (a1.trans a2) dj.aQ (by show aI tw bV (.int _) _;rw[aI])
end
end bj.bO
section
namespace bj.AK
open PySem PySem.Spec PyProof.Rows
section
variable {prog:dx}{w:c3}{A:dH}{E:mt->aR->Prop}{s:aR}
open fD in
def anl{lo hi:Option Int}(cA:IsTup s.Q t items)(aP:s.heap.IsSliceOf cX i5 i6 .none)(cQ:pU i5 lo)(pu:pU i6 hi)
  (hw:fD.dX items.O 0 lo=0/\fD.dX items.O items.O hi=items.O)
  (h:Q (.ref t) s):bl Z9 A (nC (.ref t)<|.ref cX) Q E s:=by
 obtain⟨os,mW,nQ,mi⟩:=id aP;have zR:s.TypeIs (.ref cX) "slice":=⟨os,mW,nQ⟩
 unfold nC
 try with_reducible refine jo ?_
 first|refine a8 (bZ ?_)|skip
 refine a8<|Hj cA.typeIs Z0 ?_
 refine a8 (yM (name:=Str.ofString "__getitem__") cA.typeIs PyProof.Rows.slot_tuple_getitem
  (sg PyProof.Rows.slot_tuple_getitem cA.typeIs Hs ?_<|Ht _ _))
 show bl _ _ (Builtin.Tuple.tupleItemsOf (.ref t) >>= _) _ _ s;refine a8<|Hu cA ?_;refine a8<|si zR ?_;rw[Y2 Z0];refine a8<|fD.VF aP cQ pu ?_;have agm:(((fD.dX items.O 0 lo:Nat):Int)==0&&(1:Int)==1&&(fD.dX items.O items.O hi-fD.dX items.O 0 lo)==items.O)=Y0:=by rw[hw.1,hw.2];simp
 show bl _ _ (if(((fD.dX items.O 0 lo:Nat):Int)==0&&(1:Int)==1&&(fD.dX items.O items.O hi-fD.dX items.O 0 lo)==items.O)=Y0 then _ else _) _ _ s;rw[Y2 agm];refine a8 ?_;unfold Builtin.Tuple.tupleIsExact;refine a8<|si cA.typeIs<|bZ ?_;rw[Y2 Z0]
 first
  |exact a8<|l7<|a8<|bZ ⟨_,rfl,bZ h⟩
  |exact a8<|l7<|bZ ⟨_,rfl,bZ h⟩
  |exact a8<|l7<|bZ<|bZ ⟨_,rfl,bZ h⟩
end
end bj.AK
namespace bj
open PySem PySem.Spec PyProof.Rows
section
variable {X:bI}
def ag4(K:W.Frag):V->Option Int->Option Int->aJ->fg->Prop:=λx lo hi H Q=>∃a xs,x=.ref a/\e5 K H a xs/\(fD.dX xs.H 0 lo=0/\fD.dX xs.H xs.H hi=xs.H)/\Q x H
def aks:sW X<|ag4 X.K:=by
 intro ae s O H x v i5 i6 lo hi cX Q I cF aP cQ pu h;obtain⟨a,xs,rfl,av,hw,q⟩:=h
 exists cF
 obtain⟨a5,r,cA,hz⟩:=I.tuple av;have ei:a5.B.O=xs.H:=by rw[eT];exact r.length.symm
 exact⟨"tuple",_,PyProof.Rows.slot_tuple_getitem.lookup,cA.typeIs,AK.anl cA aP cQ pu (by rw[ei];exact hw) ⟨.ref a,H,I,rfl,q⟩⟩
end
end bj
namespace bj.bO
open PySem PySem.Spec PyProof.Rows
section
variable {X:bI}{tw:Addr}
def aiL{e:Expr}{lo hi:Option Expr}{c7 pos:Pos}{d:bM}{dl NG:y3}(h:bF X tw e d)(aB:zc X tw lo dl)(bp:zc X tw hi NG):bF X tw (.Subscript e (.Slice lo hi C c7) pos)<|lW d dl NG:=by
 intro B S n t m n' hd ae s O H Q I ⟨R,k⟩;obtain⟨⟨t0,m0,n0⟩,az,au⟩:=cn hd;obtain⟨⟨l,aM⟩,a6,bX⟩:=cn au;obtain⟨⟨u,bC⟩,eQ,fN⟩:=cn bX;refine alD (ajO.or<|ah3.or aks) (h B S n t0 m0 n0 az) (aB B S n0 l aM a6) (bp B S aM u bC eQ) ae s O H Q I ⟨R,λv H1 bH fb cN=>?_⟩;have bt:=R.mono bH fb;refine⟨bt,λbV cf lH=>?_⟩;have dj:=bt.mono cf lH;refine⟨dj,λee bY nL=>?_⟩;have Af:=cf.trans bY;have aU:eu X.K tw ee t0 v:=eu.ext bt.aQ Af<|cN.root bt R.aQ;have Er:=bH.trans Af;cases t0 with
 |ao xs =>
  exists fN
  obtain⟨a,ah,rfl,cu,cM⟩:=aU;refine .inl ⟨a,ah,rfl,cu.gh,λp aF=>k _ _ (Er.trans<|.new aF) (nL.new aF) ⟨p,rfl,Er.free nL aF,_,fB,?_⟩⟩;unfold jj tJ;rw[ti,ti,cM.H];exact bR.take _<|bR.drop _<|bR.mono (.new aF) _ _ cM
 |aD xs =>
  exists fN
  obtain⟨a,ah,rfl,cu,cM⟩:=ku aU;by_cases hw:bound xs.H 0 l=0/\bound xs.H xs.H u=xs.H
  ·refine .inr (.inr ⟨a,ah,rfl,e5.of cu,?_,k _ _ Er nL<|qt cu ?_⟩)
   ·rw[<-cM.H,<-ti,<-ti];exact hw
   ·unfold jj;rw[hw.1,hw.2,yx,yF,yw];exact cM
  ·refine .inr (.inl ⟨a,ah,rfl,e5.of cu,?_,λp aF=>k _ _ (Er.trans<|.new aF) (nL.new aF)<|qt fB ?_⟩)
   ·rw[<-cM.H,<-ti,<-ti];exact hw
   ·unfold jj tJ;rw[ti,ti,cM.H];exact bR.take _<|bR.drop _<|bR.mono (.new aF) _ _ cM
 |_=>exists fN
def aiM{a b:Expr}{dP db:bM}{pos:Pos}(ba:bF X tw a dP)(acE:bF X tw b db):bF X tw (.BinOp a .Mult b pos)<|lx dP db:=by
 intro B S n t m n' hd ae s O H Q I ⟨R,k⟩;obtain⟨⟨t1,cS,aM⟩,az,au⟩:=cn hd;obtain⟨⟨eH,gu,bC⟩,a6,bX⟩:=cn au;have⟨xs,j,acF,acG,acH,aq,dQ,em,y7⟩:∃xs j,t1=.ao xs/\cS=.aE/\eH=.int j/\(-1000<=j/\j<=10000/\xs.H*j.M<=bh)/\t=.ao (List.replicate j.M xs).flatten/\m=.aE/\n'=bC:=by
  cases t1 with
  |ao xs =>
   cases cS with
   |aE =>
    cases eH with
    |int j =>
     have bX:(if-1000<=j/\j<=10000/\xs.H*j.M<=bh then J (T.ao (List.replicate j.M xs).flatten,bo.aE,bC) else C)=J (t,m,n'):=bX;split at bX
     ·rename_i aq;exists bX;exact⟨xs,j,rfl,rfl,rfl,aq,rfl,rfl,rfl⟩
     ·exists bX
    |_=>exists bX
   |_=>exists bX
  |_=>exists bX
 subst acF acG acH dQ em y7;refine agI ah8 (ba B S n _ _ aM az) (acE B S aM _ gu _ a6) ae s O H Q I ⟨R,λv H1 bH fb cN=>?_⟩;have bt:=R.mono bH fb;obtain⟨ad,rfl,f1,ah,cu,cM⟩:=cN;refine⟨bt,λw bV cf lH dD=>?_⟩;have:=iW<|dD.root (bt.mono cf lH) bt.aQ;subst this;have vc:=cf.to ad _ cu<|R.aQ.tS f1;have vk:=bR.mono (cf.b0 bt.aQ) _ _ cM;refine⟨ad,j,ah,rfl,rfl,vc,(jn Z0 aq.1),(ny aq.2.1 Z0),?_,λp aF=>k _ _ ((bH.trans cf).trans (.new aF)) (lH.new aF) ⟨p,rfl,(bH.trans cf).free lH aF,_,fB,?_⟩⟩
 ·rw[<-cM.H];exact qq aq.2.2
 ·exact bR.mono (.new aF) _ _<|bR.rep vk _
def acI(h:∀x∈ns,-10000000000000<=x/\x<=10000000000000):-(10000000000000*(ns.H:Int))<=cI ns/\cI ns<=10000000000000*(ns.H:Int):=by
 induction ns with
 |nil=>simp[cI]
 |cons x xs a4 =>
  have:=a4 λy aK=>h y<|am _ aK;have:=h x dS;rw[cI,d8]
  push_cast
  lia
def amd{t:T}{xs:List T}{ns:List Int}{ae:List Z1}{s:aR}{O:St}{H:aJ}{v:V}{u:mt}{Q:fg}(bp:X.A.handled=C)(I:aS X ae O H s)(r:eu X.K tw H t v)(bq:cW v u)(h:u9 t=J xs)(av:xs=ns.map T.int)
  (aB:ns.H<100000) (aq:∀x∈ns,-10000000000000<=x/\x<=10000000000000) (q:Q (.int<|cI ns) H):bl Z2 X.A (call (.builtin "sum") [u]) (f5 X ae O Q) X.cv s:=by
 subst av;refine call_sum_walk (b2 (Ad (A':=X.A.in1) bp I r bq h) λit gT ⟨oU,fp,wr,P,St,e,W,st,rx,e3,fin⟩=>?_);refine⟨oU,fp,wr,_,P,St,λi=>ns.getD i 0,e,W,st,rx,λi v bS=>D2<|e3 i v bS,λj bU=>?_,λh' bx t' b8=>?_⟩
 ·rw[cP]at bU;have af:=aq (ns.getD j 0) (by rw[nj,hh bU];exact oy _);show InLong (ns.getD j 0)/\_;rw[Pz ns (j+1) bU];have ak:=acI (ns:=ns.take<|j+1) λx av=>aq x<|tT av;have bc:((ns.take<|j+1).H:Int)<=100000:=by rw[jS];lia
  exact⟨⟨(jn Z0 af.1),(ny af.2 Z0)⟩,⟨by lia,by lia⟩⟩
 ·rw[cP,Pz ns ns.H<|cg _,yw];exact⟨.int _,H,fin h' bx b8,⟨t',rfl⟩,q⟩
def akt(aT:X.calm=Y0):fR X tw (λus=>call (.builtin "sum") us) xi:=by
 intro B ae s O H ah us aA n t m Q I bq aU aQ e k;have bp:=I.ok.hd aT;have go:∀(t0:T) (xs:List T),aA=[t0]->u9 t0=J xs->((e2 xs).bind λns=>if ns.H<100000/\(ns.all λx=>decide (x.natAbs<=10000000000000)) then J (T.int<|cI ns,bo.ag) else C)=J (t,m)->bl Z2 X.A (call (.builtin "sum") us) (f5 X ae O Q) X.cv s:=λt0 xs rv hw bN=>by
  subst rv;obtain⟨ns,az,au⟩:=cn bN;split at au
  ·rename_i aq
   exists au
   obtain⟨v,rfl,r⟩:=iX aU;obtain⟨u,rfl,eV⟩:=bq.one;refine amd bp I r eV hw (qu az) aq.1 (λx av=>?_) (k _ H (.refl _ _) aQ<|by show aI tw H (.int _) _;rw[aI]);have:=iL.mp aq.2 x av;simp only[decide_eq_true_eq]at this;lia
  ·exists au
 match aA,e with
 |[.aD xs],e=>exact go _ xs rfl rfl e
 |[.ao xs],e=>exact go _ xs rfl rfl e
end
def uJ(P:dx)(w:c3)(K:W.Frag)(a3:Str->Option mt)(base:Heap)(lv:Nat)(x:Str)(ps:List Str)(f:cY)(tw:Addr):Prop :=
 ∃(a:Addr) (d:hB),i0 P w K a3 base iA lv a d ps (nX K tw ps.H f)/\Binds K d ps []/\W.keepIn K (.ref a)=Y0/\a3 x=J (.ref a)
def ame{X:bI}{tw:Addr}{f:cY}{lv dT:Nat}{ps:List Str}{x:Str}{p pos:Pos}{e:Expr}{es:List Expr}{a:ix}(G:uJ X.R X.w X.K X.a3 X.V lv x ps f tw)(aV:eC lv X.A)(ba:SB X tw (e::es) a)(bz:autoParam (ps.H=dT) bu)(bT:autoParam (fv X x) bu)(fP:autoParam ZH eL)
  (he:autoParam ZN bu) (eR:autoParam ((ff pos<|b4 es X.I).any (·.1)=Y1) bu):bF X tw ZV<|bB dT f a:=by
 obtain⟨da,fd,F,aq,aW,hm⟩:=G;subst bz;exact ajZ F aV hm aW aq ba bT fP he eR
end bj.bO
namespace bj.AK
open PySem PySem.Spec PyProof.Rows
section
variable {prog:dx}{w:c3}{A:dH}{E:mt->aR->Prop}{s:aR}
def acJ{n:Nat}{Q:Int×Int×Nat->aR->Prop}(aP:s.heap.IsSliceOf cX .none .none<|.int (-1) bx)(h:Q ((n:Int)-1,-1,n) s):bl Z9 A (Builtin.Slice.sliceApplied (.ref cX)<|pure (n:Int)) Q E s:=by
 obtain⟨os,mW,nQ,mi⟩:=id aP;unfold Builtin.Slice.sliceApplied Builtin.Slice.sliceFields;refine a8<|a8<|wz mW mi (x:=.none) rfl<|a8<|wz mW mi (x:=.none) rfl<|a8<|wz mW mi (x:=.int (-1) bx) rfl<|bZ ?_;refine a8<|fD.BF (.int (-1) bx) ?_;show bl _ _ (if((-1:Int)==0)=Y0 then _ else _) _ _ s;rw[Y3 Z0];refine a8<|fD.BF .none<|a8<|fD.BF .none<|a8<|bZ ?_;show bl _ _ (pure ((n:Int)-1,(-1:Int),Builtin.Slice.slicePlaces ((n:Int)-1) (-1)<|-1)) _ _ s;have e:Builtin.Slice.slicePlaces ((n:Int)-1) (-1) (-1)=n:=by
  unfold Builtin.Slice.slicePlaces;rw[Y3 Z0];split
  ·rw[show(-(-1):Int)=1 from rfl,Int.ediv_one];lia
  ·lia
 rw[e];exact bZ h
def amf(xs:Array mt):((List.range xs.O).filterMap λ(k:Nat)=>xs[(((xs.O:Int)-1)+(k:Int) *-1).M]?).B=xs.D.reverse.B:=by
 have e:(List.range xs.O).filterMap (λ(k:Nat)=>xs[(((xs.O:Int)-1)+(k:Int) *-1).M]?)=((List.range xs.O).map λk=>xs.O-1-k).filterMap (xs[·]?):=by
  rw[MG];have gen:∀l:List Nat,(∀k∈l,k<xs.O)->l.filterMap (λ(k:Nat)=>xs[(((xs.O:Int)-1)+(k:Int) *-1).M]?)=l.filterMap ((xs[·]?)∘λk=>xs.O-1-k):=by
   intro l
   induction l with
   |nil=>intro _;rfl
   |cons k l a4 =>
    intro aB;have aW:=aB k<|dS ..;have e:(((xs.O:Int)-1)+(k:Int) *-1).M=xs.O-1-k:=by lia
    rw[r4,r4,a4 λfH h'=>aB fH<|am _ h',e];rfl
  exact gen _ λk aW=>nr.mp aW
 rw[e,W.krv_range,List.filterMap_reverse,W.krv_all]
def ank(cA:IsTup s.Q t items)(aP:s.heap.IsSliceOf cX .none .none<|.int (-1) bx)
  (h:Q (.ref s.L) { s with heap:=s.heap.push { cls:=.type "tuple",data:=.seq items.D.reverse.B}}) (hsz:items.O<=dg):bl (bg prog w) A (nC (.ref t) (.ref cX)) Q E s:=by
 have rX:sizeOk<|.seq items.D.reverse.B:=by show items.D.reverse.B.O<=dg;rw[eT,yo,gH];exact hsz
 obtain⟨os,mW,nQ,mi⟩:=id aP;have zR:s.TypeIs (.ref cX) "slice":=⟨os,mW,nQ⟩
 unfold nC
 try with_reducible refine jo ?_
 first|refine a8 (bZ ?_)|skip
 refine a8<|Hj cA.typeIs Z0 ?_
 refine a8 (yM (name:=Str.ofString "__getitem__") cA.typeIs PyProof.Rows.slot_tuple_getitem
  (sg PyProof.Rows.slot_tuple_getitem cA.typeIs Hs ?_<|Ht _ _))
 show bl _ _ (Builtin.Tuple.tupleItemsOf (.ref t) >>= _) _ _ s;refine a8<|Hu cA ?_;refine a8<|si zR ?_;rw[Y2 Z0];refine a8<|acJ aP ?_;show bl _ _ (if(((items.O:Int)-1==0)&&((-1:Int)==1)&&items.O==items.O)=Y0 then _ else _) _ _ s;rw[Y3 Z7,amf]
 first
  |exact a8 (m:=Builtin.Tuple.tupleExact _)<|kP (bZ ⟨_,rfl,bZ h⟩) rX
  |exact a8 (m:=Builtin.Tuple.tupleExact _)<|kP (a8<|bZ<|bZ ⟨_,rfl,bZ h⟩) rX
  |exact a8<|a8 (m:=Builtin.Tuple.tupleExact _)<|kP (bZ<|bZ ⟨_,rfl,bZ h⟩) rX
  |exact a8<|a8 (m:=Builtin.Tuple.tupleExact _)<|kP (bZ ⟨_,rfl,bZ h⟩) rX
end
end bj.AK
namespace bj.bO
open PySem PySem.Spec PyProof.Rows
section
variable {X:bI}{tw:Addr}
def aiN{e:Expr}{d:bM}{j}{dB c7 jy pos:Pos}(h:bF X tw e d):bF X tw (.Subscript e (.Slice C C (J<|.UnaryOp .USub (.Constant (.int 1) j dB) c7) jy) pos)<|By d:=by
 intro B S n t m n' hd ae s O H Q I ⟨R,k⟩;obtain⟨⟨t0,m0,n0⟩,az,au⟩:=cn hd;refine Cj (b2 (h.run az I R) λv s1 ⟨x,H1,bf,bA,a1,bt,b6⟩=>?_);refine wpAny_Slice ?_;rw[Hr];refine bZ<|bZ ?_;rw[evalPart_some];refine b2 (Ue UK (Dm (i:=1)) ae s1 O H1 (λv aj=>v=.int (-1)/\aj=H1) bf ⟨1,rfl,rfl,rfl⟩) λah s3 ⟨Nw,ee,fT,hE,a6,bX⟩=>?_;subst a6 bX;obtain⟨bx,rfl⟩:=hE;have ha:aS X ae O ee { s3 with heap:=s3.heap.push { cls:=.type "slice",data:=.fields #[.none,.none,.int (-1) bx]}}:=fT.kept (t':=s3.toks) λb bJ q=>ec _ q;have aU:=b6.root bt R.aQ;have aP:(s3.heap.push { cls:=.type "slice",data:=.fields #[.none,.none,.int (-1) bx]}).IsSliceOf s3.L .none .none (.int (-1) bx):=Heap.IsSliceOf.new ..;cases t0 with
 |ao xs =>
  exists au
  obtain⟨a,ah,rfl,cu,cM⟩:=aU
  exists bA
  obtain⟨a5,r,cA,hz⟩:=ha.list cu.gh;refine tail_any (ops:=[.ref a,.ref s3.L]) cA.isList.typeIs slot_list_getitem.lookup ?_ (by with_unfolding_all rfl);refine Nc cA.isList aP .none .none (.int (-1) bx) Z7 ?_ (by rw[eT,<-r.H];exact hz);rw[W.krv_pick];have hf:ee (s3.heap.push { cls:=.type "slice",data:=.fields #[.none,.none,.int (-1) bx]}).E.O=C:=ha.b1.fresh<|cg _;refine⟨.ref _,_,ha.laid (t':=s3.toks) (o:=.ao ah.reverse) (λb bJ q=>ec _ q) (cg _) ?_,rfl,k _ _ (a1.trans<|.new hf) (bt.aQ.new hf) ⟨_,rfl,a1.free bt.aQ hf,_,fB,bR.mono (.new hf) _ _ cM.reverse⟩⟩;exact⟨by rw[yo];exact hz,_,0,r.reverse,gB _ rfl⟩
 |aD xs =>
  exists au
  obtain⟨a,ah,rfl,cu,cM⟩:=ku aU
  exists bA
  obtain⟨a5,r,cA,hz⟩:=ha.tuple<|e5.of (K:=X.K) cu;refine tail_any (ops:=[.ref a,.ref s3.L]) cA.typeIs PyProof.Rows.slot_tuple_getitem.lookup ?_ (by with_unfolding_all rfl);refine AK.ank cA aP ?_ (by rw[eT,<-r.H];exact hz);have hf:ee (s3.heap.push { cls:=.type "slice",data:=.fields #[.none,.none,.int (-1) bx]}).E.O=C:=ha.b1.fresh<|cg _;refine⟨.ref _,_,ha.laid (t':=s3.toks) (o:=.aD ah.reverse) (λb bJ q=>ec _ q) (cg _) ?_,rfl,k _ _ (a1.trans<|.new hf) (bt.aQ.new hf)<|qt fB<|bR.mono (.new hf) _ _ cM.reverse⟩;exact⟨by rw[yo];exact hz,_,r.reverse,mh.new _ _⟩
 |_=>exists au
end
end bj.bO
end
namespace bj.bO
open PySem PySem.Spec PyProof.Rows
section
variable {prog:dx}{w:c3}{A:dH}{E:mt->aR->Prop}{s:aR}
abbrev Ut(Q:mt->aR->Prop)(E:mt->aR->Prop):sq->aR->Prop:=λr s'=>match r with
 |.ok (.ret v)=>Q v s'
 |.ok _=>False
 |.error e=>E e s'
abbrev agn(prog:dx)(w:c3)(A:dH)(Q:mt->aR->Prop)(E:mt->aR->Prop):Fin->aR->Prop:=λfin s'=>match fin with
 |.done f=>Ut Q E (.ok f) s'
 |.again cH=>cH.quiet=Y0/\ki Z9 A cH (Ut Q E) s'
def amg{id:String}{b:Builtin}{dc:List<|Str×mt}(af:builtinKind id=C)(ak:plainId id=Y0)(bc:yV table id=J b)(cL:qY id ⟨ps,dc⟩)
  (go:bl Z9 A.in1 (b ⟨ps,dc⟩) (agn prog w A Q E) E s):bl Z9 A (call (.builtin id) ps dc) Q E s:=by
 apply uh;apply Hg ak bc;unfold checkBuiltinCall;rw[af];unfold qY at cL;generalize Manifest.signature? id=Wm at cL |-;cases Wm with
 |none=>exact bZ go
 |some y =>
  dsimp only at cL |-;rw[cL];exact bZ go
end
variable {X:bI}{tw:Addr}
def acK(a v:mt):qY "min" ⟨[a],[(Str.ofString "default",v)]⟩:=by unfold qY;kernel_rfl
def Uu:Option Int->Int->Option Int
 |none,x=>J x
 |some a,x=>J (if x<a then x else a)
def qz(b:Option Int)(ns:List Int):Option Int:=ns.foldl Uu b
theorem QJ:∀(ns:List Int) (a:Int),qz (J a) ns=J (ns.foldl (λa b=>if b<a then b else a) a)
 |[],_=>rfl
 |x::ns,a=>QJ ns _
def acL{i:Int}(h:least ns=J i):qz C ns=J i:=by
 cases ns with
 |nil=>exists h
 |cons x xs=>exact(QJ xs x).trans h
def Cell(o:Option Int)(cs:Array mt):Prop:=match o with
 |none=>cs=#[]
 |some a=>∃t,cs=#[.int a t,.int a t]
section
variable {prog:dx}{w:c3}{A:dH}{R:sq->aR->Prop}{I cc:Addr}{fp wr:List Addr}{P:Nat->mt->Prop}{St:Nat->Heap->Prop}{ns:List Int}{d:mt}
def aku{x y:Int}(q:Q (.bool<|decide (x<y)) s):bl Z9 A (richCompare .Lt (.int x t)<|.int y u) Q E s :=
 CmpOf.ints_lt (P:=λi v=>∃t,v=.int (if i=0 then x else y) t) (λi=>if i=0 then x else y) (λ_ _ h=>h) 0 1 _ _ s Q E ⟨t,rfl⟩ ⟨u,rfl⟩ q
def acM(W:Walks prog w A.in1 I fp wr ns.H P St)(num:∀i v,P i v->∃t,v=.int (ns.getD i 0) t)(out:cc∉fp):∀(k i:Nat) (s:aR) (cs:Array mt) (c:Nat) (o:Option Int),i+k=ns.H->St i s.Q->Cell o cs ->
  s.heap.get? cc=J { cls:=.type "list",dict:=C,data:=.seq cs c,slots:=#[]} ->
  (∀r h' bx,(match qz o (ns.drop i) with|none=>r=d|some a=>∃t,r=.int a t)->(∀b bJ,b∉wr->b≠cc->s.heap.get? b=J bJ->h'.get? b=J bJ)->R (.ok<|.ret r) { s with heap:=h',toks:=bx}) ->
  ki Z9 A (.builtin "min.loop" ⟨[.ref I,.none,.ref cc],[(Str.ofString "default",d)]⟩) R s:=by
 have TZ:cc∉wr:=λz=>out<|W.sub _ z;have away:∀{h:Heap} {g:Obj->Obj} {b:Addr} {bJ:Obj},b≠cc->h.get? b=J bJ->(h.update cc g).get? b=J bJ:=λne e=>(t7 _ _ λz=>ne z.symm).trans e;have nm:(toString "min" ++ toString ".loop" : String) = "min.loop":=by decide
 intro k
 induction k with
 |zero =>
  intro i s cs c o zh st ce at_ fin;have zh:i=ns.H:=zh;subst zh;rw[List.drop_length]at fin;refine pR F.entry_min_loop ?_;rw[Around.under_plainId F.plain_min_loop _];refine a8 (m:=seqItems?<|.ref cc)<|Cd at_ rfl<|a8 (m:=tryCatch (mK<|.ref I) _)<|Cc (W.done s _ _ st λh' bx b8=>?_);cases o with
  |none =>
   have ce:cs=#[]:=ce;subst ce;exact a8<|l7<|bZ (fin d h' bx rfl λb bJ aq _ e=>b8 b bJ aq e)
  |some a =>
   obtain⟨t,rfl⟩:=ce;refine a8 (m:=updateSeq cc λ_=>#[])<|ud (b8 cc _ TZ at_) rfl<|a8<|Cg<|bZ ?_;exact fin _ _ _ ⟨t,rfl⟩ λb bJ aq ne e=>away ne<|b8 b bJ aq e
 |succ k a4 =>
  intro i s cs c o zh st ce at_ fin;have lt:i<ns.H:=(qS<|d1 zh)
  have split:ns.drop i=ns.getD i 0::ns.drop (i+1):=by rw[pJ lt,nj,hh lt];rfl
  rw[split]at fin;refine pR F.entry_min_loop ?_;rw[Around.under_plainId F.plain_min_loop _];refine a8 (m:=seqItems?<|.ref cc)<|Cd at_ rfl<|a8 (m:=tryCatch (mK<|.ref I) _)<|Cc (W.item i s _ _ lt st λv h' bx CA c1 b8=>?_);obtain⟨t,rfl⟩:=num i v CA;have at2:=b8 cc _ TZ at_;have put:∀(Es:Array mt) (dh:Option Int),Cell dh Es->dh=Uu o (ns.getD i 0)->ki Z9 A (.builtin "min.loop" ⟨[.ref I,.none,.ref cc],[(Str.ofString "default",d)]⟩) R { s with heap:=h'.update cc (Obj.mapSeq λ_=>Es),toks:=bx}:=λEs dh acN mS=>by refine a4 (i+1) _ Es _ dh (by omega) (W.frame _ _ _ c1 λb aq bJ e=>away (by rintro rfl;exact out aq) e) acN (qV _ at2 rfl) λr ak Ai aV kv=>?_;refine fin r ak Ai ?_ λb bJ aq ne e=>kv b bJ aq ne<|away ne<|b8 b bJ aq e;rw[mS]at aV;exact aV
  cases o with
  |none =>
   have ce:cs=#[]:=ce;subst ce;refine a8 (m:=updateSeq cc λ_=>#[_,_])<|ud at2 rfl ?_;rw[nm];exact bZ ⟨oF F.plain_min_loop _,put _ (J<|ns.getD i 0) ⟨t,rfl⟩ rfl⟩
  |some a =>
   obtain⟨u,rfl⟩:=ce;refine a8 (m:=tryCatch (oG [_,_]<|richCompare .Lt _ _ >>= _) _)<|Cc<|jo<|a8<|aku<|a8<|jo<|qW<|a8<|Cg<|bZ ?_;by_cases less:ns.getD i 0<a
   ·rw[Y2<|decide_eq_true less];refine a8<|ud at2 rfl<|a8<|Cg ?_;rw[nm];exact bZ ⟨oF F.plain_min_loop _,put _ (J<|ns.getD i 0) ⟨t,rfl⟩<|by show _=J (if _ then _ else _);rw[Y2 less]⟩
   ·rw[Y3<|by simpa using less];refine a8<|Cg ?_;rw[nm];refine bZ ⟨oF F.plain_min_loop _,a4 (i+1) _ _ _ (J a) (by omega) c1 ⟨u,rfl⟩ at2 λr ak Ai aV kv=>fin r ak Ai ?_ λb bJ aq ne e=>kv b bJ aq ne<|b8 b bJ aq e⟩;show match qz (J (if _ then _ else _)) _ with|none=>_|some a=>_
    rw[Y3 less];exact aV
end
def Mf:eB:=λ_ aA=>match aA with
 |[.ao xs]=>(e2 xs).map λns=>(match qz C ns with|none=>.br|some i=>.int i,.ag)
 |_=>C
def amh{ae:List Z1}{s:aR}{O:St}{H:aJ}{v:V}{u:mt}{ns:List Int}{Q:fg}(bp:X.A.handled=C)(I:aS X ae O H s)(r:eu X.K tw H (.ao<|ns.map .int) v)(bq:cW v u)(q:Q (match qz C ns with|none=>.br|some i=>.int i) H) :
  bl Z2 X.A (call (.builtin "min") [u] [(Str.ofString "default",Value.none)]) (f5 X ae O Q) X.cv s:=by
 refine amg F.kind_min F.plain_min F.entry_min (acK _ _) ?_;show bl _ _ (Builtin.Builtins.bindParams "min" ["key","default"] 0 ⟨[],[(Str.ofString "default",Value.none)]⟩ >>= _) _ _ _;have Wn:Builtin.Builtins.bindParams "min" ["key","default"] 0 ⟨[],[(Str.ofString "default",Value.none)]⟩=pure [C,J Value.none]:=rfl;refine a8<|wpAny_of_eq Wn ?_;refine a8<|bZ ?_;refine a8 (b2 (Ad (A':=X.A.in1) bp I r bq (xs:=ns.map .int) rfl) λit gT ⟨oU,fp,wr,P,St,e,W,st,rx,e3,fin⟩=>?_);subst e;rw[cP]at W;refine a8<|kP ?_;rw[show(toString "min" ++ toString ".loop" : String) = "min.loop" by decide];refine bZ ⟨oF F.plain_min_loop _,acM W (λi v bS=>D2<|e3 i v bS) (λz=>oD _<|rx _ z) ns.H 0 _ #[] _ C (t5 _) (W.frame _ _ _ st λb _ o e=>ec _ e) rfl (gB _ rfl) λr h' bx aV b8=>?_⟩;have cR:=fin h' bx λb o aq e=>b8 b o aq (bv<|d5 e)<|ec _ e;rw[yx]at aV;cases z:qz C ns with
 |none=>rw[z]at aV q;subst aV;exact⟨.br,H,cR,rfl,q⟩
 |some a=>rw[z]at aV q;obtain⟨t,rfl⟩:=aV;exact⟨.int a,H,cR,⟨t,rfl⟩,q⟩
def akv{p pos b8 ago:Pos}{j:Nat}{e:Expr}{a:gg}(aT:X.calm=Y0)(ba:nJ X tw [e] a)(hm:X.a3 "min" = C)(bS:l6 "min" = J (.builtin "min"))(bT:autoParam (fv X "min") bu)
  (he:autoParam (ff pos (b4 [e] X.I)=ZG::ff pos (b4 [] X.I)) bu) (eR:autoParam ((ff pos<|b4 [e] X.I).any (·.1)=Y1) bu) :
  bF X tw (.Call (.Name "min" p) [e] [⟨J "default",.Constant .none j ago,b8⟩] pos) (aH Mf a):=by
 intro B S n t m n' hd ae s O H Q I ⟨R,k⟩;obtain⟨⟨aA,aM⟩,az,au⟩:=cn hd;obtain⟨⟨t1,cS⟩,a6,bX⟩:=dw au;cases bX;have⟨ns,dQ,q⟩:∃ns:List Int,aA=[.ao (ns.map .int)]/\(match qz C ns with|none=>T.br|some i=>.int i,bo.ag)=(t1,cS):=by
  match aA,a6 with
  |[.ao xs],a6 =>
   obtain⟨ns,aX,bb⟩:=dw (show(e2 xs).map _=J (t1,cS) from a6);exact⟨ns,by rw[qu aX],bb⟩
 subst dQ;have bp:=I.ok.hd aT;refine l5<|k7 I bT hm bS ?_ Z0 Z0;refine callWith_kw (b2 (ba.run az pos I R) λus s1 ⟨ah,H1,bf,bA,a1,bt,b6⟩=>?_) he eR;refine kws_cons<|wpAny_Constant_none<|kws_nil ?_;obtain⟨v,rfl,r⟩:=iX b6;obtain⟨u,rfl,eV⟩:=bA.one;refine amh bp bf r eV ?_;cases z:qz C ns with
 |none=>rw[z]at q;cases q;exact k _ H1 a1 bt.aQ (by show aI tw H1 .br _;rw[aI])
 |some a=>rw[z]at q;cases q;exact k _ H1 a1 bt.aQ (by show aI tw H1 (.int a) _;rw[aI])
variable {X:bI}{tw:Addr}
def AL(x:T):T->Option Bool
 |.aD xs=>if g4 x&&xs.all g4 then J (xs.any λy=>dU y x) else C
 |.ao xs=>if g4 x&&xs.all g4 then J (xs.any λy=>dU y x) else C
 |_=>C
def J9:eB:=λ_ aA=>match aA with
 |[x,y]=>(AL x y).map λb=>(.aC<|!b,.ag)
 |_=>C
theorem Va(av:g4 x=Y0)(cF:aI tw H x v):∀{xs:List T} {ah:List V},(xs.all g4)=Y0->bR tw H xs ah->Dv v ah=xs.any λy=>dU y x
 |[],ah,_,r=>by cases jg r;rfl
 |y::xs,ah,h,r=>by obtain⟨u,w,rfl,p,q⟩:=hc r;rw[jT,f3]at h;have a4:=Va av cF h.2 q;unfold Dv at a4 |-;rw[oz,oz,a4,QI h.1 av p cF]
def akw{b:Bool}(e:AL x y=J b)(bA:eu X.K tw H x v)(cp:eu X.K tw H y w){neg:Bool}(q:Q (.aC (if neg then !b else b)) H):IU X.K neg v w H Q:=by
 have go:∀{xs:List T} {a:Addr} {ah:List V},(if g4 x&&xs.all g4 then J (xs.any λy=>dU y x) else C)=J b->w=.ref a->(gv X.K H a ah\/e5 X.K H a ah)->bR tw H xs ah->IU X.K neg v w H Q:=λ{xs a ah} e nI gh rs=>by
  split at e
  ·rename_i hf
   exists e
   rw[f3]at hf;have cF:=J7 hf.1 bA;refine⟨a,ah,nI,gh,AJ hf.1 cF,Ep hf.2 rs,?_⟩;rw[Va hf.1 cF hf.2 rs];exact q
  ·exists e
 cases y with
 |aD xs =>
  obtain⟨a,ah,nI,cu,cM⟩:=ku cp;exact go e nI (.inr<|e5.of cu) cM
 |ao xs =>
  obtain⟨a,ah,nI,cu,cM⟩:=cp;exact go e nI (.inl cu.gh) cM
 |_=>exists e
def acO:fR X tw (two<|hp .NotIn) J9:=by
 intro B ae s O H ah us aA n t m Q I bq aU aQ e k
 match aA,e with
 |[x,y],e =>
  obtain⟨b,az,au⟩:=dw (show(AL x y).map _=_ from e)
  exists au
  obtain⟨v,w,rfl,bA,cp⟩:=m2 aU;obtain⟨fW,f7,rfl,aX,bb⟩:=bq.two;exact aaw ae s O H v w fW f7 Q I aX bb<|akw az bA cp (neg:=Y0) (k _ H (.refl _ _) aQ<|by show aI tw H (.aC _) _;rw[aI];rfl)
variable {X:bI}{tw:Addr}
def Et:eB:=λ_ aA=>match aA with
 |[.ao xs,y]=>if g4 y=Y0/\xs.all g4=Y0/\xs.H<=bh then(xs.findIdx? λx=>dU x y).map λ(j:Nat)=>(.int j,.ag) else C
 |_=>C
def acP{n:Nat}(h:Et n [to,te]=J (t,m)):∃xs j,to=.ao xs/\g4 te=Y0/\xs.all g4=Y0/\xs.H<=bh/\(xs.findIdx? λx=>dU x te)=J j/\t=.int (j:Nat)/\m=.ag:=by
 cases to with
 |ao xs =>
  have h:(if g4 te=Y0/\xs.all g4=Y0/\xs.H<=bh then(xs.findIdx? λx=>dU x te).map λ(j:Nat)=>(T.int j,bo.ag) else C)=J (t,m):=h;split at h
  ·rename_i q;obtain⟨j,af,ak⟩:=dw h
   exists ak
   exact⟨xs,j,rfl,q.1,q.2.1,q.2.2,af,rfl,rfl⟩
  ·exists h
 |_=>exists h
def akx{us:List mt}{xs:List T}{j:Nat}(h:us.map (jC z)=xs.map λx=>dU x y)(bU:(xs.findIdx? λx=>dU x y)=J j) :
  ∃aB:j<us.H,jC z us[j]=Y0/\∀m (hm:m<us.H),m<j->jC z us[m]=Y1:=by
 have ei:us.H=xs.H:=by have:=congrArg List.H h;simpa using this
 have at_:∀m (af:m<us.H) (ak:m<xs.H),jC z us[m]=dU xs[m] y:=λm af ak=>by have:=congrArg (λl=>l[m]?) h;simp only[ke,hh af,hh ak,kh]at this;exact Option.some.inj this
 obtain⟨av,az,au⟩:=BH.mp bU;have b7:j<us.H:=(d4 av<|d1 ei.symm)
 refine⟨b7,by rw[at_ j b7 av];exact az,λm hm QK=>?_⟩;have rB:m<xs.H:=(gS (ez QK) av)
 rw[at_ m hm rB];have:=au m QK;simpa using this
def ami{o e:Expr}{eP ic:bM}{apos eb:Pos}(aZ:bF X tw o eP)(he:bF X tw e ic)(m:Cp X o "index" apos e eb):bF X tw (.Call (.Attribute o "index" apos) [e] [] eb)<|aH Et<|aa eP<|aa ic ar:=by
 intro B S n t kj n' hd ae s O H Q I ⟨R,k⟩;obtain⟨to,mo,no,te,zd,f1,g1,a6⟩:=Jb hd;obtain⟨xs,j,rfl,aK,av,hz,bU,rfl,rfl⟩:=acP (n:=_) (to:=to) (te:=te) a6;refine yN m.V m.uX m.line PySem.F.plainAttrs_list PySem.F.slot_list_index PySem.F.type_list_index (b2 (aZ.run f1 I R) λu s1 ⟨v,H1,bf,bA,a1,bt,b6⟩=>?_);obtain⟨a,fI,rfl,cu,cM⟩:=b6.root bt R.aQ
 exists bA
 obtain⟨a5,o8,⟨fs,acD,lh,Ah,vb,_⟩,_⟩:=bf.list cu.gh;refine⟨⟨fs,lh,Ah⟩,λb e=>?_,?_⟩
 ·exists e;exact⟨fs,lh,vb⟩
 ·rw[m.trees];refine ua rfl<|ub<|h9 (b2 (he.run g1 bf bt) λiv s2 ⟨y,bV,cR,dW,a2,dj,dA⟩=>l4 ?_);have aU:=J7 aK<|dA.root dj bt.aQ;have vc:=cu.ext a2;have vk:=bR.mono (a2.b0 bt.aQ) _ _ cM;obtain⟨a5,lP,⟨⟨cls,dd,data,cX⟩,nn,aZ,aT,hd,kb⟩,_⟩:=cR.list vc.gh;simp only at aT kb
  subst aT kb
  obtain⟨aB,hit,IQ⟩:=akx (J6 aK aU av vk lP) bU;have acQ:(j:Int)<2^63-1:=by have af:=(BH.mp bU).1;have de:bh=1000000:=rfl;omega
  refine nz PySem.F.slot_list_index ⟨_,aZ,rfl⟩ PySem.F.entry_list_index (PySem.F.args_list_index_2 _ _) (PySem.SeqAt.list_indexAt a a5.B nn dd cX iv (jC y) j (by simpa using aB) acQ (by simpa using hit) λm hm h=>by simpa using IQ m (by simpa using hm) h) ⟨aZ,λw hw=>zS dW (AJ aK aU) lP (Ep av vk) w (by simpa using hw),?_⟩;exact⟨.int _,bV,cR.tok _,⟨_,rfl⟩,k _ bV (a1.trans a2) dj.aQ<|by show aI tw bV (.int _) _;rw[aI]⟩
section
variable {X:bI}{tw:Addr}
def amj{K:W.Frag}{aj:aJ}{t0:T}{v:V}(aU:eu K tw aj t0 v):decide (v=.br)=nS t0:=by
 cases t0 with
 |br=>have aU:aI tw aj .br v:=aU;rw[aI]at aU;subst aU;rfl
 |aC b=>have aU:aI tw aj (.aC b) v:=aU;rw[aI]at aU;subst aU;rfl
 |int b=>have aU:aI tw aj (.int b) v:=aU;rw[aI]at aU;subst aU;rfl
 |str b=>have aU:aI tw aj (.str b) v:=aU;rw[aI]at aU;subst aU;rfl
 |aD b=>have aU:aI tw aj (.aD b) v:=aU;rw[aI]at aU;obtain⟨_,_,rfl,_⟩:=aU;rfl
 |dq=>have aU:aI tw aj .dq v:=aU;rw[aI]at aU;subst aU;rfl
 |bJ b=>have aU:aI tw aj (.bJ b) v:=aU;rw[aI]at aU;subst aU;rfl
 |ao b=>obtain⟨_,_,rfl,_⟩:=aU;rfl
 |bk b=>obtain⟨_,_,rfl,_⟩:=aU;rfl
def aiO{e:Expr}{d:bM}{j pos pos'}(h:bF X tw e d):ST X tw (.Compare e [.Is] [.Constant .none j pos'] pos)<|bK<|aH od<|aa d ar:=by
 intro B S n b n' hd ae s O H Q I ⟨R,k⟩;obtain⟨⟨t,m,fU⟩,d7,fy⟩:=cn hd;obtain⟨⟨aA,aM⟩,az,au⟩:=cn d7;obtain⟨⟨t0,m0,n0⟩,f1,f2⟩:=cn az
 exists f2
 exists au
 exists fy
 refine ahN (IB<|h B S n t0 m0 _ f1) (by rfl) ae s O H Q I ⟨R,λv aj x y z=>⟨_,rfl,?_⟩⟩;rw[amj<|z.root (R.mono x y) R.aQ];exact k aj x y
end
end bj.bO
section
namespace bj.bO
open PySem PySem.Spec PyProof.Rows
def _root_.bj.aS.VD{X:bI}{ae:List Z1}{O:St}{H:aJ}{s:aR}{h':Heap}{t':Nat}{fp:List Addr}(I:aS X ae O H s)(k:∀b o,b∉fp->s.heap.get? b=J o->h'.get? b=J o)(hf:∀b∈fp,pB X ae H b):aS X ae O H { s with heap:=h',toks:=t'}:=by
 have Iv:∀b u,H b=J u->b∉fp:=λb u e z=>by rw[(hf b z).1]at e;exists e
 refine I.step (g':=s.gens) (d':=s.drawn) (ch:=fp) (λb aq=>?_) (λb o _ _ aT e _=>k b o aT e) (λb o _ _ aT e _=>⟨o.slots,k b o aT e⟩) (λ_ _ _ _ n=>n)
  (λb o aT e=>⟨o,k b o aT e⟩) (λ_ _ e=>e) (λ_ _ _ e=>e) (λm hm=>?_) (λb u e=>?_) I.ft
 ·obtain⟨_,f1,_,el,f4,hT⟩:=hf b aq;exact⟨el,f1,f4,hT⟩
 ·obtain⟨o,es,ep,aZ,r⟩:=hm;exact⟨o,es,ep,k _ o (λz=>(hf _ z).2.1 rfl) aZ,r⟩
 ·exact(I.b1 b u e).pz (λv q=>k b v (Iv b u e) q)
end bj.bO
end
namespace bj.bO
open PySem PySem.Spec PyProof.Rows
section
variable {X:bI}{tw:Addr}
def acR{p q pos mC:Pos}{a:Expr}{dP:gg}(bp:X.A.handled=C)(ba:nJ X tw [a] dP)(Ka:X.a3 "list" = C)(Kb:X.a3 "range" = C)(J3:autoParam (l6 "list" = J (.type "list")) az11._auto_1)(acS:autoParam (l6 "range" = J (.type "range")) az11._auto_1)(acT:autoParam (fv X "list") bu)(acU:autoParam (fv X "range") bu)
  (aP:autoParam (b4 [a] X.I=[(Y1,eval a X.I)]) bu) (iz:autoParam (b4 [.Call (.Name "range" q) [a] [] mC] X.I=[(Y1,eval (.Call (.Name "range" q) [a] [] mC) X.I)]) bu) :
  bF X tw (.Call (.Name "list" p) [.Call (.Name "range" q) [a] [] mC] [] pos) (z0 dP):=by
 intro B S n t m n' hd ae s O H Q I ⟨R,k⟩;obtain⟨⟨xs,aM⟩,az,au⟩:=dw hd;cases au;obtain⟨⟨aA,bC⟩,a6,bX⟩:=cn az;obtain⟨j,rfl,nM,uF,rfl,rfl⟩:∃j:Int,aA=[.int j] /\ -(bh:Int)<=j/\j<=bh/\xs=il 0 j/\aM=bC:=by
  dsimp only at bX;split at bX
  ·rename_i j;split at bX
   ·rename_i aq;cases bX;exact⟨j,rfl,aq.1,aq.2,rfl,rfl⟩
   ·cases bX
  ·cases bX
 refine l5<|k7 I acT Ka J3 ?_ Z0 Z0;refine PyProof.Rows.callWith_type1 (h9 ?_) iz rfl;refine l5<|k7 I acU Kb acS ?_ Z0 Z0;refine PyProof.Rows.callWith_type1 (b2 (ba.run a6 mC I R) λus s1 ⟨ah,H1,bf,bA,a1,bt,b6⟩=>?_) aP rfl;have de:bh=1000000:=rfl;obtain⟨v,rfl,r⟩:=iX b6;obtain⟨u,rfl,eV⟩:=bA.one;have r:aI tw H1 (.int j) v:=r;rw[aI]at r;subst r;obtain⟨tok,rfl⟩:=eV;refine call_range_1<|l4 ?_;have cR:aS X ae O H1 { s1 with heap:=s1.heap.push { cls:=.type "range",data:=.fields #[.int 0 s1.toks,.int j tok,.int 1<|s1.toks+1]},toks:=s1.toks+1+1}:=bf.kept λb o e=>ec _ e;have bz:Builtin.Range.rangeSize 0 j 1=((j.M:Nat):Int):=by rw[rangeSize_one];split<;>omega
 refine call_list_range bp (IsRange.new ..) (small_one Z0 Z0 (jn Z0 nM)<|ny uF Z0) bz (by omega) λh' bx acc c b8 fw hi=>?_;obtain⟨ws,eU,fL⟩:=xy (tw:=tw) (H:=H1) (xs:=il 0 j) (us:=acc.D) (by rw[gH,hi.1];simp[il]) λi w e=>by
  obtain⟨t0,dE⟩:=hi.2 i w (by rw[<-lB];exact e);have dC:i<j.M:=by have:=(kK.mp e).1;rw[gH,hi.1]at this;exact this
  refine⟨.int<|0+(i:Int),.int<|0+(i:Int),⟨t0,by rw[dE];simp⟩,?_,by rw[aI]⟩;unfold il;rw[ke,List.getElem?_range<|by omega];rfl
 have hf:=cR.b1.fresh<|cg _;have eG:=cR.laid (a:=(s1.heap.push { cls:=.type "range",data:=.fields #[.int 0 s1.toks,.int j tok,.int 1<|s1.toks+1]}).E.O) (o:=.ao ws) (t':=bx) (h':=h') b8 (cg _) ⟨by rw[eU.H,gH,hi.1,mI];omega,acc.D,c,eU,by simpa using fw⟩;exact⟨.ref (s1.heap.push { cls:=.type "range",data:=.fields #[.int 0 s1.toks,.int j tok,.int 1<|s1.toks+1]}).E.O,_,eG,rfl,k _ _ (a1.trans<|.new hf) (bt.aQ.new hf)<|Val.back a1 bt.aQ ⟨_,rfl,hf,_,fB,bR.mono (.new hf) _ _ fL⟩⟩
end
end bj.bO
namespace bj.bO
open PySem PySem.Spec
def jb(h h':Heap):Prop:=∀(b:Nat) (o:Obj),h.E[b]?=J o->∃dh:Obj,h'.E[b]?=J dh/\dh.dict=o.dict
def jb.refl(h:Heap):jb h h:=λ_ o e=>⟨o,e,rfl⟩
theorem jb.trans(a:jb h af)(b:jb af ak):jb h ak:=λx o e=>by obtain⟨fs,az,d7⟩:=a x o e;obtain⟨i8,au,fy⟩:=b x fs az;exact⟨i8,au,fy.trans d7⟩
theorem jb.push(h:Heap)(o:Obj):jb h<|h.push o:=λb p e=>by obtain⟨objs,l⟩:=h;refine⟨p,?_,rfl⟩;show(objs.push o)[b]?=_;have aq:b<objs.O:=(Array.getElem?_eq_some_iff.mp e).1;rw[Array.getElem?_push_lt aq];exact(t8 aq).symm.trans e
theorem jb.update(h:Heap)(a:Addr)(f:Obj->Obj)(hf:∀o,(f o).dict=o.dict):jb h<|h.update a f:=λb p e=>by
 obtain⟨objs,l⟩:=h;show ∃dh,(objs.modify a f)[b]?=J dh/\_;rw[Array.getElem?_modify];have e:objs[b]?=J p:=e;rw[e];by_cases z:a=b
 ·rw[Y2 z];exact⟨f p,rfl,hf p⟩
 ·rw[Y3 z];exact⟨p,rfl,rfl⟩
theorem jb.get(x:jb h h')(e:h.get? b=J o)(bN:h'.get? b=J dh):dh.dict=o.dict:=by have q:=(MX.mp e).1;have eM:=(MX.mp bN).1;obtain⟨i8,au,d⟩:=x b o q;have au:h'.E[b]?=J i8:=au;rw[eM]at au;exists au;exact d
def c2{α:Type}:Sem α->Prop
 |.pure _=>True
 |.raise _=>True
 |.unsupported _=>True
 |.finish _=>True
 |.rule _ k=>c2<|k ()
 |.at _ k=>c2<|k ()
 |.load _ _ k=>∀o,c2<|k o
 |.update _ _ f k=>(∀o,(f o).dict=o.dict)/\c2 (k ())
 |.alloc _ k=>∀a,c2<|k a
 |.loadIfAlive _ k=>∀o,c2<|k o
 |.point _ k=>c2<|k ()
 |.register _ _=>True
 |.fresh k=>∀t,c2<|k t
 |.ask k=>∀t,c2<|k t
 |.choose _ _ k=>∀t,c2<|k t
 |.stack k=>∀l,c2<|k l
 |.handled _ k=>∀l,c2<|k l
 |.thread k=>∀l,c2<|k l
 |_=>False
theorem c2.mD{α:Type}:∀{t:Sem α},c2 t->∀{Q:α->Pos->aR->Prop} {E:mt->Pos->aR->Prop} {p:Pos} {s:aR},Sem.wp M Γ t Q E p s ->
  ∀{h0:Heap},jb h0 s.Q->Sem.wp M Γ t (λa p s'=>Q a p s'/\jb h0 s'.Q) (λe p s'=>E e p s'/\jb h0 s'.Q) p s
 |.pure _,_,_,_,_,_,h,_,x=>⟨h,x⟩
 |.raise _,_,_,_,_,_,h,_,x=>⟨h,x⟩
 |.unsupported _,_,_,_,_,_,h,_,_=>h
 |.finish _,_,_,_,_,_,h,_,_=>h
 |.rule _ k,m,_,_,_,_,h,_,x=>c2.mD (t:=k ()) m h x
 |.at _ k,m,_,_,_,_,h,_,x=>c2.mD (t:=k ()) m h x
 |.load _ _ k,m,_,_,_,_,h,_,x=>let ⟨o,q,h⟩:=h;⟨o,q,c2.mD (t:=k o) (m o) h x⟩
 |.update a _ f k,m,_,_,_,_,h,_,x=>⟨h.1,c2.mD (t:=k ()) m.2 h.2<|x.trans<|jb.update _ a f m.1⟩
 |.alloc o k,m,_,_,_,_,h,_,x=>c2.mD (t:=k _) (m _) h<|x.trans<|jb.push _ o
 |.loadIfAlive _ k,m,_,_,_,_,h,_,x=>c2.mD (t:=k _) (m _) h x
 |.point _ k,m,_,_,_,_,h,_,x=>c2.mD (t:=k ()) m h x
 |.register _ _,_,_,_,_,_,h,_,_=>h
 |.fresh k,m,_,_,_,_,h,_,x=>c2.mD (t:=k _) (m _) h x
 |.ask k,m,_,_,_,_,h,_,x=>c2.mD (t:=k _) (m _) h x
 |.choose _ _ k,m,_,_,_,_,h,_,x=>⟨h.1,c2.mD (t:=k _) (m _) h.2 x⟩
 |.stack k,m,_,_,_,_,h,_,x=>c2.mD (t:=k _) (m _) h x
 |.handled _ k,m,_,_,_,_,h,_,x=>c2.mD (t:=k _) (m _) h x
 |.thread k,m,_,_,_,_,h,_,x=>c2.mD (t:=k _) (m _) h x
 |.os ..,m,_,_,_,_,_,_,_=>m.elim
 |.call ..,m,_,_,_,_,_,_,_=>m.elim
 |.newGen ..,m,_,_,_,_,_,_,_=>m.elim
 |.genState ..,m,_,_,_,_,_,_,_=>m.elim
 |.resume ..,m,_,_,_,_,_,_,_=>m.elim
 |.yield ..,m,_,_,_,_,_,_,_=>m.elim
 |.fork ..,m,_,_,_,_,_,_,_=>m.elim
 |.await ..,m,_,_,_,_,_,_,_=>m.elim
def c2.any{α:Type}{M:Model}{t:Sem α}(m:c2 t){Q:α->aR->Prop}(h:bl M A t Q E s):bl M A t (λa s'=>Q a s'/\jb s.Q s'.Q) (λe s'=>E e s'/\jb s.Q s'.Q) s :=
 λΓ p i=>m.mD (h Γ p i)<|jb.refl _
theorem c2.bind{α β:Type}:∀{t:Sem α} {k:α->Sem β},c2 t->(∀a,c2<|k a)->c2 (t >>= k)
 |.pure a,_,_,h=>h a
 |.raise _,_,_,_=>trivial
 |.unsupported _,_,_,_=>trivial
 |.finish _,_,_,_=>trivial
 |.rule _ k,_,m,h=>c2.bind (t:=k ()) m h
 |.at _ k,_,m,h=>c2.bind (t:=k ()) m h
 |.load _ _ k,_,m,h=>λo=>c2.bind (t:=k o) (m o) h
 |.update _ _ f k,_,m,h=>⟨m.1,c2.bind (t:=k ()) m.2 h⟩
 |.alloc _ k,_,m,h=>λo=>c2.bind (t:=k o) (m o) h
 |.loadIfAlive _ k,_,m,h=>λo=>c2.bind (t:=k o) (m o) h
 |.point _ k,_,m,h=>c2.bind (t:=k ()) m h
 |.register _ _,_,_,_=>trivial
 |.fresh k,_,m,h=>λo=>c2.bind (t:=k o) (m o) h
 |.ask k,_,m,h=>λo=>c2.bind (t:=k o) (m o) h
 |.choose _ _ k,_,m,h=>λo=>c2.bind (t:=k o) (m o) h
 |.stack k,_,m,h=>λo=>c2.bind (t:=k o) (m o) h
 |.handled _ k,_,m,h=>λo=>c2.bind (t:=k o) (m o) h
 |.thread k,_,m,h=>λo=>c2.bind (t:=k o) (m o) h
 |.os ..,_,m,_=>m.elim
 |.call ..,_,m,_=>m.elim
 |.newGen ..,_,m,_=>m.elim
 |.genState ..,_,m,_=>m.elim
 |.resume ..,_,m,_=>m.elim
 |.yield ..,_,m,_=>m.elim
 |.fork ..,_,m,_=>m.elim
 |.await ..,_,m,_=>m.elim
def jJ{α:Type}{a:α}:c2 (pure a:Sem α):=trivial
def qA{α:Type}:c2 (unsupported x:Sem α):=trivial
def Kc:c2<|load a:=λ_=>trivial
def Kd:c2 stack:=λ_=>trivial
def Eu{i:Nat}:c2<|field v i:=by
 unfold field fieldsOf;refine c2.bind ?_ λl=>?_
 ·exists v<;>first|exact qA|refine c2.bind Kc λo=>?_
  cases o.d<;>first|exact qA|exact jJ
 ·cases l[i]?<;>first|exact qA|exact jJ
def Ke{i:Nat}:c2<|setField v i x:=by
 unfold setField
 exists v<;>first|exact qA|skip
 rename_i a;show c2 (updateField a i x);unfold updateField;refine c2.bind Kc λo=>?_;cases o.d<;>first|exact qA|skip
 rename_i ah;show c2 (if i<ah.O then _ else _);by_cases z:i<ah.O
 ·rw[Y2 z];exact⟨λo=>by obtain⟨_,_,d,_⟩:=o;exists d<;>rfl,trivial⟩
 ·rw[Y3 z];exact qA
theorem QL:∀l:List Env,c2 (readyFrames l)
 |[]=>jJ
 |env::r=>by
  unfold readyFrames;cases env.frame with
  |none=>exact qA
  |some f =>
   refine c2.bind Kc λo=>?_;by_cases z:((o.slots.getD 3 C).isSome)=Y0
   ·rw[Y2 z];exact jJ
   ·rw[Y3 z];refine c2.bind ?_ λb=>c2.bind ?_ λc=>c2.bind ⟨λo=>rfl,trivial⟩ λ_=>QL r
    ·unfold behindIsImport;by_cases cN:(env.Y.kind != ScopeKind.module||r.isEmpty)=Y0
     ·simp only[cN,if_true];exact jJ
     ·simp only[cN];by_cases dD:(env.code==Value.none)=Y0
      ·simp only[dD,if_true];exact jJ
      ·simp only[dD];exact c2.bind Eu λ_=>jJ
    ·cases r with
     |nil =>
      simp only[keptBack];by_cases cN:(env.Y.isGenerator||env.Y.isCoroutine)=Y0
      ·simp only[cN,if_true];exact jJ
      ·simp only[cN];refine c2.bind ?_ λ_=>jJ;unfold underTheClaimsCaller;exact c2.bind Kd λ_=>jJ
     |cons _ _=>exact jJ
def acV:c2<|frameOf env:=by
 unfold frameOf frameEnvs;refine c2.bind (c2.bind Kd λ_=>jJ) λl=>c2.bind ?_ λo=>?_
 ·generalize List.dropWhile _ l=q;cases q with
  |nil=>exact jJ
  |cons a b=>exact c2.bind (QL _) λ_=>jJ
 ·exists o<;>first|exact qA|exact jJ
def Kf:c2<|setFlight v f:=by
 unfold setFlight;refine c2.bind Eu λx=>?_;by_cases z:(x != Value.none)=Y0
 ·rw[Y2 z];exact Ke
 ·rw[Y3 z];exact jJ
def acW:c2<|EntryCells.newEntry a b c d e l:=by
 unfold EntryCells.newEntry newFields newObj;dsimp only;by_cases z:([a,b,c,d,e]++if l.isEmpty=Y0 then List.replicate 6 Value.none else l).B.O>dg+2
 ·simp only[z,if_true];exact qA
 ·simp only[z,if_false];unfold newObjAsIs;exact λ_=>jJ
def QM:c2<|noteFrame v env:=by
 unfold noteFrame;cases env.frame with
 |none=>exact qA
 |some f =>
  have tail:∀x:mt,c2 (do let fr<-frameOf env;let cQ<-entryPlaceOf f (x != .none);let b<-EntryCells.newEntry x fr .none (gI f) .none cQ;setField v 1 b):=λx=>by refine c2.bind acV λfr=>c2.bind ?_ λcQ=>c2.bind acW λb=>Ke;unfold entryPlaceOf;refine c2.bind Kd λan9=>?_;split<;>exact jJ
  refine c2.bind Eu λx=>?_;by_cases z:(x != Value.none)=Y0
  ·simp only[z,if_true];refine c2.bind Eu λy=>?_;split
   ·exact jJ
   ·have:=tail x;rw[z]at this;exact c2.bind Ke λ_=>this
  ·have:=tail x;simp only[z]at this |-;exact this
def QN:c2<|leaving env v:=c2.bind QM λ_=>Kf
end bj.bO
namespace bj.bO
open PySem PySem.Spec PyProof.Rows
section
variable {P:dx}{w:c3}{H aj lI:aJ}{h h' aT B:Heap}{a:Addr}{o:jV}{cm:List Addr}
def has_obj(x:gO P w H h a o):∃bJ,h.get? a=J bJ:=by
 cases o with
 |ao xs=>obtain⟨_,_,_,_,e⟩:=x;exact⟨_,e⟩
 |aD xs=>obtain⟨_,_,_,bJ,e,_⟩:=x;exact⟨_,e⟩
 |aw ay=>obtain⟨_,_,_,_,bJ,_,_,e,_⟩:=x;exact⟨_,e⟩
 |set cc n=>obtain⟨bJ,_,_,_,e,_⟩:=x;exact⟨_,e⟩
 |hI lo hi=>obtain⟨_,_,_,e⟩:=x;exact⟨_,e⟩
 |en bJ u=>obtain⟨e,_⟩:=x;exact⟨_,e⟩
 |ext φ=>obtain⟨_,e,_⟩:=x;exact e
def Kept(cm:List Addr)(aT:Heap)(aj:aJ)(h B:Heap):Prop:=∀b o,h.get? b=J o->b∉cm->(aj b≠C\/aT.get? b≠C)->B.get? b=J o
def Mg(u:gd cm [] lI aj aT h)(b1:gj P w aj h)(b8:Kept cm aT aj h B)(st:B.StaysIn h')(up:h.UpToSlots h')(hf:∀b∈cm,aj b=C/\∀o,h.get? b=J o->∀ah,o.d≠.fields ah) :
  gd cm [] lI aj aT h'/\gj P w aj h'/\Kept cm aT aj h' B:=by
 have p1:∀b u,aj b=J u->∃bJ,h.get? b=J bJ/\h'.get? b=J bJ/\B.get? b=J bJ:=λb u e=>by obtain⟨bJ,q⟩:=has_obj<|b1 b u e;have bb:=b8 b bJ q (λz=>by rw[(hf b z).1]at e;exists e) (.inl<|by rw[e];simp);exact⟨bJ,q,st b bJ bb,bb⟩
 refine⟨⟨λb o q n aq av=>?_,λb o q n aq av=>?_,λb o q n av=>u.free b o q n av,λb o q av=>?_,u.pA,u.ob⟩,λc v e=>?_,λb o q aq bp=>?_⟩
 ·exact st b o<|b8 b o (u.keep b o q n aq av) aq (.inr<|by rw[q];simp)
 ·obtain⟨cX,e⟩:=u.slot b o q n aq av;obtain⟨Dk,bN⟩:=up b _ e<|(hf b aq).2 _ e;exact⟨Dk,bN⟩
 ·obtain⟨dh,e⟩:=u.there b o q av;by_cases aq:b∈cm
  ·obtain⟨Dk,bN⟩:=up b _ e<|(hf b aq).2 _ e;exact⟨_,bN⟩
  ·exact⟨dh,st b dh<|b8 b dh e aq (.inr<|by rw[q];simp)⟩
 ·refine(b1 c v e).pz (λx av=>?_);obtain⟨bJ,aX,bb,_⟩:=p1 c v e;rw[aX]at av;exists av;exact bb
 ·rcases bp with bp|bp
  ·cases e:aj b with
   |none=>exact absurd e bp
   |some y =>
    obtain⟨bJ,aX,bb,cK⟩:=p1 b y e;rw[bb]at q;exists q;exact cK
  ·cases e:aT.get? b with
   |none=>exact absurd e bp
   |some y =>
    obtain⟨dh,bN⟩:=u.there b y e Z7;have bb:=b8 b dh bN aq<|.inr bp;rw[st b dh bb]at q;exists q;exact bb
def gd.same:gd cm [] H H h h:=gd.refl
end
def mw(P:dx)(w:c3):o3:=λcj H s E e s'=>∃(a aN:Addr) (aj:aJ) (B:Heap) (t:Addr),e=.ref a/\s'.os=s.os/\oH s'.gens/\gd (hb cj) [] H aj s.Q s'.Q/\gj P w aj s'.Q /\
 Heap.FlyingW B cj a ZI (.ref t) s'.Q/\Kept (hb cj) s.Q aj s'.Q B/\(∀o,s'.heap.get? a=J o->o.dict=C)/\E ZI C aj
def Exc(bG:Bool)(X:bI)(ae:List Z1)(aj:aJ)(s:aR)(e aN:Addr):Prop:=∃(O:St) (lI:aJ) (sc:aR) (h:Heap),aS X ae O lI sc/\s.os=sc.os/\oH s.gens/\gd (hb X.stack) [] lI aj sc.Q h/\gj X.R X.w aj h /\
 ((h=s.Q/\∃B t,Heap.FlyingW B X.stack e ZI (.ref t) h/\Kept (hb X.stack) sc.Q aj h B/\∀o,h.get? e=J o->o.dict=C)\/(bG=Y1/\∃ah,Heap.MadeExcOf h s.Q e ZI ah))
def Exc.weak{bG:Bool}(x:Exc Y0 X ae aj s e aN):Exc bG X ae aj s e aN:=by
 obtain⟨O,lI,sc,h,a1,a2,k4,zi,sL,HT⟩:=x;refine⟨O,lI,sc,h,a1,a2,k4,zi,sL,?_⟩;rcases HT with HT|⟨z,_⟩
 ·exact .inl HT
 ·exists z
section
variable {X:bI}{ae:List Z1}{O:St}{H aj:aJ}{s:aR}{h:Heap}
def Kg(I:aS X ae O H s)(u:gd (hb X.stack) [] H aj s.Q h):∀b∈hb X.stack,aj b=C/\∀o,h.get? b=J o->∀ah,o.d≠.fields ah:=λb aq=>by obtain⟨_,o,aZ,hd⟩:=I.stack.mem aq;refine⟨u.free b o aZ (I.Gy b aq) Z7,λdh e ah q=>?_⟩;obtain⟨cX,bN⟩:=u.slot b o aZ (I.Gy b aq) aq Z7;rw[bN]at e;exists e;exact hd ah q
def amk(qb:X.stack=X.I::cj)(AM:X.cj=cj)(hex:X.ex=[])(hf:X.I.frame=J X.I.locals)(x:Exc Y1 X ae aj s e aN)(zj:E ZI C aj) :
  bl Z2 X.A (leaving X.I<|.ref e) (λ_ k8=>mw X.R X.w cj X.dI X.cD E (.ref e) k8) (λbN k8=>mw X.R X.w cj X.dI X.cD E bN k8) s:=by
 obtain⟨O,lI,sc,h,I,os,ft,u,b1,bp⟩:=x;have fr:X.A.frames=J (X.I::cj):=by rw[<-qb];exact I.ok.frames
 have mP:=Kg I u;have fin:∀(B:Heap) (t:Addr) (h':Heap),Kept (hb X.stack) sc.Q aj h B->h.UpToSlots h'->Heap.FlyingW B cj e ZI (.ref t) h'->(∀o,h'.get? e=J o->o.dict=C)->mw X.R X.w cj X.dI X.cD E (.ref e) { s with heap:=h'}:=λB t h' b8 up bG mT=>by
  obtain⟨f7,yh,kv⟩:=Mg u b1 b8 bG.1 up mP;have cR:aS X ae O aj { s with heap:=h'}:=I.Gd (s':={ s with heap:=h'}) os f7 yh ft λb z=>absurd z Z7;have p8:=cR.V;rw[hex,show X.cm=hb cj by rw[<-AM]]at p8;refine⟨e,aN,aj,B,t,rfl,cR.os,ft,p8,yh,bG,λb o q aq bp=>?_,mT,zj⟩;have nE:b∉hb X.stack:=λz=>by
   rw[qb]at z;have z:b∈(X.I::cj).filterMap (·.frame):=z;rw[r4,hf]at z;rcases d3.mp z with rfl|z
   ·rcases bp with bp|bp
    ·exact bp cR.free
    ·cases az:X.cD.heap.get? X.I.locals with
     |none=>exact bp az
     |some y=>exact absurd (d4 (d5 az) cR.ok.above)<|oD _
   ·exact aq z
  refine kv b o q nE (bp.imp id λbp z=>?_);cases az:X.cD.heap.get? b with
  |none=>exact bp az
  |some y =>
   obtain⟨dh,au⟩:=I.base.there b y az (by rw[hex];simp);rw[z]at au;exists au
 rcases bp with⟨rfl,B,t,bG,b8,mT⟩|⟨_,ah,mk⟩
 ·rw[qb]at bG;obtain⟨bJ,qB,_⟩:=bG.there;refine hj (QN.any (wpAny_leaves_onW (Q:=λ_ k8=>∃h',k8={ s with heap:=h'}/\Heap.FlyingW B cj e ZI (.ref t) h'/\s.heap.UpToSlots h') (E:=λ_ _=>False) fr hf bG λh' f2 up=>⟨h',rfl,f2,up⟩)) (λ_ k8 ⟨⟨h',aX,f2,up⟩,hd⟩=>?_) λ_ _ z=>z.1.elim;subst aX;exact fin B t h' b8 up f2 λo q=>(hd.get qB q).trans (mT bJ qB)
 ·have bf:aS X ae O aj { sc with heap:=h}:=I.Gd (s':={ sc with heap:=h}) rfl u b1 I.ft λb z=>absurd z Z7;have pd:∀env∈X.stack,∀b,env.frame=J b->b∈hb X.stack:=λenv he b aq=>GN.mpr ⟨env,he,aq⟩;have NH:Heap.FunFrames h (W.hideAll h<|hb X.stack)<|X.I::cj:=by have z:=W.funFrames_hide (as:=hb X.stack) bf.stack pd;generalize hb X.stack=q at z |-;rw[qb]at z;exact z
  obtain⟨_,qB,_⟩:=mk.there;refine hj (QN.any (wpAny_leaves_madeW (Q:=λ_ k8=>∃h' t,k8={ s with heap:=h'}/\Heap.FlyingW (W.hideAll h<|hb X.stack) cj e ZI (.ref t) h'/\s.heap.UpToSlots h') (E:=λ_ _=>False) fr hf (λb o q=>W.of_hideAll _ q) NH mk λh' t f1 _ _ up=>⟨h',t,rfl,f1,up⟩)) (λ_ k8 ⟨⟨h',t,aX,f1,up⟩,hd⟩=>?_) λ_ _ z=>z.1.elim;subst aX;exact fin _ t h' (λb o q aq _=>W.hideAll_get _ q aq) ((Heap.UpToSlots.of_keeps mk.keeps).trans up) f1 λo q=>hd.get qB q
end
def rd(bG:Bool)(X:bI)(B:aJ)(tw:Addr)(S:bE)(n:Nat)(c n':Nat)(O:St)(H:aJ):Prop:=dr X.K B tw S n O H /\
 ∀ae e aN aj s',Exc bG X ae aj s' e aN->eI H aj->dn tw B aj->df tw n' aj->X.a3 (o6 c)=J ZI->X.cv (.ref e) s'
def kk(bG:Bool)(X:bI)(tw:Addr)(e:Expr)(d:dm):Prop:=∀B S n c n',d S n=J (c,n')->d6 X e (λO H _=>rd bG X B tw S n c n' O H)
def rf(bG:Bool)(X:bI)(tw:Addr)(st:Stmt)(d:dm):Prop:=∀B S n c n',d S n=J (c,n')->oK X st (λ_ O H=>rd bG X B tw S n c n' O H)
def lk(bG:Bool)(X:bI)(tw:Addr)(st:List Stmt)(d:dm):Prop:=∀B S n c n',d S n=J (c,n')->kp X st (λ_ O H=>rd bG X B tw S n c n' O H)
section
variable {bG:Bool}{X:bI}{tw:Addr}
def rd.step{n aM c n':Nat}(h:rd bG X B tw S n c n' O H)(x:eI H aj)(R:dr X.K B tw S' aM U' aj):rd bG X B tw S' aM c n' U' aj :=
 ⟨R,λae e aN bV s' a b=>h.2 ae e aN bV s' a<|x.trans b⟩
def gW.lift{st:Stmt}{d:bw}(h:gW X.lJ tw st d):gW X tw st d:=λB S n f S' n' hd ae s O H D I hw =>
 hj (h B S n f S' n' hd ae s O H D (I.nf _) hw) (λ_ _ q=>q.pI) λ_ _ z=>False.elim z
def SB.lift(h:SB X.lJ tw es d):SB X tw es d:=λB S n aA n' hd pos ae s O H Q I hw =>
 hj (h B S n aA n' hd pos ae s O H Q (I.nf _) hw) (λ_ _ ⟨ah,aj,eG,r,q⟩=>⟨ah,aj,eG.pI,r,q⟩) λ_ _ z=>False.elim z
def aiP{st:List Stmt}:lk bG X tw st fQ:=λB S n c n' hd=>by exists hd
def aky{st:Stmt}{d:dm}(h:rf bG X tw st d):lk bG X tw [st] d:=λB S n c n' hd=>Ov<|h B S n c n' hd
def QO{st:Stmt}{nP:List Stmt}{cM jw:dm}{a:bw}(af:rf bG X tw st cM)(ak:gW X tw st a)(bc:lk bG X tw nP jw):lk bG X tw (st::nP)<|dy cM a jw:=by
 intro B S n c n' hd ae s O H D I hw;unfold dy at hd;cases e:cM S n with
 |some r =>
  rw[e]at hd;cases hd;exact uV (af B S n c n' e) Dn ae s O H D I hw
 |none =>
  rw[e]at hd;obtain⟨⟨f,S1,aM⟩,az,au⟩:=cn hd;cases f with
  |bD=>exact uV (ak B S n .bD S1 aM az) (bc B S1 aM c n' au) ae s O H D I ⟨hw.1,λU' aj x y=>hw.step x y⟩
  |_=>exists au
def ag5{c:Expr}{a b:List Stmt}{gi:fa}{cM eW:dm}{pos:Pos}(aT:ST X tw c gi)(ba:lk bG X tw a cM)(aq:lk bG X tw b eW):rf bG X tw (.If c a b pos)<|fG gi cM eW:=by
 intro B S n uK n' hd ae s O H D I hw;obtain⟨⟨x,aM⟩,az,au⟩:=cn hd;refine wpAny_If (b2 (aT.run az I hw.1) λy s1 ⟨i7,H1,bf,a1,bt⟩=>?_);subst i7;cases y with
 |true=>exact ba B S aM uK n' au ae s1 O H1 D bf<|hw.step (a1.b0 hw.1.aQ) bt
 |false=>exact aq B S aM uK n' au ae s1 O H1 D bf<|hw.step (a1.b0 hw.1.aQ) bt
def QP{e:Expr}{d:dm}{pos:Pos}(h:kk bG X tw e d)(aP:autoParam (nA e C pos.line X.I=pure Y1) bu):rf bG X tw (.Expr e pos) d:=λB S n c n' hd=>zI (h B S n c n' hd) aP
def aiQ{e:Expr}{d:dm}{pos:Pos}(h:kk bG X tw e d):rf bG X tw (.Return (J e) pos) d:=λB S n c n' hd=>IC<|h B S n c n' hd
def ag6{c a b:Expr}{gi:fa}{cM eW:dm}{pos:Pos}(aT:ST X tw c gi)(ba:kk bG X tw a cM)(aq:kk bG X tw b eW):kk bG X tw (.IfExp c a b pos)<|fG gi cM eW:=by
 intro B S n uK n' hd ae s O H Q I hw;obtain⟨⟨x,aM⟩,az,au⟩:=cn hd;refine wpAny_IfExp (b2 (aT.run az I hw.1) λy s1 ⟨i7,H1,bf,a1,bt⟩=>?_);subst i7;cases y with
 |true=>exact ba B S aM uK n' au ae s1 O H1 Q bf<|hw.step (a1.b0 hw.1.aQ) bt
 |false=>exact aq B S aM uK n' au ae s1 O H1 Q bf<|hw.step (a1.b0 hw.1.aQ) bt
def vl(a3:Str->Option mt)(K:W.Frag)(tw:Addr)(dT:Nat)(f:e7):kV:=λah H _ E=>ah.H=dT/\∃aA n c n',Args K tw H aA ah/\df tw n H/\f aA n=J (c,n') /\
 ∀aN aj,a3 (o6 c)=J ZI->dn tw H aj->df tw n' aj->E ZI C aj
def aiR{P:dx}{w:c3}{K:W.Frag}{a3:Str->Option mt}{base:Heap}{x qual:Str}{st:Stmt}{f:Addr}{fd:hB}{N ps:List Str}{lv:Nat}{eW:dm}(F:qn K x qual st f fd)(cc:mE N ps<|eo st)
  (kJ:∀(c8:mt) (A:dH) (cj:List Env) (s:aR) (H:aJ) (E:iu),eC lv (A.deeper<|i3 qual (eo st) s.L f c8)->lk Y1 (jN (mw P w) P w K a3 base N qual (eo st) f c8 A cj s H E) tw (ig st) eW) :
  i0 P w K a3 base (mw P w) (lv+1) f fd ps (vl a3 K tw ps.H<|fnX N.H eW):=by
 obtain⟨js,hr,eA,doc,pm,an,c8,eD,qk,rfl,fM,g0⟩:=F.ex;refine Ug fM g0 cc (λah H Q E h=>h.1) λA cj s H ah Q E aV h=>?_;obtain⟨aB,aA,n,c,n',a,aQ,e,k⟩:=h;refine⟨_,kJ c8 A cj s H E aV H _ n c n' e,Jt a aQ,λae cu aN aj s' x _ cf bY ct=>?_⟩;exact amk (X:=jN (mw P w) P w K a3 base N qual (eo st) f c8 A cj s H E) rfl rfl rfl rfl x<|k aN aj ct cf bY
def x_run{f:e7}{lv:Nat}{da:Addr}{fd:hB}{ps:List Str}{dT c aM n':Nat}{aA:List<|T×Bool}{ae:List Z1}{O:St}{H1:aJ}{s1:aR}{us:List mt}{ah:List V}{Q:mt->aR->Prop}(F:i0 X.R X.w X.K X.a3 X.V (mw X.R X.w) lv da fd ps<|vl X.a3 X.K tw dT f)(aV:eC lv X.A)(aq:Binds X.K fd ps [])
  (bf:aS X ae O H1 s1) (r:cG ah us) (fb:df tw aM H1) (cN:Args X.K tw H1 aA ah) (aB:aA.H=dT) (au:f aA aM=J (c,n')) (k:∀e aN aj s',Exc Y0 X ae aj s' e aN->dn tw H1 aj->df tw n' aj->X.a3 (o6 c)=J ZI->X.cv (.ref e) s') :
  bl Z2 X.A (call (.ref da) us) Q X.cv s1:=by
 have k9:vl X.a3 X.K tw dT f ah H1 (λ_ _=>False) (λcl _ aj=>∃aN,cl=.ref aN/\X.a3 (o6 c)=J ZI/\dn tw H1 aj/\df tw n' aj):=⟨cN.H▸aB,aA,aM,c,n',cN,fb,au,λaN aj aX bb cK=>⟨aN,rfl,aX,bb,cK⟩⟩
 have ei:us.H=ps.H:=by rw[<-r.H];exact F.len _ _ _ _ k9
 have mu:=aq s1 us bf.hJ (by simpa using ei);rw[r6]at mu;refine uh (sh (F.run X.A X.stack s1 H1 ⟨us,[]⟩ us ah _ _ aV bf.LQ mu r k9) λhq s' a7=>?_);cases hq with
 |error ev =>
  obtain⟨cu,aN,bV,qc,t,rfl,os,ft,u,b1,acX,b8,mT,anA,aX,bb,cK,fV⟩:=a7
  exists aX
  exact k cu aN bV s' ⟨O,H1,s1,s'.Q,bf,os,ft,u,b1,.inl ⟨rfl,qc,t,acX,b8,mT⟩⟩ cK fV bb
 |ok Ew =>
  cases Ew with
  |ret u=>obtain⟨_,_,_,_,_,_,_,q⟩:=a7;exact q.elim
  |next=>exact False.elim a7
  |brk=>exact False.elim a7
  |cont=>exact False.elim a7
def akz{f:e7}{lv:Nat}{da:Addr}{fd:hB}{ps:List Str}{x:Str}{p pos:Pos}{e:Expr}{es:List Expr}{a:ix}{dT:Nat}(F:i0 X.R X.w X.K X.a3 X.V (mw X.R X.w) lv da fd ps<|vl X.a3 X.K tw dT f)(aV:eC lv X.A)(hm:X.a3 x=J (.ref da))(aW:W.keepIn X.K (.ref da)=Y0)
  (aq:Binds X.K fd ps []) (ba:SB X tw (e::es) a) (bT:autoParam (fv X x) bu) (fP:autoParam ZH eL) (he:autoParam ZN bu)
  (eR:autoParam ((ff pos<|b4 es X.I).any (·.1)=Y1) bu):kk bG X tw ZV<|d0 dT f a:=by
 intro B S n c n' hd ae s O H Q I ⟨R,k⟩;obtain⟨⟨aA,aM⟩,az,au⟩:=cn hd;by_cases aB:aA.H=dT
 ·rw[Y2 aB]at au;refine l5<|uU I bT hm ?_ fP;refine W.callWith_K (h₀:=X.V) I.ok.mod.fl aW (b2 (ba B S n aA aM az pos ae s O H (λah aj=>dn tw H aj/\df tw aM aj/\Args X.K tw aj aA ah) I ⟨R,λah aj x y z=>⟨x,y,z⟩⟩) λus s1 ⟨ah,H1,bf,r,bH,fb,cN⟩=>⟨bf.hJ,?_⟩) he eR;exact x_run F aV aq bf r fb cN aB au λe aN aj s' x cK fV bb=>k ae e aN aj s' x.weak ((bH.trans cK).b0 R.aQ) ((R.ext.trans bH).trans cK) fV bb
 ·rw[Y3 aB]at au;exists au
end
def Wo(K:W.Frag)(B:aJ)(tw:Addr)(S:bE)(n n':Nat):TE:=λO H Q=>dr K B tw S n O H/\∀v aj,dn tw H aj->df tw n' aj->Q v aj
def CB(X:bI)(tw:Addr)(e:Expr)(d:uv):Prop:=∀B S n n',d S n=J n'->d6 X e (Wo X.K B tw S n n')
def uL(X:bI)(tw:Addr)(k:Nat)(es:List Expr)(d:uv):Prop:=∀B S n n',d S n=J n'->∀(acc:Str) (ae:List Z1) (s:aR) (O:St) (H:aJ) (Q:V->aJ->Prop),acc.H<=1000*k->aS X ae O H s->dr X.K B tw S n O H->(∀v aj,dn tw H aj->df tw n' aj->Q v aj) ->
 bl Z2 X.A (joinParts acc<|evalEach es X.I) (f5 X ae O Q) X.cv s
section
variable {bG:Bool}{X:bI}{tw:Addr}
def aiS{j pos}:CB X tw (.Constant (.str x) j pos) md:=λB S n n' hd ae s O H Q I ⟨R,k⟩=>by
 exists hd
 exact IA ae s O H Q I<|k _ H (.refl _ _) R.aQ
def aiT{k:Nat}(aW:k<=100):uL X tw k [] md:=λB S n n' hd acc ae s O H Q ba I R q=>by
 exists hd
 refine joinParts_nil ⟨.str acc,H,I.tok _,⟨_,rfl⟩,q _ H (.refl _ _) R.aQ⟩<|bP ba ?_;rw[mI];omega
def Ex{a b:Str}{k:Nat}(af:a.H<=1000*k)(ak:b.H<=1000)(aW:k+1<=100):(a++b).H<=1000*(k+1)/\(a++b).H<=dg:=by rw[strLen_append,mI];omega
def aiU{k:Nat}{j pos}(h:uL X tw (k+1) es d)(aW:autoParam (k+1<=100) eL)(av:autoParam (x.H<=1000) eL):uL X tw k (.Constant (.str x) j pos::es) d:=λB S n n' hd acc ae s O H Q ba I R q=>by
 show bl _ _ (joinParts acc<|eval (.Constant (.str x) j pos) X.I::evalEach es X.I) _ _ s;refine joinParts_cons (b2 (IA ae s O H (λv aj=>v=.str x/\aj=H) I ⟨rfl,rfl⟩) λu s1 ⟨v,H1,bf,r,az,au⟩=>?_);subst az au;obtain⟨t,rfl⟩:=(show ∃t,u=.str x t from r)
 exact⟨(Ex ba av aW).2,h B S n n' hd _ ae s1 O _ Q (Ex ba av aW).1 bf R q⟩
def aiV{k:Nat}(he:bF X tw e ic)(h:uL X tw (k+1) es d)(aW:autoParam (k+1<=100) eL):uL X tw k (.FormattedValue e (-1) C pos::es)<|uw ic d:=λB S n n' hd acc ae s O H Q ba I R q=>by
 obtain⟨⟨t,m,aM⟩,az,au⟩:=cn hd;have⟨i,dQ,aP,a6⟩:∃i,t=.int i/\small i=Y0/\d S aM=J n':=by
  cases t with
  |int i =>
   have au:(if small i=Y0 then d S aM else C)=J n':=au;by_cases z:small i=Y0
   ·rw[Y2 z]at au;exact⟨i,rfl,z,au⟩
   ·rw[Y3 z]at au;exists au
  |_=>exists au
 subst dQ;show bl _ _ (joinParts acc<|eval (.FormattedValue e (-1) C pos) X.I::evalEach es X.I) _ _ s;refine joinParts_cons<|FormattedValue_plain (b2 (he.run az I R) λu s1 ⟨v,H1,bf,bA,a1,bt,b6⟩=>?_);have aU:=b6.root bt R.aQ;have aU:aI tw H1 (.int i) v:=aU;rw[aI]at aU;subst aU;obtain⟨bx,rfl⟩:=(show ∃t,u=.int i t from bA)
 have aB:i.natAbs.log2<1920:=by
  have af:i.natAbs<2^64:=of_decide_eq_true aP;by_cases z:i.natAbs=0
  ·rw[z];decide
  ·have:=(Nat.log2_lt z).mpr af;exact gS (ez this) Z0
 have ei:(Str.ofString<|toString i).H<=1000:=by have af:i.natAbs<10^20:=d4 (of_decide_eq_true aP) Z0;have ak:=int_text_length_le10 (k:=20) Z0 af;rw[PySem.ofString_length];exact bP ak Z0
 refine formatField_int_small aB ?_;have cR:aS X ae O H1 { s1 with toks:=s1.toks+1+1}:=bf.tok _;exact⟨(Ex ba ei aW).2,h B S aM n' a6 _ ae _ O H1 Q (Ex ba ei aW).1 cR bt λv aj x y=>q v aj (a1.trans x) y⟩
def akA(h:uL X tw 0 (a::b::es) d):CB X tw (.JoinedStr (a::b::es) pos) d:=λB S n n' hd ae s O H Q I ⟨R,k⟩ =>
 JoinedStr_many (h B S n n' hd Str.empty ae s O H Q Z0 I R k)
abbrev excMro:List mt:=[.type "ValueError",.type "Exception",.type "BaseException",.type "object"]
def akB{K:W.Frag}{h:Heap}{aN:Addr}{QQ:List mt}{En:String}(fl:K.In h)(z:W.excIn K aN QQ En=Y0) :
  ∃hV N nm uo bs hd sn sub ab col dd k0 k1 k2 k3 k5,h.get? aN=J (excClassObj nm uo aN N bs hV hd sn sub ab col dd k0 k1 k2 k3 k5 En)/\(∃mN,h.Ns N mN/\mN "__init__" = C)/\OwnTail h QQ hV:=by
 unfold W.excIn at z;cases fM:K.lookup aN with
 |none=>rw[fM]at z;exists z
 |some bJ =>
  rw[fM]at z;obtain⟨js,dd,hr,cX⟩:=bJ;have key:=fl _ _ fM;split at z
  ·rename_i d7 b6 s1 az
   exists az
   split at z
   ·rename_i HU hV iQ a1 a2 k4 acY sL cS fh;obtain⟨Wq,NI,anB,cs,Wr,ch,Ws,Wt,ca,co,anC⟩:=b6;simp only[f3,beq_iff_eq,M6]at z;obtain⟨⟨⟨⟨⟨cN,dD⟩,iN⟩,uB⟩,uC⟩,NJ⟩:=z;dsimp only at cS iN uC NJ;subst cN dD iN cS;have acZ:cX=#[iQ,a1,a2,k4,J<|.builtin acY,sL]:=by
     cases cX with
     |mk l=>exact congrArg Array.mk fh
    subst acZ;exact⟨hV,cs,Wq,Wr,NI,ch,Ws,Wt,ca,co,dd,iQ,a1,a2,k4,sL,key,⟨_,.of_isNs<|W.isNs_of_in fl uC,W.nsMap_none_of_in fl uC NJ⟩,W.tail_of_in fl uB⟩
   ·exists z
  ·exists z
def Ey{c:Nat}{aN:Addr}{e:Expr}{d:uv}{x:Str}{np eb pos:Pos}(aT:X.calm=Y0)(he:CB X tw e d)(hm:X.a3 x=J ZI)(av:x=o6 c)(q:W.excIn X.K aN excMro "ValueError.__new__" = Y0)(bT:autoParam (fv X x) bu)(fP:autoParam ZH eL)
  (aP:autoParam (b4 [e] X.I=[ZG]) bu):rf Y1 X tw (.Raise (J<|.Call (.Name x np) [e] [] eb) C pos)<|mX c d:=by
 intro B S n cH n' hd ae s O H D I ⟨R,k⟩;obtain⟨aM,az,au⟩:=dw hd;cases au;obtain⟨hV,N,nm,uo,bs,ac0,sn,sub,ab,col,dd,k0,k1,k2,k3,k5,oS,⟨mN,dJ,ac1⟩,T⟩:=akB I.mod.fl q;refine wpAny_Raise_call_subT («C»:=aN) (nm:=nm) (q:=uo) (N:=N) (bs:=bs) (bm:=hV) (hdct:=ac0) (sn:=sn) (sub:=sub) (ab:=ab) (col:=col) (dd:=dd) (k0:=k0) (k1:=k1) (k2:=k2) (k3:=k3) (k5:=k5)
  PySem.F.excBase_ValueError (mN:=mN) (T.hasType PySem.F.excBase_ValueError.hasBase) (I.ok.hd aT) (by rw[aP];rfl) ac1 (uU I bT hm ⟨rfl,?_⟩ fP)
 rw[aP];refine ub<|h9 (b2 (he B S n n' az ae s O H (λv aj=>dn tw H aj/\df tw n' aj) I ⟨R,λv aj x y=>⟨x,y⟩⟩) λu s1 ⟨v,H1,bf,bA,bH,fb⟩=>l4 ?_);refine⟨rfl,(show 1<=dg by rw[mI];decide),bf.gr _ _ oS,dJ.keeps bf.gr,T.keeps bf.gr,λh' cu mk=>?_⟩;exact k ae cu aN H1 { s1 with heap:=h'} ⟨O,H1,s1,s1.Q,bf,rfl,bf.ft,gd.same,bf.b1,.inr ⟨rfl,_,mk⟩⟩ (bH.b0 R.aQ) (R.ext.trans bH) fb (av▸hm)
def aiW{di iter:Expr}{body:List Stmt}{d:ib}{put:T->bE->Option bE}{b:bw}{eW:dm}{pos:Pos}(aF:yU Z2 X.A X.I X.cv)(aT:X.calm=Y0)(hi:z8 X tw di iter d)(bT:sC X tw di put)(aq:hZ X tw body b)(AN:lk bG X tw body eW)(aP:autoParam (∀x,oE iter X.I x=pure x) sA) :
  rf bG X tw (.For di iter body [] pos) (F0 d put b eW):=by
 intro B S n c n' hd ae s O H D I hw;obtain⟨⟨aA,aM⟩,az,au⟩:=cn hd;have R:=hw.1;have kJ:kp X body (λD O H=>(∃S n f S' n',b S n=J (f,S',n')/\wN X.K B tw S n f S' n' D O H)\/∃S n,eW S n=J (c,n')/\rd bG X B tw S n c n' O H):=λae s O H D I h=>by
  rcases h with⟨S,n,f,S',n',e,h⟩|⟨S,n,e,h⟩
  ·exact aq B S n f S' n' e ae s O H D I h
  ·exact AN B S n c n' e ae s O H D I h
 refine UJ aF aT (hi B S n aA aM az) bT kJ aP ae s O H D I ⟨R,λcO H1 bH fb it=>?_⟩;have bt:=R.mono bH fb;have ac2:=hw.step (bH.b0 R.aQ) bt;refine⟨λi m U' aj=>m=aA.H-i/\i<=aA.H/\eI H1 aj/\∃Si kY,dr X.K B tw Si kY U' aj/\s8 put b eW (aA.drop i) Si kY=J (c,n'),⟨aA.H,by simp,gG _,.refl _,S,aM,bt,by simpa using au⟩,?_⟩;rintro i m U2 bV ⟨rfl,ks,nZ,S2,bC,dj,a6⟩;have at2:=it bV bC dj.aQ nZ dj.ext i;by_cases dC:i<aA.H
 ·right;obtain⟨go,uz⟩:=at2.1 aA[i] (by simp[dC]);have y9:aA.drop i=aA[i]::aA.drop (i+1):=pJ dC;rw[y9]at a6;obtain⟨S3,bX,eQ⟩:=cn (show(put aA[i] S2).bind _=_ from a6);cases ex:eW S3 bC with
  |some r =>
   rw[ex]at eQ
   exists eQ
   refine⟨go,λU' aj=>False,λU' aj z=>z.elim,λx aj uA=>?_⟩;obtain⟨cv,mQ,jw⟩:=uz x aj uA;have lO:eI H1 aj:=nZ.trans<|cv.b0 dj.aQ;exact⟨B,S2,bC,aA[i],S3,dj.mono cv<|mQ bC dj.aQ,jw,bX,λU3 mf _=>.inr ⟨S3,bC,ex,ac2.step lO mf⟩⟩
  |none =>
   rw[ex]at eQ;obtain⟨⟨f4,S4,ht⟩,fN,gL⟩:=cn eQ;refine⟨go,λU' aj=>eI H1 aj/\dr X.K B tw S4 ht U' aj/\s8 put b eW (aA.drop<|i+1) S4 ht=J (c,n'),λU' aj ⟨cN,dD,iN⟩=>⟨aA.H-(i+1),by omega,rfl,dC,cN,S4,ht,dD,iN⟩,λx aj uA=>?_⟩;obtain⟨cv,mQ,jw⟩:=uz x aj uA;have lO:eI H1 aj:=nZ.trans<|cv.b0 dj.aQ;refine⟨B,S2,bC,aA[i],S3,dj.mono cv<|mQ bC dj.aQ,jw,bX,λU3 mf _=>.inl ⟨S3,bC,f4,S4,ht,fN,mf,?_⟩⟩;cases f4 with
   |bD=>exact λU' ed cN dD=>⟨lO.trans cN,dD,gL⟩
   |eD=>exact λU' ed cN dD=>⟨lO.trans cN,dD,gL⟩
   |gr=>exists gL
   |aU t kj=>exists gL
 ·left;have jG:aA.H<=i:=hR dC;rw[wa jG]at a6
  exists a6
end
noncomputable abbrev vm(X:bI)(e:mt)(p:List Z1):bI:={ X with A:=X.A.mark<|some e,calm:=Y1,cv:=λ_ _=>False,gC:=p}
noncomputable abbrev vn(X:bI)(E:mt->aR->Prop)(p:List Z1):bI:={ X with cv:=E,gC:=p}
section
variable {X:bI}{ae:List Z1}{O:St}{H aj:aJ}{s:aR}{e aN:Addr}{E oV:mt->aR->Prop}{Q:Unit->aR->Prop}
def aml(I:aS X ae O H s)(E:mt->aR->Prop):aS (vn X E<|X.gC++ae) [] O H s :=
 ⟨⟨I.ok.mod,I.ok.kind,I.ok.glob,I.ok.blt,I.ok.above,I.ok.inj,I.ok.has,I.ok.ri,I.ok.hd,I.ok.frames,I.ok.sQ,I.ok.sR,I.ok.bs,I.ok.mU,I.ok.rQ,I.ok.rR,I.ok.kD,I.ok.o1⟩,I.os,I.ft,I.V,I.loc,I.cell,I.free,I.kI,λp aF=>I.pin p (by simpa using aF),I.b1,I.len⟩
def AO(I:aS (vn X E<|X.gC++ae) Ga O H s):aS X ae O H s :=
 ⟨⟨I.ok.mod,I.ok.kind,I.ok.glob,I.ok.blt,I.ok.above,I.ok.inj,I.ok.has,I.ok.ri,I.ok.hd,I.ok.frames,I.ok.sQ,I.ok.sR,I.ok.bs,I.ok.mU,I.ok.rQ,I.ok.rR,I.ok.kD,I.ok.o1⟩,I.os,I.ft,I.V,I.loc,I.cell,I.free,I.kI,λp aF=>I.pin p<|pM _ aF,I.b1,I.len⟩
def QR(I:aS X ae O H s)(v:mt)(a7:∀p∈q,s.heap.get? p.1=J p.2/\H p.1=C/\p.1≠X.I.locals/\p.1∉X.cm/\∀v,p.2.d≠.cell v):aS (vm X v<|X.gC++q) ae O H s :=
 ⟨⟨I.ok.mod,I.ok.kind,I.ok.glob,I.ok.blt,I.ok.above,I.ok.inj,I.ok.has,I.ok.ri,λz=>(nomatch z),I.ok.frames,I.ok.sQ,I.ok.sR,I.ok.bs,I.ok.mU,I.ok.rQ,I.ok.rR,I.ok.kD,I.ok.o1⟩,I.os,I.ft,I.V,I.loc,I.cell,I.free,I.kI,
  λp aF=>by
   have aF:p∈(X.gC++q)++ae:=aF;rcases hQ.mp aF with z|z
   ·rcases hQ.mp z with z|z
    ·exact I.pin p<|pM _ z
    ·exact a7 p z
   ·exact I.pin p<|l1 _ z,I.b1,I.len⟩
def ac3(ok:X.Ok)(I:aS (vm X v<|X.gC++q) ae O H s):aS X ae O H s :=
 ⟨ok,I.os,I.ft,I.V,I.loc,I.cell,I.free,I.kI,λp aF=>I.pin p (by
  show p∈(X.gC++q)++ae;rcases hQ.mp aF with z|z
  ·exact pM _<|pM _ z
  ·exact l1 _ z),I.b1,I.len⟩
def akC(x:Exc Y0 (vn X E<|X.gC++ae) Ga aj s e aN):Exc Y0 X ae aj s e aN:=by obtain⟨O,lI,sc,h,I,r⟩:=x;exact⟨O,lI,sc,h,AO I,r⟩
def Exc.inv(x:Exc Y0 X ae aj s e aN):∃O oe,aS X ae O aj s/\s.heap.get? e=J oe/\oe.cls=.ref aN/\aj e=C/\e≠X.I.locals/\e∉X.cm/\(∀v,oe.d≠.cell v)/\oe.dict=C/\∃ah t,oe.d=.fields ah/\ah[0]?=J (.ref t):=by
 obtain⟨O,lI,sc,h,I,os,ft,u,b1,bp⟩:=x;rcases bp with⟨rfl,B,t,bG,b8,mT⟩|⟨z,_⟩
 ·have cO:aS X ae O aj s:=I.Gd os u b1 ft λb z=>absurd z Z7;obtain⟨oe,ah,aX,bb,cK,fV⟩:=bG.first;have nE:e∉hb X.stack:=λz=>by obtain⟨_,o,aZ,hd⟩:=cO.stack.mem z;rw[aX]at aZ;exists aZ;exact hd ah cK
  have zk:e≠X.I.locals:=λz=>by obtain⟨m,⟨o,es,ep,aZ,hd,_⟩,_⟩:=cO.loc;rw[<-z,aX]at aZ;exists aZ;rw[cK]at hd;exists hd
  have ac4:e∉X.cm:=λz=>by obtain⟨_,o,aZ,hd⟩:=cO.kD.mem z;rw[aX]at aZ;exists aZ;exact hd ah cK
  have bz:aj e=C:=by
   cases z:aj e with
   |none=>rfl
   |some y =>
    have:=b8 e oe aX nE (.inl<|by rw[z];simp);rw[bG.2.1]at this;exists this
  exact⟨O,oe,cO,aX,bb,bz,zk,ac4,(λv z=>by rw[cK]at z;exists z),mT oe aX,ah,t,cK,fV⟩
 ·exists z
def amm(qb:X.stack=X.I::cj)(hf:X.I.frame=J X.I.locals)(dt:A.frames=J X.stack)(x:Exc Y0 X ae aj s e aN)(a7:∀s3,Exc Y0 X ae aj s3 e aN->Q () s3) :
  bl Z2 A (noteFrame (.ref e) X.I) (λ_ s2=>bl Z2 A' (setFlight (.ref e) C) Q oV s2) E s:=by
 obtain⟨O,lI,sc,h,I,os,ft,u,b1,bp⟩:=x;rcases bp with⟨rfl,B,t,bG,b8,mT⟩|⟨z,_⟩
 ·have mP:=Kg I u;obtain⟨bJ,qB,_⟩:=bG.there;rw[qb]at dt;have Ew:=bG;rw[qb]at Ew;refine hj (QM.any (wpAny_looks_onW (Q:=λ_ k8=>∃h',k8={ s with heap:=h'}/\Heap.HeldW B (X.I::cj) e ZI (.ref t) X.I.locals h'/\s.heap.UpToSlots h') (E:=λ_ _=>False) dt hf Ew λh' f2 up=>⟨h',rfl,f2,up⟩)) (λ_ k8 ⟨⟨h',aX,f2,up⟩,hd⟩=>?_) λ_ _ z=>z.1.elim;subst aX;refine hj (Kf.any (wpAny_landsW (Q:=λ_ s3=>∃ef,s3={ s with heap:=ef}/\Heap.FlyingW B (X.I::cj) e ZI (.ref t) ef/\h'.UpToSlots ef) (E:=λ_ _=>False) f2 λef el vo=>⟨ef,rfl,el,vo⟩)) (λ_ s3 ⟨⟨ef,aX,el,vo⟩,Kh⟩=>?_) λ_ _ z=>z.1.elim;subst aX;obtain⟨f7,yh,kv⟩:=Mg u b1 b8 el.1 (up.trans vo) mP;refine a7 _ ⟨O,lI,sc,ef,I,os,ft,f7,yh,.inl ⟨rfl,B,t,?_,kv,λo q=>((hd.trans Kh).get qB q).trans (mT bJ qB)⟩⟩;rw[qb];exact el
 ·exists z
def ac5(x:Exc Y0 X ae aj s e aN)(a7:∀s3,Exc Y0 X ae aj s3 e aN->Q () s3):bl Z2 A (setFlight (.ref e) C) Q E s:=by
 obtain⟨O,lI,sc,h,I,os,ft,u,b1,bp⟩:=x;rcases bp with⟨rfl,B,t,bG,b8,mT⟩|⟨z,_⟩
 ·have mP:=Kg I u;obtain⟨bJ,qB,_⟩:=bG.there;refine hj (Kf.any (lands_againW (Q:=λ_ s3=>∃ef,s3={ s with heap:=ef}/\Heap.FlyingW B X.stack e ZI (.ref t) ef/\s.heap.UpToSlots ef) (E:=λ_ _=>False) bG λef el vo=>⟨ef,rfl,el,vo⟩)) (λ_ s3 ⟨⟨ef,aX,el,vo⟩,Kh⟩=>?_) λ_ _ z=>z.1.elim;subst aX;obtain⟨f7,yh,kv⟩:=Mg u b1 b8 el.1 vo mP;exact a7 _ ⟨O,lI,sc,ef,I,os,ft,f7,yh,.inl ⟨rfl,B,t,el,kv,λo q=>(Kh.get qB q).trans (mT bJ qB)⟩⟩
 ·exists z
end
structure tP (K:W.Frag) (aN D:Addr):Prop where
 sub:W.subIn K ZI (.ref D)=J Y0
structure Clause (K:W.Frag) (D:Addr):Prop where
 aD:W.instIn K (.ref D) (.type "tuple")=J Y1
 cls:(W.clsIn K D).isSome=Y0
 base:W.subIn K (.ref D) (.type "BaseException")=J Y0
def ac6{K:W.Frag}{M:Model}{A:dH}{E:mt->aR->Prop}{s:aR}{Q:Bool->aR->Prop}{e aN D:Addr}{oe:Obj}(fl:K.In s.Q)(he:s.heap.get? e=J oe)(aT:oe.cls=.ref aN)(cl:Clause K D)(bx:tP K aN D)(a7:Q Y0 s):bl M A (excMatches (.ref e)<|.ref D) Q E s:=by
 have HV:=W.looks_instIn (M:=M) fl cl.aD;have bj:=W.looks_subIn (M:=M) fl cl.V;have CD:=W.looks_subIn (M:=M) fl bx.sub;have NK:W.Looks M s.Q (isType<|.ref D) Y0:=by
  obtain⟨cd,q⟩:=yH.mp cl.cls;unfold W.clsIn at q;split at q
  ·rename_i aZ;intro A' e8 oV s' k eM;unfold isType loadHead;exact a8<|wpAny_loadPart (k _ _<|fl _ _ aZ)<|bZ eM
  ·exists q
 have Wu:W.Looks M s.Q (typeOf<|.ref e) ZI:=aT▸(W.Looks.ld he).andThen .now;have Wv:W.Looks M s.Q (isExcClass<|.ref D) Y0:=by unfold isExcClass;refine NK.andThen ?_;simp only[if_true];exact bj
 unfold excMatches
 repeat (first|(with_reducible refine HV.here ?_)|(with_reducible refine Wv.here ?_)|(with_reducible refine Wu.here ?_)|(with_reducible refine CD.here ?_)|wp_step)
 exact a7
section
variable {X:bI}{tw:Addr}{ae:List Z1}{O:St}{H aj:aJ}{s:aR}
def name_goes{i:Nat}(I:aS X ae O H s)(dJ:X.N.Nodup)(hi:X.N[i]?=J x)(aW:X.env.scope.names.lookup x=J .local)
  (h:∀s',aS X ae (O.set i C) H s'->Q () s'):bl M A (do bindName X.I x .none;unbindBehindTheSuite X.I x pos) Q E s:=by
 obtain⟨m,bz,aB⟩:=id I.loc;have LM:(X.I.Y.kind==.class||(X.I.Y.kind==.module&&X.I.locals != X.I.globals))=Y1:=by rw[I.ok.kind];rfl
 have o2:=I.o2;refine wpAny_nameGoes_keeps aW bz LM λh' v Iw aP=>?_;obtain⟨Nf,_,_,w9,_⟩:=id bz;have zk:∀b o,X.cD.heap.get? b=J o->b≠X.I.locals:=λb o e=>bv<|d4 (d5 e) I.ok.above;refine h _ ⟨I.ok,I.os,I.ft,⟨λb o e n aq av=>(aP.2 b<|zk b o e).trans (I.base.keep b o e n aq av),λb o e n aq av=>?_,I.V.free,λb o e av=>?_,I.V.pA,I.V.ob⟩,⟨_,Iw,λj y hS az au a6=>?_⟩,λy c e=>?_,I.free,I.kI,λp aF=>?_,λb bJ e=>?_,by simpa using I.len⟩
 ·obtain⟨cX,az⟩:=I.base.slot b o e n aq av;exact⟨cX,(aP.2 b<|zk b o e).trans az⟩
 ·obtain⟨dh,az⟩:=I.base.there b o e av;exact⟨dh,(aP.2 b<|zk b o e).trans az⟩
 ·have bU:j≠i:=λz=>by subst z;rw[ys]at au;simp only[if_true]at au;split at au<;>exists au
  rw[GJ<|Ne.symm bU]at au;obtain⟨fu,b5,q⟩:=aB j y hS az au a6;refine⟨fu,b5,?_⟩;rcases q with⟨k,e⟩|⟨k,c,e,z⟩
  ·have vi:y≠x:=λe=>bU<|Dl dJ az<|e▸hi;exact .inl ⟨k,by simp[vi,e]⟩
  ·exact .inr ⟨k,c,e,z.sameBut aP<|o2 y c e⟩
 ·obtain⟨fS,z⟩:=I.cell y c e;exact⟨fS,z.sameBut aP<|o2 y c e⟩
 ·obtain⟨e,n,ne,nE,d⟩:=I.pin p aF;exact⟨(aP.2 p.1 ne).trans e,n,ne,nE,d⟩
 ·exact(I.b1 b bJ e).pz (λfS q=>(aP.2 b<|by rintro rfl;rw[I.free]at e;cases e).trans q)
def dr.blank{K:W.Frag}{B:aJ}{S:bE}{n n':Nat}{O U':St}{H aj:aJ}(R:dr K B tw S n O H)(aB:U'.H=S.H)(x:dn tw B aj)(y:df tw n' aj):dr K B tw (List.replicate S.H C) n' U' aj:=by
 have no:∀(i:Nat) (p:T×bo),(List.replicate S.H (C:Option ZJ))[i]?≠J (J p):=λi p z=>by rw[BN]at z;split at z<;>exists z
 exact⟨x,y,R.la,by rw[ou,aB],λi t e=>(no i _ e).elim,λi t e=>(no i _ e).elim,λi t e=>(no i _ e).elim,λi t e=>(no i _ e).elim,λi j t t' a e=>(no i _ e).elim⟩
inductive ng (X:bI) (D:Addr):List Nat->Prop
 |nil:ng X D []
 |cons {c:Nat} {cs:List Nat} {aN:Addr}:X.a3 (o6 c)=J ZI->tP X.K aN D->ng X D cs->ng X D (c::cs)
theorem ng.at:∀{cs:List Nat},ng X D cs->∀{c:Nat} {aN:Addr},c∈cs->X.a3 (o6 c)=J ZI->tP X.K aN D
 |_,.cons hm bx r,c,aN,aT,e=>by
  rcases d3.mp aT with rfl|aT
  ·rw[hm]at e;exists e;exact bx
  ·exact ng.at r aT e
def aiX{n:Nat}(jB:X.stack=X.I::cj)(hf:X.I.frame=J X.I.locals)(aq:∀E p,hZ (vn X E p) tw body b)(AN:∀E p,lk Y0 (vn X E p) tw body eW)
  (I:aS X ae O H s) (R:dr X.K B tw S n O H)
  (af:eW S n=C->∃f S' n',b S n=J (f,S',n')/\KF X.K B tw f S' n' D H)
  (ak:∀c aM,eW S n=J (c,aM)->∀e aN aj s3,Exc Y0 X ae aj s3 e aN->eI H aj->dn tw B aj->df tw aM aj->X.a3 (o6 c)=J ZI->bl Z2 X.A (handleBy (.ref e) X.I [hd]) (oJ X ae D) X.cv s3) :
  bl Z2 X.A (exec (.Try body [hd] [] [] pos) X.I) (oJ X ae D) X.cv s:=by
 refine wpAny_Try_except ?_;have go:∀wZ:mt->aR->Prop,(∀c aM,eW S n=J (c,aM)->∀e aN aj s',Exc Y0 X ae aj s' e aN->eI H aj->dn tw B aj->df tw aM aj->X.a3 (o6 c)=J ZI->wZ (.ref e) s')->bl Z2 X.A (execs body X.I) (λf dM=>match f with|.next=>bl Z2 X.A (execs [] X.I) (oJ X ae D) X.cv dM|f=>oJ X ae D f dM) wZ s:=λwZ zj=>by
  have bf:=aml I wZ;cases av:eW S n with
  |none =>
   obtain⟨f,S',n',e,k⟩:=af av;refine b2 (aq wZ (X.gC++ae) B S n f S' n' e [] s O H D bf ⟨R,k⟩) λbG s1 q=>?_;cases bG with
   |next=>obtain⟨U',aj,cO,q⟩:=q;exact yR ⟨U',aj,AO cO,q⟩
   |brk=>obtain⟨U',aj,cO,q⟩:=q;exact⟨U',aj,AO cO,q⟩
   |cont=>obtain⟨U',aj,cO,q⟩:=q;exact⟨U',aj,AO cO,q⟩
   |ret u=>obtain⟨v,U',aj,cO,r,q⟩:=q;exact⟨v,U',aj,AO cO,r,q⟩
  |some r =>
   obtain⟨c,aM⟩:=r;refine b2 (AN wZ (X.gC++ae) B S n c aM av [] s O H { bD:=λ_ _=>False,aU:=λ_ _=>False} bf ⟨R,λGa e aN aj s' x f1 f2 el f4=>zj c aM av e aN aj s' (akC x) f1 f2 el f4⟩) λbG s1 q=>?_;cases bG with
   |next=>obtain⟨U',aj,cO,q⟩:=q;exact q.elim
   |brk=>obtain⟨U',aj,cO,q⟩:=q;exact(show False from q).elim
   |cont=>obtain⟨U',aj,cO,q⟩:=q;exact(show False from q).elim
   |ret u=>obtain⟨v,U',aj,cO,r,q⟩:=q;exact q.elim
 exact go _ λc aM av e aN aj s' x f1 f2 el f4=>amm jB hf I.ok.frames x λs3 bY=>ak c aM av e aN aj s3 bY f1 f2 el f4
def Uv(X:bI)(tw:Addr)(i:Nat)(Gj:List Stmt)(cs:List Nat)(h:Nat->Option T):Prop:=∀c t,c∈cs->h c=J t->∀aN,X.a3 (o6 c)=J ZI->∀(e:Addr) (oe:Obj),oe.cls=.ref aN->oe.dict=C->(∃ah,oe.d=.fields ah) ->
 ∃cE:bw,hZ (vm X (.ref e)<|X.gC++[(e,oe)]) tw Gj cE/\∀n,∃S',cE ((List.replicate X.N.H C).set i (J (.bJ e,.ag))) n=J (.aU t Y1,S',n)
def akD(i:Nat){body Gj:List Stmt}{NL:Stmt}{cs:List Nat}{b:bw}{eW:dm}{h:Nat->Option T}{D nm:Str}{gg:Addr}{q1 aF pos:Pos}{cj:List Env}(jB:X.stack=X.I::cj)(hf:X.I.frame=J X.I.locals)(aq:∀E p,hZ (vn X E p) tw body b)(AN:∀E p,lk Y0 (vn X E p) tw body eW)
  (ak:Uv X tw i (NL::Gj) cs h) (gV:X.a3 D=J (.ref gg)) (cl:Clause X.K gg) (nQ:ng X gg cs) (dJ:X.N.Nodup) (hi:autoParam (X.N[i]?=J nm) bu) (aW:autoParam (X.env.scope.names.lookup nm=J .local) bu) (bT:autoParam (fv X D) bu) (fP:autoParam ((D==("__debug__" : Str))=Y1) eL) :
  gW X tw (.Try body [.ExceptHandler (J<|.Name D q1) (J nm) (NL::Gj) aF] [] [] pos) (zZ cs b eW h):=by
 intro B S n f S' n' hd ae s O H CE I ⟨R,k⟩;unfold zZ at hd;refine aiX jB hf aq AN I R (λe=>?_) λc aM av e aN aj s3 x f1 f2 el f4=>?_
 ·rw[e]at hd;exact⟨f,S',n',hd,k⟩
 ·rw[av]at hd;have hd:(if c∈cs then(h c).map λt=>(hF.aU t Y1,S,aM) else C)=J (f,S',n'):=hd;by_cases aT:c∈cs
  ·rw[Y2 aT]at hd;obtain⟨t,az,au⟩:=dw hd;cases au;obtain⟨U3,oe,fT,aX,bb,cK,fV,hU,Ng,_⟩:=x.inv;have Ww:aS (vm X (.ref e)<|X.gC++[]) ae U3 aj s3:=QR fT _ λp aF=>absurd aF Z7;refine wpAny_handleBy_cons (codeAny_handlers_test<|uU Ww bT gV ?_ fP) (by intro z;cases z);refine ac6 (M:=bg X.R X.w) fT.hJ aX bb cl (nQ.at aT f4) ?_;refine codeAny_handlers_suite_as (ac5 x λs4 ct=>?_);obtain⟨U4,Ez,ha,dB,c7,jy,sI,CF,Wx,Wy,ah,tt,Wz,anD⟩:=ct.inv;obtain⟨cE,g1,g2⟩:=ak c t aT az aN f4 e Ez c7 Wy ⟨ah,Wz⟩;obtain⟨S2,g2⟩:=g2 n'
   have WA:aS (vm X (.ref e)<|X.gC++[(e,Ez)]) ae U4 aj s4:=QR ha _ (λp aF=>by
    have:p=(e,Ez):=by simpa using aF
    subst this
    exact⟨dB,jy,sI,CF,Wx⟩)
   have aB:U4.H=S.H:=by rw[ha.len,R.len,I.len]
   have vp:X.N.H=S.H:=by rw[R.len,I.len]
   refine Iz (X:=vm X (.ref e)<|X.gC++[(e,Ez)]) (v:=.ref e) WA dJ hi (.inl aW) rfl (λs5 WB=>?_)<|.inr aW;have zb:dr X.K B tw (List.replicate S.H C) n' U4 aj:=R.blank aB f2 el;have HK:=zb.pE (i:=i) (t:=.bJ e) (v:=.ref e) (by rw[aI]);rw[vp]at g2;refine hj (g1 B _ n' (.aU t Y1) S2 n' g2 ae s5 _ aj { bD:=λ_ _=>False,aU:=CE.aU} WB ⟨HK,k.b0 f1⟩) (λbG ju q=>?_) λ_ _ z=>False.elim z;cases bG with
   |next=>obtain⟨U',aj,cO,q⟩:=q;exact q.elim
   |brk=>obtain⟨U',aj,cO,q⟩:=q;exact(show False from q).elim
   |cont=>obtain⟨U',aj,cO,q⟩:=q;exact(show False from q).elim
   |ret u =>
    obtain⟨v,U',ed,cO,r,q⟩:=q;exact name_goes (ac3 I.ok cO) dJ hi aW λoN WC=>⟨v,_,ed,WC,r,q⟩
  ·rw[Y3 aT]at hd;exists hd
end
structure lS (K:W.Frag) (aN:Addr):Prop where
 cls:(W.clsIn K aN).isSome=Y0
 ga:W.findIn K ZI "__getattribute__" = J (J<|.builtin "BaseException.__getattribute__")
 gt:W.findIn K ZI "__getattr__" = J C
 cl:W.findIn K ZI "__class__" = J (J<|.builtin "object.__class__")
 get:W.specialIn K (.builtin "object.__class__") "__get__" = J (J<|.builtin "getset_descriptor.__get__")
 bx:W.takesIn K (.builtin "object.__class__")=J Y0
 be:W.subIn K ZI (.type "BaseException")=J Y0
 bJ:W.mroIn K aN (.type "object")=J Y0
section
variable {K:W.Frag}{x aN:Addr}{CG:Obj}
def aiY(X:lS K aN)(fl:K.In h):W.Looks M h (isType ZI) Y0:=by
 obtain⟨cd,q⟩:=yH.mp X.cls;unfold W.clsIn at q;split at q
 ·rename_i aZ;intro A' e8 oV s' k eM;unfold isType loadHead;exact a8<|wpAny_loadPart (k _ _<|fl _ _ aZ)<|bZ eM
 ·exists q
def QS(X:lS K aN):W.findObj K aN C "__class__" = J (.bind (.builtin "getset_descriptor.__get__")<|.builtin "object.__class__"):=by obtain⟨cd,q⟩:=yH.mp X.cls;unfold W.findObj;rw[q,eN,X.cl,eN];have az:=X.get;have au:=X.bx;show(Option.bind (W.specialIn K (.builtin "object.__class__") "__get__") _)=_;rw[az,eN];show(Option.bind (W.takesIn K<|.builtin "object.__class__") _)=_;rw[au];rfl
def ac7(X:lS K aN){prog:dx}{w:c3}{A:dH}{E:mt->aR->Prop}{bp:Heap}{g:Array GenState}{d:Drawn}{t:Nat}{os:OsState}{bx:Tok}{Q:Fin->aR->Prop}(fl:K.In bp)(I:W.InstAt bp x CG aN C)(a7:Q (.done<|.ret ZI) ⟨bp,g,d,t,os⟩) :
  bl Z9 A (Builtin.«object.__getattribute__» ⟨[.ref x,.str "__class__" bx],[]⟩) Q E ⟨bp,g,d,t,os⟩:=by
 have CI:=I.type (M:=bg prog w);have CD:=W.looks_find (M:=bg prog w) fl I<|QS X;refine a8 (m:=slotArgs "__getattribute__" 1 ⟨[.ref x,.str "__class__" bx],[]⟩)<|bZ<|a8<|bZ<|a8<|CI.at<|a8<|CD.at ?_;show bl _ _ (Builtin.ObjectAttr.bindTo (.builtin "getset_descriptor.__get__") (.builtin "object.__class__") (.ref x) ZI) _ _ _;show bl _ _ (oG [.builtin "object.__class__"] (call (.builtin "getset_descriptor.__get__") [.builtin "object.__class__",.ref x,.ref aN]) >>= ret) _ _ _;exact a8<|jo<|uh<|W.class_get (s:=⟨bp,g,d,t,os⟩) fl I X.bJ<|bZ a7
def amn(X:lS K aN){prog:dx}{w:c3}{A:dH}{bp:Heap}{g:Array GenState}{d:Drawn}{t:Nat}{os:OsState}{bx:Tok}{R:sq->aR->Prop}(fl:K.In bp)(I:W.InstAt bp x CG aN C)(a7:R (.ok<|.ret ZI) ⟨bp,g,d,t,os⟩) :
  ki Z9 A (.call (.builtin "BaseException.__getattribute__") ⟨[.ref x,.str "__class__" bx],[]⟩) R ⟨bp,g,d,t,os⟩:=by
 have aW:builtinKind "BaseException.__getattribute__" = J .slot:=by decide+kernel
 have aP:splitId "BaseException.__getattribute__" = J ("BaseException","__getattribute__"):=by decide+kernel
 have L:W.Looks Z9 bp (isInstance (.ref x)<|.type "BaseException") Y0:=(I.type (M:=bg prog w)).andThen (W.looks_subIn fl X.be);have bT:qY "BaseException.__getattribute__" ⟨.ref x::[.str "__class__" bx],[]⟩:=PySem.F.args_bexc_ga (.ref x) _;refine Hg PySem.F.attrBase_ValueError.ga.plain PySem.F.entry_bexc_ga ?_;refine W.check_slot (i:="BaseException.__getattribute__") (owner:="BaseException") (n:="__getattribute__") (self:=.ref x) (rest:=[.str "__class__" bx]) (kw:=[]) aW aP L bT ?_;exact ac7 X fl I a7
def ac8(X:lS K aN)(fl:K.In s.Q)(I:W.InstAt s.Q x CG aN C)(a7:Q (J ZI) { s with toks:=s.toks+1}) :
  bl Z9 A (getAttr? (.ref x) "__class__") Q E s:=by
 obtain⟨bp,g,d,t,os⟩:=s;have CI:=I.type (M:=bg prog w);have HV:=W.looks_findIn (M:=bg prog w) fl X.ga;have bj:=W.looks_findIn (M:=bg prog w) fl X.gt;have CD:=W.looks_find (M:=bg prog w) fl I<|QS X;have NK:W.Looks Z9 bp (isInstance (.ref x)<|.type "BaseException") Y0:=CI.andThen<|W.looks_subIn fl X.be;have QA:(Value.builtin "BaseException.__getattribute__" == Value.builtin "object.__getattribute__")=Y1:=by decide+kernel
 unfold getAttr? getAttrBy? getAttrBy;refine a8<|wpAny_mkText<|a8<|wy<|jo<|a8<|CI.at<|a8<|HV.at ?_;dsimp only;rw[QA,wt];simp only[jm,if_false];unfold getAttrByItsOwn hookBefore;refine a8 ?_;rw[Y2 (show onTheHeap (Value.ref aN)=Y0 from rfl)];refine bj.at ?_;refine a8<|wy<|jo ?_;unfold callGetattribute;simp only[se,jm,if_false];unfold boundAndCalled;have el:=PySem.F.attrBase_ValueError.ga.bind<|.ref x;refine a8 ?_;rw[el];refine bZ ?_;exact uh<|amn X fl I<|W.handed_on rfl<|bZ a7
def akE(X:lS K aN):W.KitX K (.ref x) ZI (λh=>W.InstAt h x CG aN C) where
 ty:=λ_ _ _ I=>I.type
 it:=λ_ _ fl _=>aiY X fl
 ne:=λh tp dd a5 n cX fl ac9=>by
  obtain⟨cd,q⟩:=yH.mp X.cls;refine Bool.eq_false_iff.mpr λz=>?_;have e:aN=tp:=Value.ref.inj<|beq_iff_eq.mp z;subst e;unfold W.clsIn at q;split at q
  ·rename_i aZ;have z:=(fl _ _ aZ).symm.trans ac9
   exists z
  ·exists q
 ca:=λfl I k=>ac8 X fl I k
end
section
variable {X:bI}{tw:Addr}
def akF{e n:Nat}{b:Bool}(h:mY e b n [t]=J r):t=.bJ e/\r=(.aC b,.ag):=by
 cases t with
 |bJ y =>
  have h:(if y=e then J (T.aC b,bo.ag) else C)=J r:=h;by_cases z:y=e
  ·rw[Y2 z]at h;exists h;exact⟨by rw[z],rfl⟩
  ·rw[Y3 z]at h;exists h
 |_=>exists h
def Vb{e aN:Addr}{oe:Obj}{ev:Expr}{b:Bool}{d:bM}{x:Str}{w0:mt}{p gM pos:Pos}(aF:(e,oe)∈X.gC)(aT:oe.cls=.ref aN)(qC:oe.dict=C)(bS:∃ah,oe.d=.fields ah)(iO:lS X.K aN)(h:bF X tw ev d)(aW:W.kitOne X.K ZI w0=J b)(hm:X.a3 "isinstance" = C)
  (ld:∀{ae:List Z1} {s:aR} {O:St} {H:aJ} {Q:mt->aR->Prop},aS X ae O H s->Q w0 s->bl Z2 X.A (eval (.Name x gM) X.I) Q X.cv s) (bT:fv X "isinstance")
  (he:b4 [ev,.Name x gM] X.I=(Y1,eval ev X.I)::b4 [.Name x gM] X.I) (lg:b4 [.Name x gM] X.I=(Y1,eval (.Name x gM) X.I)::b4 [] X.I) (eR:(ff pos<|b4 [.Name x gM] X.I).any (·.1)=Y1) (aq:l6 "isinstance" = J (.builtin "isinstance")) :
  bF X tw (.Call (.Name "isinstance" p) [ev,.Name x gM] [] pos) (aH (mY e b)<|aa d ar):=by
 intro B S n t m n' hd ae s O H Q I ⟨R,mb⟩;obtain⟨t0,m0,f1,a6⟩:=DH hd;have⟨dQ,hD⟩:=akF (show mY e b n' [t0]=J (t,m) from a6)
 exists hD
 subst dQ;refine l5<|k7 I bT hm aq ?_;refine PyProof.Rows.callWith_builtin1 ?_ he eR;rw[he];refine h9 (b2 (h.run f1 I R) λu s1 ⟨v,H1,bf,bA,a1,bt,b6⟩=>?_);rw[lg];refine h9<|ld bf ?_;refine l4 ?_;have aU:aI tw H1 (.bJ e) v:=b6.root bt R.aQ;rw[aI]at aU;subst aU;obtain rfl:u=Value.ref e:=bA;have q:=(bf.pin (e,oe)<|pM _ aF).1;obtain⟨ah,bS⟩:=bS;have cO:W.InstAt s1.Q e oe aN C:=⟨q,aT,by unfold W.notCls;rw[bS],by rw[qC];trivial⟩
 refine W.kia_one (akE iO) bf.hJ cO aW (λz=>nomatch z) λbx=>?_;exact⟨.aC b,H1,bf.tok bx,rfl,mb _ H1 a1 bt.aQ<|by show aI tw H1 (.aC b) _;rw[aI]⟩
def xM{e aN D:Addr}{oe:Obj}{ev:Expr}{b:Bool}{d:bM}{x:Str}{p gM pos:Pos}(aF:(e,oe)∈X.gC)(aT:oe.cls=.ref aN)(qC:oe.dict=C)(bS:∃ah,oe.d=.fields ah)(iO:lS X.K aN)(h:bF X tw ev d)(aW:W.kitOne X.K ZI (.ref D)=J b)(hm:X.a3 "isinstance" = C)(gV:X.a3 x=J (.ref D))
  (bT:autoParam (fv X "isinstance") bu) (Ki:autoParam (fv X x) bu) (fP:autoParam ZH eL)
  (he:autoParam (b4 [ev,.Name x gM] X.I=(Y1,eval ev X.I)::b4 [.Name x gM] X.I) bu) (lg:autoParam (b4 [.Name x gM] X.I=(Y1,eval (.Name x gM) X.I)::b4 [] X.I) bu) (eR:autoParam ((ff pos<|b4 [.Name x gM] X.I).any (·.1)=Y1) bu) (aq:autoParam (l6 "isinstance" = J (.builtin "isinstance")) az11._auto_1) :
  bF X tw (.Call (.Name "isinstance" p) [ev,.Name x gM] [] pos) (aH (mY e b)<|aa d ar) :=
 Vb aF aT qC bS iO h aW hm (λI q=>uU I Ki gV q fP) bT he lg eR aq
def aiZ{e aN:Addr}{oe:Obj}{ev:Expr}{b:Bool}{d:bM}{x:Str}{TT:String}{p gM pos:Pos}(aF:(e,oe)∈X.gC)(aT:oe.cls=.ref aN)(qC:oe.dict=C)(bS:∃ah,oe.d=.fields ah)(iO:lS X.K aN)(h:bF X tw ev d)(aW:W.kitOne X.K ZI (.type TT)=J b)(hm:X.a3 "isinstance" = C)(gV:X.a3 x=C)(ada:l6 x=J (.type TT))
  (bT:autoParam (fv X "isinstance") bu) (Ki:autoParam (fv X x) bu) (bz:autoParam (x ≠ "__name__") eL) (fP:autoParam ZH eL)
  (he:autoParam (b4 [ev,.Name x gM] X.I=(Y1,eval ev X.I)::b4 [.Name x gM] X.I) bu) (lg:autoParam (b4 [.Name x gM] X.I=(Y1,eval (.Name x gM) X.I)::b4 [] X.I) bu) (eR:autoParam ((ff pos<|b4 [.Name x gM] X.I).any (·.1)=Y1) bu) (aq:autoParam (l6 "isinstance" = J (.builtin "isinstance")) az11._auto_1) :
  bF X tw (.Call (.Name "isinstance" p) [ev,.Name x gM] [] pos) (aH (mY e b)<|aa d ar) :=
 Vb aF aT qC bS iO h aW hm (λI q=>k7 I Ki gV ada q bz fP) bT he lg eR aq
end
structure r1 (k:Nat) (A:dH):Prop where
 q1:A.depth+3*k+5<Ho
 un:A.units+16*k+200<ir
def eC.held{k:Nat}(r:eC k A)(v:Option mt):r1 k<|A.mark v:=⟨r.q1,r.un⟩
def r1.Cz{k:Nat}(r:r1 k A):A.units+6<ir:=by have:=r.un;omega
def r1.Gv{k:Nat}(r:r1 k A):A.units<ir:=by have:=r.un;omega
def Holds(cj:List Env)(H:aJ)(h:Heap)(q:List Z1):Prop:=∀p∈q,h.get? p.1=J p.2/\H p.1=C/\p.1∉hb cj/\∀v,p.2.d≠.cell v
structure EA (P:dx) (w:c3) (K:W.Frag) (a3:Str->Option mt) (base:Heap) (k:Nat) (f:Addr) (fd:hB) (ps:List Str) (q:List Z1) (sp:kV):Prop where
 len:∀ah H Q E,sp ah H Q E->ah.H=ps.H
 run:∀(A:dH) (cj:List Env) (s:aR) (H:aJ) (args:PySem.Args) (us:List mt) (ah:List V) (Q:fg),r1 k A->yb P w K a3 base A cj s H->uj s fd args (ps.zip us)->cG ah us->Holds cj H s.Q q->sp ah H Q q2 ->
  ki (bg P w) A (.call (.ref f) args) (Ni iA cj P w H s Q q2) s
noncomputable abbrev Vc(q:List Z1)(P:dx)(w:c3)(K:W.Frag)(a3:Str->Option mt)(base:Heap)(N:List Str)(qual:Str)(scope:jq)(f:Addr)(cd:mt)(A:dH)(cj:List Env)(s:aR)(H:aJ):bI :=
 { jN iA P w K a3 base N qual scope f cd A cj s H q2 with calm:=Y1,gC:=q,cv:=λ_ _=>False}
def ai0{tw:Addr}{P:dx}{w:c3}{K:W.Frag}{a3:Str->Option mt}{base:Heap}{x qual:Str}{st:Stmt}{f:Addr}{fd:hB}{N ps:List Str}{lv:Nat}{b:bw}{q:List Z1}(F:qn K x qual st f fd)(cc:mE N ps<|eo st)
  (kJ:∀(c8:mt) (A:dH) (cj:List Env) (s:aR) (H:aJ),r1 lv (A.deeper<|i3 qual (eo st) s.L f c8)->hZ (Vc q P w K a3 base N qual (eo st) f c8 A cj s H) tw (ig st) b) :
  EA P w K a3 base (lv+1) f fd ps q (nX K tw ps.H<|c0 N.H b):=by
 obtain⟨js,hr,eA,doc,pm,an,c8,eD,qk,rfl,fM,g0⟩:=F.ex;refine⟨λah H Q E h=>h.1,λA cj s H args us ah Q aV dE aq r a7 k9=>?_⟩;obtain⟨aB,aA,n,t,m,n',a,aQ,e,k⟩:=k9;obtain⟨⟨bG,S',aM⟩,az,au⟩:=cn e;have fl:K.In s.Q:=dE.mod.fl.keeps λb o z=>(dE.bs b o z).1;have nV:s.Q.NoLimit:=dE.mod.nolimit.keeps λb o z=>(dE.bs b o z).1;have kinds:∀y∈ps.zip us,(eo st).names.lookup y.1=J .local\/((eo st).names.lookup y.1=J .cell/\((cellsFrom (s.L+1) (eo st).e []).lookup y.1).isSome=Y0):=λ⟨bH,cf⟩ aK=>by
  rcases cc.par bH (BQ aK).1 with z|z
  ·exact .inl z
  ·exact .inr ⟨z,W.cellsFrom_some _ _ _<|.inl z⟩
 refine codeAny_call_function (by have:=aV.q1;omega) (fl _ _ fM) rfl cc.co cc.gen rfl (W.codeRec_of fl g0)<|aq _ _ _ _ ?_;refine Na cc.kind kinds λenv he s1 x=>?_;subst he;refine⟨nV.keeps x.toInCall.keep,codeAny_func ?_⟩;have adb:yb P w K a3 base { A with handled:=C} cj s H:=⟨dE.frames,dE.mod,dE.bs,dE.mU,dE.kD,dE.o1,dE.b1,dE.ft⟩
 have f6:aS (jN iA P w K a3 base N qual (eo st) f c8 { A with handled:=C} cj s H q2) [] (start N ah) H s1:=OH cc rfl adb aB r x;have I:aS (Vc q P w K a3 base N qual (eo st) f c8 A cj s H) [] (start N ah) H s1 :=
  ⟨⟨f6.ok.mod,f6.ok.kind,f6.ok.glob,f6.ok.blt,f6.ok.above,f6.ok.inj,f6.ok.has,f6.ok.ri,λz=>(nomatch z),Around.frames_deeper dE.frames,f6.ok.sQ,f6.ok.sR,f6.ok.bs,f6.ok.mU,f6.ok.rQ,f6.ok.rR,f6.ok.kD,f6.ok.o1⟩,f6.os,f6.ft,f6.V,f6.loc,f6.cell,f6.free,f6.kI,λp aF=>by
   obtain⟨af,ak,bc,cL⟩:=a7 p (by simpa using aF)
   exact⟨x.toInCall.keep _ _ af,ak,bv<|d4 (d5 af) f6.ok.above,bc,cL⟩,f6.b1,f6.len⟩
 have n2:r1 lv<|A.deeper<|i3 qual (eo st) s.L f c8:=⟨by have:=aV.q1;show A.depth+1+3*lv+5<_;omega,by have:=aV.un;show A.units+3+16*lv+200<_;omega⟩
 have aW:KF K H tw bG S' aM { bD:=λ_ aj=>Q .br aj,aU:=Q} H:=by
  cases bG with
  |aU t0 m0=>exists au;exact λv aj _ x y z=>k v aj x y z
  |bD=>exists au;exact λU' aj _ R=>k .br aj R.ext R.aQ (by show aI tw aj .br _;rw[aI])
  |gr=>exists au
  |eD=>exists au
 refine hj (kJ c8 A cj s H n2 H _ n bG S' aM az [] s1 (start N ah) H _ I ⟨Jt a aQ,aW⟩) (λWD s' aP=>?_) λ_ _ z=>False.elim z;cases WD with
 |ret u =>
  obtain⟨v,U',aj,cO,bq,q⟩:=aP;exact⟨v,aj,cO.os,cO.ft,cO.V,cO.b1,bq,q⟩
 |next =>
  obtain⟨U',aj,cO,q⟩:=aP;exact⟨.br,aj,cO.os,cO.ft,cO.V,cO.b1,rfl,q⟩
 |brk=>obtain⟨_,_,_,q⟩:=aP;exact(show False from q).elim
 |cont=>obtain⟨_,_,_,q⟩:=aP;exact(show False from q).elim
section
variable {X:bI}{tw:Addr}
def amo{f:cY}{lv:Nat}{da:Addr}{fd:hB}{ps:List Str}{x:Str}{p pos:Pos}{e:Expr}{es:List Expr}{a:ix}{dT:Nat}{q:List Z1}(F:EA X.R X.w X.K X.a3 X.V lv da fd ps q<|nX X.K tw dT f)(aV:r1 lv X.A)(a7:∀y∈q,y∈X.gC)(jB:X.stack=X.I::X.cj)(hf:X.I.frame=J X.I.locals)(hm:X.a3 x=J (.ref da))(aW:W.keepIn X.K (.ref da)=Y0)
  (aq:Binds X.K fd ps []) (ba:SB X tw (e::es) a) (bT:autoParam (fv X x) bu) (fP:autoParam ZH eL) (he:autoParam ZN bu)
  (eR:autoParam ((ff pos<|b4 es X.I).any (·.1)=Y1) bu):bF X tw ZV<|bB dT f a:=by
 intro B S n t m n' hd ae s O H Q I ⟨R,k⟩;obtain⟨⟨aA,aM⟩,az,au⟩:=cn hd;by_cases aB:aA.H=dT
 ·rw[Y2 aB]at au;obtain⟨⟨t1,cS,bC⟩,a6,bX⟩:=dw au;cases bX;refine l5<|uU I bT hm ?_ fP;refine W.callWith_K (h₀:=X.V) I.ok.mod.fl aW (b2 (ba B S n aA aM az pos ae s O H (λah aj=>dn tw H aj/\df tw aM aj/\Args X.K tw aj aA ah) I ⟨R,λah aj x y z=>⟨x,y,z⟩⟩) λus s1 ⟨ah,H1,bf,r,bH,fb,cN⟩=>⟨bf.hJ,?_⟩) he eR;have k9:nX X.K tw dT f ah H1 Q q2:=⟨cN.H▸aB,aA,aM,t1,cS,bC,cN,fb,a6,λv ed a b c=>k v ed (bH.trans a) b<|c.base.back bH fb⟩
  have ei:us.H=ps.H:=by rw[<-r.H];exact F.len _ _ _ _ k9
  have mu:=aq s1 us bf.hJ (by simpa using ei);rw[r6]at mu;have bp:Holds X.stack H1 s1.Q q:=λy aK=>by
   obtain⟨af,ak,bc,cL,ef⟩:=bf.pin y<|pM _<|a7 y aK;refine⟨af,ak,λz=>?_,ef⟩;rw[jB]at z;have z:y.1∈(X.I::X.cj).filterMap (·.frame):=z;rw[r4,hf]at z;rcases d3.mp z with z|z
   ·exact bc z
   ·exact cL z
  refine uh (sh (F.run X.A X.stack s1 H1 ⟨us,[]⟩ us ah _ aV bf.LQ mu r bp k9) λhq s' n3=>?_);cases hq with
  |error ev=>exact False.elim n3
  |ok bG =>
   cases bG with
   |ret u=>exact bf.after n3
   |next=>exact False.elim n3
   |brk=>exact False.elim n3
   |cont=>exact False.elim n3
 ·rw[Y3 aB]at au;exists au
def mx{x:Str}{pos:Pos}{da:Addr}(hm:X.a3 x=J (.ref da))(bT:autoParam (fv X x) bu)(hd:autoParam ZH eL):bF X tw (.Name x pos) (aw<|.bJ da) :=
 ye (Ou bT hm (v:=.ref da) rfl hd) λ_=>by rw[aI]
inductive oq (X:bI) (tw:Addr):List Addr->List (Nat×cY)->Prop
 |nil:oq X tw [] []
 |cons {da:Addr} {AP:List Addr} {dT:Nat} {f:cY} {cm:List<|Nat×cY} {lv:Nat} {fd:hB} {ps:List Str}:i0 X.R X.w X.K X.a3 X.V iA lv da fd ps (nX X.K tw dT f)->eC lv X.A->W.keepIn X.K (.ref da)=Y0->Binds X.K fd ps []->oq X tw AP cm->oq X tw (da::AP) ((dT,f)::cm)
inductive ot (X:bI) (tw:Addr):List Addr->List (Nat×e7)->Prop
 |nil:ot X tw [] []
 |cons {da:Addr} {AP:List Addr} {dT:Nat} {f:e7} {cm:List<|Nat×e7} {lv:Nat} {fd:hB} {ps:List Str}:i0 X.R X.w X.K X.a3 X.V (mw X.R X.w) lv da fd ps (vl X.a3 X.K tw dT f)->eC lv X.A->W.keepIn X.K (.ref da)=Y0->Binds X.K fd ps []->ot X tw AP cm->ot X tw (da::AP) ((dT,f)::cm)
theorem oq.at:∀{as:List Addr} {cm:List (Nat×cY)},oq X tw as cm->∀{i:Nat} {g:Nat×cY},cm[i]?=J g->∃da lv fd ps,as[i]?=J da/\i0 X.R X.w X.K X.a3 X.V iA lv da fd ps (nX X.K tw g.1 g.2)/\eC lv X.A/\W.keepIn X.K (.ref da)=Y0/\Binds X.K fd ps []
 |_,_,.cons af ak bc cL r,0,_,e=>by exists e;exact⟨_,_,_,_,rfl,af,ak,bc,cL⟩
 |_,_,.cons af ak bc cL r,i+1,_,e=>oq.at r (i:=i) (by simpa using e)
theorem ot.at:∀{as:List Addr} {cm:List (Nat×e7)},ot X tw as cm->∀{i:Nat} {g:Nat×e7},cm[i]?=J g->∃da lv fd ps,as[i]?=J da/\i0 X.R X.w X.K X.a3 X.V (mw X.R X.w) lv da fd ps (vl X.a3 X.K tw g.1 g.2)/\eC lv X.A/\W.keepIn X.K (.ref da)=Y0/\Binds X.K fd ps []
 |_,_,.cons af ak bc cL r,0,_,e=>by exists e;exact⟨_,_,_,_,rfl,af,ak,bc,cL⟩
 |_,_,.cons af ak bc cL r,i+1,_,e=>ot.at r (i:=i) (by simpa using e)
theorem QT:oq X tw as cm->as.H=cm.H
 |.nil=>rfl
 |.cons _ _ _ _ r=>by rw[d8,d8,QT r]
theorem QU:ot X tw as cm->as.H=cm.H
 |.nil=>rfl
 |.cons _ _ _ _ r=>by rw[d8,d8,QU r]
theorem QV{α β:Type}{me:bM}{cm:List<|Nat×α}{F:Nat×α->Nat->Option β}{n:Nat}{q:β}(h:(me S n).bind (λr=>match r.1 with
  |.int i=>(uZ cm i).bind λf=>F f r.2.2
  |_=>C)=J q):∃i mk mR g,me S n=J (.int i,mk,mR)/\0<=i/\i<cm.H/\cm[i.M]?=J g/\F g mR=J q:=by
 obtain⟨⟨bx,mk,mR⟩,dE,DZ⟩:=cn h;cases bx with
 |int i =>
  obtain⟨g,EB,AQ⟩:=cn DZ;unfold uZ at EB;split at EB
  ·rename_i z;exact⟨i,mk,mR,g,dE,z.1,z.2,EB,AQ⟩
  ·exists EB
 |_=>exists DZ
def Vd{as:List Addr}{n aM:Nat}{i:Int}(aB:∀S n,l S n=J (as.map .bJ,n))(hz:as.H<=bh)(aW:me S n=J (.int i,m,aM))(h0:0<=i)(af:i<as.H)(hf:as[i.M]?=J da) :
  aH dv (aa (dF l)<|aa me ar) S n=J (.bJ da,.ag,aM):=by
 have az:dF l S n=J (.ao<|as.map .bJ,.aE,n):=by unfold dF;rw[aB,eN,Y2<|by rw[cP];exact hz]
 have au:gE (as.map .bJ) i=J (.bJ da):=by unfold gE;rw[Y2 h0,Y2 (by rw[cP];exact af),ke,hf];rfl
 unfold aH aa;rw[az,eN];show(((Option.bind (me S n) _).map _).bind _)=_;rw[aW];show((gE (as.map .bJ) i).map _).map _=_;rw[au];rfl
def Ve{sub e:Expr}{es:List Expr}{pos:Pos}{l:gg}{as:List Addr}{me:bM}{cm:List<|Nat×cY}{a:ix}(aP:bF X tw sub<|aH dv<|aa (dF l)<|aa me ar)(aB:∀S n,l S n=J (as.map .bJ,n))(hz:as.H<=bh)(ok:oq X tw as cm)(ba:SB X tw (e::es) a)
  (aT:autoParam (eval (.Call sub (e::es) [] pos) X.I=(do callWith pos (<-eval sub X.I) [] (ff pos<|b4 (e::es) X.I) (ui pos<|ug [] X.I))) bu) (he:autoParam ZN bu) (eR:autoParam ((ff pos<|b4 es X.I).any (·.1)=Y1) bu) :
  bF X tw (.Call sub (e::es) [] pos) (yd me cm a):=by
 intro B S n t m n' hd ae s O H Q I ⟨R,k⟩;obtain⟨i,mk,mR,g,dE,h0,af,bT,AQ⟩:=QV (F:=λf mR=>bB f.1 f.2 a S mR) hd;obtain⟨da,lv,fd,ps,AR,F,aV,aW,aq⟩:=ok.at bT;have xN:=Vd aB hz dE h0 (by rw[QT ok];exact af) AR;obtain⟨⟨aA,aM⟩,az,au⟩:=cn AQ;have vp:aA.H=g.1:=by
  by_cases z:aA.H=g.1
  ·exact z
  ·rw[Y3 z]at au;exists au
 rw[Y2 vp]at au;obtain⟨⟨t1,cS,bC⟩,a6,bX⟩:=dw au;cases bX;show bl _ _ (eval (.Call sub (e::es) [] pos) X.I) _ _ s;rw[aT];refine a8 (b2 (aP.run xN I R) λu s0 ⟨v,hs,f6,jv,iQ,km,hu⟩=>?_);have aU:aI tw hs (.bJ da) v:=hu;rw[aI]at aU;subst aU;obtain rfl:u=Value.ref da:=jv;refine W.callWith_K (h₀:=X.V) I.ok.mod.fl aW (b2 (ba B S mR aA aM az pos ae s0 O hs (λah aj=>dn tw hs aj/\df tw aM aj/\Args X.K tw aj aA ah) f6 ⟨km,λah aj x y z=>⟨x,y,z⟩⟩) λus s1 ⟨ah,H1,bf,r,bH,fb,cN⟩=>⟨bf.hJ,?_⟩) he eR;refine UM (E:=q2) F aV aq .nil Uk bf r ?_;rw[r6];exact⟨cN.H▸vp,aA,aM,t1,cS,bC,cN,fb,a6,λv ed a b c=>k v ed ((iQ.trans bH).trans a) b<|c.base.back (iQ.trans bH) fb⟩
def Vf{bG:Bool}{sub e:Expr}{es:List Expr}{pos:Pos}{l:gg}{as:List Addr}{me:bM}{cm:List<|Nat×e7}{a:ix}(aP:bF X tw sub<|aH dv<|aa (dF l)<|aa me ar)(aB:∀S n,l S n=J (as.map .bJ,n))(hz:as.H<=bh)(ok:ot X tw as cm)(ba:SB X tw (e::es) a)
  (aT:autoParam (eval (.Call sub (e::es) [] pos) X.I=(do callWith pos (<-eval sub X.I) [] (ff pos<|b4 (e::es) X.I) (ui pos<|ug [] X.I))) bu) (he:autoParam ZN bu) (eR:autoParam ((ff pos<|b4 es X.I).any (·.1)=Y1) bu) :
  kk bG X tw (.Call sub (e::es) [] pos) (F1 me cm a):=by
 intro B S n c n' hd ae s O H Q I ⟨R,k⟩;obtain⟨i,mk,mR,g,dE,h0,af,bT,AQ⟩:=QV (F:=λf mR=>d0 f.1 f.2 a S mR) hd;obtain⟨da,lv,fd,ps,AR,F,aV,aW,aq⟩:=ok.at bT;have xN:=Vd aB hz dE h0 (by rw[QU ok];exact af) AR;obtain⟨⟨aA,aM⟩,az,au⟩:=cn AQ;have vp:aA.H=g.1:=by
  by_cases z:aA.H=g.1
  ·exact z
  ·rw[Y3 z]at au;exists au
 rw[Y2 vp]at au;show bl _ _ (eval (.Call sub (e::es) [] pos) X.I) _ _ s;rw[aT];refine a8 (b2 (aP.run xN I R) λu s0 ⟨v,hs,f6,jv,iQ,km,hu⟩=>?_);have aU:aI tw hs (.bJ da) v:=hu;rw[aI]at aU;subst aU;obtain rfl:u=Value.ref da:=jv;refine W.callWith_K (h₀:=X.V) I.ok.mod.fl aW (b2 (ba B S mR aA aM az pos ae s0 O hs (λah aj=>dn tw hs aj/\df tw aM aj/\Args X.K tw aj aA ah) f6 ⟨km,λah aj x y z=>⟨x,y,z⟩⟩) λus s1 ⟨ah,H1,bf,r,bH,fb,cN⟩=>⟨bf.hJ,?_⟩) he eR;exact x_run F aV aq bf r fb cN vp au λe aN aj s' x cK fV bb=>k ae e aN aj s' x.weak (((iQ.trans bH).trans cK).b0 R.aQ) ((R.ext.trans<|iQ.trans bH).trans cK) fV bb
end
def xO(P:dx)(w:c3)(K:W.Frag)(a3:Str->Option mt)(base:Heap)(lv:Nat)(x:Str)(ps:List Str)(f:e7)(tw:Addr):Prop :=
 ∃da fd,i0 P w K a3 base (mw P w) lv da fd ps (vl a3 K tw ps.H f)/\Binds K fd ps []/\W.keepIn K (.ref da)=Y0/\a3 x=J (.ref da)
def amq{bG:Bool}{X:bI}{tw:Addr}{f:e7}{lv dT:Nat}{ps:List Str}{x:Str}{p pos:Pos}{e:Expr}{es:List Expr}{a:ix}(G:xO X.R X.w X.K X.a3 X.V lv x ps f tw)(aV:eC lv X.A)(ba:SB X tw (e::es) a)(bz:autoParam (ps.H=dT) bu)(bT:autoParam (fv X x) bu)(fP:autoParam ZH eL)
  (he:autoParam ZN bu) (eR:autoParam ((ff pos<|b4 es X.I).any (·.1)=Y1) bu):kk bG X tw ZV<|d0 dT f a:=by
 subst bz;obtain⟨da,fd,F,aq,aW,hm⟩:=G;exact akz F aV hm aW aq ba bT fP he eR
def hZ.lift{X:bI}{tw:Addr}{st:List Stmt}{d:bw}(h:hZ X.lJ tw st d):hZ X tw st d:=λB S n f S' n' hd ae s O H D I hw =>
 hj (h B S n f S' n' hd ae s O H D (I.nf _) hw) (λ_ _ q=>q.pI) λ_ _ z=>False.elim z
def vq{lv dT:Nat}(G:uJ X.R X.w X.K X.a3 X.V lv x ps f tw)(hm:X.a3 x=J (.ref da))(aV:eC lv X.A)(r:oq X tw as cm)(bz:autoParam (ps.H=dT) bu):oq X tw (da::as)<|(dT,f)::cm:=by subst bz;obtain⟨ade,fd,F,aq,aW,tq⟩:=G;rw[hm]at tq;exists tq;exact .cons F aV aW aq r
def vr{lv dT:Nat}(G:xO X.R X.w X.K X.a3 X.V lv x ps f tw)(hm:X.a3 x=J (.ref da))(aV:eC lv X.A)(r:ot X tw as cm)(bz:autoParam (ps.H=dT) bu):ot X tw (da::as)<|(dT,f)::cm:=by subst bz;obtain⟨ade,fd,F,aq,aW,tq⟩:=G;rw[hm]at tq;exists tq;exact .cons F aV aW aq r
structure vs (K:W.Frag) (D:Addr):Prop where
 cls:(W.clsIn K D).isSome=Y0
 ty:W.typeIn K (.ref D)=J (.type "type")
section
variable {K:W.Frag}{aN D:Addr}
def AS:W.kitOne K ZI ZI=J Y0:=by unfold W.kitOne;rw[Y2 Z7]
def hL(self:W.subIn K ZI ZI=J Y0)(d:vs K D)(sub:W.subIn K ZI (.ref D)=J Y1):W.kitOne K ZI (.ref D)=J Y1:=by
 have ne:aN≠D:=λz=>by subst z;rw[self]at sub;exists sub
 unfold W.kitOne;rw[Y3<|by simpa using ne];unfold W.kitCls;simp only[d.cls,d.ty,beq_self_eq_true,Bool.and_self,if_true];exact sub
def AU(sub:W.subIn K ZI (.type "ValueError")=J Y0):W.kitOne K ZI (.type "ValueError")=J Y0:=by unfold W.kitOne;rw[Y3 Z7];show(if W.kitMeta "ValueError" = Y0 then _ else C)=_;rw[Y2<|by decide+kernel];exact sub
end
def QW(P:dx)(w:c3)(K:W.Frag)(a3:Str->Option mt)(base:Heap)(lv:Nat)(x:Str)(cs:List Nat)(h:Nat->Option T)(tw:Addr):Prop :=
 ∃da,W.keepIn K (.ref da)=Y0/\a3 x=J (.ref da)/\∀c t,c∈cs->h c=J t->∀aN,a3 (o6 c)=J ZI->∀(e:Addr) (oe:Obj),oe.cls=.ref aN->oe.dict=C->(∃ah,oe.d=.fields ah) ->
  ∃(fd:hB) (ps:List Str) (f:cY),EA P w K a3 base lv da fd ps [(e,oe)] (nX K tw 1 f)/\Binds K fd ps []/\∀n,f [(.bJ e,Y0)] n=J (t,Y1,n)
def amr{X:bI}{tw:Addr}(i:Nat){lv:Nat}{cs:List Nat}{h:Nat->Option T}{x nm:Str}{p WE pos iy:Pos}(G:QW X.R X.w X.K X.a3 X.V lv x cs h tw)(aV:eC lv X.A)(jB:X.stack=X.I::X.cj)(hf:X.I.frame=J X.I.locals)(hi:autoParam (X.N[i]?=J nm) bu)(bS:autoParam (qi X.I.Y nm) az7._auto_1)(bT:autoParam (fv X x) bu)(fP:autoParam ZH eL)(D7:autoParam ((nm==("__debug__" : Str))=Y1) eL)(g0:autoParam ((nm==("__classdict__" : Str))=Y1) eL) :
  Uv X tw i [.Return (J<|.Call (.Name x p) [.Name nm WE] [] pos) iy] cs h:=by
 intro c t aT cA aN oS e oe af ak bc;obtain⟨da,aW,hm,G⟩:=G;obtain⟨fd,ps,f,F,aq,agp⟩:=G c t aT cA aN oS e oe af ak bc;have AG:i<X.N.H:=(kK.mp hi).1;refine⟨cT<|bB 1 f<|ax (ai i) a9,?_,λn=>?_⟩
 ·exact DN<|DP<|amo (X:=vm X (.ref e)<|X.gC++[(e,oe)]) F (eC.held aV _) (λy aK=>l1 _ aK) jB hf hm aW aq (Pg (lN i hi bS D7 g0) UQ rfl) bT fP rfl rfl
 ·refine⟨(List.replicate X.N.H C).set i (J (.bJ e,.ag)),?_⟩;have az:ai i ((List.replicate X.N.H C).set i (J (.bJ e,.ag))) n=J (.bJ e,.ag,n):=by unfold ai;rw[ys,Y2 rfl,Y2<|by rw[ou];exact AG];rfl
  unfold cT bB ax;rw[az];show Option.bind ((f [(T.bJ e,Y0)] n).map _) _=_;rw[agp];rfl
section
variable {X:bI}{tw:Addr}{bG:Bool}
def ai1{e:Expr}{d:dm}{j pos pos'}(h:kk bG X tw e d):kk bG X tw (.Compare e [.Is] [.Constant .none j pos'] pos) d:=λB S n c n' hd =>
 UI (IB<|h B S n c n' hd) (by rfl)
def ai2(i:Nat){x:Str}{e:Expr}{d:dm}{pos pos':Pos}(h:kk bG X tw e d)(dJ:X.N.Nodup)(hi:autoParam (X.N[i]?=J x) bu)(av:autoParam (Loc X.I.Y x) az4._auto_1)(aP:autoParam (nA e (J<|.Name x pos') pos.line X.I=pure Y1) bu)
  (hf:autoParam ZW pW):rf bG X tw (.Assign [.Name x pos'] e pos) d:=λB S n c n' hd =>
 Dq dJ hi av (h B S n c n' hd) aP hf
def akG{a e:Expr}{x:Str}{d:dm}{bH}{pos:Pos}(h0:bF X tw a<|aw<|.str x)(h:kk bG X tw e d)(aP:autoParam (b4 [a,e] X.I=(Y1,eval a X.I)::ZG::[]) bu):kk bG X tw (.Tuple [a,e] bH pos) d:=λB S n c n' hd =>
 UL (t:=λO H _=>rd bG X B tw S n c n' O H) λpos ae s O H Q I q=>by rw[aP];refine h9 (b2 (h0.run rfl I q.1) λu s1 ⟨v,H1,bf,bA,a1,bt,b6⟩=>?_);exact h9 (b2 (h B S n c n' hd ae s1 O H1 (λ_ _=>False) bf<|q.step (a1.b0 q.1.aQ) bt) λu s2 ⟨_,_,_,_,z⟩=>z.elim)
def ai3{e i:Expr}{es:List Expr}{d:dm}{pos pos':Pos}(h:kk bG X tw e d)(aP:autoParam ZN bu):kk bG X tw (.Subscript (.List (e::es) pos') i pos) d:=λB S n c n' hd ae s O H Q I q =>
 Cj (b2 (IM (t:=λO H _=>rd bG X B tw S n c n' O H) (λpos ae s O H Q I q=>by
  rw[aP]
  exact h9 (b2 (h B S n c n' hd ae s O H (λ_ _=>False) I q) λu s2 ⟨_,_,_,_,z⟩=>z.elim)) ae s O H (λ_ _=>False) I q) λu s1 ⟨_,_,_,_,z⟩=>z.elim)
end
structure Fr where
 f:Addr
 hr:Option Addr
 an:Option Addr
 cX:Array<|Option mt
 js:mt
 eA:mt
 gi:mt
 pm:mt
 cd:mt
 eD:mt
noncomputable abbrev Fr.fd(r:Fr)(n:Str)(st:Stmt):hB:=W.fnOf n n (nR st) (ig st) (eo st) .none r.eA r.gi r.pm r.an r.cd r.eD
def dV(K:W.Frag)(n:Str)(st:Stmt)(r:Fr):Prop :=
 W.nsIn K kQ n=J (J<|.ref r.f)/\K.lookup r.f=J ⟨r.js,r.hr,.func<|r.fd n st,r.cX⟩/\W.codeIn K r.cd n=Y0/\W.keepIn K (.ref r.f)=Y0
def akH{K:W.Frag}{n:Str}{st:Stmt}{f:Addr}{hr an:Option Addr}{cX:Array<|Option mt}{js eA gi pm cd eD:mt}(a:W.nsIn K kQ n=J (J<|.ref f))
  (l:K.lookup f=J ⟨js,hr,.func<|W.fnOf n n (nR st) (ig st) (eo st) .none eA gi pm an cd eD,cX⟩) (c:W.codeIn K cd n=Y0) (k:W.keepIn K (.ref f)=Y0):dV K n st ⟨f,hr,an,cX,js,eA,gi,pm,cd,eD⟩:=⟨a,l,c,k⟩
section
variable {K:W.Frag}{n:Str}{st:Stmt}{r:Fr}
def dV.fn(h:dV K n st r):qn K n n st r.f<|r.fd n st:=aid h.2.1 h.2.2.1 h.2.2.2
theorem dV.a3{h0:Heap}{a3:Str->Option mt}(h:dV K n st r)(X:K.In h0)(G:h0.Ns kQ a3):a3 n=J (.ref r.f):=W.mg_of X G h.1
def some_of{α:Type}{x:Option α}{a:α}(h:x=J a):x.isSome=Y0:=by rw[h];rfl
end
def uQ{N P:List Str}{sc:jq}(a:autoParam (sc.kind=.function) bu)(b:autoParam (sc.isCoroutine=Y1) bu)(c:autoParam (sc.isGenerator=Y1) bu)(d:autoParam (N.Nodup) az11._auto_1)(e:autoParam (N.take P.H=P) bu)(f:autoParam (∀x∈P,sc.names.lookup x=J .local\/sc.names.lookup x=J .cell) az11._auto_1)(g:autoParam (∀y∈sc.e,y.2≠.free) az11._auto_1):mE N P sc:=⟨a,b,c,d,e,f,g⟩
def oW(n:Str)(st:Stmt)(ps:List Str):Prop:=∀(eA doc pm:mt) (an:Option Addr) (c8 eD:mt) (us:List mt),us.H=ps.H->sk (W.fnOf n n (nR st) (ig st) (eo st) .none eA doc pm an c8 eD) ⟨us,[]⟩=pure (ps.zip us)
def len0{P:List mt->Prop}(h:P []):∀us:List mt,us.H=0->P us:=λus e=>by
 cases us with
 |nil=>exact h
 |cons a us=>exact Nat.noConfusion e
def lY{P:List mt->Prop}{k:Nat}(h:∀a (us:List mt),us.H=k->P (a::us)):∀us:List mt,us.H=k+1->P us:=λus e=>by
 cases us with
 |nil=>exact Nat.noConfusion e
 |cons a us=>exact h a us<|Nat.succ.inj e
section
variable {n:Str}{st:Stmt}{dB c7 jy sI CF:Str}
def qg(h:∀(eA doc pm:mt) (an:Option Addr) (c8 eD a:mt),sk (W.fnOf n n (nR st) (ig st) (eo st) .none eA doc pm an c8 eD) ⟨[a],[]⟩=pure [(dB,a)]):oW n st [dB]:=λk d p an c t=>lY λa=>len0<|h k d p an c t a
def zC(h:∀(eA doc pm:mt) (an:Option Addr) (c8 eD a b:mt),sk (W.fnOf n n (nR st) (ig st) (eo st) .none eA doc pm an c8 eD) ⟨[a,b],[]⟩=pure [(dB,a),(c7,b)]):oW n st [dB,c7]:=λk d p an c t=>lY λa=>lY λb=>len0<|h k d p an c t a b
def zD(h:∀(eA doc pm:mt) (an:Option Addr) (c8 eD a b c:mt),sk (W.fnOf n n (nR st) (ig st) (eo st) .none eA doc pm an c8 eD) ⟨[a,b,c],[]⟩=pure [(dB,a),(c7,b),(jy,c)]):oW n st [dB,c7,jy]:=λk d p an c t=>lY λa=>lY λb=>lY λe=>len0<|h k d p an c t a b e
def zE(h:∀(eA doc pm:mt) (an:Option Addr) (c8 eD a b c d:mt),sk (W.fnOf n n (nR st) (ig st) (eo st) .none eA doc pm an c8 eD) ⟨[a,b,c,d],[]⟩=pure [(dB,a),(c7,b),(jy,c),(sI,d)]):oW n st [dB,c7,jy,sI]:=λk d p an c t=>lY λa=>lY λb=>lY λe=>lY λf=>len0<|h k d p an c t a b e f
def zF(h:∀(eA doc pm:mt) (an:Option Addr) (c8 eD a b c d e:mt),sk (W.fnOf n n (nR st) (ig st) (eo st) .none eA doc pm an c8 eD) ⟨[a,b,c,d,e],[]⟩=pure [(dB,a),(c7,b),(jy,c),(sI,d),(CF,e)]):oW n st [dB,c7,jy,sI,CF]:=λk d p an c t=>lY λa=>lY λb=>lY λe=>lY λf=>lY λg=>len0<|h k d p an c t a b e f g
end
section
variable {P:dx}{w:c3}{K:W.Frag}{base:Heap}{tw:Addr}{n:Str}{st:Stmt}{r:Fr}{h0:Heap}{a3:Str->Option mt}{lv:Nat}{N ps:List Str}
def adf(X:K.In h0)(G:h0.Ns kQ a3)(h:dV K n st r){b:bw}
  (aq:∀(c8:mt) (A:dH) (cj:List Env) (s:aR) (H:aJ) (E:iu),eC lv (A.deeper<|i3 n (eo st) s.L r.f c8)->N.Nodup->hZ (jN iA P w K a3 base N n (eo st) r.f c8 A cj s H E).lJ tw (ig st) b)
  (cc:autoParam (mE N ps<|eo st) az10._auto_1) (bi:autoParam (oW n st ps) az12._auto_1):uJ P w K a3 base (lv+1) n ps (c0 N.H b) tw :=
 ⟨_,_,agX h.fn cc λc A o s H E aV=>aq c A o s H E aV cc.bW,h.fn.binds bi,h.2.2.2,h.a3 X G⟩
def agq(X:K.In h0)(G:h0.Ns kQ a3)(h:dV K n st r){b:dm}
  (aq:∀(c8:mt) (A:dH) (cj:List Env) (s:aR) (H:aJ) (E:iu),eC lv (A.deeper<|i3 n (eo st) s.L r.f c8)->N.Nodup->lk Y1 (jN (mw P w) P w K a3 base N n (eo st) r.f c8 A cj s H E) tw (ig st) b)
  (cc:autoParam (mE N ps<|eo st) az10._auto_1) (bi:autoParam (oW n st ps) az12._auto_1):xO P w K a3 base (lv+1) n ps (fnX N.H b) tw :=
 ⟨_,_,aiR h.fn cc λc A o s H E aV=>aq c A o s H E aV cc.bW,h.fn.binds bi,h.2.2.2,h.a3 X G⟩
end
section
variable {X:bI}{tw:Addr}{lv dT:Nat}{ps:List Str}{x:Str}{p pos:Pos}{e:Expr}{es:List Expr}{a:ix}
def Uw{f:cY}(G:uJ X.R X.w X.K X.a3 X.V lv x ps f tw)(ba:SB X tw (e::es) a)(aV:autoParam (eC lv X.A) az9._auto_1)(bz:autoParam (ps.H=dT) bu)(bT:autoParam (fv X x) bu)(fP:autoParam ZH eL)
  (he:autoParam ZN bu) (eR:autoParam ((ff pos<|b4 es X.I).any (·.1)=Y1) bu):bF X tw ZV<|bB dT f a:=ame G aV ba bz bT fP he eR
def Ux{bG:Bool}{f:e7}(G:xO X.R X.w X.K X.a3 X.V lv x ps f tw)(ba:SB X tw (e::es) a)(aV:autoParam (eC lv X.A) az9._auto_1)(bz:autoParam (ps.H=dT) bu)(bT:autoParam (fv X x) bu)(fP:autoParam ZH eL)
  (he:autoParam ZN bu) (eR:autoParam ((ff pos<|b4 es X.I).any (·.1)=Y1) bu):kk bG X tw ZV<|d0 dT f a:=amq G aV ba bz bT fP he eR
end
section
variable {X:bI}{tw:Addr}{lv QX dT:Nat}{ps:List Str}{x y:Str}{p pos pos' e4 py vW:Pos}{e elt iter:Expr}{es ifs:List Expr}{a:ix}{bG:Bool}{scope:jq}{N':List Str}{fo:List<|Option Nat}{d:ib}{c:fa}{ic:bM}
def Kj{i:Nat}{cl:List<|Str×Addr}{aN:Addr}{cD:aR}{dI:aJ}{fp:List Addr}(bW:N'.Nodup)(dJ:N'[i]?=J x)(aB:scope.names.lookup x=J .local):sC ZS tw (.Name x e4) (cB i) :=
 Po i bW dJ (.inl<|lookup_relabel_local aB) (.inr<|lookup_relabel_local aB)
def ams(hi:rt X tw (.Name x e4) iter d)(cA:∀{cl aN cD dI fp},th (gx X (x::X.N) scope cl aN cD dI fp) tw ifs c)(he:∀{cl aN cD dI fp},bF (gx X (x::X.N) scope cl aN cD dI fp) tw elt ic)
  (aT:autoParam (X.calm=Y0) bu) (aN:l0 X scope (x::X.N) fo:=by exact .of) (bW:(x::X.N).Nodup:=by first|(show List.Nodup (_::(_++_));decide)|(show List.Nodup (_::_::(_++_));decide)) (aB:autoParam (scope.names.lookup x=J .local) bu) (aP:autoParam (∀x,oE iter X.I x=pure x) sA) :
  bF X tw (.ListComp elt [⟨.Name x e4,iter,ifs,0⟩] scope pos) (er d (ck fo) (cB 0) c ic):=Jr aT aN bW hi (λ_ _ _ _ _=>Kj bW rfl aB) (λ_ _ _ _ _=>cA) (λ_ _ _ _ _=>he) aP
def amt(i:Nat)(hi:rt X tw (.Name x e4) iter d)(cA:∀{cl aN cD dI fp},th (gx X X.N scope cl aN cD dI fp) tw ifs c)(he:∀{cl aN cD dI fp},bF (gx X X.N scope cl aN cD dI fp) tw elt ic)
  (aT:autoParam (X.calm=Y0) bu) (aN:l0 X scope X.N fo:=by exact .of) (bW:X.N.Nodup:=by first|(show List.Nodup (_++_);decide)|(show List.Nodup (_::(_++_));decide)) (dJ:autoParam (X.N[i]?=J x) bu) (aB:autoParam (scope.names.lookup x=J .local) bu) (aP:autoParam (∀x,oE iter X.I x=pure x) sA) :
  bF X tw (.ListComp elt [⟨.Name x e4,iter,ifs,0⟩] scope pos) (er d (ck fo) (cB i) c ic):=Jr aT aN bW hi (λ_ _ _ _ _=>Kj bW dJ aB) (λ_ _ _ _ _=>cA) (λ_ _ _ _ _=>he) aP
def adg(i:Nat)(bz:X.N.Nodup)(hi:rt X tw (.Name x e4) iter d)(cA:∀{cl aN cD dI fp},th (gx X (x::X.N) scope cl aN cD dI fp) tw ifs c)(he:∀{cl aN cD dI fp},bF (gx X (x::X.N) scope cl aN cD dI fp) tw elt ic)
  (aT:autoParam (X.calm=Y0) bu) (aN:l0 X scope (x::X.N) fo:=by exact .of) (bW:(x::X.N).Nodup:=by first|(show List.Nodup (_::(_++_));decide)|(show List.Nodup (_::_::(_++_));decide)) (aB:autoParam (scope.names.lookup x=J .local) bu)
  (gy:autoParam (X.N[i]?=J y) bu) (aK:autoParam (X.env.scope.names.lookup y=J .local) bu) (z5:autoParam (nA (.ListComp elt [⟨.Name x e4,iter,ifs,0⟩] scope pos) (J<|.Name y py) vW.line X.I=pure Y0) bu) (aP:autoParam (∀x,oE iter X.I x=pure x) sA) :
  gW X tw (.Assign [.Name y py] (.ListComp elt [⟨.Name x e4,iter,ifs,0⟩] scope pos) vW) (dK i<|er d (ck fo) (cB 0) c ic):=abc i aT bz aN bW hi (λ_ _ _ _ _=>Kj bW rfl aB) (λ_ _ _ _ _=>cA) (λ_ _ _ _ _=>he) gy aK z5 aP
def amu{f:cY}{g:e7}{nP:List Stmt}{jw:dm}(G:xO X.R X.w X.K X.a3 X.V lv x ps g tw)(WG:uJ X.R X.w X.K X.a3 X.V QX x ps f tw)(ba:SB X.lJ tw (e::es) a)(bc:lk bG X tw nP jw)
  (aV:autoParam (eC lv X.A) az9._auto_1) (n2:autoParam (eC QX X.A) az9._auto_1) (bz:autoParam (ps.H=dT) bu) (bT:autoParam (fv X x) bu) (fP:autoParam ZH eL)
  (he:autoParam ZN bu) (eR:autoParam ((ff pos<|b4 es X.I).any (·.1)=Y1) bu) (aP:autoParam (nA ZV C pos'.line X.I=pure Y1) bu) :
  lk bG X tw (.Expr ZV pos'::nP) (dy (d0 dT g a) (eS<|bB dT f a) jw) :=
 QO (QP (Ux G ba.lift aV bz bT fP he eR) aP) (gW.lift<|Pj (Uw (X:=X.lJ) WG ba n2 bz bT fP he eR) aP) bc
def F5:iS X (hp .LtE) (uD λa b=>decide (a<=b)):=Jv λ_ _ _ _ _ _ h=>le_int h
def T1(aV:eC lv X.A):fR X tw (two<|hp .Eq) gk:=agZ aV.Cz<|alT aV.Gv
def agr(aV:eC lv X.A):fR X tw (two<|hp .NotEq) gn:=Uq aV.Cz<|PC aV.Gv
end
section
variable {X:bI}{tw:Addr}
def amv(r:eu X.K tw H (.str x) v):v=.str x:=by have r:aI tw H (.str x) v:=r;rw[aI]at r;exact r
def adh{i:Int}(r:eu X.K tw H (.int i) v):v=.int i:=by have r:aI tw H (.int i) v:=r;rw[aI]at r;exact r
def ai4:bh=1000000:=rfl
def akI:fR X tw (λus=>call (.type "str") us) z1:=by
 intro B ae s O H ah us aA n t m Q I bq aU aQ e k
 match aA,e with
 |[.int i],e =>
  have e:(if 0<=i/\i<=1000 then J (T.str<|j6 i,bo.ag) else C)=J (t,m):=e;split at e
  ·rename_i h
   exists e
   obtain⟨v,rfl,r⟩:=iX aU;obtain rfl:=adh r;refine aam ae s O H _ us Q I bq ⟨i,rfl,?_,k _ H (.refl _ _) aQ<|by show aI tw H (.str _) _;rw[aI];rfl⟩;have af:i.natAbs<=1000:=by omega
   have:i.natAbs.log2<=Nat.log2 1000:=by
    rcases Nat.eq_zero_or_pos i.natAbs with z|z
    ·rw[z];decide
    ·have:=Nat.log2_self_le (n:=i.natAbs)<|pQ z;exact(Nat.le_log2 Z0).mpr (bP this af)
   exact gS this Z0
  ·exists e
theorem QY:∀{xs:List T} {ws:List Str} {ah:List V} {us:List mt},strsOf xs=J ws->bR tw H xs ah->cG ah us->∃l:List (Str×Tok),strValues l=us/\l.map (·.1)=ws
 |[],ws,ah,us,h,r,v=>by
  exists h
  rw[jg r]at v
  exists v
  exact⟨[],rfl,rfl⟩
 |.str x::xs,ws,ah,us,h,r,v=>by
  obtain⟨Ag,af,ak⟩:=dw (show(strsOf xs).map (x::·)=J ws from h)
  exists ak
  obtain⟨v0,mr,rfl,bA,cp⟩:=hc r;rw[aI]at bA;subst bA;cases v with
  |cons aX bb =>
   obtain⟨l,fh,fE⟩:=QY af cp bb;obtain⟨bx,rfl⟩:=aX;exact⟨(x,bx)::l,by rw[<-fh];rfl,by rw[<-fE];rfl⟩
def akJ{o e:Expr}{eP ic:bM}{apos eb:Pos}(aZ:bF X tw o eP)(he:bF X tw e ic)(m:Cp X o "join" apos e eb):bF X tw (.Call (.Attribute o "join" apos) [e] [] eb)<|aH xk<|aa eP<|aa ic ar:=by
 intro B S n t kj n' hd ae s O H Q I ⟨R,k⟩;obtain⟨⟨aA,aM⟩,az,au⟩:=cn hd;obtain⟨⟨t1,cS⟩,a6,bX⟩:=dw au;cases bX;obtain⟨⟨to,mo,no⟩,f1,f2⟩:=cn az;obtain⟨⟨fh,anY⟩,el,f4⟩:=dw f2;cases f4;obtain⟨⟨te,zd,ne⟩,g1,g2⟩:=cn el;cases g2
 match to,te,f1,g1,a6 with
 |.str x,.ao xs,f1,g1,a6 =>
  obtain⟨ws,aX,bb⟩:=cn (show(strsOf xs).bind (λws=>if(ws.map (·.H)).sum+ws.H*x.H<=bh then J (T.str<|Str.join x ws,bo.ag) else C)=J (t1,cS) from a6);split at bb
  ·rename_i hz;cases bb;refine yN m.V m.uX m.line PySem.F.plainAttrs_str PySem.F.slot_str_join PySem.F.type_str_join (b2 (aZ.run f1 I R) λu s1 ⟨v,H1,bf,bA,a1,bt,b6⟩=>?_);obtain rfl:=amv<|b6.root bt R.aQ;obtain⟨bx,rfl⟩:=bA;refine⟨typeIs_str _ _ _,(λb e=>nomatch e),?_⟩;rw[m.trees];refine ua rfl<|ub<|h9 (b2 (he.run g1 bf bt) λiv s2 ⟨Nq,bV,cR,dW,a2,dj,dA⟩=>l4 ?_);obtain⟨a,fI,rfl,cu,cM⟩:=dA.root dj bt.aQ;cases dW;obtain⟨a5,lP,cQ,_⟩:=cR.list cu.gh;obtain⟨l,eU,fL⟩:=QY aX cM lP;subst eU;have de:=ai4;have aP:=mI;refine SC.join cQ.isList fL ?_ λt' mb=>?_
   ·unfold JoinOk Builtin.Str.tooLong;rw[StrLaws.joinTotal];simp only[M6,decide_eq_false_iff_not];omega
   ·exact⟨.str _,bV,cR.tok _,⟨t',by rw[show Txt.join x ws=Str.join x ws from StrLaws.glued_eq_join x ws]⟩,k _ bV (a1.trans a2) dj.aQ<|by show aI tw bV (.str _) _;rw[aI]⟩
  ·exists bb
end
def EC(d e:bM):ib:=λS n=>(aa (aY d) (aa (aY e) ar) S n).bind λr=>match r.1 with
 |[.ao xs,.ao aO]=>J (List.zipWith (λx y=>.aD [x,y]) xs aO,r.2)
 |_=>C
def lT(H:aJ)(a:Addr)(ah:List V):Prop:=∃o,H a=J (.en o<|.ao ah)
def lT.get{X:bI}{ae:List Z1}{O:St}{H:aJ}{s:aR}(I:aS X ae O H s){a:Addr}{ah:List V}(h:lT H a ah):∃a5:List mt,cG ah a5/\s.heap.IsList a a5.B:=by
 obtain⟨o,e⟩:=h;obtain⟨_,z,a5,c,bq,cA⟩:=(show gO X.R X.w H s.Q a (.en o<|.ao ah) from I.b1 a _ e)
 exact⟨a5,bq,_,cA,rfl,_,rfl⟩
def T2(a b:Addr)(m:Nat):kU:=⟨λi H=>∃xs aO x y,lT H a xs/\lT H b aO/\xs[i]?=J x/\aO[i]?=J y/\i<m,λi H x aj=>∃p v u,H p=C/\x=.ref p/\aj=c4 H p (.aD [v,u])/\(∀aO,lT H a aO->aO[i]?=J v)/\∀aO,lT H b aO->aO[i]?=J u,λi H=>∃xs aO,lT H a xs/\lT H b aO/\(xs.H=m\/aO.H=m)/\m<=i⟩
def lT.inj(h:lT H a xs)(g:lT H a aO):xs=aO:=by
 obtain⟨o,e⟩:=h;obtain⟨dh,bN⟩:=g;rw[e]at bN
 exists bN
 rfl
def adi{P:dx}{w:c3}{K:W.Frag}{elts:List Expr}{bH}{tp:Pos}(a b z TI lG ja mg:Addr)(m:Nat)(D:ZipApart z TI lG ja mg a b) :
  Turn P w K (.Tuple elts bH tp) (T2 a b m) [z,TI,lG,ja,mg] z (λi h=>i<=m/\IsZip h z TI lG .none/\IsPair h TI (.ref ja) (.ref mg)/\(∃p q,IsPair h lG p q)/\h.IsListIter ja a i/\h.IsListIter mg b i) where
 mem:=by simp
 obj:=λi h st c aT=>by
  obtain⟨_,s1,s2,⟨p,q,s3⟩,⟨fs,az,_,d7⟩,⟨i8,au,_,fy⟩⟩:=st;simp only[d3,qQ,or_false]at aT;rcases aT with rfl|rfl|rfl|rfl|rfl
  ·exact⟨_,s1,λv z=>by exists z⟩
  ·exact⟨_,s2,λv z=>by exists z⟩
  ·exact⟨_,s3,λv z=>by exists z⟩
  ·exact⟨_,az,λv z=>by rw[d7]at z;exists z⟩
  ·exact⟨_,au,λv z=>by rw[fy]at z;exists z⟩
 keep:=λi h h' st k=>by obtain⟨hi,s1,s2,⟨p,q,s3⟩,⟨fs,az,bA⟩,⟨i8,au,cp⟩⟩:=st;exact⟨hi,k z Z7 _ s1,k TI Z7 _ s2,⟨p,q,k lG Z7 _ s3⟩,⟨fs,k ja Z7 _ az,bA⟩,⟨i8,k mg Z7 _ au,cp⟩⟩
 item:=by
  intro X e3 hw ia aT i ae s O H E I hf st bT;subst e3 hw ia;obtain⟨xs,aO,x,y,a7,aV,av,aK,adj⟩:=bT;obtain⟨a5,bq,p⟩:=a7.get I;obtain⟨hN,xB,c7⟩:=aV.get I;obtain⟨u,b7,eV⟩:=bq.get av;obtain⟨v,bS,bq⟩:=xB.get aK;obtain⟨hi,s1,s2,⟨pa,pb,s3⟩,t1,eH⟩:=st;refine wpAny_pyNext_zip_item D s1 s2 s3 t1 eH p c7 (x:=u) (y:=v) (by simpa using b7) (by simpa using bS) λh' CJ HW HX HY gs _ aW=>?_;refine⟨_,rfl,wpAny_letOwnedTupleGo_zip CJ λak lg iz=>?_⟩;have iz:Heap.SameBut z h' ak:=iz;have u1:H s.L=C:=I.b1.fresh<|cg _;have dC:∀c∈[z,TI,lG,ja,mg],c≠s.L:=λc aT=>by
   obtain⟨_,bA,_⟩:=t1;obtain⟨_,cp,_⟩:=eH;simp only[d3,qQ,or_false]at aT;rcases aT with rfl|rfl|rfl|rfl|rfl
   ·exact bv<|d5 s1
   ·exact bv<|d5 s2
   ·exact bv<|d5 s3
   ·exact bv<|d5 bA
   ·exact bv<|d5 cp
  have bf:aS X ae O (c4 H s.L<|.aD [x,y]) { s with heap:=s.heap.push { cls:=.type "tuple",data:=.seq #[u,v]},toks:=s.toks} :=
   I.laid (t':=s.toks) (λb o e=>ec _ e) (cg _) ⟨by show 2<=dg;decide,[u,v],.cons eV<|.cons bq .nil,mh.new _ _⟩
  have cR:=bf.VD (fp:=[z,TI,lG,ja,mg]) (h':=ak) (t':=s.toks) (λb o aq q=>?_) λb aq=>?_
  ·have it:∀{ja l:Addr} {k:Nat},ja≠z->h'.IsListIter ja l k->ak.IsListIter ja l k:=λn ⟨o,e,r⟩=>⟨o,iz.extBut _ _ n e,r⟩
   refine⟨.ref s.L,_,cR,rfl,⟨s.L,x,y,u1,rfl,rfl,λaO aK=>by rw[aK.inj a7];exact av,λaO hz=>by rw[hz.inj aV];exact aK⟩,⟨adj,lg,iz.extBut _ _ D.TIz<|aW _ _ D.TIz D.TITO D.TIi1 D.TIi2 s2,⟨_,_,iz.extBut _ _ D.TOz HW⟩,it D.i1z HX,it D.i2z HY⟩,λb aq=>?_⟩;rw[e0<|dC b aq];exact(hf b aq).1
  ·have cq:b≠z:=λz=>aq (by simp[z]);have cE:b≠lG:=λz=>aq (by simp[z]);have fj:b≠ja:=λz=>aq (by simp[z]);have wX:b≠mg:=λz=>aq (by simp[z]);by_cases z:b=s.L
   ·subst z;rw[gB _ rfl]at q
    exists q
    exact iz.extBut _ _ cq gs
   ·rw[yG _ _ _ z]at q;exact iz.extBut _ _ cq<|aW b o cq cE fj wX q
  ·obtain⟨f0,f1,f2,el,f4,hT⟩:=hf b aq;exact⟨by rw[e0<|dC b aq];exact f0,f1,f2,el,f4,hT⟩
 done:=by
  intro X e3 hw ia aT i ae s O H E I hf st bT;subst e3 hw ia;obtain⟨xs,aO,a7,aV,aB,bT⟩:=bT;obtain⟨a5,bq,p⟩:=a7.get I;obtain⟨hN,xB,c7⟩:=aV.get I;obtain⟨hi,s1,s2,⟨pa,pb,s3⟩,t1,eH⟩:=st;have aM:=bq.H;have bC:=xB.H;refine wpAny_pyNext_zip_end (I.ok.hd aT) D s1 s2 s3 t1 eH p c7 ?_ λh' aW=>⟨rfl,I.VD (fp:=[z,TI,lG,ja,mg]) (t':=s.toks) (λb o aq e=>aW b o (λz=>aq<|by simp[z]) (λz=>aq<|by simp[z]) (λz=>aq<|by simp[z]) (λz=>aq<|by simp[z]) e) hf⟩
  rcases aB with aB|aB
  ·exact .inl (by rw[Mz,GH<|by omega])
  ·exact .inr (by rw[Mz,GH<|by omega])
 self:=λ_ _ _ _ _ st h=>wpAny_pyIter_zip st.2.1 h
section
variable {X:bI}{tw:Addr}
def akK(h:lT H a ah)(r:bR tw H xs ah)(ak:lT H b us)(cp:bR tw H aO us) :
  qN tw (T2 a b<|min xs.H aO.H) H (List.zipWith (λx y=>.aD [x,y]) xs aO):=λi=>by
 have aB:=r.H;have DQ:=cp.H;refine⟨λt e=>?_,λhi=>⟨ah,us,h,ak,by omega,by rw[ME]at hi;exact hi⟩⟩;have dC:=(kK.mp e).1;rw[ME]at dC;rw[List.getElem?_zipWith]at e;have⟨x,y,av,aK,dQ⟩:∃x y,xs[i]?=J x/\aO[i]?=J y/\t=.aD [x,y]:=by
  cases av:xs[i]? with
  |none=>rw[av]at e;exists e
  |some x=>cases aK:aO[i]? with
   |none=>rw[av,aK]at e;exists e
   |some y=>rw[av,aK]at e;exists e;exact⟨x,y,rfl,rfl,rfl⟩
 subst dQ;obtain⟨v,bS,bq⟩:=r.get av;obtain⟨u,b7,eV⟩:=cp.get aK;refine⟨⟨ah,us,v,u,h,ak,bS,b7,dC⟩,λx bV q=>?_⟩;obtain⟨p,hS,fu,aF,rfl,rfl,aX,bb⟩:=q;have az:=aX ah h;have au:=bb us ak;rw[bS]at az;rw[b7]at au
 exists az
 exists au
 refine⟨.new aF,λn aQ=>aQ.new aF,?_⟩;rw[aI];exact⟨p,_,rfl,fB,.cons (aI.mono (.new aF) _ _ bq)<|.cons (aI.mono (.new aF) _ _ eV) .nil⟩
def akL{elts:List Expr}{bH}{tp:Pos}{pos p:Pos}{a b:Expr}{d e:bM}(ba:bF X tw a d)(aq:bF X tw b e)(hm:X.a3 "zip" = C)(bT:autoParam (fv X "zip") bu)(aP:autoParam (b4 [a,b] X.I=(Y1,eval a X.I)::b4 [b] X.I) bu)(xt:autoParam (b4 [b] X.I=(Y1,eval b X.I)::b4 [] X.I) bu)(iz:autoParam ((ff pos<|b4 [b] X.I).any (·.1)=Y1) bu) :
  rt X tw (.Tuple elts bH tp) (.Call (.Name "zip" p) [a,b] [] pos) (EC d e):=by
 intro B S n aA n' hd ae s O H R I ⟨jX,k⟩;obtain⟨⟨us,aM⟩,az,au⟩:=cn hd;have⟨xs,aO,dQ,rv,y7⟩:∃xs aO,us=[.ao xs,.ao aO]/\aA=List.zipWith (λx y=>.aD [x,y]) xs aO/\n'=aM:=by
  match us,au with
  |[.ao xs,.ao aO],au=>exists au;exact⟨xs,aO,rfl,rfl,rfl⟩
 subst dQ rv y7;refine Call_<|k7 I bT hm boot_zip<|PyProof.Rows.callWith_type1 (b2 ((g5 ba (g5 aq nW xt) aP) B S n [.ao xs,.ao aO] n' az pos ae s O H (λah aj=>dn tw H aj/\df tw n' aj/\bR tw aj [.ao xs,.ao aO] ah) I ⟨jX,λah aj x y z=>⟨x,y,z⟩⟩) λus s1 ⟨ah,H1,bf,bA,a1,t1,b6⟩=>?_) aP iz;obtain⟨v,w,rfl,r,b6⟩:=hc b6;obtain⟨v2,w,rfl,cp,dA⟩:=hc b6;cases jg dA;obtain⟨u,f7,rfl,eV,adk⟩:=bA.two;rw[aI]at r cp;obtain⟨ad,bJ,fI,rfl,cu,cM⟩:=r;obtain⟨bd,anZ,sD,rfl,hD,eW⟩:=cp
 exists eV
 exists adk
 have da:lT H1 ad fI:=⟨_,cu⟩
 have WH:lT H1 bd sD:=⟨_,hD⟩
 obtain⟨a5,bq,cA⟩:=da.get bf;obtain⟨hN,xB,QZ⟩:=WH.get bf;have fh:ad<s1.L:=let ⟨_,q,_⟩:=cA;d5 q
 have fE:bd<s1.L:=let ⟨_,q,_⟩:=QZ;d5 q
 refine call_zip_2 cA QZ λh' CJ HW HX HY WI _ aW=>?_;have cR:aS X ae O H1 { s1 with heap:=h'}:=bf.kept (t':=s1.toks) aW;refine wpAny_pyIter_zip CJ ?_
 refine⟨s1.L+4,[s1.L+4,s1.L+2,s1.L+3,s1.L,s1.L+1],_,_,H1,rfl,cR,adi ad bd _ _ _ _ _ (min xs.H aO.H)<|zipApart_new fh fE,⟨gG _,CJ,HW,⟨_,_,HX⟩,HY,WI⟩,λb aq=>?_,
  k _ H1 a1 t1 λbV bC eH cf=>akK ⟨_,((cf.b0 t1) ad).2 _ _ cu⟩ (bR.mono (cf.b0 t1) _ _ cM) ⟨_,((cf.b0 t1) bd).2 _ _ hD⟩<|bR.mono (cf.b0 t1) _ _ eW⟩
 have aq:s1.L<=b:=by
  simp only[d3,qQ,or_false]at aq;rcases aq with rfl|rfl|rfl|rfl|rfl
  ·exact gb _ _
  ·exact gb _ _
  ·exact gb _ _
  ·exact cg _
  ·exact gb _ _
 exact bf.ya aq<|bf.b1.fresh aq
end
end bj.bO
namespace bj.bO
open PySem
def Q0(ns:List Int)(i:Int)(h0:0<=i)(af:i<ns.H):∃c∈ns,gE (ns.map T.int) i=J (.int c):=by
 have h:i.M<ns.H:=by lia
 refine⟨ns[i.M],oy h,?_⟩;unfold gE;rw[Y2 h0,Y2<|by simpa using af];simp[h]
def Kk(k:Nat)(ns:List Int):(ns.map T.int).all (dZ k)=Y0:=by rw[pP,iL];intro x _;exists k<;>rfl
theorem n4:∀l:List Int,e2 (l.map T.int)=J l
 |[]=>rfl
 |x::xs=>by show(e2<|xs.map T.int).map (x::·)=_;rw[n4 xs];rfl
theorem Kl{α:Type}(f:α->T):∀l:List α,(∀x∈l,f x=.aC Y0)->∃bs,hP (l.map f)=J bs/\bs.all id=Y0
 |[],_=>⟨[],rfl,rfl⟩
 |x::xs,h=>by
  obtain⟨bs,e,a⟩:=Kl f xs λy aK=>h y<|am _ aK
  exact⟨Y0::bs,by
   rw[cU,h x<|dS ..];show(hP<|xs.map f).map (Y0::·)=_
   rw[e];rfl,by simpa using a⟩
theorem Km:∀{ls:List ZA},(∀l∈ls,l≠[])->mm (ls.map aG)=J ls
 |[],_=>rfl
 |l::ls,h=>by
  have a4:=Km (ls:=ls) λl aB=>h l<|am _ aB;cases l with
  |nil=>exact absurd rfl<|h []<|dS ..
  |cons x xs =>
   have:=n4<|x::xs;rw[cU]at this;show(e2<|.int x::xs.map T.int).bind (λl=>(mm<|ls.map aG).map (l::·))=_;rw[this,a4];rfl
theorem Kn{put:T->bE->Option bE}{c:fa}{R:bE->Prop}{p:T->Bool}{f:T->T}:∀(xs:List T),(∀x∈xs,∀S n,R S->∃S',put x S=J S'/\R S'/\c S' n=J (p x,n)/\(p x=Y0->aY e S' n=J (f x,.ag,n))) ->
  ∀(S:bE) (n:Nat) (acc:List T),R S->acc.H+xs.H<=bh->iT put c e xs S n acc=J (acc++(xs.filter p).map f,n)
 |[],_,S,n,acc,_,_=>by simp[iT]
 |x::xs,h,S,n,acc,gY,aq=>by
  obtain⟨S',az,bA,au,a6⟩:=h x (dS ..) S n gY;rw[d8]at aq;unfold iT;rw[az];simp only[eN,au];by_cases aF:p x=Y0
  ·rw[Y2 aF,a6 aF];simp only[eN];rw[Y2<|qS aq,Kn xs (λy aK=>h y<|am _ aK) S' n (acc++[f x]) bA<|by simp;lia];simp[aF]
  ·rw[Y3 aF,Kn xs (λy aK=>h y<|am _ aK) S' n acc bA<|ez aq];simp[aF]
def ED{i:Nat}{n n':Nat}(h:d S n=J (t,.aE,n'))(hi:S[i]?=J (J (u,.aE)))(bT:g u t=J t'):hM i g d S n=J (.bD,S.set i<|some (t',.aE),n'):=by unfold hM aY;simp only[h,eN,en,kh,hi,bT]
def xP(lo hi:Int):(il lo hi).H=(hi-lo).M:=by simp[il]
end bj.bO
namespace bj.bO
open PySem
def rC{α:Type}{i:Nat}{n:Nat}(aO:List α)(g:α->T)(p:α->Bool)(f:α->T)(hi:it S n=J (aO.map g,n))(aB:aO.H<=bh)
  (h:∀y∈aO,c ((ck l S).set i (J (g y,.ag))) n=J (p y,n)/\(p y=Y0->aY e ((ck l S).set i (J (g y,.ag))) n=J (f y,.ag,n))) :
  er it (ck l) (cB i) c e S n=J (.ao<|(aO.filter p).map f,.aE,n):=by
 have gen:∀(zs:List α) (S0:bE) (acc:List T),(∀y∈zs,y∈aO)->(∀v,S0.set i v=(ck l S).set i v)->acc.H+zs.H<=bh->iT (cB i) c e (zs.map g) S0 n acc=J (acc++(zs.filter p).map f,n):=by
  intro zs
  induction zs with
  |nil=>intro S0 acc _ _ _;simp[iT]
  |cons z zs a4 =>
   intro S0 acc hz zl aq;rw[d8]at aq;obtain⟨af,ak⟩:=h z<|hz z<|dS ..;have AV:∀v,((ck l S).set i (J (g z,.ag))).set i v=(ck l S).set i v:=λv=>by rw[BU]
   rw[cU];unfold iT;simp only[cB,eN,zl,af];cases aF:p z with
   |true =>
    simp only[if_true,ak aF,eN];rw[Y2<|qS aq,a4 _ _ (λy aK=>hz y<|am _ aK) AV<|by simp;lia];simp[aF]
   |false =>
    simp only[jm,if_false];rw[a4 _ _ (λy aK=>hz y<|am _ aK) AV<|ez aq];simp[aF]
 unfold er;rw[hi];simp only[eN];rw[gen aO _ [] (λ_ h=>h) (λ_=>rfl)<|by simpa using aB];rfl
def ij{α:Type}{i:Nat}{n:Nat}(aO:List α)(g:α->T)(f:α->T)(hi:it S n=J (aO.map g,n))(aB:aO.H<=bh)
  (h:∀y∈aO,aY e ((ck l S).set i (J (g y,.ag))) n=J (f y,.ag,n)) :
  er it (ck l) (cB i) yes e S n=J (.ao<|aO.map f,.aE,n):=by
 rw[rC aO g (λ_=>Y0) f hi aB λy aK=>⟨rfl,λ_=>h y aK⟩,yp.mpr λ_ _=>rfl]
def amw{α:Type}{i j:Nat}{n:Nat}(aO:List α)(g g':α->T)(p:α->Bool)(f:α->T)(jF:i≠j)(hi:it S n=J (aO.map λy=>.aD [g y,g' y],n))(aB:aO.H<=bh)
  (h:∀y∈aO,c (((ck l S).set i (J (g y,.ag))).set j (J (g' y,.ag))) n=J (p y,n)/\(p y=Y0->aY e (((ck l S).set i (J (g y,.ag))).set j (J (g' y,.ag))) n=J (f y,.ag,n))) :
  er it (ck l) (zV i j) c e S n=J (.ao<|(aO.filter p).map f,.aE,n):=by
 have gen:∀(zs:List α) (S0:bE) (acc:List T),(∀y∈zs,y∈aO)->(∀v hS,(S0.set i v).set j hS=((ck l S).set i v).set j hS)->acc.H+zs.H<=bh->iT (zV i j) c e (zs.map λy=>.aD [g y,g' y]) S0 n acc=J (acc++(zs.filter p).map f,n):=by
  intro zs
  induction zs with
  |nil=>intro S0 acc _ _ _;simp[iT]
  |cons z zs a4 =>
   intro S0 acc hz zl aq;rw[d8]at aq;obtain⟨af,ak⟩:=h z<|hz z<|dS ..;have AV:∀v hS,((((ck l S).set i (J (g z,.ag))).set j (J (g' z,.ag))).set i v).set j hS=((ck l S).set i v).set j hS:=λv hS=>by rw[List.set_comm (J (g' z,bo.ag)) v<|Ne.symm jF,BU,BU]
   rw[cU];unfold iT;simp only[zV,eN,zl,af];cases aF:p z with
   |true =>
    simp only[if_true,ak aF,eN];rw[Y2<|qS aq,a4 _ _ (λy aK=>hz y<|am _ aK) AV<|by simp;lia];simp[aF]
   |false =>
    simp only[jm,if_false];rw[a4 _ _ (λy aK=>hz y<|am _ aK) AV<|ez aq];simp[aF]
 unfold er;rw[hi];simp only[eN];rw[gen aO _ [] (λ_ h=>h) (λ_ _=>rfl)<|by simpa using aB];rfl
def Q1{it:ib}{l:List<|Option Nat}{i:Nat}{e:bM}{S:bE}{n0 n:Nat}{xs:List T}{P:T->Prop}{K N:Nat}(hi:it S n0=J (xs,n))(h:∀x n,n+K<=N->∃t n',aY e ((ck l S).set i (J (x,.ag))) n=J (t,.ag,n')/\n<=n'/\n'<=n+K/\P t)
  (bz:n+K*xs.H<=N) (aq:xs.H<=bh):∃out n',out.H=xs.H/\(∀t∈out,P t)/\n<=n'/\n'<=n+K*xs.H/\er it (ck l) (cB i) yes e S n0=J (.ao out,.aE,n'):=by
 have gen:∀(zs:List T) (S0:bE) (n:Nat) (acc:List T),(∀v,S0.set i v=(ck l S).set i v)->n+K*zs.H<=N->acc.H+zs.H<=bh->∃out n',out.H=zs.H/\(∀t∈out,P t)/\n<=n'/\n'<=n+K*zs.H/\iT (cB i) yes e zs S0 n acc=J (acc++out,n'):=by
  intro zs
  induction zs with
  |nil=>intro S0 n acc _ _ _;exact⟨[],n,rfl,λt cA=>by simp at cA,cg _,by simp,by simp[iT]⟩
  |cons z zs a4 =>
   intro S0 n acc zl bz aq;have aW:K*(zs.H+1)=K*zs.H+K:=by rw[Nat.mul_succ]
   rw[d8,aW]at bz;rw[d8]at aq;obtain⟨t,aM,az,fh,fE,p⟩:=h z n Z3;obtain⟨out,bC,aX,bb,fc,fO,cK⟩:=a4 ((ck l S).set i (J (z,.ag))) aM (acc++[t]) (λv=>by rw[BU]) Z3 (by simp;lia);refine⟨t::out,bC,by simp[aX],λt' cA=>?_,(bP fh fc),by rw[d8,aW];lia,?_⟩
   ·rcases d3.mp cA with rfl|cA
    ·exact p
    ·exact bb t' cA
   ·unfold iT;simp only[cB,zl,eN,yes,az,if_true];rw[Y2<|qS aq,cK];simp
 obtain⟨out,n',aX,bb,cK,fV,hU⟩:=gen xs (ck l S) n [] (λ_=>rfl) bz (by simpa using aq);refine⟨out,n',aX,bb,cK,fV,?_⟩;unfold er;rw[hi];simp only[eN];rw[hU];rfl
theorem vt{α:Type}(f:α->T)(Q:α->Prop):∀{out:List T},(∀t∈out,∃y,t=f y/\Q y)->∃l:List α,out=l.map f/\∀y∈l,Q y
 |[],_=>⟨[],rfl,by simp⟩
 |t::aA,h=>by
  obtain⟨l,rfl,aB⟩:=vt f Q λt cA=>h t<|am _ cA;obtain⟨y,rfl,aK⟩:=h t<|dS ..
  exact⟨y::l,rfl,λz hz=>by
   rcases d3.mp hz with rfl|hz
   ·exact aK
   ·exact aB z hz⟩
theorem Ko{α O:Type}{put:T->bE->Option bE}{g:α->T}{n:Nat}(R:O->bE->Prop)(step:O->α->O):∀(aO:List α) (s:O) (S:bE),(∀pre y post,aO=pre++y::post->∀S,R (pre.foldl step s) S->∃S1 S2,put (g y) S=J S1/\b S1 n=J (.bD,S2,n)/\R (step (pre.foldl step s) y) S2)->R s S ->
  ∃S',R (aO.foldl step s) S'/\fF put b (aO.map g) S n=J (.bD,S',n)
 |[],s,S,_,gY=>⟨S,gY,rfl⟩
 |y::aO,s,S,h,gY=>by obtain⟨S1,S2,az,au,cp⟩:=h [] y aO rfl S gY;obtain⟨S',hE,a6⟩:=Ko R step aO (step s y) S2 (λpre z post e S gY=>h (y::pre) z post (by rw[e];rfl) S gY) cp;refine⟨S',hE,?_⟩;rw[cU];unfold fF;simp only[az,eN,au];exact a6
def Vg(n:Nat)(af:l.H<100000)(ak:∀x∈l,-10000000000000<=x/\x<=10000000000000):xi n [.ao<|l.map .int]=J (.int<|cI l,.ag):=by
 have:(l.all λx=>decide (x.natAbs<=10000000000000))=Y0:=by rw[iL];intro x av;have:=ak x av;simp;lia
 show(e2<|l.map T.int).bind _=_;rw[n4,eN,Y2 ⟨af,this⟩]
def EE{n n':Nat}{j:Int}(h:a S n=J ([.int j],n'))(b6:-(bh:Int)<=j)(dA:j<=bh):iB a S n=J (il 0 j,n'):=by unfold iB;rw[h];show(if-(bh:Int)<=j/\j<=bh then J (il 0 j,n') else C)=_;rw[Y2 ⟨b6,dA⟩]
def akM{n n':Nat}{i j:Int}(h:a S n=J ([.int i,.int j],n'))(b6:-(bh:Int)<=i)(dA:i<=bh)(jY:-(bh:Int)<=j)(q8:j<=bh):Gf a S n=J (il i j,n'):=by unfold Gf;rw[h];show(if-(bh:Int)<=i/\i<=bh /\ -(bh:Int)<=j/\j<=bh then J (il i j,n') else C)=_;rw[Y2 ⟨b6,dA,jY,q8⟩]
def Kp(m:Nat):il 0 m=(List.range m).map λk=>.int (k:Nat):=by simp[il]
theorem Kq{k:Nat}(go:∀t:T,dZ k t=Y0->dU t t=Y0):∀a:List T,(a.all<|dZ k)=Y0->iK a a=Y0
 |[],_=>rfl
 |x::a,h=>by rw[jT,f3]at h;show(dU x x&&iK a a)=Y0;rw[go x h.1,Kq go a h.2];rfl
def amx(t:T)(h:dZ 0 t=Y0):dU t t=Y0:=by
 cases t with
 |br=>rfl
 |aC b=>show(b==b)=Y0;simp
 |int i=>show(i==i)=Y0;simp
 |str x=>show(x==x)=Y0;simp
 |_=>exists h
theorem Kr:∀(k:Nat) (t:T),dZ k t=Y0->dU t t=Y0
 |0,t,h=>amx t h
 |k+1,t,h=>by
  cases t with
  |aD a=>exact Kq (Kr k) a h
  |ao a=>exact Kq (Kr k) a h
  |br=>rfl
  |aC b=>show(b==b)=Y0;simp
  |int i=>show(i==i)=Y0;simp
  |str x=>show(x==x)=Y0;simp
  |_=>exists h
def AW(h:dZ 6 t=Y0):o4 t t=J Y0:=by
 have e:=Kr 6 t h;have q:o4 t t=if(dZ 6 t&&dZ 6 t)=Y0 then J (dU t t) else C:=by
  cases t with
  |bk a=>exists h
  |_=>rfl
 rw[q,h,e];rfl
def adl{α:Type}{k:Nat}{f:α->T}{l:List α}(h:∀x∈l,dZ k (f x)=Y0):dZ (k+1) (.ao<|l.map f)=Y0:=by show(l.map f).all (dZ k)=Y0;rw[pP,iL];exact h
def at_neg(h:xs≠[])(e:xs.getLast h=t):gE xs (-1)=J t:=by have aB:0<xs.H:=GK.mpr h;unfold gE;rw[Y3 Z0,Y2 Z3,show(-1+(xs.H:Int)).M=xs.H-1 by lia];rw[<-e,List.getLast_eq_getElem];simp[aB]
end bj.bO
namespace bj.bO
variable {α:Type}
noncomputable def L1(b:bw):Option (hF×bE×Nat)->Option (hF×bE×Nat)
 |some (.bD,S,n)=>b S n
 |x=>x
def pj(a b:bw)(S:bE)(n:Nat):bL a b S n=L1 b (a S n):=by
 unfold bL;cases a S n with
 |none=>rfl
 |some r=>obtain⟨f,S1,aM⟩:=r;exists f<;>rfl
def AX(b:bw)(S:bE)(n:Nat):L1 b (J (.bD,S,n))=b S n:=rfl
def ai5(b:bw)(S:bE)(n:Nat)(t:T)(o:Bool):L1 b (J (.aU t o,S,n))=J (.aU t o,S,n):=rfl
noncomputable def vu(a b:Nat->Option α):Option (Bool×Nat)->Option α
 |some (t,n)=>if t then a n else b n
 |none=>C
def ag7(c:fa)(a b:bw)(S:bE)(n:Nat):eF c a b S n=vu (a S) (b S) (c S n):=by unfold eF;cases c S n<;>rfl
def ags(c:fa)(a b:bM)(S:bE)(n:Nat):s6 c a b S n=vu (a S) (b S) (c S n):=by unfold s6;cases c S n<;>rfl
def jh(a b:Nat->Option α)(t:Bool)(n:Nat):vu a b (J (t,n))=if t then a n else b n:=rfl
def ag8(a b:Nat->Option α)(n:Nat):vu a b (J (Y0,n))=a n:=rfl
def ag9(a b:Nat->Option α)(n:Nat):vu a b (J (Y1,n))=b n:=rfl
noncomputable def L2(i:Nat)(S:bE):Option (T×bo×Nat)->Option (hF×bE×Nat)
 |some (t,.aE,n)=>J (.bD,S.set i<|some (t,.aE),n)
 |some (t,.ag,n)=>J (.bD,S.set i<|some (t,.ag),n)
 |_=>C
def Mh(i:Nat)(d:bM)(S:bE)(n:Nat):dK i d S n=L2 i S (d S n):=by
 unfold dK;cases d S n with
 |none=>rfl
 |some r=>obtain⟨t,m,aM⟩:=r;exists m<;>rfl
def ai6(i:Nat)(S:bE)(t:T)(n:Nat):L2 i S (J (t,.aE,n))=J (.bD,S.set i<|some (t,.aE),n):=rfl
def ai7(i:Nat)(S:bE)(t:T)(n:Nat):L2 i S (J (t,.ag,n))=J (.bD,S.set i<|some (t,.ag),n):=rfl
noncomputable def BA(S:bE):Option (T×bo×Nat)->Option (hF×bE×Nat)
 |some (t,.aE,n)=>J (.aU t Y0,S,n)
 |some (t,.ag,n)=>J (.aU t Y1,S,n)
 |_=>C
def Gk(d:bM)(S:bE)(n:Nat):cT d S n=BA S (d S n):=by
 unfold cT;cases d S n with
 |none=>rfl
 |some r=>obtain⟨t,m,aM⟩:=r;exists m<;>rfl
def ai8(S:bE)(t:T)(n:Nat):BA S (J (t,.aE,n))=J (.aU t Y0,S,n):=rfl
def ai9(S:bE)(t:T)(n:Nat):BA S (J (t,.ag,n))=J (.aU t Y1,S,n):=rfl
def L3(n:Nat):Option (Option ZJ)->Option (T×bo×Nat)
 |some (J (t,m))=>J (t,look m t,n)
 |_=>C
def Mi(i:Nat)(S:bE)(n:Nat):ai i S n=L3 n S[i]?:=by unfold ai L3;split<;>simp_all
def aha(n:Nat)(t:T)(m:bo):L3 n (J<|some (t,m))=J (t,look m t,n):=rfl
noncomputable def yi(n:Nat):Option ZJ->Option (T×bo×Nat)
 |some (t,m)=>J (t,m,n)
 |none=>C
noncomputable def Q2(g:eB):Option (List T×Nat)->Option (T×bo×Nat)
 |some (aA,n)=>yi n<|g n aA
 |none=>C
def F6(g:eB)(a:gg)(S:bE)(n:Nat):aH g a S n=Q2 g (a S n):=by
 unfold aH;cases a S n with
 |none=>rfl
 |some r=>obtain⟨aA,aM⟩:=r;show(g aM aA).map _=yi aM (g aM aA);cases g aM aA<;>rfl
def agt(g:eB)(aA:List T)(n:Nat):Q2 g (J (aA,n))=yi n (g n aA):=rfl
def ahb(n:Nat)(t:T)(m:bo):yi n (J (t,m))=J (t,m,n):=rfl
noncomputable def EF(t:T):Option (List T×Nat)->Option (List T×Nat)
 |some (aA,n)=>J (t::aA,n)
 |none=>C
noncomputable def Uy(r:gg)(S:bE):Option (T×bo×Nat)->Option (List T×Nat)
 |some (t,_,n)=>EF t<|r S n
 |none=>C
def EG(d:bM)(r:gg)(S:bE)(n:Nat):aa d r S n=Uy r S (d S n):=by
 unfold aa;cases d S n with
 |none=>rfl
 |some x=>obtain⟨t,m,aM⟩:=x;show(r S aM).map _=EF t (r S aM);cases r S aM<;>rfl
def aja(r:gg)(S:bE)(t:T)(m:bo)(n:Nat):Uy r S (J (t,m,n))=EF t (r S n):=rfl
def akN(t:T)(aA:List T)(n:Nat):EF t (J (aA,n))=J (t::aA,n):=rfl
noncomputable def EH(p:T×Bool):Option (List (T×Bool)×Nat)->Option (List (T×Bool)×Nat)
 |some (aA,n)=>J (p::aA,n)
 |none=>C
def NM(r:ix)(S:bE):Option (T×bo×Nat)->Option (List (T×Bool)×Nat)
 |some (t,m,n)=>EH (t,flag m t)<|r S n
 |none=>C
def adm(d:bM)(r:ix)(S:bE)(n:Nat):ax d r S n=NM r S (d S n):=by
 unfold ax;cases d S n with
 |none=>rfl
 |some x=>obtain⟨t,m,aM⟩:=x;show(r S aM).map _=EH (t,flag m t) (r S aM);cases r S aM<;>rfl
def adn(r:ix)(S:bE)(t:T)(m:bo)(n:Nat):NM r S (J (t,m,n))=EH (t,flag m t) (r S n):=rfl
def agu(p:T×Bool)(aA:List<|T×Bool)(n:Nat):EH p (J (aA,n))=J (p::aA,n):=rfl
noncomputable def F7(n:Nat):Option T->Option (T×bo×Nat)
 |some t=>J (t,.ag,n)
 |none=>C
def Q3:Option (T×bo×Nat)->Option (T×bo×Nat)
 |some (t,m,n)=>F7 n<|en t m
 |none=>C
def agv(d:bM)(S:bE)(n:Nat):aY d S n=Q3 (d S n):=by
 unfold aY;cases d S n with
 |none=>rfl
 |some x=>obtain⟨t,m,aM⟩:=x;show(en t m).map _=F7 aM (en t m);cases en t m<;>rfl
def agw(t:T)(m:bo)(n:Nat):Q3 (J (t,m,n))=F7 n (en t m):=rfl
def ahc(n:Nat)(t:T):F7 n (J t)=J (t,.ag,n):=rfl
noncomputable def Gl(n:Nat):Option Bool->Option (Bool×Nat)
 |some b=>J (b,n)
 |none=>C
def T3:Option (T×bo×Nat)->Option (Bool×Nat)
 |some (t,_,n)=>Gl n<|jD t
 |none=>C
def ahd(d:bM)(S:bE)(n:Nat):bK d S n=T3 (d S n):=by
 unfold bK;cases d S n with
 |none=>rfl
 |some x=>obtain⟨t,m,aM⟩:=x;show(jD t).map _=Gl aM (jD t);cases jD t<;>rfl
def ahe(t:T)(m:bo)(n:Nat):T3 (J (t,m,n))=Gl n (jD t):=rfl
def ajb(n:Nat)(b:Bool):Gl n (J b)=J (b,n):=rfl
noncomputable def T4:Option (Bool×Nat)->Option (Bool×Nat)
 |some (b,n)=>J (!b,n)
 |none=>C
def ahf(c:fa)(S:bE)(n:Nat):et c S n=T4 (c S n):=by unfold et;cases c S n<;>rfl
def k_not(b:Bool)(n:Nat):T4 (J (b,n))=J (!b,n):=rfl
def ahg(a b:fa)(S:bE)(n:Nat):pC a b S n=vu (b S) (λn=>J (Y1,n)) (a S n):=by unfold pC;cases a S n<;>rfl
def agx(a b:fa)(S:bE)(n:Nat):hX a b S n=vu (λn=>J (Y0,n)) (b S) (a S n):=by unfold hX;cases a S n<;>rfl
def F8:Option (T×Bool×Nat)->Option (T×bo×Nat)
 |some (t,b,n)=>J (t,eO b,n)
 |none=>C
def Uz(dT:Nat)(f:cY):Option (List (T×Bool)×Nat)->Option (T×bo×Nat)
 |some (aA,n)=>if aA.H=dT then F8 (f aA n) else C
 |none=>C
def ajc(dT:Nat)(f:cY)(a:ix)(S:bE)(n:Nat):bB dT f a S n=Uz dT f (a S n):=by
 unfold bB;cases a S n with
 |none=>rfl
 |some x =>
  obtain⟨aA,aM⟩:=x;show(if aA.H=dT then(f aA aM).map _ else C)=if aA.H=dT then F8 (f aA aM) else C
  cases f aA aM<;>rfl
def akO(dT:Nat)(f:cY)(aA:List<|T×Bool)(n:Nat):Uz dT f (J (aA,n))=if aA.H=dT then F8 (f aA n) else C:=rfl
def ahh(t:T)(b:Bool)(n:Nat):F8 (J (t,b,n))=J (t,eO b,n):=rfl
def ado(t:T)(S:bE)(n:Nat):aw t S n=J (t,.ag,n):=rfl
def ahi(S:bE)(n:Nat):ar S n=J ([],n):=rfl
def ajd(S:bE)(n:Nat):a9 S n=J ([],n):=rfl
def aje(S:bE)(n:Nat):e6 S n=J (.bD,S,n):=rfl
def T5:Option (List T×Nat)->Option (T×bo×Nat)
 |some (aA,n)=>if aA.H<=bh then J (.aD aA,.ag,n) else C
 |none=>C
def ahj(a:gg)(S:bE)(n:Nat):cw a S n=T5 (a S n):=by unfold cw;cases a S n<;>rfl
def ahk(aA:List T)(n:Nat):T5 (J (aA,n))=if aA.H<=bh then J (.aD aA,.ag,n) else C:=rfl
noncomputable def Gm(n:Nat):Option bE->Option (hF×bE×Nat)
 |some S=>J (.bD,S,n)
 |none=>C
noncomputable def T6(put:T->bE->Option bE)(S:bE):Option (T×bo×Nat)->Option (hF×bE×Nat)
 |some (t,_,n)=>Gm n<|put t S
 |none=>C
def ahl(put:T->bE->Option bE)(d:bM)(S:bE)(n:Nat):TO put d S n=T6 put S (aY d S n):=by
 unfold TO;cases aY d S n with
 |none=>rfl
 |some x=>obtain⟨t,m,aM⟩:=x;show(put t S).map _=Gm aM (put t S);cases put t S<;>rfl
def k_put(put:T->bE->Option bE)(S:bE)(t:T)(m:bo)(n:Nat):T6 put S (J (t,m,n))=Gm n (put t S):=rfl
def ajf(n:Nat)(S:bE):Gm n (J S)=J (.bD,S,n):=rfl
noncomputable def Mj(b:bM)(S:bE):Option (T×bo×Nat)->Option (T×bo×Nat)
 |some (.aC Y0,_,n)=>b S n
 |some (.aC Y1,_,n)=>J (.aC Y1,.ag,n)
 |_=>C
def ajg(a b:bM)(S:bE)(n:Nat):rl a b S n=Mj b S (a S n):=by
 unfold rl;cases a S n with
 |none=>rfl
 |some x =>
  obtain⟨t,m,aM⟩:=x;cases t with
  |aC c=>exists c<;>rfl
  |_=>rfl
def akP(b:bM)(S:bE)(m:bo)(n:Nat):Mj b S (J (.aC Y0,m,n))=b S n:=rfl
def akQ(b:bM)(S:bE)(m:bo)(n:Nat):Mj b S (J (.aC Y1,m,n))=J (.aC Y1,.ag,n):=rfl
def j7(i:Int):og .int (.int i)=J Y0:=rfl
def kx(i:Int):og .bool (.int i)=J Y1:=rfl
def iE(a:List T):og .tuple (.aD a)=J Y0:=rfl
def jK(a:List T):og .list (.ao a)=J Y0:=rfl
def ky(a:PySem.Str):og .str (.str a)=J Y0:=rfl
def pk(n:Nat)(a b:Int):ej n [.int a,.int b]=J (.int<|a+b,.ag):=rfl
def vv(n:Nat)(a b:List T):ej n [.aD a,.aD b]=if a.H+b.H<=bh then J (.aD<|a++b,.ag) else C:=rfl
def EI(n:Nat)(a b:List T):ej n [.ao a,.ao b]=if a.H+b.H<=bh then J (.ao<|a++b,.aE) else C:=rfl
def tr(n:Nat)(a:List T)(i:Int):dv n [.ao a,.int i]=(gE a i).map λt=>(t,.ag):=rfl
def my(n:Nat)(a:List T)(i:Int):dv n [.aD a,.int i]=(gE a i).map λt=>(t,.ag):=rfl
def Ks(n:Nat)(a:List<|iw×T)(k:T):dv n [.bk a,k]=(kc k).bind λk=>(iV a k).map λt=>(t,.ag):=rfl
def ll(n:Nat)(a:List T):fe n [.ao a]=J (.int a.H,.ag):=rfl
def g6(n:Nat)(a:List T):fe n [.aD a]=J (.int a.H,.ag):=rfl
def pl(n:Nat):fe n [.dq]=J (.int n,.ag):=rfl
def pn(n:Nat)(a:List<|iw×T):fe n [.bk a]=J (.int a.H,.ag):=rfl
def Vh(n:Nat)(a b:Int):kE n [.int a,.int b]=if small a||small b then J (.int<|a*b,.ag) else C:=rfl
def ajh(n:Nat)(a:List T):qp n [.ao a]=J (.aD a,.ag):=rfl
def akR(n:Nat)(a:List T):nT n [.aD a]=J (.ao a,.aE):=rfl
def EJ(a b:List T):jO (.ao a) (.ao b)=if a.H+b.H<=bh then J (.ao<|a++b) else C:=rfl
def n5(n:Nat)(a b:Int):gk n [.int a,.int b]=J (.aC<|a==b,.ag):=rfl
def xQ(n:Nat)(a b:T):gk n [a,b]=(o4 a b).map λr=>(.aC r,.ag):=rfl
def xR(n:Nat)(a b:T):gn n [a,b]=(o4 a b).map λr=>(.aC<|!r,.ag):=rfl
def aji(n:Nat)(a:List<|iw×T)(k x:T):ml n [.bk a,k,x]=if hn x then C else(kc k).map λk=>((iV a k).getD x,.ag):=rfl
def Vi(a:List<|iw×T)(k v:T):qM (.bk a) k v=(kc k).bind λk=>if a.H<bh then J (.bk<|j5 a k v) else C:=rfl
def UA(n:Nat)(a:List T)(y:Int):uY n [.aD a,.int y]=(e2 a).map λns=>(.int (ns.filter λx=>x==y).H,.ag):=rfl
def xS(n:Nat)(a:List T):ji n [.ao a]=(hP a).map λbs=>(.aC<|bs.all id,.ag):=rfl
def ajj(b:Bool):jD (.aC b)=J b:=rfl
def ajk(i:Int):jD (.int i)=J (i != 0):=rfl
def ajl(a:List T):jD (.ao a)=J (!a.isEmpty):=rfl
def ajm(a:List T):jD (.aD a)=J (!a.isEmpty):=rfl
def ajn(a:List<|iw×T):jD (.bk a)=J (!a.isEmpty):=rfl
def ajo:jD .br=J Y1:=rfl
def EK(S:bE)(n:Nat):Option (Option ZJ)->Option (hF×bE×Nat)
 |some (J (t,.aE))=>J (.aU t Y0,S,n)
 |some (J (t,.ag))=>J (.aU t Y1,S,n)
 |some (J (t,.cZ))=>if hn t then C else J (.aU t Y1,S,n)
 |_=>C
def agy(i:Nat)(S:bE)(n:Nat):s7 i S n=EK S n S[i]?:=by unfold s7 EK;rfl
def ahm(S:bE)(n:Nat)(t:T):EK S n (J<|some (t,.aE))=J (.aU t Y0,S,n):=rfl
def ahn(S:bE)(n:Nat)(t:T):EK S n (J<|some (t,.ag))=J (.aU t Y1,S,n):=rfl
end bj.bO
local macro_rules|`(tactic| simp![$l,*])=>`(tactic| simp [bj.bO.c0, bj.bO.pj, bj.bO.AX, bj.bO.ai5, bj.bO.ag7, bj.bO.ags, bj.bO.ag8, bj.bO.ag9, bj.bO.Mh, bj.bO.ai6, bj.bO.ai7, bj.bO.Gk, bj.bO.ai8, bj.bO.ai9, bj.bO.Mi, bj.bO.aha, bj.bO.F6, bj.bO.agt, bj.bO.ahb, bj.bO.EG, bj.bO.aja, bj.bO.akN, bj.bO.adm, bj.bO.adn, bj.bO.agu, bj.bO.agv, bj.bO.agw, bj.bO.ahc, bj.bO.ahd, bj.bO.ahe, bj.bO.ajb, bj.bO.ahf, bj.bO.k_not, bj.bO.ahg, bj.bO.agx, bj.bO.ajc, bj.bO.akO, bj.bO.ahh, bj.bO.ado, bj.bO.ahi, bj.bO.ajd, bj.bO.aje, bj.bO.ahj, bj.bO.ahk, bj.bO.ahl, bj.bO.k_put, bj.bO.ajf, bj.bO.ajg, bj.bO.akP, bj.bO.akQ, bj.bO.en, bj.bO.look, bj.bO.hn, bj.bO.flag, bj.bO.eO, bj.bO.ajj, bj.bO.ajk, bj.bO.ajl, bj.bO.ajm, bj.bO.ajn, bj.bO.ajo, bj.bO.agy, bj.bO.ahm, bj.bO.ahn, bj.bO.eS, bj.bO.DB, $l,*])
namespace bQ
open PySem bj bj.bO
def Kt:bw:=(bL (eF (hX (et<|bK<|aH (dR .int) ZE)<|bK<|aH (dR .bool) ZE) ZT e6)<|cT<|gw fK fK (ai 1) (ai 0)<|ai 2)
def lp:cY:=c0 3<|Kt
def EL:bM:=er (fJ<|ai 0) (ck [C,J 0]) (cB 0) yes<|bB 3 lp<|ax (ai 0)<|ax ZD<|ax (aw<|.int 30) a9
def xT:bw:=(bL (eF (hX (et<|bK<|aH (dR .tuple) ZE)<|et<|bK<|gw fK fK Z5 (aH fe ZE)<|aw<|.int 8) ZT e6)<|bL (dN 0<|eF (et<|bK<|aH ji<|aa EL ar) ZT e6)<|cT<|aH gk<|aa (aH nT ZE)<|aa (aH rq ZE) ar)
def kz:cY:=c0 1<|xT
def Ku:bM:=er (fJ<|ai 0) (ck [C,J 0]) (cB 0) yes<|bB 1 kz Z8
def AY:bw:=(bL (eF (hX (et<|bK<|aH (dR .tuple) ZE)<|et<|bK<|gw fK fK Z5 (aH fe ZE)<|aw<|.int 4) ZT e6)<|dN 0<|cT<|aH ji<|aa Ku ar)
def mz:cY:=c0 1<|AY
def EM:bw:=(bL (eF (hX (et<|bK<|aH (dR .tuple) ZE)<|bK<|aH gn<|aa (aH fe ZE)<|aa ZC ar) ZT e6)<|cT<|rl (bB 3 lp<|ax (aH dv<|aa (ai 0)<|aa ZD ar)<|ax ZD<|ax (aw<|.int 120) a9)<|bB 3 lp<|ax (aH dv<|aa (ai 0)<|aa Z5 ar)<|ax Z5<|ax (aw<|.int 4096) a9)
def vw:cY:=c0 1<|EM
def EN:bM:=er (fJ<|ai 0) (ck [C,J 0,J 1]) (cB 0) yes<|bB 1 vw Z8
def AZ:bM:=er (fJ<|ai 0) (ck [C,J 0,J 1]) (cB 0) yes<|aH dv<|aa (ai 0)<|aa ZD ar
def Kv:bw:=(bL (eF (hX (et<|bK<|aH (dR .list) ZE)<|et<|bK<|ai 0) ZT e6)<|bL (dN 0<|eF (et<|bK<|aH ji<|aa EN ar) ZT e6)<|bL (dN 0<|dK 1 AZ)<|cT<|aH gk<|aa (ai 1)<|aa (aH DF ZM) ar)
def kA:cY:=c0 2<|Kv
def Q4:bw:=(eF (et<|bK<|bB 3 lp<|ax (ai 0)<|ax (ai 1)<|ax (ai 2) a9) jf e6)
def ts:cY:=c0 3<|Q4
def Kw:dm:=(fG (et<|bK<|bB 3 lp<|ax (ai 0)<|ax (ai 1)<|ax (ai 2) a9) (mX 3<|uw (ai 1)<|uw (ai 2) md) fQ)
def jL:e7:=fnX 3 Kw
def Q5:bw:=(eF (et<|bK<|bB 1 kz Z8) jf e6)
def iZ:cY:=c0 1<|Q5
def Kx:dm:=(fG (et<|bK<|bB 1 kz Z8) (mX 0 md) fQ)
def h1:e7:=fnX 1 Kx
def Q6:bw:=(eF (et<|bK<|bB 1 mz Z8) jf e6)
def g7:cY:=c0 1<|Q6
def Ky:dm:=(fG (et<|bK<|bB 1 mz Z8) (mX 1 md) fQ)
def h2:e7:=fnX 1 Ky
def Kz:bw:=(eF (et<|bK<|bB 1 kA Z8) jf e6)
def lq:cY:=c0 1<|Kz
def adp:dm:=(fG (et<|bK<|bB 1 kA Z8) (mX 2 md) fQ)
def m6:e7:=fnX 1 adp
def Q7:bw:=(qo 3 qM (aH ej<|aa (ai 4)<|aa (ai 5) ar) Zd)
def Q8:bw:=iJ (iI<|ai 2) (cB 5) Q7
def Q9:bw:=(fC 2 Q8)
def Ra:bw:=iJ (iI<|ai 1) (cB 4) Q9
def A0:bw:=(bL (dK 3 Ma)<|bL (fC 1 Ra)<|rn 1 3)
def Rb:bw:=iJ (iI<|ai 0) (cB 2) A0
def Rc:bw:=(bL (dK 1<|Mb ZD<|aY Z5)<|bL (fC 0 Rb)<|s7 1)
def n6:cY:=c0 6<|Rc
def Rd:bw:=(bL (eS<|bB 1 g7 Z8)<|cT<|aH DC<|aa (bB 1 n6 Z8) ar)
def rD:cY:=c0 1<|Rd
def amy:dm:=(dy (d0 1 h2 Z8) (eS<|bB 1 g7 Z8) fQ)
def A1:e7:=fnX 1 amy
def ajp:dm:=(dy (d0 1 h2 Z8) (eS<|bB 1 g7 Z8)<|dy (d0 3 jL<|ax (ai 1)<|ax ZD<|ax (aw<|.int 120) a9) (eS<|bB 3 ts<|ax (ai 1)<|ax ZD<|ax (aw<|.int 120) a9) fQ)
def EO:e7:=fnX 2 ajp
def Rf:bM:=er (fJ<|ai 2) (ck ZU) (cB 0) yes ZY
def Rg:bw:=(dN 2<|hM 3 jO Rf)
def Rh:bw:=iJ (iI<|ai 1) (cB 4) Rg
def Ri:bw:=(bL (dK 3<|dF ar)<|bL (fC 1 Rh)<|rn 1 3)
def KA:bw:=iJ (iI<|ai 0) (cB 2) Ri
def Rj:bw:=(bL (eS<|bB 1 g7 Z8)<|bL (dK 1<|dF<|aa (aY<|cw ar) ar)<|bL (fC 0 KA)<|cT<|aH xe ZM)
def vx:cY:=c0 5<|Rj
def akS:dm:=(dy (d0 1 h2 Z8) (eS<|bB 1 g7 Z8) fQ)
def A2:e7:=fnX 5 akS
def Rk:bM:=er (fJ<|ai 4) (ck ZU) (cB 0) (bK<|aH gn<|aa (aH ml<|aa (ai 3)<|aa (ai 0)<|aa ZD ar)<|aa (aH ml<|aa (ai 4)<|aa (ai 0)<|aa ZD ar) ar)<|ai 0
def Rl:bw:=(bL (eS<|bB 1 g7 Z8)<|bL (eS<|bB 1 g7 ZP)<|bL (dK 2<|bB 1 n6 Z8)<|bL (dK 3<|bB 1 n6 ZP)<|bL (dK 4<|aH ej<|aa (aH nT ZQ)<|aa (aH nT<|aa (ai 3) ar) ar)<|dN 4<|cT<|aH Mf<|aa Rk ar)
def vy:cY:=c0 5<|Rl
def amz:dm:=(dy (d0 1 h2 Z8) (eS<|bB 1 g7 Z8)<|dy (d0 1 h2 ZP) (eS<|bB 1 g7 ZP) fQ)
def EP:e7:=fnX 5 amz
def Rm:bw:=(cT<|aH od<|aa (bB 2 vy<|ax (ai 0) ZP) ar)
def xU:cY:=c0 2<|Rm
def akT:dm:=(d0 2 EP<|ax (ai 0) ZP)
def ER:e7:=fnX 2 akT
def Rn:bM:=er (fJ<|ai 0) (ck [C,J 0,J 1]) (cB 0) (bK<|aH eE<|aa (ai 0) ZQ)<|ai 0
def Ro:bw:=(dN 0<|cT<|aH fe<|aa Rn ar)
def ES:cY:=c0 2<|Ro
def Rp:bM:=er (fJ<|ai 0) (ck [C,J 0,J 1,J 2,J 3]) (cB 0) yes<|bB 2 ES<|ax (ai 2) Z8
def Rq:bM:=er (fJ<|ai 0) (ck [C,J 0,J 1,J 2,J 3]) (cB 0) yes<|aH uY<|aa (ai 2) ZE
def Vj:bw:=(bL (eS<|bB 1 iZ Z8)<|bL (eS<|bB 1 iZ ZP)<|bL (dN 0<|dK 2<|aH xi<|aa Rp ar)<|bL (dN 0<|dK 3<|aH xi<|aa Rq ar)<|cT<|cw<|aa (aY<|ai 2)<|aa (aY<|ai 3)<|aa (aY<|aH ka<|aa (aH ka<|aa (aH kE<|aa (aH fe ZE)<|aa (aH fe ZM) ar) ZQ)<|aa (ai 3) ar) ar)
def m7:cY:=c0 4<|Vj
def ajq:dm:=(dy (d0 1 h1 Z8) (eS<|bB 1 iZ Z8)<|dy (d0 1 h1 ZP) (eS<|bB 1 iZ ZP) fQ)
def m8:e7:=fnX 4 ajq
def Rr:bw:=(bL (dK 2<|bB 2 m7<|ax (ai 0) ZP)<|cT<|aH rm<|aa (aH dv<|aa (ai 2)<|aa ZD ar)<|aa (aH dv<|aa (ai 2)<|aa ZC ar) ar)
def qD:cY:=c0 3<|Rr
def akU:dm:=(dy (d0 2 m8<|ax (ai 0) ZP) (dK 2<|bB 2 m7<|ax (ai 0) ZP) fQ)
def tu:e7:=fnX 3 akU
def Rt:bM:=er (Gf<|aa (aH ej<|aa (aH dv<|aa (ai 1)<|aa ZD ar)<|aa Z5 ar)<|aa (aH fe ZE) ar) (ck [C,J 0,J 1,J 2]) (cB 0) (bK<|aH J9<|aa (ai 0) ZQ)<|ai 0
def Ru:bM:=er (fJ<|ai 2) (ck [C,J 0,J 1,J 2]) (cB 0) (bK<|aH dv<|aa (aH dv<|aa (ai 1)<|aa (aH dv<|aa (ai 2)<|aa (aH pD<|aa Z5 ar) ar) ar) ZE)<|aH ej<|aa (ai 2)<|aa (cw<|aa (aY<|ai 0) ar) ar
def Rv:bw:=(bL (dK 2 Rt)<|dN 2<|cT Ru)
def A3:cY:=c0 3<|Rv
def Rw:bM:=er (iB<|aa (aH fe ZM) ar) (ck [C,J 0,J 1]) (cB 0) yes<|aH dv<|aa (aH dv<|aa (ai 1)<|aa (aH dv<|aa (ai 2)<|aa (aH ka<|aa (ai 0)<|aa Z5 ar) ar) ar)<|aa (aH dv<|aa (ai 2) ZE) ar
def Rx:bw:=(cT<|aH ji<|aa Rw ar)
def xV:cY:=c0 2<|Rx
def KC:bM:=er (iB<|aa (aH fe ZE) ar) (ck ZU) (cB 0) yes<|cw<|aa (aY<|ai 0) ar
def KD:bw:=(hM 3 jO<|bB 2 A3<|ax (ai 0)<|ax (ai 4) a9)
def KG:bw:=iJ (iI<|ai 2) (cB 4) KD
def KH:bM:=er (fJ<|ai 3) (ck [J 0,J 1,J 2,J 3,C]) (cB 4) (bK<|bB 2 xV<|ax (ai 0)<|ax (ai 4) a9)<|ai 4
def A4:bw:=(bL (dK 3<|dF ar)<|bL (fC 2 KG)<|bL (dN 3<|hM 1 jO KH)<|rn 2 3)
def KI:bw:=DA (bK<|ai 2) A4
def Ry:bw:=(bL (dK 1<|dF ar)<|bL (dK 2 KC)<|bL KI<|cT<|aH rr ZM)
def ET:cY:=c0 5<|Ry
def KJ:bM:=er (fJ<|ai 0) (ck [C,J 0,J 1,J 2]) (cB 0) yes<|bB 2 qD<|ax (ai 3) Z8
def Rz:bw:=(dN 0<|hM 1 rS KJ)
def KL:bw:=iJ (iI<|ai 0) (cB 2) Rz
def RA:bw:=(bL (dK 1<|dF ar)<|bL (fC 0 KL)<|s7 1)
def xW:cY:=c0 3<|RA
def RB:bw:=(bL (eS<|bB 1 g7 Z8)<|cT<|bB 1 ET<|ax (bB 1 xW Z8) a9)
def vz:cY:=c0 1<|RB
def adq:dm:=(dy (d0 1 h2 Z8) (eS<|bB 1 g7 Z8) fQ)
def A5:e7:=fnX 1 adq
def ads:bM:=er (fJ<|ai 0) (ck [C,J 0,J 1]) (cB 0) yes<|bB 3 lp<|ax (ai 0)<|ax ZD<|ax (aH ka<|aa (ai 2)<|aa Z5 ar) a9
def adt:bw:=(bL (eF (hX (et<|bK<|aH (dR .tuple) ZE)<|bK<|aH eE<|aa (aH fe ZE)<|aa ZC ar) ZT e6)<|bL (dN 0<|eF (et<|bK<|aH ji<|aa ads ar) ZT e6)<|cT<|aH gk<|aa (aH Pb ZE)<|aa (aH fe ZE) ar)
def KN:cY:=c0 2<|adt
def RC:bw:=(bL (eS<|bB 1 g7 Z8)<|cT<|rl (bB 2 KN<|ax (ai 1)<|ax (aH fe ZE) a9)<|bB 2 xV<|ax (bB 1 xW Z8) ZP)
def EU:cY:=c0 2<|RC
def adu:dm:=(dy (d0 1 h2 Z8) (eS<|bB 1 g7 Z8) fQ)
def KP:e7:=fnX 2 adu
def KQ:bM:=er (fJ<|ai 1) (ck [C,J 0,J 1,J 2]) (cB 0) yes<|aH dv<|aa (aH dv<|aa (ai 1) ZE)<|aa (ai 3) ar
def RD:bw:=(dN 1<|cT<|xd<|bK<|aH LX<|aa KQ ar)
def EV:cY:=c0 3<|RD
def EW:bM:=er (fJ<|ai 3) (ck ZU) (cB 0) (bK<|bB 3 EV<|ax (ai 2)<|ax (ai 4) Z8)<|ai 0
def KR:bM:=er (fJ<|ai 3) (ck ZU) (cB 0) (bK<|aH gn<|aa (ai 0)<|aa (aH dv<|aa (ai 5)<|aa ZD ar) ar)<|ai 0
def tv:bw:=(bL (dN 3<|dK 4 EW)<|bL (eF (et<|bK<|ai 4) (cT<|aw .br) e6)<|bL (hM 2 rS<|aH dv<|aa (ai 4)<|aa ZD ar)<|dN 3<|dK 3 KR)
def EX:bw:=DA (bK<|ai 3) tv
def RE:bw:=(bL (eS<|bB 1 g7 Z8)<|bL (dK 1<|bB 1 xW Z8)<|bL (dK 2<|dF ar)<|bL (dK 3<|z0<|aa (aH fe ZE) ar)<|bL EX<|s7 2)
def vA:cY:=c0 5<|RE
def akV:dm:=(dy (d0 1 h2 Z8) (eS<|bB 1 g7 Z8) fQ)
def A6:e7:=fnX 5 akV
def amA:dm:=(dy (d0 1 h2 Z8) (eS<|bB 1 g7 Z8)<|dy (d0 3 jL<|ax (ai 1)<|ax ZD<|ax (aw<|.int 999) a9) (eS<|bB 3 ts<|ax (ai 1)<|ax ZD<|ax (aw<|.int 999) a9) fQ)
def EY:e7:=fnX 2 amA
def tx:bw:=(eS<|bB 3 ts<|ax (ai 4)<|ax Z5<|ax (aw<|.int 8) a9)
def EZ:bw:=iJ (iI<|ai 1) (cB 4) tx
def adv:bw:=(bL (eS<|bB 1 lq Z8)<|bL (eF (hX (et<|bK<|aH (dR .tuple) ZM)<|bK<|aH gn<|aa (aH fe ZM) ZQ) jf e6)<|bL (fC 1 EZ)<|eS<|bB 3 ts<|ax (ai 3)<|ax ZD<|ax (aw<|.int 30) a9)
def KS:cY:=c0 5<|adv
def adw:dm:=(dy (d0 1 m6 Z8) (eS<|bB 1 lq Z8)<|dy (fG (hX (et<|bK<|aH (dR .tuple) ZM)<|bK<|aH gn<|aa (aH fe ZM) ZQ) (mX 3<|uw (ai 2) md) fQ) (eF (hX (et<|bK<|aH (dR .tuple) ZM)<|bK<|aH gn<|aa (aH fe ZM) ZQ) jf e6)<|dy (F0 (iI<|ai 1) (cB 4) tx<|d0 3 jL<|ax (ai 4)<|ax Z5<|ax (aw<|.int 8) a9) (fC 1 EZ)<|d0 3 jL<|ax (ai 3)<|ax ZD<|ax (aw<|.int 30) a9)
def E0:e7:=fnX 5 adw
def rE:bw:=(bL (qo 2 qM (ai 3)<|aH ka<|aa (aH ml<|aa (ai 2)<|aa (ai 3)<|aa ZD ar)<|aa (aH dv<|aa (ai 1)<|aa (ai 3) ar) ar)<|eF (bK<|aH eE<|aa (aH dv<|aa (ai 2)<|aa (ai 3) ar)<|aa ZD ar) (cT<|aw .br) e6)
def vB:bw:=iJ (iI<|ai 1) (cB 3) rE
def KU:bM:=er (fJ<|ai 2) (ck [J 0,J 1,J 2,C]) (cB 3) (bK<|aH rm<|aa (aH dv<|aa (ai 2)<|aa (ai 3) ar)<|aa ZD ar)<|cw<|aa (aY<|ai 3)<|aa (aY<|aH dv<|aa (ai 2)<|aa (ai 3) ar) ar
def KV:bw:=(bL (dK 2<|aH xf ZE)<|bL (fC 1 vB)<|dN 2<|cT<|aH xf<|aa KU ar)
def vC:cY:=c0 4<|KV
def adx:dm:=(dy (d0 4 E0<|ax (ai 0)<|ax (ai 1)<|ax ZC<|ax (ai 2) a9) (eS<|bB 4 KS<|ax (ai 0)<|ax (ai 1)<|ax ZC<|ax (ai 2) a9) fQ)
def E1:e7:=fnX 3 adx
def ady:bw:=(bL (dK 4<|aH vV ZQ)<|bL (dK 5<|aH ka<|aa (ai 4)<|aa (aH dv<|aa (ai 1)<|aa ZD ar) ar) Zg)
def A7:bw:=DA (bK<|ai 2) ady
def RF:bw:=(bL (eS<|bB 1 lq Z8)<|bL (eS<|bB 1 iZ ZP)<|bL (dK 2<|aH xf ZE)<|bL (dK 3<|dF ar)<|bL A7<|cT<|aH qp<|aa (ai 3) ar)
def A8:cY:=c0 8<|RF
def adz:dm:=(dy (d0 1 m6 Z8) (eS<|bB 1 lq Z8)<|dy (d0 1 h1 ZP) (eS<|bB 1 iZ ZP) fQ)
def A9:e7:=fnX 8 adz
def adA:dm:=(dy (d0 1 h1 Z8) (eS<|bB 1 iZ Z8)<|dy (d0 1 h1 ZP) (eS<|bB 1 iZ ZP)<|dy (d0 3 jL<|ax (ai 2)<|ax ZD<|ax (aw<|.int 30) a9) (eS<|bB 3 ts<|ax (ai 2)<|ax ZD<|ax (aw<|.int 30) a9) fQ)
def vD:e7:=fnX 5 adA
def RG:bw:=(bL (eF (bK<|aH eE<|aa (ai 1)<|aa (aH fe ZE) ar) (cT<|aH dv<|aa (ai 0) ZM) e6)<|bL (eF (bK<|aH gk<|aa (ai 0)<|aa (dF ar) ar) (cT ZD) e6)<|cT<|aH ej<|aa (aH kE<|aa (aH dv<|aa (ai 0)<|aa (aH oc<|aa (ai 1)<|aa (aH fe ZE) ar) ar)<|aa (aw<|.int 31) ar) ZM)
def E2:cY:=c0 2<|RG
def RH:bw:=(bL (dK 3<|aH oc<|aa (aH kE<|aa (aH ej<|aa (aH ej<|aa (bB 2 E2<|ax (ai 0) ZP)<|aa (aH kE<|aa (aw<|.int 7919) ZM) ar)<|aa Z5 ar)<|aa (aw<|.int 48271) ar)<|aa (aw<|.int 2147483647) ar)<|cT<|aH oc<|aa (aH oc<|aa (aH ej<|aa (aH ej<|aa (aH kE<|aa (ai 3)<|aa (ai 3) ar)<|aa (aH kE<|aa (aw<|.int 7)<|aa (ai 3) ar) ar) ZM)<|aa (aw<|.int 2147483629) ar) ZQ)
def E3:cY:=c0 4<|RH
def RI:bw:=(bL (DB 1)<|cT<|bB 3 E3<|ax (ai 0)<|ax (aH fe ZM)<|ax (ai 2) a9)
def j8:cY:=c0 3<|RI
def RJ:bw:=(cT<|aH dv<|aa (ai 2)<|aa (bB 3 j8<|ax (ai 0)<|ax (ai 1)<|ax (aH fe ZQ) a9) ar)
def qE:cY:=c0 3<|RJ
def RK:bM:=er (iB ZQ) (ck [C,J 0,J 1,J 2,J 3,J 4,J 5,J 6]) (cB 0) yes<|aH vV<|aa (ai 4)<|aa (aH ej<|aa (ai 5)<|aa (bB 3 j8<|ax (ai 1)<|ax (ai 2)<|ax (ai 6) a9) ar) ar
def RL:bw:=(bL (dK 4<|bB 3 qE<|ax (ai 0)<|ax (ai 1)<|ax (dF<|aa (aY ZD)<|aa (aY ZD)<|aa (aY Z5)<|aa (aY Z5)<|aa (aY<|bB 3 j8<|ax (ai 0)<|ax (ai 1)<|ax (aw<|.int 20) a9) ar) a9)<|bL (dK 5<|bB 3 qE<|ax (ai 0)<|ax (ai 1)<|ax (dF<|aa (aY Z5)<|aa (aY<|aw<|.int 3)<|aa (aY<|aw<|.int 6)<|aa (aY<|aw<|.int 12) ar) a9)<|bL (dK 6 RK)<|cT<|aH qp<|aa (aH rq<|aa (ai 6) ar) ar)
def tB:cY:=c0 7<|RL
def RM:bM:=er (iB ZQ) (ck [C,J 0,J 1,J 2,J 3]) (cB 0) yes<|bB 4 tB<|ax (ai 1)<|ax (ai 2)<|ax (aH ej<|aa Z5<|aa (bB 3 j8<|ax (ai 1)<|ax (ai 2)<|ax (ai 4) a9) ar)<|ax (aw<|.int 30) a9
def RN:bw:=(cT<|aH qp<|aa RM ar)
def vE:cY:=c0 4<|RN
def RO(e:Nat)(bG:Nat->Bool):bw:=(bL (dK 1<|dF<|aa (aY<|aH (mY e<|bG 0) ZE)<|aa (aY<|aH (mY e<|bG 1) ZE)<|aa (aY<|aH (mY e<|bG 2) ZE)<|aa (aY<|aH (mY e<|bG 3) ZE) ar)<|bL (hM 1 jO<|dF<|aa (aY<|aH (mY e<|bG 4) ZE)<|aa (aY<|aH (mY e<|bG 5) ZE) ar)<|bL (eF (hX (bK<|aH gn<|aa (aH I4<|aa (ai 1)<|aa (aw<|.aC Y0) ar)<|aa Z5 ar)<|et<|bK<|aH (mY e<|bG 11) ZE) (cT<|cw<|aa ZL<|aa (aY<|aH pD<|aa Z5 ar) ar) e6)<|cT<|cw<|aa ZL<|aa (aY<|aH Et<|aa (ai 1)<|aa (aw<|.aC Y0) ar) ar)
def rF(e:Nat)(bG:Nat->Bool):cY:=c0 2<|RO e bG
noncomputable def RQ:Nat->Option T:=λc=>if c<6 then J (.aD [.str "refused",.int c]) else C
def KW:cY:=c0 5 jf
def m9:bw:=(bL (dK 4<|aH vV ZQ)<|bL (dK 5<|aH ka<|aa (ai 4)<|aa (aH dv<|aa (ai 1)<|aa ZD ar) ar) Zg)
end bQ
namespace jc
open PySem bj bj.bO
def adB(e n:Nat)(bG:Nat->Bool)(i:Int)(af:I4 n [.ao [.aC<|bG 0,.aC<|bG 1,.aC<|bG 2,.aC<|bG 3,.aC<|bG 4,.aC<|bG 5],.aC Y0]=J (.int 1,.ag))(ak:bG 11=Y0)(bc:Et n [.ao [.aC<|bG 0,.aC<|bG 1,.aC<|bG 2,.aC<|bG 3,.aC<|bG 4,.aC<|bG 5],.aC Y0]=J (.int i,.ag)):bQ.rF e bG [(.bJ e,Y0)] n=J (.aD [.str "refused",.int i],Y1,n):=by have q:∀b,mY e b n [.bJ e]=J (.aC b,.ag):=λb=>Y2 rfl;have aX:gn n [.int 1,.int 1]=J (.aC Y1,.ag):=rfl;unfold bQ.rF bQ.RO;simp![dF,q,hM,EJ,bh,af,ak,bc,aX]
def Ba(e n c:Nat)(h:c<6):bQ.rF e (λj=>j==c||j==11) [(.bJ e,Y0)] n=J (.aD [.str "refused",.int c],Y1,n):=by
 have:c=0\/c=1\/c=2\/c=3\/c=4\/c=5:=by omega
 rcases this with rfl|rfl|rfl|rfl|rfl|rfl<;>exact adB e n _ _ rfl rfl rfl
end jc
namespace jc
open PySem bj bj.bO bQ
def akW(ns:List Int)(k:Int)(aW:0<=k)(n:Nat):∃c,E2 [ZO,(.int k,Y0)] n=J (.int c,Y1,n):=by
 unfold E2 RG;by_cases h:k<ns.H
 ·obtain⟨c,_,e⟩:=Q0 ns k aW h;refine⟨c,?_⟩;simp![jh,eE,dY,ll,g6,pl,pn,tr,my,Ks,h,e]
 ·cases rj:ns with
  |nil =>
   refine⟨0,?_⟩;subst rj;have:¬k<0:=h;have he:gk n [.ao [],.ao []]=J (.aC Y0,.ag):=rfl;simp![jh,eE,dY,ll,he,dF,this]
  |cons x xs =>
   rw[<-rj];have m3:0<ns.H:=by rw[rj];simp
   have aB:(0:Int)<ns.H:=by lia
   have m0:=Hc k (b:=ns.H)<|B6 aB;have cS:=Hb k aB;obtain⟨c,_,e⟩:=Q0 ns (k%ns.H) m0 cS;have a7:o4 (.ao<|ns.map T.int) (.ao [])=J Y1:=by have aF:=Kk 5 ns;show(if(dZ 6 (.ao<|ns.map T.int)&&dZ 6 (.ao []))=Y0 then J (dU (.ao<|ns.map T.int)<|.ao []) else C)=_;rw[show dZ 6 (.ao<|ns.map T.int)=Y0 from aF];subst rj;rfl
   refine⟨c*31+k,?_⟩;simp![jh,eE,dY,ll,g6,pl,pn,tr,my,Ks,h,e,xQ,a7,dF,oc,m3,Vh,pk,vv,EI,small]
structure j9 (most:Nat) (d:List Int):Prop where
 one:1<=d.H
 most:d.H<=most
 hI:∀x∈d,0<=x/\x<=30
 up:d.Pairwise (·<=·)
structure ip (most aho:Nat) (ds:List ZA):Prop where
 one:1<=ds.H
 most:ds.H<=most
 aL:∀d∈ds,j9 aho d
def xX(i lo hi:Int)(n:Nat)(af:lo<=i)(ak:i<=hi):lp [(.int i,Y0),(.int lo,Y0),(.int hi,Y0)] n=J (.aC Y0,Y1,n):=by unfold lp Kt;simp![jh,dR,j7,kx,iE,jK,ky,gw,fK,dY,af,ak]
def rG{F:Nat}(h:j9 F d)(cx:F<=8)(n:Nat):kz [(aG d,Y0)] n=J (.aC Y0,Y1,n):=by
 have de:bh=1000000:=rfl;have fh:=h.one;have fE:=h.most;have au:EL [J (.aD<|d.map .int,.ag)] n=J (.ao (d.map λ_=>T.aC Y0),.aE,n) :=
  ij d T.int (λ_=>.aC Y0) rfl Z3 λy aK=>by have hi:=h.hI y aK;simp![jh,ck,xX y 0 30 n hi.1 hi.2]
 obtain⟨bs,cq,cE⟩:=Kl (λ_:Int=>T.aC Y0) d λ_ _=>rfl;simp at cE;have a6:sortI d=d:=(zW (.refl d) h.up).symm;unfold kz xT;have fc:(1:Int)<=d.H:=by lia
 have fO:(d.H:Int)<=8:=by lia
 have adC:d.H<64:=(gS fE<|gS cx Z0)
 have bX:rq n [.aD<|d.map T.int]=J (.ao<|d.map .int,.aE):=by simp[rq,n4,a6,adC]
 have eQ:o4 (.ao<|d.map T.int) (.ao<|d.map T.int)=J Y0:=AW<|Kk 5 d;generalize d.map (λ_=>T.aC Y0)=aA at au cq;unfold aG;simp![jh,dN,dR,j7,kx,iE,jK,ky,gw,fK,dY,ll,g6,pl,pn,fh,fc,fO,au,bX,eQ,akR,xQ,xS,cq,cE]
def E4{M F:Nat}(h:ip M F ds)(eh:M<=4)(cx:F<=8)(n:Nat):mz [(.aD ZB,Y0)] n=J (.aC Y0,Y1,n):=by
 have de:bh=1000000:=rfl;have fh:=h.one;have fE:=h.most;have au:Ku [J (.aD ZB,.ag)] n=J (.ao (ds.map λ_=>T.aC Y0),.aE,n) :=
  ij ds aG (λ_=>.aC Y0) rfl Z3 λd hd=>by simp![jh,ck,rG (h.aL d hd) cx n]
 obtain⟨bs,cq,cE⟩:=Kl (λ_:List Int=>T.aC Y0) ds λ_ _=>rfl;have fc:(1:Int)<=ds.H:=by lia
 have fO:(ds.H:Int)<=4:=by lia
 simp at cE;generalize ds.map (λ_=>T.aC Y0)=aA at au cq;unfold mz AY;simp![jh,dR,j7,kx,iE,jK,ky,gw,fK,dY,ll,g6,pl,pn,fh,fc,fO,dN,au,xS,cq,cE]
def rH{F:Nat}(h:j9 F d)(cx:F<=8)(n:Nat):iZ [(aG d,Y0)] n=J (.br,Y1,n):=by unfold iZ Q5;simp![jh,rG h cx n]
def pq{M F:Nat}(h:ip M F ds)(eh:M<=4)(cx:F<=8)(n:Nat):g7 [(.aD ZB,Y0)] n=J (.br,Y1,n):=by unfold g7 Q6;simp![jh,E4 h eh cx n]
noncomputable def more(rows:List ZA)(d:List Int):List ZA:=rows.flatMap λr=>d.map λf=>r++[f]
noncomputable def ik(ds:List ZA):List ZA:=ds.foldl more [[]]
theorem E5(d:List Int):∀rows:List ZA,(more rows d).H=rows.H*d.H
 |[]=>by simp[more]
 |r::rows=>by have:=E5 d rows;unfold more at this |-;rw[nk,gq,this,cP,d8,sd,yE]
def adD(r d:List Int)(x0 bH bY:Option ZJ)(n:Nat)(aV:r.H<=10)(hd:d.H<=8) :
  er (fJ<|ai 2) (ck ZU) (cB 0) yes ZY [x0,bH,J (aG d,.ag),bY,J (aG r,.ag)] n=J (.ao<|(d.map λf=>r++[f]).map aG,.aE,n):=by
 have de:bh=1000000:=rfl;have az:iT (cB 0) yes ZY (d.map T.int) [C,x0,bH,J (aG d,.ag),bY,J (aG r,.ag)] n []
   = J ([]++((d.map T.int).filter λ_=>Y0).map (λt=>T.aD<|r.map .int++[t]),n):=by
  refine Kn (R:=λS=>∃a,S=[a,x0,bH,J (aG d,.ag),bY,J (aG r,.ag)]) (p:=λ_=>Y0) (f:=λt=>T.aD<|r.map .int++[t]) (d.map T.int) (λx av S n gY=>?_) _ n [] ⟨C,rfl⟩ (by simp;lia);obtain⟨a,rfl⟩:=gY;obtain⟨i,hi,rfl⟩:=ey.mp av;refine⟨_,rfl,⟨_,rfl⟩,rfl,λ_=>?_⟩;have af:r.H+1<=bh:=by lia
  have ak:1<=bh:=by decide
  simp![pk,vv,EI,aG,cw,af,ak]
 have au:((d.map T.int).filter λ_=>Y0).map (λt=>T.aD<|r.map .int++[t])=(d.map λf=>r++[f]).map aG:=by rw[yp.mpr (λ_ _=>rfl),ci,ci];refine mF λf _=>?_;simp[aG]
 rw[au,pO]at az;generalize (d.map λf=>r++[f]).map aG=out at az |-;have aP:ck ZU [x0,bH,J (aG d,.ag),bY,J (aG r,.ag)]=[C,x0,bH,J (aG d,.ag),bY,J (aG r,.ag)]:=rfl;unfold er;rw[show fJ (ai 2) [x0,bH,J (aG d,.ag),bY,J (aG r,.ag)] n=J (d.map T.int,n) from rfl];simp only[eN];rw[aP,az];rfl
theorem inner(d:List Int)(hd:d.H<=8)(x0 bH:Option ZJ)(n:Nat):∀(rows longer:List ZA) (c:Option ZJ),(∀r∈rows,r.H<=10)->longer.H+rows.H*d.H<=100000 ->
  ∃cH,fF (cB 4) (dN 2<|hM 3 jO<|er (fJ<|ai 2) (ck ZU) (cB 0) yes ZY) (rows.map aG) [x0,bH,J (aG d,.ag),J (.ao<|longer.map aG,.aE),c] n
   = J (.bD,[x0,bH,J (aG d,.ag),J (.ao<|(longer++more rows d).map aG,.aE),cH],n)
 |[],longer,c,_,_=>⟨c,by simp[fF,more]⟩
 |r::rows,longer,c,aV,aB=>by
  have de:bh=1000000:=rfl;rw[d8,sd]at aB;obtain⟨cH,e⟩:=inner d hd x0 bH n rows (longer++d.map λf=>r++[f]) (J (aG r,.ag)) (λb5 n2=>aV b5<|am _ n2) (by simp;lia);refine⟨cH,?_⟩;have az:=adD r d x0 bH (J (.ao<|longer.map aG,.aE)) n (aV r<|dS ..) hd;have hz:longer.H+d.H<=bh:=by lia
  rw[cU];unfold fF;have au:dN 2 (hM 3 jO<|er (fJ<|ai 2) (ck ZU) (cB 0) yes ZY) [x0,bH,J (aG d,.ag),J (.ao<|longer.map aG,.aE),J (aG r,.ag)] n
    = J (.bD,[x0,bH,J (aG d,.ag),J (.ao<|(longer++d.map λf=>r++[f]).map aG,.aE),J (aG r,.ag)],n):=by
   have:dN 2 (hM 3 jO<|er (fJ<|ai 2) (ck ZU) (cB 0) yes ZY) [x0,bH,J (aG d,.ag),J (.ao<|longer.map aG,.aE),J (aG r,.ag)] n=hM 3 jO (er (fJ<|ai 2) (ck ZU) (cB 0) yes ZY) [x0,bH,J (aG d,.ag),J (.ao<|longer.map aG,.aE),J (aG r,.ag)] n:=rfl;rw[this,ED (u:=.ao<|longer.map aG) (t':=.ao<|(longer++d.map λf=>r++[f]).map aG) az rfl<|by simp[EJ,hz]];rfl
  simp only[bj.bO.cB,kL,kM,eN,au];rw[e];simp[more,h6]
noncomputable def vZ(ds:List ZA):Nat:=ds.foldl (λm d=>m*d.H) 1
theorem cj:∀(ds:List ZA) (rows:List ZA) (x0 a b c:Option ZJ) (n k:Nat),(∀d∈ds,d.H<=8)->k+ds.H<=10->(∀r∈rows,r.H=k)->rows.H*(8^ds.H)<=100000 ->
  ∃gJ gU cH,fF (cB 2) (bL (dK 3<|dF ar)<|bL (fC 1<|iJ (iI<|ai 1) (cB 4)<|dN 2<|hM 3 jO<|er (fJ<|ai 2) (ck ZU) (cB 0) yes ZY)<|rn 1 3) ZB [x0,J (.ao<|rows.map aG,.aE),a,b,c] n
   = J (.bD,[x0,J (.ao<|(ds.foldl more rows).map aG,.aE),gJ,gU,cH],n)/\(∀r∈ds.foldl more rows,r.H=k+ds.H)
 |[],rows,x0,a,b,c,n,k,_,_,h,_=>⟨a,b,c,by simp[fF],λr aV=>by simpa using h r aV⟩
 |d::ds,rows,x0,a,b,c,n,k,hd,aW,h,hz=>by
  have de:bh=1000000:=rfl;rw[d8]at aW hz;have qC:=hd d<|dS ..;have Ka:=E5 d rows;have KX:1<=8^ds.H:=kf Z7;have Bb:rows.H*d.H*8^ds.H<=100000:=by refine bP ?_ hz;rw[wm,qU (8^ds.H) 8,<-G5];exact yC _<|G0 _ qC
  have ve:rows.H*d.H<=100000:=bP (MS _ KX) Bb;have Kb:∀r∈more rows d,r.H=k+1:=λr aV=>by unfold more at aV;obtain⟨jv,h0,af⟩:=GQ.mp aV;obtain⟨f,_,rfl⟩:=ey.mp af;simp[h jv h0]
  obtain⟨gJ,gU,cH,e,aV⟩:=cj ds (more rows d) x0 (J (aG d,.ag)) C ((inner d qC x0 (J (.ao<|rows.map aG,.ag)) n rows [] c (λr aV=>by have:=h r aV;exact bP (d1 this)<|l2 aW)<|by simp;exact ve).choose) n (k+1) (λd' mV=>hd d'<|am _ mV) Z3 Kb (by rw[Ka];exact Bb);have dE:=(inner d qC x0 (J (.ao<|rows.map aG,.ag)) n rows [] c (λr aV=>by have:=h r aV;exact bP (d1 this)<|l2 aW)<|by simp;exact ve).choose_spec;refine⟨gJ,gU,cH,?_,λr n2=>by rw[aV r n2,d8];exact Nat.add_right_comm _ _ _⟩;rw[cU];unfold fF;generalize (inner d qC x0 (J (.ao<|rows.map aG,.ag)) n rows [] c (λr aV=>by have:=h r aV;exact bP (d1 this)<|l2 aW)<|by simp;exact ve).choose=uK at e dE;simp only[pO,qR]at dE;have au:bL (dK 3<|dF ar) (bL (fC 1<|iJ (iI<|ai 1) (cB 4)<|dN 2<|hM 3 jO<|er (fJ<|ai 2) (ck ZU) (cB 0) yes ZY)<|rn 1 3) [x0,J (.ao<|rows.map aG,.aE),J (aG d,.ag),b,c] n
    = J (.bD,[x0,J (.ao<|(more rows d).map aG,.aE),J (aG d,.ag),C,uK],n):=by
   simp only[bL,dK,dF,ar,eN,tX,gG,if_true,kL,kM,fC,GC,BO,iJ,iI,ai,look,walked,kh,dE,rn]
  simp only[bj.bO.cB,kL,kM,eN];rw[au];exact e
def UB{M F:Nat}(h:ip M F ds)(eh:M<=4)(cx:F<=8)(n:Nat):vx [(.aD ZB,Y0)] n=J (.ao<|(hK<|ik ds).map aG,Y0,n)/\∀r∈ik ds,r.H=ds.H:=by
 have fh:=h.one;have fE:=h.most;have aF:8^ds.H<=8^4:=wg Z0<|bP fE eh;have dE:(8:Nat)^4=4096:=by decide
 obtain⟨gJ,gU,cH,e,aV⟩:=cj ds [[]] (J (.aD ZB,.ag)) C C C n 0 (λd hd=>bP (h.aL d hd).most cx) Z3 Z7 (by simp;lia);have n2:∀r∈ik ds,r.H=ds.H:=λr n2=>by have:=aV r n2;lia
 refine⟨?_,n2⟩;have az:(ds.foldl more [[]])=ik ds:=rfl;rw[az]at e;have vi:ik ds≠[]:=by
  have pos:∀(ds:List ZA) (rows:List ZA),(∀d∈ds,d≠[])->rows≠[]->ds.foldl more rows≠[]:=by
   intro ds
   induction ds with
   |nil=>intro rows _ h;exact h
   |cons d ds a4 =>
    intro rows hd h;refine a4 _ (λd' mV=>hd d'<|am _ mV) λz=>?_;have:=E5 d rows;rw[z]at this;have af:0<rows.H:=GK.mpr h;have ak:0<d.H:=GK.mpr<|hd d<|dS ..;have:=Nat.mul_pos af ak
    simp_all
  exact pos ds [[]] (λd hd z=>by have:=(h.aL d hd).one;rw[z]at this;simp at this) Z7
 have au:e2 ((ik ds).map aG)=C:=by
  cases a7:ik ds with
  |nil=>exact absurd a7 vi
  |cons r rs=>simp[aG,e2]
 have a6:mm ((ik ds).map aG)=J (ik ds):=Km λr aV z=>by have:=n2 r aV;rw[z]at this;simp at this;lia
 have bX:xe n [.ao<|(ik ds).map aG]=J (.ao<|(hK<|ik ds).map aG,.aE):=by simp[xe,au,a6]
 have aq:1<=bh:=by decide
 have eQ:fC 0 KA [J (.aD ZB,.ag),J (.ao [aG []],.aE),C,C,C] n
   = J (.bD,[J (.aD ZB,.ag),J (.ao<|(ik ds).map aG,.aE),gJ,gU,cH],n):=by
  unfold KA Ri Rh Rg Rf;simp only[fC,BO,iJ,iI,ai,look,hn,walked,eN,kh];exact e
 unfold vx Rj;have fN:cw ar [J (T.aD ZB,bo.ag),C,C,C,C] n=J (aG [],.ag,n):=rfl;simp only[c0,bL,eS,bB,ax,a9,ai,cU,qR,d8,tX,GP,pO,Nat.reduceAdd,Nat.reduceSub,if_true,List.replicate,BO,look,eN,kh,flag,pq h eh cx n,eO,dK,dF,aa,aY,fN,en,ar,aq,kL,kM];rw[eQ];simp![bX]
def kt(least:Bool)(many:Nat)(r:List Int):Int:=if least then cI ((sortI r).take many) else cI ((sortI r).drop (r.H-many))
noncomputable def ay(d:List Z6):List<|iw×T:=d.map λp=>(Sum.inl p.1,T.int p.2)
noncomputable def c5(d:List Z6)(k:Int):Int:=((d.find? λp=>decide (p.1=k)).map (·.2)).getD 0
def Av(d:List Z6)(k:Int):(iV (ay d)<|.inl k).getD (.int 0)=.int (c5 d k):=by
 unfold iV ay c5
 induction d with
 |nil=>rfl
 |cons p d a4 =>
  rw[cU,ii,ii];by_cases h:p.1=k
  ·simp[h]
  ·simp[h]at a4 |-;exact a4
def Vk(d:List Z6)(k:Int):((ay d).any λc9=>decide (c9.1=(Sum.inl k:iw)))=d.any λp=>decide (p.1=k):=by unfold ay;rw[GU];congr 1;funext p;simp
def cnt_none{k:Int}(h:(d.any λp=>decide (p.1=k))=Y1):c5 d k=0:=by
 unfold c5;have:d.find? (λp=>decide (p.1=k))=C:=by rw[List.find?_eq_none];intro p aF;have:=MJ.mp h p aF;simpa using this
 rw[this];rfl
def jl(d:List Z6)(p:Int->Bool):Int:=cI<|(d.filter λq=>p q.1).map (·.2)
theorem KY:∀a b:List Int,cI (a++b)=cI a+cI b
 |[],b=>by simp[cI]
 |x::a,b=>by simp[cI,KY a b,Int.add_assoc]
def rI(q:Int×Int)(d:List Z6)(p:Int->Bool):jl (q::d) p=(if p q.1 then q.2 else 0)+jl d p:=by
 unfold jl;rw[tW];by_cases h:p q.1=Y0
 ·simp[h,cI]
 ·simp[h]
def adE(a b:List Z6)(p:Int->Bool):jl (a++b) p=jl a p+jl b p:=by unfold jl;rw[List.filter_append,lA,KY]
def amB{d:List Z6}{k v:Int}(h:k∉d.map (·.1)):d.map (λp=>if p.1=k then(p.1,v) else p)=d:=by
 conv=>rhs;rw[<-r8 d]
 refine mF λp aF=>?_;rw[Y3 λe=>h<|by rw[<-e];exact kd aF];rfl
def vF(d:List Z6)(k:Int):(d.any λp=>decide (p.1=k))=Y0↔k∈d.map (·.1):=by
 rw[List.any_eq_true,ey];constructor
 ·rintro⟨q,af,ak⟩;exact⟨q,af,by simpa using ak⟩
 ·rintro⟨q,af,ak⟩;exact⟨q,af,by simpa using ak⟩
noncomputable def agS(q:Int×Int):T:=.aD [.int q.1,.int q.2]
theorem RS:∀d:List Z6,itemsOf (ay d)=J d
 |[]=>rfl
 |q::d=>by have:=RS d;unfold ay at this |-;rw[cU];show(itemsOf<|d.map _).map (q::·)=_;rw[this];rfl
structure Told (items:List Z6) (dc:List Int):Prop where
 tC:∀p:Int->Bool,jl items p=(dc.countP p:Nat)
 len:items.H<=dc.H
 hI:∀q∈items,0<=q.2/\q.2<=dc.H
def adF(h:∀d∈ds,∀x∈d,0<=x/\x<=30)(aV:r∈ik ds):∀x∈r,0<=x/\x<=30:=by
 have gen:∀(ds rows:List ZA),(∀d∈ds,∀x∈d,0<=x/\x<=30)->(∀r∈rows,∀x∈r,0<=x/\x<=30)->∀r∈ds.foldl more rows,∀x∈r,0<=x/\x<=30:=by
  intro ds
  induction ds with
  |nil=>intro rows _ h;exact h
  |cons d ds a4 =>
   intro rows hd ahp;refine a4 _ (λd' mV=>hd d'<|am _ mV) λr aV x av=>?_;obtain⟨jv,h0,af⟩:=GQ.mp aV;obtain⟨f,hf,rfl⟩:=ey.mp af;rcases hQ.mp av with av|av
   ·exact ahp jv h0 x av
   ·simp at av;subst av;exact hd d (dS ..) x hf
 exact gen ds [[]] h Z7 r aV
def RT(ds:List ZA):(ik ds).H=vZ ds:=by
 have gen:∀(ds rows:List ZA),(ds.foldl more rows).H=ds.foldl (λm d=>m*d.H) rows.H:=by
  intro ds
  induction ds with
  |nil=>intro rows;rfl
  |cons d ds a4=>intro rows;rw[mG,mG,a4,E5]
 exact gen ds [[]]
def RU{F:Nat}(h:∀d∈ds,d.H<=F):vZ ds<=F^ds.H:=by
 have gen:∀(ds:List ZA) (m:Nat),(∀d∈ds,d.H<=F)->ds.foldl (λm d=>m*d.H) m<=m*F^ds.H:=by
  intro ds
  induction ds with
  |nil=>intro m _;simp
  |cons d ds a4 =>
   intro m h;refine bP (a4 _ λd' mV=>h d'<|am _ mV) ?_;rw[d8,wm,qU (F^ds.H) F,<-G5];exact yC _<|G0 _<|h d<|dS ..
 have:=gen ds 1 h;simpa[vZ]using this
noncomputable def gA(d:List Z6)(k w:Int):List Z6:=if(d.any λp=>decide (p.1=k))=Y0 then d.map (λp=>if p.1=k then(p.1,c5 d k+w) else p) else d++[(k,w)]
def RV(d:List Z6)(k w:Int):j5 (ay d) (.inl k) (.int<|c5 d k+w)=ay (gA d k w):=by
 unfold j5 gA;rw[Vk];cases h:d.any λp=>decide (p.1=k) with
 |true =>
  simp only[if_true];unfold ay;rw[ci,ci];refine mF λp _=>?_;by_cases e:p.1=k<;>simp[e]
 |false=>simp[ay,cnt_none h]
theorem RW{k w:Int}(p:Int->Bool):∀{d:List Z6},(d.map (·.1)).Nodup->k∈d.map (·.1)->jl (d.map λq=>if q.1=k then(q.1,c5 d k+w) else q) p=jl d p+if p k then w else 0
 |[],_,h=>by simp at h
 |(a,b)::d,bW,h=>by
  rw[cU]at bW h;obtain⟨aM,bC⟩:=nq.mp bW;by_cases e:a=k
  ·subst e;have HZ:c5 ((a,b)::d) a=b:=by simp[c5]
   rw[cU,amB (by simpa using aM),rI,rI,HZ];simp only[if_true];split<;>lia
  ·have aW:k∈d.map (·.1):=by
    rcases d3.mp h with z|z
    ·exact absurd z.symm e
    ·exact z
   have HZ:c5 ((a,b)::d) k=c5 d k:=by simp[c5,e]
   rw[cU,rI,rI,HZ,RW p bC aW];simp only[e,if_false];lia
structure iR (d:List Z6) (f:(Int->Bool)->Int):Prop where
 bW:(d.map (·.1)).Nodup
 pos:∀q∈d,1<=q.2
 tC:∀p:Int->Bool,jl d p=f p
def iR.nil:iR [] λ_=>0:=⟨by simp,by simp,λp=>by simp[jl,cI]⟩
def Gz{k:Int}(h:∀q∈d,1<=q.2):0<=c5 d k:=by
 unfold c5;cases e:d.find? λp=>decide (p.1=k) with
 |none=>simp
 |some q=>have:=h q<|List.mem_of_find?_eq_some e;simp;exact kO this
def iR.add(B:iR d f)(k w:Int)(hw:1<=w):iR (gA d k w) λp=>f p+if p k then w else 0:=by
 have aT:=Gz (k:=k) B.pos;unfold gA;cases h:d.any λp=>decide (p.1=k) with
 |true =>
  have aW:=(vF d k).mp h;simp only[if_true];refine⟨?_,λq a7=>?_,λp=>?_⟩
  ·rw[ci,show(λx:Int×Int=>x.1)∘(λp:Int×Int=>if p.1=k then(p.1,c5 d k+w) else p)=λx=>x.1 from by funext p;simp only[Function.comp];split<;>rfl];exact B.bW
  ·obtain⟨NN,h0,rfl⟩:=ey.mp a7;have:=B.pos NN h0;split
   ·simp only;lia
   ·exact this
  ·rw[RW p B.bW aW,B.tC p]
 |false =>
  have aW:k∉d.map (·.1):=λz=>by rw[(vF d k).mpr z]at h;exists h
  simp only[jm,if_false];refine⟨?_,λq a7=>?_,λp=>?_⟩
  ·rw[lA,we];refine⟨B.bW,by simp,λx av y aK z=>?_⟩;simp at aK;subst aK z;exact aW av
  ·rcases hQ.mp a7 with a7|a7
   ·exact B.pos q a7
   ·simp at a7;subst a7;exact hw
  ·rw[adE,B.tC p,rI];simp[jl,cI]
def iR.congr(B:iR d f)(h:∀p,f p=g p):iR d g:=⟨B.bW,B.pos,λp=>(B.tC p).trans (h p)⟩
def RX(d:List Z6)(k w:Int):(gA d k w).H<=d.H+1:=by unfold gA;split<;>simp
def RY{k:Int}(h:k∉d.map (·.1)):jl d (λx=>x==k)=0:=by
 induction d with
 |nil=>simp[jl,cI]
 |cons q d a4 =>
  rw[cU]at h;have af:¬q.1=k:=λz=>h (by rw[<-z];exact dS ..);rw[rI,a4 λz=>h<|am _ z];simp[af]
theorem RZ:∀{d:List Z6} {k v:Int},(d.map (·.1)).Nodup->(k,v)∈d->jl d (λx=>x==k)=v
 |[],_,_,_,h=>by simp at h
 |q::d,k,v,bW,h=>by
  rw[cU]at bW;obtain⟨aM,bC⟩:=nq.mp bW;rcases d3.mp h with e|h
  ·subst e;rw[rI,RY aM];simp
  ·have af:¬q.1=k:=λz=>aM (by rw[z];exact kd (f:=(·.1)) h);rw[rI,RZ bC h];simp[af]
noncomputable def spread(dc:List Int)(d:List Int):List Int:=dc.flatMap λk=>d.map λf=>k+f
def rV(eP:List Z6)(aL:List Int)(p:Int->Bool):Int:=cI (eP.map λq=>q.2*((aL.countP λf=>p (q.1+f):Nat):Int))
theorem R0(eP:List Z6)(x0 cf:Option ZJ)(t v:Int)(bS:1<=v)(xN:iV (ay eP) (.inl t)=J (.int v))(n:Nat):∀(aL:List Int) (d:List Z6) (f:(Int->Bool)->Int) (a:Option ZJ),iR d f->d.H+aL.H<=100000 ->
  ∃d' gJ,iR d' (λp=>f p+v*((aL.countP λg=>p (t+g):Nat):Int))/\d'.H<=d.H+aL.H/\fF (cB 5) (qo 3 qM (aH ej<|aa (ai 4)<|aa (ai 5) ar) Zd) (aL.map T.int)
   [x0,J (.bk<|ay eP,.ag),cf,J (.bk<|ay d,.aE),J (.int t,.ag),a] n=J (.bD,[x0,J (.bk<|ay eP,.ag),cf,J (.bk<|ay d',.aE),J (.int t,.ag),gJ],n)
 |[],d,f,a,B,_=>⟨d,a,B.congr λp=>by simp,by simp,by simp[fF]⟩
 |g::aL,d,f,a,B,hz=>by
  have de:bh=1000000:=rfl;rw[d8]at hz;have an0:=RX d (t+g) v;obtain⟨d',gJ,uy,m3,e⟩:=R0 eP x0 cf t v bS xN n aL (gA d (t+g) v) _ (J (.int g,.ag)) (B.add (t+g) v bS) Z3;refine⟨d',gJ,uy.congr λp=>?_,by rw[d8];lia,?_⟩
  ·rw[ox];by_cases aF:p (t+g)=Y0
   ·simp[aF,Int.mul_add];lia
   ·simp[aF]
  ·rw[cU];unfold fF;have aB:(ay d).H<bh:=by unfold ay;rw[cP];lia
   have au:qo 3 qM (aH ej<|aa (ai 4)<|aa (ai 5) ar) Zd
     [x0,J (.bk<|ay eP,.ag),cf,J (.bk<|ay d,.aE),J (.int t,.ag),J (.int g,.ag)] n=J (.bD,[x0,J (.bk<|ay eP,.ag),cf,J (.bk<|ay<|gA d (t+g) v,.aE),J (.int t,.ag),J (.int g,.ag)],n):=by
    rw[<-RV];have c:=Av d<|t+g;simp![qo,pk,vv,EI,aji,tr,my,Ks,kc,c,xN,Vi,aB]
   simp only[bj.bO.cB,kL,kM,eN];rw[au];exact e
def E6{k v:Int}(bW:(d.map (·.1)).Nodup)(h:(k,v)∈d):iV (ay d) (.inl k)=J (.int v):=by
 unfold iV ay
 induction d with
 |nil=>simp at h
 |cons q d a4 =>
  rw[cU]at bW;obtain⟨aM,bC⟩:=nq.mp bW;rw[cU,ii];rcases d3.mp h with e|h
  ·subst e;simp
  ·have af:¬q.1=k:=λz=>aM (by rw[z];exact kd (f:=(·.1)) h);simp[af];simpa using a4 bC h
theorem R1(eP:List Z6)(bW:(eP.map (·.1)).Nodup)(ps:∀q∈eP,1<=q.2)(aL:List Int)(x0:Option ZJ)(n:Nat):∀(l:List Z6) (d:List Z6) (f:(Int->Bool)->Int) (a b:Option ZJ),(∀q∈l,q∈eP)->iR d f->d.H+l.H*aL.H<=100000 ->
  ∃d' gJ gU,iR d' (λp=>f p+rV l aL p)/\d'.H<=d.H+l.H*aL.H/\fF (cB 4) (fC 2<|iJ (iI<|ai 2) (cB 5)<|qo 3 qM (aH ej<|aa (ai 4)<|aa (ai 5) ar) Zd) (l.map λq=>T.int q.1)
   [x0,J (.bk<|ay eP,.ag),J (aG aL,.ag),J (.bk<|ay d,.aE),a,b] n=J (.bD,[x0,J (.bk<|ay eP,.ag),J (aG aL,.ag),J (.bk<|ay d',.aE),gJ,gU],n)
 |[],d,f,a,b,_,B,_=>⟨d,a,b,B.congr λp=>by simp[rV,cI],by simp,by simp[fF]⟩
 |q::l,d,f,a,b,aB,B,hz=>by
  rw[d8,sd]at hz;have a7:=aB q<|dS ..;obtain⟨d7,cq,uM,fh,az⟩:=R0 eP x0 (J (aG aL,.ag)) q.1 q.2 (ps q a7) (E6 bW a7) n aL d f b B Z3;obtain⟨d',gJ,gU,uy,fE,e⟩:=R1 eP bW ps aL x0 n l d7 _ (J (.int q.1,.ag)) cq (λeM n3=>aB eM<|am _ n3) uM Z3;refine⟨d',gJ,gU,uy.congr λp=>?_,by rw[d8,sd];lia,?_⟩
  ·simp[rV,cI];lia
  ·rw[cU];unfold fF;generalize (qo 3 qM (aH ej<|aa (ai 4)<|aa (ai 5) ar) Zd)=qc at az e |-;have au:fC 2 (iJ (iI<|ai 2) (cB 5) qc) [x0,J (.bk<|ay eP,.ag),J (aG aL,.ag),J (.bk<|ay d,.aE),J (.int q.1,.ag),b] n=J (.bD,[x0,J (.bk<|ay eP,.ag),J (aG aL,.ag),J (.bk<|ay d7,.aE),J (.int q.1,.ag),cq],n):=az;simp only[bj.bO.cB,kL,kM,eN];rw[au];exact e
theorem R2(B:iR eP λp=>(dc.countP p:Nat))(p:Int->Bool):∀aL:List Int,rV eP aL p=((spread dc aL).countP p:Nat)
 |[]=>by
  have af:∀d:List Z6,rV d [] p=0:=by
   intro d
   induction d with
   |nil=>rfl
   |cons q d a4=>unfold rV at a4 |-;rw[cU,cI,a4];simp
  have ak:spread dc []=[]:=by unfold spread;simp
  rw[af,ak];rfl
 |g::aL=>by
  have af:∀d:List Z6,rV d (g::aL) p=jl d (λk=>p<|k+g)+rV d aL p:=by
   intro d
   induction d with
   |nil=>rfl
   |cons q d a4 =>
    unfold rV at a4 |-;rw[cU,cU,cI,cI,a4,rI,ox];by_cases aF:p (q.1+g)=Y0
    ·simp[aF,Int.mul_add];lia
    ·simp[aF];lia
  have ak:∀dc:List Int,(spread dc<|g::aL).countP p=dc.countP (λk=>p<|k+g)+(spread dc aL).countP p:=by
   intro dc
   induction dc with
   |nil=>rfl
   |cons k dc a4 =>
    unfold spread at a4 |-;rw[nk,nk,GO,GO,a4,cU,ox,ox];lia
  rw[af,B.tC,R2 B p aL,ak];simp
theorem R3(x0:Option ZJ)(n:Nat):∀(ds:List ZA) (d:List Z6) (dc:List Int) (a b c dE:Option ZJ),iR d (λp=>(dc.countP p:Nat))->d.H*(ds.map λx=>max 1 x.H).foldr (·*·) 1<=100000 ->
  ∃d' gJ gU cH bN,iR d' (λp=>((ds.foldl spread dc).countP p:Nat))/\fF (cB 2) A0 ZB
   [x0,J (.bk<|ay d,.aE),a,b,c,dE] n=J (.bD,[x0,J (.bk<|ay d',.aE),gJ,gU,cH,bN],n)
 |[],d,dc,a,b,c,dE,B,_=>⟨d,a,b,c,dE,B,by simp[fF]⟩
 |aL::ds,d,dc,a,b,c,dE,B,hz=>by
  rw[cU,BR,<-G5]at hz;have Bb:d.H*aL.H*(ds.map λx=>max 1 x.H).foldr (·*·) 1<=100000:=bP (yC _<|G0 _<|G3 _ _) hz;have KX:∀ds:List ZA,1<=(ds.map λx=>max 1 x.H).foldr (·*·) 1:=λds=>by
   induction ds with
   |nil=>exact cg _
   |cons x ds a4=>exact wj (Nat.le_max_left 1 x.H) a4
  have ve:d.H*aL.H<=100000:=bP (MS _<|KX ds) Bb;obtain⟨d7,a1,cq,uM,fh,az⟩:=R1 d B.bW B.pos aL x0 n d [] _ c dE (λ_ h=>h) iR.nil (by simp;exact ve);have zm:iR d7 (λp=>((spread dc aL).countP p:Nat)):=uM.congr λp=>by rw[R2 B p aL];simp
  rw[tX,t5]at fh;obtain⟨d',gJ,gU,cH,bN,uy,e⟩:=R3 x0 n ds d7 (spread dc aL) (J (aG aL,.ag)) C a1 cq zm<|bP (yC _ fh) Bb;refine⟨d',gJ,gU,cH,bN,uy,?_⟩;rw[cU];unfold fF;have aW:(ay d).map (λc9=>iH c9.1)=d.map λq=>T.int q.1:=by unfold ay;rw[ci];rfl
  have au:A0 [x0,J (.bk<|ay d,.aE),J (aG aL,.ag),b,c,dE] n=J (.bD,[x0,J (.bk<|ay d7,.aE),J (aG aL,.ag),C,a1,cq],n):=by unfold A0 Ra Q9 Q8 Q7;simp only[bL,dK,Ma,eN,kL,kM,fC,GC,BO,iJ,iI,ai,look,walked,aW,kh];rw[show(ay []:List<|iw×T)=[] from rfl]at az;rw[az];rfl
  simp only[bj.bO.cB,kL,kM,eN];rw[au];exact e
def ahq{ds:List ZA}(rg:∀d∈ds,d.H<=8):(ds.map λx=>max 1 x.H).foldr (·*·) 1<=8^ds.H:=by
 induction ds with
 |nil=>exact cg _
 |cons x ds a4 =>
  rw[cU,BR,d8,wm,qU<|8^_];exact wj (Nat.max_le.mpr ⟨by decide,rg x<|dS ..⟩) (a4 λd hd=>rg d<|am _ hd)
theorem R4(d:List Int):∀rows:List ZA,(more rows d).map cI=spread (rows.map cI) d
 |[]=>rfl
 |r::rows=>by have a4:=R4 d rows;unfold more spread at a4 |-;rw[cU,nk,nk,lA,a4,ci];congr 1;refine mF λf _=>?_;simp[KY,cI]
def adG(ds:List ZA):(ik ds).map cI=ds.foldl spread [0]:=by
 have gen:∀(ds rows:List ZA),(ds.foldl more rows).map cI=ds.foldl spread (rows.map cI):=by
  intro ds
  induction ds with
  |nil=>intro rows;rfl
  |cons d ds a4=>intro rows;rw[mG,mG,a4,R4]
 exact gen ds [[]]
def R5(hz:(ds.map λx=>max 1 x.H).foldr (·*·) 1<=100000)(n:Nat) :
  ∃d,iR d (λp=>(((ik ds).map cI).countP p:Nat))/\n6 [(.aD ZB,Y0)] n=J (.bk<|ay d,Y0,n):=by
 obtain⟨d',gJ,gU,cH,bN,B,e⟩:=R3 (J (.aD ZB,.ag)) n ds [(0,1)] [0] C C C C ⟨by simp,by simp,λp=>by simp[jl,cI];by_cases z:p 0=Y0<;>simp[z,cI]⟩ (by simp;exact hz);rw[<-adG]at B;refine⟨d',B,?_⟩;unfold n6 Rc Rb;generalize A0=qc at e |-;rw[show(ay [(0,1)]:List<|iw×T)=[(Sum.inl 0,.int 1)] from rfl]at e;simp![Mb,kc,fC,iJ,iI,walked,e]
def R6(rg:∀d∈ds,d.H<=8)(cL:ds.H<=4)(n:Nat) :
  ∃d,iR d (λp=>(((ik ds).map cI).countP p:Nat))/\n6 [(.aD ZB,Y0)] n=J (.bk<|ay d,Y0,n) :=
 R5 (bP (ahq rg)<|bP (wg Z0 cL) Z0) n
def Vl{M F:Nat}(h:ip M F ds)(eh:M<=4)(cx:F<=8)(n:Nat) :
  ∃d,iR d (λp=>(((ik ds).map cI).countP p:Nat))/\rD [(.aD ZB,Y0)] n=J (.ao<|(hK<|d.map jE).map aG,Y0,n):=by
 have fE:=h.most;obtain⟨d',B,bX⟩:=R6 (ds:=ds) (λx av=>bP (h.aL x av).most cx) (bP fE eh) n;refine⟨d',B,?_⟩;have au:DC n [.bk<|ay d']=J (.ao<|(hK<|d'.map jE).map aG,.aE):=by simp only[DC,RS,kh]
 have a6:=pq h eh cx n;generalize (hK<|d'.map jE).map aG=out at au |-;unfold rD Rd;simp![a6,bX,au]
noncomputable def fr(a b:Nat):T:=.aD [.int ((a / Nat.gcd a b:Nat):Int),.int ((b / Nat.gcd a b:Nat):Int)]
noncomputable def Mk(ms:List Nat):Nat:=ms.foldr (·*·) 1
def amC{i:Int}(af:-1000000000000000000<=i)(ak:i<=1000000000000000000):small i=Y0:=by unfold small;simp only[decide_eq_true_eq];lia
def adH{k:Nat}(h:k<=1000000000000000000):small (k:Int)=Y0:=amC (iq _) Z3
def ajr{a b:Int}(h:small a=Y0\/small b=Y0)(n:Nat):kE n [.int a,.int b]=J (.int<|a*b,.ag):=by show(if(small a||small b)=Y0 then J (T.int<|a*b,bo.ag) else C)=_;rw[Y2<|by rcases h with h|h<;>rw[h]<;>simp]
def ajs(hd:d.H<=1000)(x:Int)(n:Nat):ES [(aG d,Y0),(.int x,Y0)] n=J (.int ((d.countP λf=>decide (f<x):Nat):Int),Y1,n):=by
 have de:bh=1000000:=rfl;have az:Rn [J (aG d,.ag),J (.int x,.ag)] n=J (.ao<|(d.filter λf=>decide (f<x)).map .int,.aE,n) :=
  rC d T.int (λf=>decide (f<x)) .int rfl Z3 λy aK=>by by_cases h:y<x<;>simp![ck,eE,dY,h]
 unfold ES Ro;unfold aG at az |-;simp![dN,az,ll,g6,pl,pn];rw[BJ]
noncomputable def vG:List ZA->List ZA
 |[]=>[[]]
 |d::ds=>d.flatMap λf=>(vG ds).map (f::·)
def KZ(ds:List ZA):ik ds=vG ds:=by
 have gen:∀(ds rows:List ZA),ds.foldl more rows=rows.flatMap λr=>(vG ds).map (r++·):=by
  intro ds
  induction ds with
  |nil=>intro rows;simp[vG]
  |cons d ds a4 =>
   intro rows;rw[mG,a4];unfold more;rw[List.flatMap_assoc];congr 1;funext r;simp only[vG,List.flatMap_map,MO,ci];congr 1;funext f;congr 1;funext x;simp
 unfold ik;rw[gen];simp
def amD{α:Type}(l:List α):(l.map λ_=>0).sum=0:=by
 induction l with
 |nil=>rfl
 |cons x l a4=>simp[a4]
theorem E7{α:Type}(f g:α->Nat):∀l:List α,(l.map λx=>f x+g x).sum=(l.map f).sum+(l.map g).sum
 |[]=>rfl
 |x::l=>by simp[E7 f g l];lia
theorem R7{α β:Type}(f:α->β->Nat):∀(l:List α) (m:List β),(l.map λx=>(m.map λy=>f x y).sum).sum=(m.map λy=>(l.map λx=>f x y).sum).sum
 |[],m=>by simp[amD]
 |x::l,m=>by rw[cU,tY,R7 f l m];simp only[cU,tY];rw[E7]
theorem R8{α:Type}(p:α->Bool):∀l:List α,l.countP p=(l.map λx=>if p x=Y0 then 1 else 0).sum
 |[]=>rfl
 |x::l=>by rw[ox,cU,tY,R8 p l,yE]
noncomputable def below(x:Int)(ds:List ZA):Nat:=Mk (ds.map λd=>d.countP λf=>decide (f<x))
def R9{M:Nat}{F:Nat}(h:ip M F ds)(eh:M<=4)(cx:F<=8):vZ ds<=4096:=by have fE:=h.most;refine bP (RU (F:=8) λd hd=>bP (h.aL d hd).most cx) ?_;exact bP (wg Z0 (show ds.H<=4 from(bP fE eh))) Z0
def amE{M F:Nat}(h:ip M F ds):1<=vZ ds:=by
 have pos:∀(ds:List ZA) (m:Nat),0<m->(∀d∈ds,1<=d.H)->0<ds.foldl (λm d=>m*d.H) m:=by
  intro ds
  induction ds with
  |nil=>intro m h _;exact h
  |cons d ds a4=>intro m h hd;exact a4 _ (Nat.mul_pos h<|hd d<|dS ..) λd' mV=>hd d'<|am _ mV
 exact pos ds 1 Z0 λd hd=>(h.aL d hd).one
theorem K0{α:Type}(f:α->Nat):∀l:List α,cI (l.map λx=>(f x:Int))=((l.map f).sum:Nat)
 |[]=>rfl
 |x::l=>by rw[cU,cI,K0 f l,cU,tY];lia
def Sa(xs:List T)(k:Nat):jj xs C (J (k:Int))=xs.take k:=by
 unfold jj bj.bO.bound;simp only[yx,yF];rw[Y3<|yJ<|iq _];by_cases h:k<=xs.H
 ·rw[show min (k:Int).M xs.H=k by lia]
 ·rw[show min (k:Int).M xs.H=xs.length by lia,yw,wb<|ez<|sb h]
def E8(xs:List T)(k:Nat):jj xs (J (k:Int)) C=xs.drop k:=by
 unfold jj bj.bO.bound;simp only;rw[Y3<|yJ<|iq _];by_cases h:k<=xs.H
 ·rw[show min (k:Int).M xs.H=k by lia];exact wb (by rw[gc];exact cg _)
 ·rw[show min (k:Int).M xs.H=xs.length by lia,List.drop_of_length_le (by exact ez (sb h):xs.H<=k)];simp
def n7(a b:List Int):Nat:=(a.map λg=>b.countP λf=>decide (f<g)).sum
def Bc(a b:List Int):Nat:=(a.map λg=>b.countP λf=>f==g).sum
def adI(a b:List Int):n7 a b+Bc a b+n7 b a=a.H*b.H:=by
 have s1:n7 b a=(a.map λg=>b.countP λf=>decide (g<f)).sum:=by unfold n7;simp only[R8];rw[R7]
 rw[s1];unfold n7 Bc;rw[<-E7,<-E7];clear s1;have:∀g,(b.countP λf=>decide (f<g))+(b.countP λf=>f==g)+(b.countP λf=>decide (g<f))=b.H:=λg=>by
  induction b with
  |nil=>rfl
  |cons f b a4 =>
   simp only[ox,d8];by_cases af:f<g
   ·have ak:¬f=g:=(yK af)
    have bc:¬g<f:=(yJ<|kO af)
    simp[af,ak,bc];lia
   ·by_cases ak:f=g
    ·have bc:¬g<f:=(yJ<|He ak)
     simp[ak];lia
    ·have bc:g<f:=by lia
     simp[af,ak,bc];lia
 simp only[this]
 induction a with
 |nil=>simp
 |cons x a a4=>rw[cU,tY,a4,d8,Nat.add_mul];lia
def L4{F G:Nat}(ba:j9 F a)(aq:j9 G b)(cx:F<=8)(iP:G<=8)(n:Nat):m7 [(aG a,Y0),(aG b,Y0)] n=J (.aD [.int ((n7 a b:Nat):Int),.int ((Bc a b:Nat):Int),.int ((n7 b a:Nat):Int)],Y1,n):=by
 have de:bh=1000000:=rfl;have cy:=ba.most;have eZ:=aq.most;have az:Rp [J (aG a,.ag),J (aG b,.ag),C,C] n=J (.ao (a.map λg=>.int ((b.countP λf=>decide (f<g):Nat):Int)),.aE,n) :=
  ij a T.int (λg=>.int ((b.countP λf=>decide (f<g):Nat):Int)) rfl Z3 λg _=>by have e:=ajs (d:=b) (bP eZ<|bP iP Z0) g n;simp![ck,e]
 have au:∀x,Rq [J (aG a,.ag),J (aG b,.ag),x,C] n=J (.ao (a.map λg=>.int ((b.countP λf=>f==g:Nat):Int)),.aE,n):=λx =>
  ij a T.int (λg=>.int ((b.countP λf=>f==g:Nat):Int)) rfl Z3 λg _=>by simp![ck,UA,aG,n4,BJ]
 have s1:=Vg (l:=a.map λg=>((b.countP λf=>decide (f<g):Nat):Int)) n (by rw[cP];lia) λx av=>by obtain⟨g,_,rfl⟩:=ey.mp av;have:=GI (p:=λf=>decide (f<g)) (l:=b);lia
 have s2:=Vg (l:=a.map λg=>((b.countP λf=>f==g:Nat):Int)) n (by rw[cP];lia) λx av=>by obtain⟨g,_,rfl⟩:=ey.mp av;have:=GI (p:=λf=>f==g) (l:=b);lia
 rw[K0 (λg=>b.countP λf=>decide (f<g)),ci]at s1;rw[K0 (λg=>b.countP λf=>f==g),ci]at s2;change xi n [.ao (a.map λg=>.int ((b.countP λf=>decide (f<g):Nat):Int))]=J (.int ((n7 a b:Nat):Int),.ag) at s1;change xi n [.ao (a.map λg=>.int ((b.countP λf=>f==g:Nat):Int))]=J (.int ((Bc a b:Nat):Int),.ag) at s2;generalize a.map (λg=>T.int ((b.countP λf=>decide (f<g):Nat):Int))=fs at az s1;generalize a.map (λg=>T.int ((b.countP λf=>f==g:Nat):Int))=i8 at au s2;have bc:=adI a b;have a6:=rH ba cx n;have bX:=rH aq iP n;have hm:=ajr (a:=(a.H:Int)) (b:=(b.H:Int)) (.inl<|adH Z3) n;have hd:(a.H:Int)*(b.H:Int)-((n7 a b:Nat):Int)-((Bc a b:Nat):Int)=((n7 b a:Nat):Int):=by rw[<-Hd];lia
 have fj:3<=bh:=by decide
 unfold aG at az au a6 bX |-;unfold m7 Vj;generalize kE=gm at*;simp![a6,bX,dN,az,s1,au,s2,cw,ll,g6,pl,pn,hm,ka,dY,hd,fj]
abbrev k6(d:List Z6)(s:List Int):Prop:=iR d λp=>(s.countP p:Nat)
def k6.val(B:k6 d s){q:Int×Int}(h:q∈d):q.2=((s.countP λx=>x==q.1:Nat):Int):=by have:=B.tC λx=>x==q.1;rw[RZ B.bW (show(q.1,q.2)∈d from h)]at this;exact this
def k6.key(B:k6 d s){q:Int×Int}(h:q∈d):q.1∈s:=by
 have af:=B.val h;have ak:=B.pos q h;have:0<s.countP λx=>x==q.1:=by lia
 obtain⟨x,av,e⟩:=MF.mp this;have e:x=q.1:=by simpa using e
 exact e▸av
def k6.has(B:k6 d s){x:Int}(h:x∈s):∃v,(x,v)∈d:=by
 by_cases aW:x∈d.map (·.1)
 ·obtain⟨q,a7,rfl⟩:=ey.mp aW;exact⟨q.2,a7⟩
 ·have af:=B.tC λy=>y==x;rw[RY aW]at af;have:0<s.countP λy=>y==x:=MF.mpr ⟨x,h,by simp⟩;lia
theorem T7:∀(d:List Z6) (s:List Int) (h:Int->Int),(d.map (·.1)).Nodup->(∀q∈d,q.2=((s.countP λx=>x==q.1:Nat):Int))->(∀x∈s,x∈d.map (·.1))->cI (d.map λq=>q.2*h q.1)=cI (s.map h)
 |[],s,h,_,_,aP=>by
  cases s with
  |nil=>rfl
  |cons x s=>have:=aP x<|dS ..;simp at this
 |q::d,s,h,bW,bS,aP=>by
  rw[cU]at bW;obtain⟨aM,bC⟩:=nq.mp bW;have split:∀s:List Int,cI (s.map h)=((s.countP λx=>x==q.1:Nat):Int)*h q.1+cI ((s.filter λx=>!(x==q.1)).map h):=by
   intro s
   induction s with
   |nil=>simp[cI]
   |cons x s a4 =>
    rw[cU,cI,a4,ox,tW];by_cases e:x=q.1
    ·subst e;simp only[beq_self_eq_true,if_true,Bool.not_true,jm,if_false];rw[show(((s.countP λx=>x==q.1)+1:Nat):Int)=((s.countP λx=>x==q.1:Nat):Int)+1 from rfl,yL];lia
    ·have bN:(x==q.1)=Y1:=by simpa using e
     simp only[bN,Bool.not_false,if_true,jm,if_false,cU,cI,G6];lia
  rw[split s,cU,cI,bS q<|dS ..];congr 1;refine T7 d (s.filter λx=>!(x==q.1)) h bC (λeM n3=>?_) λx av=>?_
  ·rw[bS eM<|am _ n3,List.countP_filter];congr 1;refine MM λx _=>?_;have ne:eM.1≠q.1:=λz=>aM (by rw[<-z];exact kd (f:=(·.1)) n3);constructor
   ·intro z;have z:x=eM.1:=by simpa using z
    subst z;simp[ne]
   ·intro z;simp at z |-;exact z.1
  ·obtain⟨af,ak⟩:=lz.mp av;have ak:x≠q.1:=by simpa using ak
   rcases d3.mp (aP x af) with z|z
   ·exact absurd z ak
   ·exact z
def k6.sum(B:k6 d s)(h:Int->Int):cI (d.map λq=>q.2*h q.1)=cI (s.map h) :=
 T7 d s h B.bW (λq a7=>B.val a7) λx av=>by obtain⟨v,bS⟩:=B.has av;exact kd (f:=(·.1)) bS
def k6.L5(B:k6 d s):d.H<=s.H:=by
 have af:=B.sum λ_=>1;have ak:∀d:List Z6,(∀q∈d,1<=q.2)->(d.H:Int)<=cI (d.map λq=>q.2*1):=by
  intro d
  induction d with
  |nil=>intro _;simp[cI]
  |cons q d a4 =>
   intro h;have:=a4 λeM n3=>h eM<|am _ n3;have:=h q<|dS ..;rw[cU,cI,d8];lia
 have bc:∀s:List Int,cI (s.map λ_=>1)=(s.H:Int):=by
  intro s
  induction s with
  |nil=>rfl
  |cons x s a4=>rw[cU,cI,a4,d8];exact Int.add_comm _ _
 have:=ak d B.pos;rw[af,bc]at this;lia
def K1(d:List Z6):(ay d).map (λc9=>iH c9.1)=d.map λq=>T.int q.1:=by unfold ay;rw[ci];rfl
def jP(ds:List ZA):List Int:=(ik ds).map cI
def Sb(ds:List ZA):(jP ds).H=vZ ds:=by unfold jP;rw[cP,RT]
theorem Sd:∀(r:List Int),(∀x∈r,0<=x/\x<=30)->0<=cI r/\cI r<=30*r.H
 |[],_=>by simp[cI]
 |x::r,h=>by have:=Sd r λy aK=>h y<|am _ aK;have:=h x<|dS ..;simp only[cI,d8];lia
def Se{M F:Nat}(h:ip M F ds)(eh:M<=4)(cx:F<=8):∀x∈jP ds,0<=x/\x<=120:=λx av=>by obtain⟨r,aV,rfl⟩:=ey.mp av;have af:=Sd r<|adF (λd hd=>(h.aL d hd).hI) aV;have ak:=(UB h eh cx 0).2 r aV;have bc:=h.most;lia
def Sf{M F:Nat}(h:ip M F ds)(eh:M<=4)(cx:F<=8)(n:Nat):∃d,k6 d (jP ds)/\n6 [(.aD ZB,Y0)] n=J (.bk<|ay d,Y0,n):=by have fE:=h.most;exact R6 (λd hd=>bP (h.aL d hd).most cx) (bP fE eh) n
end jc
namespace jc
open bj bj.bO bQ
def Vm{i:Nat}{n:Nat}(h:S[i]?=J (J (t,.ag))):fC i d S n=d S n:=by unfold fC;rw[h]
abbrev fT:=Int×Int×Int
def Sg(a:List Int):jP [a]=a:=by
 unfold jP;rw[KZ];simp only[vG,cU,qR]
 induction a with
 |nil=>rfl
 |cons x a a4 =>
  rw[nk,lA,a4];simp[cI]
def Sh(d:List Int)(ds:List ZA):jP (d::ds)=d.flatMap λf=>(jP ds).map (f+·):=by unfold jP;rw[KZ,KZ];show(d.flatMap λf=>(vG ds).map (f::·)).map cI=_;rw[MO];congr 1;funext f;rw[ci,ci];rfl
noncomputable def tD(a b:List Int):List Int:=a.flatMap λx=>b.map (x+·)
theorem Sj(b:List Int):∀a:List Int,(tD a b).H=a.H*b.H
 |[]=>by simp[tD]
 |x::r=>by have:=Sj b r;unfold tD at*;rw[nk,gq,this,cP,d8,sd,yE]
def T8(B:k6 d s)(x:Int)(n:Nat):ml n [.bk<|ay d,.int x,.int 0]=J (.int ((s.countP λy=>y==x:Nat):Int),.ag):=by
 have h:=Av d x;have aT:c5 d x=((s.countP λy=>y==x:Nat):Int):=by
  by_cases av:x∈s
  ·obtain⟨v,bS⟩:=B.has av;rw[E6 B.bW bS]at h;have h:T.int v=T.int (c5 d x):=h
   exists h
   exact B.val bS
  ·rw[cnt_none (by
    rw[<-G9,vF];intro z;obtain⟨q,a7,rfl⟩:=ey.mp z
    exact av<|B.key a7),GL.mpr λy aK z=>av<|by rw[<-eq_of_beq z];exact aK]
   rfl
 have e:ml n [.bk<|ay d,.int x,.int 0]=J ((iV (ay d)<|.inl x).getD (.int 0),.ag):=rfl;rw[e,h,aT]
end jc
namespace jc
open PySem bj bj.bO bQ
def Sk{b:Bool}{n:Nat}(h:kz [Z4] n=J (.aC Y1,Y1,n))(aq:b=Y0\/hn t=Y1):h1 [(t,b)] n=J (0,n):=by
 have hf:flag (look (if b then .ag else .cZ) t) t=Y0:=by
  cases b with
  |true=>rfl
  |false=>rcases aq with aq|aq;exists aq;simp[look,aq,flag]
 unfold h1 fnX Kx fG et bK bB ax a9 ai;simp[hf,h,eO,jD,mX,md]
def xY{n:Nat}(h:kz [Z4] n=J (.aC Y0,Y1,n)):h1 [Z4] n=C:=by unfold h1 fnX Kx fG et bK bB ax a9 ai;simp[look,flag,h,eO,jD,fQ]
def Bd{lo hi:Int}{n:Nat}(h:lp [Z4,(.int lo,Y0),(.int hi,Y0)] n=J (.aC Y1,Y1,n))(af:small lo=Y0)(ak:small hi=Y0):jL [Z4,(.int lo,Y0),(.int hi,Y0)] n=J (3,n):=by unfold jL fnX Kw fG et bK bB ax a9 ai;simp[look,flag,h,eO,jD,mX,uw,md,af,ak,ai]
def adJ{lo hi:Int}{n:Nat}(h:lp [Z4,(.int lo,Y0),(.int hi,Y0)] n=J (.aC Y0,Y1,n)):jL [Z4,(.int lo,Y0),(.int hi,Y0)] n=C:=by unfold jL fnX Kw fG et bK bB ax a9 ai;simp[look,flag,h,eO,jD,fQ]
def Sl(i lo hi:Int)(n:Nat)(h:¬ (lo<=i/\i<=hi)):lp [(.int i,Y0),(.int lo,Y0),(.int hi,Y0)] n=J (.aC Y1,Y1,n):=by
 unfold lp Kt;by_cases af:lo<=i
 ·have ak:¬i<=hi:=λz=>h ⟨af,z⟩;simp![jh,dR,j7,kx,iE,jK,ky,gw,fK,dY,af,ak]
 ·simp![jh,dR,j7,kx,iE,jK,ky,gw,fK,dY,af]
def adK(h:og .tuple t=J Y1)(n:Nat):kz [Z4] n=J (.aC Y1,Y1,n):=by unfold kz xT;simp![dR,h]
def adL(g:T->Bool)(af:1<=aA.H)(ak:aA.H<=8)(bT:∀t∈aA,∀n,lp [Z4,(.int 0,Y0),(.int 30,Y0)] n=J (.aC<|g t,Y1,n))(ba:aA.all g=Y1)(n:Nat):kz [(.aD aA,Y0)] n=J (.aC Y1,Y1,n):=by
 have de:bh=1000000:=rfl;have au:EL [J (.aD aA,.ag)] n=J (.ao (aA.map λt=>T.aC<|g t),.aE,n) :=
  ij aA id (λt=>.aC<|g t) (by rw[r8];rfl) Z3 λy aK=>by simp![ck,bT y aK n]
 have a6:∀l:List T,hP (l.map λt=>T.aC<|g t)=J (l.map g):=λl=>by
  induction l with
  |nil=>rfl
  |cons x r a4=>simp[hP,a4]
 have bX:ji n [.ao (aA.map λt=>T.aC<|g t)]=J (.aC Y1,.ag):=by simp only[ji,a6,kh,pP];rw[show(aA.all<|id∘g)=aA.all g from rfl,ba]
 have fc:(1:Int)<=aA.H:=by lia
 have fO:(aA.H:Int)<=8:=by lia
 generalize aA.map (λt=>T.aC<|g t)=bs at*;unfold kz xT;simp![jh,dN,dR,j7,kx,iE,jK,ky,gw,fK,dY,ll,g6,pl,pn,fc,fO,au,bX]
def adM(h:og .tuple t=J Y1)(n:Nat):mz [Z4] n=J (.aC Y1,Y1,n):=by unfold mz AY;simp![dR,h]
def adN(h:¬ (1<=aA.H/\aA.H<=4))(n:Nat):mz [(.aD aA,Y0)] n=J (.aC Y1,Y1,n):=by
 unfold mz AY;by_cases af:1<=aA.H
 ·have fc:(1:Int)<=aA.H:=by lia
  have fO:¬ (aA.H:Int)<=4:=by lia
  simp![jh,dR,j7,kx,iE,jK,ky,gw,fK,dY,ll,g6,pl,pn,fc,fO]
 ·have fc:¬ (1:Int)<=aA.H:=by lia
  simp![jh,dR,j7,kx,iE,jK,ky,gw,fK,dY,ll,g6,pl,pn,fc]
def adO(g:T->Bool)(af:1<=aA.H)(ak:aA.H<=4)(bT:∀t∈aA,∀n,kz [Z4] n=J (.aC<|g t,Y1,n))(ba:aA.all g=Y1)(n:Nat):mz [(.aD aA,Y0)] n=J (.aC Y1,Y1,n):=by
 have de:bh=1000000:=rfl;have au:Ku [J (.aD aA,.ag)] n=J (.ao (aA.map λt=>T.aC<|g t),.aE,n) :=
  ij aA id (λt=>.aC<|g t) (by rw[r8];rfl) Z3 λy aK=>by simp![ck,bT y aK n]
 have a6:∀l:List T,hP (l.map λt=>T.aC<|g t)=J (l.map g):=λl=>by
  induction l with
  |nil=>rfl
  |cons x r a4=>simp[hP,a4]
 have bX:ji n [.ao (aA.map λt=>T.aC<|g t)]=J (.aC Y1,.ag):=by simp only[ji,a6,kh,pP];rw[show(aA.all<|id∘g)=aA.all g from rfl,ba]
 have fc:(1:Int)<=aA.H:=by lia
 have fO:(aA.H:Int)<=4:=by lia
 generalize aA.map (λt=>T.aC<|g t)=bs at*;unfold mz AY;simp![jh,dN,dR,j7,kx,iE,jK,ky,gw,fK,dY,ll,g6,pl,pn,fc,fO,au,bX]
def adP{n:Nat}(h:mz [Z4] n=J (.aC Y1,Y1,n)):h2 [Z4] n=J (1,n):=by unfold h2 fnX Ky fG et bK bB ax a9 ai;simp[look,flag,h,eO,jD,mX,md]
def K2{n:Nat}(h:mz [Z4] n=J (.aC Y0,Y1,n)):h2 [Z4] n=C:=by unfold h2 fnX Ky fG et bK bB ax a9 ai;simp[look,flag,h,eO,jD,fQ]
def akX(ns:List Int)(k m:Int)(aW:0<=k)(hm:1<=m)(n:Nat):∃r,0<=r/\r<m/\E3 [ZO,(.int k,Y0),(.int m,Y0)] n=J (.int r,Y1,n):=by
 obtain⟨c,e⟩:=akW ns k aW n;have x0:=Hc ((c+7919*k+1)*48271) (b:=2147483647) Z0;have bH:=Hb ((c+7919*k+1)*48271) (b:=2147483647) Z0;have cf:small ((c+7919*k+1)*48271%2147483647)=Y0:=by unfold small;simp only[decide_eq_true_eq];lia
 have s1:small 48271=Y0:=rfl;have s2:small 7919=Y0:=rfl;have s3:small 7=Y0:=rfl;have m0:0<m:=hm;refine⟨_,Hc (((c+7919*k+1)*48271%2147483647*((c+7919*k+1)*48271%2147483647)+7*((c+7919*k+1)*48271%2147483647)+k)%2147483629) (by exact B6 m0:m≠0),Hb _ m0,?_⟩;unfold E3 RH;simp![e,oc,dY,Vh,pk,cf,s1,s2,s3,m0]
def qF(ns:List Int)(n:Nat)(m:Int)(hm:1<=m)(bz:n<bh):∃r,0<=r/\r<m/\j8 [ZO,(.dq,Y0),(.int m,Y0)] n=J (.int r,Y1,n+1):=by obtain⟨r,h0,af,e⟩:=akX ns (n+1) m (iq _) hm<|n+1;refine⟨r,h0,af,?_⟩;unfold j8 RI;simp![jh,ll,g6,pl,pn,bz,e]
def Be(ns:List Int)(l:List T)(b:Bool)(n:Nat)(aB:l≠[])(bz:n<bh):∃v∈l,qE [ZO,(.dq,Y0),(.ao l,b)] n=J (v,Y1,n+1):=by
 have:1<=l.H:=by cases l with
  |nil=>exact absurd rfl aB
  |cons _ _=>simp
 obtain⟨r,h0,af,e⟩:=qF ns n l.H Z3 bz;have aV:r.M<l.H:=by lia
 have au:gE l r=J l[r.M]:=by unfold gE;rw[Y2 h0,Y2 af,hh aV]
 refine⟨l[r.M],oy aV,?_⟩;generalize l[r.M]=v at au;unfold qE RJ
 exists b<;>simp![jh,ll,tr,e,au]
def Vn(ns l:List Int)(n:Nat)(aB:l≠[])(bz:n<bh):∃v∈l,qE [ZO,(.dq,Y0),(.ao<|l.map .int,Y0)] n=J (.int v,Y1,n+1):=by obtain⟨t,cA,e⟩:=Be ns (l.map .int) Y0 n (by simpa using aB) bz;obtain⟨v,bS,rfl⟩:=ey.mp cA;exact⟨v,bS,e⟩
def kV(d:List Int):Prop:=∃lo:Int,∀x∈d,lo<=x/\x<=lo+11
def Vo(ns:List Int)(F:Nat)(n:Nat)(cx:1<=F)(adQ:F<=8)(bz:n+20<=bh):∃d n',(j9 F d/\kV d)/\n<=n'/\n'<=n+11/\tB [ZO,(.dq,Y0),(.int F,Y0),(.int 30,Y0)] n=J (aG d,Y1,n'):=by
 have de:bh=1000000:=rfl;obtain⟨r,h0,af,az⟩:=qF ns n 20 Z0<|qS bz;obtain⟨lo,O2,au⟩:=Vn ns [0,0,1,1,r] (n+1) Z7 Z3;have NO:0<=lo/\lo<20:=by simp at O2;lia
 obtain⟨uI,adR,a6⟩:=Vn ns [1,3,6,12] (n+1+1) Z7 Z3;have q0:1<=uI/\uI<=12:=by simp at adR;lia
 rw[show([0,0,1,1,r]:List Int).map T.int=[.int 0,.int 0,.int 1,.int 1,.int r] from rfl]at au;rw[show([1,3,6,12]:List Int).map T.int=[.int 1,.int 3,.int 6,.int 12] from rfl]at a6;have b6:-(bh:Int)<=F:=(iq _)
 have dA:(F:Int)<=(bh:Int):=by lia
 have eQ:∃(l:List Int) (bC:Nat),l.H=F/\(∀x∈l,lo<=x/\x<=lo+11)/\n+3<=bC/\bC<=n+3+F/\RK [J (.ao<|ns.map .int,.cZ),J (.dq,.ag),J (.int F,.ag),J (.int 30,.ag),J (.int lo,.ag),J (.int uI,.ag),C] (n+1+1+1)=J (.ao<|l.map T.int,.aE,bC):=by
  obtain⟨out,bC,aX,bb,cK,fV,hU⟩:=Q1 (K:=1) (N:=bh) (P:=λt=>∃x:Int,t=.int x/\lo<=x/\x<=lo+11) (it:=iB ZQ)
   (l:=[C,J 0,J 1,J 2,J 3,J 4,J 5,J 6]) (i:=0) (e:=aH vV<|aa (ai 4)<|aa (aH ej<|aa (ai 5)<|aa (bB 3 j8<|ax (ai 1)<|ax (ai 2)<|ax (ai 6) a9) ar) ar) (S:=[J (.ao<|ns.map .int,.cZ),J (.dq,.ag),J (.int F,.ag),J (.int 30,.ag),J (.int lo,.ag),J (.int uI,.ag),C]) (n0:=n+1+1+1) (n:=n+1+1+1) (xs:=il 0 F)
   (by unfold iB;simp![b6,dA]) (λx n bz=>by
    obtain⟨r,h0,af,e⟩:=qF ns n uI (q0.1)<|bz;have em:vV (n+1) [.int 30,.int<|lo+r]=J (.int (if lo+r<30 then lo+r else 30),.ag):=rfl;refine⟨.int (if lo+r<30 then lo+r else 30),n+1,?_,(gb _ _),(cg _),_,rfl,by split<;>lia,by split<;>lia⟩;generalize (if lo+r<30 then lo+r else 30)=z at em
    simp![e,pk,ck,em]) (by rw[xP];lia) (by rw[xP];lia)
  obtain⟨l,rfl,aB⟩:=vt T.int (λx=>lo<=x/\x<=lo+11) bb;rw[xP]at aX fV;rw[cP]at aX;exact⟨l,bC,aX,aB,cK,by lia,hU⟩
 obtain⟨l,bC,aX,aB,cK,fV,eQ⟩:=eQ;have cQ:=(sortI_perm l).length_eq;refine⟨sortI l,bC,⟨⟨by lia,(bP (d1 cQ)<|d1 aX),λx av=>by have:=aB x<|(sortI_perm l).mem_iff.mp av;lia,ro l⟩,lo,λx av=>aB x<|(sortI_perm l).mem_iff.mp av⟩,(l2 cK),by lia,?_⟩;have K3:l.H<64:=by lia
 have fN:rq bC [.ao<|l.map .int]=J (.ao<|(sortI l).map .int,.aE):=by simp[rq,n4,K3]
 have gL:qp bC [.ao<|(sortI l).map .int]=J (aG<|sortI l,.ag):=rfl;have k5:5<=bh:=by decide
 have zg:4<=bh:=by decide
 generalize aG (sortI l)=o at*;generalize (sortI l).map T.int=cX at*;generalize l.map T.int=zo at*;unfold tB RL;simp![dF,az,au,a6,eQ,fN,gL,zg,k5]
def Sm(ns:List Int)(M F n:Nat)(eh:1<=M)(an1:M<=4)(cx:1<=F)(adQ:F<=8)(bz:n+100<=bh):∃ds n',ds.H=M/\(ip M F ds/\∀d∈ds,kV d)/\n<=n'/\n'<=n+48/\vE [ZO,(.dq,Y0),(.int M,Y0),(.int F,Y0)] n=J (.aD ZB,Y1,n'):=by
 have de:bh=1000000:=rfl;have b6:-(bh:Int)<=M:=(iq _)
 have dA:(M:Int)<=(bh:Int):=by lia
 obtain⟨out,bC,aX,bb,cK,fV,hU⟩:=Q1 (K:=12) (N:=bh-19) (P:=λt=>∃d:List Int,t=aG d/\j9 F d/\kV d) (it:=iB ZQ)
  (l:=[C,J 0,J 1,J 2,J 3]) (i:=0) (e:=bB 4 tB<|ax (ai 1)<|ax (ai 2)<|ax (aH ej<|aa Z5<|aa (bB 3 j8<|ax (ai 1)<|ax (ai 2)<|ax (ai 4) a9) ar)<|ax (aw<|.int 30) a9) (S:=[J (.ao<|ns.map .int,.cZ),J (.dq,.ag),J (.int M,.ag),J (.int F,.ag)]) (n0:=n) (n:=n) (xs:=il 0 M)
  (by unfold iB;simp![b6,dA]) (λx n bz=>by
   obtain⟨r,h0,af,e⟩:=qF ns n F Z3 Z3;obtain⟨k,rfl⟩:∃k:Nat,r=k:=⟨r.M,by lia⟩
   obtain⟨d,n',⟨g,WJ⟩,fh,fE,au⟩:=Vo ns (1+k) (n+1) (gb _ _) Z3 Z3;have au:tB [ZO,(.dq,Y0),(.int<|1+(k:Int),Y0),(.int 30,Y0)] (n+1)=J (aG d,Y1,n'):=au;refine⟨aG d,n',?_,(ez fh),fE,d,rfl,⟨g.one,by have:=g.most;lia,g.hI,g.up⟩,WJ⟩;have qd:hn (aG d)=Y1:=rfl;generalize aG d=oP at *
   simp![e,au,pk,ck]) (by rw[xP];lia) (by rw[xP];lia)
 obtain⟨l,rfl,aB⟩:=vt aG (λd=>j9 F d/\kV d) bb;rw[xP]at aX fV;rw[cP]at aX;refine⟨l,bC,aX,⟨⟨(bP eh<|d1 aX.symm),(d1 aX),λd h=>(aB d h).1⟩,λd h=>(aB d h).2⟩,cK,by lia,?_⟩;have eQ:RM [J (.ao<|ns.map .int,.cZ),J (.dq,.ag),J (.int M,.ag),J (.int F,.ag)] n=J (.ao<|l.map aG,.aE,bC):=hU;unfold vE RN;simp![eQ,ajh]
end jc
namespace jc
open bj bj.bO bQ
def kG(r:List Bool):T:=.ao<|r.map .aC
def dp(tb:List<|List Bool):T:=.ao<|tb.map kG
def jQ(tb:List<|List Bool)(i j:Int):Bool:=(tb.getD i.M []).getD j.M Y1
def nc(tb:List<|List Bool):Prop:=tb.H<=4/\∀r∈tb,r.H=tb.H
def vH{α:Type}(f:α->T)(l:List α)(d:α){i:Int}(h0:0<=i)(af:i<l.H):gE (l.map f) i=J (f<|l.getD i.M d):=by
 unfold gE;rw[Y2 h0,cP,Y2 af,ke];have:i.M<l.H:=by lia
 rw[hh this,nj,hh this];rfl
def K4{i:Int}(h0:0<=i)(af:i<tb.H)(n:Nat):dv n [dp tb,.int i]=J (kG<|tb.getD i.M [],.ag):=by unfold dp;rw[tr,vH kG tb [] h0 af];rfl
def akY(cc:nc tb){i:Int}(h0:0<=i)(af:i<tb.H):(tb.getD i.M []).H=tb.H:=by
 have:i.M<tb.H:=by lia
 rw[nj,hh this];exact cc.2 _<|oy _
def K5(cc:nc tb){i j:Int}(h0:0<=i)(af:i<tb.H)(fk:0<=j)(g1:j<tb.H)(n:Nat):dv n [kG<|tb.getD i.M [],.int j]=J (.aC<|jQ tb i j,.ag):=by unfold kG;rw[tr,vH T.aC _ Y1 fk<|by rw[akY cc h0 af];exact g1];rfl
structure Path (m:Nat) (p:List Int):Prop where
 one:1<=p.H
 hI:∀x∈p,0<=x/\x<m
 bW:p.Nodup
 up:∀x∈p.tail,p.headD 0<x
theorem K6:∀(m:Nat) (p:List Int),(∀x∈p,0<=x/\x<m)->p.Nodup->p.H<=m
 |0,p,h,_=>by
  cases p with
  |nil=>simp
  |cons x p=>have:=h x<|dS ..;lia
 |m+1,p,h,bW=>by
  have a4:=K6 m (p.filter λx=>!decide (x=m)) (λx av=>by
   obtain⟨af,ak⟩:=lz.mp av;have:=h x af;simp at ak
   lia) (bW.filter _)
  have c:p.count (m:Int)<=1:=List.nodup_iff_count.mp bW _;have e:=List.length_eq_countP_add_countP (λx=>decide (x=(m:Int))) (l:=p);have au:p.countP (λx=>decide (x=(m:Int)))=p.count (m:Int):=by unfold List.count;congr 1
  have a6:p.countP (λa=>!decide (a=(m:Int)))=(p.filter λx=>!decide (x=(m:Int))).H:=BJ ..;have bX:p.countP (λa=>decide ¬decide (a=(m:Int))=Y0)=p.countP (λa=>!decide (a=(m:Int))):=by congr 1;funext x;simp
  rw[bX]at e;lia
def Path.le{m:Nat}(h:Path m p):p.H<=m:=K6 m p h.hI h.bW
def lU(m:Nat)(p:List Int):List Int:=List.map (λ(k:Nat)=>p.headD 0+1+(k:Int)) ((List.range ((m:Int)-(p.headD 0+1)).M).filter λ(k:Nat)=>!p.contains (p.headD 0+1+(k:Int)))
def eY(tb:List<|List Bool)(p:List Int):List ZA:=((lU tb.H p).filter λx=>jQ tb (p.getLastD 0) x).map λx=>p++[x]
def Sn{m:Nat}{x:Int}(h:x∈lU m p):p.headD 0<x:=by obtain⟨k,aW,rfl⟩:=ey.mp h;lia
def E9{m:Nat}(aF:Path m p){x:Int}(h:x∈lU m p):0<=x/\x<m/\x∉p:=by
 obtain⟨k,aW,rfl⟩:=ey.mp h;obtain⟨af,ak⟩:=lz.mp aW;rw[nr]at af;have h0:0<=p.headD 0:=by
  cases p with
  |nil=>simp
  |cons y p=>exact(aF.hI y<|dS ..).1
 refine⟨(Int.add_nonneg (Int.add_nonneg h0 Z0)<|iq _),by lia,?_⟩;simpa using ak
def So{m:Nat}(aF:Path m p):(lU m p).H<=m:=by
 unfold lU;rw[cP];refine bP (r3 ..) ?_;rw[tV];have h0:0<=p.headD 0:=by
  cases p with
  |nil=>simp
  |cons y p=>exact(aF.hI y<|dS ..).1
 lia
def adS(aF:Path tb.H p)(h:q∈eY tb p):Path tb.H q/\q.H=p.H+1:=by
 obtain⟨x,av,rfl⟩:=ey.mp h;obtain⟨af,_⟩:=lz.mp av;obtain⟨a,b,c⟩:=E9 aF af;refine⟨⟨by simp,λy aK=>?_,?_,?_⟩,by simp⟩
 ·rcases hQ.mp aK with aK|aK
  ·exact aF.hI y aK
  ·have:=ow.mp aK;subst this;exact⟨a,b⟩
 ·rw[we];refine⟨aF.bW,by simp,λy aK z hz=>?_⟩;have:=ow.mp hz;subst this;exact λe=>c<|e▸aK
 ·have af:=aF.one;have u:=Sn ‹x∈lU _ p›;have v:=aF.up;cases p with
  |nil=>simp at af
  |cons y r =>
   intro z hz;rcases hQ.mp hz with hz|hz
   ·exact v z hz
   ·have:=ow.mp hz;subst this;exact u
def Sp(aF:Path tb.H p):(eY tb p).H<=tb.H:=by unfold eY;rw[cP];exact bP (r3 ..)<|So aF
def Sq{a b:Int}{p:List Int}(h:∀x∈p,a<=x/\x<b)(bW:p.Nodup):p.H<=(b-a).M:=by
 have:=K6 (b-a).M (p.map λx=>x-a) (λy aK=>by
  obtain⟨x,av,rfl⟩:=ey.mp aK;have:=h x av
  lia) (yv.mpr (bW.imp λ{x y} e z=>e Z3))
 rwa [cP]at this
def adT(aF:Path tb.H p):(((eY tb p).H:Int))<=((((tb.H:Int)-p.headD 0-p.H).M:Nat):Int):=by
 have fh:(eY tb p).H<=(lU tb.H p).H:=by unfold eY;rw[cP];exact r3 ..
 have bW:(lU tb.H p).Nodup:=by unfold lU;refine yv.mpr (((List.nodup_range (n:=_)).filter _).imp λ{x y} e z=>e Z3)
 have af:=aF.one
 have:=Sq (a:=p.headD 0+1) (b:=tb.H) (p:=lU tb.H p++p.tail) (λx av=>by
  rcases hQ.mp av with av|av
  ·have:=Sn av;have:=(E9 aF av).2.1;lia
  ·have:=aF.up x av;have:=(aF.hI x<|MC av).2;lia) (by
  rw[we];refine⟨bW,aF.bW.sublist<|List.tail_sublist _,λx av y aK e=>(E9 aF av).2.2 ?_⟩;subst e
  exact MC aK)
 rw[gq,List.length_tail]at this;lia
def agz(p:List Int)(x:Int):((p.map T.int).any λy=>dU y<|.int x)=p.contains x:=by
 induction p with
 |nil=>rfl
 |cons y p a4 =>
  rw[cU,oz,a4,List.contains_cons];congr 1;show(y==x)=(x==y)
  rw[Ha,beq_iff_eq,beq_iff_eq];exact eq_comm
def adU(p:List Int):(p.map T.int).all g4=Y0:=by rw[iL];intro t cA;obtain⟨x,_,rfl⟩:=ey.mp cA;rfl
def steps(cc:nc tb)(aF:Path tb.H p)(b:Bool)(n:Nat):A3 [(dp tb,b),(aG p,Y0)] n=J (.ao<|(eY tb p).map aG,Y0,n):=by
 have de:bh=1000000:=rfl;obtain⟨jz,WK⟩:=cc;have af:=aF.one;have cQ:=aF.le;obtain⟨x,r,rfl⟩:∃x r,p=x::r:=by
  cases p with
  |nil=>simp at af
  |cons x r=>exact⟨x,r,rfl⟩
 have av:=aF.hI x<|dS ..;have ahr:(x::r).getLastD 0∈x::r:=by rw[BM,BI Z7];exact MP _
 have aB:=aF.hI _ ahr;have qa:gE ((x::r).map T.int) (-1)=J (.int<|(x::r).getLastD 0):=by refine at_neg Z7 ?_;rw[MQ];rw[BM,BI Z7];rfl
 have WL:gE ((x::r).map T.int) 0=J (.int x):=by rw[vH T.int _ 0 Z0 Z7];rfl
 have adV:∀m:bo,(m=.ag\/m=.cZ)->Rt [J (dp tb,m),J (aG<|x::r,.ag),C] n=J (.ao<|(lU tb.H<|x::r).map T.int,.aE,n):=by
  intro m hm;unfold lU;rw[ci];refine rC (List.range ((tb.H:Int)-(x+1)).M) (λk=>.int<|x+1+(k:Int)) (λk=>!(x::r).contains (x+1+(k:Int))) (λk=>.int<|x+1+(k:Int)) ?_ (by rw[tV];lia) λk aW=>?_
  ·refine akM (i:=x+1) (j:=(tb.H:Int)) ?_ Z3 Z3 (iq _) Z3;have dE:dv n [aG<|x::r,.int 0]=J (.int x,.ag):=by unfold aG;rw[my,WL];rfl
   generalize aG (x::r)=tp at*;rcases hm with rfl|rfl<;>simp![dp,dE,pk,ll]
  ·constructor
   ·have:=agz (x::r)<|x+1+(k:Int);have f:=adU<|x::r;have e:J9 n [.int<|x+1+(k:Int),aG<|x::r]=J (.aC<|!(x::r).contains (x+1+(k:Int)),.ag):=by
     show((AL _<|.aD _).map _)=_;have i:AL (.int<|x+1+(k:Int)) (.aD<|(x::r).map T.int)=if(Y0&&((x::r).map T.int).all g4)=Y0 then J (((x::r).map T.int).any λy=>dU y<|.int<|x+1+(k:Int)) else C:=rfl
     rw[i,f,this];rfl
    generalize (x::r).contains (x+1+(k:Int))=c at*;generalize aG (x::r)=tp at*;simp![ck,e]
   ·intro _;simp![ck]
 have b6:∀m:bo,(m=.ag\/m=.cZ)->Ru [J (dp tb,m),J (aG<|x::r,.ag),J (.ao<|(lU tb.H<|x::r).map T.int,.aE)] n=J (.ao<|(eY tb<|x::r).map aG,.aE,n):=by
  intro m hm;unfold eY;rw[ci];refine rC (lU tb.H<|x::r) T.int (λy=>jQ tb ((x::r).getLastD 0) y) (λy=>aG<|(x::r)++[y]) rfl (by have:=So aF;lia) λy aK=>?_;obtain⟨NP,fb,lH⟩:=E9 aF aK;constructor
  ·have g1:=K4 (tb:=tb) aB.1 aB.2 n;have g2:=K5 ⟨jz,WK⟩ aB.1 aB.2 NP fb n;generalize (x::r).getLastD 0=cy at*;generalize jQ tb cy y=v at*;generalize kG _=kq at*;have a6:pD n [.int 1]=J (.int<|-1,.ag):=rfl;have bX:dv n [aG<|x::r,.int<|-1]=J (.int cy,.ag):=by unfold aG;rw[my,qa];rfl
   generalize aG (x::r)=tp at*;unfold dp at g1;rcases hm with rfl|rfl<;>simp![dp,ck,a6,bX,g1,g2]
  ·intro _;have hz:((x::r).map T.int).H+1<=bh:=by rw[cP];lia
   unfold aG;rw[lA];generalize (x::r).map T.int=L at*;have cq:1<=bh:=by decide
   rcases hm with rfl|rfl<;>simp![ck,vv,hz,cq]
 unfold A3 Rv;have m0:=adV (if b then .ag else .cZ) (by exists b<;>simp);have cS:=b6 (if b then .ag else .cZ) (by exists b<;>simp);generalize aG (x::r)=tp at*;generalize (lU tb.H<|x::r).map T.int=cs at*;generalize (eY tb<|x::r).map aG=ss at *
 exists b
 ·simp only[jm,if_false]at m0 cS;generalize dp tb=tt at*;simp![m0,dN,cS]
 ·simp only[if_true]at m0 cS;generalize dp tb=tt at*;simp![m0,dN,cS]
def ahead(p:List Int)(k:Nat):Int:=if k=0 then p.getLastD 0 else p.getD (k-1) 0
def jM(tb:List<|List Bool)(p:List Int):Bool:=(List.range p.H).all λk=>jQ tb (ahead p k)<|p.getD k 0
def Sr{p:List Int}{k:Nat}(h:k<p.H):p.getD k 0∈p:=by rw[nj,hh h];exact oy _
def amF{p:List Int}(h:1<=p.H):p.getLastD 0∈p:=by
 have:p≠[]:=by intro e;subst e;simp at h
 rw[BM,BI this];exact MP _
def adW(h:1<=p.H){k:Nat}(aW:k<p.H):ahead p k∈p:=by
 unfold ahead;split
 ·exact amF h
 ·exact Sr<|BZ aW
def amG(h:1<=p.H){k:Nat}(aW:k<p.H):gE (p.map T.int) ((k:Int)-1)=J (.int<|ahead p k):=by
 unfold ahead;by_cases h0:k=0
 ·subst h0;have aF:p≠[]:=by intro e;subst e;simp at h
  rw[Y2 rfl];refine at_neg (by simpa using aF) ?_;rw[MQ,BM,BI aF];rfl
 ·rw[Y3 h0,vH T.int p 0 Z3 Z3];rw[show((k:Int)-1).M=k-1 by lia]
def bools(l:List Bool):hP (l.map T.aC)=J l:=by
 induction l with
 |nil=>rfl
 |cons b l a4=>rw[cU];unfold hP;rw[a4];rfl
def adX(cc:nc tb)(aF:Path tb.H p)(b:Bool)(n:Nat):xV [(dp tb,b),(aG p,Y0)] n=J (.aC<|jM tb p,Y1,n):=by
 have de:bh=1000000:=rfl;have jz:=cc.1;have af:=aF.one;have cQ:=aF.le;have hu:∀m:bo,(m=.ag\/m=.cZ)->Rw [J (dp tb,m),J (aG p,.ag)] n=J (.ao<|((List.range p.H).map λk=>jQ tb (ahead p k)<|p.getD k 0).map T.aC,.aE,n):=by
  intro m hm;rw[ci];refine ij (List.range p.H) (λk=>.int ((k:Nat):Int)) (λk=>.aC<|jQ tb (ahead p k)<|p.getD k 0) ?_ (by rw[tV];lia) λk aW=>?_
  ·rw[<-Kp];refine EE (j:=(p.H:Int)) ?_ (iq _) Z3;rcases hm with rfl|rfl<;>simp![dp,aG,g6]
  ·rw[nr]at aW;have iQ:=aF.hI _<|adW af aW;have k0:=aF.hI _<|Sr aW;have g1:=K4 (tb:=tb) iQ.1 iQ.2 n;have g2:=K5 cc iQ.1 iQ.2 k0.1 k0.2 n;have az:dv n [aG p,.int<|(k:Int)-1]=J (.int<|ahead p k,.ag):=by unfold aG;rw[my,amG af aW];rfl
   have au:dv n [aG p,.int (k:Int)]=J (.int<|p.getD k 0,.ag):=by unfold aG;rw[my,vH T.int p 0 (iq _) Z3];rfl
   generalize ahead p k=x at*;generalize p.getD k 0=y at*;generalize jQ tb x y=v at*;generalize kG _=kq at*;generalize aG p=tp at*;unfold dp at g1;rcases hm with rfl|rfl<;>simp![dp,ck,ka,dY,az,au,g1,g2]
 have m0:=hu (if b then .ag else .cZ) (by exists b<;>simp);have a6:ji n [.ao<|((List.range p.H).map λk=>jQ tb (ahead p k)<|p.getD k 0).map T.aC]=J (.aC<|jM tb p,.ag):=by rw[xS,bools];unfold jM;rw[kh,pP];rfl
 unfold xV Rx;generalize ((List.range p.H).map λk=>jQ tb (ahead p k)<|p.getD k 0).map T.aC=l at*;generalize aG p=tp at*;generalize jM tb p=r at *
 exists b
 ·simp only[jm,if_false]at m0;generalize dp tb=tt at*;simp![m0,a6]
 ·simp only[if_true]at m0;generalize dp tb=tt at*;simp![m0,a6]
def lr(tb:List<|List Bool):Nat->List ZA->List ZA->List ZA
 |0,found,_=>found
 |k+1,found,dG=>if dG.isEmpty then found else lr tb k (found++(dG.flatMap<|eY tb).filter (jM tb)) (dG.flatMap<|eY tb)
def ones(m:Nat):List ZA:=List.map (λ(k:Nat)=>[(k:Int)])<|List.range m
def Fb(tb:List<|List Bool):List ZA:=hK<|lr tb 5 []<|ones tb.H
def At(tb:List<|List Bool)(k:Nat)(dG:List ZA):Prop:=∀p∈dG,Path tb.H p/\p.H=k+1
def At.next{k:Nat}(h:At tb k dG):At tb (k+1)<|dG.flatMap<|eY tb:=λq a7=>by obtain⟨p,aF,a7⟩:=GQ.mp a7;obtain⟨af,ak⟩:=h p aF;obtain⟨bc,cL⟩:=adS af a7;exact⟨bc,by lia⟩
def Ss(cc:nc tb){k:Nat}(h:At tb k dG):(dG.flatMap<|eY tb).H<=4*dG.H:=by
 induction dG with
 |nil=>simp
 |cons p ps a4 =>
  have:=a4 λq a7=>h q<|am _ a7;have l:=Sp (h p<|dS ..).1;have:=cc.1;rw[nk,gq,d8];lia
def K7(tb:List<|List Bool):At tb 0<|ones tb.H:=λp aF=>by obtain⟨k,aW,rfl⟩:=ey.mp aF;rw[nr]at aW;exact⟨⟨by simp,λx av=>by have:=ow.mp av;subst this;lia,by simp,by simp⟩,rfl⟩
structure Ring (tb:List<|List Bool) (p:List Int):Prop where
 path:Path tb.H p
 two:2<=p.H
 round:jM tb p=Y0
theorem Su:∀(j k:Nat) (found dG:List ZA),At tb k dG->(∀p∈found,Ring tb p)->∀p∈lr tb j found dG,Ring tb p
 |0,_,_,_,_,hf=>hf
 |j+1,k,found,dG,h,hf=>by
  unfold lr;split
  ·exact hf
  ·refine Su j (k+1) _ _ h.next λp aF=>?_;rcases hQ.mp aF with aF|aF
   ·exact hf p aF
   ·obtain⟨af,ak⟩:=lz.mp aF;obtain⟨bc,cL⟩:=h.next p af;exact⟨bc,(qT<|d1 cL.symm),ak⟩
def nd:Nat->Nat
 |0=>0
 |m+1=>(m+1)*(1+nd m)
def mA(tb:List<|List Bool)(p:List Int):Nat:=((tb.H:Int)-p.headD 0-p.H).M
theorem Sv:∀(j k:Nat) (found dG:List ZA),At tb k dG->(lr tb j found dG).H<=found.H+(dG.map λp=>nd<|mA tb p).sum
 |0,_,_,_,_=>by unfold lr;exact gb _ _
 |j+1,k,found,dG,h=>by
  unfold lr;split
  ·exact gb _ _
  ·have a4:=Sv j (k+1) (found++(dG.flatMap<|eY tb).filter (jM tb)) _ h.next;have fE:=r3 (jM tb)<|dG.flatMap<|eY tb;rw[gq]at a4;have key:∀ps:List ZA,At tb k ps->(ps.flatMap<|eY tb).H+((ps.flatMap<|eY tb).map λp=>nd<|mA tb p).sum<=(ps.map λp=>nd<|mA tb p).sum:=by
    intro ps
    induction ps with
    |nil=>intro _;simp
    |cons p ps adY =>
     intro aF;have anE:=adY λq a7=>aF q<|am _ a7;obtain⟨P,cQ⟩:=aF p<|dS ..;have uX:=adT P;rw[nk,gq,lA,List.sum_append,cU,tY];have e:∀q∈eY tb p,mA tb q=mA tb p-1:=λq a7=>by
      obtain⟨x,av,rfl⟩:=ey.mp a7;unfold mA;have af:=P.one;have hd:(p++[x]).headD 0=p.headD 0:=by
       cases p with
       |nil=>simp at af
       |cons y r=>rfl
      rw[hd,gq,pK];lia
     have WM:((eY tb p).map λp=>nd<|mA tb p).sum=(eY tb p).H*nd (mA tb p-1):=by rw[mF (g:=λ_=>nd<|mA tb p-1) λq a7=>by rw[e q a7]];rw[List.map_const',Mx]
     have bd:(eY tb p).H+(eY tb p).H*nd (mA tb p-1)<=nd (mA tb p):=by
      have NQ:(eY tb p).H<=mA tb p:=by unfold mA;lia
      generalize mA tb p=m at*;cases m with
      |zero =>
       have:(eY tb p).H=0:=(h8 NQ<|gG _)
       rw[this];simp
      |succ m =>
       show _<=(m+1)*(1+nd m);rw[MU];have:=yC (1+nd m) NQ;rw[Nat.mul_add,Nat.mul_one]at this;exact this
     rw[WM];lia
   have:=key dG h;lia
def adZ(cc:nc tb):(lr tb 5 []<|ones tb.H).H<64:=by
 have h:=Sv 5 0 [] (ones tb.H)<|K7 tb;have s4:=cc.1;have e:∀n:Nat,n<=4->((ones n).map λp=>nd<|((n:Int)-p.headD 0-p.H).M).sum<=20:=by
  intro n bz;have:n=0\/n=1\/n=2\/n=3\/n=4:=by lia
  rcases this with rfl|rfl|rfl|rfl|rfl<;>decide
 have:=e tb.H s4;have h':(lr tb 5 []<|ones tb.H).H<=((ones tb.H).map λp=>nd<|((tb.H:Int)-p.headD 0-p.H).M).sum:=by rw[tX,t5]at h;exact h
 exact gS h'<|gS this Z0
theorem Fc{α β:Type}(f:α->List β):∀(l:List α) (acc:List β),l.foldl (λa x=>a++f x) acc=acc++l.flatMap f
 |[],acc=>by simp
 |x::l,acc=>by rw[mG,Fc f l,nk,h6]
def ad0(cc:nc tb)(hm:m=.ag\/m=.cZ){k:Nat}(h:At tb k dG)(aB:dG.H<=10000)(f:T×bo)(ct:Option ZJ)(n:Nat) :
  ∃xZ,KG [J (dp tb,m),J f,J (.ao<|dG.map aG,.ag),J (.ao [],.aE),ct] n=J (.bD,[J (dp tb,m),J f,J (.ao<|dG.map aG,.ag),J (.ao<|(dG.flatMap<|eY tb).map aG,.aE),xZ],n):=by
 have de:bh=1000000:=rfl;obtain⟨S',⟨xZ,gY⟩,e⟩:=Ko (put:=cB 4) (b:=KD) (g:=aG) (n:=n) (R:=λ(s:List (List Int)) S=>∃ct,S=[J (dp tb,m),J f,J (.ao<|dG.map aG,.ag),J (.ao<|s.map aG,.aE),ct]) (step:=λs p=>s++eY tb p) dG []
  [J (dp tb,m),J f,J (.ao<|dG.map aG,.ag),J (.ao [],.aE),ct] (λpre p post he S gY=>by
   obtain⟨p5,rfl⟩:=gY;rw[Fc,pO];have aF:p∈dG:=by rw[he];simp
   have yc:At tb k pre:=λq a7=>h q (by rw[he];simp[a7]);have fh:=Ss cc yc;have fE:=Sp (h p aF).1;have fc:pre.H<=dG.H:=by rw[he];simp
   have:=cc.1;have st:∀b,A3 [(dp tb,b),(aG p,Y0)] n=J (.ao<|(eY tb p).map aG,Y0,n):=λb=>steps cc (h p aF).1 b n;have ex:jO (.ao<|(pre.flatMap<|eY tb).map aG) (.ao<|(eY tb p).map aG)=J (.ao<|(pre.flatMap (eY tb)++eY tb p).map aG):=by rw[EJ,Y2 (by rw[cP,cP];lia),lA]
   refine⟨_,_,rfl,?_,J (aG p,.ag),rfl⟩;unfold KD;refine(ED (t:=.ao<|(eY tb p).map aG) (u:=.ao<|(pre.flatMap<|eY tb).map aG) (n':=n) ?_ rfl ex).trans rfl;generalize aG p=tp at*;generalize (eY tb p).map aG=sp at*;unfold dp at st |-
   rcases hm with rfl|rfl<;>simp![st]) ⟨ct,rfl⟩
 rw[Fc,pO]at gY;subst gY;exact⟨xZ,e⟩
def ad1(cc:nc tb)(hm:m=.ag\/m=.cZ){k:Nat}(h:At tb k dG)(aB:dG.H<=10000)(f g:T×bo)(ct:Option ZJ)(n:Nat) :
  KH [J (dp tb,m),J f,J g,J (.ao<|dG.map aG,.aE),ct] n=J (.ao<|(dG.filter<|jM tb).map aG,.aE,n):=by
 have de:bh=1000000:=rfl;refine rC dG aG (jM tb) aG rfl Z3 λp aF=>?_;have e:∀b,xV [(dp tb,b),(aG p,Y0)] n=J (.aC<|jM tb p,Y1,n):=λb=>adX cc (h p aF).1 b n;constructor
 ·generalize aG p=tp at*;generalize jM tb p=r at*;unfold dp at e |-;rcases hm with rfl|rfl<;>simp![ck,e]
 ·intro _;unfold aG;simp![ck]
def ad2(cc:nc tb)(hm:m=.ag\/m=.cZ)(n:Nat):∀(j k F:Nat) (found dG:List ZA) (bY ct:Option ZJ),k+j=5->j<F->At tb k dG->dG.H<=4^(k+1)->found.H<=4^(k+2) ->
  ∃S',iU (bK<|ai 2) A4 F [J (dp tb,m),J (.ao<|found.map aG,.aE),J (.ao<|dG.map aG,.aE),bY,ct] n=J (.bD,S',n)/\S'[1]?=J (J (.ao<|(lr tb j found dG).map aG,.aE)):=by
 have de:bh=1000000:=rfl;have stop:∀(F:Nat) (found:List ZA) (bY ct:Option ZJ),0<F->iU (bK<|ai 2) A4 F [J (dp tb,m),J (.ao<|found.map aG,.aE),J (.ao [],.aE),bY,ct] n=J (.bD,[J (dp tb,m),J (.ao<|found.map aG,.aE),J (.ao [],.aE),bY,ct],n):=λF found bY ct cx=>by
  obtain⟨F,rfl⟩:∃G,F=G+1:=⟨F-1,by lia⟩
  unfold iU;rfl
 intro j
 induction j with
 |zero =>
  intro k F found dG bY ct aW cx h aF hf;have e:dG=[]:=by
   cases dG with
   |nil=>rfl
   |cons p ps =>
    obtain⟨af,ak⟩:=h p<|dS ..;have:=af.le;have:=cc.1;lia
  subst e;exact⟨_,stop F found bY ct<|cx,rfl⟩
 |succ j a4 =>
  intro k F found dG bY ct aW cx h aF hf;cases a7:dG with
  |nil=>exact⟨_,stop F found bY ct<|qT<|ez cx,rfl⟩
  |cons NR ps =>
   rw[<-a7];have vi:dG.isEmpty=Y1:=by rw[a7];rfl
   have Sw:k<=4:=(kg<|qS<|d1 aW)
   have dB:4^(k+1)<=4^5:=wg Z0<|t4 Sw;have c7:4^(k+2)<=4^6:=wg Z0<|Nat.add_le_add_right Sw _;have aX:(4:Nat)^5=1024:=by decide
   have bb:(4:Nat)^6=4096:=by decide
   have bA:4^(k+1+1)=4*4^(k+1):=by rw[wm,qU]
   have cp:4^(k+1+2)=4*4^(k+2):=by rw[wm,qU]
   have hE:4^(k+2)=4*4^(k+1):=by rw[wm,qU]
   have fh:=Ss cc h;have fE:=r3 (jM tb)<|dG.flatMap<|eY tb;obtain⟨G,rfl⟩:∃G,F=G+1:=⟨F-1,by lia⟩
   obtain⟨p5,az⟩:=ad0 cc hm h (bP aF<|bP dB Z0) (.ao<|found.map aG,.aE) ct n;have au:=ad1 cc hm h.next Z3 (.ao<|found.map aG,.aE) (.ao<|dG.map aG,.ag) p5 n;have ex:jO (.ao<|found.map aG) (.ao<|((dG.flatMap<|eY tb).filter (jM tb)).map aG)=J (.ao<|(found++(dG.flatMap<|eY tb).filter (jM tb)).map aG):=by rw[EJ,Y2 (by rw[cP,cP];lia),lA]
   have a6:=ED (i:=1) (g:=jO) au rfl ex;obtain⟨S',eU,fL⟩:=a4 (k+1) G (found++(dG.flatMap<|eY tb).filter (jM tb)) (dG.flatMap<|eY tb) C p5 Z3 (kg cx) h.next Z3 (by rw[gq];lia);have body:A4 [J (dp tb,m),J (.ao<|found.map aG,.aE),J (.ao<|dG.map aG,.aE),bY,ct] n=J (.bD,[J (dp tb,m),J (.ao<|(found++(dG.flatMap<|eY tb).filter (jM tb)).map aG,.aE),J (.ao<|(dG.flatMap<|eY tb).map aG,.aE),C,p5],n):=by
    unfold A4;generalize (dG.flatMap<|eY tb).map aG=lo at*;generalize dG.map aG=ps at*;generalize found.map aG=mP at*;generalize (found++(dG.flatMap<|eY tb).filter (jM tb)).map aG=fo' at*;generalize KG=LL at*;generalize hM 1 jO KH=CC at*;have hl:0<=bh:=by decide
    simp![dF,hl,fC,dN,az,a6,rn]
   refine⟨S',?_,?_⟩
   ·unfold iU;have t:bK (ai 2) [J (dp tb,m),J (.ao<|found.map aG,.aE),J (.ao<|dG.map aG,.aE),bY,ct] n=J (Y0,n):=by
     have:(dG.map aG).isEmpty=Y1:=by rw[a7];rfl
     simp![this]
    rw[t];simp only[eN,if_true];rw[body];exact eU
   ·rw[fL];congr 3;rw[show lr tb (j+1) found dG=if dG.isEmpty then found else lr tb j (found++(dG.flatMap<|eY tb).filter (jM tb)) (dG.flatMap<|eY tb) from rfl,vi];rfl
def ad3(h:∀l∈ls,1<=l.H)(ad4:ls.H<64)(n:Nat):rr n [.ao<|ls.map aG]=J (.ao<|(hK ls).map aG,.aE):=by
 have e:mm (ls.map aG)=J ls:=Km λl aB e=>by have:=h l aB;rw[e]at this;simp at this
 show((mm<|ls.map aG).bind λls=>if ls.H<64 then J (T.ao<|(hK ls).map aG,bo.aE) else C)=_;rw[e,eN,Y2 ad4]
def rings(cc:nc tb)(b:Bool)(n:Nat):ET [(dp tb,b)] n=J (.ao<|(Fb tb).map aG,Y0,n):=by
 have de:bh=1000000:=rfl;have jz:=cc.1;have hu:∀m:bo,(m=.ag\/m=.cZ)->KC [J (dp tb,m),J (.ao [],.aE),C,C,C] n=J (.ao<|(ones tb.H).map aG,.aE,n):=by
  intro m hm;unfold ones;rw[ci];refine ij (List.range tb.H) (λk=>.int ((k:Nat):Int)) (λ(k:Nat)=>aG [(k:Int)]) ?_ (by rw[tV];lia) λk aW=>?_
  ·rw[<-Kp];refine EE (j:=(tb.H:Int)) ?_ (iq _) Z3;rcases hm with rfl|rfl<;>simp![dp,ll]
  ·have cq:1<=bh:=by decide
   simp![ck,aG,cq]
 have hm:(if b then bo.ag else bo.cZ)=.ag\/(if b then bo.ag else bo.cZ)=.cZ:=by exists b<;>simp
 have m0:=hu _ hm;obtain⟨S',eU,fL⟩:=ad2 cc hm n 5 0 100000 [] (ones tb.H) C C rfl Z0 (K7 tb) (by unfold ones;rw[cP,tV];exact jz) Z7;have a6:=ad3 (ls:=lr tb 5 []<|ones tb.H) (λl aB=>by have:=(Su 5 0 _ _ (K7 tb) Z7 l aB).two;exact kN this) (adZ cc) n;have v:ai 1 S' n=J (.ao<|(lr tb 5 []<|ones tb.H).map aG,.i1,n):=by rw[Mi,fL];rfl
 have lw:KI [J (dp tb,if b then bo.ag else bo.cZ),J (.ao [],.aE),J (.ao<|(ones tb.H).map aG,.aE),C,C] n=J (.bD,S',n):=eU;unfold Fb;unfold ET Ry;generalize (ones tb.H).map aG=on at*;generalize (lr tb 5 []<|ones tb.H).map aG=wV at*;generalize (hK<|lr tb 5 []<|ones tb.H).map aG=w1 at*;generalize KI=LL at*;generalize KC=CC at*;have hl:0<=bh:=by decide
 exists b
 ·simp only[jm,if_false]at m0 lw;generalize dp tb=tt at*;have e:cT (aH rr ZM) S' n=J (.aU (.ao w1) Y0,S',n):=by rw[Gk,F6,EG,v];show BA S' (yi n<|rr n [.ao wV])=_;rw[a6];rfl
  generalize cT (aH rr ZM)=RR at*;simp![dF,hl,m0,lw,e]
 ·simp only[if_true]at m0 lw;generalize dp tb=tt at*;have e:cT (aH rr ZM) S' n=J (.aU (.ao w1) Y0,S',n):=by rw[Gk,F6,EG,v];show BA S' (yi n<|rr n [.ao wV])=_;rw[a6];rfl
  generalize cT (aH rr ZM)=RR at*;simp![dF,hl,m0,lw,e]
def pv(a b:List Int):Bool:=decide (n7 b a<n7 a b)
def Ml{F G:Nat}(ba:j9 F a)(aq:j9 G b)(cx:F<=8)(iP:G<=8)(n:Nat):qD [(aG a,Y0),(aG b,Y0)] n=J (.aC<|pv a b,Y1,n):=by have e:=L4 ba aq cx iP n;unfold qD Rr pv;generalize aG a=ta at*;generalize aG b=tb at*;simp![e,my,gE,rm,dY]
def tabOf(ss:List ZA):List<|List Bool:=ss.map λa=>ss.map λb=>pv a b
def Sx(h:ss.H<=4):nc<|tabOf ss:=by unfold tabOf;refine⟨by rw[cP];exact h,λr aV=>?_⟩;obtain⟨a,_,rfl⟩:=ey.mp aV;rw[cP,cP]
def Sy(ss:List ZA):(tabOf ss).H=ss.H:=by unfold tabOf;rw[cP]
def Sz{α β:Type}(f:α->β)(l:List α):l.foldl (λa x=>a++[f x]) []=l.map f:=by
 rw[Fc,pO]
 induction l with
 |nil=>rfl
 |cons x l a4=>rw[nk,a4];rfl
def Vp{M F:Nat}(h:ip M F ds)(eh:M<=4)(cx:F<=8)(n:Nat):xW [(.aD ZB,Y0)] n=J (dp<|tabOf ds,Y0,n):=by
 have de:bh=1000000:=rfl;have fO:=h.most;have row:∀a∈ds,∀bH:Option ZJ,KJ [J (.aD ZB,.ag),bH,J (aG a,.ag)] n=J (kG (ds.map λb=>pv a b),.aE,n):=λa ba bH=>by unfold kG;rw[ci];refine ij ds aG (λb=>.aC<|pv a b) rfl Z3 λb aq=>?_;have e:=Ml (h.aL a ba) (h.aL b aq) cx cx n;generalize aG a=ta at*;generalize aG b=tb at*;simp![ck,e]
 obtain⟨S',⟨cf,gY⟩,e⟩:=Ko (put:=cB 2) (b:=Rz) (g:=aG) (n:=n) (R:=λ(s:List (List Bool)) S=>∃cf,S=[J (.aD ZB,.ag),J (.ao<|s.map kG,.aE),cf]) (step:=λs a=>s++[ds.map λb=>pv a b]) ds [] [J (.aD ZB,.ag),J (.ao [],.aE),C] (λpre a post he S gY=>by
   obtain⟨cf,rfl⟩:=gY;have ba:a∈ds:=by rw[he];simp
   have l:(pre.foldl (λs a=>s++[ds.map λb=>pv a b]) []).H=pre.H:=by rw[Sz];simp
   have fE:pre.H<ds.H:=by rw[he];simp
   have ap:rS (.ao<|(pre.foldl (λs a=>s++[ds.map λb=>pv a b]) []).map kG) (kG (ds.map λb=>pv a b))=J (.ao<|(pre.foldl (λs a=>s++[ds.map λb=>pv a b]) []++[ds.map λb=>pv a b]).map kG):=by rw[lA];show(if _ then _ else _)=_;rw[Y2<|by rw[cP,l];lia];rfl
   exact⟨_,_,rfl,ED (i:=1) (g:=rS) (d:=KJ) (row a ba _) rfl ap,J (aG a,.ag),rfl⟩) ⟨C,rfl⟩
 rw[Sz]at gY;have gY:S'=[J (.aD ZB,.ag),J (dp<|tabOf ds,.aE),cf]:=gY;subst gY;have jd:fC 0 KL [J (.aD ZB,.ag),J (.ao [],.aE),C] n=J (.bD,[J (.aD ZB,.ag),J (dp<|tabOf ds,.aE),cf],n):=e;unfold xW RA;generalize dp (tabOf ds)=tt at*;generalize ds.map aG=dd at*;generalize fC 0 KL=LL at*;have hl:0<=bh:=by decide
 simp![dF,hl,jd]
def ad5{M F:Nat}(h:ip M F ds)(eh:M<=4)(cx:F<=8)(n:Nat):vz [(.aD ZB,Y0)] n=J (.ao<|(Fb<|tabOf ds).map aG,Y0,n):=by have fO:=h.most;have az:=pq h eh cx n;have au:=Vp h eh cx n;have a6:=rings (Sx (ss:=ds)<|bP fO eh) Y0 n;unfold vz RB;unfold dp at au a6;generalize (Fb<|tabOf ds).map aG=hq at*;generalize (tabOf ds).map kG=tt at*;generalize ds.map aG=dd at*;simp![az,au,a6]
structure hv (d:List Z6):Prop where
 bW:(d.map (·.1)).Nodup
 pos:∀q∈d,1<=q.2
def cnt_cons(p:Int×Int)(d:List Z6)(k:Int):c5 (p::d) k=if p.1=k then p.2 else c5 d k:=by unfold c5;rw[ii];by_cases h:p.1=k<;>simp[h]
theorem kB:∀{d:List Z6} {q:Int×Int},(d.map (·.1)).Nodup->q∈d->c5 d q.1=q.2
 |[],q,_,h=>by simp at h
 |p::d,q,bW,h=>by
  rw[cU]at bW;obtain⟨aM,bC⟩:=nq.mp bW;rw[cnt_cons];rcases d3.mp h with rfl|h
  ·simp
  ·have:¬p.1=q.1:=λz=>aM (by rw[z];exact kd (f:=(·.1)) h);rw[Y3 this];exact kB bC h
def rJ{k:Int}(h:k∉d.map (·.1)):c5 d k=0:=by
 induction d with
 |nil=>rfl
 |cons p d a4 =>
  rw[cU]at h;rw[cnt_cons,Y3 λz=>h<|by rw[<-z];exact dS ..];exact a4 λz=>h<|am _ z
def hv.mem(B:hv d){k:Int}(h:1<=c5 d k):k∈d.map (·.1):=by
 by_cases z:k∈d.map (·.1)
 ·exact z
 ·rw[rJ z]at h;lia
def hv.Gz(B:hv d){k:Int}(h:k∈d.map (·.1)):1<=c5 d k:=by obtain⟨q,a7,rfl⟩:=ey.mp h;rw[kB B.bW a7];exact B.pos q a7
def hv.nonneg(B:hv d)(k:Int):0<=c5 d k:=by
 by_cases z:k∈d.map (·.1)
 ·have:=B.Gz z;exact kO this
 ·rw[rJ z];decide
noncomputable def subs(d:List Z6)(g:Int->Int):List Z6:=(d.map λp=>(p.1,p.2-g p.1)).filter λp=>decide (0<p.2)
def SA(d:List Z6)(g:Int->Int):((subs d g).map (·.1)).Sublist (d.map (·.1)):=by unfold subs;have h:=(List.filter_sublist (p:=λp:Int×Int=>decide (0<p.2)) (l:=d.map λp=>(p.1,p.2-g p.1))).map (λp:Int×Int=>p.1);rw[ci]at h;exact h
theorem hv.subs(B:hv d)(g:Int->Int):hv<|subs d g:=by refine⟨B.bW.sublist<|SA d g,λq a7=>?_⟩;have:=(lz.mp a7).2;simp at this;exact this
def SD(B:hv d){g:Int->Int}(h:∀k,0<=g k/\g k<=c5 d k)(k:Int):c5 (subs d g) k=c5 d k-g k:=by
 by_cases z:k∈(subs d g).map (·.1)
 ·obtain⟨q,a7,rfl⟩:=ey.mp z;rw[kB (B.subs g).bW a7];obtain⟨af,_⟩:=lz.mp a7;obtain⟨p,aF,rfl⟩:=ey.mp af;rw[kB B.bW aF]
 ·rw[rJ z];obtain⟨af,ak⟩:=h k;by_cases y:k∈d.map (·.1)
  ·obtain⟨q,a7,rfl⟩:=ey.mp y;rw[kB B.bW a7]at ak |-;by_cases w:0<q.2-g q.1
   ·exfalso;refine z<|ey.mpr ⟨(q.1,q.2-g q.1),lz.mpr ⟨ey.mpr ⟨q,a7,rfl⟩,by simpa using w⟩,rfl⟩
   ·exact Int.le_antisymm (Int.sub_nonneg_of_le ak)<|Hf.mp w
  ·rw[rJ y]at ak |-;lia
theorem SE(g h:Int->Int)(bT:∀k,0<=h k):∀d:List Z6,subs (subs d g) h=subs d λk=>g k+h k
 |[]=>rfl
 |p::d=>by
  have a4:=SE g h bT d;unfold subs at a4 |-;have:=bT p.1;rw[cU,tW,cU,tW];by_cases w:0<p.2-g p.1
  ·simp only[w,decide_true,if_true];rw[cU,tW,a4];simp only[Int.sub_sub]
  ·have fL:¬0<p.2-(g p.1+h p.1):=by lia
   simp only[w,fL,decide_false,jm,if_false];exact a4
def ad6(B:hv d):subs d (λ_=>0)=d:=by
 unfold subs;have e:(d.map λp=>(p.1,p.2-0))=d:=by refine(mF (g:=id) λp _=>?_).trans (r8 _);simp
 rw[e,yp];intro p aF;have:=B.pos p aF;simp;exact this
def low(d:List Z6):Int:=(least<|d.map (·.1)).getD 0
theorem SF:∀{l:List Int},l≠[]->∃x,least l=J x/\x∈l/\∀y∈l,x<=y
 |[],h=>absurd rfl h
 |a::l,_=>by
  have gen:∀(l:List Int) (a:Int),(l.foldl (λa b=>if b<a then b else a) a=a\/l.foldl (λa b=>if b<a then b else a) a∈l)/\l.foldl (λa b=>if b<a then b else a) a<=a/\∀y∈l,l.foldl (λa b=>if b<a then b else a) a<=y:=by
   intro l
   induction l with
   |nil=>intro a;exact⟨.inl rfl,Int.le_refl _,by simp⟩
   |cons b l a4 =>
    intro a;rw[mG];obtain⟨af,ak,bc⟩:=a4 (if b<a then b else a);refine⟨?_,?_,λy aK=>?_⟩
    ·rcases af with af|af
     ·rw[af];by_cases c:b<a
      ·rw[Y2 c];exact .inr<|dS ..
      ·rw[Y3 c];exact .inl rfl
     ·exact .inr<|am _ af
    ·refine jn ak ?_;split<;>lia
    ·rcases d3.mp aK with rfl|aK
     ·refine jn ak ?_;split<;>lia
     ·exact bc y aK
  obtain⟨af,ak,bc⟩:=gen l a;refine⟨_,rfl,?_,λy aK=>?_⟩
  ·rcases af with af|af
   ·rw[af];exact dS ..
   ·exact am _ af
  ·rcases d3.mp aK with rfl|aK
   ·exact ak
   ·exact bc y aK
def Bf(h:d≠[]):least (d.map (·.1))=J (low d)/\low d∈d.map (·.1)/\∀y∈d.map (·.1),low d<=y:=by
 obtain⟨x,e,af,ak⟩:=SF (l:=d.map (·.1)) (by simpa using h);have:low d=x:=by unfold low;rw[e];rfl
 rw[this];exact⟨e,af,ak⟩
def ajt(h:d≠[]){m:Int}(af:m∈d.map (·.1))(ak:∀y∈d.map (·.1),m<=y):low d=m:=by obtain⟨_,a,b⟩:=Bf h;have:=b m af;have:=ak _ a;lia
noncomputable def d2(aL:List Int)(hO:Int)(j:Nat)(x:Int):Int:=(j:Int)*((aL.countP λy=>y==x-hO:Nat):Int)
def tE(aL:List Int)(hO:Int)(j:Nat)(x:Int):0<=d2 aL hO j x:=Int.mul_nonneg (iq _)<|iq _
def K8(aL:List Int)(hO:Int)(i j:Nat)(x:Int):d2 aL hO (i+j) x=d2 aL hO i x+d2 aL hO j x:=by unfold d2;rw[Int.natCast_add,yL]
def ad7(aL:List Int)(hO:Int){i j:Nat}(h:i<=j)(x:Int):d2 aL hO i x<=d2 aL hO j x:=M7 Z3<|iq _
def Fits(d:List Z6)(g:Int->Int):Prop:=∀k,g k<=c5 d k
def dk(aL:List Int)(d:List Z6):Int:=low d-aL.headD 0
def Ok(aL:List Int)(d:List Z6):Prop:=0<=dk aL d/\Fits d (d2 aL ZF 1)
inductive nh (aL:List Int):List Z6->Option ZA->Prop
 |nil:nh aL []<|some []
 |bad {d:List Z6}:d≠[]->¬Ok aL d->nh aL d C
 |good {d:List Z6} {r:Option ZA}:d≠[]->Ok aL d->nh aL (subs d<|d2 aL ZF 1) r->nh aL d (r.map (dk aL d::·))
noncomputable def gF(aL:List Int):Nat:=aL.countP λy=>y==aL.headD 0
def Fd(h:1<=aL.H):1<=gF aL:=by
 cases aL with
 |nil=>simp at h
 |cons x r=>unfold gF;rw[ox];simp
def Fe(aL:List Int)(d:List Z6)(j:Nat):d2 aL ZF j (low d)=(j:Int)*(gF aL:Int):=by unfold d2 dk gF;rw[show low d-(low d-aL.headD 0)=aL.headD 0 by lia]
def akZ{hO:Int}{i j:Nat}(h:i<=j)(f:Fits d<|d2 aL hO j):Fits d<|d2 aL hO i:=λk=>jn (ad7 aL hO h k)<|f k
def SG(af:1<=aL.H)(B:hv d)(hd:d≠[]){j:Nat}(bU:((j:Int)+1)*(gF aL:Int)<=c5 d (low d))(hf:Fits d<|d2 aL ZF j) :
  subs d (d2 aL ZF j)≠[]/\dk aL (subs d<|d2 aL ZF j)=dk aL d:=by
 have c:=SD B (g:=d2 aL ZF j) (λk=>⟨tE aL _ j k,hf k⟩)<|low d;rw[Fe]at c;have p:=Fd af;rw[yL]at bU;have m:=(B.subs<|d2 aL ZF j).mem (k:=low d) Z3;have ne:subs d (d2 aL ZF j)≠[]:=by intro e;rw[e]at m;simp at m
 refine⟨ne,?_⟩;have e:=ajt ne m λy aK=>(Bf hd).2.2 y ((SA d _).subset aK);show low _-_=low d-_;rw[e]
def SH(B:hv d){hO:Int}{j:Nat}(hf:Fits d<|d2 aL hO j):Fits (subs d<|d2 aL hO j) (d2 aL hO 1)↔Fits d (d2 aL hO<|j+1):=by
 have c:=SD B (g:=d2 aL hO j) λk=>⟨tE aL _ j k,hf k⟩;constructor
 ·intro h k;have:=h k;rw[c k]at this;rw[K8];lia
 ·intro h k;have:=h k;rw[K8]at this;rw[c k];lia
def amH{hO:Int}(j:Nat):subs (subs d<|d2 aL hO j) (d2 aL hO 1)=subs d (d2 aL hO<|j+1):=by rw[SE _ _<|tE aL hO 1];congr 1;funext k;rw[K8]
theorem K9(af:1<=aL.H)(B:hv d)(hd:d≠[])(h0:0<=dk aL d)(M:nh aL d r):∀j:Nat,(j:Int)*(gF aL:Int)<=c5 d (low d)->Fits d (d2 aL ZF j) ->
  ∃b5,r=b5.map (List.replicate j ZF++·)/\nh aL (subs d<|d2 aL ZF j) b5
 |0,_,_=>by
  refine⟨r,by exists r<;>rfl,?_⟩;have e:d2 aL ZF 0=λ_=>0:=by funext k;unfold d2;simp
  rw[e,ad6 B];exact M
 |j+1,bU,hf=>by
  have La:=akZ (t6 j) hf;have rz:((j:Int)+1)*(gF aL:Int)<=c5 d (low d):=by simpa using bU
  obtain⟨WN,e,H0⟩:=K9 af B hd h0 M j (by rw[yL]at rz;lia) La;obtain⟨ne,w2⟩:=SG af B hd rz La;have ok:Ok aL<|subs d<|d2 aL ZF j:=⟨by rw[w2];exact h0,by rw[w2];exact(SH B La).mpr hf⟩
  generalize qb:subs d (d2 aL ZF j)=X at*;cases H0 with
  |nil=>exact absurd rfl ne
  |bad _ Lb=>exact absurd ok Lb
  |@good _ b5 _ _ NS =>
   rw[w2,<-qb,amH]at NS;refine⟨b5,?_,NS⟩;rw[e,w2];cases b5 with
   |none=>rfl
   |some l =>
    simp only[kh];congr 1;rw[MB,h6];rfl
def ad8(af:1<=aL.H)(B:hv d)(hd:d≠[])(h0:0<=dk aL d)(M:nh aL d r){q:Nat}(a7:(q:Int)*(gF aL:Int)<=c5 d (low d))(hf:¬Fits d (d2 aL ZF q)):r=C:=by
 have z:Fits d<|d2 aL ZF 0:=λk=>by have:=B.nonneg k;unfold d2;simpa using this
 have ex:∃j,j<q/\Fits d (d2 aL ZF j)/\¬Fits d (d2 aL ZF<|j+1):=by
  clear a7
  induction q with
  |zero=>exact absurd z hf
  |succ q a4 =>
   by_cases c:Fits d<|d2 aL ZF q
   ·exact⟨q,oC _,c,hf⟩
   ·obtain⟨j,a,b⟩:=a4 c;exact⟨j,(oA a),b⟩
 obtain⟨j,bU,f1,f2⟩:=ex;have p:=Fd af;have rz:((j:Int)+1)*(gF aL:Int)<=c5 d (low d):=jn (M7 Z3<|iq _) a7;obtain⟨WN,e,H0⟩:=K9 af B hd h0 M j (by rw[yL]at rz;lia) f1;obtain⟨ne,w2⟩:=SG af B hd rz f1;have Lb:¬Ok aL (subs d<|d2 aL ZF j):=λo=>f2<|(SH B f1).mp (by have:=o.2;rw[w2]at this;exact this);generalize subs d (d2 aL ZF j)=X at*;cases H0 with
 |nil=>exact absurd rfl ne
 |bad _ _=>rw[e];rfl
 |good _ ok _=>exact absurd ok Lb
def SI(hd:d≠[])(M:nh aL d r)(h:dk aL d<0\/c5 d (low d)<(gF aL:Int)):r=C:=by
 cases M with
 |nil=>exact absurd rfl hd
 |bad _ _=>rfl
 |good _ ok _ =>
  exfalso;rcases h with h|h
  ·have:=ok.1;lia
  ·have:=ok.2<|low d;rw[Fe]at this;lia
def h3(d:List Z6):Int:=cI<|d.map (·.2)
theorem Lc{g:Int->Int}(bT:∀k,0<=g k):∀{d:List Z6},(∀q∈d,g q.1<=q.2)->h3 (subs d g)+(cI (d.map λq=>g q.1))=h3 d
 |[],_=>rfl
 |p::d,h=>by
  have a4:=Lc bT (d:=d) λq a7=>h q<|am _ a7;have aF:=h p<|dS ..;unfold h3 subs at a4 |-;rw[cU,tW,cU,cU,cI,cI];by_cases w:0<p.2-g p.1
  ·simp only[w,decide_true,if_true];rw[cU,cI];show p.2-g p.1+_+_=_;lia
  ·simp only[w,decide_false,jm,if_false];lia
def Ff(h:∀x∈l,0<=x){y:Int}(aK:y∈l):y<=cI l:=by
 have nn:∀l:List Int,(∀x∈l,0<=x)->0<=cI l:=by
  intro l
  induction l with
  |nil=>intro _;simp[cI]
  |cons x l a4=>intro h;rw[cI];have:=h x<|dS ..;have:=a4 λz hz=>h z<|am _ hz;lia
 induction l with
 |nil=>simp at aK
 |cons x l a4 =>
  rw[cI];have h0:=h x<|dS ..;have aB:=nn l λz hz=>h z<|am _ hz;rcases d3.mp aK with rfl|aK
  ·lia
  ·have:=a4 (λz hz=>h z<|am _ hz) aK;lia
def SJ(B:hv d){g:Int->Int}(f:Fits d g):∀q∈d,g q.1<=q.2:=λq a7=>by have:=f q.1;rw[kB B.bW a7]at this;exact this
def amI(af:1<=aL.H)(B:hv d)(hd:d≠[]){j:Nat}(bU:1<=j)(f:Fits d<|d2 aL ZF j):h3 (subs d<|d2 aL ZF j)+1<=h3 d:=by
 have e:=Lc (tE aL ZF j)<|SJ B f;obtain⟨_,m,_⟩:=Bf hd;obtain⟨q,a7,hm⟩:=ey.mp m;have:=Ff (l:=d.map λq=>d2 aL ZF j q.1) (λx av=>by obtain⟨q,_,rfl⟩:=ey.mp av;exact tE ..)<|kd (f:=λq:Int×Int=>d2 aL ZF j q.1) a7;rw[hm,Fe]at this;have p:=Fd af;have:1<=(j:Int)*(gF aL:Int):=by have:=wj bU p;rw[<-Hd];lia
 lia
def SK(B:hv d):0<=h3 d:=by
 unfold h3;have:∀l:List Int,(∀x∈l,0<=x)->0<=cI l:=by
  intro l
  induction l with
  |nil=>intro _;simp[cI]
  |cons x l a4=>intro h;rw[cI];have:=h x<|dS ..;have:=a4 λz hz=>h z<|am _ hz;lia
 refine this _ λx av=>?_;obtain⟨q,a7,rfl⟩:=ey.mp av;have:=B.pos q a7;exact kO this
def ak0(af:1<=aL.H):∀(N:Nat) (d:List Z6),hv d->h3 d<=N->∃r,nh aL d r:=by
 intro N
 induction N with
 |zero =>
  intro d B h;cases hd:d with
  |nil=>exact⟨_,.nil⟩
  |cons p r =>
   exfalso;have:=Ff (l:=d.map (·.2)) (λx av=>by obtain⟨q,a7,rfl⟩:=ey.mp av;have:=B.pos q a7;exact kO this)<|kd (f:=(·.2)) (show p∈d by rw[hd];exact dS ..);have:=B.pos p (by rw[hd];exact dS ..);unfold h3 at h;lia
 |succ N a4 =>
  intro d B h;by_cases hd:d=[]
  ·subst hd;exact⟨_,.nil⟩
  ·by_cases ok:Ok aL d
   ·obtain⟨r,M⟩:=a4 _ (B.subs<|d2 aL ZF 1) (by have:=amI af B hd (j:=1) (cg _) ok.2;exact Int.le_of_lt_add_one<|B5 this h);exact⟨_,.good hd ok M⟩
   ·exact⟨_,.bad hd ok⟩
def WO(d:List Z6)(s:List Int):Prop:=∀k,c5 d k=((s.countP λx=>x==k:Nat):Int)
def k6.c5(B:k6 d s):WO d s:=λx=>by
 by_cases av:x∈s
 ·obtain⟨v,bS⟩:=B.has av;rw[kB B.bW bS];exact B.val bS
 ·rw[rJ (λz=>by
   obtain⟨q,a7,rfl⟩:=ey.mp z
   exact av<|B.key a7),GL.mpr λy aK z=>av<|by rw[<-eq_of_beq z];exact aK]
  rfl
def amJ(af:∀d∈ds,1<=d.H)(hz:Mk (ds.map List.H)<=100000)(n:Nat) :
  ∃d,k6 d (jP ds)/\n6 [(.aD ZB,Y0)] n=J (.bk<|ay d,Y0,n) :=
 R5 (by rw[show(ds.map λx=>max 1 x.H)=ds.map List.H from mF λx av=>Nat.max_eq_right<|af x av];exact hz) n
noncomputable def e1(L:List Z6):List T:=L.map λp=>.aD [.int p.1,.int p.2]
theorem SM:∀L:List Z6,qP (e1 L)=J (ay L)
 |[]=>rfl
 |p::L=>by have a4:=SM L;unfold e1 at a4 |-;rw[cU];unfold qP;show(Option.bind (J (Sum.inl p.1:iw)) λk=>(qP _).map ((k,T.int p.2)::·))=_;rw[a4];rfl
theorem SN:∀(L A:List Z6),((A++L).map (·.1)).Nodup->(ay L).foldl (λd p=>j5 d p.1 p.2) (ay A)=ay (A++L)
 |[],A,_=>by simp[ay]
 |p::L,A,h=>by
  have bz:(A.any λq=>decide (q.1=p.1))=Y1:=by rw[<-G9,vF];intro z;rw[lA,we]at h;exact h.2.2 _ z _ Z7 rfl
  have e:j5 (ay A) (.inl p.1) (.int p.2)=ay (A++[p]):=by unfold j5;rw[Vk,bz];simp[ay]
  have a4:=SN L (A++[p]) (by simpa using h);show(ay L).foldl (λd p=>j5 d p.1 p.2) (j5 (ay A) (.inl p.1)<|.int p.2)=_;rw[e,a4,h6];rfl
def UC(bW:(L.map (·.1)).Nodup)(aB:L.H<bh)(n:Nat):xf n [.ao<|e1 L]=J (.bk<|ay L,.aE):=by show((qP<|e1 L).bind λps=>if ps.H<bh then J (T.bk<|ps.foldl (λd p=>j5 d p.1 p.2) [],bo.aE) else C)=_;rw[SM];have:=SN L [] (by simpa using bW);rw[show(ay ([]:List Z6))=[] from rfl]at this;show(if(ay L).H<bh then J (T.bk<|(ay L).foldl (λd p=>j5 d p.1 p.2) [],bo.aE) else C)=_;rw[Y2 (by unfold ay;rw[cP];exact aB),this];rfl
def SO(bW:(d.map (·.1)).Nodup){k:Int}(h:k∈d.map (·.1))(w:Int):gA d k w=d.map λp=>(p.1,p.2+if p.1=k then w else 0):=by
 unfold gA;rw[Y2<|(vF d k).mpr h];refine mF λp aF=>?_;by_cases e:p.1=k
 ·rw[Y2 e,Y2 e,<-e,kB bW aF]
 ·rw[Y3 e,Y3 e];simp
def Ld{k:Int}(h:k∈d.map (·.1))(w:Int):(gA d k w).map (·.1)=d.map (·.1):=by unfold gA;rw[Y2<|(vF d k).mpr h,ci];refine mF λp _=>?_;show(if p.1=k then _ else p).1=p.1;split<;>rfl
def Fg{k:Int}(h:k∉d.map (·.1))(w:Int):gA d k w=d++[(k,w)]:=by unfold gA;rw[Y3 λz=>h<|(vF d k).mp z]
def Bg(bW:(d.map (·.1)).Nodup)(k w:Int):((gA d k w).map (·.1)).Nodup:=by
 by_cases h:k∈d.map (·.1)
 ·rw[Ld h];exact bW
 ·rw[Fg h,lA,we];exact⟨bW,by simp,λx av y aK=>by simp at aK;subst aK;exact λe=>h<|e▸av⟩
def SP(a b:List Z6)(k:Int)(h:k∉a.map (·.1)):c5 (a++b) k=c5 b k:=by
 induction a with
 |nil=>rfl
 |cons p a a4 =>
  rw[cU]at h;rw[GP,cnt_cons,Y3 λz=>h<|by rw[<-z];exact dS ..];exact a4 λz=>h<|am _ z
def J8{d:List Z6}(g:Int->Int)(k:Int):c5 (d.map λp=>(p.1,p.2+g p.1)) k=c5 d k+if k∈d.map (·.1) then g k else 0:=by
 induction d with
 |nil=>rfl
 |cons p d a4 =>
  rw[cU,cnt_cons,cnt_cons,a4,cU];by_cases e:p.1=k
  ·simp[e]
  ·have:(k∈p.1::d.map (·.1))↔k∈d.map (·.1):=by rw[d3];exact⟨λz=>z.elim (λz=>absurd z.symm e) id,.inr⟩
   simp only[e,if_false,this]
def SQ(bW:(d.map (·.1)).Nodup)(k w x:Int):c5 (gA d k w) x=c5 d x+if x=k then w else 0:=by
 by_cases h:k∈d.map (·.1)
 ·rw[SO bW h,J8 λx=>if x=k then w else 0];by_cases e:x=k
  ·subst e;simp[h]
  ·simp[e]
 ·rw[Fg h];by_cases e:x=k
  ·subst e;rw[SP _ _ _ h,rJ h,cnt_cons];simp
  ·rw[Y3 e];by_cases av:x∈d.map (·.1)
   ·obtain⟨q,a7,rfl⟩:=ey.mp av;have bC:((d++[(k,w)]).map (·.1)).Nodup:=by rw[<-Fg h];exact Bg bW k w
    rw[kB bC<|pM _ a7,kB bW a7];lia
   ·rw[SP _ _ _ av,rJ av,cnt_cons,Y3 λz=>e z.symm];rfl
def ak1(bW:(d.map (·.1)).Nodup)(k w:Int):iV (ay<|gA d k w) (.inl k)=J (.int<|c5 d k+w):=by
 have aW:∃v,(k,v)∈gA d k w:=by
  by_cases h:k∈d.map (·.1)
  ·have:k∈(gA d k w).map (·.1):=by rw[Ld h];exact h
   obtain⟨q,a7,rfl⟩:=ey.mp this;exact⟨q.2,a7⟩
  ·rw[Fg h];exact⟨w,by simp⟩
 obtain⟨v,bS⟩:=aW;rw[E6 (Bg bW k w) bS];have:=kB (Bg bW k w) bS;rw[SQ bW]at this;simp at this;rw[<-this]
def Le(bW:(d.map (·.1)).Nodup){k:Int}(h:k∈d.map (·.1))(n:Nat):dv n [.bk<|ay d,.int k]=J (.int<|c5 d k,.ag):=by obtain⟨q,a7,rfl⟩:=ey.mp h;have:=E6 bW (show(q.1,q.2)∈d from a7);rw[kB bW a7];show((iV (ay d)<|.inl q.1).map λt=>(t,bo.ag))=_;rw[this];rfl
theorem SR(Lf:(t.map (·.1)).Nodup)(pt:∀q∈t,1<=q.2)(x0:Option ZJ)(n:Nat):∀(l:List Z6) (e:List Z6) (bY:Option ZJ),(∀q∈l,q∈t)->(l.map (·.1)).Nodup->hv e\/(e.map (·.1)).Nodup->(e.map (·.1)).Nodup->e.H+l.H<=100000 ->
  ∃Fh,((∀q∈l,q.2<=c5 e q.1)->fF (cB 3) rE (l.map λq=>T.int q.1) [x0,J (.bk<|ay t,.ag),J (.bk<|ay e,.aE),bY] n=J (.bD,[x0,J (.bk<|ay t,.ag),J (.bk<|ay<|l.foldl (λe q=>gA e q.1<|-q.2) e,.aE),Fh],n)) /\
   ((¬ ∀q∈l,q.2<=c5 e q.1)->∃S,fF (cB 3) rE (l.map λq=>T.int q.1) [x0,J (.bk<|ay t,.ag),J (.bk<|ay e,.aE),bY] n=J (.aU .br Y1,S,n))
 |[],e,bY,_,_,_,_,_=>⟨bY,λ_=>by simp[fF],λh=>absurd Z7 h⟩
 |q::l,e,bY,aB,ndl,_,nde,hz=>by
  have de:bh=1000000:=rfl;rw[d8]at hz;rw[cU]at ndl;obtain⟨aM,bC⟩:=nq.mp ndl;have a7:=aB q<|dS ..;have SS:=Bg nde q.1<|-q.2;have fh:=RX e q.1<|-q.2;obtain⟨Fh,ad9,aea⟩:=SR Lf pt x0 n l (gA e q.1<|-q.2) (J (.int q.1,.ag)) (λq a7=>aB q<|am _ a7) bC (.inr SS) SS Z3;have aT:∀p∈l,c5 (gA e q.1<|-q.2) p.1=c5 e p.1:=λp aF=>by rw[SQ nde,Y3 λz=>aM<|by rw[<-z];exact kd (f:=(·.1)) aF];exact Int.add_zero _
  have g1:dv n [.bk<|ay t,.int q.1]=J (.int q.2,.ag):=by rw[Le Lf<|kd (f:=(·.1)) a7,kB Lf a7]
  have fk:ml n [.bk<|ay e,.int q.1,.int 0]=J (.int<|c5 e q.1,.ag):=by have h:=Av e q.1;have bN:ml n [.bk<|ay e,.int q.1,.int 0]=J ((iV (ay e)<|.inl q.1).getD (.int 0),.ag):=rfl;rw[bN,h]
  have st:qM (.bk<|ay e) (.int q.1) (.int<|c5 e q.1-q.2)=J (.bk<|ay<|gA e q.1<|-q.2):=by rw[Vi];show(if(ay e).H<bh then J (T.bk<|j5 (ay e) (.inl q.1)<|.int<|c5 e q.1-q.2) else C)=_;rw[Y2 (by unfold ay;rw[cP];lia),M9,RV]
  have g2:dv n [.bk<|ay<|gA e q.1<|-q.2,.int q.1]=J (.int<|c5 e q.1-q.2,.ag):=by show((iV (ay<|gA e q.1<|-q.2)<|.inl q.1).map λt=>(t,bo.ag))=_;rw[ak1 nde,M9];rfl
  by_cases c:c5 e q.1-q.2<0
  ·refine⟨Fh,λh=>?_,λ_=>?_⟩
   ·have:=h q<|dS ..;lia
   ·have one:rE [x0,J (.bk<|ay t,.ag),J (.bk<|ay e,.aE),J (.int q.1,.ag)] n=J (.aU .br Y1,[x0,J (.bk<|ay t,.ag),J (.bk<|ay<|gA e q.1<|-q.2,.aE),J (.int q.1,.ag)],n):=by unfold rE;generalize ay (gA e q.1<|-q.2)=ke' at*;generalize ay e=nK at*;generalize ay t=kt at*;simp![qo,fk,g1,ka,dY,st,g2,eE,c]
    refine⟨[x0,J (.bk<|ay t,.ag),J (.bk<|ay<|gA e q.1<|-q.2,.aE),J (.int q.1,.ag)],?_⟩;rw[cU];unfold fF;simp only[bj.bO.cB,kL,kM,eN];rw[one];rfl
  ·have one:rE [x0,J (.bk<|ay t,.ag),J (.bk<|ay e,.aE),J (.int q.1,.ag)] n=J (.bD,[x0,J (.bk<|ay t,.ag),J (.bk<|ay<|gA e q.1<|-q.2,.aE),J (.int q.1,.ag)],n):=by unfold rE;generalize ay (gA e q.1<|-q.2)=ke' at*;generalize ay e=nK at*;generalize ay t=kt at*;simp![qo,fk,g1,ka,dY,st,g2,eE,c]
   have turn:∀x,fF (cB 3) rE ((q::l).map λq=>T.int q.1) [x0,J (.bk<|ay t,.ag),J (.bk<|ay e,.aE),x] n=fF (cB 3) rE (l.map λq=>T.int q.1) [x0,J (.bk<|ay t,.ag),J (.bk<|ay<|gA e q.1<|-q.2,.aE),J (.int q.1,.ag)] n:=λx=>by rw[cU];show(Option.bind _ _)=_;simp only[bj.bO.cB,kL,kM,eN];rw[one];rfl
   refine⟨Fh,λh=>?_,λh=>?_⟩
   ·rw[turn,ad9 λp aF=>by rw[aT p aF];exact h p<|am _ aF];rfl
   ·rw[turn];refine aea λz=>h λp aF=>?_;rcases d3.mp aF with rfl|aF
    ·lia
    ·rw[<-aT p aF];exact z p aF
theorem fold_add:∀(l e:List Z6),(e.map (·.1)).Nodup->(l.map (·.1)).Nodup->(∀q∈l,q.1∈e.map (·.1))->l.foldl (λe q=>gA e q.1<|-q.2) e=e.map λp=>(p.1,p.2-c5 l p.1)
 |[],e,_,_,_=>by refine((mF (g:=id) λp _=>?_).trans (r8 _)).symm;show(p.1,p.2-0)=p;simp
 |q::l,e,bW,ndl,h=>by
  rw[cU]at ndl;obtain⟨aM,bC⟩:=nq.mp ndl;have aW:=h q<|dS ..;rw[mG,fold_add l _ (Bg bW _ _) bC (λp aF=>by rw[Ld aW];exact h p<|am _ aF),SO bW aW,ci];refine mF λp _=>?_;show(p.1,p.2+(if p.1=q.1 then-q.2 else 0)-c5 l p.1)=(p.1,p.2-c5 (q::l) p.1)
  rw[cnt_cons];by_cases e:p.1=q.1
  ·rw[Y2 e,Y2 e.symm,e,rJ aM];congr 1;exact Int.add_zero _
  ·rw[Y3 e,Y3 λz=>e z.symm];congr 1;lia
def rest(B:hv d)(nN:hv t)(aB:d.H+t.H<=100000)(b:Bool)(n:Nat) :
  (Fits d (c5 t)->vC [(.bk<|ay d,b),(.bk<|ay t,Y0)] n=J (.bk<|ay<|subs d<|c5 t,Y0,n)) /\
  (¬Fits d (c5 t)->vC [(.bk<|ay d,b),(.bk<|ay t,Y0)] n=J (.br,Y1,n)):=by
 have de:bh=1000000:=rfl;have fit:(∀q∈t,q.2<=c5 d q.1)↔Fits d (c5 t):=by
  constructor
  ·intro h k;by_cases z:k∈t.map (·.1)
   ·obtain⟨q,a7,rfl⟩:=ey.mp z;rw[kB nN.bW a7];exact h q a7
   ·rw[rJ z];exact B.nonneg k
  ·intro h q a7;rw[<-kB nN.bW a7];exact h q.1
 have m0:(if b then bo.ag else bo.cZ)=.ag\/(if b then bo.ag else bo.cZ)=.cZ:=by exists b<;>simp
 obtain⟨bY,af,ak⟩:=SR nN.bW nN.pos (J (.bk<|ay d,if b then bo.ag else bo.cZ)) n t d C (λ_ h=>h) nN.bW (.inl B) B.bW aB;have it:iI (ai 1) [J (.bk<|ay d,if b then bo.ag else bo.cZ),J (.bk<|ay t,.ag),J (.bk<|ay d,.aE),C] n=J (t.map λq=>T.int q.1,n):=by rw[<-K1];rfl
 have CK:xf n [.bk<|ay d]=J (.bk<|ay d,.aE):=rfl;constructor
 ·intro f;have e:=af<|fit.mpr f;rw[fold_add t d B.bW nN.bW λq a7=>B.mem<|jn (nN.pos q a7)<|fit.mpr f q a7]at e;have jd:fC 1 vB [J (.bk<|ay d,if b then bo.ag else bo.cZ),J (.bk<|ay t,.ag),J (.bk<|ay d,.aE),C] n=J (.bD,[J (.bk<|ay d,if b then bo.ag else bo.cZ),J (.bk<|ay t,.ag),J (.bk<|ay (d.map λp=>(p.1,p.2-c5 t p.1)),.aE),bY],n):=by rw[Vm (t:=.bk<|ay t) rfl];unfold vB iJ;rw[it];exact e
  have SU:((d.map λp=>(p.1,p.2-c5 t p.1)).map (·.1)).Nodup:=by rw[ci];exact B.bW
  have len:(d.map λp=>(p.1,p.2-c5 t p.1)).H=d.H:=cP ..;have cV:subs d (c5 t)=(d.map λp=>(p.1,p.2-c5 t p.1)).filter λp=>decide (0<p.2):=rfl;have SV:=(B.subs<|c5 t).bW;rw[cV]at SV |-;generalize (d.map λp=>(p.1,p.2-c5 t p.1))=bN at*;have hu:KU [J (.bk<|ay d,if b then bo.ag else bo.cZ),J (.bk<|ay t,.ag),J (.bk<|ay bN,.ag),bY] n=J (.ao<|e1 (bN.filter λp=>decide (0<p.2)),.aE,n):=by
   unfold e1;refine rC bN (λq=>T.int q.1) (λp=>decide (0<p.2)) (λp=>.aD [.int p.1,.int p.2]) ?_ Z3 λp aF=>?_
   ·rw[<-K1];rfl
   ·have g:=Le SU (kd (f:=(·.1)) aF) n;rw[kB SU aF]at g;generalize ay bN=nK at*;constructor
    ·simp![ck,g,rm,dY]
    ·intro _;have cE:2<=bh:=by decide
     simp![ck,g,cE]
  have c7:=UC SV (by have:=r3 (λp:Int×Int=>decide (0<p.2)) bN;lia) n;have fr:∀dd:bw,dN 2 dd [J (.bk<|ay d,if b then bo.ag else bo.cZ),J (.bk<|ay t,.ag),J (.bk<|ay bN,.aE),bY] n=dd [J (.bk<|ay d,if b then bo.ag else bo.cZ),J (.bk<|ay t,.ag),J (.bk<|ay bN,.ag),bY] n:=λ_=>rfl;unfold vC KV;generalize e1 (bN.filter λp=>decide (0<p.2))=pr at*;generalize ay (bN.filter λp=>decide (0<p.2))=dc at*;generalize ay bN=nK at*;generalize ay d=p2 at*;generalize ay t=kt at*;generalize fC 1 vB=LL at*;generalize KU=CC at*;generalize dN 2=FF at *
  exists b
  ·simp only[jm,if_false]at*;simp![CK,jd,fr,hu,c7]
  ·simp only[if_true]at*;simp![CK,jd,fr,hu,c7]
 ·intro f;obtain⟨S,e⟩:=ak λz=>f<|fit.mp z;have jd:fC 1 vB [J (.bk<|ay d,if b then bo.ag else bo.cZ),J (.bk<|ay t,.ag),J (.bk<|ay d,.aE),C] n=J (.aU .br Y1,S,n):=by rw[Vm (t:=.bk<|ay t) rfl];unfold vB iJ;rw[it];exact e
  unfold vC KV;generalize ay d=p2 at*;generalize ay t=kt at*;generalize fC 1 vB=LL at *
  exists b
  ·simp only[jm,if_false]at*;simp![CK,jd]
  ·simp only[if_true]at*;simp![CK,jd]
structure tN (L:List Z6):Prop where
 ne:L≠[]
 up:(L.map (·.1)).Pairwise (·<·)
 hI:∀q∈L,0<=q.1/\q.1<=120/\1<=q.2/\q.2<=4096
def tN.gr(h:tN L):hv L:=⟨h.up.imp λ{a b} e=>(yK e),λq a7=>(h.hI q a7).2.2.1⟩
def tN.len(h:tN L):L.H<=121:=by
 have:=Sq (a:=0) (b:=121) (p:=L.map (·.1)) (λx av=>by
  obtain⟨q,a7,rfl⟩:=ey.mp av;have:=h.hI q a7
  exact And.intro this.1<|ny this.2.1 Z0) h.gr.bW
 rw[cP]at this;exact this
def aeb{k v:Int}(af:0<=k)(ak:k<=120)(bc:1<=v)(cL:v<=4096)(n:Nat):vw [(.aD [.int k,.int v],Y0)] n=J (.aC Y0,Y1,n):=by have az:=xX k 0 120 n af ak;have au:=xX v 1 4096 n bc cL;have a6:gn n [.int 2,.int 2]=J (.aC Y1,.ag):=rfl;unfold vw EM;simp![dR,iE,g6,a6,my,gE,az,au]
theorem SW:∀{l:List Int},l.Pairwise (·<·)->hY l=l
 |[],_=>rfl
 |x::l,h=>by
  obtain⟨af,ak⟩:=jR.mp h;have a4:=SW ak;have e:hY (x::l)=if x∈hY l then hY l else x::hY l:=rfl
  rw[e,a4,Y3 λz=>by have:=af x z;omega]
def aec(h:tN L)(b:Bool)(n:Nat):lq [(.ao<|e1 L,b)] n=J (.br,Y1,n):=by
 have de:bh=1000000:=rfl;have aB:=h.len;have rows:∀m:bo,EN [J (.ao<|e1 L,m),C] n=J (.ao (L.map λ_=>.aC Y0),.aE,n):=by
  intro m;refine ij L (λp=>.aD [.int p.1,.int p.2]) (λ_=>.aC Y0) ?_ (by omega) λq a7=>?_
  ·unfold fJ
   exists m<;>rfl
  ·obtain⟨a,b,c,d⟩:=h.hI q a7;have e:=aeb a b c d n;simp![ck,e]
 have heads:∀m:bo,AZ [J (.ao<|e1 L,m),C] n=J (.ao<|(L.map (·.1)).map T.int,.aE,n):=by
  intro m;rw[ci];refine ij L (λp=>.aD [.int p.1,.int p.2]) (T.int∘(·.1)) ?_ (by omega) λq a7=>?_
  ·unfold fJ
   exists m<;>rfl
  ·simp![ck,my,gE]
 have all:ji n [.ao (L.map λ_=>.aC Y0)]=J (.aC Y0,.ag):=by
  have e:(L.map λ_=>T.aC Y0)=(L.map λ_=>Y0).map T.aC:=by rw[ci];rfl
  have bools:∀l:List Bool,hP (l.map T.aC)=J l:=by
   intro l
   induction l with
   |nil=>rfl
   |cons b l a4=>rw[cU];unfold hP;rw[a4];rfl
  rw[xS,e,bools];simp
 have lQ:DF n [.ao<|(L.map (·.1)).map T.int]=J (.ao<|(L.map (·.1)).map T.int,.aE):=by
  show(rp n [.ao<|(L.map (·.1)).map T.int]).map _=_;have e:rp n [.ao<|(L.map (·.1)).map T.int]=(e2<|(L.map (·.1)).map T.int).bind λns=>if ns.H+1<4096 then J ns else C:=rfl
  rw[e,n4,eN,Y2 (by rw[cP];exact Nat.succ_lt_succ<|gS aB Z0),kh,SW h.up];have es:sortI (L.map (·.1))=L.map (·.1):=(zW (.refl _) (h.up.imp λ{a b} z=>(kO z))).symm;rw[es]
 have eq:gk n [.ao<|(L.map (·.1)).map T.int,.ao<|(L.map (·.1)).map T.int]=J (.aC Y0,.ag):=by rw[xQ,AW<|by show((L.map (·.1)).map T.int).all (dZ 5)=Y0;exact Kk 5 _];rfl
 have ne:(e1 L).isEmpty=Y1:=by
  have:=h.ne;cases L with
  |nil=>exact absurd rfl this
  |cons q L=>rfl
 have it:kA [(.ao<|e1 L,b)] n=J (.aC Y0,Y1,n):=by
  unfold kA Kv;have r:=rows (if b then .ag else .cZ);have hd:=heads (if b then .ag else .cZ);generalize (L.map λ_=>T.aC Y0)=kq at*;generalize (L.map (·.1)).map T.int=bp at*;generalize e1 L=cQ at*;generalize EN=C0 at*;generalize AZ=HU at *
  exists b
  ·simp only[jm,if_false]at r hd;simp![dR,jK,ne,dN,r,all,hd,lQ,eq]
  ·simp only[if_true]at r hd;simp![dR,jK,ne,dN,r,all,hd,lQ,eq]
 unfold lq Kz;generalize e1 L=cQ at *
 exists b<;>simp![it]
def Mm:Option ZA->T
 |none=>.br
 |some l=>aG l
def aed(af:1<=aL.H)(n:Nat):dv n [aG aL,.int 0]=J (.int<|aL.headD 0,.ag)/\uY n [aG aL,.int<|aL.headD 0]=J (.int (gF aL:Int),.ag):=by
 constructor
 ·cases aL with
  |nil=>simp at af
  |cons x r=>unfold aG;rw[my,vH T.int _ 0 Z0 Z7];rfl
 ·unfold aG;rw[UA,n4,kh,<-BJ];rfl
def amK(d:List Z6):tR (ay d)=J (d.map (·.1)):=by
 induction d with
 |nil=>rfl
 |cons p d a4 =>
  show((tR<|ay d).map (p.1::·))=_;rw[a4];rfl
def ak2(h:d≠[])(n:Nat):vV n [.bk<|ay d]=J (.int<|low d,.ag):=by show((tR<|ay d).bind λns=>(least ns).map λi=>(T.int i,bo.ag))=_;rw[amK,eN,(Bf h).1];rfl
def amL(x:Int)(q:Nat):(List.replicate q [T.int x]).flatten=(List.replicate q x).map T.int:=by
 induction q with
 |zero=>rfl
 |succ q a4=>rw[ov,tU,a4,ov];rfl
theorem SX(x:Int)(b:List Int)(k:Int):∀q:Nat,(tD (List.replicate q x) b).countP (λy=>y==k)=q*b.countP λy=>y==k-x
 |0=>by simp[tD]
 |q+1=>by have a4:=SX x b k q;unfold tD at a4 |-;rw[ov,nk,GO,a4,List.countP_map,sd,yE];congr 1;refine MM λy _=>?_;show(x+y==k)=Y0↔(y==k-x)=Y0;rw[beq_iff_eq,beq_iff_eq];omega
def aee{F:Nat}(D:j9 F aL)(cx:F<=8)(B:hv d)(hd:d≠[])(ei:d.H<=121)(bS:∀q∈d,q.2<=4096)(AM:(cm.H:Int)+h3 d<=600000)(M:nh aL d r)
  (x0 ct fX eJ e9:Option ZJ) (n:Nat) :
  (∃q b5,1<=q/\Fits d (d2 aL ZF q)/\r=b5.map (List.replicate q ZF++·)/\nh aL (subs d<|d2 aL ZF q) b5/\(q:Int)<=h3 d/\h3 (subs d<|d2 aL ZF q)+q<=h3 d /\
   ∃p5 uq H2 y4,m9 Zb n=J (.bD,[x0,J (aG aL,.ag),J (.bk<|ay<|subs d<|d2 aL ZF q,.aE),J (.ao<|(cm++List.replicate q ZF).map .int,.aE),p5,uq,H2,y4],n)) \/
  (r=C/\∃S,m9 Zb n=J (.aU .br Y1,S,n)):=by
 have de:bh=1000000:=rfl;have af:=D.one;have hm:=D.most;have fp:=Fd af;have f8:gF aL<=8:=bP GI<|bP hm cx;obtain⟨fk,g1⟩:=aed af n;have az:=ak2 hd n;obtain⟨_,lm,_⟩:=Bf hd;have au:=Le B.bW lm n;have WQ:=B.Gz lm;have NI:c5 d (low d)<=4096:=by obtain⟨p,aF,e⟩:=ey.mp lm;rw[<-e,kB B.bW aF];exact bS p aF
 obtain⟨q,a7⟩:∃q:Nat,c5 d (low d) / (gF aL:Int)=(q:Int):=⟨(c5 d (low d) / (gF aL:Int)).M,by have:0<=c5 d (low d) / (gF aL:Int):=Int.ediv_nonneg (kO WQ)<|iq _;omega⟩
 have n1:(q:Int)*(gF aL:Int)<=c5 d (low d):=by rw[<-a7];exact Int.ediv_mul_le _ (by omega)
 have vg:(q:Int)<=4096:=by have:(q:Int)*1<=(q:Int)*(gF aL:Int):=M8 (by omega)<|iq _;omega
 have a6:FZ n [.int<|c5 d<|low d,.int (gF aL:Int)]=J (.int (q:Int),.ag):=by show(if(decide (0<(gF aL:Int))&&decide ((gF aL:Int).natAbs<1073741824))=Y0 then J (T.int<|c5 d (low d) / (gF aL:Int),bo.ag) else C)=_;rw[a7,Y2<|by simp;omega]
 have Gn:low d-aL.headD 0=dk aL d:=rfl;by_cases b6:dk aL d<0
 ·refine .inr ⟨SI hd M<|.inl b6,[x0,J (aG aL,.ag),J (.bk<|ay d,.aE),J (.ao<|cm.map .int,.aE),J (.int<|low d,.ag),J (.int ZF,.ag),J (.int (q:Int),.ag),e9],?_⟩;rw[<-Gn]at b6 |-;unfold m9;generalize ay d=p2 at*;generalize low d=lo at*;generalize aL.headD 0=eP at*;generalize aG aL=oP at*;generalize c5 d lo=w0 at*;generalize (gF aL:Int)=fi at*;simp![az,fk,ka,dY,au,g1,a6,eE,b6]
 ·by_cases dA:q=0
  ·subst dA;refine .inr ⟨SI hd M<|.inr ?_,[x0,J (aG aL,.ag),J (.bk<|ay d,.aE),J (.ao<|cm.map .int,.aE),J (.int<|low d,.ag),J (.int ZF,.ag),J (.int ((0:Nat):Int),.ag),e9],?_⟩
   ·have:=Int.lt_ediv_add_one_mul_self (c5 d<|low d) (b:=(gF aL:Int)) (by omega);rw[a7]at this;simpa using this
   ·rw[<-Gn]at b6 |-;unfold m9;generalize ay d=p2 at*;generalize low d=lo at*;generalize aL.headD 0=eP at*;generalize aG aL=oP at*;generalize c5 d lo=w0 at*;generalize (gF aL:Int)=fi at*;simp![az,fk,ka,dY,au,g1,a6,eE,b6,n5]
  ·have aX:1<=q:=(kf dA)
   have SY:((q:Int)==0)=Y1:=by simp;exact dA
   have dl:([List.replicate q ZF,aL].map List.H)=[q,aL.H]:=by simp
   have WR:Mk [q,aL.H]<=100000:=by show q*(aL.H*1)<=100000;have:=wj (show q<=4096 by omega) (show aL.H*1<=8 from(yB (bP hm cx)<|gG _));omega
   obtain⟨t,nN,dQ⟩:=amJ (ds:=[List.replicate q ZF,aL]) (λx av=>by
    simp only[d3,qQ,or_false]at av;rcases av with rfl|rfl
    ·rw[ou];exact aX
    ·exact af) (by rw[dl];exact WR) n
   have nH:∀k,c5 t k=d2 aL ZF q k:=λk=>by rw[nN.c5 k,Sh,Sg];show(((tD (List.replicate q ZF) aL).countP λx=>x==k:Nat):Int)=_;rw[SX];unfold d2;rw[Hd]
   have aef:c5 t=d2 aL ZF q:=funext nH;have tb:hv t:=⟨nN.bW,nN.pos⟩
   have hV:t.H<=32768:=by refine bP nN.L5 ?_;rw[Sh,Sg];show(tD (List.replicate q ZF) aL).H<=_;rw[Sj,ou];exact bP (wj (show q<=4096 by omega) (show aL.H<=8 from(bP hm cx))) Z0
   obtain⟨Ta,Tb⟩:=rest B tb (by omega) Y1 n;rw[aef]at Ta Tb;have hmul:kE n [.aD [.int ZF],.int (q:Int)]=J (aG<|List.replicate q ZF,.ag):=by show(if[T.int ZF].H<=1000 /\ -1000<=(q:Int)/\(q:Int)<=10000/\[T.int ZF].H*(q:Int).M<=bh then J (T.aD (List.replicate (q:Int).M [T.int ZF]).flatten,bo.ag) else C)=_;rw[Y2 ⟨by simp,(iq _),(jn vg Z0),by rw[pK,t9];omega⟩,t9,amL];rfl
   have cE:2<=bh:=by decide
   have cq:1<=bh:=by decide
   have dQ:n6 [(.aD [aG<|List.replicate q ZF,aG aL],Y0)] n=J (.bk<|ay t,Y0,n):=dQ;by_cases uN:Fits d<|d2 aL ZF q
   ·obtain⟨b5,hG,H3⟩:=K9 af B hd (Hf.mp b6) M q n1 uN;have aeg:h3 (subs d<|d2 aL ZF q)+q<=h3 d:=by have e:=Lc (tE aL ZF q)<|SJ B uN;obtain⟨p,aF,rB⟩:=ey.mp lm;have:=Ff (l:=d.map λeM=>d2 aL ZF q eM.1) (λx av=>by obtain⟨eM,_,rfl⟩:=ey.mp av;exact tE ..)<|kd (f:=λeM:Int×Int=>d2 aL ZF q eM.1) aF;rw[rB,Fe]at this;have:(q:Int)*1<=(q:Int)*(gF aL:Int):=M8 (by omega)<|iq _;omega
    have aQ:=SK<|B.subs<|d2 aL ZF q;refine .inl ⟨q,b5,aX,uN,hG,H3,by omega,aeg,J (.int<|low d,.ag),J (.int ZF,.ag),J (.int (q:Int),.ag),J (aG<|List.replicate q ZF,.ag),?_⟩;have rs:=Ta uN;have ex:jO (.ao<|cm.map .int) (aG<|List.replicate q ZF)=J (.ao<|(cm++List.replicate q ZF).map .int):=by unfold aG;show(if(cm.map T.int).H+((List.replicate q ZF).map T.int).H<=bh then J (T.ao<|cm.map T.int++(List.replicate q ZF).map T.int) else C)=_;rw[Y2 (by rw[cP,cP,ou];omega),lA]
    have qd:hn (aG<|List.replicate q ZF)=Y1:=rfl;rw[<-Gn]at b6 hmul dQ ex rs qd |-;unfold m9;generalize ay (subs d<|d2 aL (low d-aL.headD 0) q)=dc at*;generalize (cm++List.replicate q (low d-aL.headD 0)).map T.int=mP at*;generalize aG (List.replicate q<|low d-aL.headD 0)=aA at*;generalize ay d=p2 at*;generalize ay t=kt at*;generalize cm.map T.int=fi' at*;generalize low d=lo at*;generalize aL.headD 0=eP at*;generalize aG aL=oP at*;generalize c5 d lo=w0 at*;generalize (gF aL:Int)=fi at*;generalize kE=gm at*;simp![jh,az,fk,ka,dY,au,g1,a6,eE,b6,n5,SY,hmul,cq,cE,dQ,rs,od,nS,hM,ex,qd]
   ·have rs:=Tb uN;refine .inr ⟨ad8 af B hd (Hf.mp b6) M n1 uN,[x0,J (aG aL,.ag),J (.br,.ag),J (.ao<|cm.map .int,.aE),J (.int<|low d,.ag),J (.int ZF,.ag),J (.int (q:Int),.ag),J (aG<|List.replicate q ZF,.ag)],?_⟩;have qd:hn (aG<|List.replicate q ZF)=Y1:=rfl;rw[<-Gn]at b6 hmul dQ qd |-;unfold m9;generalize aG (List.replicate q<|low d-aL.headD 0)=aA at*;generalize ay d=p2 at*;generalize ay t=kt at*;generalize cm.map T.int=fi' at*;generalize low d=lo at*;generalize aL.headD 0=eP at*;generalize aG aL=oP at*;generalize c5 d lo=w0 at*;generalize (gF aL:Int)=fi at*;generalize kE=gm at*;simp![jh,az,fk,ka,dY,au,g1,a6,eE,b6,n5,SY,hmul,cq,cE,dQ,rs,od,nS,qd]
def amM(d:List Z6)(g:Int->Int):(subs d g).H<=d.H:=by unfold subs;have:=r3 (λp:Int×Int=>decide (0<p.2)) (d.map λp=>(p.1,p.2-g p.1));rw[cP]at this;exact this
def aeh{g:Int->Int}(bT:∀k,0<=g k){c:Int}(h:∀q∈d,q.2<=c):∀q∈subs d g,q.2<=c:=λq a7=>by obtain⟨af,_⟩:=lz.mp a7;obtain⟨p,aF,rfl⟩:=ey.mp af;have:=h p aF;have:=bT p.1;show p.2-g p.1<=c;omega
def aei{F:Nat}(D:j9 F aL)(cx:F<=8)(x0:Option ZJ)(n:Nat):∀(N W:Nat) (d:List Z6) (cm:List Int) (r:Option ZA) (ct fX eJ e9:Option ZJ),h3 d<=N->N<W->hv d->d.H<=121->(∀q∈d,q.2<=4096)->(cm.H:Int)+h3 d<=600000->nh aL d r ->
  (∀l,r=J l->∃S,iU (bK<|ai 2) m9 W Zb n=J (.bD,S,n)/\S[3]?=J (J (.ao<|(cm++l).map .int,.aE))) /\
  (r=C->∃S,iU (bK<|ai 2) m9 W Zb n=J (.aU .br Y1,S,n)):=by
 intro N
 induction N with
 |zero =>
  intro W d cm r ct fX eJ e9 cA jA B aB bS AM M;obtain⟨V,rfl⟩:∃V,W=V+1:=⟨W-1,by omega⟩
  have hd:d=[]:=by
   cases hd:d with
   |nil=>rfl
   |cons p hq =>
    exfalso;have:=Ff (l:=d.map (·.2)) (λx av=>by obtain⟨q,a7,rfl⟩:=ey.mp av;have:=B.pos q a7;exact kO this)<|kd (f:=(·.2)) (show p∈d by rw[hd];exact dS ..);have:=B.pos p (by rw[hd];exact dS ..);unfold h3 at cA;omega
  subst hd;cases M with
  |nil=>exact⟨λl e=>⟨_,rfl,by exists e;simp⟩,λe=>by exists e⟩
  |bad h _=>exact absurd rfl h
  |good h _ _=>exact absurd rfl h
 |succ N a4 =>
  intro W d cm r ct fX eJ e9 cA jA B aB bS AM M;obtain⟨V,rfl⟩:∃V,W=V+1:=⟨W-1,by omega⟩
  by_cases hd:d=[]
  ·subst hd;cases M with
   |nil=>exact⟨λl e=>⟨_,rfl,by exists e;simp⟩,λe=>by exists e⟩
   |bad h _=>exact absurd rfl h
   |good h _ _=>exact absurd rfl h
  ·have p1:bK (ai 2) Zb n=J (Y0,n):=by
    have:(ay d).isEmpty=Y1:=by
     cases d with
     |nil=>exact absurd rfl hd
     |cons p d=>rfl
    generalize ay d=p2 at*;simp![this]
   have Tc:∀x,m9 Zb n=x->iU (bK<|ai 2) m9 (V+1) Zb n=x.bind λr=>match r.1 with
     |.bD=>iU (bK<|ai 2) m9 V r.2.1 r.2.2
     |.eD=>iU (bK<|ai 2) m9 V r.2.1 r.2.2
     |.gr=>J (.bD,r.2.1,r.2.2)
     |.aU t m=>J (.aU t m,r.2.1,r.2.2):=λx av=>by
    show(bK (ai 2) _ n).bind _=_;rw[p1];show(m9 _ n).bind _=_;rw[av]
    try rfl
   rcases aee D cx B hd aB bS AM M x0 ct fX eJ e9 n with⟨q,b5,aX,uN,hG,H3,anF,hV,p5,uq,H2,y4,e⟩|⟨aV,S,e⟩
   ·obtain⟨ja,mg⟩:=a4 V _ (cm++List.replicate q ZF) b5 p5 uq H2 y4 (by omega) (kg jA) (B.subs<|d2 aL ZF q) (bP (amM ..) aB) (aeh (tE aL ZF q) bS) (by rw[gq,ou];omega) H3;rw[Tc _ e];refine⟨λl m3=>?_,λaV=>?_⟩
    ·cases b5 with
     |none=>rw[hG]at m3;exists m3
     |some y6 =>
      rw[hG]at m3
      exists m3
      obtain⟨S,a,b⟩:=ja y6 rfl;exact⟨S,a,by rw[b,h6]⟩
    ·cases b5 with
     |none=>exact mg rfl
     |some y6=>rw[hG]at aV;exists aV
   ·rw[Tc _ e];exact⟨λl m3=>(by rw[aV]at m3;exists m3),λ_=>⟨S,rfl⟩⟩
def ie(ds:List ZA)(k:Int):Int:=(((jP ds).countP λx=>x==k:Nat):Int)
def lu(as bs:List ZA):List Int:=((List.range 121).map λ(k:Nat)=>(k:Int)).filter λt=>!(ie as t==ie bs t)
def v3:Option Int->T
 |none=>.br
 |some i=>.int i
def Vq{t:Int}(h:ie ds t≠0):t∈jP ds:=by
 unfold ie at h;have h:(jP ds).countP (λx=>x==t)≠0:=by omega
 rw[Ne,GL]at h;simp only[Classical.not_forall,Classical.not_not]at h;obtain⟨x,av,e⟩:=h;have:x=t:=by simpa using e
 exact this▸av
def aej{r:List Int}(up:r.Pairwise (·<·))(h:∀x,x∈l↔x∈r):qz C l=r.head?:=by
 cases r with
 |nil =>
  cases l with
  |nil=>rfl
  |cons x l=>exact absurd ((h x).mp (dS ..)) Z7
 |cons y r =>
  have aK:=(h y).mpr (dS ..);have aB:l≠[]:=by rintro rfl;exists aK
  obtain⟨x,e,av,hm⟩:=SF aB;rw[acL e];have af:=(h x).mp av;have ak:=hm y aK;rcases d3.mp af with rfl|af
  ·rfl
  ·have:=List.rel_of_pairwise_cons up af;omega
def amN(m:Nat):((List.range m).map λ(k:Nat)=>(k:Int)).Pairwise (·<·):=by rw[yv];exact Mw.imp λh=>by omega
def parted{M F N G:Nat}(ba:ip M F as)(aq:ip N G bs)(eh:M<=4)(cx:F<=8)(dJ:N<=4)(iP:G<=8)(n:Nat) :
  vy [(.aD<|as.map aG,Y0),(.aD<|bs.map aG,Y0)] n=J (v3 (lu as bs).head?,Y1,n):=by
 have de:bh=1000000:=rfl;obtain⟨d7,uM,az⟩:=Sf ba eh cx n;obtain⟨fy,zm,au⟩:=Sf aq dJ iP n;have aM:=pq ba eh cx n;have bC:=pq aq dJ iP n;have cN:=uM.L5;have dD:=zm.L5;have fb:(jP as).H<=4096:=by have:=R9 ba eh cx;rw[Sb];exact this
 have lH:(jP bs).H<=4096:=by have:=R9 aq dJ iP;rw[Sb];exact this
 have aW:∀d:List Z6,((ay d).map λc9=>iH c9.1)=(d.map (·.1)).map T.int:=λd=>by rw[K1,ci];rfl
 have hu:∀x0 bH,Rk [x0,bH,J (.bk<|ay d7,.aE),J (.bk<|ay fy,.aE),J (.ao<|(d7.map (·.1)++fy.map (·.1)).map .int,.aE)] n=J (.ao<|((d7.map (·.1)++fy.map (·.1)).filter λt=>!(ie as t==ie bs t)).map .int,.aE,n):=λx0 bH=>by
  refine rC (d7.map (·.1)++fy.map (·.1)) T.int (λt=>!(ie as t==ie bs t)) T.int rfl (by simp;omega) λx av=>?_;have g1:=T8 uM x n;have g2:=T8 zm x n;have q:∀i j:Int,gn n [.int i,.int j]=J (.aC<|!(i==j),.ag):=λ_ _=>rfl;have b6:(((jP as).countP λy=>y==x:Nat):Int)=ie as x:=rfl;have dA:(((jP bs).countP λy=>y==x:Nat):Int)=ie bs x:=rfl;rw[b6]at g1;rw[dA]at g2;generalize ay d7=k1 at*;generalize ay fy=k2 at*;generalize ie as x=v1 at*;generalize ie bs x=v2 at*;constructor
  ·simp![ck,g1,g2,q]
  ·intro _;simp![ck]
 have fh:nT n [.bk<|ay d7]=J (.ao<|(d7.map (·.1)).map .int,.aE):=by rw[<-aW];rfl
 have fE:nT n [.bk<|ay fy]=J (.ao<|(fy.map (·.1)).map .int,.aE):=by rw[<-aW];rfl
 have zz:(d7.map (·.1)).H+(fy.map (·.1)).H<=bh:=by simp;omega
 have pa:ej n [.ao<|(d7.map (·.1)).map .int,.ao<|(fy.map (·.1)).map .int]=J (.ao<|(d7.map (·.1)++fy.map (·.1)).map .int,.aE):=by rw[EI,Y2 (by rw[cP,cP (f:=T.int)];exact zz),lA]
 have keys:∀{d:List Z6} {ds:List ZA},k6 d (jP ds)->∀x,x∈d.map (·.1)↔x∈jP ds:=λ{d ds} B x=>⟨λh=>by
   obtain⟨q,a7,rfl⟩:=ey.mp h;exact B.key a7,λh=>by
   obtain⟨v,bS⟩:=B.has h;exact ey.mpr ⟨_,bS,rfl⟩⟩
 have WS:Mf n [.ao<|((d7.map (·.1)++fy.map (·.1)).filter λt=>!(ie as t==ie bs t)).map .int]=J (v3 (lu as bs).head?,.ag):=by
  have mP:=aej (l:=(d7.map (·.1)++fy.map (·.1)).filter λt=>!(ie as t==ie bs t)) (r:=lu as bs) ((amN 121).filter _) λx=>by
   unfold lu;rw[lz,lz,hQ,keys uM,keys zm];refine⟨λ⟨af,ak⟩=>⟨?_,ak⟩,λ⟨af,ak⟩=>⟨?_,ak⟩⟩
   ·have:0<=x/\x<=120:=by
     rcases af with af|af
     ·exact Se ba eh cx x af
     ·exact Se aq dJ iP x af
    exact ey.mpr ⟨x.M,nr.mpr (by omega),(Int.toNat_of_nonneg this.1)⟩
   ·by_cases z:ie as x=0
    ·by_cases kR:ie bs x=0
     ·rw[z,kR]at ak;simp at ak
     ·exact .inr<|Vq kR
    ·exact .inl<|Vq z
  show(e2 _).map _=_;rw[n4,kh,mP];cases (lu as bs).head?<;>rfl
 generalize v3 (lu as bs).head?=out at*;generalize (((d7.map (·.1)++fy.map (·.1)).filter λt=>!(ie as t==ie bs t)).map T.int)=bG at*;generalize (d7.map (·.1)++fy.map (·.1)).map T.int=Nv at*;generalize (d7.map (·.1)).map T.int=k3 at*;generalize (fy.map (·.1)).map T.int=zg at*;generalize ay d7=k1 at*;generalize ay fy=k2 at*;generalize as.map aG=ta at*;generalize bs.map aG=tb at*;unfold vy Rl;simp![aM,bC,az,au,fh,fE,pa,dN,hu,WS]
def aek{M F N G:Nat}(ba:ip M F as)(aq:ip N G bs)(eh:M<=4)(cx:F<=8)(dJ:N<=4)(iP:G<=8)(n:Nat) :
  xU [(.aD<|as.map aG,Y0),(.aD<|bs.map aG,Y0)] n=J (.aC (lu as bs).isEmpty,Y1,n):=by
 have p:=parted ba aq eh cx dJ iP n;have q:od n [v3 (lu as bs).head?]=J (.aC (lu as bs).isEmpty,.ag):=by cases lu as bs<;>rfl
 generalize (lu as bs).isEmpty=e at*;generalize v3 (lu as bs).head?=out at*;generalize as.map aG=ta at*;generalize bs.map aG=tb at*;unfold xU Rm;simp![p,q]
end jc
namespace vI
open PySem bj bj.bO
def amO:dm:=(dy (d0 4 bQ.E0<|ax (ai 0)<|ax (ai 1)<|ax (aw<|.int 3)<|ax (ai 2) a9) (eS<|bB 4 bQ.KS<|ax (ai 0)<|ax (ai 1)<|ax (aw<|.int 3)<|ax (ai 2) a9) fQ)
def Fi:e7:=fnX 5 amO
def Fj:bM:=er (fJ<|ai 0) (ck [C,J 0]) (cB 0) yes<|aH z1 ZE
def Fl:bw:=(dN 0<|cT<|aH xk<|aa (aw<|.str ",")<|aa Fj ar)
def vJ:cY:=c0 1<|Fl
def Fm:bM:=er (fJ<|ai 0) (ck [C,J 0]) (cB 0) yes<|bB 1 vJ Z8
def Fn:bw:=(bL (eS<|bB 1 bQ.g7 Z8)<|dN 0<|cT<|aH xk<|aa (aw<|.str " ")<|aa Fm ar)
def rK:cY:=c0 1<|Fn
def ak3:dm:=(dy (d0 1 bQ.h2 Z8) (eS<|bB 1 bQ.g7 Z8) fQ)
def Bh:e7:=fnX 1 ak3
def km:bw:=eF (bK<|aH eE<|aa (ai 0)<|aa (aw<|.int 5) ar) (cT<|yd (ai 0) [(1,bQ.rD),(1,bQ.vx),(1,bQ.vz),(1,bQ.vA),(1,rK)] ZP) e6
def w3:dm:=fG (bK<|aH eE<|aa (ai 0)<|aa (aw<|.int 5) ar) (F1 (ai 0) [(1,bQ.A1),(1,bQ.A2),(1,bQ.A5),(1,bQ.A6),(1,Bh)] ZP) fQ
def bt:bw:=eF (bK<|aH eE<|aa (ai 0)<|aa (aw<|.int 9) ar) (cT<|s6 (bK<|aH eE<|aa (ai 0)<|aa (aw<|.int 7) ar) (aH dv<|aa (dF<|aa (aY<|bB 2 bQ.xU<|ax (ai 1)<|ax (cw<|aa (aY<|cw<|aa (aY Z5) ar) ar) a9)<|aa (aY<|bB 2 bQ.vy<|ax (cw<|aa (aY<|cw<|aa (aY Z5) ar) ar) ZP) ar)<|aa (aH ka<|aa (ai 0)<|aa (aw<|.int 5) ar) ar)<|bB 2 bQ.EU<|ax (ai 1)<|ax (aw .br) a9) e6
def nO:dm:=fG (bK<|aH eE<|aa (ai 0)<|aa (aw<|.int 9) ar) (fG (bK<|aH eE<|aa (ai 0)<|aa (aw<|.int 7) ar) (d0 2 bQ.ER<|ax (ai 1)<|ax (cw<|aa (aY<|cw<|aa (aY Z5) ar) ar) a9)<|d0 2 bQ.KP<|ax (ai 1)<|ax (aw .br) a9) fQ
def dj:bw:=cT<|s6 (bK<|aH gk<|aa (ai 0)<|aa (aw<|.int 9) ar) (bB 2 (c0 2 jf)<|ax (ai 1)<|ax (ai 2) a9)<|bB 2 (c0 2 jf)<|ax (ai 1)<|ax (ai 2) a9
def uO:dm:=fG (bK<|aH gk<|aa (ai 0)<|aa (aw<|.int 9) ar) (d0 2 bQ.EO<|ax (ai 1)<|ax (ai 2) a9)<|d0 2 bQ.EY<|ax (ai 1)<|ax (ai 2) a9
def ael:bw:=(bL km<|bL bt dj)
def x1:cY:=c0 3<|ael
def aem:dm:=(dy w3 km<|dy nO bt uO)
def rL:e7:=fnX 3 aem
def pw:bw:=eF (bK<|aH eE<|aa (ai 0)<|aa (aw<|.int 4) ar) (cT<|s6 (bK<|aH eE<|aa (ai 0)<|aa ZC ar) (yd (aH oc<|aa (ai 0)<|aa ZC ar) [(2,bQ.m7),(2,bQ.qD)]<|ax (ai 1)<|ax (cw ZK) a9)<|yd (aH oc<|aa (ai 0)<|aa ZC ar) [(2,bQ.m7),(2,bQ.qD)]<|ax (cw ZK) ZP) e6
def n8:dm:=fG (bK<|aH eE<|aa (ai 0)<|aa (aw<|.int 4) ar) (fG (bK<|aH eE<|aa (ai 0)<|aa ZC ar) (F1 (aH oc<|aa (ai 0)<|aa ZC ar) [(2,bQ.m8),(2,bQ.tu)]<|ax (ai 1)<|ax (cw ZK) a9)<|F1 (aH oc<|aa (ai 0)<|aa ZC ar) [(2,bQ.m8),(2,bQ.tu)]<|ax (cw ZK) ZP) fQ
def Td:bw:=cT<|s6 (bK<|aH gk<|aa (ai 0)<|aa (aw<|.int 4) ar) (bB 3 (c0 5 jf)<|ax (ai 1)<|ax (cw ZK)<|ax (ai 2) a9)<|bB 3 (c0 5 jf)<|ax (cw ZK)<|ax (ai 1)<|ax (ai 2) a9
def vK:dm:=fG (bK<|aH gk<|aa (ai 0)<|aa (aw<|.int 4) ar) (d0 3 bQ.vD<|ax (ai 1)<|ax (cw ZK)<|ax (ai 2) a9)<|d0 3 bQ.vD<|ax (cw ZK)<|ax (ai 1)<|ax (ai 2) a9
def aen:bw:=(bL pw Td)
def Bi:cY:=c0 3<|aen
def aeo:dm:=(dy n8 pw vK)
def tF:e7:=fnX 3 aeo
def qG:bw:=eF (bK<|aH gk<|aa (ai 0)<|aa ZC ar) (cT<|bB 2 bQ.A8<|ax (ai 1)<|ax (ai 2) a9) e6
def vL:dm:=fG (bK<|aH gk<|aa (ai 0)<|aa ZC ar) (d0 2 bQ.A9<|ax (ai 1)<|ax (ai 2) a9) fQ
def Te:bw:=cT<|s6 (bK<|aH gk<|aa (ai 0)<|aa ZD ar) (bB 3 (c0 3 jf)<|ax (ai 1)<|ax (ai 2)<|ax (ai 3) a9)<|bB 3 (c0 5 jf)<|ax (ai 1)<|ax (ai 2)<|ax (ai 3) a9
def x2:dm:=fG (bK<|aH gk<|aa (ai 0)<|aa ZD ar) (d0 3 bQ.E1<|ax (ai 1)<|ax (ai 2)<|ax (ai 3) a9)<|d0 3 Fi<|ax (ai 1)<|ax (ai 2)<|ax (ai 3) a9
def aep:bw:=(bL qG Te)
def Fo:cY:=c0 4<|aep
def aeq:dm:=(dy vL qG x2)
def tG:e7:=fnX 4 aeq
def qH:bw:=eF (bK<|aH gk<|aa (ai 0)<|aa ZD ar) (cT<|cw<|aa (aY<|aw<|.str "told")<|aa (aY<|aH od<|aa (bB 3 x1<|ax (ai 1)<|ax (ai 2)<|ax (ai 3) a9) ar) ar) e6
def vM:dm:=fG (bK<|aH gk<|aa (ai 0)<|aa ZD ar) (d0 3 rL<|ax (ai 1)<|ax (ai 2)<|ax (ai 3) a9) fQ
def vN:bw:=eF (bK<|aH gk<|aa (ai 0)<|aa Z5 ar) (cT<|cw<|aa (aY<|aw<|.str "told")<|aa (aY<|aH od<|aa (bB 3 Bi<|ax (ai 1)<|ax (ai 2)<|ax (ai 3) a9) ar) ar) e6
def Bj:dm:=fG (bK<|aH gk<|aa (ai 0)<|aa Z5 ar) (d0 3 tF<|ax (ai 1)<|ax (ai 2)<|ax (ai 3) a9) fQ
def Lg:bw:=cT<|cw<|aa (aY<|aw<|.str "told")<|aa (aY<|aH od<|aa (bB 4 Fo<|ax (ai 1)<|ax (ai 2)<|ax (ai 3)<|ax (ai 4) a9) ar) ar
def Lh:dm:=d0 4 tG<|ax (ai 1)<|ax (ai 2)<|ax (ai 3)<|ax (ai 4) a9
def BB:bw:=(bL qH<|bL vN Lg)
def L6:dm:=(dy vM qH<|dy Bj vN Lh)
def vO:bw:=zZ [0,1,2,3,4] BB L6 bQ.RQ
def gP:cY:=c0 6<|vO
def Tf:bw:=(cT<|rl (aH (dR .int) ZE)<|rl (xd<|bK<|aH (dR .bool) ZE)<|gw fK fK (ai 1) (ai 0)<|ai 2)
def x3:cY:=c0 3<|Tf
def Tg:bM:=er (fJ<|ai 0) (ck [C,J 0]) (cB 0) yes<|bB 3 x3<|ax (ai 0)<|ax ZD<|ax (aw<|.int 30) a9
def Th:bw:=(bL (dN 0<|eF (hX (et<|bK<|aH (dR .tuple) ZE)<|hX (et<|bK<|gw fK fK Z5 (aH fe ZE)<|aw<|.int 8)<|et<|bK<|aH ji<|aa Tg ar) ZT e6)<|cT<|aH gk<|aa (aH nT ZE)<|aa (aH xe ZE) ar)
def vP:cY:=c0 1<|Th
def Bk:bw:=(bL (eF (hX (et<|bK<|aH (dR .tuple) ZM)<|bK<|aH gn<|aa (aH fe ZM)<|aa ZC ar) ZT e6)<|eF (hX (et<|bK<|bB 3 x3<|ax (aH dv<|aa (ai 1)<|aa ZD ar)<|ax ZD<|ax (aw<|.int 120) a9)<|et<|bK<|bB 3 x3<|ax (aH dv<|aa (ai 1)<|aa Z5 ar)<|ax Z5<|ax (aw<|.int 4096) a9) ZT e6)
def Fp:bw:=iJ (iI<|ai 0) (cB 1) Bk
def Li:bM:=er (EC (ai 0)<|lW (ai 0) (lL Z5) lK) (ck [C,J 0,C]) (zV 2 0) yes<|aH eE<|aa (aH dv<|aa (ai 2)<|aa ZD ar)<|aa (aH dv<|aa (ai 0)<|aa ZD ar) ar
def Ti:bw:=(bL (eF (hX (et<|bK<|aH (dR .list) ZE)<|bK<|aH gk<|aa (ai 0)<|aa (dF ar) ar) ZT e6)<|bL (fC 0 Fp)<|cT<|aH ji<|aa Li ar)
def Bl:cY:=c0 2<|Ti
def Lj:bM:=dF<|aa (aY<|aw .br)<|aa (aY<|aw<|.aC Y0)<|aa (aY<|aw<|.str "1")<|aa (aY ZD)<|aa (aY Z5)<|aa (aY<|aw<|.int 5)<|aa (aY<|aw<|.int 30)<|aa (aY<|aw<|.int 31)<|aa (aY<|aH pD<|aa Z5 ar)<|aa (aY<|cw ar)<|aa (aY<|cw<|aa (aY ZD) ar)<|aa (aY<|cw ZK)<|aa (aY<|dF<|aa (aY Z5) ar)<|aa (aY<|aw<|.int 4096)<|aa (aY<|aw<|.int 4097)<|aa (aY<|aw<|.int 120)<|aa (aY<|aw<|.int 121) ar
def iF(g:cY):bw:=(bL (dK 3<|bB 3 bQ.j8<|ax (ai 0)<|ax (ai 1)<|ax (aw<|.int 8) a9)<|bL (eF (pC (bK<|aH (dR .tuple) ZQ)<|pC (bK<|aH gn<|aa (ai 2)<|aa (cw ar) ar)<|bK<|aH rm<|aa (ai 3)<|aa Z5 ar) (bL (dK 4<|bB 3 bQ.j8<|ax (ai 0)<|ax (ai 1)<|ax (aH fe ZQ) a9)<|cT<|aH ej<|aa (aH ej<|aa (lW (ai 2) lK<|lL<|ai 4)<|aa (cw<|aa (aY<|bB 3 g<|ax (ai 0)<|ax (ai 1)<|ax (aH dv<|aa (ai 2)<|aa (ai 4) ar) a9) ar) ar)<|aa (lW (ai 2) (lL<|aH ej<|aa (ai 4)<|aa Z5 ar) lK) ar) e6)<|bL (eF (pC (bK<|aH (dR .tuple) ZQ)<|bK<|aH gk<|aa (ai 3)<|aa Z5 ar) (cT<|bB 3 bQ.qE<|ax (ai 0)<|ax (ai 1)<|ax (dF<|aa (aY<|aH nT ZQ)<|aa (aY<|aH kE<|aa (ai 2)<|aa (aw<|.int 5) ar)<|aa (aY<|lW (ai 2) (lL Z5) lK)<|aa (aY<|By<|ai 2)<|aa (aY<|aH ej<|aa (ai 2)<|aa (lW (ai 2) (lL<|aH pD<|aa Z5 ar) lK) ar) ar) a9) e6)<|cT<|bB 3 bQ.qE<|ax (ai 0)<|ax (ai 1)<|ax Lj a9)
def Fq:cY:=c0 5<|iF bQ.KW
def Lk:cY:=c0 5<|iF Fq
def Ll:cY:=c0 5<|iF Lk
def Lm:cY:=c0 5<|iF Ll
def px:cY:=c0 5<|iF Lm
def Bm:bw:=(dK 2<|bB 3 px<|ax (ai 0)<|ax (ai 1)<|ax (ai 2) a9)
def Ln:bw:=iJ (iB<|aa (aH ej<|aa Z5<|aa (bB 3 bQ.j8<|ax (ai 0)<|ax (ai 1)<|ax ZC a9) ar) ar) (cB 3) Bm
def Lo:bM:=er (fJ<|ai 2) (ck [J 0,J 1,J 2,J 3,J 4,J 5,J 6,C,J 8,J 9,J 10]) (cB 7) yes<|bB 1 vP<|ax (ai 7) a9
def Vr:bM:=er (iB<|aa (aw<|.int 11) ar) (ck [C,J 0,J 1,J 2,J 3,J 4,J 5,J 6,J 7,J 8,J 9,J 10]) (cB 0) yes<|bB 5 gP<|ax ZD<|ax (ai 0)<|ax (ai 3)<|ax (ai 6)<|ax (aw .br) a9
def Vs:bM:=er (iB<|aa (aw<|.int 6) ar) (ck [C,J 0,J 1,J 2,J 3,J 4,J 5,J 6,J 7,J 8,J 9,J 10]) (cB 0) yes<|bB 5 gP<|ax Z5<|ax (ai 0)<|ax (ai 8)<|ax (ai 6)<|ax (aw .br) a9
def Lp:bM:=er (iB<|aa (aw<|.int 3) ar) (ck [C,J 0,J 1,J 2,J 3,J 4,J 5,J 6,J 7,J 8,J 9,J 10]) (cB 0) yes<|bB 5 gP<|ax ZC<|ax (ai 0)<|ax (ai 9)<|ax (ai 11)<|ax (ai 6) a9
def Lq:bM:=er (iB<|aa ZC ar) (ck [C,J 0,J 1,J 2,J 3,J 4,J 5,J 6,J 7,J 8,J 9,J 10]) (cB 0) yes<|bB 5 gP<|ax ZC<|ax (ai 0)<|ax (ai 9)<|ax (ai 11)<|ax (ai 6) a9
def zp:bw:=dK 2<|bB 4 bQ.vE<|ax (ai 0)<|ax (ai 1)<|ax (aH ej<|aa Z5<|aa (bB 3 bQ.j8<|ax (ai 0)<|ax (ai 1)<|ax (aw<|.int 4) a9) ar)<|ax (aw<|.int 3) a9
def H4:bw:=dN 2<|dK 4<|rl (aH (dR .tuple) ZQ)<|rl (gw fK fK Z5 (aH fe ZQ)<|aw<|.int 4)<|aH ji<|aa Lo ar
def CL:bw:=dK 5<|bB 3 bQ.qE<|ax (ai 0)<|ax (ai 1)<|ax (dF<|aa (aY<|aw .br)<|aa (aY<|aw<|.aC Y0)<|aa (aY<|aH pD<|aa Z5 ar)<|aa (aY<|aw<|.int 1000)<|aa (aY<|aw<|.str "1") ar) a9
def CM:bw:=dK 6 Vr
def w4:bw:=eF (pC (et<|bK<|ai 4)<|bK<|aH gn<|aa (ai 6)<|aa (lx (dF<|aa (aY<|cw<|aa ZL<|aa (aY Z5) ar) ar)<|aw<|.int 11) ar) ZT e6
def w5:bw:=eF (pC (bK<|ai 4)<|bK<|aH gn<|aa (aH dv<|aa (ai 6)<|aa (aw<|.int 10) ar)<|aa (cw<|aa ZL<|aa (aY<|aw<|.int 3) ar) ar) ZT e6
def CN:bw:=dK 7<|bB 3 px<|ax (ai 0)<|ax (ai 1)<|ax (bB 4 bQ.tB<|ax (ai 0)<|ax (ai 1)<|ax ZC<|ax (aw<|.int 30) a9) a9
def CO:bw:=dK 6 Vs
def w6:bw:=eF (pC (et<|bK<|bB 1 vP<|ax (ai 7) a9)<|bK<|aH gn<|aa (ai 6)<|aa (lx (dF<|aa (aY<|cw<|aa ZL<|aa (aY ZD) ar) ar)<|aw<|.int 6) ar) ZT e6
def x4:bw:=eF (pC (bK<|bB 1 vP<|ax (ai 7) a9)<|bK<|aH gn<|aa (lW (ai 6) (lL<|aw<|.int 4) lK)<|aa (lx (dF<|aa (aY<|cw<|aa ZL<|aa (aY<|aw<|.int 3) ar) ar) ZC) ar) ZT e6
def Fs:bw:=dK 8<|bB 1 bQ.rD<|ax (bB 4 bQ.vE<|ax (ai 0)<|ax (ai 1)<|ax ZC<|ax (aw<|.int 3) a9) a9
def Ft:bw:=dK 9<|bB 3 bQ.j8<|ax (ai 0)<|ax (ai 1)<|ax (aH fe<|aa (ai 8) ar) a9
def Fu:bw:=dK 8<|aH ej<|aa (aH ej<|aa (lW (ai 8) lK<|lL<|ai 9)<|aa (dF<|aa (aY<|bB 3 px<|ax (ai 0)<|ax (ai 1)<|ax (aH dv<|aa (ai 8)<|aa (ai 9) ar) a9) ar) ar)<|aa (lW (ai 8) (lL<|aH ej<|aa (ai 9)<|aa Z5 ar) lK) ar
def Lr:bw:=fC 8<|dK 8<|bB 3 bQ.qE<|ax (ai 0)<|ax (ai 1)<|ax (dF<|aa (aY<|ai 8)<|aa (aY<|ai 8)<|aa (aY<|ai 8)<|aa (aY<|aH qp<|aa (ai 8) ar)<|aa (aY<|dF ar)<|aa (aY<|By<|ai 8) ar) a9
def Fv:bw:=dK 10<|bB 3 px<|ax (ai 0)<|ax (ai 1)<|ax (cw<|aa (aY ZC)<|aa (aY<|aw<|.int 3) ar) a9
def Fw:bw:=eF (et<|bK<|bB 1 Bl<|ax (ai 8) a9) (cT<|aH gk<|aa Lp<|aa (lx (dF<|aa (aY<|cw<|aa ZL<|aa (aY ZC) ar) ar)<|aw<|.int 3) ar) e6
def Ls:bw:=eF (pC (bK<|aH gn<|aa (bB 5 gP<|ax ZC<|ax ZC<|ax (ai 8)<|ax (ai 7)<|ax (aw .br) a9)<|aa (cw<|aa ZL<|aa (aY ZD) ar) ar)<|et<|bK<|bB 1 vP<|ax (ai 7) a9) ZT e6
def Tj:bw:=cT<|aH gk<|aa Lq<|aa (lx (dF<|aa (aY<|cw<|aa ZL<|aa (aY<|aw<|.int 3) ar) ar) ZC) ar
def Gp:bw:=(bL zp<|bL Ln<|bL H4<|bL CL<|bL CM<|bL w4<|bL w5<|bL CN<|bL CO<|bL w6<|bL x4<|bL Fs<|bL Ft<|bL Fu<|bL Lr<|bL Fv<|bL Fw<|bL Ls Tj)
end vI
namespace vI
open PySem PySem.Spec PyProof.Rows bj bj.bO
noncomputable def top(i:Nat):Stmt:=PySem.Challenge.pw_dicesums_k10_whole_refused_anywhere.main.body.getD i<|.Pass ⟨0,0,0,0⟩
abbrev aer:Stmt:=top 15
abbrev aes:Stmt:=top 16
abbrev aet:Stmt:=top 17
abbrev aeu:Stmt:=top 18
abbrev aev:Stmt:=top 19
abbrev aew:Stmt:=top 20
abbrev aex:Stmt:=top 21
abbrev aey:Stmt:=top 22
abbrev aez:Stmt:=top 23
abbrev aeA:Stmt:=top 24
abbrev aeB:Stmt:=top 30
abbrev ak4:Stmt:=top 31
abbrev amP:Stmt:=top 32
abbrev aeC:Stmt:=top 34
abbrev amQ:Stmt:=top 33
abbrev aeD:Stmt:=top 42
abbrev ak5:Stmt:=top 36
abbrev amR:Stmt:=top 37
abbrev amS:Stmt:=top 45
abbrev aeE:Stmt:=top 46
abbrev amT:Stmt:=top 44
abbrev aeF:Stmt:=top 43
abbrev aeG:Stmt:=top 38
abbrev aeH:Stmt:=top 47
abbrev aeI:Stmt:=top 39
abbrev aeJ:Stmt:=top 48
abbrev amU:Stmt:=top 40
abbrev aeK:Stmt:=top 41
abbrev aeL:Stmt:=top 57
abbrev ak6:Stmt:=top 58
abbrev amV:Stmt:=top 53
abbrev aeM:Stmt:=top 54
abbrev aeN:Stmt:=top 55
abbrev aeO:Stmt:=top 56
abbrev aeP:Stmt:=top 68
abbrev amW:Stmt:=top 67
abbrev aeQ:Stmt:=top 70
abbrev aeR:Stmt:=top 71
abbrev aeS:Stmt:=top 72
abbrev aeT:Stmt:=top 73
abbrev aeU:Stmt:=top 74
abbrev aeV:Stmt:=top 75
abbrev Tn:Stmt:=top 77
abbrev aeW:Stmt:=top 78
abbrev aeX:Stmt:=top 79
abbrev aeY:Stmt:=top 80
abbrev aeZ:Stmt:=top 81
abbrev ae0:Stmt:=top 82
abbrev ae1:Stmt:=top 83
abbrev ae2:Stmt:=top 84
abbrev ae3:Stmt:=top 76
abbrev Lu:Stmt:=top 85
set_option genInjectivity false in
set_option genSizeOf false in
structure Zq (K:W.Frag) (a3:Str->Option mt) where
 h0:Heap
 X:K.In h0
 G:h0.Ns kQ a3
 WT:Fr
 WU:Fr
 WV:Fr
 WW:Fr
 WX:Fr
 WY:Fr
 WZ:Fr
 W0:Fr
 W2:Fr
 W3:Fr
 CP:Fr
 W4:Fr
 CQ:Fr
 aw:Fr
 dL:Fr
 W5:Fr
 CR:Fr
 CS:Fr
 W6:Fr
 W7:Fr
 W8:Fr
 W9:Fr
 CT:Fr
 Xa:Fr
 Xb:Fr
 Xc:Fr
 CU:Fr
 Xd:Fr
 wI:Fr
 Xe:Fr
 Xf:Fr
 Xg:Fr
 Xh:Fr
 H5:Fr
 H6:Fr
 CV:Fr
 H7:Fr
 H8:Fr
 Xi:Fr
 Xj:Fr
 Xk:Fr
 HA:Fr
 CW:Fr
 Xl:Fr
 Xm:Fr
 Xn:Fr
 wY:Fr
 Xo:Fr
 Xp:Fr
 Xq:Fr
 Xr:Fr
 CY:Fr
 Xs:Tok
 Xt:Tok
 Xu:Tok
 Xv:Tok
 Xw:Tok
 Xx:Tok
 uP:Addr
 j0:Addr
 j1:Addr
 j2:Addr
 sM:Addr
 j3:Addr
 kn:Addr
 Xy:dV K "is_number" aer WT
 Xz:dV K "is_die" aes WU
 XA:dV K "is_dice" aet WV
 XB:dV K "is_total_row" aeu WW
 XC:dV K "is_totals" aev WX
 NT:dV K "need_number" aew WY
 NU:dV K "need_die" aex WZ
 NW:dV K "need_dice" aey W0
 NX:dV K "need_totals" aez W2
 XD:dV K "counted" aeA W3
 H9:dV K "totals" aeB CP
 wU:dV K "ways" ak4 W4
 Ia:dV K "rolls" amP CQ
 NY:dV K "parted" aeC aw
 NZ:dV K "alike" amQ dL
 XE:dV K "lesser" aeD W5
 Ib:dV K "wins" ak5 CR
 Ic:dV K "beats" amR CS
 XF:dV K "steps" amS W6
 XG:dV K "goes_round" aeE W7
 XH:dV K "rings" amT W8
 XI:dV K "beaten" aeF W9
 Ie:dV K "all_rings" aeG CT
 XJ:dV K "are_places" aeH Xa
 N0:dV K "is_ring" aeI Xb
 XK:dV K "is_unbeaten" aeJ Xc
 Ig:dV K "order" amU CU
 Ct:dV K "chance" aeK Xd
 N1:dV K "need_asked" aeL wI
 XM:dV K "rest" ak6 Xe
 N2:dV K "pairs" amV Xf
 N3:dV K "threes" aeM Xg
 N4:dV K "missing" aeN Xh
 N5:dV K "others" aeO H5
 XN:dV K "shown_die" aeP H6
 Ih:dV K "shown" amW CV
 XO:dV K "_law_cell_at" aeQ H7
 XP:dV K "_law_mixed" aeR H8
 XQ:dV K "_law_draw" aeS Xi
 XR:dV K "_law_pick" aeT Xj
 XS:dV K "_law_die" aeU Xk
 XT:dV K "_law_dice" aeV HA
 sN:dV K "_law_which" Tn CW
 N6:dV K "_law_of_dice" aeW Xl
 N7:dV K "_law_of_die" aeX Xm
 N8:dV K "_law_of_totals" aeY Xn
 XU:dV K "_law_ask" aeZ wY
 XW:dV K "_law_whole" ae0 Xo
 XX:dV K "_law_is_die" ae1 Xp
 XY:dV K "_law_are_totals" ae2 Xq
 N9:dV K "_law_spoilt" ae3 Xr
 ie:dV K "law" Lu CY
 XZ:a3 "ValueError" = C
 X0:a3 "all" = C
 X1:a3 "any" = C
 za:a3 "bool" = C
 X2:a3 "dict" = C
 X3:a3 "int" = C
 oX:a3 "isinstance" = C
 Oa:a3 "len" = C
 Ii:a3 "list" = C
 Ob:a3 "min" = C
 Ij:a3 "range" = C
 Oc:a3 "set" = C
 zq:a3 "sorted" = C
 X4:a3 "str" = C
 X5:a3 "sum" = C
 Od:a3 "tuple" = C
 X6:a3 "zip" = C
 X7:a3 "GREATEST_ASKED" = J (.int 999 Xs)
 X8:a3 "GREATEST_FACE" = J (.int 30 Xt)
 X9:a3 "GREATEST_TOTAL" = J (.int 120 Xu)
 Ya:a3 "MOST_DICE" = J (.int 4 Xv)
 Yb:a3 "MOST_FACES" = J (.int 8 Xw)
 Yc:a3 "MOST_WAYS" = J (.int 4096 Xx)
 Yd:a3 "DiceError" = J (.ref uP)
 CZ:a3 "NoDice" = J (.ref j0)
 C1:a3 "NoDie" = J (.ref j1)
 C2:a3 "NoNumber" = J (.ref j2)
 Ye:a3 "NoText" = J (.ref sM)
 C5:a3 "NoTotals" = J (.ref j3)
 Ik:a3 "TooMany" = J (.ref kn)
 Yf:W.excIn K j0 excMro "ValueError.__new__" = Y0
 Yg:W.excIn K j1 excMro "ValueError.__new__" = Y0
 Yh:W.excIn K j2 excMro "ValueError.__new__" = Y0
 Yi:W.excIn K j3 excMro "ValueError.__new__" = Y0
 Yj:Clause K uP
 Yk:tP K j0 uP
 Yl:tP K j1 uP
 Ym:tP K j2 uP
 Yn:tP K j3 uP
 Yo:tP K kn uP
 C6:vs K j1
 C7:vs K j0
 C8:vs K j3
 C9:vs K j2
 Dc:vs K kn
 zr:vs K sM
 Yp:lS K j1
 Yq:W.subIn K (.ref j1) (.type "ValueError")=J Y0
 zt:W.subIn K (.ref j1) (.ref j1)=J Y0
 Yr:W.subIn K (.ref j1) (.ref j0)=J Y1
 Ys:W.subIn K (.ref j1) (.ref j3)=J Y1
 Yt:W.subIn K (.ref j1) (.ref j2)=J Y1
 Yu:W.subIn K (.ref j1) (.ref kn)=J Y1
 Yv:W.subIn K (.ref j1) (.ref sM)=J Y1
 Yw:lS K j0
 Yx:W.subIn K (.ref j0) (.type "ValueError")=J Y0
 Yy:W.subIn K (.ref j0) (.ref j1)=J Y1
 zu:W.subIn K (.ref j0) (.ref j0)=J Y0
 Yz:W.subIn K (.ref j0) (.ref j3)=J Y1
 YA:W.subIn K (.ref j0) (.ref j2)=J Y1
 HO:W.subIn K (.ref j0) (.ref kn)=J Y1
 YB:W.subIn K (.ref j0) (.ref sM)=J Y1
 dt:lS K j3
 de:W.subIn K (.ref j3) (.type "ValueError")=J Y0
 gV:W.subIn K (.ref j3) (.ref j1)=J Y1
 zj:W.subIn K (.ref j3) (.ref j0)=J Y1
 zv:W.subIn K (.ref j3) (.ref j3)=J Y0
 cx:W.subIn K (.ref j3) (.ref j2)=J Y1
 iP:W.subIn K (.ref j3) (.ref kn)=J Y1
 mM:W.subIn K (.ref j3) (.ref sM)=J Y1
 p3:lS K j2
 y8:W.subIn K (.ref j2) (.type "ValueError")=J Y0
 ia:W.subIn K (.ref j2) (.ref j1)=J Y1
 ek:W.subIn K (.ref j2) (.ref j0)=J Y1
 eh:W.subIn K (.ref j2) (.ref j3)=J Y1
 zw:W.subIn K (.ref j2) (.ref j2)=J Y0
 dJ:W.subIn K (.ref j2) (.ref kn)=J Y1
 wM:W.subIn K (.ref j2) (.ref sM)=J Y1
 e3:lS K kn
 hC:W.subIn K (.ref kn) (.type "ValueError")=J Y0
 gY:W.subIn K (.ref kn) (.ref j1)=J Y1
 fw:W.subIn K (.ref kn) (.ref j0)=J Y1
 gs:W.subIn K (.ref kn) (.ref j3)=J Y1
 YC:W.subIn K (.ref kn) (.ref j2)=J Y1
 zx:W.subIn K (.ref kn) (.ref kn)=J Y0
 YD:W.subIn K (.ref kn) (.ref sM)=J Y1
abbrev zy(_:dx)(_:c3)(K:W.Frag)(a3:Str->Option mt)(_:Heap)(_:Addr):=Zq K a3
section
variable {P:dx}{w:c3}{K:W.Frag}{a3:Str->Option mt}{base:Heap}{tw:Addr}
abbrev Il(_:zy P w K a3 base tw)(lv:Nat)(n:Str)(ps:List Str)(f:cY):Prop:=uJ P w K a3 base lv n ps f tw
abbrev lF(_:zy P w K a3 base tw)(lv:Nat)(n:Str)(ps:List Str)(f:e7):Prop:=xO P w K a3 base lv n ps f tw
variable (Y:zy P w K a3 base tw)
include Y
def Oe{n:Str}{st:Stmt}{r:Fr}{lv:Nat}{ps:List Str}{b:bw}(h:dV K n st r)(ls:List Str)
  (aq:∀{c8:mt} {A:dH} {cj:List Env} {s:aR} {H:aJ} {E:iu},eC lv (A.deeper<|i3 n (eo st) s.L r.f c8)->(ps++ls).Nodup->hZ (jN iA P w K a3 base (ps++ls) n (eo st) r.f c8 A cj s H E).lJ tw (ig st) b)
  (cc:mE (ps++ls) ps<|eo st:=by exact uQ) (bi:oW n st ps:=by first|exact qg λ_ _ _ _ _ _ _=>rfl|exact zC λ_ _ _ _ _ _ _ _=>rfl|exact zD λ_ _ _ _ _ _ _ _ _=>rfl|exact zE λ_ _ _ _ _ _ _ _ _ _=>rfl|exact zF λ_ _ _ _ _ _ _ _ _ _ _=>rfl):Il Y (lv+1) n ps<|c0 (ps++ls).H b:=adf Y.X Y.G h (λ_ _ _ _ _ _ aV bW=>aq aV bW) cc bi
def YE{n:Str}{st:Stmt}{r:Fr}{lv:Nat}{ps:List Str}{b:dm}(h:dV K n st r)(ls:List Str)
  (aq:∀{c8:mt} {A:dH} {cj:List Env} {s:aR} {H:aJ} {E:iu},eC lv (A.deeper<|i3 n (eo st) s.L r.f c8)->(ps++ls).Nodup->lk Y1 (jN (mw P w) P w K a3 base (ps++ls) n (eo st) r.f c8 A cj s H E) tw (ig st) b)
  (cc:mE (ps++ls) ps<|eo st:=by exact uQ) (bi:oW n st ps:=by first|exact qg λ_ _ _ _ _ _ _=>rfl|exact zC λ_ _ _ _ _ _ _ _=>rfl|exact zD λ_ _ _ _ _ _ _ _ _=>rfl|exact zE λ_ _ _ _ _ _ _ _ _ _=>rfl|exact zF λ_ _ _ _ _ _ _ _ _ _ _=>rfl):lF Y (lv+1) n ps<|fnX (ps++ls).H b:=agq Y.X Y.G h (λ_ _ _ _ _ _ aV bW=>aq aV bW) cc bi
def eK{G:Prop}{n:Str}{st:Stmt}{r:Fr}{l:Nat}{b:bw}(lv:Nat)(ps ls:List Str)(f:cY)(g:Il Y lv n ps f->G)(h:dV K n st r)
  (aq:∀{c8:mt} {A:dH} {cj:List Env} {s:aR} {H:aJ} {E:iu},eC l (A.deeper<|i3 n (eo st) s.L r.f c8)->(ps++ls).Nodup->hZ (jN iA P w K a3 base (ps++ls) n (eo st) r.f c8 A cj s H E).lJ tw (ig st) b)
  (cc:mE (ps++ls) ps<|eo st:=by exact uQ) (bi:oW n st ps:=by first|exact qg λ_ _ _ _ _ _ _=>rfl|exact zC λ_ _ _ _ _ _ _ _=>rfl|exact zD λ_ _ _ _ _ _ _ _ _=>rfl|exact zE λ_ _ _ _ _ _ _ _ _ _=>rfl|exact zF λ_ _ _ _ _ _ _ _ _ _ _=>rfl) (aB:lv=l+1:=by rfl) (hf:f=c0 (ps++ls).H b:=by rfl):G:=by
 subst aB hf;exact g<|Oe Y h ls aq cc bi
def h4{G:Prop}{n:Str}{st:Stmt}{r:Fr}{l:Nat}{b:dm}(lv:Nat)(ps ls:List Str)(f:e7)(g:lF Y lv n ps f->G)(h:dV K n st r)
  (aq:∀{c8:mt} {A:dH} {cj:List Env} {s:aR} {H:aJ} {E:iu},eC l (A.deeper<|i3 n (eo st) s.L r.f c8)->(ps++ls).Nodup->lk Y1 (jN (mw P w) P w K a3 base (ps++ls) n (eo st) r.f c8 A cj s H E) tw (ig st) b)
  (cc:mE (ps++ls) ps<|eo st:=by exact uQ) (bi:oW n st ps:=by first|exact qg λ_ _ _ _ _ _ _=>rfl|exact zC λ_ _ _ _ _ _ _ _=>rfl|exact zD λ_ _ _ _ _ _ _ _ _=>rfl|exact zE λ_ _ _ _ _ _ _ _ _ _=>rfl|exact zF λ_ _ _ _ _ _ _ _ _ _ _=>rfl) (aB:lv=l+1:=by rfl) (hf:f=fnX (ps++ls).H b:=by rfl):G:=by
 subst aB hf;exact g<|YE Y h ls aq cc bi
def Fx:a3 "all_rings" = J (.ref Y.CT.f):=Y.Ie.a3 Y.X Y.G
def Fy:a3 "beats" = J (.ref Y.CS.f):=Y.Ic.a3 Y.X Y.G
def ae4:a3 "_law_which" = J (.ref Y.CW.f):=Y.sN.a3 Y.X Y.G
def Fz:a3 "order" = J (.ref Y.CU.f):=Y.Ig.a3 Y.X Y.G
def FA:a3 "rolls" = J (.ref Y.CQ.f):=Y.Ia.a3 Y.X Y.G
def FC:a3 "shown" = J (.ref Y.CV.f):=Y.Ih.a3 Y.X Y.G
def FD:a3 "totals" = J (.ref Y.CP.f):=Y.H9.a3 Y.X Y.G
def FE:a3 "wins" = J (.ref Y.CR.f):=Y.Ib.a3 Y.X Y.G
def Bn(aT:oe.cls=.ref aN)(hd:oe.dict=C)(bS:∃ah,oe.d=.fields ah)(iO:lS K aN)(bG:Nat->Bool)(YF:W.kitOne K ZI (.ref Y.j1)=J (bG 0))(YG:W.kitOne K ZI (.ref Y.j0)=J (bG 1))(YH:W.kitOne K ZI (.ref Y.j3)=J (bG 2))(YI:W.kitOne K ZI (.ref Y.j2)=J (bG 3))(YJ:W.kitOne K ZI (.ref Y.kn)=J (bG 4))(YK:W.kitOne K ZI (.ref Y.sM)=J (bG 5))(YL:W.kitOne K ZI (.type "ValueError")=J (bG 11)):EA P w K a3 base 1 Y.CW.f (Y.CW.fd "_law_which" Tn) ["_law_e"] [(e,oe)] (nX K tw 1<|bQ.rF e bG) :=
 ai0 (lv:=0) Y.sN.fn (uQ (N:=["_law_e","_law_own"])) (λc8 A cj s H aV =>
  (DO (UR 1 (u5<|g5 (xM (e:=e) (oe:=oe) (aN:=aN) (.head _) aT hd bS iO (lN 0) YF Y.oX Y.C1)<|g5 (xM (e:=e) (oe:=oe) (aN:=aN) (.head _) aT hd bS iO (lN 0) YG Y.oX Y.CZ)<|g5 (xM (e:=e) (oe:=oe) (aN:=aN) (.head _) aT hd bS iO (lN 0) YH Y.oX Y.C5)<|g5 (xM (e:=e) (oe:=oe) (aN:=aN) (.head _) aT hd bS iO (lN 0) YI Y.oX Y.C2) nW) (show(["_law_e","_law_own"]:List Str).Nodup by decide))<|DO (US 1<|u5<|g5 (xM (e:=e) (oe:=oe) (aN:=aN) (.head _) aT hd bS iO (lN 0) YJ Y.oX Y.Ik)<|g5 (xM (e:=e) (oe:=oe) (aN:=aN) (.head _) aT hd bS iO (lN 0) YK Y.oX Y.Ye) nW)<|DO (Um (oQ.st<|Ul (xq (Uq aV.Cz<|PC aV.Gv) (acC (lN 1) Mc ⟨rfl,rfl,rfl,rfl⟩) z2)<|UP<|UO<|UN<|aiZ (e:=e) (oe:=oe) (aN:=aN) (.head _) aT hd bS iO (lN 0) YL Y.oX Y.XZ PyProof.Rows.Boot.«ValueError») (DN<|DP<|Je<|g5 I5<|g5 (QG z2) nW) Ph)<|DN<|DP<|Je<|g5 I5<|g5 (ami (lN 1) Mc ⟨rfl,rfl,rfl,rfl⟩) nW))
def ae5:QW P w K a3 base 1 "_law_which" [0,1,2,3,4] bQ.RQ tw:=⟨_,Y.sN.2.2.2,ae4 Y,λc t nQ cA aN oS e oe af ak bc=>by
  simp only[d3,qQ,or_false]at nQ;rcases nQ with rfl|rfl|rfl|rfl|rfl
  ·have z:=Y.C1.symm.trans oS
   exists z
   exists cA
   exact⟨_,_,bQ.rF e λj=>j==0||j==11,Bn Y af ak bc Y.Yp _ AS (hL Y.zt Y.C7 Y.Yr) (hL Y.zt Y.C8 Y.Ys) (hL Y.zt Y.C9 Y.Yt) (hL Y.zt Y.Dc Y.Yu) (hL Y.zt Y.zr Y.Yv)<|AU Y.Yq,(Y.sN.fn.binds (qg λ_ _ _ _ _ _ _=>rfl)),λn=>jc.Ba e n 0 Z0⟩
  ·have z:=Y.CZ.symm.trans oS
   exists z
   exists cA
   exact⟨_,_,bQ.rF e λj=>j==1||j==11,Bn Y af ak bc Y.Yw _ (hL Y.zu Y.C6 Y.Yy) AS (hL Y.zu Y.C8 Y.Yz) (hL Y.zu Y.C9 Y.YA) (hL Y.zu Y.Dc Y.HO) (hL Y.zu Y.zr Y.YB)<|AU Y.Yx,(Y.sN.fn.binds (qg λ_ _ _ _ _ _ _=>rfl)),λn=>jc.Ba e n 1 Z0⟩
  ·have z:=Y.C5.symm.trans oS
   exists z
   exists cA
   exact⟨_,_,bQ.rF e λj=>j==2||j==11,Bn Y af ak bc Y.dt _ (hL Y.zv Y.C6 Y.gV) (hL Y.zv Y.C7 Y.zj) AS (hL Y.zv Y.C9 Y.cx) (hL Y.zv Y.Dc Y.iP) (hL Y.zv Y.zr Y.mM)<|AU Y.de,(Y.sN.fn.binds (qg λ_ _ _ _ _ _ _=>rfl)),λn=>jc.Ba e n 2 Z0⟩
  ·have z:=Y.C2.symm.trans oS
   exists z
   exists cA
   exact⟨_,_,bQ.rF e λj=>j==3||j==11,Bn Y af ak bc Y.p3 _ (hL Y.zw Y.C6 Y.ia) (hL Y.zw Y.C7 Y.ek) (hL Y.zw Y.C8 Y.eh) AS (hL Y.zw Y.Dc Y.dJ) (hL Y.zw Y.zr Y.wM)<|AU Y.y8,(Y.sN.fn.binds (qg λ_ _ _ _ _ _ _=>rfl)),λn=>jc.Ba e n 3 Z0⟩
  ·have z:=Y.Ik.symm.trans oS
   exists z
   exists cA
   exact⟨_,_,bQ.rF e λj=>j==4||j==11,Bn Y af ak bc Y.e3 _ (hL Y.zx Y.C6 Y.gY) (hL Y.zx Y.C7 Y.fw) (hL Y.zx Y.C8 Y.gs) (hL Y.zx Y.C9 Y.YC) AS (hL Y.zx Y.zr Y.YD)<|AU Y.hC,(Y.sN.fn.binds (qg λ_ _ _ _ _ _ _=>rfl)),λn=>jc.Ba e n 4 Z0⟩
  ⟩
def ahs(run:∀ns:List Int,ns.H<=63->∃S' n',Gp (o5 ns 11) 0=J (.aU (.aC Y0) Y1,S',n')):i0 P w K a3 base iA 10 Y.CY.f (Y.CY.fd "law" Lu) ["_law_script"]<|AE K:=by
 refine aiI (lv:=9) Y.ie.fn (uQ (N:=(["_law_script"]:List Str)++(["_law_town","_law_dice_here","_law_k","_law_good","_law_odd","_law_found","_law_die_here","_law_some","_law_at","_law_sizes"]:List Str))) rfl rfl Z0 (by first|exact Or.inl rfl|exact Or.inr rfl) (λ_ _ _ _ _ _=>rfl) (λtw c8 A cj s H E aV=>?_) run;have Y:zy P w K a3 base tw:=Y;refine eK Y 1 ["thing","low","high"] [] bQ.lp (λaoJ=>?_) Y.Xy ?_;refine eK Y 2 ["thing"] [] bQ.kz (λaok=>?_) Y.Xz ?_;refine eK Y 3 ["thing"] [] bQ.mz (λaot=>?_) Y.XA ?_;refine eK Y 2 ["thing"] [] bQ.vw (λao3=>?_) Y.XB ?_;refine eK Y 3 ["thing"] ["heads"] bQ.kA (λaoK=>?_) Y.XC ?_;refine eK Y 2 ["thing","low","high"] [] bQ.ts (λaoW=>?_) Y.NT ?_;refine h4 Y 2 ["thing","low","high"] [] bQ.jL (λao4=>?_) Y.NT ?_;refine eK Y 3 ["thing"] [] bQ.iZ (λaoD=>?_) Y.NU ?_;refine h4 Y 3 ["thing"] [] bQ.h1 (λaoL=>?_) Y.NU ?_;refine eK Y 4 ["thing"] [] bQ.g7 (λaoM=>?_) Y.NW ?_;refine h4 Y 4 ["thing"] [] bQ.h2 (λaoQ=>?_) Y.NW ?_;refine eK Y 4 ["thing"] [] bQ.lq (λaoX=>?_) Y.NX ?_;refine h4 Y 4 ["thing"] [] bQ.m6 (λao5=>?_) Y.NX ?_;refine eK Y 1 ["dice"] ["counts","die","larger","total","face"] bQ.n6 (λaou=>?_) Y.XD ?_;refine eK Y 5 ["dice"] [] bQ.rD (λamX=>?_) Y.H9 ?_;refine h4 Y 5 ["dice"] [] bQ.A1 (λane=>?_) Y.H9 ?_;refine eK Y 1 ["dice","total"] [] (c0 2 jf) (λaoe=>?_) Y.wU ?_;refine h4 Y 5 ["dice","total"] [] bQ.EO (λaog=>?_) Y.wU ?_;refine eK Y 5 ["dice"] ["found","die","longer","roll"] bQ.vx (λak7=>?_) Y.Ia ?_;refine h4 Y 5 ["dice"] ["found","die","longer","roll"] bQ.A2 (λamY=>?_) Y.Ia ?_;refine eK Y 5 ["one","other"] ["first","second","either"] bQ.vy (λaol=>?_) Y.NY ?_;refine h4 Y 5 ["one","other"] ["first","second","either"] bQ.EP (λaov=>?_) Y.NY ?_;refine eK Y 6 ["one","other"] [] bQ.xU (λaoh=>?_) Y.NZ ?_;refine h4 Y 6 ["one","other"] [] bQ.ER (λaom=>?_) Y.NZ ?_;refine eK Y 1 ["die","than"] [] bQ.ES (λaon=>?_) Y.XE ?_;refine eK Y 4 ["one","other"] ["won","drawn"] bQ.m7 (λaju=>?_) Y.Ib ?_;refine h4 Y 4 ["one","other"] ["won","drawn"] bQ.m8 (λak8=>?_) Y.Ib ?_;refine eK Y 5 ["one","other"] ["counts"] bQ.qD (λak9=>?_) Y.Ic ?_;refine h4 Y 5 ["one","other"] ["counts"] bQ.tu (λamZ=>?_) Y.Ic ?_;refine eK Y 1 ["table","path"] ["greater"] bQ.A3 (λk_steps=>?_) Y.XF ?_;refine eK Y 1 ["table","path"] [] bQ.xV (λaoR=>?_) Y.XG ?_;refine eK Y 2 ["table"] ["found","paths","longer","path"] bQ.ET (λaoi=>?_) Y.XH ?_;refine eK Y 6 ["dice"] ["table","one"] bQ.xW (λaoo=>?_) Y.XI ?_;refine eK Y 7 ["dice"] [] bQ.vz (λang=>?_) Y.Ie ?_;refine h4 Y 5 ["dice"] [] bQ.A5 (λanh=>?_) Y.Ie ?_;refine eK Y 2 ["thing","many"] [] bQ.KN (λaoS=>?_) Y.XJ ?_;refine eK Y 7 ["dice","thing"] [] bQ.EU (λaow=>?_) Y.N0 ?_;refine h4 Y 5 ["dice","thing"] [] bQ.KP (λaoE=>?_) Y.N0 ?_;refine eK Y 1 ["table","left","place"] [] bQ.EV (λaoY=>?_) Y.XK ?_;refine eK Y 7 ["dice"] ["table","row","left","free"] bQ.vA (λala=>?_) Y.Ig ?_;refine h4 Y 5 ["dice"] ["table","row","left","free"] bQ.A6 (λam0=>?_) Y.Ig ?_;refine eK Y 1 ["dice","total"] [] (c0 2 jf) (λaop=>?_) Y.Ct ?_;refine h4 Y 5 ["dice","total"] [] bQ.EY (λaox=>?_) Y.Ct ?_;refine eK Y 5 ["totals","sizes","many","least"] ["size"] bQ.KS (λaoT=>?_) Y.N1 ?_;refine h4 Y 5 ["totals","sizes","many","least"] ["size"] bQ.E0 (λaoZ=>?_) Y.N1 ?_;refine eK Y 1 ["counts","taken"] ["left","total"] bQ.vC (λaof=>?_) Y.XM ?_;refine eK Y 1 ["totals","sizes","least"] [] (c0 3 jf) (λaoj=>?_) Y.N2 ?_;refine h4 Y 6 ["totals","sizes","least"] [] bQ.E1 (λaoq=>?_) Y.N2 ?_;refine eK Y 1 ["totals","sizes","least"] ["bare","lows"] (c0 5 jf) (λaor=>?_) Y.N3 ?_;refine h4 Y 6 ["totals","sizes","least"] ["bare","lows"] Fi (λaoy=>?_) Y.N3 ?_;refine eK Y 5 ["totals","die"] ["left","faces","lowest","face","times","same"] bQ.A8 (λaoz=>?_) Y.N4 ?_;refine h4 Y 5 ["totals","die"] ["left","faces","lowest","face","times","same"] bQ.A9 (λaoF=>?_) Y.N4 ?_;refine eK Y 1 ["one","other","least"] ["same","found"] (c0 5 jf) (λaos=>?_) Y.N5 ?_;refine h4 Y 4 ["one","other","least"] ["same","found"] bQ.vD (λaoA=>?_) Y.N5 ?_;refine eK Y 1 ["die"] [] vJ (λaoN=>?_) Y.XN ?_;refine eK Y 5 ["dice"] [] rK (λalb=>?_) Y.Ih ?_;refine h4 Y 5 ["dice"] [] Bh (λam1=>?_) Y.Ih ?_;refine eK Y 1 ["_law_script","_law_k"] [] bQ.E2 (λao0=>?_) Y.XO ?_;refine eK Y 2 ["_law_script","_law_k","_law_many"] ["_law_drawn"] bQ.E3 (λaoO=>?_) Y.XP ?_;refine eK Y 3 ["_law_script","_law_town","_law_many"] [] bQ.j8 (λaoG=>?_) Y.XQ ?_;refine eK Y 4 ["_law_script","_law_town","_law_some"] [] bQ.qE (λaoH=>?_) Y.XR ?_;refine eK Y 5 ["_law_script","_law_town","_law_faces","_law_most"] ["_law_low","_law_wide","_law_made"] bQ.tB (λaoB=>?_) Y.XS ?_;refine eK Y 6 ["_law_script","_law_town","_law_many","_law_faces"] [] bQ.vE (λaoI=>?_) Y.XT ?_;refine eK Y 8 ["_law_what","_law_dice_here","_law_asked_for"] [] x1 (λao1=>?_) Y.N6 ?_;refine h4 Y 8 ["_law_what","_law_dice_here","_law_asked_for"] [] rL (λao6=>?_) Y.N6 ?_;refine eK Y 6 ["_law_what","_law_die_here","_law_other"] [] Bi (λaoU=>?_) Y.N7 ?_;refine h4 Y 6 ["_law_what","_law_die_here","_law_other"] [] tF (λao2=>?_) Y.N7 ?_;refine eK Y 6 ["_law_what","_law_some","_law_sizes","_law_least"] [] Fo (λao7=>?_) Y.N8 ?_;refine h4 Y 7 ["_law_what","_law_some","_law_sizes","_law_least"] [] tG (λao8=>?_) Y.N8 ?_;refine eK Y 9 ["_law_group","_law_what","_law_one","_law_other","_law_third"] ["_law_e"] gP (λaoC=>?_) Y.XU ?_;refine eK Y 1 ["_law_thing","_law_low","_law_most"] [] x3 (λaoP=>?_) Y.XW ?_;refine eK Y 2 ["_law_thing"] [] vP (λaoV=>?_) Y.XX ?_;refine eK Y 2 ["_law_thing"] ["_law_one"] Bl (λao9=>?_) Y.XY ?_;refine eK Y 1 ["_law_script","_law_town","_law_thing"] ["_law_kind","_law_at"] bQ.KW (λani=>?_) Y.N9 ?_;have BG {g:cY} {Of lv:Nat} (bT:Of<=lv) (bS:4<=lv) (anG:uJ P w K a3 base Of "_law_spoilt" ["_law_script","_law_town","_law_thing"] g tw):Il Y (lv+1) "_law_spoilt" ["_law_script","_law_town","_law_thing"]<|c0 5<|iF g:=Oe Y Y.N9 ["_law_kind","_law_at"] ?_;have YM:=BG (lv:=4) Z0 Z0<|ani;have YN:=BG (lv:=5) Z0 Z0<|YM;have YO:=BG (lv:=6) Z0 Z0<|YN;have YP:=BG (lv:=7) Z0 Z0<|YO;have anH:=BG (lv:=8) Z0 Z0<|YP;have bW:((["_law_script"]:List Str)++(["_law_town","_law_dice_here","_law_k","_law_good","_law_odd","_law_found","_law_die_here","_law_some","_law_at","_law_sizes"]:List Str)).Nodup:=by decide
 all_goals repeat' first
   |(with_reducible intro _ _ _ _ _ _ aV bW)
   |(with_reducible intro)
   |(with_reducible show bF _ _ _ _);first
     |(with_reducible show bF _ _ (.Name ..) _);first|exact lN _|exact xm Y.Yb|exact xm Y.X8|exact xm Y.X9|exact xm Y.Ya|exact xm Y.Yc|exact xm Y.X7
     |(with_reducible show bF _ _ (.Constant ..) _);first|exact z2|exact Mc|exact I5|exact aie
     |(with_reducible show bF _ _ (.Tuple ..) _);refine Je ?_
     |(with_reducible show bF _ _ (.Subscript ..) _);first|refine z6 (Ae aV.fW) ?_ ?_ (λ_ _=>rfl)|refine aiL ?_ ?_ ?_
     |(with_reducible show bF _ _ (.Call (.Name "len" _) ..) _);first|refine tc aiy Y.Oa boot_len ?_|refine acz aV.hd ?_ Y.Oa Y.Oc
     |(with_reducible show bF _ _ (.List ..) _);refine u5 ?_
     |(with_reducible show bF _ _ (.ListComp ..) _);first|refine ams ?_ ?_ ?_|refine amt _ ?_ ?_ ?_|refine Jr rfl (N':=["_law_other","_law_thing","_law_one"]) (l0.of) (by decide) ?_ (λ_ _ _ _ _=>(ais 2 0 rfl (show(["_law_other","_law_thing","_law_one"]:List Str).Nodup by decide))) (λ_ _ _ _ _=>?_) λ_ _ _ _ _=>?_
     |(with_reducible show bF _ _ (.BinOp _ .Add ..) _);refine u2 aix ?_ ?_
     |(with_reducible show bF _ _ (.Call (.Name "isinstance" _) ..) _);first|refine D4 (k:=.tuple) ?_ Y.oX Y.Od boot_tuple|refine D4 (k:=.int) ?_ Y.oX Y.X3 boot_int|refine D4 (k:=.bool) ?_ Y.oX Y.za boot_bool|refine D4 (k:=.list) ?_ Y.oX Y.Ii boot_list
     |(with_reducible show bF _ _ (.Call (.Name "all" _) ..) _);refine tc (aiA rfl) Y.X0 boot_all ?_
     |(with_reducible show bF _ _ (.BinOp _ .Mult ..) _);refine u2 aiC ?_ ?_
     |(with_reducible show bF _ _ (.BinOp _ .Sub ..) _);refine u2 aiu ?_ ?_
     |(with_reducible show bF _ _ (.Call (.Name "sorted" _) ..) _);first|refine tc (al6 aV.hd) Y.zq yW ?_|refine tc (JR aV.hd) Y.zq yW ?_|refine acA aV.hd ?_ Y.zq Y.Oc|refine ab3 aV.hd ?_ Y.zq|refine tc (al7 aV.hd) Y.zq yW ?_
     |(with_reducible show bF _ _ (.Compare _ [.Eq] ..) _);refine Jc (T1 aV) ?_ ?_
     |(with_reducible show bF _ _ (.Compare _ [.Is] ..) _);refine aiw ?_
     |(with_reducible show bF _ _ (.Call (.Name "list" _) ..) _);first|refine DI (akf aV.hd) Y.Ii boot_list ?_|refine acR aV.hd ?_ Y.Ii Y.Ij
     |(with_reducible show bF _ _ (.BinOp ..) _);refine aiM ?_ ?_
     |(with_reducible show bF _ _ (.Call (.Name "tuple" _) ..) _);refine DI alR Y.Od boot_tuple ?_
     |(with_reducible show bF _ _ (.BinOp _ .Mod ..) _);refine u2 Ju ?_ ?_
     |(with_reducible show bF _ _ (.Compare _ [_,_] ..) _);refine alO F5 F5 ?_ ?_ ?_
     |(with_reducible show bF _ _ (.Call (.Name "dict" _) ..) _);refine DI (akg aV.hd) Y.X2 boot_dict ?_
     |(with_reducible show bF _ _ (.Call (.Name "min" _) ..) _);first|refine tc (aiz rfl) Y.Ob boot_min ?_|refine akv rfl ?_ Y.Ob boot_min
     |(with_reducible show bF _ _ (.Call (.Name "sum" _) ..) _);refine tc (akt rfl) Y.X5 boot_sum ?_
     |(with_reducible show bF _ _ (.Compare _ [.Gt] ..) _);refine Jc Uo ?_ ?_
     |(with_reducible show bF _ _ (.Call (.Name "any" _) ..) _);refine tc (aiK rfl) Y.X1 boot_any ?_
     |(with_reducible show bF _ _ (.BinOp _ .FloorDiv ..) _);refine u2 aiv ?_ ?_
     |(with_reducible show bF _ _ (.Call (.Name "str" _) ..) _);refine DI akI Y.X4 boot_str ?_
     |(with_reducible show bF _ _ (.Compare _ [.Lt] ..) _);refine Jc Un ?_ ?_
     |(with_reducible show bF _ _ (.Call ..) _);first|refine Uw (by assumption) ?_|refine akc aV.fW ?_ ?_ ?_ ⟨rfl,rfl,rfl,rfl⟩|refine Ve (as:=[Y.CR.f,Y.CS.f]) (z6 (Ae aV.fW) (u5 (g5 (mx (FE Y)) (g5 (mx (Fy Y)) nW))) (u2 Ju (lN 0) z2) (λ_ _=>rfl)) (λ_ _=>rfl) (BW rfl) (vq (aju) (FE Y) (aV.mono Z0)<|vq (ak9) (Fy Y) (aV.mono Z0) oq.nil) ?_|refine alW ?_ ?_ ⟨rfl,rfl,rfl,rfl⟩|refine akJ ?_ ?_ ⟨rfl,rfl,rfl,rfl⟩|refine Ve (as:=[Y.CP.f,Y.CQ.f,Y.CT.f,Y.CU.f,Y.CV.f]) (z6 (Ae aV.fW) (u5 (g5 (mx (FD Y)) (g5 (mx (FA Y)) (g5 (mx (Fx Y)) (g5 (mx (Fz Y)) (g5 (mx (FC Y)) nW)))))) (lN 0) (λ_ _=>rfl)) (λ_ _=>rfl) (BW rfl) (vq (amX) (FD Y) (aV.mono Z0)<|vq (ak7) (FA Y) (aV.mono Z0)<|vq (ang) (Fx Y) (aV.mono Z0)<|vq (ala) (Fz Y) (aV.mono Z0)<|vq (alb) (FC Y) (aV.mono Z0) oq.nil) ?_
     |refine agU ?_ ?_ ?_
     |refine aim ?_ ?_
     |refine ail ?_
     |refine QG ?_
     |refine aik ?_
     |refine aiN ?_
     |refine ake ?_
     |exact akd
   |(with_reducible show SB _ _ _ _);first
     |refine Pg ?_ ?_
     |exact UQ
   |(with_reducible show hZ _ _ _ _);first
     |refine DN ?_
     |refine DO ?_ ?_
     |exact Ph
     |exact al5
   |(with_reducible show gW _ _ _ _);first
     |refine DP ?_
     |refine Um ?_ ?_ ?_
     |refine UR _ ?_ bW
     |refine aj8 _ ?_
     |refine Pj ?_
     |refine ait rfl rfl ?_ ?_ ?_
     |refine UT _ ?_
     |refine adg _ bW ?_ ?_ ?_
     |refine US _ ?_
     |exact aa4 _ _ bW
     |exact aa3 _
     |refine alN rfl ?_ ?_
     |refine alL _ aV.fW ?_ ?_
     |refine aio _ ?_
     |exact aj1 _
     |refine akD 5 rfl rfl (λ_ _=>?_) (λ_ _=>?_) (amr 5 (ae5 Y) (aV.mono Z0) rfl rfl) Y.Yd Y.Yj (ng.cons Y.C1 Y.Yl<|ng.cons Y.CZ Y.Yk<|ng.cons Y.C5 Y.Yn<|ng.cons Y.C2 Y.Ym<|ng.cons Y.Ik Y.Yo ng.nil) bW
     |exact alJ
   |(with_reducible show sz _ _ _ _);first
     |refine g5 ?_ ?_
     |exact nW
   |(with_reducible show ST _ _ _ _);first
     |(with_reducible show ST _ _ (.Compare _ [.Lt] ..) _);refine xq Un ?_ ?_
     |(with_reducible show ST _ _ (.Compare _ [.Eq] ..) _);refine xq (T1 aV) ?_ ?_
     |(with_reducible show ST _ _ (.Compare _ [.NotEq] ..) _);refine xq (agr aV) ?_ ?_
     |(with_reducible show ST _ _ (.Compare _ [_,_] ..) _);refine alP F5 F5 ?_ ?_ ?_
     |(with_reducible show ST _ _ (.Compare _ [.Gt] ..) _);refine xq Uo ?_ ?_
     |(with_reducible show ST _ _ (.Compare _ [.NotIn] ..) _);refine xq acO ?_ ?_
     |(with_reducible show ST _ _ (.Compare _ [.Is] ..) _);refine aiO ?_
     |refine UO ?_
     |refine UN ?_
     |refine oQ.st ?_
   |(with_reducible show nJ _ _ _ _);first
     |refine ajX ?_ ?_
     |exact aii
   |(with_reducible show lk _ _ _ _ _);first
     |exact aiP
     |refine amu (by assumption) (by assumption) ?_ ?_
     |refine QO ?_ (gW.lift ?_) ?_
     |refine aky ?_
   |(with_reducible show oQ _ _ _ _);first
     |refine Ul ?_ ?_
     |refine UP ?_
     |refine aij ?_ ?_
     |refine ajY ?_
   |(with_reducible show kk _ _ _ _ _);first
     |refine Ux (by assumption) ?_
     |refine ag6 ?_ ?_ ?_
     |refine ai1 ?_
     |refine' akG ?_ ?_
     |refine Vf (as:=[Y.CR.f,Y.CS.f]) (z6 (Ae aV.fW) (u5 (g5 (mx (FE Y)) (g5 (mx (Fy Y)) nW))) (u2 Ju (lN 0) z2) (λ_ _=>rfl)) (λ_ _=>rfl) (BW rfl) (vr (ak8) (FE Y) (aV.mono Z0)<|vr (amZ) (Fy Y) (aV.mono Z0) ot.nil) ?_
     |refine Vf (as:=[Y.CP.f,Y.CQ.f,Y.CT.f,Y.CU.f,Y.CV.f]) (z6 (Ae aV.fW) (u5 (g5 (mx (FD Y)) (g5 (mx (FA Y)) (g5 (mx (Fx Y)) (g5 (mx (Fz Y)) (g5 (mx (FC Y)) nW)))))) (lN 0) (λ_ _=>rfl)) (λ_ _=>rfl) (BW rfl) (vr (ane) (FD Y) (aV.mono Z0)<|vr (amY) (FA Y) (aV.mono Z0)<|vr (anh) (Fx Y) (aV.mono Z0)<|vr (am0) (Fz Y) (aV.mono Z0)<|vr (am1) (FC Y) (aV.mono Z0) ot.nil) ?_
     |refine ai3 ?_
   |(with_reducible show th _ _ _ _);first
     |exact aj6
     |refine aj7 ?_
   |(with_reducible show rt _ _ _ _ _);first
     |refine aga ?_
     |refine akL ?_ ?_ Y.X6
     |refine ru.c ?_
   |(with_reducible show rf _ _ _ _ _);first
     |refine ag5 ?_ ?_ ?_
     |refine aiQ ?_
     |refine Ey rfl ?_ Y.C2 rfl Y.Yh
     |refine QP ?_
     |refine Ey rfl ?_ Y.C1 rfl Y.Yg
     |refine Ey rfl ?_ Y.CZ rfl Y.Yf
     |refine Ey rfl ?_ Y.C5 rfl Y.Yi
     |refine ai2 2 ?_ bW
     |refine aiW PassesOwn.leaving rfl ?_ ?_ (hZ.lift ?_) ?_
   |(with_reducible show zc _ _ _ _);first
     |refine akb ?_
     |exact aka
   |(with_reducible show sC _ _ _ _);first
     |exact Po _ bW
   |(with_reducible show z8 _ _ _ _ _);first
     |refine agb ?_
     |refine ru.s ?_
   |(with_reducible show ru _ _ _ _ _);first
     |refine aj4 ?_ Y.Ij
     |refine aj5 ?_ Y.Ij
   |(with_reducible show uL _ _ _ _ _);first
     |refine aiU ?_
     |refine aiV ?_ ?_
     |exact aiT Z0
   |(with_reducible show CB _ _ _ _);first
     |exact aiS
     |refine akA ?_
   |rfl
end
def all_mk{w:c3}{K:W.Frag}{a3:Str->Option mt}(Y:Zq K a3){l:W.OpenLaw}{da:Addr}(AR:a3 "law" = J (.ref da))(run:∀ns:List Int,ns.H<=63->∃S' n',Gp (o5 ns 11) 0=J (.aU (.aC Y0) Y1,S',n')):∃fd:hB,(∀(s:aR) (v:mt),uj s fd ⟨[v],[]⟩ [("_law_script",v)])/\∀base:Heap,K.In base->base.Ns kQ a3->i0 l.R w K a3 base iA 10 da fd ["_law_script"] (AE K):=by
 have e:=AR.symm.trans<|Y.ie.a3 Y.X Y.G
 exists e
 exact⟨Y.CY.fd "law" Lu,λs v=>.of_eq rfl,λbase _ _=>ahs (show zy l.R w K a3 base (0:Addr) from Y) run⟩
end vI
namespace To
open PySem bj bj.bO bQ jc
def placesOf(m:Nat):List Int:=(List.range m).map λ(k:Nat)=>(k:Int)
def Ar(p:List Int):Bool:=p.head?==least p
def tH(tb:List<|List Bool)(left:List Int)(p:Int):Bool:=!left.any λo=>jQ tb o p
def Bo(tb:List<|List Bool):Nat->List Int->List Int->Option ZA
 |0,row,_=>J row
 |f+1,row,left=>match left with
  |[]=>J row
  |_::_=>match left.filter (tH tb left) with
   |[]=>C
   |x::_=>Bo tb f (row++[x]) (left.filter λy=>!(y==x))
def Gq(tb:List<|List Bool):Option ZA:=Bo tb 5 []<|placesOf tb.H
def bs:List Bool:=[Y1,Y0]
def am2(cc:nc tb)(aB:left.H<=4)(aV:∀x∈left,0<=x/\x<(tb.H:Int)){p:Int}(NR:0<=p)(dB:p<(tb.H:Int))(b gU:Bool)(n:Nat) :
  EV [(dp tb,b),(dz left,gU),(.int p,Y0)] n=J (.aC<|tH tb left p,Y1,n):=by
 have de:bh=1000000:=rfl;have hu:∀m gf:bo,(m=.ag\/m=.cZ)->(gf=.ag\/gf=.cZ)->KQ [J (dp tb,m),J (dz left,gf),J (.int p,.ag)] n=J (.ao<|(left.map λo=>jQ tb o p).map T.aC,.aE,n):=by
  intro m gf hm tq;rw[ci];refine ij left T.int (T.aC∘λo=>jQ tb o p) ?_ Z3 λo aZ=>?_
  ·unfold dz fJ;rcases tq with rfl|rfl<;>simp![walked]
  ·obtain⟨o0,fs⟩:=aV o aZ;have g1:=K4 (tb:=tb) o0 fs n;have g2:=K5 cc o0 fs NR dB n;show _=J (T.aC<|jQ tb o p,bo.ag,n);generalize jQ tb o p=v at*;generalize kG _=kq at*;unfold dp at g1;unfold dz;rcases hm with rfl|rfl<;>rcases tq with rfl|rfl<;>simp![dp,ck,g1,g2]
 have a6:LX n [.ao<|(left.map λo=>jQ tb o p).map T.aC]=J (.aC (left.any λo=>jQ tb o p),.ag):=by show(hP _).map _=_;rw[bools,kh,GU];rfl
 have m0:=hu (if b then .ag else .cZ) (if gU then .ag else .cZ) (by exists b<;>simp) (by exists gU<;>simp);unfold EV RD tH;generalize (left.map λo=>jQ tb o p).map T.aC=l at*;generalize (left.any λo=>jQ tb o p)=r at*;generalize KQ=CC at*;unfold dp dz at *
 exists b<;>exists gU<;>simp only[jm,if_false,if_true]at m0<;>simp![dN,xd,m0,a6]
def F9:Option ZA->T×Bool
 |some row=>(dz row,Y0)
 |none=>(.br,Y1)
def alc{i:Nat}{n n':Nat}(h:d S n=J (t,.ag,n'))(hi:S[i]?=J (J (u,.aE)))(bT:g u t=J t'):hM i g d S n=J (.bD,S.set i<|some (t',.aE),n'):=by unfold hM aY;rw[h];simp[en,hi,bT]
def ae6{α:Type}(q:α->Bool){l:List α}{x:α}(av:x∈l)(a7:q x=Y1):(l.filter q).H<l.H:=by
 rcases l3 (l.filter q).H l.H with h|h
 ·exact h
 ·have:=r3 q l;have ak:=(List.length_filter_eq_length_iff (p:=q)).mp (h8 this h) x av;rw[a7]at ak
  exists ak
def ae7(cc:nc tb)(x0:Option ZJ)(n:Nat):∀(j F:Nat) (row left:List Int) (ct:Option ZJ),left.H<=j->j<F->row.H+left.H<=4->(∀x∈left,0<=x/\x<(tb.H:Int)) ->
  ∃S',(match Bo tb (j+1) row left with
   |some r=>iU (bK<|ai 3) tv F [x0,J (dp tb,.aE),J (dz row,.aE),J (dz left,.aE),ct] n=J (.bD,S',n)/\S'[2]?=J (J (dz r,.aE))
   |none=>iU (bK<|ai 3) tv F [x0,J (dp tb,.aE),J (dz row,.aE),J (dz left,.aE),ct] n=J (.aU .br Y1,S',n)):=by
 have de:bh=1000000:=rfl;have stop:∀(F:Nat) (row:List Int) (ct:Option ZJ),0<F->iU (bK<|ai 3) tv F [x0,J (dp tb,.aE),J (dz row,.aE),J (dz [],.aE),ct] n=J (.bD,[x0,J (dp tb,.aE),J (dz row,.aE),J (dz [],.aE),ct],n):=λF row ct cx=>by
  obtain⟨F,rfl⟩:∃G,F=G+1:=⟨F-1,by lia⟩
  unfold iU;rfl
 intro j
 induction j with
 |zero =>
  intro F row left ct aB cx cA aV;obtain rfl:left=[]:=GD.mp<|h8 aB<|gG _;exact⟨_,stop F row ct<|cx,rfl⟩
 |succ j a4 =>
  intro F row left ct aB cx cA aV;cases a7:left with
  |nil=>exact⟨_,stop F row ct<|qT<|ez cx,rfl⟩
  |cons NP aO =>
   rw[<-a7];obtain⟨G,rfl⟩:∃G,F=G+1:=⟨F-1,by lia⟩
   have hu:EW [x0,J (dp tb,.aE),J (dz row,.aE),J (dz left,.aE),ct] n=J (dz<|left.filter<|tH tb left,.aE,n):=by
    refine rC left T.int (tH tb left) T.int rfl Z3 λx av=>⟨?_,λ_=>by unfold dz dp;simp![ck]⟩
    obtain⟨h0,af⟩:=aV x av;have e:=am2 cc (left:=left) (qT cA) aV h0 af Y1 Y1 n;generalize tH tb left x=v at*;unfold dz dp at*;simp![ck,e]
   have t:bK (ai 3) [x0,J (dp tb,.aE),J (dz row,.aE),J (dz left,.aE),ct] n=J (Y0,n):=by
    have:(left.map T.int).isEmpty=Y1:=by rw[a7];rfl
    unfold dz;simp![this]
   have mS:Bo tb (j+1+1) row left=match left.filter (tH tb left) with
     |[]=>C
     |x::_=>Bo tb (j+1) (row++[x]) (left.filter λy=>!(y==x)):=by rw[a7];rfl
   rw[mS];cases hf:left.filter (tH tb left) with
   |nil =>
    rw[hf]at hu;refine⟨[x0,J (dp tb,.aE),J (dz row,.aE),J (dz left,.aE),J (dz [],.aE)],?_⟩;show iU _ _ _ _ _=_;unfold iU;rw[t];simp only[eN,if_true];have body:tv [x0,J (dp tb,.aE),J (dz row,.aE),J (dz left,.aE),ct] n=J (.aU .br Y1,[x0,J (dp tb,.aE),J (dz row,.aE),J (dz left,.aE),J (dz [],.aE)],n):=by unfold tv;generalize EW=CC at*;unfold dz dp at*;simp![dN,hu]
    rw[body];rfl
   |cons x xs =>
    rw[hf]at hu;have av:x∈left:=(lz.mp<|by rw[hf];exact dS ..).1;have dC:=ae6 (λy=>!(y==x)) av Z7;obtain⟨S',h⟩:=a4 G (row++[x]) (left.filter λy=>!(y==x)) (J (dz<|x::xs,.aE)) (kg<|d4 dC aB) (kg cx) (by rw[gq,pK];lia) λy aK=>aV y (lz.mp aK).1;have g:dv n [dz<|x::xs,.int 0]=J (.int x,.ag):=by unfold dz;rw[tr,vH T.int (x::xs) 0 Z0<|by rw[d8];lia];rfl
    have b6:KR [x0,J (dp tb,.aE),J (dz<|row++[x],.aE),J (dz left,.aE),J (dz<|x::xs,.aE)] n=J (dz (left.filter λy=>!(y==x)),.aE,n):=by
     refine rC left T.int (λy=>!(y==x)) T.int rfl Z3 λy aK=>⟨?_,λ_=>by unfold dz dp;simp![ck]⟩
     have ne:gn n [.int y,.int x]=J (.aC<|!(y==x),.ag):=rfl;generalize (!(y==x))=v at*;unfold dz dp at*;generalize (x::xs).map T.int=xx at*;generalize (row++[x]).map T.int=hq at*;simp![ck,g,ne]
    have ap:rS (dz row) (.int x)=J (dz<|row++[x]):=by unfold dz;show(if _ then _ else _)=_;rw[Y2 (by rw[cP];lia),lA];rfl
    have ch:hM 2 rS (aH dv<|aa (ai 4)<|aa ZD ar) [x0,J (dp tb,.aE),J (dz row,.aE),J (dz left,.aE),J (dz<|x::xs,.aE)] n=J (.bD,[x0,J (dp tb,.aE),J (dz<|row++[x],.aE),J (dz left,.aE),J (dz<|x::xs,.aE)],n):=alc (g:=rS) (t:=.int x) (u:=dz row) (by
     unfold dz dp at*;generalize (x::xs).map T.int=xx at *
     simp![g]) rfl ap
    have body:tv [x0,J (dp tb,.aE),J (dz row,.aE),J (dz left,.aE),ct] n=J (.bD,[x0,J (dp tb,.aE),J (dz<|row++[x],.aE),J (dz (left.filter λy=>!(y==x)),.aE),J (dz<|x::xs,.aE)],n):=by have te:((x::xs).map T.int).isEmpty=Y1:=rfl;unfold tv;generalize EW=CC at*;generalize KR=HU at*;generalize hM 2 rS (aH dv<|aa (ai 4)<|aa ZD ar)=CH at*;unfold dz dp at*;generalize (x::xs).map T.int=xx at*;generalize (row++[x]).map T.int=hq at*;simp![dN,hu,te,ch,b6]
    refine⟨S',?_⟩;unfold iU;rw[t];simp only[eN,if_true];rw[body];exact h
def order{M F:Nat}(D:ip M F ds)(eh:M<=4)(cx:F<=8)(n:Nat) :
  vA [(.aD ZB,Y0)] n=J ((F9<|Gq<|tabOf ds).1,(F9<|Gq<|tabOf ds).2,n):=by
 have de:bh=1000000:=rfl;have fO:ds.H<=4:=bP D.most eh;have az:=pq D eh cx n;have au:=Vp D eh cx n;have eQ:fe n [.aD ZB]=J (.int (ds.H:Int),.ag):=by rw[g6,cP]
 have cc:=Sx (ss:=ds) fO;have cQ:(placesOf (tabOf ds).H).H=ds.H:=by unfold placesOf;rw[cP,tV,Sy]
 obtain⟨S',h⟩:=ae7 cc (J (.aD ZB,.ag)) n 4 100000 [] (placesOf (tabOf ds).H) C (bP (d1 cQ) fO) Z0 (by rw[tX];lia) (λx av=>by
  unfold placesOf at av;obtain⟨k,aW,rfl⟩:=ey.mp av;have:=nr.mp aW
  lia)
 have fN:z0 (aa (aH fe ZE) ar) [J (.aD ZB,.ag),J (dp<|tabOf ds,.aE),J (dz [],.aE),C,C] n=J (dz<|placesOf (tabOf ds).H,.aE,n):=by
  unfold z0;have h:iB (aa (aH fe ZE) ar) [J (.aD ZB,.ag),J (dp<|tabOf ds,.aE),J (dz [],.aE),C,C] n=J (il 0 (ds.H:Int),n):=by refine EE ?_ (iq _) Z3;generalize ds.map aG=dd at*;simp![eQ]
  rw[h,Kp,Sy];show J _=J _;unfold dz placesOf;rw[ci];rfl
 have h:(match Gq (tabOf ds) with
   |some r=>EX [J (.aD ZB,.ag),J (dp<|tabOf ds,.aE),J (dz [],.aE),J (dz<|placesOf (tabOf ds).H,.aE),C] n=J (.bD,S',n)/\S'[2]?=J (J (dz r,.aE))
   |none=>EX [J (.aD ZB,.ag),J (dp<|tabOf ds,.aE),J (dz [],.aE),J (dz<|placesOf (tabOf ds).H,.aE),C] n=J (.aU .br Y1,S',n)):=h
 unfold vA RE;generalize z0 (aa (aH fe ZE) ar)=LR at*;generalize EX=LL at*;generalize placesOf (tabOf ds).H=pp at*;have hl:0<=bh:=by decide
 have NO:dz []=.ao []:=rfl;rw[NO]at fN h;cases aZ:Gq (tabOf ds) with
 |none =>
  rw[aZ]at h;unfold dp at*;generalize (tabOf ds).map kG=tt at*;generalize ds.map aG=dd at*;generalize dz pp=jd at*;simp![az,au,dF,hl,fN,h,F9]
 |some r =>
  rw[aZ]at h;obtain⟨h,h'⟩:=h;unfold dp at*;generalize (tabOf ds).map kG=tt at*;generalize ds.map aG=dd at*;generalize dz pp=jd at*;simp![az,au,dF,hl,fN,h,F9,s7,h']
end To
namespace FG
open PySem bj bj.bO
def Fj:bM:=er (fJ<|ai 0) (ck [C,J 0]) (cB 0) yes<|aH z1 ZE
def Fl:bw:=(dN 0<|cT<|aH xk<|aa (aw<|.str ",")<|aa Fj ar)
def vJ:cY:=c0 1<|Fl
def Fm:bM:=er (fJ<|ai 0) (ck [C,J 0]) (cB 0) yes<|bB 1 vJ Z8
def Fn:bw:=(bL (eS<|bB 1 bQ.g7 Z8)<|dN 0<|cT<|aH xk<|aa (aw<|.str " ")<|aa Fm ar)
def rK:cY:=c0 1<|Fn
end FG
namespace FG
open PySem bj bj.bO bQ jc
def ald:∀k:Nat,k<31->(j6 (k:Int)).H<=2/\44∉(j6 (k:Int)).cps.D/\32∉(j6 (k:Int)).cps.D/\af6 (j6 (k:Int))=J k:=by decide+kernel
def am3{x:Int}(h:0<=x/\x<=30):∃k:Nat,k<31/\x=k:=⟨x.M,by lia,by lia⟩
def ale{x:Int}(h:0<=x/\x<=30):(j6 x).H<=2:=by obtain⟨k,aW,rfl⟩:=am3 h;exact(ald k aW).1
def ni(l:List Int):Str:=Str.join ","<|l.map j6
def Gr(ds:List ZA):Str:=Str.join " "<|ds.map ni
def FH:(",": Str).H=1/\(" ": Str).H=1:=by decide+kernel
theorem Lv{B:Nat}:∀(l:List Nat),(∀x∈l,x<=B)->l.sum<=l.H*B
 |[],_=>by simp
 |x::l,h=>by have af:=h x<|dS ..;have ak:=Lv l λy aK=>h y<|am _ aK;simp only[tY,d8,sd];lia
def Tp{l:List Int}(h:∀x∈l,0<=x/\x<=30):((l.map j6).map (·.H)).sum<=l.H*2:=by
 have:=Lv (B:=2) ((l.map j6).map (·.H)) λy aK=>by rw[ci]at aK;obtain⟨x,av,rfl⟩:=ey.mp aK;exact ale<|h x av
 simpa using this
def am4(h:∀x∈l,0<=x/\x<=30)(rg:l.H<=8):(ni l).H<=24:=by have af:=StrLaws.join_length_le ","<|l.map j6;have ak:=Tp h;rw[cP,FH.1]at af;unfold ni;lia
def ae8(h:∀l∈ds,(∀x∈l,0<=x/\x<=30)/\l.H<=8)(cL:ds.H<=4):(Gr ds).H<=100/\((ds.map ni).map (·.H)).sum<=96:=by
 have af:=StrLaws.join_length_le " "<|ds.map ni;have ak:=Lv (B:=24) ((ds.map ni).map (·.H)) λy aK=>by rw[ci]at aK;obtain⟨x,av,rfl⟩:=ey.mp aK;exact am4 (h x av).1 (h x av).2
 rw[cP,FH.2]at af;simp only[cP]at ak;unfold Gr;lia
theorem Tq:∀ws:List Str,strsOf (ws.map T.str)=J ws
 |[]=>rfl
 |w::ws=>by rw[cU,strsOf,Tq ws];rfl
def agA{x:Int}(h:0<=x/\x<=30)(n:Nat):z1 n [.int x]=J (.str<|j6 x,.ag):=Y2 ⟨h.1,(jn h.2 Z0)⟩
def Tr(sep:Str)(ws:List Str)(n:Nat)(h:(ws.map (·.H)).sum+ws.H*sep.H<=bh):xk n [.str sep,.ao<|ws.map T.str]=J (.str<|Str.join sep ws,.ag):=by show(strsOf<|ws.map T.str).bind _=_;rw[Tq,eN];exact Y2 h
def ae9(h:∀x∈l,0<=x/\x<=30)(rg:l.H<=8)(n:Nat):vJ [(aG l,Y0)] n=J (.str<|ni l,Y1,n):=by
 have de:bh=1000000:=rfl;have az:Fj [J (aG l,.ag)] n=J (.ao<|(l.map j6).map T.str,.aE,n):=by
  have:=ij (it:=fJ<|ai 0) (l:=[C,J 0]) (i:=0) (e:=aH z1 ZE) (S:=[J (aG l,.ag)]) (n:=n) l T.int (λx=>T.str<|j6 x) rfl Z3 λy aK=>by simp![ck,agA<|h y aK]
  rw[ci];exact this
 have au:=Tr "," (l.map j6) n (by have:=Tp h;rw[cP,FH.1];lia);unfold vJ Fl;have a6:∀d:bw,dN 0 d [J (aG l,.ag)] n=d [J (aG l,.ag)] n:=λ_=>rfl;unfold ni;generalize (l.map j6).map T.str=ws at*;generalize Str.join "," (l.map j6)=j at*;generalize aG l=hV at*;generalize dN 0=FF at*;simp![a6,az,au]
def shown{M F:Nat}(h:ip M F ds)(eh:M<=4)(cx:F<=8)(n:Nat):rK [(.aD ZB,Y0)] n=J (.str<|Gr ds,Y1,n):=by
 have de:bh=1000000:=rfl;have hm:=h.most;have hd:∀l∈ds,(∀x∈l,0<=x/\x<=30)/\l.H<=8:=λl aB=>⟨(h.aL l aB).hI,bP (h.aL l aB).most cx⟩
 have az:Fm [J (.aD ZB,.ag)] n=J (.ao<|(ds.map ni).map T.str,.aE,n):=by
  have:=ij (it:=fJ<|ai 0) (l:=[C,J 0]) (i:=0) (e:=bB 1 vJ Z8) (S:=[J (.aD ZB,.ag)]) (n:=n) ds aG (λx=>T.str<|ni x) rfl Z3 λy aK=>by simp![ck,ae9 (hd y aK).1 (hd y aK).2 n]
  rw[ci];exact this
 have aP:=ae8 hd<|bP hm eh;have au:=Tr " " (ds.map ni) n (by rw[cP,FH.2];lia);have bX:=pq h eh cx n;unfold rK Fn;have a6:∀d:bw,dN 0 d [J (.aD ZB,.ag)] n=d [J (.aD ZB,.ag)] n:=λ_=>rfl;unfold Gr;generalize (ds.map ni).map T.str=ws at*;generalize Str.join " " (ds.map ni)=j at*;generalize T.aD ZB=hV at*;generalize dN 0=FF at*;simp![a6,az,au,bX]
end FG
namespace CE
open PySem bj bj.bO bQ jc
def ea(W:Nat):Nat->T->Bool
 |_,.br=>Y0
 |_,.aC _=>Y0
 |_,.int _=>Y0
 |_,.str _=>Y0
 |k+1,.aD xs=>decide (xs.H<=W)&&xs.all (ea W k)
 |k+1,.ao xs=>decide (xs.H<=W)&&xs.all (ea W k)
 |_,_=>Y1
def rM{W k:Nat}(h:ea W (k+1) (.aD xs)=Y0):xs.H<=W/\∀x∈xs,ea W k x=Y0:=by rw[ea,f3,decide_eq_true_eq,iL]at h;exact h
def tI{W k:Nat}(af:xs.H<=W)(ak:∀x∈xs,ea W k x=Y0):ea W (k+1) (.aD xs)=Y0:=by rw[ea,f3,decide_eq_true_eq,iL];exact⟨af,ak⟩
def vQ{W Og:Nat}(hw:W<=Og):∀(k fH:Nat) (t:T),k<=fH->ea W k t=Y0->ea Og fH t=Y0:=by
 intro k
 induction k with
 |zero =>
  intro fH t _ h
  exists t<;>first|(exists h;done)|(exists fH<;>rfl)
 |succ k a4 =>
  intro fH t aW h;obtain⟨fH,rfl⟩:∃j,fH=j+1:=⟨fH-1,by omega⟩
  cases t with
  |aD xs =>
   rw[ea,f3,decide_eq_true_eq,iL]at h |-;exact⟨bP h.1 hw,λx av=>a4 fH x (kg aW)<|h.2 x av⟩
  |ao xs =>
   rw[ea,f3,decide_eq_true_eq,iL]at h |-;exact⟨bP h.1 hw,λx av=>a4 fH x (kg aW)<|h.2 x av⟩
  |bk _=>exists h
  |dq=>exists h
  |bJ _=>exists h
  |_=>rfl
def Ts{W:Nat}:∀(k:Nat) (t:T),ea W k t=Y0->dZ k t=Y0:=by
 intro k
 induction k with
 |zero=>intro t h;exists t<;>first|rfl|(exists h;done)
 |succ k a4 =>
  intro t h;cases t with
  |aD xs =>
   rw[ea,f3,iL]at h;show xs.all (dZ k)=Y0;exact iL.mpr λx av=>a4 x<|h.2 x av
  |ao xs =>
   rw[ea,f3,iL]at h;show xs.all (dZ k)=Y0;exact iL.mpr λx av=>a4 x<|h.2 x av
  |bk _=>exists h
  |dq=>exists h
  |bJ _=>exists h
  |_=>rfl
def ly:T->Bool
 |.int i=>decide (0<=i/\i<=30)
 |_=>Y1
def rN:T->Bool
 |.bk _=>Y1
 |.dq=>Y1
 |.bJ _=>Y1
 |_=>Y0
def vR{W k:Nat}(h:ea W k t=Y0):rN t=Y0:=by
 exists t<;>first|rfl|(exists k<;>exists h;done)
def num(h:rN t=Y0)(n:Nat):lp [Z4,(.int 0,Y0),(.int 30,Y0)] n=J (.aC<|ly t,Y1,n):=by
 cases t with
 |int i =>
  by_cases hi:0<=i/\i<=30
  ·rw[xX i 0 _ n hi.1 hi.2];simp[ly,hi]
  ·rw[Sl i 0 _ n hi];simp only[ly,hi,decide_false]
 |br=>rfl
 |aC b=>exists b<;>rfl
 |str x=>rfl
 |aD xs=>rfl
 |ao xs=>rfl
 |_=>exists h
def afa:T->T->Bool
 |.int a,.int b=>decide (a<=b)
 |_,_=>Y0
def n9(xs:List T):Bool:=(List.zip xs<|xs.drop 1).all λp=>afa p.1 p.2
def gp:T->Bool
 |.aD xs=>decide (1<=xs.H/\xs.H<=8)&&xs.all ly&&n9 xs
 |_=>Y1
def gQ:T->Bool
 |.aD xs=>decide (1<=xs.H/\xs.H<=4)&&xs.all gp
 |_=>Y1
theorem FI:∀{xs:List T},xs.all ly=Y0->∃l:List Int,xs=l.map T.int/\∀x∈l,0<=x/\x<=30
 |[],_=>⟨[],rfl,by simp⟩
 |x::xs,h=>by
  rw[jT,f3]at h;obtain⟨l,rfl,aB⟩:=FI h.2;cases x with
  |int i =>
   refine⟨i::l,rfl,λy aK=>?_⟩;rcases d3.mp aK with rfl|aK
   ·exact of_decide_eq_true h.1
   ·exact aB y aK
  |_=>cases h.1
theorem Bp:∀l:List Int,n9 (l.map T.int)=Y0↔l.Pairwise (·<=·)
 |[]=>by simp[n9]
 |[x]=>by simp[n9]
 |x::y::r=>by
  have a4:=Bp<|y::r;have e:n9 ((x::y::r).map T.int)=(decide (x<=y)&&n9 ((y::r).map T.int)):=rfl;rw[e,f3,a4,decide_eq_true_eq];constructor
  ·rintro⟨af,ak⟩;refine jR.mpr ⟨λz hz=>?_,ak⟩;rcases d3.mp hz with rfl|hz
   ·exact af
   ·exact jn af<|(jR.mp ak).1 z hz
  ·intro h;obtain⟨af,ak⟩:=jR.mp h;exact⟨af y<|dS ..,ak⟩
theorem Tt:∀a b:List Int,iK (a.map T.int) (b.map T.int)=decide (a=b)
 |[],[]=>by simp[iK]
 |[],_::_=>by simp[iK]
 |_::_,[]=>by simp[iK]
 |x::a,y::b=>by rw[cU,cU,iK,Tt a b,dU];by_cases av:x=y<;>by_cases ba:a=b<;>simp[av,ba]
def Lw(a b:List Int)(n:Nat):gk n [.ao<|a.map T.int,.ao<|b.map T.int]=J (.aC<|decide (a=b),.ag):=by have cQ:∀l:List Int,dZ 6 (.ao<|l.map T.int)=Y0:=λl=>adl λ_ _=>rfl;rw[xQ];show((if dZ 6 (.ao<|a.map T.int)&&dZ 6 (.ao<|b.map T.int) then J (dU (.ao<|a.map T.int)<|.ao<|b.map T.int) else C).map _)=_;rw[cQ,cQ,Bool.and_self,Y2 rfl,dU,Tt];rfl
def afb(af:1<=l.H)(rg:l.H<=8)(aV:∀x∈l,0<=x/\x<=30)(n:Nat):kz [(aG l,Y0)] n=J (.aC<|n9<|l.map T.int,Y1,n):=by
 by_cases up:l.Pairwise (·<=·)
 ·rw[rG (F:=8) ⟨af,rg,aV,up⟩ Z0 n,(Bp l).mpr up]
 ·have ne:l≠sortI l:=λe=>up (by rw[e];exact ro l);have dE:n9 (l.map T.int)=Y1:=by rw[<-G9];exact λh=>up ((Bp l).mp h)
  have de:bh=1000000:=rfl;have au:EL [J (aG l,.ag)] n=J (.ao (l.map λ_=>.aC Y0),.aE,n) :=
   ij l T.int (λ_=>.aC Y0) rfl (by omega) λy aK=>by have hi:=aV y aK;simp![ck,xX y 0 30 n hi.1 hi.2]
  have gL:ji n [.ao (l.map λ_=>.aC Y0)]=J (.aC Y0,.ag):=by
   have e:(l.map λ_=>T.aC Y0)=(l.map λ_=>Y0).map T.aC:=by rw[ci];rfl
   rw[xS,e];have:∀bs:List Bool,hP (bs.map T.aC)=J bs:=λbs=>by
    induction bs with
    |nil=>rfl
    |cons x r a4=>simp[hP,a4]
   rw[this];simp
  have K3:l.H<64:=(gS rg Z0)
  have bX:rq n [aG l]=J (.ao<|(sortI l).map T.int,.aE):=by unfold aG;simp[rq,n4,K3]
  have eQ:nT n [aG l]=J (.ao<|l.map T.int,.aE):=rfl;have fN:=Lw l (sortI l) n;rw[decide_eq_false ne]at fN;have q7:fe n [aG l]=J (.int (l.H:Int),.ag):=by unfold aG;rw[g6,cP]
  have p4:dR .tuple n [aG l]=J (.aC Y0,.ag):=rfl;have fc:(1:Int)<=l.H:=by omega
  have fO:(l.H:Int)<=8:=by omega
  rw[dE];unfold kz xT;have mq:∀d:bw,dN 0 d [J (aG l,.ag)] n=d [J (aG l,.ag)] n:=λ_=>rfl;generalize (l.map λ_=>T.aC Y0)=bs at*;generalize (sortI l).map T.int=cX at*;generalize l.map T.int=zo at*;generalize aG l=hV at*;generalize (l.H:Int)=L at*;generalize dN 0=FF at*;simp![p4,gw,fK,dY,q7,fc,fO,mq,au,gL,bX,eQ,fN]
def Lx{W k:Nat}(h:ea W k t=Y0)(n:Nat):kz [Z4] n=J (.aC<|gp t,Y1,n):=by
 cases t with
 |aD xs =>
  cases k with
  |zero=>exists h
  |succ k =>
   obtain⟨_,av⟩:=rM h;by_cases aB:1<=xs.H/\xs.H<=8
   ·cases ba:xs.all ly with
    |true =>
     obtain⟨l,rfl,aV⟩:=FI ba;rw[cP]at aB;have:=afb aB.1 aB.2 aV n;simp only[gp,ba,cP,aB,and_self,decide_true,yI];exact this
    |false =>
     rw[adL ly aB.1 aB.2 (λt cA n=>num (vR<|av t cA) n) ba n];simp only[gp,ba,wt,se]
   ·have e:gp (.aD xs)=Y1:=by simp only[gp,aB,decide_false,se]
    rw[e];unfold kz xT;by_cases af:1<=xs.H
    ·have fc:(1:Int)<=xs.H:=by omega
     have fO:¬ (xs.H:Int)<=8:=by omega
     simp![dR,j7,kx,iE,jK,ky,gw,fK,dY,g6,fc,fO]
    ·have fc:¬ (1:Int)<=xs.H:=by omega
     simp![dR,j7,kx,iE,jK,ky,gw,fK,dY,g6,fc]
 |bk _=>exists k<;>exists h
 |dq=>exists k<;>exists h
 |bJ _=>exists k<;>exists h
 |_=>exact adK rfl n
def afc{W k:Nat}(h:ea W k t=Y0)(hd:gQ t=Y1)(n:Nat):mz [Z4] n=J (.aC Y1,Y1,n):=by
 cases t with
 |aD xs =>
  cases k with
  |zero=>exists h
  |succ k =>
   obtain⟨_,av⟩:=rM h;by_cases aB:1<=xs.H/\xs.H<=4
   ·refine adO gp aB.1 aB.2 (λt cA n=>Lx (av t cA) n) ?_ n;simpa only[gQ,aB,and_self,decide_true,yI]using hd
   ·exact adN aB n
 |bk _=>exists k<;>exists h
 |dq=>exists k<;>exists h
 |bJ _=>exists k<;>exists h
 |_=>exact adM rfl n
end CE
namespace vI
open PySem bj bj.bO bQ jc CE
def aht:Fq=c0 5 (iF bQ.KW):=rfl
def ahu:Lk=c0 5 (iF Fq):=rfl
def ahv:Ll=c0 5 (iF Lk):=rfl
def ahw:Lm=c0 5 (iF Ll):=rfl
def ahx:px=c0 5 (iF Lm):=rfl
noncomputable def yj:List T:=[.br,.aC Y0,.str "1",.int 0,.int 1,.int 5,.int 30,.int 31,.int<|-1,.aD [],.aD [.int 0],.aD [.int 1,.int 2],.ao [.int 1],.int 4096,.int 4097,.int 120,.int 121]
def ahy(S:bE)(n:Nat):Lj S n=J (.ao yj,.aE,n):=rfl
def alf{W k:Nat}(jA:2<=W):∀t∈yj,ea W (k+1) t=Y0:=by intro t cA;refine vQ jA 1 (k+1) t (wi _ _) ?_;simp only[yj,d3,qQ,or_false]at cA;rcases cA with rfl|rfl|rfl|rfl|rfl|rfl|rfl|rfl|rfl|rfl|rfl|rfl|rfl|rfl|rfl|rfl|rfl<;>rfl
def Good(ns:List Int)(fp:cY)(k:Nat):Prop:=∀(W:Nat) (x:T) (n:Nat),2<=W->W<=1000->ea W k x=Y0->n+2*(k+1)<=bh ->
 ∃fz n',fp [ZO,(.dq,Y0),(x,Y0)] n=J (fz,Y1,n')/\ea (9*W) (k+1) fz=Y0/\n<=n'/\n'<=n+2*(k+1)
def Ly(h:dZ 6 (.aD xs)=Y0)(n:Nat):gn n [.aD xs,.aD []]=J (.aC<|!xs.isEmpty,.ag):=by
 rw[xR];show((if dZ 6 (.aD xs)&&dZ 6 (.aD []) then J (dU (.aD xs)<|.aD []) else C).map _)=_;rw[h];cases xs with
 |nil=>rfl
 |cons x r=>simp[dU,iK,dZ]
def FJ(ns:List Int)(fp:cY){W k:Nat}{n:Nat}(jA:2<=W)(bz:n+2<=bh)(r:Int)(az:j8 [ZO,(.dq,Y0),(.int 8,Y0)] n=J (.int r,Y1,n+1))(b6:og .tuple t=J Y1\/∃xs,t=.aD xs/\dZ 6 (.aD xs)=Y0/\(xs=[]\/¬1<r)/\r≠1) :
  ∃fz n',c0 5 (iF fp) [ZO,(.dq,Y0),Z4] n=J (fz,Y1,n')/\ea (9*W) (k+1) fz=Y0/\n<=n'/\n'<=n+2:=by
 obtain⟨v,bS,au⟩:=Be ns yj Y0 (n+1) (by simp[yj])<|bz;refine⟨v,n+1+1,?_,alf (bP jA<|tZ _ Z0) v bS,(oA<|gb _ _),(cg _)⟩;have FK:=ahy;unfold iF;generalize yj=oo at*;generalize Lj=KO at*;rcases b6 with h|⟨xs,rfl,aF,h,af⟩
 ·have hi:∀n,dR .tuple n [t]=J (.aC Y1,.ag):=λn=>by simp[dR,h]
  simp![az,hi,FK,au]
 ·have kr:(r==1)=Y1:=by simpa using af
  have hi:∀n,dR .tuple n [.aD xs]=J (.aC Y0,.ag):=λn=>rfl;have hl:0<=bh:=by decide
  have ne:=Ly aF;rcases h with rfl|h
  ·simp![az,hi,cw,hl,ne,n5,kr,FK,au]
  ·cases av:xs.isEmpty with
   |true =>
    rw[av]at ne;simp![az,hi,cw,hl,ne,n5,kr,FK,au]
   |false =>
    rw[av]at ne;simp![az,hi,cw,hl,ne,rm,dY,h,n5,kr,FK,au]
def am5(ns:List Int)(fp:cY){W k:Nat}{n:Nat}(jA:2<=W)(vS:W<=1000)(aP:ea W (k+1) (.aD xs)=Y0)(aF:dZ 6 (.aD xs)=Y0)(bz:n+2<=bh)(az:j8 [ZO,(.dq,Y0),(.int 8,Y0)] n=J (.int 1,Y1,n+1)) :
  ∃fz n',c0 5 (iF fp) [ZO,(.dq,Y0),(.aD xs,Y0)] n=J (fz,Y1,n')/\ea (9*W) (k+1+1) fz=Y0/\n<=n'/\n'<=n+2:=by
 have de:bh=1000000:=rfl;obtain⟨aB,av⟩:=rM aP;have mul:∀n,kE n [.aD xs,.int 5]=J (.aD (List.replicate 5 xs).flatten,.ag):=λn=>by show(if xs.H<=1000 /\ -1000<=(5:Int)/\(5:Int)<=10000/\xs.H*(5:Int).M<=bh then J (T.aD (List.replicate (5:Int).M xs).flatten,bo.ag) else C)=_;rw[Y2 ⟨(bP aB vS),by decide,by decide,by show xs.H*5<=bh;lia⟩];rfl
 have s1:jj xs (J 1) C=xs.drop 1:=E8 xs 1;have last:∃aO:List T,jj xs (J<|-1) C=aO/\aO.H<=1/\∀y∈aO,y∈xs:=by
  refine⟨_,rfl,?_,?_⟩
  ·unfold jj;rw[jS,gc];unfold bj.bO.bound;simp;lia
  ·intro y aK;unfold jj at aK;exact wc<|tT aK
 obtain⟨aO,s2,uz,YQ⟩:=last;have ad:∀n,ej n [.aD xs,.aD aO]=J (.aD<|xs++aO,.ag):=λn=>by rw[vv,Y2 Z3]
 have li:∀n,nT n [.aD xs]=J (.ao xs,.aE):=λn=>rfl;obtain⟨v,bS,au⟩:=Be ns [.ao xs,.aD (List.replicate 5 xs).flatten,.aD<|xs.drop 1,.aD xs.reverse,.aD<|xs++aO] Y0 (n+1) Z7<|bz;refine⟨v,n+1+1,?_,?_,(oA<|gb _ _),(cg _)⟩
 ·have hi:∀n,dR .tuple n [.aD xs]=J (.aC Y0,.ag):=λn=>rfl;have hl:0<=bh:=by decide
  have sJ:5<=bh:=by decide
  have ne:=Ly aF;have Oh:∀n,pD n [.int 1]=J (.int<|-1,.ag):=λn=>rfl;have af:¬ (1:Int)<1:=by decide
  have ak:((1:Int)==1)=Y0:=rfl;unfold iF;generalize (List.replicate 5 xs).flatten=fW at*;generalize xs.drop 1=f7 at*;generalize aV:xs.reverse=u3 at*;generalize xs++aO=u4 at*;unfold lW lK lL By;cases av:xs.isEmpty with
  |true =>
   rw[av]at ne;simp![az,hi,cw,hl,ne,n5,ak,dF,sJ,li,mul,s1,aV,Oh,s2,ad,au]
  |false =>
   rw[av]at ne;simp![az,hi,cw,hl,ne,rm,dY,af,n5,ak,dF,sJ,li,mul,s1,aV,Oh,s2,ad,au]
 ·have up:∀x∈xs,ea (9*W) (k+1) x=Y0:=λx h=>vQ (tZ _ Z0) k (k+1) x (gb _ _)<|av x h;have bG:∀(m:Nat) (x:T),x∈(List.replicate m xs).flatten->x∈xs:=λm x h=>by obtain⟨l,vj,DQ⟩:=List.mem_flatten.mp h;rw[(MH.mp vj).2]at DQ;exact DQ
  simp only[d3,qQ,or_false]at bS;rcases bS with rfl|rfl|rfl|rfl|rfl
  ·rw[ea,f3,decide_eq_true_eq,iL];exact⟨(bP aB<|tZ _ Z0),up⟩
  ·exact tI (by rw[List.length_flatten,List.map_replicate,Mx];exact wj Z0 aB) λx h=>up x<|bG 5 x h
  ·exact tI (by rw[gc];lia) λx h=>up x<|wc h
  ·exact tI (by rw[yo];exact bP aB<|tZ _ Z0) λx h=>up x<|MR.mp h
  ·refine tI (by rw[gq];lia) λx h=>?_;rcases hQ.mp h with h|h
   ·exact up x h
   ·exact up x<|YQ x h
def ahz(ns:List Int)(fp:cY){W k:Nat}(iP:Good ns fp k){n:Nat}(jA:2<=W)(vS:W<=1000)(aP:ea W (k+1) (.aD xs)=Y0)(aF:dZ 6 (.aD xs)=Y0)(JL:xs.isEmpty=Y1)(bz:n+2*(k+2)<=bh)(r:Int)(aV:1<r)(az:j8 [ZO,(.dq,Y0),(.int 8,Y0)] n=J (.int r,Y1,n+1)) :
  ∃fz n',c0 5 (iF fp) [ZO,(.dq,Y0),(.aD xs,Y0)] n=J (fz,Y1,n')/\ea (9*W) (k+1+1) fz=Y0/\n<=n'/\n'<=n+2*(k+2):=by
 have de:bh=1000000:=rfl;obtain⟨aB,av⟩:=rM aP;have fh:1<=xs.H:=by
  cases xs with
  |nil=>exists JL
  |cons _ _=>simp
 obtain⟨a,iQ,a1,au⟩:=qF ns (n+1) xs.H Z3 Z3;obtain⟨j,rfl⟩:∃j:Nat,a=j:=⟨a.M,by lia⟩
 have bU:j<xs.H:=by lia
 have g:gE xs (j:Int)=J xs[j]:=by unfold gE;rw[Y2<|iQ,Y2<|a1,t9,hh bU]
 have hm:=oy bU;obtain⟨fz,n',a6,cN,dD,iN⟩:=iP W xs[j] (n+1+1) jA vS (av _ hm) Z3;have s1:jj xs C (J (j:Int))=xs.take j:=Sa xs j;have s2:jj xs (J<|(j:Int)+1) C=xs.drop (j+1):=by rw[show((j:Int)+1)=((j+1:Nat):Int) from rfl];exact E8 xs<|j+1
 have Lz:∀n,ej n [.aD<|xs.take j,.aD [fz]]=J (.aD<|xs.take j++[fz],.ag):=λn=>by rw[vv,Y2];rw[jS,pK];lia
 have LA:∀n,ej n [.aD<|xs.take j++[fz],.aD<|xs.drop<|j+1]=J (.aD<|xs.take j++[fz]++xs.drop (j+1),.ag):=λn=>by rw[vv,Y2];rw[gq,jS,pK,gc];lia
 refine⟨.aD<|xs.take j++[fz]++xs.drop (j+1),n',?_,?_,(ez<|kN dD),by lia⟩
 ·have hi:∀n,dR .tuple n [.aD xs]=J (.aC Y0,.ag):=λn=>rfl;have hl:0<=bh:=by decide
  have cq:1<=bh:=by decide
  have ne:=Ly aF;rw[JL]at ne;unfold iF;generalize xs[j]=xj at*;generalize xs.take j++[fz]++xs.drop (j+1)=u3 at*;generalize xs.take j++[fz]=f7 at*;generalize xs.take j=fW at*;generalize xs.drop (j+1)=u4 at*;unfold lW lK lL;simp![az,hi,cw,hl,cq,ne,rm,dY,aV,g6,au,s1,my,g,a6,pk,s2,Lz,LA]
 ·refine tI ?_ λx h=>?_
  ·rw[gq,gq,jS,pK,gc];lia
  ·have up:∀x∈xs,ea (9*W) (k+1) x=Y0:=λx h=>vQ (tZ _ Z0) k (k+1) x (gb _ _)<|av x h;rcases hQ.mp h with h|h
   ·rcases hQ.mp h with h|h
    ·exact up x<|tT h
    ·rw[ow.mp h];exact cN
   ·exact up x<|wc h
def Vt(ns:List Int)(fp:cY):Good ns (c0 5<|iF fp) 0:=by
 intro W x n jA vS aP bz;obtain⟨r,jv,bA,az⟩:=qF ns n 8 Z0<|kN bz;refine FJ ns fp jA (bz) r az<|.inl ?_
 exists x<;>first|rfl|(exists aP;done)
def ajv(ns:List Int)(fp:cY){k:Nat}(aW:k+1<=6)(iP:Good ns fp k):Good ns (c0 5<|iF fp)<|k+1:=by
 intro W x n jA vS aP bz;obtain⟨r,jv,bA,az⟩:=qF ns n 8 Z0<|qS bz;have aF:dZ 6 x=Y0:=Ts 6 x<|vQ (cg W) (k+1) 6 x aW aP;have weak:∀{m:Nat},(∃fz n',c0 5 (iF fp) [ZO,(.dq,Y0),(x,Y0)] n=J (fz,Y1,n')/\ea (9*W) (k+1+1) fz=Y0/\n<=n'/\n'<=n+2) ->
   ∃fz n',c0 5 (iF fp) [ZO,(.dq,Y0),(x,Y0)] n=J (fz,Y1,n')/\ea (9*W) (k+1+1) fz=Y0/\n<=n'/\n'<=n+2*(k+1+1):=λ{m} ⟨fz,n',af,ak,bc,cL⟩=>⟨fz,n',af,ak,bc,by lia⟩
 cases x with
 |aD xs =>
  by_cases af:r=1
  ·subst af;exact weak (m:=0)<|am5 ns fp jA vS aP aF Z3 az
  ·cases av:xs.isEmpty with
   |true=>exact weak (m:=0)<|FJ ns fp jA Z3 r az<|.inr ⟨xs,rfl,aF,.inl<|List.isEmpty_iff.mp av,af⟩
   |false =>
    by_cases ak:1<r
    ·exact ahz ns fp iP jA vS aP aF av (bz) r ak az
    ·exact weak (m:=0)<|FJ ns fp jA Z3 r az<|.inr ⟨xs,rfl,aF,.inr ak,af⟩
 |bk _=>exists aP
 |dq=>exists aP
 |bJ _=>exists aP
 |_=>exact weak (m:=0)<|FJ ns fp jA Z3 r az<|.inl rfl
def Bq(ns:List Int):∀k,k<=4->Good ns px k:=by
 have af:∀k,k<=0->Good ns Fq k:=λk aW=>by
  obtain rfl:k=0:=(h8 aW<|gG _)
  rw[aht];exact Vt ns _
 have FL:∀(j:Nat) (f g:cY),j<=4->g=c0 5 (iF f)->(∀k,k<=j->Good ns f k)->∀k,k<=j+1->Good ns g k:=λj f g bU e h k aW=>by
  rw[e];cases k with
  |zero=>exact Vt ns f
  |succ k=>exact ajv ns f Z3<|h k<|kg aW
 have ak:=FL 0 _ _ Z0 ahu af;have bc:=FL 1 _ _ Z0 ahv ak;have cL:=FL 2 _ _ Z0 ahw bc;exact FL 3 _ _ Z0 ahx cL
def gR(lo hi:Int):T->Bool
 |.int i=>decide (lo<=i)&&decide (i<=hi)
 |_=>Y1
def whole(h:rN t=Y0)(lo hi:Int)(n:Nat):x3 [Z4,(.int lo,Y0),(.int hi,Y0)] n=J (.aC<|gR lo hi t,Y1,n):=by
 cases t with
 |int i =>
  have az:xd (bK<|aH (dR .bool) ZE) [J (.int i,.ag),J (.int lo,.ag),J (.int hi,.ag)] n=J (.aC Y0,.ag,n):=rfl;have au:gw fK fK (ai 1) (ai 0) (ai 2) [J (.int i,.ag),J (.int lo,.ag),J (.int hi,.ag)] n=J (.aC<|decide (lo<=i)&&decide (i<=hi),.ag,n):=by
   by_cases a:lo<=i
   ·by_cases b:i<=hi<;>simp![gw,fK,dY,a,b]
   ·simp![gw,fK,dY,a]
  unfold x3 Tf gR;generalize gw fK fK (ai 1) (ai 0) (ai 2)=CH at*;generalize xd (bK<|aH (dR .bool) ZE)=NV at*;simp![dR,j7,az,au]
 |aC b=>exists b<;>rfl
 |br=>rfl
 |str x=>rfl
 |aD xs=>rfl
 |ao xs=>rfl
 |_=>exists h
def ajw(t:T):gR 0 30 t=ly t:=by
 exists t<;>first|rfl|simp[gR,ly]
def bools(g:T->Bool)(l:List T):hP (l.map λt=>T.aC<|g t)=J (l.map g):=by
 induction l with
 |nil=>rfl
 |cons x r a4=>simp[hP,a4]
def vt(g:T->Bool)(l:List T)(n:Nat):ji n [.ao (l.map λt=>T.aC<|g t)]=J (.aC<|l.all g,.ag):=by simp only[ji,bools,kh,pP];rfl
def LB{W k:Nat}{t:T}(h:ea W k t=Y0)(n:Nat):vP [Z4] n=J (.aC<|gp t,Y1,n):=by
 cases t with
 |aD xs =>
  cases k with
  |zero=>exists h
  |succ k =>
   obtain⟨_,av⟩:=rM h;unfold vP Th;by_cases aB:1<=xs.H/\xs.H<=8
   ·have fc:(1:Int)<=xs.H:=by lia
    have fO:(xs.H:Int)<=8:=by lia
    have de:bh=1000000:=rfl;have au:Tg [J (.aD xs,.ag)] n=J (.ao (xs.map λt=>T.aC<|ly t),.aE,n) :=
     ij xs id (λt=>.aC<|ly t) (by rw[r8];rfl) Z3 λy aK=>by simp![ck,whole<|vR<|av y aK,ajw]
    have bX:=vt ly xs n;have mq:∀d:bw,dN 0 d [J (.aD xs,.ag)] n=d [J (.aD xs,.ag)] n:=λ_=>rfl;cases ba:xs.all ly with
    |false =>
     rw[ba]at bX;simp only[gp,ba,wt,se];generalize xs.map (λt=>T.aC<|ly t)=bs at*;generalize dN 0=FF at*;simp![mq,dR,j7,kx,iE,jK,ky,gw,fK,dY,g6,fc,fO,au,bX]
    |true =>
     rw[ba]at bX;obtain⟨l,rfl,aV⟩:=FI ba;have es:xe n [aG l]=J (.ao<|(sortI l).map T.int,.aE):=by show(e2<|l.map T.int).map _=_;rw[n4];rfl
     have qa:nT n [aG l]=J (.ao<|l.map T.int,.aE):=rfl;have eq:=Lw l (sortI l) n;have up:decide (l=sortI l)=n9 (l.map T.int):=by rw[Ha,decide_eq_true_iff,Bp];exact⟨λe=>by rw[e];exact ro l,λp=>zW (.refl _) p⟩
     rw[up]at eq;have cq:gp (.aD<|l.map T.int)=n9 (l.map T.int):=by simp only[gp,ba,aB,and_self,decide_true,yI]
     rw[cq];have p4:dR .tuple n [aG l]=J (.aC Y0,.ag):=rfl;have q7:fe n [aG l]=J (.int (l.map T.int).H,.ag):=rfl;show(c0 1 _) [(aG l,Y0)] n=_;generalize (l.map T.int).map (λt=>T.aC<|ly t)=bs at*;generalize (sortI l).map T.int=cX at*;generalize n9 (l.map T.int)=uu at*;generalize ((l.map T.int).H:Int)=LL at*;generalize dN 0=FF at*;unfold aG at*;generalize l.map T.int=zo at*;simp![mq,p4,gw,fK,dY,q7,fc,fO,au,bX,qa,es,eq]
   ·have e:gp (.aD xs)=Y1:=by simp only[gp,aB,decide_false,se]
    rw[e];by_cases af:1<=xs.H
    ·have fc:(1:Int)<=xs.H:=by lia
     have fO:¬ (xs.H:Int)<=8:=by lia
     simp![dN,dR,j7,kx,iE,jK,ky,gw,fK,dY,g6,fc,fO]
    ·have fc:¬ (1:Int)<=xs.H:=by lia
     simp![dN,dR,j7,kx,iE,jK,ky,gw,fK,dY,g6,fc]
 |bk _=>exists k<;>exists h
 |dq=>exists k<;>exists h
 |bJ _=>exists k<;>exists h
 |_=>rfl
def number(h:rN t=Y0)(lo hi:Int)(n:Nat):lp [Z4,(.int lo,Y0),(.int hi,Y0)] n=J (.aC<|gR lo hi t,Y1,n):=by
 cases t with
 |int i =>
  by_cases c:lo<=i/\i<=hi
  ·rw[xX i lo hi n c.1 c.2];simp[gR,c]
  ·rw[Sl i lo hi n c];simp only[gR,<-Bool.decide_and,c,decide_false]
 |aC b=>exists b<;>rfl
 |br=>rfl
 |str x=>rfl
 |aD xs=>rfl
 |ao xs=>rfl
 |_=>exists h
def kH:T->Bool
 |.aD [a,b]=>gR 0 120 a&&gR 1 4096 b
 |_=>Y1
def Vu{k:Nat}(h:k≠2)(n:Nat):gn n [.int (k:Nat),.int 2]=J (.aC Y0,.ag):=by rw[xR];show J (T.aC<|!decide ((k:Int)=2),bo.ag)=_;rw[decide_eq_false Z3];rfl
def Vv(h:xs.H≠2):kH (.aD xs)=Y1:=by
 match xs with
 |[]=>rfl
 |[_]=>rfl
 |[_,_]=>exact absurd rfl h
 |_::_::_::_=>rfl
def alg{W k:Nat}(h:ea W k x=Y0)(n:Nat):vw [(x,Y0)] n=J (.aC<|kH x,Y1,n):=by
 cases x with
 |aD xs =>
  cases k with
  |zero=>exists h
  |succ k =>
   obtain⟨_,av⟩:=rM h;by_cases aB:xs.H=2
   ·match xs,aB with
    |[a,b],_ =>
     have ba:=number (vR<|av a Z7) 0 120 n;have aq:=number (vR<|av b Z7) 1 4096 n;have fk:dv n [.aD [a,b],.int 0]=J (a,.ag):=rfl;have g1:dv n [.aD [a,b],.int 1]=J (b,.ag):=rfl;have ne:gn n [.int 2,.int 2]=J (.aC Y1,.ag):=rfl;have ln:fe n [.aD [a,b]]=J (.int 2,.ag):=rfl;have ty:dR .tuple n [.aD [a,b]]=J (.aC Y0,.ag):=rfl;rw[show kH (.aD [a,b])=(gR 0 120 a&&gR 1 4096 b) from rfl];unfold vw EM;generalize T.aD [a,b]=tt at*;generalize gR 0 120 a=u at*;generalize gR 1 4096 b=v at *
     exists u<;>simp![ty,ln,ne,fk,g1,ba,aq]
   ·have ne:=Vu aB n;rw[Vv aB];unfold vw EM;simp![dR,iE,g6,ne]
 |bk _=>exists k<;>exists h
 |dq=>exists k<;>exists h
 |bJ _=>exists k<;>exists h
 |_=>rfl
def alh{W k:Nat}{x:T}(h:ea W k x=Y0)(x0:Option ZJ)(n:Nat):Bk [x0,J (x,.ag)] n=J ((if kH x then .bD else .aU (.aC Y1) Y1),[x0,J (x,.ag)],n):=by
 cases x with
 |aD xs =>
  cases k with
  |zero=>exists h
  |succ k =>
   obtain⟨_,av⟩:=rM h;by_cases aB:xs.H=2
   ·match xs,aB with
    |[a,b],_ =>
     have ba:=whole (vR<|av a Z7) 0 120 n;have aq:=whole (vR<|av b Z7) 1 4096 n;have fk:dv n [.aD [a,b],.int 0]=J (a,.ag):=rfl;have g1:dv n [.aD [a,b],.int 1]=J (b,.ag):=rfl;have ne:gn n [.int 2,.int 2]=J (.aC Y1,.ag):=rfl;have ln:fe n [.aD [a,b]]=J (.int 2,.ag):=rfl;have ty:dR .tuple n [.aD [a,b]]=J (.aC Y0,.ag):=rfl;rw[show kH (.aD [a,b])=(gR 0 120 a&&gR 1 4096 b) from rfl];unfold Bk;generalize T.aD [a,b]=tt at*;generalize gR 0 120 a=u at*;generalize gR 1 4096 b=v at *
     exists u<;>exists v<;>simp![ty,ln,ne,fk,g1,ba,aq]
   ·have ne:=Vu aB n;rw[Vv aB];unfold Bk;simp![dR,iE,g6,ne]
 |bk _=>exists k<;>exists h
 |dq=>exists k<;>exists h
 |bJ _=>exists k<;>exists h
 |_=>rfl
theorem Tu{W k:Nat}(x0:Option ZJ)(n:Nat):∀(xs:List T) (bH:Option ZJ),(∀x∈xs,ea W k x=Y0) ->
  ∃vT,fF (cB 1) Bk xs [x0,bH] n=J ((if xs.all kH then .bD else .aU (.aC Y1) Y1),[x0,vT],n)
 |[],bH,_=>⟨bH,rfl⟩
 |x::xs,bH,h=>by
  have body:=alh (h x<|dS ..) x0 n;cases bz:kH x with
  |true =>
   rw[bz]at body;obtain⟨vT,az⟩:=Tu x0 n xs (J (x,.ag)) λy aK=>h y<|am _ aK;refine⟨vT,?_⟩;unfold fF;simp only[bj.bO.cB,kL,kM,eN,body,if_true];rw[az,jT,bz,yI]
  |false =>
   rw[bz]at body;refine⟨J (x,.ag),?_⟩;unfold fF;simp only[bj.bO.cB,kL,kM,eN,body,jT,bz,se];rfl
theorem FN:∀{xs:List T},xs.all kH=Y0->∃L:List Z6,xs=e1 L/\∀q∈L,0<=q.1/\q.1<=120/\1<=q.2/\q.2<=4096
 |[],_=>⟨[],rfl,λ_ h=>by exists h⟩
 |x::xs,h=>by
  rw[jT,f3]at h;obtain⟨L,rfl,ek⟩:=FN h.2;have inv:∀{t:T} {lo hi:Int},gR lo hi t=Y0->∃i,t=.int i/\lo<=i/\i<=hi:=λ{t lo hi} e=>by
   cases t with
   |int i=>exact⟨i,rfl,by simpa[gR]using e⟩
   |_=>exists e
  match x,h.1 with
  |.aD [a,b],e =>
   have e:(gR 0 120 a&&gR 1 4096 b)=Y0:=e;rw[f3]at e;obtain⟨i,rfl,ja⟩:=inv e.1;obtain⟨j,rfl,nM⟩:=inv e.2
   exact⟨(i,j)::L,rfl,λq a7=>by
    rcases d3.mp a7 with rfl|a7
    ·exact⟨ja.1,ja.2,nM.1,nM.2⟩
    ·exact ek q a7⟩
def ali(aP:List Int):decide (aP=sortI (hY aP))=(List.zip aP<|aP.drop 1).all λp=>decide (p.1<p.2):=by
 have up:∀l:List Int,((List.zip l<|l.drop 1).all λp=>decide (p.1<p.2))=Y0↔l.Pairwise (·<·):=by
  intro l
  induction l with
  |nil=>simp
  |cons a l a4 =>
   cases l with
   |nil=>simp
   |cons b l =>
    have a4:((List.zip (b::l) l).all λp=>decide (p.1<p.2))=Y0↔(b::l).Pairwise (·<·):=a4;show((List.zip (a::b::l)<|b::l).all λp=>decide (p.1<p.2))=Y0↔_;rw[MI,jT,f3,a4,decide_eq_true_iff,show(a::b::l).Pairwise (·<·)↔(∀x∈b::l,a<x)/\(b::l).Pairwise (·<·) from jR];constructor
    ·rintro⟨h,p⟩;refine⟨λx av=>?_,p⟩;rcases d3.mp av with rfl|av
     ·exact h
     ·exact Int.lt_trans h<|(jR.mp p).1 x av
    ·rintro⟨h,p⟩;exact⟨h b<|dS ..,p⟩
 rw[Ha,decide_eq_true_iff,up];constructor
 ·intro e;have bW:aP.Nodup:=by rw[e];exact(sortI_perm _).nodup_iff.mpr (AH _)
  have w1:aP.Pairwise (·<=·):=by rw[e];exact ro _
  exact(w1.and bW).imp λh=>by lia
 ·intro p;have bW:aP.Nodup:=p.imp λh=>(yK h)
  exact zW ((Mt bW<|AH aP).mpr λx=>(Eo x aP).symm) (p.imp λh=>(kO h))
def Br:List T->List Int
 |.aD [.int a,_]::r=>a::Br r
 |_=>[]
theorem FO:∀L:List Z6,Br (e1 L)=L.map (·.1)
 |[]=>rfl
 |q::L=>by show q.1::Br (e1 L)=_;rw[FO L];rfl
def x5(xs:List T):Bool:=decide (Br xs=sortI (hY<|Br xs))
def yk(xs:List T):Bool:=!xs.isEmpty&&(xs.all kH&&x5 xs)
theorem zip_rows:∀p q:List Z6,List.zipWith (λx y=>T.aD [x,y]) (e1 p) (e1 q)=(List.zip p q).map λy=>T.aD [.aD [.int y.1.1,.int y.1.2],.aD [.int y.2.1,.int y.2.2]]
 |[],_=>rfl
 |_::_,[]=>rfl
 |x::p,y::q=>by have:=zip_rows p q;simp only[e1,cU,List.zipWith_cons_cons,MI]at this |-;rw[this]
def afd{W k:Nat}(h:∀x∈xs,ea W k x=Y0)(aB:xs.H<=60)(n:Nat):kA [(.ao xs,Y0)] n=J (.aC<|yk xs,Y1,n):=by
 have de:bh=1000000:=rfl;cases xs with
 |nil=>rfl
 |cons x0 afe =>
  generalize av:x0::afe=xs at*;have ne:xs.isEmpty=Y1:=by rw[<-av];rfl
  have au:EN [J (.ao xs,.ag),C] n=J (.ao (xs.map λt=>T.aC<|kH t),.aE,n) :=
   ij xs id (λt=>.aC<|kH t) (by rw[r8];rfl) Z3 λy aK=>by have e:=alg (h y aK) n;simp![ck,e]
  have bX:=vt kH xs n;have mq:∀d:bw,dN 0 d [J (.ao xs,.ag),C] n=d [J (.ao xs,.ag),C] n:=λ_=>rfl;have ty:dR .list n [.ao xs]=J (.aC Y0,.ag):=rfl;unfold kA Kv yk;rw[ne];cases ba:xs.all kH with
  |false =>
   rw[ba]at bX;generalize xs.map (λt=>T.aC<|kH t)=bs at*;generalize dN 0=FF at*;simp![mq,ty,ne,au,bX]
  |true =>
   rw[ba]at bX;obtain⟨L,rfl,ek⟩:=FN ba;have zo:(e1 L).H=L.H:=cP ..;have b6:AZ [J (.ao<|e1 L,.ag),C] n=J (.ao<|(L.map (·.1)).map T.int,.aE,n):=by rw[ci];refine ij L (λp=>.aD [.int p.1,.int p.2]) (T.int∘(·.1)) rfl Z3 λq a7=>?_;simp![ck,my,gE]
   have lQ:DF n [.ao<|(L.map (·.1)).map T.int]=J (.ao<|(sortI<|hY<|L.map (·.1)).map T.int,.aE):=by
    have e:rp n [.ao<|(L.map (·.1)).map T.int]=J (L.map (·.1)):=by show(e2 _).bind _=_;rw[n4,eN,Y2<|by rw[cP];lia]
    show(rp n _).map _=_;rw[e];rfl
   have eq:=Lw (L.map (·.1)) (sortI<|hY<|L.map (·.1)) n;unfold x5;rw[FO];generalize decide (L.map (·.1)=sortI (hY<|L.map (·.1)))=res at*;generalize (sortI<|hY<|L.map (·.1)).map T.int=ss at*;generalize (L.map (·.1)).map T.int=bp at*;generalize (e1 L).map (λt=>T.aC<|kH t)=bs at*;generalize e1 L=cQ at*;generalize dN 0=FF at*;generalize AZ=HU at*;simp![mq,ty,ne,au,bX,b6,lQ,eq]
def aff{W k:Nat}{xs:List T}(h:∀x∈xs,ea W k x=Y0)(aW:k<=4)(aB:xs.H<=60)(n:Nat):Bl [(.ao xs,Y0)] n=J (.aC<|yk xs,Y1,n):=by
 have de:bh=1000000:=rfl;have hl:0<=bh:=by decide
 have gC:dZ 6 (.ao xs)=Y0:=by show xs.all (dZ 5)=Y0;rw[iL];exact λx av=>Ts 5 x<|vQ (cg W) k 5 x (MW aW)<|h x av
 have eq:gk n [.ao xs,.ao []]=J (.aC xs.isEmpty,.ag):=by
  rw[xQ];show(if(dZ 6 (.ao xs)&&dZ 6 (.ao []))=Y0 then J (iK xs []) else C).map _=_;rw[gC]
  exists xs<;>rfl
 have ty:dR .list n [.ao xs]=J (.aC Y0,.ag):=rfl;unfold Bl Ti yk;cases he:xs.isEmpty with
 |true =>
  rw[he]at eq;simp![ty,dF,hl,eq]
 |false =>
  rw[he]at eq;obtain⟨vT,jd⟩:=Tu (J (.ao xs,.ag)) n xs C h;have jd:fC 0 Fp [J (.ao xs,.ag),C] n=J ((if xs.all kH then .bD else .aU (.aC Y1) Y1),[J (.ao xs,.ag),vT],n):=jd;cases ba:xs.all kH with
  |false =>
   rw[ba]at jd;generalize fC 0 Fp=LL at*;simp![ty,dF,hl,eq,jd]
  |true =>
   rw[ba]at jd;obtain⟨L,rfl,ek⟩:=FN ba;have zo:(e1 L).H=L.H:=cP ..;have hu:Li [J (.ao<|e1 L,.ag),vT] n=J (.ao<|((List.zip L<|L.drop 1).map λp=>decide (p.1.1<p.2.1)).map T.aC,.aE,n):=by
    have:=amw (it:=EC (ai 0)<|lW (ai 0) (lL Z5) lK) (l:=[C,J 0,C]) (i:=2) (j:=0) (c:=yes) (e:=aH eE<|aa (aH dv<|aa (ai 2)<|aa ZD ar)<|aa (aH dv<|aa (ai 0)<|aa ZD ar) ar) (S:=[J (.ao<|e1 L,.ag),vT]) (n:=n)
     (List.zip L<|L.drop 1) (λy=>.aD [.int y.1.1,.int y.1.2]) (λy=>.aD [.int y.2.1,.int y.2.2]) (λ_=>Y0) (λy=>.aC<|decide (y.1.1<y.2.1)) Z0 (by
      rw[<-zip_rows];have s1:jj (e1 L) (J 1) C=e1 (L.drop 1):=(E8 (e1 L) 1).trans (by unfold e1;rw[List.map_drop]);generalize e1 (L.drop 1)=fW at*;generalize e1 L=pp at*;unfold EC lW lK lL
      simp![s1]) (by rw[List.length_zip,gc];lia) (λy aK=>⟨rfl,λ_=>by
       simp![ck,my,gE,eE,dY]⟩)
    rw[yp.mpr λ_ _=>rfl]at this;rw[ci];exact this
   have all:ji n [.ao<|((List.zip L<|L.drop 1).map λp=>decide (p.1.1<p.2.1)).map T.aC]=J (.aC<|x5<|e1 L,.ag):=by
    have hD:∀bs:List Bool,hP (bs.map T.aC)=J bs:=λbs=>by
     induction bs with
     |nil=>rfl
     |cons x r a4=>simp[hP,a4]
    rw[xS,hD,kh,pP];unfold x5;rw[FO,ali];have:∀p q:List Z6,(List.zip p q).all (id∘λp=>decide (p.1.1<p.2.1))=(List.zip (p.map (·.1))<|q.map (·.1)).all λp=>decide (p.1<p.2):=λp q=>by rw[List.zip_map,pP];rfl
    rw[this,List.map_drop]
   generalize x5 (e1 L)=res at*;generalize ((List.zip L<|L.drop 1).map λp=>decide (p.1.1<p.2.1)).map T.aC=bs at*;generalize fC 0 Fp=LL at*;generalize e1 L=cQ at*;generalize Li=C0 at*;simp![ty,dF,hl,eq,jd,hu,all]
def ew(c:Nat):T:=.aD [.str "refused",.int c]
def g8{n:Nat}{r:Nat×Nat}(h:cM S n=J r):dy cM a jw S n=J r:=by unfold dy;rw[h]
def kC{n:Nat}(h0:cM S n=C)(af:a S n=J (.bD,S,n)):dy cM a jw S n=jw S n:=by unfold dy;rw[h0,af];rfl
def x6{n n':Nat}{b:Bool}(h0:cM S n=C)(af:a S n=J (.aU v b,S',n')):dy cM a jw S n=C:=by unfold dy;rw[h0,af];rfl
abbrev Q(g w:Int)(a b c:T):bE:=[J (.int g,.ag),J (.int w,.ag),J (a,.ag),J (b,.ag),J (c,.ag),C]
def LC{g w:Int}{n k:Nat}(h:L6 (Q g w a b c) n=J (k,n))(aW:k=0\/k=1\/k=2\/k=3):gP [(.int g,Y0),(.int w,Y0),(a,Y0),(b,Y0),(c,Y0)] n=J (ew k,Y1,n):=by
 show Option.bind (vO (Q g w a b c) n) _=_;have:vO (Q g w a b c) n=J (.aU (ew k) Y1,Q g w a b c,n):=by unfold vO zZ;rw[h];rcases aW with rfl|rfl|rfl|rfl<;>rfl
 rw[this];rfl
def LD{g w:Int}{n:Nat}(h0:L6 (Q g w a b c) n=C)(h:BB (Q g w a b c) n=J (.aU v Y1,Q g w a b c,n)):gP [(.int g,Y0),(.int w,Y0),(a,Y0),(b,Y0),(c,Y0)] n=J (v,Y1,n):=by
 show Option.bind (vO (Q g w a b c) n) _=_;have:vO (Q g w a b c) n=J (.aU v Y1,Q g w a b c,n):=by unfold vO zZ;rw[h0];exact h
 rw[this];rfl
def LF(n:Nat)(v:T):od n [v]=J (.aC<|nS v,.ag):=rfl
def Told(f:cY)(b0:e7)(aA:List<|T×Bool)(n:Nat):Prop:=∃v b,f aA n=J (v,b,n)/\b0 aA n=C
def Tv{w:Int}{n k:Nat}(h:rL [(.int w,Y0),(a,Y0),(b,Y0)] n=J (k,n))(aW:k=0\/k=1\/k=2\/k=3):gP [(.int 0,Y0),(.int w,Y0),(a,Y0),(b,Y0),(c,Y0)] n=J (ew k,Y1,n) :=
 LC (g8 (show vM (Q 0 w a b c) n=J (k,n) from h)) aW
def Tw{w:Int}{n k:Nat}(h:tF [(.int w,Y0),(a,Y0),(b,Y0)] n=J (k,n))(aW:k=0\/k=1\/k=2\/k=3):gP [(.int 1,Y0),(.int w,Y0),(a,Y0),(b,Y0),(c,Y0)] n=J (ew k,Y1,n) :=
 LC ((kC (show vM (Q 1 w a b c) n=C from rfl) (show qH (Q 1 w a b c) n=J (.bD,Q 1 w a b c,n) from rfl)).trans (g8 (show Bj (Q 1 w a b c) n=J (k,n) from h))) aW
def LG{w:Int}{n k:Nat}(h:tG [(.int w,Y0),(a,Y0),(b,Y0),(c,Y0)] n=J (k,n))(aW:k=0\/k=1\/k=2\/k=3):gP [(.int 2,Y0),(.int w,Y0),(a,Y0),(b,Y0),(c,Y0)] n=J (ew k,Y1,n) :=
 LC ((kC (show vM (Q 2 w a b c) n=C from rfl) (show qH (Q 2 w a b c) n=J (.bD,Q 2 w a b c,n) from rfl)).trans ((kC (show Bj (Q 2 w a b c) n=C from rfl) (show vN (Q 2 w a b c) n=J (.bD,Q 2 w a b c,n) from rfl)).trans (show Lh (Q 2 w a b c) n=J (k,n) from h))) aW
def alj{w:Int}{n:Nat}(h:Told x1 rL [(.int w,Y0),(a,Y0),(b,Y0)] n):∃v,gP [(.int 0,Y0),(.int w,Y0),(a,Y0),(b,Y0),(c,Y0)] n=J (.aD [.str "told",.aC v],Y1,n):=by
 obtain⟨v,o,az,au⟩:=h;have cE:2<=bh:=by decide
 have q:(0:Int)==0:=rfl;have r:qH (Q 0 w a b c) n=J (.aU (.aD [.str "told",.aC<|nS v]) Y1,Q 0 w a b c,n):=by
  unfold qH
  exists o<;>simp![n5,az,eO,LF,cw,cE]
 refine⟨nS v,LD (x6 (show vM (Q 0 w a b c) n=C from au) r) ?_⟩;unfold BB;rw[pj,r];rfl
def alk{w:Int}{n:Nat}(h:Told Bi tF [(.int w,Y0),(a,Y0),(b,Y0)] n):∃v,gP [(.int 1,Y0),(.int w,Y0),(a,Y0),(b,Y0),(c,Y0)] n=J (.aD [.str "told",.aC v],Y1,n):=by
 obtain⟨v,o,az,au⟩:=h;have cE:2<=bh:=by decide
 have r:vN (Q 1 w a b c) n=J (.aU (.aD [.str "told",.aC<|nS v]) Y1,Q 1 w a b c,n):=by
  unfold vN
  exists o<;>simp![n5,az,eO,LF,cw,cE]
 refine⟨nS v,LD ((kC (show vM (Q 1 w a b c) n=C from rfl) (show qH (Q 1 w a b c) n=J (.bD,Q 1 w a b c,n) from rfl)).trans (x6 (show Bj (Q 1 w a b c) n=C from au) r)) ?_⟩;unfold BB;rw[pj,show qH (Q 1 w a b c) n=J (.bD,Q 1 w a b c,n) from rfl,AX,pj,r];rfl
def alm{w:Int}{n:Nat}(h:Told Fo tG [(.int w,Y0),(a,Y0),(b,Y0),(c,Y0)] n):∃v,gP [(.int 2,Y0),(.int w,Y0),(a,Y0),(b,Y0),(c,Y0)] n=J (.aD [.str "told",.aC v],Y1,n):=by
 obtain⟨v,o,az,au⟩:=h;have cE:2<=bh:=by decide
 have r:Lg (Q 2 w a b c) n=J (.aU (.aD [.str "told",.aC<|nS v]) Y1,Q 2 w a b c,n):=by
  unfold Lg
  exists o<;>simp![az,eO,LF,cw,cE]
 refine⟨nS v,LD ((kC (show vM (Q 2 w a b c) n=C from rfl) (show qH (Q 2 w a b c) n=J (.bD,Q 2 w a b c,n) from rfl)).trans ((kC (show Bj (Q 2 w a b c) n=C from rfl) (show vN (Q 2 w a b c) n=J (.bD,Q 2 w a b c,n) from rfl)).trans (show Lh (Q 2 w a b c) n=C from au))) ?_⟩;unfold BB;rw[pj,show qH (Q 2 w a b c) n=J (.bD,Q 2 w a b c,n) from rfl,AX,pj,show vN (Q 2 w a b c) n=J (.bD,Q 2 w a b c,n) from rfl,AX];exact r
abbrev Im:dm:=d0 1 h2 Z8
abbrev Oi:bw:=eS<|bB 1 g7 Z8
def rO{n m:Nat}(h:h2 [Z4] n=J (1,n))(a:bw)(r:dm)(l:List<|T×Bool):fnX m (dy Im a r) (Z4::l) n=J (1,n):=g8 h
def FP{n m:Nat}(h:h2 [Z4] n=C)(e:g7 [Z4] n=J (.br,Y1,n))(r:dm)(l:List<|T×Bool):fnX m (dy Im Oi r) (Z4::l) n=fnX m r (Z4::l) n:=kC h (by
 show eS (bB 1 g7 Z8) (J (t,.ag)::_) n=J (.bD,J (t,.ag)::_,n)
 simp![e])
noncomputable abbrev d9(w:Int)(t o:T):bE:=[J (.int w,.ag),J (t,.ag),J (o,.ag)]
def Mn{w:Int}{n:Nat}(h:¬w<5):dy w3 km (dy nO bt uO) (d9 w t o) n=dy nO bt uO (d9 w t o) n:=by
 have c:bK (aH eE<|aa (ai 0)<|aa (aw<|.int 5) ar) (d9 w t o) n=J (Y1,n):=by simp![eE,dY,h]
 exact kC (by unfold w3 fG;rw[c];rfl) (by unfold km eF;rw[c];rfl)
def UD{w:Int}{n:Nat}(h:¬w<9):dy nO bt uO (d9 w t o) n=uO (d9 w t o) n:=by
 have c:bK (aH eE<|aa (ai 0)<|aa (aw<|.int 9) ar) (d9 w t o) n=J (Y1,n):=by simp![eE,dY,h]
 exact kC (by unfold nO fG;rw[c];rfl) (by unfold bt eF;rw[c];rfl)
def rW:T:=.aD [.aD [.int 1]]
def UE(S:bE)(n:Nat):cw (aa (aY<|cw<|aa (aY Z5) ar) ar) S n=J (rW,.ag,n):=rfl
def Tx{w:Int}{n:Nat}(h:¬w<5)(w7:w<7):nO (d9 w t o) n=ER [Z4,(rW,Y0)] n:=by
 have rh:w<9:=(ny (kO w7) Z0)
 have c:bK (aH eE<|aa (ai 0)<|aa (aw<|.int 9) ar) (d9 w t o) n=J (Y0,n):=by simp![eE,dY,rh]
 have oY:bK (aH eE<|aa (ai 0)<|aa (aw<|.int 7) ar) (d9 w t o) n=J (Y0,n):=by simp![eE,dY,w7]
 have e:ax (ai 1) (ax (cw<|aa (aY<|cw<|aa (aY Z5) ar) ar) a9) (d9 w t o) n=J ([Z4,(rW,Y0)],n):=by have a:=UE;have f:flag .ag rW=Y0:=rfl;generalize cw (aa (aY<|cw<|aa (aY Z5) ar) ar)=AA at*;generalize rW=u at*;simp![a,f]
 unfold nO fG;rw[c,eN,Y2 rfl,oY,eN,Y2 rfl];unfold d0;rw[e];rfl
def Tz{w:Int}{n:Nat}(h:¬w<7)(rh:w<9):nO (d9 w t o) n=KP [Z4,(.br,Y0)] n:=by
 have c:bK (aH eE<|aa (ai 0)<|aa (aw<|.int 9) ar) (d9 w t o) n=J (Y0,n):=by simp![eE,dY,rh]
 have oY:bK (aH eE<|aa (ai 0)<|aa (aw<|.int 7) ar) (d9 w t o) n=J (Y1,n):=by simp![eE,dY,h]
 unfold nO fG;rw[c,eN,Y2 rfl,oY];rfl
def am6{n:Nat}(h:h2 [Z4] n=J (1,n)):∀w:Nat,w<11->rL [ZR,Z4,(o,Y0)] n=J (1,n):=λw hw=>by
 show dy w3 km (dy nO bt uO) (d9 (w:Nat) t o) n=_;by_cases ef:w<5
 ·refine g8 ?_
  match w,ef with
  |0,_=>exact(rO h _ _ []:A1 [Z4] n=_)
  |1,_=>exact(rO h _ _ []:A2 [Z4] n=_)
  |2,_=>exact(rO h _ _ []:A5 [Z4] n=_)
  |3,_=>exact(rO h _ _ []:A6 [Z4] n=_)
  |4,_=>exact(rO h _ _ []:Bh [Z4] n=_)
 rw[Mn Z3];by_cases w7:w<7
 ·refine g8<|(Tx Z3 Z3).trans ?_;exact(rO h _ _ [(rW,Y0)]:EP [Z4,(rW,Y0)] n=_)
 by_cases rh:w<9
 ·exact g8<|(Tz Z3 Z3).trans (rO h _ _ [(.br,Y0)])
 rw[UD Z3];obtain rfl|rfl:w=9\/w=10:=by lia
 ·exact(rO h _ _ [(o,Y0)]:EO [Z4,(o,Y0)] n=_)
 ·exact(rO h _ _ [(o,Y0)]:EY [Z4,(o,Y0)] n=_)
def agB{w:Nat}{n:Nat}{b:Bool}(h:w<5)(aW:uZ [(1,bQ.rD),(1,bQ.vx),(1,bQ.vz),(1,bQ.vA),(1,rK)] (w:Nat)=J (1,f))(e:f [Z4] n=J (v,b,n)):km (d9 (w:Nat) t o) n=J (.aU v b,d9 (w:Nat) t o,n):=by
 have zA:(w:Int)<5:=by lia
 unfold km yd;generalize [(1,bQ.rD),(1,bQ.vx),(1,bQ.vz),(1,bQ.vA),(1,rK)]=FS at *
 exists b<;>simp![eE,dY,zA,aW,e,eO]
def FQ:ip 1 1 [[1]]:=⟨by decide,by decide,λd hd=>by
 rw[ow.mp hd]
 exact⟨by decide,by decide,by decide,by decide⟩⟩
def afg{n:Nat}(bH:h2 [Z4] n=C)(d7:g7 [Z4] n=J (.br,Y1,n))(Io:h2 [(u,Y0)] n=C)(mS:g7 [(u,Y0)] n=J (.br,Y1,n)):ER [Z4,(u,Y0)] n=C :=
 (show EP [Z4,(u,Y0)] n=C from(FP bH d7 _ [(u,Y0)]).trans (kC Io (by
  show eS (bB 1 g7 ZP) (J (t,.ag)::J (u,.ag)::_) n=J (.bD,J (t,.ag)::J (u,.ag)::_,n)
  simp![mS])))
def ajx{w:Nat}{cq:Bool}{n:Nat}(b7:rW=u)(ef:5<=w)(w7:w<7)(al:xU [Z4,(u,Y0)] n=J (.aC cq,Y1,n))(pa:vy [(u,Y0),Z4] n=J (q,Y1,n))(Ip:hn q=Y1) :
  ∃v,bt (d9 (w:Nat) t o) n=J (.aU v Y1,d9 (w:Nat) t o,n):=by
 have oY:(w:Int)<7:=by lia
 have Dd:(w:Int)<9:=(ny (kO oY) Z0)
 have cE:2<=bh:=by decide
 have a1:=UE;rw[b7]at a1;have f1:flag .ag u=Y0:=rfl;have sub:ka n [.int (w:Int),.int 5]=J (.int<|(w:Int)-5,.ag):=rfl;have gt:∃v,dv n [.ao [.aC cq,q],.int<|(w:Int)-5]=J (v,.ag):=by
  obtain rfl|rfl:w=5\/w=6:=by lia
  ·exact⟨_,rfl⟩
  ·exact⟨_,rfl⟩
 obtain⟨v,gt⟩:=gt;refine⟨v,?_⟩;unfold bt;generalize cw (aa (aY<|cw<|aa (aY Z5) ar) ar)=AA at*;simp![eE,dY,Dd,oY,a1,f1,al,pa,eO,Ip,dF,cE,sub,gt]
section
variable {M F:Nat}{ds:List ZA}
def afh(D:ip M F ds)(eh:M<=4)(cx:F<=8)(n:Nat):EU [(.aD ZB,Y0),(.br,Y0)] n=J (.aC Y1,Y1,n):=by
 have az:=pq D eh cx n;have au:∀k:Int,KN [(.br,Y0),(.int k,Y0)] n=J (.aC Y1,Y1,n):=λ_=>rfl;have a6:fe n [.aD ZB]=J (.int (ds.H:Int),.ag):=by rw[g6,cP]
 unfold EU RC;generalize T.aD ZB=tt at*;simp![az,au,a6]
def afi(D:ip M F ds)(eh:M<=4)(cx:F<=8)(o:T)(n:Nat):∀w:Nat,w<9->Told x1 rL [ZR,(.aD ZB,Y0),(o,Y0)] n:=λw hw=>by
 have bH:h2 [(.aD ZB,Y0)] n=C:=K2<|E4 D eh cx n;have d7:=pq D eh cx n;have X:∀(m:Nat) (l:List (T×Bool)),fnX m (dy Im Oi fQ) ((.aD ZB,Y0)::l) n=C:=λm l=>FP bH d7 fQ l;have BC:∀{f:cY} {b0:e7} {v:T} {b:Bool},w<5->uZ [(1,bQ.rD),(1,bQ.vx),(1,bQ.vz),(1,bQ.vA),(1,rK)] (w:Nat)=J (1,f)->f [(.aD ZB,Y0)] n=J (v,b,n)->w3 (d9 (w:Nat) (.aD ZB) o) n=C->Told x1 rL [ZR,(.aD ZB,Y0),(o,Y0)] n:=λ{f b0 v b} h aW e x=>by have r:=agB (o:=o) h aW e;refine⟨v,b,?_,x6 x r⟩;show Option.bind (bL km (bL bt dj) (d9 (w:Nat) (.aD ZB) o) n) _=_;rw[pj,r];rfl
 by_cases ef:w<5
 ·match w,ef with
  |0,ef =>
   obtain⟨_,_,e⟩:=jc.Vl D eh cx n;exact BC (b0:=A1) ef rfl e (X _ []:A1 [(_,Y0)] n=C)
  |1,ef=>exact BC (b0:=A2) ef rfl (UB D eh cx n).1 (X _ []:A2 [(_,Y0)] n=C)
  |2,ef=>exact BC (b0:=A5) ef rfl (ad5 D eh cx n) (X _ []:A5 [(_,Y0)] n=C)
  |3,ef=>exact BC (b0:=A6) ef rfl (To.order D eh cx n) (X _ []:A6 [(_,Y0)] n=C)
  |4,ef=>exact BC (b0:=Bh) ef rfl (show rK [(_,Y0)] n=_ from FG.shown D eh cx n) (X _ []:Bh [(_,Y0)] n=C)
 have zA:¬ (w:Int)<5:=by lia
 have Dd:(w:Int)<9:=by lia
 have go:∀{v:T},bt (d9 (w:Nat) (.aD ZB) o) n=J (.aU v Y1,d9 (w:Nat) (.aD ZB) o,n)->nO (d9 (w:Nat) (.aD ZB) o) n=C->Told x1 rL [ZR,(.aD ZB,Y0),(o,Y0)] n:=λ{v} r x=>by
  refine⟨v,Y1,?_,(Mn zA).trans (x6 x r)⟩;show Option.bind (bL km (bL bt dj) (d9 (w:Nat) (.aD ZB) o) n) _=_;have jv:km (d9 (w:Nat) (.aD ZB) o) n=J (.bD,d9 (w:Nat) (.aD ZB) o,n):=by
   have c:bK (aH eE<|aa (ai 0)<|aa (aw<|.int 5) ar) (d9 (w:Nat) (.aD ZB) o) n=J (Y1,n):=by simp![eE,dY,zA]
   unfold km eF;rw[c];rfl
  rw[pj,jv,AX,pj,r];rfl
 by_cases w7:w<7
 ·have oY:(w:Int)<7:=by lia
  obtain⟨u,b7⟩:∃u,rW=u:=⟨_,rfl⟩
  have fs:u=.aD ([[1]].map aG):=b7.symm;have al:xU [(.aD ZB,Y0),(u,Y0)] n=J (.aC (lu ds [[1]]).isEmpty,Y1,n):=by rw[fs];exact aek D FQ eh cx Z0 Z0 n
  have pa:vy [(u,Y0),(.aD ZB,Y0)] n=J (v3 (lu [[1]] ds).head?,Y1,n):=by rw[fs];exact parted FQ D Z0 Z0 eh cx n
  have Io:h2 [(u,Y0)] n=C:=by rw[fs];exact K2<|E4 FQ Z0 Z0 n
  have mS:g7 [(u,Y0)] n=J (.br,Y1,n):=by rw[fs];exact pq FQ Z0 Z0 n
  have Ip:hn (v3 (lu [[1]] ds).head?)=Y1:=by cases (lu [[1]] ds).head?<;>rfl
  obtain⟨v,r⟩:=ajx (o:=o) b7 (hR ef) w7 al pa Ip;exact go r<|(Tx zA oY).trans (by rw[b7];exact afg bH d7 Io mS)
 ·have oY:¬ (w:Int)<7:=by lia
  have e:=afh D eh cx n;refine go (v:=.aC Y1) ?_<|(Tz oY Dd).trans (X _ [(.br,Y0)]);unfold bt;generalize T.aD ZB=tt at*;simp![eE,dY,Dd,oY,e,eO]
def am7(D:ip M F ds)(eh:M<=4)(cx:F<=8)(aZ:rN o=Y0)(aM:gR 0 120 o=Y1)(bC:gR 0 999 o=Y1)(n:Nat):∀w:Nat,9<=w->w<11->rL [ZR,(.aD ZB,Y0),(o,Y0)] n=J (3,n):=λw rh hw=>by
 have bH:h2 [(.aD ZB,Y0)] n=C:=K2<|E4 D eh cx n;have d7:=pq D eh cx n;have az:jL [(o,Y0),(.int 0,Y0),(.int 120,Y0)] n=J (3,n):=Bd (by rw[number aZ,aM]) rfl rfl;have au:jL [(o,Y0),(.int 0,Y0),(.int 999,Y0)] n=J (3,n):=Bd (by rw[number aZ,bC]) rfl rfl;show dy w3 km (dy nO bt uO) (d9 (w:Nat) (.aD ZB) o) n=_;rw[Mn Z3,UD Z3];obtain rfl|rfl:w=9\/w=10:=by lia
 ·exact((FP bH d7 _ [(o,Y0)]).trans (g8 az):EO [(_,Y0),(o,Y0)] n=_)
 ·exact((FP bH d7 _ [(o,Y0)]).trans (g8 au):EY [(_,Y0),(o,Y0)] n=_)
end
abbrev FR(i:Nat):dm:=d0 1 h1<|ax (ai i) a9
abbrev FT(i:Nat):bw:=eS<|bB 1 iZ<|ax (ai i) a9
section
variable {t o u:T}{n:Nat}
def afj(e:iZ [Z4] n=J (.br,Y1,n))(l:bE):FT 0 (J (t,.ag)::l) n=J (.bD,J (t,.ag)::l,n):=by simp![e]
def TA(e:iZ [(u,Y0)] n=J (.br,Y1,n))(l:bE):FT 1 (J (t,.ag)::J (u,.ag)::l) n=J (.bD,J (t,.ag)::J (u,.ag)::l,n):=by simp![e]
def UG{m k:Nat}(h:h1 [Z4] n=J (k,n)):fnX m (dy (FR 0) a r) (Z4::(u,Y0)::l) n=J (k,n):=g8 h
def x7{m:Nat}(h:h1 [Z4] n=C)(e:iZ [Z4] n=J (.br,Y1,n)):fnX m (dy (FR 0) (FT 0) r) (Z4::(u,Y0)::l) n=fnX m r (Z4::(u,Y0)::l) n:=kC h<|afj e _
def UH{m k:Nat}(h:h1 [(u,Y0)] n=J (k,n)):fnX m (dy (FR 1) a r) (Z4::(u,Y0)::l) n=J (k,n):=g8 h
def Gs{m:Nat}(h:h1 [(u,Y0)] n=C)(e:iZ [(u,Y0)] n=J (.br,Y1,n)):fnX m (dy (FR 1) (FT 1) r) (Z4::(u,Y0)::l) n=fnX m r (Z4::(u,Y0)::l) n:=kC h<|TA e _
def oa:T:=.aD [.int 1,.int 2]
def Mo(S:bE):cw ZK S n=J (oa,.ag,n):=rfl
def Vw(b7:oa=u)(w:Int):ax (ai 1) (ax (cw ZK) a9) (d9 w t o) n=J ([Z4,(u,Y0)],n):=by have a:=Mo (n:=n);rw[b7]at a;generalize cw ZK=AA at*;simp![a]
def Vx(b7:oa=u)(w:Int):ax (cw ZK) ZP (d9 w t o) n=J ([(u,Y0),Z4],n):=by have a:=Mo (n:=n);rw[b7]at a;generalize cw ZK=AA at*;simp![a]
def x8(h:a S n=J (aA,n)){k:Nat}(aB:aA.H=k):d0 k f a S n=f aA n:=by unfold d0;rw[h,eN,Y2 aB]
def T9(b7:oa=u):n8 (d9 0 t o) n=m8 [Z4,(u,Y0)] n/\n8 (d9 1 t o) n=tu [Z4,(u,Y0)] n/\n8 (d9 2 t o) n=m8 [(u,Y0),Z4] n/\n8 (d9 3 t o) n=tu [(u,Y0),Z4] n:=by have a:=λw=>Vw (t:=t) (o:=o) (n:=n) b7 w;have b:=λw=>Vx (t:=t) (o:=o) (n:=n) b7 w;unfold n8;generalize ax (ai 1) (ax (cw ZK) a9)=AA at*;generalize ax (cw ZK) ZP=qc at*;exact⟨(show d0 2 m8 AA (d9 0 t o) n=_ from x8 (a 0) rfl),(show d0 2 tu AA (d9 1 t o) n=_ from x8 (a 1) rfl),(show d0 2 m8 qc (d9 2 t o) n=_ from x8 (b 2) rfl),(show d0 2 tu qc (d9 3 t o) n=_ from x8 (b 3) rfl)⟩
def Vy(b7:oa=u)(w:Int):ax (ai 1) (ax (cw ZK)<|ax (ai 2) a9) (d9 w t o) n=J ([Z4,(u,Y0),(o,Y0)],n)/\ax (cw ZK) (ax (ai 1)<|ax (ai 2) a9) (d9 w t o) n=J ([(u,Y0),Z4,(o,Y0)],n):=by have a:=Mo (n:=n);rw[b7]at a;generalize cw ZK=AA at*;constructor<;>simp![a]
def Ua(b7:oa=u):dy n8 pw vK (d9 4 t o) n=vD [Z4,(u,Y0),(o,Y0)] n/\dy n8 pw vK (d9 5 t o) n=vD [(u,Y0),Z4,(o,Y0)] n:=by
 obtain⟨a,_⟩:=Vy (t:=t) (o:=o) (n:=n) b7 4;obtain⟨_,b⟩:=Vy (t:=t) (o:=o) (n:=n) b7 5;have k:∀w:Int,¬w<4->dy n8 pw vK (d9 w t o) n=vK (d9 w t o) n:=λw h=>by
  have c:bK (aH eE<|aa (ai 0)<|aa (aw<|.int 4) ar) (d9 w t o) n=J (Y1,n):=by simp![eE,dY,h]
  exact kC (by unfold n8 fG;rw[c];rfl) (by unfold pw eF;rw[c];rfl)
 rw[k 4 Z0,k 5 Z0];unfold vK;generalize ax (ai 1) (ax (cw ZK)<|ax (ai 2) a9)=AA at*;generalize ax (cw ZK) (ax (ai 1)<|ax (ai 2) a9)=qc at*;exact⟨(show d0 3 vD AA (d9 4 t o) n=_ from x8 a rfl),(show d0 3 vD qc (d9 5 t o) n=_ from x8 b rfl)⟩
def aln(b7:oa=u)(qe:h1 [(u,Y0)] n=C)(qf:iZ [(u,Y0)] n=J (.br,Y1,n))(h:h1 [Z4] n=J (0,n)):∀w:Nat,w<6->tF [ZR,Z4,(o,Y0)] n=J (0,n):=λw hw=>by
 show dy n8 pw vK (d9 (w:Nat) t o) n=_;obtain⟨iQ,a1,a2,k4⟩:=T9 (t:=t) (o:=o) (n:=n) b7;obtain⟨zi,sL⟩:=Ua (t:=t) (o:=o) (n:=n) b7;have eU:m8 [Z4,(u,Y0)] n=J (0,n):=UG h;have fL:m8 [(u,Y0),Z4] n=J (0,n):=(x7 qe qf).trans (UH h)
 match w,hw with
 |0,_=>exact g8<|iQ.trans eU
 |1,_=>exact g8<|a1.trans<|g8 eU
 |2,_=>exact g8<|a2.trans fL
 |3,_=>exact g8<|k4.trans<|g8 fL
 |4,_=>exact zi.trans<|UG h
 |5,_=>exact sL.trans<|(x7 qe qf).trans (UH h)
end
def afk{n:Nat}(h0:cM S n=C)(af:∃S',a S n=J (.bD,S',n)):dy cM a fQ S n=C:=by obtain⟨S',af⟩:=af;unfold dy;rw[h0,af];rfl
section
variable {t o u:T}{n:Nat}
def FU(b7:oa=u){w m:Int}(q8:w<4)(hm:oc n [.int w,.int 2]=J (.int m,.ag))(aW:uZ [(2,bQ.m7),(2,bQ.qD)] m=J (2,f))(az:w<2->f [Z4,(u,Y0)] n=J (v,Y1,n))(au:¬w<2->f [(u,Y0),Z4] n=J (v,Y1,n)):pw (d9 w t o) n=J (.aU v Y1,d9 w t o,n):=by
 have a:=Vw (t:=t) (o:=o) (n:=n) b7 w;have b:=Vx (t:=t) (o:=o) (n:=n) b7 w;unfold pw yd;generalize ax (ai 1) (ax (cw ZK) a9)=AA at*;generalize ax (cw ZK) ZP=qc at*;generalize [(2,bQ.m7),(2,bQ.qD)]=FS at*;by_cases dA:w<2
 ·have e:=az dA;simp![eE,dY,q8,dA,hm,aW,a,e,eO]
 ·have e:=au dA;simp![eE,dY,q8,dA,hm,aW,b,e,eO]
def TB(h:m8 [(x,Y0),(y,Y0)] n=C)(e:m7 [(x,Y0),(y,Y0)] n=J (v,Y1,n)):tu [(x,Y0),(y,Y0)] n=C:=afk h ⟨[J (x,.ag),J (y,.ag),J (v,.ag)],by
 show dK 2 (bB 2 m7<|ax (ai 0) ZP) [J (x,.ag),J (y,.ag),C] n=_
 simp![e,eO]⟩
def qI:j9 2 [1,2]:=⟨by decide,by decide,by decide,by decide⟩
def am8{F:Nat}(D:j9 F l)(cx:F<=8)(o:T)(n:Nat){w:Int}(hw:w=0\/w=1\/w=2\/w=3):Told Bi tF [(.int w,Y0),(aG l,Y0),(o,Y0)] n:=by
 obtain⟨u,b7⟩:∃u,oa=u:=⟨_,rfl⟩
 have sO:u=aG [1,2]:=b7.symm;have qe:h1 [(u,Y0)] n=C:=by rw[sO];exact xY<|rG qI Z0 n
 have qf:iZ [(u,Y0)] n=J (.br,Y1,n):=by rw[sO];exact rH qI Z0 n
 have mQ:h1 [(aG l,Y0)] n=C:=xY<|rG D cx n;have dQ:=rH D cx n;have eU:=L4 D qI cx Z0 n;have fL:=L4 qI D Z0 cx n;have cq:=Ml D qI cx Z0 n;have cE:=Ml qI D Z0 cx n;rw[<-sO]at eU fL cq cE;obtain⟨iQ,a1,a2,k4⟩:=T9 (t:=aG l) (o:=o) (n:=n) b7;have aM:m8 [(aG l,Y0),(u,Y0)] n=C:=(x7 mQ dQ).trans (Gs qe qf);have bC:m8 [(u,Y0),(aG l,Y0)] n=C:=(x7 qe qf).trans (Gs mQ dQ);have cS:=TB aM eU;have gu:=TB bC fL;have fin:∀{v:T},n8 (d9 w (aG l) o) n=C->pw (d9 w (aG l) o) n=J (.aU v Y1,d9 w (aG l) o,n)->Told Bi tF [(.int w,Y0),(aG l,Y0),(o,Y0)] n:=λ{v} x r=>by refine⟨v,Y1,?_,x6 x r⟩;show Option.bind (bL pw Td (d9 w (aG l) o) n) _=_;rw[pj,r];rfl
 rcases hw with rfl|rfl|rfl|rfl
 ·exact fin (iQ.trans aM) (FU b7 (f:=bQ.m7) (m:=0) Z0 rfl rfl (λ_=>eU) λh=>absurd Z0 h)
 ·exact fin (a1.trans cS) (FU b7 (f:=bQ.qD) (m:=1) Z0 rfl rfl (λ_=>cq) λh=>absurd Z0 h)
 ·exact fin (a2.trans bC) (FU b7 (f:=bQ.m7) (m:=0) Z0 rfl rfl (λh=>absurd h Z0) λ_=>fL)
 ·exact fin (k4.trans gu) (FU b7 (f:=bQ.qD) (m:=1) Z0 rfl rfl (λh=>absurd h Z0) λ_=>cE)
def alo{F:Nat}(D:j9 F l)(cx:F<=8)(aZ:rN o=Y0)(aM:gR 0 30 o=Y1)(n:Nat):∀w:Nat,4<=w->w<6->tF [ZR,(aG l,Y0),(o,Y0)] n=J (3,n):=λw cL hw=>by
 obtain⟨u,b7⟩:∃u,oa=u:=⟨_,rfl⟩
 have sO:u=aG [1,2]:=b7.symm;have qe:h1 [(u,Y0)] n=C:=by rw[sO];exact xY<|rG qI Z0 n
 have qf:iZ [(u,Y0)] n=J (.br,Y1,n):=by rw[sO];exact rH qI Z0 n
 have mQ:h1 [(aG l,Y0)] n=C:=xY<|rG D cx n;have dQ:=rH D cx n;have az:jL [(o,Y0),(.int 0,Y0),(.int 30,Y0)] n=J (3,n):=Bd (by rw[number aZ,aM]) rfl rfl;obtain⟨zi,sL⟩:=Ua (t:=aG l) (o:=o) (n:=n) b7;obtain rfl|rfl:w=4\/w=5:=by lia
 ·exact zi.trans<|(x7 mQ dQ).trans ((Gs qe qf).trans (g8 az))
 ·exact sL.trans<|(x7 qe qf).trans ((Gs mQ dQ).trans (g8 az))
end
section
variable {t o:T}{n:Nat}
def afl(h:kA [Z4] n=J (.aC Y1,Y1,n)):m6 [Z4] n=J (2,n):=by
 show fG (et<|bK<|bB 1 kA Z8) (mX 2 md) fQ [J (t,.ag)] n=_;have c:et (bK<|bB 1 kA Z8) [J (t,.ag)] n=J (Y0,n):=by simp![h]
 unfold fG;rw[c];rfl
def TC(h:kA [Z4] n=J (.aC Y0,Y1,n)):m6 [Z4] n=C/\lq [Z4] n=J (.br,Y1,n):=by
 have c:et (bK<|bB 1 kA Z8) [J (t,.ag)] n=J (Y1,n):=by simp![h]
 constructor
 ·show fG (et<|bK<|bB 1 kA Z8) (mX 2 md) fQ [J (t,.ag)] n=_;unfold fG;rw[c];rfl
 ·unfold lq Kz;simp![h]
abbrev Oj:dm:=d0 1 m6 Z8
abbrev afm:bw:=eS<|bB 1 lq Z8
def LH{m:Nat}(h:m6 [Z4] n=J (2,n))(a:bw)(r:dm)(l:List<|T×Bool):fnX m (dy Oj a r) (Z4::l) n=J (2,n):=g8 h
def LI{m:Nat}(h:m6 [Z4] n=C)(e:lq [Z4] n=J (.br,Y1,n))(r:dm)(l:List<|T×Bool):fnX m (dy Oj afm r) (Z4::l) n=fnX m r (Z4::l) n:=kC h (by
 show eS (bB 1 lq Z8) (J (t,.ag)::_) n=J (.bD,J (t,.ag)::_,n)
 simp![e])
abbrev jz(w:Int)(t z o:T):bE:=[J (.int w,.ag),J (t,.ag),J (z,.ag),J (o,.ag)]
def Gu{w:Int}(h:(w==2)=Y1):dy vL qG x2 (jz w t z o) n=x2 (jz w t z o) n:=by
 have c:bK (aH gk<|aa (ai 0)<|aa ZC ar) (jz w t z o) n=J (Y1,n):=by simp![n5,h]
 exact kC (by unfold vL fG;rw[c];rfl) (by unfold qG eF;rw[c];rfl)
def alp(h:m6 [Z4] n=J (2,n)){w:Int}(hw:w=0\/w=1\/w=2):tG [(.int w,Y0),Z4,(z,Y0),(o,Y0)] n=J (2,n):=by
 show dy vL qG x2 (jz w t z o) n=_;rcases hw with rfl|rfl|rfl
 ·rw[Gu rfl];exact(g8 (LH h _ _ [(z,Y0),(.int 2,Y0),(o,Y0)]):E1 [Z4,(z,Y0),(o,Y0)] n=_)
 ·rw[Gu rfl];exact(g8 (LH h _ _ [(z,Y0),(.int 3,Y0),(o,Y0)]):Fi [Z4,(z,Y0),(o,Y0)] n=_)
 ·exact g8 (LH h _ _ [(z,Y0)]:A9 [Z4,(z,Y0)] n=_)
theorem TF{W k:Nat}(x0 bH cf bY:Option ZJ)(n:Nat):∀(xs:List T) (ct:Option ZJ),(∀x∈xs,ea W k x=Y0) ->
  s8 (cB 4) tx (d0 3 jL<|ax (ai 4)<|ax Z5<|ax (aw<|.int 8) a9) xs [x0,bH,cf,bY,ct] n=J (3,n) \/
  (s8 (cB 4) tx (d0 3 jL<|ax (ai 4)<|ax Z5<|ax (aw<|.int 8) a9) xs [x0,bH,cf,bY,ct] n=C/\∃xZ,fF (cB 4) tx xs [x0,bH,cf,bY,ct] n=J (.bD,[x0,bH,cf,bY,xZ],n))
 |[],ct,_=>.inr ⟨rfl,ct,rfl⟩
 |x::xs,ct,h=>by
  have av:=vR<|h x<|dS ..;have zB:=number av 1 8 n;unfold s8 fF;simp only[bj.bO.cB,kL,kM,eN];cases bz:gR 1 8 x with
  |false =>
   rw[bz]at zB;left;have e:d0 3 jL (ax (ai 4)<|ax Z5<|ax (aw<|.int 8) a9) [x0,bH,cf,bY,J (x,.ag)] n=J (3,n):=Bd zB rfl rfl;rw[e]
  |true =>
   rw[bz]at zB;have e:d0 3 jL (ax (ai 4)<|ax Z5<|ax (aw<|.int 8) a9) [x0,bH,cf,bY,J (x,.ag)] n=C:=adJ zB;have b:tx [x0,bH,cf,bY,J (x,.ag)] n=J (.bD,[x0,bH,cf,bY,J (x,.ag)],n):=by
    have ok:ts [(x,Y0),(.int 1,Y0),(.int 8,Y0)] n=J (.br,Y1,n):=by unfold ts Q4;simp![zB]
    unfold tx;simp![ok]
   rw[e,b];exact TF x0 bH cf bY n xs (J (x,.ag)) λy aK=>h y<|am _ aK
def TG{W k:Nat}(x:m6 [Z4] n=C)(e:lq [Z4] n=J (.br,Y1,n))(hz:ea W k z=Y0)(aZ:rN o=Y0)(aM:gR 0 30 o=Y1)(m:Int)(hm:small m=Y0):E0 [Z4,(z,Y0),(.int m,Y0),(o,Y0)] n=J (3,n):=by
 refine(LI x e _ [(z,Y0),(.int m,Y0),(o,Y0)]).trans ?_;have az:jL [(o,Y0),(.int 0,Y0),(.int 30,Y0)] n=J (3,n):=Bd (by rw[number aZ,aM]) rfl rfl;show dy (fG (hX (et<|bK<|aH (dR .tuple) ZM)<|bK<|aH gn<|aa (aH fe ZM) ZQ) (mX 3<|uw (ai 2) md) fQ) _ _ [J (t,.ag),J (z,.ag),J (.int m,.ag),J (o,.ag),C] n=_;have oR:mX 3 (uw (ai 2) md) [J (t,.ag),J (z,.ag),J (.int m,.ag),J (o,.ag),C] n=J (3,n):=by show((if small m=Y0 then J n else C).map λn'=>(3,n'))=_;rw[Y2 hm];rfl
 by_cases c:og .tuple z=J Y1
 ·have t1:hX (et<|bK<|aH (dR .tuple) ZM) (bK<|aH gn<|aa (aH fe ZM) ZQ) [J (t,.ag),J (z,.ag),J (.int m,.ag),J (o,.ag),C] n=J (Y0,n):=by simp![dR,c]
  refine g8 ?_;unfold fG;rw[t1];exact oR
 ·obtain⟨xs,rfl⟩:∃xs,z=.aD xs:=by
   cases z with
   |aD xs=>exact⟨xs,rfl⟩
   |bk _=>exists k<;>exists hz
   |dq=>exists k<;>exists hz
   |bJ _=>exists k<;>exists hz
   |_=>exact absurd rfl c
  have ne:gn n [.int (xs.H:Nat),.int m]=J (.aC<|!decide ((xs.H:Int)=m),.ag):=by rw[xR];rfl
  by_cases cl:(xs.H:Int)=m
  ·rw[decide_eq_true cl]at ne;have t1:hX (et<|bK<|aH (dR .tuple) ZM) (bK<|aH gn<|aa (aH fe ZM) ZQ) [J (t,.ag),J (.aD xs,.ag),J (.int m,.ag),J (o,.ag),C] n=J (Y1,n):=by simp![dR,iE,g6,ne]
   rw[kC (by unfold fG;rw[t1];rfl)<|by unfold eF;rw[t1];rfl];cases k with
   |zero=>exists hz
   |succ k =>
    rcases TF (J (t,.ag)) (J (.aD xs,.ag)) (J (.int m,.ag)) (J (o,.ag)) n xs C (rM hz).2 with s|⟨s,xZ,f⟩
    ·exact g8 s
    ·show dy (F0 _ _ _ _) (fC 1 EZ) _ _ n=_;unfold dy;rw[show F0 (iI<|ai 1) (cB 4) tx (d0 3 jL<|ax (ai 4)<|ax Z5<|ax (aw<|.int 8) a9) [J (t,.ag),J (.aD xs,.ag),J (.int m,.ag),J (o,.ag),C] n=C from s];rw[show fC 1 EZ [J (t,.ag),J (.aD xs,.ag),J (.int m,.ag),J (o,.ag),C] n=_ from f];exact az
  ·rw[decide_eq_false cl]at ne;have t1:hX (et<|bK<|aH (dR .tuple) ZM) (bK<|aH gn<|aa (aH fe ZM) ZQ) [J (t,.ag),J (.aD xs,.ag),J (.int m,.ag),J (o,.ag),C] n=J (Y0,n):=by simp![dR,iE,g6,ne]
   refine g8 ?_;unfold fG;rw[t1];exact oR
def alq{W k:Nat}(x:m6 [Z4] n=C)(e:lq [Z4] n=J (.br,Y1,n))(hz:ea W k z=Y0)(aZ:rN o=Y0)(aM:gR 0 30 o=Y1){w:Int}(hw:w=0\/w=1):tG [(.int w,Y0),Z4,(z,Y0),(o,Y0)] n=J (3,n):=by
 show dy vL qG x2 (jz w t z o) n=_;rcases hw with rfl|rfl
 ·rw[Gu rfl];exact(g8 (TG x e hz aZ aM 2 rfl):E1 [Z4,(z,Y0),(o,Y0)] n=_)
 ·rw[Gu rfl];exact(g8 (TG x e hz aZ aM 3 rfl):Fi [Z4,(z,Y0),(o,Y0)] n=_)
end
def missing{F:Nat}(D:j9 F aL)(cx:F<=8)(h:tN L)(aP:h3 L<=90000)(M:nh aL L r)(n:Nat):A8 [(.ao<|e1 L,Y0),(aG aL,Y0)] n=J (Mm r,Y1,n):=by
 have de:bh=1000000:=rfl;have aB:=h.len;have az:=aec h Y0 n;have au:=rH D cx n;have a6:=UC h.gr.bW Z3 n;have aQ:=SK h.gr;obtain⟨eU,fL⟩:=aei D cx (J (.ao<|e1 L,.ag)) n (h3 L).M 100000 L [] r C C C C Z3 Z3 h.gr aB (λq a7=>(h.hI q a7).2.2.2) (by simp;exact jn aP Z0) M;unfold A8 RF;have hl:0<=bh:=by decide
 cases r with
 |none =>
  obtain⟨S,e⟩:=fL rfl;have jd:A7 [J (.ao<|e1 L,.ag),J (aG aL,.ag),J (.bk<|ay L,.aE),J (.ao [],.aE),C,C,C,C] n=J (.aU .br Y1,S,n):=e;generalize A7=LL at*;generalize e1 L=cQ at*;generalize ay L=kl at*;generalize aG aL=oP at*;simp![az,au,a6,dF,hl,jd,Mm]
 |some l =>
  obtain⟨S,e,g⟩:=eU l rfl;rw[pO]at g;have jd:A7 [J (.ao<|e1 L,.ag),J (aG aL,.ag),J (.bk<|ay L,.aE),J (.ao [],.aE),C,C,C,C] n=J (.bD,S,n):=e;have v:cT (aH qp<|aa (ai 3) ar) S n=J (.aU (aG l) Y1,S,n):=by rw[Gk,F6,EG,Mi,g];rfl
  generalize cT (aH qp<|aa (ai 3) ar)=RR at*;generalize A7=LL at*;generalize e1 L=cQ at*;generalize ay L=kl at*;generalize aG aL=oP at*;simp![az,au,a6,dF,hl,jd,v,Mm]
section
variable {t z o:T}{n:Nat}
def am9(x:m6 [Z4] n=C)(e:lq [Z4] n=J (.br,Y1,n))(h:h1 [(z,Y0)] n=J (0,n)):tG [(.int 2,Y0),Z4,(z,Y0),(o,Y0)] n=J (0,n):=by show dy vL qG x2 (jz 2 t z o) n=_;exact g8 ((LI x e _ [(z,Y0)]).trans (g8 h):A9 [Z4,(z,Y0)] n=_)
def afn(x:m6 [Z4] n=C)(e:lq [Z4] n=J (.br,Y1,n))(bH:h1 [(z,Y0)] n=C)(az:iZ [(z,Y0)] n=J (.br,Y1,n))(m:A8 [Z4,(z,Y0)] n=J (v,Y1,n)):Told Fo tG [(.int 2,Y0),Z4,(z,Y0),(o,Y0)] n:=by
 have YR:A9 [Z4,(z,Y0)] n=C:=(LI x e _ [(z,Y0)]).trans (kC bH<|TA az _);have r:qG (jz 2 t z o) n=J (.aU v Y1,jz 2 t z o,n):=by unfold qG;simp![n5,m,eO]
 refine⟨v,Y1,?_,x6 (show vL (jz 2 t z o) n=C from YR) r⟩;show Option.bind (bL qG Te (jz 2 t z o) n) _=_;rw[pj,r];rfl
end
abbrev SC(ns:List Int):Option ZJ:=J (.ao<|ns.map .int,.cZ)
abbrev TW:Option ZJ:=J (.dq,.ag)
def h5{n n':Nat}(h:a S n=J (.bD,S',n')):bL a b S n=b S' n':=by unfold bL;rw[h];rfl
def alr{i:Nat}{n:Nat}(h:S[i]?=J (J (t,.ag))):dN i d S n=d S n:=by
 unfold dN;rw[h]
 exists t<;>rfl
def ahA(ns:List Int):∃t n' bY,ea 648 4 t=Y0/\n'<=100/\∀K:bw,bL zp (bL Ln K) (o5 ns 11) 0=K [SC ns,TW,J (t,.ag),bY,C,C,C,C,C,C,C] n':=by
 have de:bh=1000000:=rfl;obtain⟨r,jv,bA,az⟩:=qF ns 0 4 Z0 Z0;obtain⟨k,rfl⟩:∃k:Nat,r=k:=⟨r.M,by lia⟩
 obtain⟨ds,aM,dl,⟨D,_⟩,g1,g2,au⟩:=Sm ns (1+k) 3 1 (gb _ _) Z3 Z0 Z0 Z0;have au:vE [ZO,(.dq,Y0),(.int<|1+(k:Int),Y0),(.int 3,Y0)] (0+1)=J (.aD ZB,Y1,aM):=au;have bA:zp (o5 ns 11) 0=J (.bD,[SC ns,TW,J (.aD ZB,.ag),C,C,C,C,C,C,C,C],aM):=by show zp [SC ns,TW,C,C,C,C,C,C,C,C,C] 0=_;unfold zp SC TW;generalize T.aD ZB=tt at*;generalize ns.map T.int=sc at*;simp![az,au,pk,eO]
 have fO:ds.H<=4:=by lia
 have s0:ea 8 2 (.aD ZB)=Y0:=by refine tI (by rw[cP];exact bP fO Z0) λx av=>?_;obtain⟨d,hd,rfl⟩:=ey.mp av;have Iq:=(D.aL d hd).most;refine tI (by rw[cP];exact bP Iq Z0) λy aK=>?_;obtain⟨z,_,rfl⟩:=ey.mp aK;rfl
 generalize T.aD ZB=t0 at*;obtain⟨q,NN,aX,a6⟩:=qF ns aM 2 Z0 Z3;obtain⟨t1,bC,f1,cN,g3,gK⟩:=Bq ns 2 Z0 8 _ (aM+1) Z0 Z0 s0 Z3;obtain⟨eH,fU,f2,dD,mO,sF⟩:=Bq ns 3 Z0 72 _ bC Z0 Z0 cN Z3;have turn:∀(t t':T) (m gf:Nat) (bY:Option ZJ),px [ZO,(.dq,Y0),Z4] m=J (t',Y1,gf)->Bm [SC ns,TW,J (t,.ag),bY,C,C,C,C,C,C,C] m=J (.bD,[SC ns,TW,J (t',.ag),bY,C,C,C,C,C,C,C],gf):=λt t' m gf bY h=>by unfold Bm SC TW;have bG:flag .ag t=Y0:=rfl;have fM:look .ag t=.ag:=rfl;generalize px=FF at*;generalize ns.map T.int=sc at*;simp![bG,fM,h,eO]
 have it:iB (aa (aH ej<|aa Z5<|aa (bB 3 bQ.j8<|ax (ai 0)<|ax (ai 1)<|ax ZC a9) ar) ar) [SC ns,TW,J (t0,.ag),C,C,C,C,C,C,C,C] aM=J (il 0<|1+q,aM+1):=by refine EE ?_ Z3 Z3;unfold SC TW;generalize ns.map T.int=sc at*;simp![a6,eO,pk]
 have go:∀xs:List T,il 0 (1+q)=xs->Ln [SC ns,TW,J (t0,.ag),C,C,C,C,C,C,C,C] aM=fF (cB 3) Bm xs [SC ns,TW,J (t0,.ag),C,C,C,C,C,C,C,C] (aM+1):=λxs av=>by show(iB _ _ aM).bind _=_;rw[it,av];rfl
 rcases(show q=0\/q=1 by lia) with rfl|rfl
 ·refine⟨t1,bC,J (.int 0,.ag),vQ Z0 3 4 t1 Z0 cN,by lia,λK=>?_⟩;rw[h5 bA];refine h5 ?_;rw[go [.int 0] rfl];unfold fF;simp only[bj.bO.cB,kL,kM,eN];rw[turn _ t1 (aM+1) bC _ f1];rfl
 ·refine⟨eH,fU,J (.int 1,.ag),dD,by lia,λK=>?_⟩;rw[h5 bA];refine h5 ?_;rw[go [.int 0,.int 1] rfl];unfold fF;simp only[bj.bO.cB,kL,kM,eN];rw[turn _ t1 (aM+1) bC _ f1];show fF (cB 3) Bm [.int 1] _ bC=_;unfold fF;simp only[bj.bO.cB,kL,kM,eN];rw[turn _ eH bC fU _ f2];rfl
def Aj(h:ea 648 4 t=Y0)(n:Nat)(x0 bH bY fX eJ e9 oZ gN mB:Option ZJ) :
  H4 [x0,bH,J (t,.ag),bY,C,fX,eJ,e9,oZ,gN,mB] n=J (.bD,[x0,bH,J (t,.ag),bY,J (.aC<|gQ t,.ag),fX,eJ,e9,oZ,gN,mB],n):=by
 have de:bh=1000000:=rfl;unfold H4;rw[alr (t:=t) rfl];cases t with
 |aD xs =>
  obtain⟨aB,av⟩:=rM h;by_cases TH:1<=xs.H/\xs.H<=4
  ·have hu:Lo [x0,bH,J (.aD xs,.ag),bY,C,fX,eJ,e9,oZ,gN,mB] n=J (.ao (xs.map λx=>.aC<|gp x),.aE,n) :=
    ij xs id (λx=>.aC<|gp x) (by rw[r8];rfl) Z3 λx afo=>by have e:=LB (av x afo) n;show _=J (T.aC<|gp x,bo.ag,n);generalize gp x=v at*;have bG:flag .ag x=Y0:=rfl;have fM:look .ag x=.ag:=rfl;simp![ck,id,bG,fM,e,eO]
   have a6:=vt gp xs n;have Ir:gQ (.aD xs)=xs.all gp:=by simp only[gQ,TH,and_self,decide_true,yI]
   rw[Ir];have fc:(1:Int)<=xs.H:=by lia
   have fO:(xs.H:Int)<=4:=by lia
   generalize xs.map (λx=>T.aC<|gp x)=bs at*;generalize xs.all gp=r at*;generalize Lo=CC at*;simp![dR,j7,kx,iE,jK,ky,gw,fK,dY,g6,fc,fO,hu,a6]
  ·have Ir:gQ (.aD xs)=Y1:=by simp only[gQ,TH,decide_false,se]
   rw[Ir];by_cases af:1<=xs.H
   ·have fc:(1:Int)<=xs.H:=by lia
    have fO:¬ (xs.H:Int)<=4:=by lia
    simp![dR,j7,kx,iE,jK,ky,gw,fK,dY,g6,fc,fO]
   ·have fc:¬ (1:Int)<=xs.H:=by lia
    simp![dR,j7,kx,iE,jK,ky,gw,fK,dY,g6,fc]
 |bk _=>exists h
 |dq=>exists h
 |bJ _=>exists h
 |_=>rfl
def five:List T:=[.br,.aC Y0,.int<|-1,.int 1000,.str "1"]
def LJ:∀o∈five,rN o=Y0/\gR 0 120 o=Y1/\gR 0 999 o=Y1/\gR 0 30 o=Y1:=λo aZ=>by simp only[five,d3,qQ,or_false]at aZ;rcases aZ with rfl|rfl|rfl|rfl|rfl<;>exact⟨rfl,rfl,rfl,rfl⟩
def qO(r:Option<|T×Bool×Nat):T:=match r with
 |some (v,_,_)=>v
 |none=>.br
def LK(hd:gp t=Y0):∃l:List Int,t=aG l/\j9 8 l:=by
 cases t with
 |aD xs =>
  have hd:(decide (1<=xs.H/\xs.H<=8)&&xs.all ly&&n9 xs)=Y0:=hd;rw[f3,f3,decide_eq_true_iff]at hd;obtain⟨⟨aB,ba⟩,b7⟩:=hd;obtain⟨l,rfl,aV⟩:=FI ba;rw[cP]at aB;exact⟨l,rfl,aB.1,aB.2,aV,(Bp l).mp b7⟩
 |_=>exists hd
def als(hd:gQ t=Y0):∃ds:List ZA,t=.aD ZB/\ip 4 8 ds:=by
 cases t with
 |aD xs =>
  have hd:(decide (1<=xs.H/\xs.H<=4)&&xs.all gp)=Y0:=hd;rw[f3,decide_eq_true_iff]at hd;obtain⟨aB,ba⟩:=hd;have:∀aO:List T,aO.all gp=Y0->∃ds:List ZA,aO=ds.map aG/\∀d∈ds,j9 8 d:=λaO=>by
   induction aO with
   |nil=>exact λ_=>⟨[],rfl,λ_ h=>by exists h⟩
   |cons y aO a4 =>
    intro h;rw[jT,f3]at h;obtain⟨ds,rfl,mi⟩:=a4 h.2;obtain⟨d,rfl,hd⟩:=LK h.1
    exact⟨d::ds,rfl,λx av=>by
     rcases d3.mp av with rfl|av
     ·exact hd
     ·exact mi x av⟩
  obtain⟨ds,rfl,mi⟩:=this xs ba;rw[cP]at aB;exact⟨ds,rfl,aB.1,aB.2,mi⟩
 |_=>exists hd
def ahB(h:ea 648 4 t=Y0)(aZ:o∈five)(n:Nat)(w:Nat)(hw:w<11):∃xs,gP [(.int 0,Y0),ZR,Z4,(o,Y0),(.br,Y0)] n=J (.aD xs,Y1,n)/\(gQ t=Y1->xs=[.str "refused",.int 1])/\(gQ t=Y0->9<=w->xs=[.str "refused",.int 3]):=by
 obtain⟨fs,i8,It,De⟩:=LJ o aZ;cases hd:gQ t with
 |false=>exact⟨_,Tv (am6 (adP<|afc h hd n) w hw)<|.inr<|.inl rfl,λ_=>rfl,nofun⟩
 |true =>
  obtain⟨ds,rfl,D⟩:=als hd;by_cases rh:9<=w
  ·exact⟨_,Tv (am7 D Z0 Z0 fs i8 It n w rh hw)<|.inr<|.inr<|.inr rfl,nofun,λ_ _=>rfl⟩
  ·obtain⟨v,e⟩:=alj (c:=.br)<|afi D Z0 Z0 o n w<|sb rh;exact⟨_,e,nofun,λ_ h=>absurd h rh⟩
def ahC(h:ea 648 4 t=Y0)(aZ:o∈five)(n:Nat)(x0 bH bY ct e9 oZ gN mB:Option ZJ) :
  ∃L:List T,CM [x0,bH,J (t,.ag),bY,ct,J (o,.ag),C,e9,oZ,gN,mB] n=J (.bD,[x0,bH,J (t,.ag),bY,ct,J (o,.ag),J (.ao L,.aE),e9,oZ,gN,mB],n)/\(gQ t=Y1->L=List.replicate 11 (ew 1))/\(gQ t=Y0->dv n [.ao L,.int 10]=J (ew 3,.ag)):=by
 have de:bh=1000000:=rfl;have V:∀w:Nat,w<11->∃xs,gP [(.int 0,Y0),ZR,Z4,(o,Y0),(.br,Y0)] n=J (.aD xs,Y1,n)/\(gQ t=Y1->xs=[.str "refused",.int 1])/\(gQ t=Y0->9<=w->xs=[.str "refused",.int 3]):=λw hw=>ahB h aZ n w hw;have b6:Vr [x0,bH,J (t,.ag),bY,ct,J (o,.ag),C,e9,oZ,gN,mB] n=J (.ao ((List.range 11).map λ(w:Nat)=>qO<|gP [(.int 0,Y0),ZR,Z4,(o,Y0),(.br,Y0)] n),.aE,n):=by
  refine ij (List.range 11) (λ(w:Nat)=>T.int (w:Nat)) _ rfl (by simp;decide) λw hw=>?_;obtain⟨xs,e,_⟩:=V w<|nr.mp hw;have a:qO (gP [(.int 0,Y0),ZR,Z4,(o,Y0),(.br,Y0)] n)=.aD xs:=by rw[e];rfl
  have bG:∀t,flag .ag t=Y0:=λ_=>rfl;have fM:∀t,look .ag t=.ag:=λ_=>rfl;rw[a];simp![ck,bG,fM,e,eO]
 refine⟨(List.range 11).map λ(w:Nat)=>qO<|gP [(.int 0,Y0),ZR,Z4,(o,Y0),(.br,Y0)] n,?_,λhd=>?_,λhd=>?_⟩
 ·unfold CM;rw[Mh,b6];rfl
 ·have:∀w∈List.range 11,qO (gP [(.int 0,Y0),ZR,Z4,(o,Y0),(.br,Y0)] n)=ew 1:=λw hw=>by obtain⟨xs,e,z,_⟩:=V w<|nr.mp hw;rw[e,z hd];rfl
  rw[mF this];rfl
 ·obtain⟨xs,e,_,z⟩:=V 10 Z0;have a:qO (gP [(.int 0,Y0),(.int ((10:Nat):Nat),Y0),Z4,(o,Y0),(.br,Y0)] n)=ew 3:=by rw[e,z hd Z0];rfl
  rw[<-a];rfl
def Vz(c n:Nat):gn n [ew c,ew c]=J (.aC Y1,.ag):=by rw[xR,AW rfl];rfl
def Bs(m:Nat)(c n:Nat):gn n [.ao<|List.replicate m<|ew c,.ao<|List.replicate m<|ew c]=J (.aC Y1,.ag)/\gk n [.ao<|List.replicate m<|ew c,.ao<|List.replicate m<|ew c]=J (.aC Y0,.ag):=by
 have p:dZ 6 (.ao<|List.replicate m<|ew c)=Y0:=by show(List.replicate m<|ew c).all (dZ 5)=Y0;rw[iL];intro x av;rw[(MH.mp av).2];rfl
 constructor
 ·rw[xR,AW p];rfl
 ·rw[xQ,AW p];rfl
def ahD(ns:List Int)(h:ea 648 4 t=Y0)(n:Nat)(bz:n<=1000)(bY:Option ZJ):∃o eJ,o∈five/\∀K:bw,bL CL (bL CM<|bL w4<|bL w5 K) [SC ns,TW,J (t,.ag),bY,J (.aC<|gQ t,.ag),C,C,C,C,C,C] n=K [SC ns,TW,J (t,.ag),bY,J (.aC<|gQ t,.ag),J (o,.ag),eJ,C,C,C,C] (n+1):=by
 have de:bh=1000000:=rfl;obtain⟨o,aZ,az⟩:=Be ns five Y0 n (by simp[five]) Z3;obtain⟨L,bX,HI,cN⟩:=ahC h aZ (n+1) (SC ns) TW bY (J (.aC<|gQ t,.ag)) C C C C;refine⟨o,J (.ao L,.aE),aZ,λK=>?_⟩;have hr:∀S m,dF (aa (aY<|aw .br)<|aa (aY<|aw<|.aC Y0)<|aa (aY<|aH pD<|aa Z5 ar)<|aa (aY<|aw<|.int 1000)<|aa (aY<|aw<|.str "1") ar) S m=J (.ao five,.aE,m):=λ_ _=>rfl;have s3:CL [SC ns,TW,J (t,.ag),bY,J (.aC<|gQ t,.ag),C,C,C,C,C,C] n=J (.bD,[SC ns,TW,J (t,.ag),bY,J (.aC<|gQ t,.ag),J (o,.ag),C,C,C,C,C],n+1):=by have fM:look .ag o=.ag:=rfl;unfold CL SC TW;generalize dF (aa (aY<|aw .br)<|aa (aY<|aw<|.aC Y0)<|aa (aY<|aH pD<|aa Z5 ar)<|aa (aY<|aw<|.int 1000)<|aa (aY<|aw<|.str "1") ar)=OD at*;generalize five=NH at*;generalize ns.map T.int=sc at*;simp![hr,az,eO]
 rw[h5 s3,h5 bX];have iy:∀S m,lx (dF<|aa (aY<|cw<|aa ZL<|aa (aY Z5) ar) ar) (aw<|.int 11) S m=J (.ao<|List.replicate 11<|ew 1,.aE,m):=λ_ _=>rfl;have hE:∀S m,cw (aa ZL<|aa (aY<|aw<|.int 3) ar) S m=J (ew 3,.ag,m):=λ_ _=>rfl;have aM:=(Bs 11 1<|n+1).1;have fU:=Vz 3<|n+1;unfold SC TW;generalize ns.map T.int=sc at*;cases hd:gQ t with
 |false =>
  rw[HI hd];have s5:w4 Ze (n+1)=J (.bD,Ze,n+1):=by unfold w4;generalize lx (dF<|aa (aY<|cw<|aa ZL<|aa (aY Z5) ar) ar) (aw<|.int 11)=RP at*;generalize List.replicate 11 (ew 1)=hq at*;simp![iy,aM]
  have ju:w5 Ze (n+1)=J (.bD,Ze,n+1):=by unfold w5;simp![]
  rw[h5 s5,h5 ju]
 |true =>
  have g:=cN hd;have s5:w4 Zf (n+1)=J (.bD,Zf,n+1):=by unfold w4;simp![]
  have ju:w5 Zf (n+1)=J (.bD,Zf,n+1):=by unfold w5;generalize cw (aa ZL<|aa (aY<|aw<|.int 3) ar)=mf at*;generalize ew 3=u at*;simp![g,hE,fU]
  rw[h5 s5,h5 ju]
def afp(b7:oa=u)(n:Nat):h1 [(u,Y0)] n=C/\iZ [(u,Y0)] n=J (.br,Y1,n):=by have sO:u=aG [1,2]:=b7.symm;rw[sO];exact⟨xY<|rG qI Z0 n,rH qI Z0 n⟩
def ahE(h:ea 72 2 t=Y0)(aZ:o∈five)(n:Nat)(w:Nat)(hw:w<6):∃xs,gP [(.int 1,Y0),ZR,Z4,(o,Y0),(.br,Y0)] n=J (.aD xs,Y1,n)/\(gp t=Y1->xs=[.str "refused",.int 0])/\(gp t=Y0->4<=w->xs=[.str "refused",.int 3]):=by
 obtain⟨fs,i8,It,De⟩:=LJ o aZ;cases hd:gp t with
 |false =>
  have e:=Lx h n;rw[hd]at e;obtain⟨u,b7⟩:∃u,oa=u:=⟨_,rfl⟩
  obtain⟨qe,qf⟩:=afp b7 n;exact⟨_,Tw (aln b7 qe qf (Sk e<|.inl rfl) w hw)<|.inl rfl,λ_=>rfl,nofun⟩
 |true =>
  obtain⟨l,rfl,D⟩:=LK hd;by_cases cL:4<=w
  ·exact⟨_,Tw (alo D Z0 fs De n w cL hw)<|.inr<|.inr<|.inr rfl,nofun,λ_ _=>rfl⟩
  ·obtain⟨v,e⟩:=alk (c:=.br)<|am8 D Z0 o n (w:=(w:Nat)) Z3;exact⟨_,e,nofun,λ_ h=>absurd h cL⟩
def ahF(h:ea 72 2 t=Y0)(aZ:o∈five)(n:Nat)(x0 bH cf bY ct eJ oZ gN mB:Option ZJ) :
  ∃L:List T,CO [x0,bH,cf,bY,ct,J (o,.ag),eJ,J (t,.ag),oZ,gN,mB] n=J (.bD,[x0,bH,cf,bY,ct,J (o,.ag),J (.ao L,.aE),J (t,.ag),oZ,gN,mB],n)/\(gp t=Y1->L=List.replicate 6 (ew 0))/\(gp t=Y0->jj L (J 4) C=List.replicate 2 (ew 3)):=by
 have de:bh=1000000:=rfl;have V:∀w:Nat,w<6->∃xs,gP [(.int 1,Y0),ZR,Z4,(o,Y0),(.br,Y0)] n=J (.aD xs,Y1,n)/\(gp t=Y1->xs=[.str "refused",.int 0])/\(gp t=Y0->4<=w->xs=[.str "refused",.int 3]):=λw hw=>ahE h aZ n w hw;have dA:Vs [x0,bH,cf,bY,ct,J (o,.ag),eJ,J (t,.ag),oZ,gN,mB] n=J (.ao ((List.range 6).map λ(w:Nat)=>qO<|gP [(.int 1,Y0),ZR,Z4,(o,Y0),(.br,Y0)] n),.aE,n):=by
  refine ij (List.range 6) (λ(w:Nat)=>T.int (w:Nat)) _ rfl (by simp;decide) λw hw=>?_;obtain⟨xs,e,_⟩:=V w<|nr.mp hw;have a:qO (gP [(.int 1,Y0),ZR,Z4,(o,Y0),(.br,Y0)] n)=.aD xs:=by rw[e];rfl
  have bG:∀t,flag .ag t=Y0:=λ_=>rfl;have fM:∀t,look .ag t=.ag:=λ_=>rfl;rw[a];simp![ck,bG,fM,e,eO]
 refine⟨(List.range 6).map λ(w:Nat)=>qO<|gP [(.int 1,Y0),ZR,Z4,(o,Y0),(.br,Y0)] n,?_,λhd=>?_,λhd=>?_⟩
 ·unfold CO;rw[Mh,dA];rfl
 ·have:∀w∈List.range 6,qO (gP [(.int 1,Y0),ZR,Z4,(o,Y0),(.br,Y0)] n)=ew 0:=λw hw=>by obtain⟨xs,e,z,_⟩:=V w<|nr.mp hw;rw[e,z hd];rfl
  rw[mF this];rfl
 ·have:∀w:Nat,4<=w->w<6->qO (gP [(.int 1,Y0),ZR,Z4,(o,Y0),(.br,Y0)] n)=ew 3:=λw cL hw=>by obtain⟨xs,e,_,z⟩:=V w hw;rw[e,z hd cL];rfl
  have cut:∀V:Nat->T,jj ((List.range 6).map V) (J 4) C=[V 4,V 5]:=λ_=>rfl;rw[cut,this 4 Z0 Z0,this 5 Z0 Z0];rfl
def ahG(ns:List Int)(aZ:o∈five)(n:Nat)(bz:n<=1000)(cf bY ct eJ:Option ZJ):∃t qJ n',ea 72 2 t=Y0/\n'<=n+20/\∀K:bw,bL CN (bL CO<|bL w6<|bL x4 K) [SC ns,TW,cf,bY,ct,J (o,.ag),eJ,C,C,C,C] n=K [SC ns,TW,cf,bY,ct,J (o,.ag),qJ,J (t,.ag),C,C,C] n':=by
 have de:bh=1000000:=rfl;obtain⟨d,aM,⟨D,_⟩,g1,g2,az⟩:=Vo ns 2 n Z0 Z0 Z3;have Iq:=D.most;have s0:ea 8 1 (aG d)=Y0:=by refine tI (by rw[cP];exact bP Iq Z0) λy aK=>?_;obtain⟨z,_,rfl⟩:=ey.mp aK;rfl
 have az:tB [ZO,(.dq,Y0),(.int 2,Y0),(.int 30,Y0)] n=J (aG d,Y1,aM):=az;generalize aG d=t0 at*;obtain⟨t,bC,f1,cN,g3,gK⟩:=Bq ns 1 Z0 8 _ aM Z0 Z0 s0 Z3;obtain⟨L,q7,q0,eU⟩:=ahF cN aZ bC (SC ns) TW cf bY ct eJ C C C;refine⟨t,J (.ao L,.aE),bC,cN,by lia,λK=>?_⟩;have oN:CN [SC ns,TW,cf,bY,ct,J (o,.ag),eJ,C,C,C,C] n=J (.bD,[SC ns,TW,cf,bY,ct,J (o,.ag),eJ,J (t,.ag),C,C,C],bC):=by have bG:flag .ag t0=Y0:=rfl;unfold CN SC TW;generalize px=FF at*;generalize ns.map T.int=sc at*;simp![az,eO,bG,f1]
 rw[h5 oN,h5 q7];have iy:∀S m,lx (dF<|aa (aY<|cw<|aa ZL<|aa (aY ZD) ar) ar) (aw<|.int 6) S m=J (.ao<|List.replicate 6<|ew 0,.aE,m):=λ_ _=>rfl;have YS:∀S m,lx (dF<|aa (aY<|cw<|aa ZL<|aa (aY<|aw<|.int 3) ar) ar) ZC S m=J (.ao<|List.replicate 2<|ew 3,.aE,m):=λ_ _=>rfl;have aX:=(Bs 6 0 bC).1;have cK:=(Bs 2 3 bC).1;have ld:=LB cN bC;have fM:look .ag t=.ag:=rfl;have bG:flag .ag t=Y0:=rfl;cases hd:gp t with
 |false =>
  rw[q0 hd];rw[hd]at ld;have y5:w6 [SC ns,TW,cf,bY,ct,J (o,.ag),J (.ao<|List.replicate 6<|ew 0,.aE),J (t,.ag),C,C,C] bC=J (.bD,[SC ns,TW,cf,bY,ct,J (o,.ag),J (.ao<|List.replicate 6<|ew 0,.aE),J (t,.ag),C,C,C],bC):=by unfold w6;generalize lx (dF<|aa (aY<|cw<|aa ZL<|aa (aY ZD) ar) ar) (aw<|.int 6)=RP at*;generalize List.replicate 6 (ew 0)=hq at*;simp![ld,eO,bG,iy,aX]
  have z4:x4 [SC ns,TW,cf,bY,ct,J (o,.ag),J (.ao<|List.replicate 6<|ew 0,.aE),J (t,.ag),C,C,C] bC=J (.bD,[SC ns,TW,cf,bY,ct,J (o,.ag),J (.ao<|List.replicate 6<|ew 0,.aE),J (t,.ag),C,C,C],bC):=by unfold x4;simp![ld,eO,bG]
  rw[h5 y5,h5 z4]
 |true =>
  rw[hd]at ld;have c:=eU hd;have y5:w6 [SC ns,TW,cf,bY,ct,J (o,.ag),J (.ao L,.aE),J (t,.ag),C,C,C] bC=J (.bD,[SC ns,TW,cf,bY,ct,J (o,.ag),J (.ao L,.aE),J (t,.ag),C,C,C],bC):=by unfold w6;simp![ld,eO,bG]
  have z4:x4 [SC ns,TW,cf,bY,ct,J (o,.ag),J (.ao L,.aE),J (t,.ag),C,C,C] bC=J (.bD,[SC ns,TW,cf,bY,ct,J (o,.ag),J (.ao L,.aE),J (t,.ag),C,C,C],bC):=by unfold x4;generalize lx (dF<|aa (aY<|cw<|aa ZL<|aa (aY<|aw<|.int 3) ar) ar) ZC=RP at*;generalize List.replicate 2 (ew 3)=hq at*;unfold lW lL lK;simp![ld,eO,bG,YS,c,cK]
  rw[h5 y5,h5 z4]
theorem VA:∀d:List Z6,(∀q∈d,1<=q.2)->(d.H:Int)<=cI (d.map (·.2))
 |[],_=>by simp[cI]
 |q::d,h=>by have a:=h q<|dS ..;have b:=VA d λx av=>h x<|am _ av;rw[cU,d8];show _<=q.2+cI _;lia
def ana(D:ip 2 3 ds)(n:Nat):∃xs,rD [(.aD ZB,Y0)] n=J (.ao xs,Y0,n)/\1<=xs.H/\xs.H<=9/\∀x∈xs,ea 8 1 x=Y0:=by
 obtain⟨d,W,e⟩:=jc.Vl D Z0 Z0 n;have hV:=W.tC λ_=>Y0;have t1:jl d (λ_=>Y0)=cI (d.map (·.2)):=by unfold jl;rw[yp.mpr λ_ _=>rfl]
 have eH:((ik ds).map cI).countP (λ_=>Y0)=(ik ds).H:=by rw[List.countP_eq_length.mpr λ_ _=>rfl,cP]
 have ge:=VA d W.pos;have le:vZ ds<=9:=by refine bP (RU (F:=3) λx av=>(D.aL x av).most) ?_;exact bP (wg Z0 D.most) Z0
 have po:=amE D;rw[t1,eH,RT]at hV;have fh:((hK<|d.map jE).map aG).H=d.H:=by rw[cP,(DE _).length_eq,cP]
 have d7:1<=d.H:=by
  cases d with
  |nil =>
   have:cI ([]:List Int)=0:=rfl;rw[qR,this]at hV;lia
  |cons _ _=>simp
 refine⟨_,e,(bP d7<|d1 fh.symm),by lia,λx av=>?_⟩;obtain⟨l,aB,rfl⟩:=ey.mp av;obtain⟨q,_,rfl⟩:=ey.mp<|(DE _).mem_iff.mp aB;rfl
def Ub(v:T):Prop:=(∃aO,v=.ao aO/\(∀y∈aO,ea 72 2 y=Y0)/\aO.H<=20)\/∃aO,v=.aD aO
def ahH(ns:List Int)(n:Nat)(bz:n<=1000)(cf bY ct fX eJ e9:Option ZJ):∃v z gN n',Ub v/\ea 72 2 z=Y0/\n'<=n+200/\∀K:bw,bL Fs (bL Ft<|bL Fu<|bL Lr<|bL Fv K) [SC ns,TW,cf,bY,ct,fX,eJ,e9,C,C,C] n=K [SC ns,TW,cf,bY,ct,fX,eJ,e9,J (v,.ag),gN,J (z,.ag)] n':=by
 have de:bh=1000000:=rfl;obtain⟨ds,aM,dl,⟨D,_⟩,g1,g2,az⟩:=Sm ns 2 3 n Z0 Z0 Z0 Z0 Z3;have az:vE [ZO,(.dq,Y0),(.int 2,Y0),(.int 3,Y0)] n=J (.aD ZB,Y1,aM):=az;obtain⟨xs,au,fh,anI,av⟩:=ana D aM;have Pf:Fs [SC ns,TW,cf,bY,ct,fX,eJ,e9,C,C,C] n=J (.bD,[SC ns,TW,cf,bY,ct,fX,eJ,e9,J (.ao xs,.aE),C,C],aM):=by unfold Fs SC TW;generalize T.aD ZB=tt at*;generalize ns.map T.int=sc at*;simp![az,eO,au]
 obtain⟨a,iQ,a1,a6⟩:=qF ns aM xs.H Z3 Z3;obtain⟨j,rfl⟩:∃j:Nat,a=j:=⟨a.M,by lia⟩
 have bU:j<xs.H:=by lia
 have afq:Ft [SC ns,TW,cf,bY,ct,fX,eJ,e9,J (.ao xs,.aE),C,C] aM=J (.bD,[SC ns,TW,cf,bY,ct,fX,eJ,e9,J (.ao xs,.aE),J (.int j,.ag),C],aM+1):=by unfold Ft SC TW;generalize ns.map T.int=sc at*;simp![ll,a6,eO]
 have g:gE xs (j:Int)=J xs[j]:=by unfold gE;rw[Y2<|iQ,Y2<|a1,t9,hh bU]
 have hm:=oy bU;obtain⟨fz,bC,bX,cN,g3,gK⟩:=Bq ns 1 Z0 8 _ (aM+1) Z0 Z0 (av _ hm) Z3;have b6:jj xs C (J (j:Int))=xs.take j:=Sa xs j;have dA:jj xs (J<|(j:Int)+1) C=xs.drop (j+1):=by rw[show((j:Int)+1)=((j+1:Nat):Int) from rfl];exact E8 xs<|j+1
 have ad:∀(p q:List T) (n:Nat),p.H+q.H<=bh->ej n [.ao p,.ao q]=J (.ao<|p++q,.aE):=λp q n h=>by show(if p.H+q.H<=bh then J (T.ao<|p++q,bo.aE) else C)=_;rw[Y2 h]
 have Lz:=ad (xs.take j) [fz] bC (by rw[jS,pK];lia);have LA:=ad (xs.take j++[fz]) (xs.drop<|j+1) bC (by rw[gq,jS,pK,gc];lia);have Df:(xs.take j++[fz]++xs.drop (j+1)).H<=9:=by rw[gq,gq,jS,pK,gc];lia
 have Dg:∀y∈xs.take j++[fz]++xs.drop (j+1),ea 72 2 y=Y0:=λy aK=>by
  have up:∀x∈xs,ea 72 2 x=Y0:=λx h=>vQ Z0 1 2 x Z0<|av x h;rcases hQ.mp aK with h|h
  ·rcases hQ.mp h with h|h
   ·exact up y<|tT h
   ·rw[ow.mp h];exact cN
  ·exact up y<|wc h
 have afr:Fu [SC ns,TW,cf,bY,ct,fX,eJ,e9,J (.ao xs,.aE),J (.int j,.ag),C] (aM+1)=J (.bD,[SC ns,TW,cf,bY,ct,fX,eJ,e9,J (.ao<|xs.take j++[fz]++xs.drop (j+1),.aE),J (.int j,.ag),C],bC):=by
  have cq:1<=bh:=by decide
  have bG:∀t,flag .ag t=Y0:=λ_=>rfl;have fM:∀t,look .ag t=.ag:=λ_=>rfl;unfold Fu SC TW;generalize xs[j]=xj at*;generalize xs.take j++[fz]++xs.drop (j+1)=u3 at*;generalize xs.take j++[fz]=f7 at*;generalize xs.take j=fW at*;generalize xs.drop (j+1)=u4 at*;generalize px=FF at*;generalize ns.map T.int=sc at*;unfold lW lK lL;simp![b6,tr,g,bG,fM,bX,eO,dF,cq,Lz,pk,dA,LA]
 generalize xs.take j++[fz]++xs.drop (j+1)=aO at*;obtain⟨v,bS,eQ⟩:=Be ns [.ao aO,.ao aO,.ao aO,.aD aO,.ao [],.ao aO.reverse] Y0 bC Z7 Z3;have afs:Lr [SC ns,TW,cf,bY,ct,fX,eJ,e9,J (.ao aO,.aE),J (.int j,.ag),C] bC=J (.bD,[SC ns,TW,cf,bY,ct,fX,eJ,e9,J (v,.ag),J (.int j,.ag),C],bC+1):=by
  have hl:0<=bh:=by decide
  have YT:6<=bh:=by decide
  have tp:qp bC [.ao aO]=J (.aD aO,.ag):=rfl;show dK 8 _ [SC ns,TW,cf,bY,ct,fX,eJ,e9,J (.ao aO,.ag),J (.int j,.ag),C] bC=_;unfold SC TW;generalize aV:aO.reverse=yr at*;generalize ns.map T.int=sc at*;unfold By;simp![dF,hl,YT,tp,aV,eQ,eO]
 obtain⟨z,fU,fN,dD,mO,sF⟩:=Bq ns 1 Z0 8 (.aD [.int 2,.int 3]) (bC+1) Z0 Z0 rfl Z3;have aft:Fv [SC ns,TW,cf,bY,ct,fX,eJ,e9,J (v,.ag),J (.int j,.ag),C] (bC+1)=J (.bD,[SC ns,TW,cf,bY,ct,fX,eJ,e9,J (v,.ag),J (.int j,.ag),J (z,.ag)],fU):=by have Nt:∀S m,cw (aa (aY ZC)<|aa (aY<|aw<|.int 3) ar) S m=J (.aD [.int 2,.int 3],.ag,m):=λ_ _=>rfl;have fM:∀t,look .ag t=.ag:=λ_=>rfl;have bG:flag .ag (.aD [.int 2,.int 3])=Y0:=rfl;unfold Fv SC TW;generalize cw (aa (aY ZC)<|aa (aY<|aw<|.int 3) ar)=fa at*;generalize T.aD [.int 2,.int 3]=t23 at*;generalize px=FF at*;generalize ns.map T.int=sc at*;simp![Nt,bG,fN,fM,eO]
 refine⟨v,z,J (.int j,.ag),fU,?_,dD,by lia,λK=>by rw[h5 Pf,h5 afq,h5 afr,h5 afs,h5 aft]⟩;simp only[d3,qQ,or_false]at bS;rcases bS with rfl|rfl|rfl|rfl|rfl|rfl
 ·exact .inl ⟨_,rfl,Dg,(bP Df Z0)⟩
 ·exact .inl ⟨_,rfl,Dg,(bP Df Z0)⟩
 ·exact .inl ⟨_,rfl,Dg,(bP Df Z0)⟩
 ·exact .inr ⟨_,rfl⟩
 ·exact .inl ⟨[],rfl,nofun,by decide⟩
 ·exact .inl ⟨_,rfl,λy aK=>Dg y<|MR.mp aK,by rw[yo];exact bP Df Z0⟩
theorem TJ:∀L:List Z6,(∀q∈L,q.2<=4096)->cI (L.map (·.2))<=4096*(L.H:Int)
 |[],_=>by simp[cI]
 |q::L,h=>by have a:=h q<|dS ..;have b:=TJ L λx av=>h x<|am _ av;rw[cU,d8];show q.2+cI _<=_;lia
def afu(h:Ub v)(n:Nat):∃b,kA [(v,Y0)] n=J (.aC b,Y1,n)/\Bl [(v,Y0)] n=J (.aC b,Y1,n)/\(b=Y0->∃L,v=.ao (e1 L)/\tN L/\h3 L<=90000):=by
 rcases h with⟨aO,rfl,aK,aB⟩|⟨aO,rfl⟩
 ·refine⟨yk aO,afd aK (bP aB Z0) n,aff aK Z0 (bP aB Z0) n,λe=>?_⟩;unfold yk at e;rw[f3,f3]at e;obtain⟨az,au,a6⟩:=e;obtain⟨L,rfl,ek⟩:=FN au;have zo:(e1 L).H=L.H:=cP ..;unfold x5 at a6;rw[FO,decide_eq_true_iff]at a6;have bW:(L.map (·.1)).Nodup:=by rw[a6];exact(sortI_perm _).nodup_iff.mpr (AH _)
  have w1:(L.map (·.1)).Pairwise (·<=·):=by rw[a6];exact ro _
  refine⟨L,rfl,⟨(λz=>by subst z;exists az),(w1.and bW).imp λh=>by lia,ek⟩,?_⟩;have:=TJ L λq a7=>(ek q a7).2.2.2;unfold h3;lia
 ·exact⟨Y1,rfl,rfl,nofun⟩
def bG(t:T):flag .ag t=Y0:=rfl
def fM(t:T):look .ag t=.ag:=rfl
def ajy{n:Nat}(h:kA [(v,Y0)] n=J (.aC Y1,Y1,n))(x0 bH cf bY ct eJ e9 gN:Option ZJ) :
  Lp [x0,bH,cf,bY,ct,J (o,.ag),eJ,e9,J (v,.ag),gN,J (z,.ag)] n=J (.ao<|List.replicate 3<|ew 2,.aE,n):=by
 have de:bh=1000000:=rfl;have x:=afl h;have:=ij (it:=iB<|aa (aw<|.int 3) ar) (l:=[C,J 0,J 1,J 2,J 3,J 4,J 5,J 6,J 7,J 8,J 9,J 10]) (i:=0) (e:=bB 5 gP<|ax ZC<|ax (ai 0)<|ax (ai 9)<|ax (ai 11)<|ax (ai 6) a9)
  (S:=[x0,bH,cf,bY,ct,J (o,.ag),eJ,e9,J (v,.ag),gN,J (z,.ag)]) (n:=n) [(0:Int),1,2] T.int (λ_=>ew 2) rfl (by show 3<=bh;decide) λw hw=>by have e:=LG (c:=o) (alp (z:=z) (o:=o) x (w:=w)<|by simpa using hw)<|.inr<|.inr<|.inl rfl;have qd:hn (ew 2)=Y1:=rfl;generalize ew 2=u at*;simp![ck,bG,fM,e,eO,qd]
 exact this
def ajz{W k:Nat}{n:Nat}(h:kA [(v,Y0)] n=J (.aC Y0,Y1,n))(hz:ea W k z=Y0)(aZ:o∈five)(x0 bH cf bY ct eJ e9 gN:Option ZJ) :
  Lq [x0,bH,cf,bY,ct,J (o,.ag),eJ,e9,J (v,.ag),gN,J (z,.ag)] n=J (.ao<|List.replicate 2<|ew 3,.aE,n):=by
 have de:bh=1000000:=rfl;obtain⟨fs,i8,It,De⟩:=LJ o aZ;obtain⟨x,dE⟩:=TC h;have:=ij (it:=iB<|aa ZC ar) (l:=[C,J 0,J 1,J 2,J 3,J 4,J 5,J 6,J 7,J 8,J 9,J 10]) (i:=0) (e:=bB 5 gP<|ax ZC<|ax (ai 0)<|ax (ai 9)<|ax (ai 11)<|ax (ai 6) a9)
  (S:=[x0,bH,cf,bY,ct,J (o,.ag),eJ,e9,J (v,.ag),gN,J (z,.ag)]) (n:=n) [(0:Int),1] T.int (λ_=>ew 3) rfl (by show 2<=bh;decide) λw hw=>by have e:=LG (c:=o) (alq (z:=z) (o:=o) x dE hz fs De (w:=w)<|by simpa using hw)<|.inr<|.inr<|.inr rfl;have qd:hn (ew 3)=Y1:=rfl;generalize ew 3=u at*;simp![ck,bG,fM,e,eO,qd]
 exact this
def ajA{n:Nat}(bS:v=.ao (e1 L))(Dh:tN L)(hV:h3 L<=90000)(h:kA [(v,Y0)] n=J (.aC Y0,Y1,n))(cA:ea 72 2 t=Y0)(x0 bH cf bY ct fX eJ gN mB:Option ZJ) :
  Ls [x0,bH,cf,bY,ct,fX,eJ,J (t,.ag),J (v,.ag),gN,mB] n=J (.bD,[x0,bH,cf,bY,ct,fX,eJ,J (t,.ag),J (v,.ag),gN,mB],n):=by
 obtain⟨x,dE⟩:=TC h;have ld:=LB cA n;have jv:∀S m,cw (aa ZL<|aa (aY ZD) ar) S m=J (ew 0,.ag,m):=λ_ _=>rfl;unfold Ls;generalize cw (aa ZL<|aa (aY ZD) ar)=km at*;cases hd:gp t with
 |false =>
  have e:=Lx cA n;rw[hd]at e ld;have a:=LG (c:=.br) (am9 (o:=.br) x dE<|Sk e<|.inl rfl)<|.inl rfl;have ne:=Vz 0 n;generalize ew 0=u at*;simp![bG,fM,a,eO,jv,ne]
 |true =>
  rw[hd]at ld;obtain⟨l,rfl,D⟩:=LK hd;obtain⟨r,M⟩:=ak0 D.one (h3 L).M L Dh.gr Z3;have m:=missing D Z0 Dh hV M n;rw[<-bS]at m;obtain⟨u,a⟩:=alm (c:=.br)<|afn (o:=.br) x dE (xY<|rG D Z0 n) (rH D Z0 n) m;have ne:gn n [.aD [.str "told",.aC u],ew 0]=J (.aC Y0,.ag):=by rw[xR];rfl
  have f1:flag .ag (aG l)=Y0:=rfl;have f2:look .ag (aG l)=.ag:=rfl;generalize T.aD [.str "told",.aC u]=uu at*;generalize ew 0=u at*;generalize aG l=tt at*;simp![bG,fM,a,eO,jv,ne,ld]
def run:∀ns:List Int,ns.H<=63->∃S' n',Gp (o5 ns 11) 0=J (.aU (.aC Y0) Y1,S',n'):=by
 intro ns _;have de:bh=1000000:=rfl;obtain⟨t,aM,bY,af,fh,H5⟩:=ahA ns;obtain⟨o,eJ,aZ,H6⟩:=ahD ns af aM (bP fh Z0) bY;obtain⟨d,qJ,bC,hd,fE,H7⟩:=ahG ns aZ (aM+1) (Nat.succ_le_of_lt<|gS fh Z0) (J (t,.ag)) bY (J (.aC<|gQ t,.ag)) eJ;obtain⟨v,z,gN,fU,bS,hz,fc,H8⟩:=ahH ns bC Z3 (J (t,.ag)) bY (J (.aC<|gQ t,.ag)) (J (o,.ag)) qJ<|some (d,.ag);unfold Gp;rw[H5,h5<|Aj af aM (SC ns) TW bY C C C C C C,H6,H7,H8];obtain⟨b,eU,fL,um⟩:=afu bS fU;cases b with
 |false =>
  have jY:=ajy (z:=z) (o:=o) eU (SC ns) TW (J (t,.ag)) bY (J (.aC<|gQ t,.ag)) qJ (J (d,.ag)) gN;have iy:∀S m,lx (dF<|aa (aY<|cw<|aa ZL<|aa (aY ZC) ar) ar) (aw<|.int 3) S m=J (.ao<|List.replicate 3<|ew 2,.aE,m):=λ_ _=>rfl;have eq:=(Bs 3 2 fU).2;refine⟨[SC ns,TW,J (t,.ag),bY,J (.aC<|gQ t,.ag),J (o,.ag),qJ,J (d,.ag),J (v,.ag),gN,J (z,.ag)],fU,?_⟩;unfold Fw;generalize lx (dF<|aa (aY<|cw<|aa ZL<|aa (aY ZC) ar) ar) (aw<|.int 3)=RP at*;generalize List.replicate 3 (ew 2)=hq at*;generalize Lp=C3 at*;simp![bG,fM,fL,eO,jY,iy,eq]
 |true =>
  obtain⟨L,ek,Dh,hV⟩:=um rfl;have q8:=ajz eU hz aZ (SC ns) TW (J (t,.ag)) bY (J (.aC<|gQ t,.ag)) qJ (J (d,.ag)) gN;have iy:∀S m,lx (dF<|aa (aY<|cw<|aa ZL<|aa (aY<|aw<|.int 3) ar) ar) ZC S m=J (.ao<|List.replicate 2<|ew 3,.aE,m):=λ_ _=>rfl;have eq:=(Bs 2 3 fU).2;have afv:Fw [SC ns,TW,J (t,.ag),bY,J (.aC<|gQ t,.ag),J (o,.ag),qJ,J (d,.ag),J (v,.ag),gN,J (z,.ag)] fU=J (.bD,[SC ns,TW,J (t,.ag),bY,J (.aC<|gQ t,.ag),J (o,.ag),qJ,J (d,.ag),J (v,.ag),gN,J (z,.ag)],fU):=by unfold Fw;simp![bG,fM,fL,eO]
  rw[h5 afv,h5<|ajA ek Dh hV eU hd (SC ns) TW (J (t,.ag)) bY (J (.aC<|gQ t,.ag)) (J (o,.ag)) qJ gN<|some (z,.ag)];refine⟨[SC ns,TW,J (t,.ag),bY,J (.aC<|gQ t,.ag),J (o,.ag),qJ,J (d,.ag),J (v,.ag),gN,J (z,.ag)],fU,?_⟩;unfold Tj;generalize lx (dF<|aa (aY<|cw<|aa ZL<|aa (aY<|aw<|.int 3) ar) ar) ZC=RP at*;generalize List.replicate 2 (ew 3)=hq at*;generalize Lq=C4 at*;simp![q8,iy,eq]
end vI
section
namespace PySem.W.Fast
def tw12327172234283379649:=Nat
def tw6126471874903412461:=Nat
def tw502460200870532032:=Nat
def tw9376327499245557010:=Nat
def tw3992295924816529805:=Nat
def tw3834945924190839400:=Nat
def tw14556922858155906059:=Nat
def tw249168760021602073:=Nat
def tw17842851215384356138:=Nat
def tw3871210743905056128:=Nat
def tw287683335596748671:=Nat
def tw336782282441620257:=Nat
def tw3032839583783498208:=Nat
def tw13971601724555996169:=Nat
def tw6361147146359356431:=Nat
def tw13519730840647999123:=Nat
def tw9037658481461304729:=Nat
def tw8758154573996138933:=Nat
def tw9730369903375722487:=Nat
def tw8667959842113568827:=Nat
def tw12554888226953024866:=Nat
def tw14103418596703471567:=Nat
def tw8195973937810026281:=Nat
def tw13322807678304825790:=Nat
def tw972193130439514229:=Nat
def tw2645835791019189926:=Nat
def tw7098589679870186598:=Nat
def tw18233495306947737572:=Nat
def tw17460969631850468065:=Nat
def tw9468600863245794703:=Nat
def tw18417235731026944809:=Nat
def tw18245931354186619773:=Nat
def tw18366838910223749054:=Nat
def tw13017558139284112170:=Nat
def tw13884406200199308829:=Nat
def tw15168098064255141063:=Nat
def tw2463650311342434579:=Nat
def tw8410125230002603049:=Nat
def tw1758121430725629181:=Nat
def tw2205435258846116595:=Nat
def tw17588502159705599984:=Nat
def tw10143425701891128801:=Nat
def tw3188836136037642254:=Nat
def tw16030359195008451163:=Nat
def tw16580976541732849279:=Nat
def tw11734560783384800533:=Nat
def tw8764172897296913146:=Nat
def tw9700933538485156753:=Nat
def tw8329654105315113306:=Nat
def tw5986497143955755296:=Nat
def tw16453996277386829597:=Nat
def tw12305319542103133017:=Nat
def tw4704561456666683294:=Nat
def tw4846616277789166700:=Nat
def tw7987308429505008586:=Nat
def tw1954360302721039494:=Nat
def tw10460552546877316489:=Nat
def tw354170889171435263:=Nat
def tw18398035435228453066:=Nat
def tw6061851146757648038:=Nat
def tw9929593403132771367:=Nat
def tw18234670702549702956:=Nat
def tw16553043626315368939:=Nat
def tw13631670900177120347:=Nat
def tw16283848900370337666:=Nat
def tw2474991517312649350:=Nat
def tw3537325796662158488:=Nat
def tw14697709250670812051:=Nat
def tw1288810959016858412:=Nat
def tw13739992096091213094:=Nat
def tw13874257040609619816:=Nat
def tw1809648669532827434:=Nat
def tw6510485551749125343:=Nat
def tw1485252164312988971:=Nat
def tw13427155804747922262:=Nat
def tw4164635537269010584:=Nat
def tw2608919504751743072:=Nat
def tw13660164784617389951:=Nat
def tw12469165517804870763:=Nat
def tw10362349469881801610:=Nat
def tw11068326963678023544:=Nat
def tw12424806165354272864:=Nat
def tw2081233463498809872:=Nat
def tw13241637173563651307:=Nat
def tw18370554106776453556:=Nat
def tw10358311036906810772:=Nat
def tw11913259029543202522:=Nat
def tw12153381138956559664:=Nat
def tw17663396993319788886:=Nat
def tw18134305169135381720:=Nat
def tw5995876182584479134:=Nat
def tw3796212778463134982:=Nat
def tw3103051286897252461:=Nat
def tw11806336801009855597:=Nat
def tw5416361869182755398:=Nat
def tw15410679548966580461:=Nat
def tw15355596566950249518:=Nat
def tw6615054223398971947:=Nat
def tw18430187291177341510:=Nat
def tw16669450576058994232:=Nat
def tw9999649601014889085:=Nat
def tw4996338577797702205:=Nat
def tw3579500252657185734:=Nat
def tw2498430433146719451:=Nat
def tw5401183495080046100:=Nat
def tw16680036407313180870:=Nat
def tw8857148693921496879:=Nat
def tw5467991267059847931:=Nat
def tw15156587226535690344:=Nat
def tw5201393775647940108:=Nat
def tw1496047883154763814:=Nat
def tw9335373182683823542:=Nat
def tw16366033802568050023:=Nat
def tw14090486921959633969:=Nat
def tw7651385938398109140:=Nat
def tw2586452120888811633:=Nat
def tw2115956290992277698:=Nat
def tw13881597267108713253:=Nat
def tw1730182601050524981:=Nat
def tw2694453216653430203:=Nat
def tw13840255767930810052:=Nat
def tw3560053181547711113:=Nat
def tw11305943089497203937:=Nat
def tw18123564285991556857:=Nat
def tw100740752298419749:=Nat
def tw2247888813437123768:=Nat
def tw17009585527168347226:=Nat
def tw12413116036710463899:=Nat
def tw9221252680902183985:=Nat
def tw16328495628193743785:=Nat
def tw9670273809404431184:=Nat
def tw8016411965307183960:=Nat
def tw18001762070967181101:=Nat
def tw5774132095343143531:=Nat
def tw12816395122433610056:=Nat
def tw6517263452712884771:=Nat
def tw11000272448239783951:=Nat
def tw5839966324646218281:=Nat
def tw1194314835446371027:=Nat
def tw11583923192590828051:=Nat
def tw2486800698400042211:=Nat
def tw14245890875995828747:=Nat
def tw15100523096144585183:=Nat
def tw18030721741714811992:=Nat
def tw11692070644250949580:=Nat
def tw12065079114008627595:=Nat
def tw4272550568035369131:=Nat
def tw4881228654699714881:=Nat
def tw2347848130765628883:=Nat
def tw13909941549879419138:=Nat
def tw7714106782002746590:=Nat
def tw10161013865398945588:=Nat
def tw7876547594210714848:=Nat
def tw2688889753714182411:=Nat
def tw2186725031416656602:=Nat
def tw9800988813609568162:=Nat
def tw10220153693715570329:=Nat
def tw15724745503628249549:=Nat
def tw17058024361289668144:=Nat
def tw3611865091629235083:=Nat
def tw5926261476083666128:=Nat
def tw4069917537879219208:=Nat
def tw3957062061844869686:=Nat
def tw9010614954582417000:=Nat
def tw9664331305067563868:=Nat
def tw322840561897178717:=Nat
def tw7321876537534045368:=Nat
def tw4252565358203321049:=Nat
def tw2325948004026829341:=Nat
def tw12824902094261570168:=Nat
def tw17989469602056849904:=Nat
def tw14216611979886767155:=Nat
def tw8064007462131355473:=Nat
def tw17829411809851261117:=Nat
def tw660935564963667615:=Nat
def tw14046219963370767702:=Nat
def tw2495548295376096426:=Nat
def tw15461368445264885125:=Nat
def tw8488202611839337436:=Nat
def tw13091071039207349185:=Nat
def tw14172474116277300441:=Nat
def tw17408537269085577878:=Nat
def tw16359283552722967622:=Nat
def tw17387864366650264582:=Nat
def tw11875938558761073689:=Nat
def tw954900464949974388:=Nat
def tw8251390562880192644:=Nat
def tw2550637802574101835:=Nat
def tw1403837087594272818:=Nat
def tw17969312434510831867:=Nat
def tw5082573994179997510:=Nat
def tw17413201435095883261:=Nat
def tw12256801248185727864:=Nat
def tw6558506790346478968:=Nat
def tw6404249809065448340:=Nat
end PySem.W.Fast
open PySem PySem.W PyProof.Rows
set_option maxRecDepth 100000 in
set_option maxHeartbeats 0 in
theorem PySem.Challenge.cw_dicesums_k10_whole_refused_anywhere_holds : PySem.Challenge.rw_dicesums_k10_whole_refused_anywhere.Holds := by
  w_on; o_law; k_head; (case hw=>w_witness2)
  k_fill
  refine bj.bO.ag1 (l:=PySem.Challenge.rw_dicesums_k10_whole_refused_anywhere) 10 rfl rfl ⟨rfl, by decide, by decide⟩ (λw h Y=>W.kIn_of Y) ?F
  case F =>
    intro w a3 da h lF G zU;refine' vI.all_mk ?Y zU vI.run;constructor;exact lF;exact G
    all_goals first
      |(apply bj.bO.akH; k_is; k_is; k_is; k_is)
      |(refine W.mg_none_of lF G ?_; k_is)
      |(refine W.mg_of lF G ?_; k_is)
      |k_exc
      |k_is
      |(constructor<;>first|k_is|(apply bj.bO.some_of; k_is))
end