import PyProof.Rows.All
import Wide.All
import OpenK.AllK
import Wide.FinOn
import PyProof.EqAt
import PyProof.EqKinds
import PyProof.TupleCall
import Lean
import PyProof.StrLawsChain
import PyProof.StrLawsTight
import PyProof.StrBlock2
import PyProof.StrBlockH
import KE.KIntText
import PyProof.ReprReads
import PySem.Challenge.RW_dicesums_k10_whole_refused_anywhere
set_option autoImplicit true
local macro_rules|`(tactic| fail)=>`(tactic| (extract_lets+onlyGivenNames-underBinder zz; subst zz))
set_option Elab.async false
set_option linter.all false
set_option maxRecDepth 100000
set_option maxHeartbeats 0
set_option bootstrap.genMatcherCode false
set_option compiler.extract_closed false
set_option genSizeOfSpec false
noncomputable section
open List renaming length_map->cP,mem_cons_self->dT,map_cons->cU,mem_cons_of_mem->am,length_cons->d9,size_toArray->eU,mem_cons->d4,getElem?_eq_getElem->hj,mem_map->ez,length_append->gr,map_map->ci,getElem?_eq_some_iff->kM,append_assoc->h7,mem_append->hR,all_eq_true->iM,pairwise_cons->jT,mem_map_of_mem->kf,getD_eq_getElem?_getD->nq,mem_append_right->l3,getElem?_map->kg,set_cons_succ->kN,set_cons_zero->kO,length_take->jU,length_drop->gc,drop_eq_getElem_cons->pL,map_congr_left->mH,length_replicate->ow,all_cons->jV,mem_filter->lC,map_append->lD,length_singleton->pM,take_append_drop->pN,replicate_succ->ox,flatMap_cons->nr,mem_append_left->pO,pairwise_append->pP,mem_singleton->oy,foldl_cons->mI,nodup_cons->nt,countP_cons->oz,getElem_mem->oA,perm_append_comm->r3,length_filter_le->r4,mem_range->nu,filterMap_cons->r5,nil_append->pQ,find?_cons->ii,eq_nil_of_length_eq_zero->io,not_mem_nil->qR,mem_of_mem_take->tU,any_cons->oB,findIdx?_eq_some_iff_getElem->BJ,drop_eq_nil_of_le->wc,take_of_length_le->wd,getElem?_append_left->yn,lookup_cons->r6,mem_of_mem_drop->we,append_nil->r7,length_set->r8,flatten_cons->tV,length_range->tW,getLast?_eq_some_getLast->BK,all_map->pR,countP_eq_length_filter->BL,filter_cons->tX,getElem?_append_right->BM,map_nil->qS,length_nil->tY,drop_sublist->wg,extract_eq_take_drop->BN,nodup_append->wh,getLastD_eq_getLast?->BO,mem_iff_getElem->yo,length_reverse->yp,filter_eq_self->yq,getElem?_replicate->BP,getElem?_cons_zero->BQ,sum_cons->tZ,take_sublist->ys,getElem?_set->yt,getElem_drop->yu,getElem_take->yv,pairwise_map->yw,map_id->r9,take_length->yx,pairwise_iff_getElem->GD,getElem?_cons_succ->GF,length_eq_zero_iff->GG,drop_zero->yy,reverse_cons->BR,getElem?_set_self->GH,range_succ_eq_map->GI,getElem?_eq_none->GJ,countP_le_length->GK,getElem?_set_ne->GL,of_mem_zip->BS,foldr_cons->BU,length_pos_iff->GN,countP_eq_zero->GO,drop_drop->BV,mem_filterMap->GP,countP_append->GQ,length_eraseIdx_of_lt->Mv,perm_ext_iff_of_nodup->Mw,findIdx?_eq_none_iff->Mx,getElem?_take_of_lt->My,cons_append->GR,mem_flatMap->GS,set_set->BW,pairwise_lt_range->Mz,sum_replicate_nat->MA,countP_mono_left->MB,getElem?_toArray->MC,take_succ->GU,mem_of_getElem?->MD,replicate_succ'->ME,mem_of_mem_tail->MF,take_succ_cons->MG,take_add->GV,length_zipWith->MH,countP_pos_iff->MI,filterMap_map->MJ,mem_replicate->MK,zip_cons_cons->ML,any_map->GW,any_eq_false->MM,foldl_append->MN,take_add_one->MO,countP_congr->MP,getElem_inj->MQ,map_flatMap->MR,getLast_mem->MS,getLast_map->MT,mem_reverse->MU
open Nat renaming le_trans->bP,le_refl->cg,lt_of_lt_of_le->d5,le_of_eq->d2,le_of_lt->eA,ne_of_lt->bv,le_add_right->gd,lt_of_le_of_lt->gT,add_le_add_left->h8,le_of_not_lt->hS,le_antisymm->h9,zero_le->gH,le_of_add_right_le->l4,pos_of_ne_zero->kh,le_of_lt_succ->ki,lt_of_succ_lt->kP,le_add_right_of_le->oC,add_sub_cancel'->nv,add_lt_add_left->nx,lt_of_add_right_lt->qT,le_of_add_left_le->qU,lt_succ_of_lt->oD,lt_succ_self->oE,lt_or_ge->l5,le_mul_of_pos_left->t2,lt_of_le_of_ne->sa,le_sub_of_add_le->t4,lt_irrefl->oF,not_lt_of_le->sb,lt_of_not_le->sd,sub_lt_left_of_lt_add->yz,sub_le->mJ,pow_le_pow_right->wi,lt_succ_of_le->t5,ne_of_gt->pS,add_sub_cancel_left->yA,le_of_sub_eq_zero->yB,mul_comm->qV,add_le_of_le_sub->yC,mul_le_mul_right->yD,succ_le_succ->wj,succ_mul->se,lt_add_of_pos_right->BX,le_add_left->wk,le_of_ble_eq_true->BY,mul_le_mul->wm,zero_add->t6,sub_one_lt_of_lt->BZ,le_succ->t7,lt_trans->wo,pow_succ->wq,min_le_right->B0,sub_eq_zero_of_le->GX,add_assoc->yE,sub_lt_of_lt->B1,sub_le_sub_right->GY,le_sub_one_of_lt->GZ,add_sub_add_left->G0,add_comm->yF,sub_zero->yG,sub_le_sub_left->G1,sub_lt->wt,mul_le_mul_left->G2,lt_of_sub_pos->G3,sub_pos_of_lt->G4,le_max_right->G5,not_le_of_lt->G6,zero_max->lf,sub_self->B2,le_mul_of_pos_right->MV,le_sub_of_add_le'->MW,mul_assoc->G7,add_sub_cancel->MX,add_zero->G8,lt_asymm->G9,add_sub_assoc->MY,le_succ_of_le->MZ,not_lt->Ha
open PySem.Heap renaming get?_push_of_some->ed,lt_size->d6,get?_push_size->gC,get?_update_self->qW,size_push->ny,get?_update_other->t8,get?_push_ne->yH,size_update->B3,get?_some_iff->M0
open Option renaming bind_some->eO,map_some->kj,isSome_iff_exists->yI,getD_none->M1
open Array renaming length_toList->gI,getElem?_toList->lE,getElem_mem->jW,getElem?_eq_getElem->t9,toList_append->wu,toArray_toList->B4,toList_extract->B5,toList_push->B6,toList_setIfInBounds->M3,perm_iff_toList_perm->M4,getElem?_eq_none->M5,toList_reverse->M6,getElem_toList->M7,size_append->M8
open Bool renaming and_eq_true->f5,false_eq_true->jo,false_ne_true->nz,false_and->sf,and_false->wx,true_and->yJ,not_eq_true->Hb,eq_iff_iff->Hc,not_eq_true'->M9
open Int renaming natCast_nonneg->ir,le_trans->jq,lt_of_le_of_lt->nA,le_of_lt->kQ,lt_of_not_ge->sg,toNat_natCast->ua,not_lt_of_ge->yK,lt_of_lt_of_le->B7,mul_le_mul_of_nonneg_right->Na,mul_le_mul_of_nonneg_left->Nb,ne_of_lt->yL,emod_lt_of_pos->Hd,add_mul->yM,ne_of_gt->B8,emod_nonneg->He,natCast_mul->Hf,sub_eq_add_neg->Nc,le_of_eq->Hg,not_lt->Hh
open PySem.Calls renaming spliced_cons->ia,spliced_nil->l6,callWith_builtin->ub,evalArgs_plain->uc
open PySem renaming Value->mt,wpAny_bind->a8,Shared->aR,wpAny_pure->bZ,starEach->b4,model->bg,wpAny->bl,sizeLine->dg,Program->dx,World->c3,Around->dI,wpAny_newObj_type->kR,wpAny_mono->hk,backTo->ff,wpAny_Call_Name_kw->l7,wpAny_holding->jr,compareOp->hq,FuncData->hC,foldedSetIterable->oG,rawInt->gJ,mainGlobals->kS,bootBuiltins->l8,wpAny_truthy_bool->qX,codeAny_builtin->pT,sizeLine_eq->mK,plainId_quiet->oH,intKind->i4,wpAny_rule->l9,assignEach->mL,wpAny_call_entry->sh,call_meets->nB,codeAny->kk,wpAny_callSpecial?_slot->yN,binaryOp->ma,cLine->iu,swapsWith->nC,scanBound->nD,wpAny_passesOwn->ud,wpAny_updateSeq->ue,codeAny_mono->si,wpAny_typeOf->sj,Scope->js,attributeBase->uf,sysModules->qY,wpAny_Call_method->yO,wpAny_setState_of->yP,fits_of_scanBound->yQ,pyIter->mb,getItem->nE,builtinLookup_eq_fast->B9,wpAny_setField->wy,SetTable->pU,wpAny_askSetting->yR,behindInMarks->wz,pyNext->mM,wpAny_attempt->wA,holding->oI,sliceBounds->ug,keywordEach->uh,wpAny_execs_nil->yS,assign->nF,pickOrder->sk,wpAny_call->ui,Keyword->pV,isSubtype_type->yT,wpAny_pyIter_list->Ca,wpAny_field->wB,bindArgs->sl,NameKind->sm,letOwnedTupleGo->Cb,IsPart->pW,stored->pX,wpAny_loadPart'->Cc,typeLookup_type->Cd,codeAny_call_builtin->Hi,wpAny_setEntries_of->Hj,spliced->so,backToKw->uj,callerA->sq,wpAny_tryCatch->Ce,wpAny_seqItems->Cf,wpAny_pyIter_tuple->Hk,argsOk->qZ,wpAny_newFunctionEnv_cells->Nd,wpAny_sequenceKey->Hl,wpAny_setEpoch_of->Hm,typeIs_int->yU,wpAny_binaryOp_repeat_ref->Nf,BindsTo->uk,valueAt->um,Result->sr,wpAny_getItem_list_slice->Ng,concat_meets->Cg,noFill_tuple_add->Hn,relayAll->wC,wpAny_isInstance->Ho,PassesOwn->yV,wpAny_ite_split->Hp,subscripted->Ci,wpAny_letGo->Cj,recursionLimit->Hq,wpAny_runValue->Hr,entryFor->yW,wpAny_standAt->Hs,evalPart_none->Ht,seq_tuple_add->rc
open PyProof.Rows renaming wpS_bind->cz,wpS_pure->c6,Keyed->b3,arrOf->cC,SortSt->dP,pendingOf->fy,IntsAre->ha,kindOf->hl,wpS_forRange->mO,envOfC->i5,wpS_mono->lF,seqObj->i6,setArr->jt,AllBare->oJ,wpS_get->oK,failedOf->q0,gallopOf->su,wpS_lift->sv,wpS_modify->wD,entry_tuple_getitem->Hu,boot_sorted->yX,args_tuple_getitem->Hv,subscriptTail->Ck,SortKind->wF,subscriptTail_builtinR->Nh,Subscript_->Cm,tupleItemsOf_->Hw,listUpdate_at->Hx
open Option renaming some->J,none->C
open Bool renaming true->Y0,false->Y1
theorem az0 (h:True:=by rfl):True:=trivial
theorem az0.x:True:=trivial
open az0 renaming _auto_1->bu
theorem az1 (h:True:=by decide):True:=trivial
theorem az1.x:True:=trivial
open az1 renaming _auto_1->eM
theorem az2 (h:True:=by first|exact .inl rfl|exact .inr rfl|assumption):True:=trivial
theorem az2.x:True:=trivial
open az2 renaming _auto_1->pY
theorem az3 (h:True:=by intro _; rfl):True:=trivial
theorem az3.x:True:=trivial
open az3 renaming _auto_1->sA
theorem az4 (h:True:=by first|exact Or.inl rfl|exact Or.inr rfl):True:=trivial
theorem az5 (h:True:=by with_unfolding_all rfl):True:=trivial
theorem az6 (h:True:=by intros; rfl):True:=trivial
theorem az7 (h:True:=by first|exact Or.inl rfl|exact Or.inr (Or.inl rfl)|exact Or.inr<|Or.inr rfl):True:=trivial
theorem az8 (h:True:=by first|exact aly _ (by decide) (by decide)|rfl):True:=trivial
def Y2{c:Prop}{h:Decidable c}(hc:c){α:Sort u}{t e:α}:ite c t e=t:=if_pos hc
def Y3{c:Prop}{h:Decidable c}(hc:¬c){α:Sort u}{t e:α}:ite c t e=e:=if_neg hc
section
open Lean
def Fa(s:String):String:=match s with
|"H"=>"length"
|"O"=>"size"
|"Q"=>"toArray"
|"B"=>"toList"
|"D"=>"heap"
|"E"=>"objs"
|"I"=>"env"
|"M"=>"toNat"
|"R"=>"prog"
|"V"=>"base"
|"Y"=>"scope"
|"d"=>"data"
|"e"=>"names"
|s=>s
def Y4:Name->Name
|.str p s=>if s=="L" then .str (.str (.str (if p.isAnonymous then p else Y4 p) "heap") "objs") "size" else .str (if p.isAnonymous then p else Y4 p) (Fa s)
|n=>n
def Y5(n:Name):Name:=n.getRoot++Y4 (n.replacePrefix n.getRoot .anonymous)
def Y6:Nat->Syntax->Syntax
|k+1,s=>if s.isIdent then mkIdentFrom s (Y5 s.getId) else if s.isOfKind ``Lean.Parser.Term.proj then(s.setArg 0 (Y6 k s[0])).modifyArg 2 fun i=>if i.isIdent then mkIdentFrom i (Y4 i.getId) else i else s
|_,s=>s
end
open Lean in
local macro_rules
|`($x:ident)=>do
 let n:=x.getId
 if n.isAtomic||n.hasMacroScopes then Macro.throwUnsupported
 let m:=Y5 n
 if m==n then Macro.throwUnsupported
 return mkIdentFrom x m
open Lean in
local macro_rules (kind:=Lean.Parser.Term.proj)
|s=>do
 let t:=Y6 9 s
 if t==s then Macro.throwUnsupported
 return t
set_option hygiene false
open Lean in
def Zt0(n:Nat):MacroM Term:=match n with
|0=>`(by decide)
|1=>`(Addr×Obj)
|2=>`(bg X.prog X.w)
|3=>`(by lia)
|4=>`((t,true))
|5=>`(aw (.int 1))
|6=>`(Int×Int)
|7=>`(by simp)
|8=>`(ax (ai 0) a9)
|9=>`(bg prog w)
|10=>`(List Int)
|11=>`(ds.map aG)
|12=>`(aw (.int 2))
|13=>`(aw (.int 0))
|14=>`(aa (ai 0) ar)
|15=>`(dk aL d)
|16=>`((false,eval e X.env))
|17=>`((x==("__debug__" : Str))=false)
|18=>`(.ref aN)
|19=>`(T×bo)
|20=>`(aa (aY Z5) (aa (aY ZC) ar))
|21=>`(aY (aw (.str "refused")))
|22=>`((o,true))
|23=>`(.ref a)
|24=>`(aa (ai 1) ar)
|25=>`(b4 (e::es) X.env=ZG::b4 es X.env)
|26=>`((.ao (ns.map .int),false))
|27=>`(ax (ai 1) a9)
|28=>`((u,true))
|29=>`(.refl _ _)
|30=>`(aa ZD ar)
|31=>`(aa (ai 2) ar)
|_=>Macro.throwUnsupported
open Lean in
def Zt1(n:Nat):MacroM Term:=match n with
|0=>`(Key×V)
|1=>`((.int (w:Nat),true))
|2=>`(gy X N' scope cl aN cD dJ fp)
|3=>`(by decide+kernel)
|4=>`(cT (aw (.aC false)))
|5=>`((.aD ZB,true))
|6=>`((.br,false,n))
|7=>`(ax (ai 2) a9)
|8=>`([none,some 0,some 1,some 2,some 3,some 4])
|9=>`(aw (.int 3))
|10=>`(T×bo×Nat)
|11=>`((.bk (ay d),.aE))
|12=>`(.Name x e5)
|13=>`((.aC true,.ag))
|14=>`(f6 X ae O Q)
|15=>`(b4 es X.env)
|16=>`(.Call (.Name x p) (e::es) [] pos)
|17=>`((.bk (ay t),.ag))
|18=>`(some (t,.ag))
|20=>`((.aC false,false,n))
|21=>`(X.fn x=true\/X.env.scope.names.lookup x=some .local)
|22=>`((∀b o,s.heap.get? b=some o->h'.get? b=some o))
|23=>`(aH ek (aa (ai 5) (aa (cw (aa (aY (ai 0)) ar)) ar)))
|24=>`(.ref s.heap.objs.size)
|25=>`(aH ek (aa (ai 4) (aa (ai 5) ar)))
|26=>`((∀x,oG iter X.env x=pure x))
|27=>`(.ListComp elt [⟨di,iter,ifs,0⟩] scope pos)
|28=>`([x0,some (aG aL,.ag),some Zi,some (.ao (cm.map .int),.aE),ct,fY,eK,fa])
|29=>`((.bk (ay d),if b then bo.ag else bo.cZ))
|30=>`(ax (ai 1) (ax (ai 2) (ax (ai 3) a9)))
|31=>`(ax (ai 4) (ax Z5 (ax (aw (.int 8)) a9)))
|_=>Macro.throwUnsupported
open Lean in
def Zt2(n:Nat):MacroM Term:=match n with
|0=>`(((fy st).setIfInBounds i (a0,na+nb,pa)).eraseIdxIfInBounds (i+1))
|1=>`(W.fnOf n n (nT st) (ih st) (er st) .none eB doc pm an c8 eE)
|2=>`([x0,some (dp tb,.aE),some (dz row,.aE),some (dz left,.aE),ct])
|3=>`(A.deeper (i5 n (er st) s.heap.objs.size r.f c8))
|_=>Macro.throwUnsupported
open Lean in
def Ztab(n:Nat):MacroM Term:=match n/32 with
|0=>Zt0<|n%32
|1=>Zt1<|n%32
|2=>Zt2<|n%32
|_=>Macro.throwUnsupported
open Lean in
def Zval(c:Char):Nat:=let n:=c.M;if n<58 then n-48 else if n<90 then n-55 else n-62
open Lean in
local macro_rules
|`($x:ident)=>do
 let s:=x.getId.toString
 if s.front != 'Z' then Macro.throwUnsupported
 match (s.toList.drop 1).map Zval with
 |[a]=>Ztab a
 |[a,b]=>Ztab<|61+a*61+b
 |_=>Macro.throwUnsupported
theorem az9 (h:True:=by first|exact aU.mono Z0|exact aU.mono<|by omega):True:=trivial
theorem az10 (h:True:=by exact uR):True:=trivial
theorem az11 (h:True:=by decide+kernel):True:=trivial
theorem az12 (h:True:=by first|exact qh λ_ _ _ _ _ _ _=>rfl|exact zD λ_ _ _ _ _ _ _ _=>rfl|exact zE λ_ _ _ _ _ _ _ _ _=>rfl|exact zF λ_ _ _ _ _ _ _ _ _ _=>rfl|exact zG λ_ _ _ _ _ _ _ _ _ _ _=>rfl):True:=trivial
namespace bj
def afA{α:Type _}{r:α}{p:Prop}(e:C=J r):p:=nomatch e
def afB{α:Type _}{a c:α}(e:J a=J c):a=c:=Option.some.inj e
def afC{α β:Type _}{a c:α}{b d:β}(e:J (a,b)=J (c,d)):a=c/\b=d:=by injection e with e;injection e with e f;exact⟨e,f⟩
def afD{α β γ:Type _}{a c:α}{b d:β}{x y:γ}(e:J (a,b,x)=J (c,d,y)):a=c/\b=d/\x=y:=by injection e with e;injection e with e f;injection f with f g;exact⟨e,f,g⟩
def afE{α β:Type _}{a c:α}{b d:β}(e:(a,b)=(c,d)):a=c/\b=d:=by injection e with e f;exact⟨e,f⟩
end bj
local macro_rules|`(tactic| exists $e:ident)=>`(tactic| first|exact bj.afA $e|(obtain ⟨zq0, zq1, zq2⟩:=bj.afD $e; clear $e; first|subst zq0 zq1 zq2|(subst zq0; subst zq1; clear zq2)|(subst zq0; subst zq2; clear zq1)|(subst zq1; subst zq2; clear zq0))|(obtain ⟨zq0, zq1⟩:=bj.afC $e; clear $e; first|subst zq0 zq1|(subst zq0; clear zq1)|(subst zq1; clear zq0))|(have zq0:=bj.afB $e; clear $e; subst zq0)|(obtain ⟨zq0, zq1⟩:=bj.afE $e; clear $e; subst zq0 zq1)|subst $e|(injection $e; done)|(injection $e with zq0; subst zq0)|(injection $e with zq0 zq1; subst zq0 zq1)|cases $e:ident)
section
namespace bj
open PySem PySem.Spec PyProof.Rows
abbrev Key:=Sum Int Str
noncomputable def uS:Key->mt->Bool
 |.inl k,v=>Value.isInt k v
 |.inr x,v=>Value.isStrOf x v
noncomputable def afF(w:c3):Key->Int
 |.inl k=>hashInt k
 |.inr x=>hashStr w x
theorem qi:∀{k:Key} {v:mt},uS k v=Y0->(∃i t,k=Sum.inl i/\v=Value.int i t)\/(∃x t,k=Sum.inr x/\v=Value.str x t)
 |.inl i,v,h=>by obtain⟨t,e⟩:=Value.isInt_shape (k:=i) (v:=v) h;exact .inl ⟨i,t,rfl,e⟩
 |.inr x,v,h=>by obtain⟨t,e⟩:=Value.isStrOf_shape (x:=x) (v:=v) h;exact .inr ⟨x,t,rfl,e⟩
def YX(i:Int)(t:Tok):uS (.inl i) (.int i t)=Y0:=by simp[uS,Value.isInt]
def YY(x:Str)(t:Tok):uS (.inr x) (.str x t)=Y0:=by simp[uS,Value.isStrOf]
def ahM(a b:Int):decide ((Sum.inl a:Key)=Sum.inl b)=(a==b):=by
 by_cases e:a=b
 ·subst e;simp
 ·have h:¬ (Sum.inl a:Key)=Sum.inl b:=λq=>e<|Sum.inl.inj q;rw[decide_eq_false h];exact(beq_eq_false_iff_ne.mpr e).symm
def ahN(a b:Str):decide ((Sum.inr a:Key)=Sum.inr b)=decide (a=b):=by
 by_cases e:a=b
 ·subst e;simp
 ·have h:¬ (Sum.inr a:Key)=Sum.inr b:=λq=>e<|Sum.inr.inj q;rw[decide_eq_false h,decide_eq_false e]
def ahO(a:Int)(b:Str):decide ((Sum.inl a:Key)=Sum.inr b)=Y1:=decide_eq_false (λq=>nomatch q)
def ahP(a:Str)(b:Int):decide ((Sum.inr a:Key)=Sum.inl b)=Y1:=decide_eq_false (λq=>nomatch q)
noncomputable def hI(prog:dx)(w:c3):PySem.KeyKind prog w Key where
 is:=uS
 hash:=afF w
 inj:=λv a b ba aq=>by
  rcases qi ba with⟨i,t,rfl,rfl⟩|⟨x,t,rfl,rfl⟩
  ·rcases qi aq with⟨j,u,rfl,e⟩|⟨y,u,rfl,e⟩
   ·injection e with az _;rw[az]
   ·exact nomatch e
  ·rcases qi aq with⟨j,u,rfl,e⟩|⟨y,u,rfl,e⟩
   ·exact nomatch e
   ·injection e with az _;rw[az]
 byValue:=λk v h=>by rcases qi h with⟨i,t,rfl,rfl⟩|⟨x,t,rfl,rfl⟩<;>rfl
 pyHash:=λbS h=>by
  rcases qi bS with⟨i,t,rfl,rfl⟩|⟨x,t,rfl,rfl⟩
  ·exact wpAny_pyHash_int h
  ·exact wpAny_pyHash_str h
 eqBool:=λb7 bS h=>by
  rcases qi b7 with⟨i,t,rfl,rfl⟩|⟨x,t,rfl,rfl⟩
  ·rcases qi bS with⟨j,u,rfl,rfl⟩|⟨y,u,rfl,rfl⟩
   ·rw[ahM]at h;exact wpAny_eqBool_int h
   ·rw[ahO]at h;exact SeqAt.EqAt.int_str i t y u _ _ _ _ h
  ·rcases qi bS with⟨j,u,rfl,rfl⟩|⟨y,u,rfl,rfl⟩
   ·rw[ahP]at h;exact SeqAt.EqAt.str_int x t j u _ _ _ _ h
   ·rw[ahN]at h;exact wpAny_eqBool_str h
 «strs»:=λk x t v h=>by
  rcases qi h with⟨i,u,rfl,e⟩|⟨y,u,rfl,e⟩
  ·exact nomatch e
  ·injection e with az _;subst az
   exists v<;>rfl
def YZ(prog:dx)(w:c3)(i:Int)(t:Tok):(hI prog w).is (.inl i) (.int i t)=Y0:=YX i t
def aaa(prog:dx)(w:c3)(x:Str)(t:Tok):(hI prog w).is (.inr x) (.str x t)=Y0:=YY x t
inductive V where
 |br|aC (b:Bool)|int (i:Int)|str (x:Str)|sQ (b:Array UInt8)|uT (b:UInt64)|ref (a:Addr)|ty (n:String)
 deriving DecidableEq
def cW:V->mt->Prop
 |.br,u=>u=Value.none
 |.aC b,u=>u=Value.bool b
 |.int i,u=>∃t,u=Value.int i t
 |.str x,u=>∃t,u=Value.str x t
 |.sQ b,u=>∃t,u=Value.bytes b t
 |.uT b,u=>∃t,u=Value.float b t
 |.ref a,u=>u=Value.ref a
 |.ty n,u=>u=Value.type n
abbrev cG:List V->List mt->Prop:=Paired cW
theorem cG.length(r:cG xs us):xs.H=us.H:=Paired.length r
theorem cG.get:∀{xs:List V} {us:List mt} {i:Nat} {x:V},cG xs us->xs[i]?=J x->∃u,us[i]?=J u/\cW x u
 |_,_,_,_,.nil,e=>by simp at e
 |_,_,0,_,.cons r _,e=>by simp at e;subst e;exact⟨_,rfl,r⟩
 |_,_,i+1,x,.cons _ t,e=>by obtain⟨u,af,ak⟩:=cG.get (i:=i) (x:=x) t (by simpa using e);exact⟨u,by simpa using af,ak⟩
theorem cG.set(r:cW x u):∀{xs:List V} {us:List mt} (i:Nat),cG xs us->cG (xs.set i x) (us.set i u)
 |_,_,_,.nil=>.nil
 |_,_,0,.cons _ t=>.cons r t
 |_,_,i+1,.cons q t=>.cons q<|cG.set r i t
theorem cG.append:∀{xs aO:List V} {us ws:List mt},cG xs us->cG aO ws->cG (xs++aO) (us++ws)
 |_,_,_,_,.nil,s=>s
 |_,_,_,_,.cons r t,s=>.cons r<|cG.append t s
theorem cG.take:∀{xs:List V} {us:List mt} (n:Nat),cG xs us->cG (xs.take n) (us.take n)
 |_,_,0,_=>.nil
 |_,_,_+1,.nil=>.nil
 |_,_,n+1,.cons r t=>.cons r<|cG.take n t
theorem cG.drop:∀{xs:List V} {us:List mt} (n:Nat),cG xs us->cG (xs.drop n) (us.drop n)
 |_,_,0,r=>r
 |_,_,_+1,.nil=>.nil
 |_,_,n+1,.cons _ t=>cG.drop n t
def ya:Option V->Option mt->Prop
 |some v,J u=>cW v u
 |none,C=>True
 |_,_=>False
def fq{κ:Type}:List (κ×V)->List (κ×mt)->Prop:=Paired λ(p:κ×V) (q:κ×mt)=>p.1=q.1/\cW p.2 q.2
noncomputable def eB:Key->V
 |.inl i=>.int i
 |.inr x=>.str x
inductive jX where
 |ao (xs:List V)
 |aD (xs:List V)
 |aw (ay:List ZW)
 |set (cc:Int->Bool) (n:Nat)
 |hJ (lo hi:Int)
 |eo (o:Obj) (u:jX)
 |ext (φ:Heap->Prop)
abbrev aJ:=Addr->Option jX
noncomputable def c4(H:aJ)(a:Addr)(o:jX):aJ:=λb=>if b=a then J o else H b
def fC:c4 H a o a=J o:=by unfold c4;rw[Y2 rfl]
def e1(h:b≠a):c4 H a o b=H b:=by unfold c4;rw[Y3 h]
def Ug{H:aJ}{a b:Addr}{o u:jX}(h:H a=J o)(h':H b=J u)(d:o≠u):a≠b:=by intro e;subst e;rw[h]at h';exact d<|Option.some.inj h'
def xa{H:aJ}{a b:Addr}{o:jX}(h:H a=J o)(h':H b=C):a≠b:=by intro e;subst e;rw[h]at h';exists h'
def mj(h:Heap)(a:Addr)(items:Array mt):Prop:=∃o,h.get? a=J o/\o.cls=.type "tuple" /\ o.dict=C/\∃n,o.d=.seq items n
def mj.aD{h:Heap}{a:Addr}{items:Array mt}(x:mj h a items):IsTup h a items:=let ⟨o,aZ,aT,_,r⟩:=x;⟨o,aZ,aT,r⟩
def mj.new(h:Heap)(items:Array mt):mj (h.push { cls:=.type "tuple",data:=.seq items}) h.E.O items:=⟨_,gC _ rfl,rfl,rfl,_,rfl⟩
theorem mj.lt(x:mj h a items):a<h.E.O:=x.aD.lt
section
variable (P:dx)(w:c3)
def gP(H:aJ)(h:Heap)(a:Addr):jX->Prop
 |.ao xs=>xs.H<=dg/\∃(a5:List mt) (n:Nat),cG xs a5/\h.get? a=J { cls:=.type "list",data:=.seq a5.Q n}
 |.aD xs=>xs.H<=dg/\∃a5:List mt,cG xs a5/\mj h a a5.Q
 |.aw ay=>ay.H<=dg/\(a==qY)=Y1/\∃ah,fq ay ah/\h.DictOf (hI P w) a ah
 |.set cc n=>h.SetOf (i4 P w) a cc n
 |.hJ lo hi=>∃t u v,h.get? a=J { cls:=.type "range",data:=.fields #[.int lo t,.int hi u,.int 1 v]}
 |.eo o u=>h.get? a=J o/\gP H h a u
 |.ext φ=>φ h/\(∃o,h.get? a=J o)/\∀af ak:Heap,φ af->(∀o,af.get? a=J o->ak.get? a=J o)->φ ak
def gk(H:aJ)(h:Heap):Prop:=∀a o,H a=J o->gP P w H h a o
end
section
variable {P:dx}{w:c3}{H aj:aJ}{h h':Heap}{a:Addr}{o:jX}
theorem gP.lt(x:gP P w H h a o):a<h.E.O:=by
 cases o with
 |ao xs=>obtain⟨_,_,_,_,e⟩:=x;exact d6 e
 |aD xs=>obtain⟨_,_,_,p⟩:=x;exact p.lt
 |aw ay=>obtain⟨_,_,_,_,o,_,_,e,_⟩:=x;exact d6 e
 |set cc n=>obtain⟨o,_,_,_,e,_⟩:=x;exact d6 e
 |hJ lo hi=>obtain⟨_,_,_,e⟩:=x;exact d6 e
 |eo bJ u=>obtain⟨e,_⟩:=x;exact d6 e
 |ext φ=>obtain⟨_,⟨_,e⟩,_⟩:=x;exact d6 e
def gP.pB(x:gP P w H h a o)(k:∀u,h.get? a=J u->h'.get? a=J u):gP P w aj h' a o:=by
 induction o with
 |ao xs=>obtain⟨z,a5,n,r,e⟩:=x;exact⟨z,a5,n,r,k _ e⟩
 |aD xs=>obtain⟨z,a5,r,bJ,e,c⟩:=x;exact⟨z,a5,r,bJ,k _ e,c⟩
 |aw ay=>obtain⟨z,y,ah,r,bJ,es,ep,e,c⟩:=x;exact⟨z,y,ah,r,bJ,es,ep,k _ e,c⟩
 |set cc n=>obtain⟨bJ,es,ep,t,e,c⟩:=x;exact⟨bJ,es,ep,t,k _ e,c⟩
 |hJ lo hi=>obtain⟨t,u,v,e⟩:=x;exact⟨t,u,v,k _ e⟩
 |eo bJ u a4=>obtain⟨e,q⟩:=x;exact⟨k _ e,a4 q⟩
 |ext φ=>obtain⟨p,⟨o,e⟩,st⟩:=x;exact⟨st _ _ p λo q=>k _ q,⟨o,k _ e⟩,st⟩
theorem gk.lt(x:gk P w H h)(e:H a=J o):a<h.E.O:=(x a o e).lt
def gk.fresh(x:gk P w H h)(e:h.E.O<=a):H a=C:=by
 cases q:H a with
 |none=>rfl
 |some u=>exact absurd (d5 (x.lt q) e)<|oF _
def gk.kept(x:gk P w H h)(k:∀b u,h.get? b=J u->h'.get? b=J u):gk P w H h':=λa o e =>
 (x a o e).pB (k a)
def gk.laid(x:gk P w H h)(k:∀b u,h.get? b=J u->h'.get? b=J u)(aF:h.E.O<=a)(new:gP P w (c4 H a o) h' a o):gk P w (c4 H a o) h':=λb u e=>by
 have bz:=x.fresh aF;by_cases aq:b=a
 ·subst aq;rw[fC]at e;exists e;exact new
 ·rw[e1 aq]at e;exact(x b u e).pB (k b)
end
def iN(H:aJ)(a:Addr)(u:jX):Prop:=H a=J u\/∃o,H a=J (.eo o u)
def iN.ok(r:iN H a u)(x:gk P w H h):gP P w H h a u:=by
 rcases r with r|⟨o,r⟩
 ·exact x a u r
 ·obtain⟨_,q⟩:=x a _ r;exact q
def zH:Option jX->Prop
 |some (.ao _)=>True
 |some (.aw _)=>True
 |some (.set _ _)=>True
 |some (.ext _)=>True
 |_=>False
section
variable {P:dx}{w:c3}{H:aJ}{h h':Heap}{x e:Addr}{dh:jX}
def gk.write(ok:gk P w H h)(sx:zH<|H x)(k:∀b u,b≠x->h.get? b=J u->h'.get? b=J u)(new:gP P w (c4 H x dh) h' x dh):gk P w (c4 H x dh) h':=λb u q=>by
 by_cases aq:b=x
 ·subst aq;rw[fC]at q;exists q;exact new
 ·rw[e1 aq]at q;exact(ok b u q).pB (λv r=>k b v aq r)
end
structure gf (cm ex:List Addr) (H aj:aJ) (h h':Heap):Prop where
 keep:∀b o,h.get? b=J o->H b=C->b∉cm->b∉ex->h'.get? b=J o
 slot:∀b o,h.get? b=J o->H b=C->b∈cm->b∉ex->∃cX,h'.get? b=J { o with slots:=cX}
 free:∀b o,h.get? b=J o->H b=C->b∉ex->aj b=C
 there:∀b o,h.get? b=J o->b∉ex->∃dh,h'.get? b=J dh
 pC:∀b xs,H b=J (.aD xs)->aj b=J (.aD xs)
 od:∀b o u,H b=J (.eo o u)->aj b=J (.eo o u)
section
variable {cm anN ex anO:List Addr}{H H1 bV:aJ}{h af ak h':Heap}{a x e:Addr}{o:jX}
def gf.any(u:gf cm ex H H1 h af)(q:h.get? b=J bJ)(n:H b=C)(av:b∉ex):∃cX,af.get? b=J { bJ with slots:=cX}:=by
 by_cases aq:b∈cm
 ·exact u.slot b bJ q n aq av
 ·exact⟨bJ.slots,u.keep b bJ q n aq av⟩
def gf.kept(k:∀b u,h.get? b=J u->h'.get? b=J u):gf cm ex H H h h' :=
 ⟨λb bJ q _ _ _=>k b bJ q,λb bJ q _ _ _=>⟨bJ.slots,k b bJ q⟩,λ_ _ _ n _=>n,λb bJ q _=>⟨bJ,k b bJ q⟩,λ_ _ q=>q,λ_ _ _ q=>q⟩
def gf.refl:gf cm ex H H h h:=gf.kept λ_ _ q=>q
def gf.laid(k:∀b u,h.get? b=J u->h'.get? b=J u)(aF:h.E.O<=a)(bz:H a=C):gf cm ex H (c4 H a o) h h' where
 keep:=λb u q _ _ _=>k b u q
 slot:=λb u q _ _ _=>⟨u.slots,k b u q⟩
 free:=λb u q n _=>by rw[e1<|bv<|d5 (d6 q) aF];exact n
 there:=λb u q _=>⟨u,k b u q⟩
 pC:=λb xs q=>by rw[e1<|xa q bz];exact q
 od:=λb u xs q=>by rw[e1<|xa q bz];exact q
def gf.write(sx:zH<|H x)(k:∀b u,b≠x->h.get? b=J u->h'.get? b=J u)(Iw:∃u,h'.get? x=J u):gf cm ex H (c4 H x o) h h':=by
 have hm:∀b u,H b=u->¬zH u->b≠x:=λb u q nm z=>by subst z;rw[q]at sx;exact nm sx
 refine⟨λb u q n _ _=>k b u (hm b _ n id) q,λb u q n _ _=>⟨u.slots,k b u (hm b _ n id) q⟩,λb u q n _=>by rw[e1<|hm b _ n id];exact n,λb u q _=>?_,λb xs q=>by rw[e1<|hm b _ q id];exact q,λb u xs q=>by rw[e1<|hm b _ q id];exact q⟩;by_cases aq:b=x
 ·subst aq;exact Iw
 ·exact⟨u,k b u aq q⟩
end
noncomputable def Dk(h:Heap)(H:aJ):List Addr:=(List.range h.E.O).filter λa=>(H a).isSome
def rQ(h:Heap)(H:aJ):Heap:=W.hideAll h<|Dk h H
def aab(h:Heap)(H:aJ):(rQ h H).E.O=h.E.O:=W.hideAll_size _ _
def alz(e:h.get? b=J o)(n:H b=C):(rQ h H).get? b=J o :=
 W.hideAll_get _ e λhm=>by have q:(H b).isSome=Y0:=(lC.mp hm).2;rw[n]at q;simp at q
def ajF(e:(rQ h H).get? b=J o):h.get? b=J o/\H b=C:=by
 have bN:h.get? b=J o:=W.of_hideAll (Dk h H) e;refine⟨bN,?_⟩;cases q:H b with
 |none=>rfl
 |some x =>
  have hm:b∈Dk h H:=lC.mpr ⟨nu.mpr<|d6 bN,by simp[q]⟩;have z:(rQ h H).get? b=C:=W.hideAll_none (Dk h H) hm;rw[z]at e;exists e
noncomputable def ajG(g h:Heap)(L:Addr):List Z1:=(List.range h.E.O).filterMap λa=>if a=L\/(g.get? a).isSome=Y0 then C else(h.get? a).map λo=>(a,o)
noncomputable def rest(g h:Heap)(L d:Addr):List Z1:=(ajG g h L).filter λp=>decide (p.1≠d)
structure Mod (K:W.Frag) (a3:Str->Option mt) (base:Heap):Prop where
 fl:K.In base
 glob:base.Ns kS a3
 blt:∃lG,base.Ns builtinsNs lG/\∀x:Str,x ≠ "__name__" -> lG x=l8 x
 nolimit:base.NoLimit
structure bI where
 prog:dx
 w:c3
 K:W.Frag
 a3:Str->Option mt
 base:Heap
 A:dI
 N:List Str
 cD:aR
 dJ:aJ
 env:Env
 cj:List Env
 stack:List Env
 ex:List Addr
 fn:Str->Bool
 calm:Bool
 gD:List Z1
 cv:mt->aR->Prop
noncomputable def hc(l:List Env):List Addr:=l.filterMap (·.frame)
noncomputable abbrev bI.cm(X:bI):List Addr:=hc X.cj
def qj(sc:js)(x:Str):Prop:=sc.names.lookup x=J .local\/sc.names.lookup x=J .cell\/sc.names.lookup x=J .free
def Loc(sc:js)(x:Str):Prop:=sc.names.lookup x=J .local\/sc.names.lookup x=J .cell
def Look(env:Env)(h:Heap)(m:Str->Option mt)(x:Str)(u:mt):Prop :=
 (env.kindOf x=J .local/\m x=J u)\/((env.kindOf x=J .cell\/env.kindOf x=J .free)/\∃c,env.cells.lookup x=J c/\h.IsCell c (J u))
structure bI.Ok (X:bI):Prop where
 mod:Mod X.K X.a3 X.V
 kind:X.I.Y.kind=.function
 glob:X.I.globals=kS
 blt:X.I.builtins=builtinsNs
 above:X.cD.L<=X.env.locals
 inj:∀x y c,X.env.cells.lookup x=J c->X.env.cells.lookup y=J c->x=y
 has:∀x,(X.env.kindOf x=J .cell\/X.env.kindOf x=J .free)->∃c,X.env.cells.lookup x=J c
 rj:∀x c,X.fn x=Y0->X.env.cells.lookup x=J c->X.cD.L<=c
 hd:X.calm=Y0->X.A.handled=C
 frames:X.A.frames=J X.stack
 sR:X.stack=X.cj\/(X.stack=X.I::X.cj/\X.I.frame=J X.I.locals)
 sS:∀b∈X.ex,b≠X.I.locals/\∀x c,X.env.cells.lookup x=J c->c≠b
 bs:∀b o,X.base.get? b=J o->X.cD.heap.get? b=J o/\X.dJ b=C
 mW:X.V.E.O<=X.cD.L
 rR:∀b o,X.base.get? b=J o->b∉X.ex
 rS:∀b∈X.ex,b∉X.cm
 kF:X.cD.heap.FunFrames X.V X.cj
 o3:∀b∈X.cm,X.dJ b=C
structure aS (X:bI) (ae:List Z1) (O:List<|Option V) (H:aJ) (s:aR):Prop where
 ok:X.Ok
 os:s.os=X.cD.os
 ft:oJ s.gens
 base:gf X.cm X.ex X.dJ H X.cD.D s.D
 loc:∃m,s.heap.Ns X.I.locals m/\∀(i:Nat) (x:Str) (v:V),X.N[i]?=J x->O[i]?=J (J v)->qj X.I.Y x->∃u,cW v u/\Look X.I s.D m x u
 cell:∀x c,X.env.cells.lookup x=J c->∃v,s.heap.IsCell c v
 free:H X.I.locals=C
 kK:∀x c,X.env.cells.lookup x=J c->H c=C
 pin:∀p∈X.gD++ae,s.heap.get? p.1=J p.2/\H p.1=C/\p.1≠X.I.locals/\p.1∉X.cm/\∀v,p.2.d≠.cell v
 b1:gk X.R X.w H s.D
 len:O.H=X.N.H
section
variable {X:bI}{ae:List Z1}{O:List<|Option V}{H aj:aJ}{s:aR}{h':Heap}
def bI.Ok.afG(ok:X.Ok)(e:X.base.get? b=J o):b∉X.cm:=λaq=>by have:=(ok.kF.mem aq).1;rw[e]at this;exists this
theorem aS.bs(I:aS X ae O H s):∀b o,X.base.get? b=J o->s.heap.get? b=J o/\H b=C:=λb o e =>
 ⟨I.base.keep b o (I.ok.bs b o e).1 (I.ok.bs b o e).2 (I.ok.afG e) (I.ok.rR b o e),I.base.free b o (I.ok.bs b o e).1 (I.ok.bs b o e).2 (I.ok.rR b o e)⟩
def aS.gs(I:aS X ae O H s):∀b o,X.base.get? b=J o->s.heap.get? b=J o:=λb o e=>(I.bs b o e).1
theorem aS.mod(I:aS X ae O H s):Mod X.K X.a3 X.V:=I.ok.mod
def aS.hK(I:aS X ae O H s):X.K.In s.D:=I.ok.mod.fl.keeps I.gs
theorem aS.lt(I:aS X ae O H s):X.I.locals<s.L:=let ⟨_,bz,_⟩:=I.loc;bz.lt
def aS.wG(I:aS X ae O H s):X.cD.L<=s.L:=bP I.ok.above<|eA I.lt
def aS.afH(I:aS X ae O H s){a:Addr}(h:s.L<=a):a∉X.cm:=λaq=>by obtain⟨_,o,aZ,_⟩:=I.ok.kF.mem aq;exact absurd (d5 (d6 aZ)<|bP I.wG h)<|oF _
def aS.o4(I:aS X ae O H s):∀x c,X.env.cells.lookup x=J c->c≠X.I.locals:=λx c e z=>by obtain⟨v,o,aZ,hd⟩:=I.cell x c e;obtain⟨m,⟨dh,es,ep,kq,mX,_⟩,_⟩:=I.loc;rw[z,kq]at aZ;exists aZ;rw[mX]at hd;exists hd
theorem aS.kF(I:aS X ae O H s):s.heap.FunFrames X.V X.cj:=by
 have all:∀(l:List Env),(∀b∈hc l,b∈X.cm)->X.cD.heap.FunFrames X.V l->s.heap.FunFrames X.V l:=by
  intro l
  induction l with
  |nil=>intro _ _;trivial
  |cons env r a4 =>
   intro aP aB;obtain⟨aW,⟨L,o,hf,bz,aZ,hd⟩,aU⟩:=aB;have el:L∈X.cm:=aP L (by unfold hc;rw[r5,hf];exact dT);obtain⟨cX,e⟩:=I.base.slot L o aZ (I.ok.o3 L el) el λz=>I.ok.rS L z el;exact⟨aW,⟨L,_,hf,bz,e,hd⟩,a4 (λb aq=>aP b<|by unfold hc;rw[r5,hf];exact am _ aq) aU⟩
 exact all X.cj (λ_ aq=>aq) I.ok.kF
theorem aS.stack(I:aS X ae O H s):s.heap.FunFrames X.V X.stack:=by
 rcases I.ok.sR with e|⟨e,hf⟩
 ·rw[e];exact I.kF
 ·rw[e];obtain⟨m,bz,_⟩:=I.loc;refine .cons (by rw[I.ok.kind];decide) hf bz ?_ I.kF;exact Heap.get?_none_of_le<|bP I.ok.mW I.ok.above
def aS.Ms(I:aS X ae O H s):∀b∈hc X.stack,b∈X.I.locals::X.cm:=λb aq=>by
 rcases I.ok.sR with e|⟨e,hf⟩
 ·rw[e]at aq;exact am _ aq
 ·rw[e]at aq;unfold hc at aq;rw[r5,hf]at aq;exact aq
def aS.GA(I:aS X ae O H s):∀b∈hc X.stack,H b=C:=λb aq=>by
 rcases d4.mp (I.Ms b aq) with e|aq
 ·rw[e];exact I.free
 ·obtain⟨_,o,aZ,_⟩:=I.ok.kF.mem aq;exact I.base.free b o aZ (I.ok.o3 b aq) λz=>I.ok.rS b z aq
def aS.step{g':Array GenState}{t':Nat}{d':Drawn}{ch:List Addr}(I:aS X ae O H s)
  (qk:∀b∈ch,(b∈X.ex\/X.cD.L<=b)/\b≠X.I.locals/\(∀x c,X.env.cells.lookup x=J c->c≠b)/\∀p∈X.gD++ae,p.1≠b)
  (keep:∀b o,b≠X.I.locals->b∉X.cm->b∉ch->s.heap.get? b=J o->H b=C->h'.get? b=J o)
  (slot:∀b o,b≠X.I.locals->b∈X.cm->b∉ch->s.heap.get? b=J o->H b=C->∃cX,h'.get? b=J { o with slots:=cX}) (free:∀b o,b∉ch->s.heap.get? b=J o->H b=C->aj b=C)
  (there:∀b o,b∉ch->s.heap.get? b=J o->∃dh,h'.get? b=J dh)
  (pC:∀b xs,H b=J (.aD xs)->aj b=J (.aD xs)) (od:∀b o u,H b=J (.eo o u)->aj b=J (.eo o u))
  (ns:∀m,s.heap.Ns X.I.locals m->h'.Ns X.I.locals m) (b1:gk X.R X.w aj h') (bT:oJ g') :
  aS X ae O aj { s with heap:=h',gens:=g',drawn:=d',toks:=t'}:=by
 have Oq:∀b o,X.cD.heap.get? b=J o->b≠X.I.locals:=λb o e=>bv<|d5 (d6 e) I.ok.above;have Dl:∀b o,X.cD.heap.get? b=J o->b∉X.ex->b∉ch:=λb o e av aq=>by
  rcases(qk b aq).1 with z|z
  ·exact av z
  ·exact absurd (d5 (d6 e) z)<|oF _
 have cellK:∀x c,X.env.cells.lookup x=J c->∀v,s.heap.IsCell c v->h'.IsCell c v:=λx c e v ⟨o,aZ,hd⟩=>by
  have zI:c∉ch:=λz=>(qk c z).2.2.1 x c e rfl;by_cases aT:c∈X.cm
  ·obtain⟨cX,q⟩:=slot c o (I.o4 x c e) aT zI aZ<|I.kK x c e;exact⟨_,q,hd⟩
  ·exact⟨o,keep c o (I.o4 x c e) aT zI aZ<|I.kK x c e,hd⟩
 refine⟨I.ok,I.os,bT,⟨λb o e n aq av=>?_,λb o e n aq av=>?_,λb o e n av=>?_,λb o e av=>?_,λb xs e=>pC b xs<|I.base.pC b xs e,λb o xs e=>od b o xs<|I.base.od b o xs e⟩,?_,λx c e=>?_,?_,λx c e=>?_,λp aF=>?_,b1,I.len⟩
 ·exact keep b o (Oq b o e) aq (Dl b o e av) (I.base.keep b o e n aq av)<|I.base.free b o e n av
 ·obtain⟨cX,az⟩:=I.base.slot b o e n aq av;obtain⟨Dm,au⟩:=slot b _ (Oq b o e) aq (Dl b o e av) az<|I.base.free b o e n av;exact⟨Dm,au⟩
 ·obtain⟨dh,az⟩:=I.base.there b o e av;exact free b dh (Dl b o e av) az<|I.base.free b o e n av
 ·obtain⟨dh,az⟩:=I.base.there b o e av;exact there b dh (Dl b o e av) az
 ·obtain⟨m,bz,aB⟩:=I.loc;refine⟨m,ns m bz,λi x v az au a6=>?_⟩;obtain⟨u,r,l⟩:=aB i x v az au a6;refine⟨u,r,?_⟩;rcases l with l|⟨k,c,e,z⟩
  ·exact .inl l
  ·exact .inr ⟨k,c,e,cellK x c e _ z⟩
 ·obtain⟨v,z⟩:=I.cell x c e;exact⟨v,cellK x c e v z⟩
 ·obtain⟨m,⟨o,_,_,aZ,_⟩,_⟩:=I.loc;exact free _ o (λz=>(qk _ z).2.1 rfl) aZ I.free
 ·obtain⟨v,o,aZ,hd⟩:=I.cell x c e;exact free c o (λz=>(qk c z).2.2.1 x c e rfl) aZ<|I.kK x c e
 ·obtain⟨e,n,ne,nG,d⟩:=I.pin p aF;have zI:p.1∉ch:=λz=>(qk p.1 z).2.2.2 p aF rfl;exact⟨keep p.1 p.2 ne nG zI e n,free p.1 p.2 zI e n,ne,nG,d⟩
def aS.un{t':Nat}(I:aS X ae O H s)(u:gf X.cm [] H aj s.D h')(b1:gk X.R X.w aj h'):aS X ae O aj { s with heap:=h',toks:=t'}:=by
 obtain⟨m,⟨o,es,ep,aZ,r⟩,_⟩:=id I.loc;obtain⟨cX,el⟩:=u.any aZ I.free Z7
 exact I.step (g':=s.gens) (d':=s.drawn) (ch:=[]) (λ_ z=>nomatch z) (λb o _ aq _ e n=>u.keep b o e n aq Z7) (λb o _ aq _ e n=>u.slot b o e n aq Z7) (λb o _ e n=>u.free b o e n Z7) (λb o _ e=>u.there b o e Z7) u.pC u.od (λgg hm=>by
  obtain⟨dh,jg,sT,kq,b5⟩:=hm;rw[aZ]at kq;exists kq
  exact⟨_,jg,sT,el,b5⟩) b1 I.ft
def aS.call{t':Nat}(I:aS X ae O H s)(u:gf (hc X.stack) ch H aj s.D h')(b1:gk X.R X.w aj h')(bT:oJ g')
  (qk:∀b∈ch,(b∈X.ex\/X.cD.L<=b)/\b≠X.I.locals/\(∀x c,X.env.cells.lookup x=J c->c≠b)/\∀p∈X.gD++ae,p.1≠b) :
  aS X ae O aj { s with heap:=h',gens:=g',drawn:=d',toks:=t'}:=by
 obtain⟨m,⟨o,es,ep,aZ,r⟩,_⟩:=id I.loc;obtain⟨cX,el⟩:=u.any aZ I.free λz=>(qk _ z).2.1 rfl
 exact I.step (ch:=ch) qk (λb o el aq aT e n=>u.keep b o e n (λz=>(d4.mp<|I.Ms b z).elim el aq) aT) (λb o _ _ aT e n=>u.any e n aT) (λb o aT e n=>u.free b o e n aT) (λb o aT e=>u.there b o e aT) u.pC u.od (λgg hm=>by
  obtain⟨dh,jg,sT,kq,b5⟩:=hm;rw[aZ]at kq;exists kq
  exact⟨_,jg,sT,el,b5⟩) b1 bT
def aS.turned{t':Nat}(I:aS X ae O H s)(k:∀b o,b≠it->s.heap.get? b=J o->h'.get? b=J o)(bz:H it=C)(el:it≠X.I.locals)
  (af:it∈X.ex\/X.cD.L<=it) (ak:∀x c,X.env.cells.lookup x=J c->c≠it) (bc:∀p∈X.gD++ae,p.1≠it):aS X ae O H { s with heap:=h',toks:=t'}:=by
 have Iy:∀b u,H b=J u->b≠it:=λb u e z=>by rw[z,bz]at e;exists e
 refine I.step (g':=s.gens) (d':=s.drawn) (ch:=[it]) (λb aq=>?_) (λb o _ _ aT e _=>k b o (λz=>aT<|by simp[z]) e) (λb o _ _ aT e _=>⟨o.slots,k b o (λz=>aT<|by simp[z]) e⟩) (λ_ _ _ _ n=>n)
  (λb o aT e=>⟨o,k b o (λz=>aT<|by simp[z]) e⟩) (λ_ _ e=>e) (λ_ _ _ e=>e) (λm hm=>?_) (λb u e=>?_) I.ft
 ·have e:b=it:=by simpa using aq
  subst e;exact⟨af,el,ak,bc⟩
 ·obtain⟨o,es,ep,aZ,r⟩:=hm;exact⟨o,es,ep,k _ o (Ne.symm el) aZ,r⟩
 ·exact(I.b1 b u e).pB (λv q=>k b v (Iy b u e) q)
def aS.tok(I:aS X ae O H s)(t:Nat):aS X ae O H { s with toks:=t}:=I.un (h':=s.D) (t':=t) gf.refl I.b1
theorem aS.kept{t':Nat}(I:aS X ae O H s)(k:∀b u,s.heap.get? b=J u->h'.get? b=J u):aS X ae O H { s with heap:=h',toks:=t'}:=I.un (gf.kept k) (I.b1.kept k)
theorem aS.laid{a:Addr}{o:jX}{t':Nat}(I:aS X ae O H s)(k:∀b u,s.heap.get? b=J u->h'.get? b=J u)(aF:s.L<=a)(new:gP X.R X.w (c4 H a o) h' a o) :
  aS X ae O (c4 H a o) { s with heap:=h',toks:=t'}:=I.un (gf.laid k aF (I.b1.fresh aF)) (I.b1.laid k aF new)
theorem aS.write{t':Nat}(I:aS X ae O H s)(sx:zH<|H x)(k:∀b u,b≠x->s.heap.get? b=J u->h'.get? b=J u)(Iw:∃u,h'.get? x=J u)
  (new:gP X.R X.w (c4 H x o) h' x o):aS X ae O (c4 H x o) { s with heap:=h',toks:=t'}:=I.un (gf.write sx k Iw) (I.b1.write sx k new)
def aS.VE(I:aS X ae O H s)(h:∀p∈Gd,s.heap.get? p.1=J p.2/\H p.1=C/\p.1≠X.I.locals/\p.1∉X.cm/\∀v,p.2.d≠.cell v):aS X Gd O H s :=
 ⟨I.ok,I.os,I.ft,I.V,I.loc,I.cell,I.free,I.kK,λp aF=>(hR.mp aF).elim (λz=>I.pin p<|pO _ z) (h p),I.b1,I.len⟩
def Dn{N:List Str}(dK:N.Nodup){i j:Nat}(a:N[i]?=J x)(b:N[j]?=J x):i=j:=by obtain⟨af,az⟩:=kM.mp a;obtain⟨ak,au⟩:=kM.mp b;exact(MQ dK).mp (az.trans au.symm)
def Ot{i:Nat}(I:aS X ae O H s)(dK:X.N.Nodup)(hi:X.N[i]?=J x)(av:Loc X.I.Y x)(r:cW v u)
  (h:∀s',aS X ae (O.set i<|some v) H s'->(∃a,Heap.SameBut a s.D s'.D/\(a=X.I.locals\/X.env.cells.lookup x=J a))->Q () s') (hf:autoParam Zs pY):bl M A (storeName X.I x u) Q E s:=by
 obtain⟨m,bz,aB⟩:=id I.loc;have LP:(X.I.Y.kind==.class||(X.I.Y.kind==.module&&X.I.locals != X.I.globals))=Y1:=by rw[I.ok.kind];rfl
 have Ou:i<O.H:=by rw[I.len];exact(kM.mp hi).1
 have o4:=I.o4;have tracked:∀{a:Addr} {h':Heap},(∃o,s.heap.get? a=J o/\H a=C)->Heap.SameBut a s.D h'->gk X.R X.w H h':=λ{a h'} ba aP b bJ e=>by obtain⟨_,_,Ge⟩:=ba;exact(I.b1 b bJ e).pB (λfT q=>(aP.2 b<|by rintro rfl;rw[Ge]at e;cases e).trans q)
 rcases av with aW|aW
 ·refine wpAny_storeName_local aW bz (λh' Iz aP=>?_) LP;obtain⟨Ni,_,_,xb,_⟩:=id bz;refine h _ ⟨I.ok,I.os,I.ft,⟨λb o e n aq av=>?_,λb o e n aq av=>?_,I.V.free,λb o e av=>?_,I.V.pC,I.V.od⟩,⟨_,Iz,λj y hT az au a6=>?_⟩,λy c e=>?_,I.free,I.kK,λp aF=>?_,tracked ⟨Ni,xb,I.free⟩ aP,by simpa using I.len⟩ ⟨_,aP,.inl rfl⟩
  ·exact(aP.2 b<|bv<|d5 (d6 e) I.ok.above).trans (I.base.keep b o e n aq av)
  ·obtain⟨cX,az⟩:=I.base.slot b o e n aq av;exact⟨cX,(aP.2 b<|bv<|d5 (d6 e) I.ok.above).trans az⟩
  ·obtain⟨dh,az⟩:=I.base.there b o e av;exact⟨dh,(aP.2 b<|bv<|d5 (d6 e) I.ok.above).trans az⟩
  ·by_cases bU:j=i
   ·subst bU;rw[hi]at az;exists az;rw[GH Ou]at au
    exists au
    exact⟨u,r,.inl ⟨aW,by simp⟩⟩
   ·rw[GL<|Ne.symm bU]at au;obtain⟨fu,b5,q⟩:=aB j y hT az au a6;refine⟨fu,b5,?_⟩;rcases q with⟨k,e⟩|⟨k,c,e,z⟩
    ·refine .inl ⟨k,?_⟩;have:y≠x:=λe=>bU<|Dn dK az<|e▸hi;simp[this,e]
    ·exact .inr ⟨k,c,e,z.sameBut aP<|o4 y c e⟩
  ·obtain⟨fT,z⟩:=I.cell y c e;exact⟨fT,z.sameBut aP<|o4 y c e⟩
  ·obtain⟨e,n,ne,nG,d⟩:=I.pin p aF;exact⟨(aP.2 p.1 ne).trans e,n,ne,nG,d⟩
 ·have IA:X.fn x=Y0:=by
   rcases hf with z|z
   ·exact z
   ·rw[z]at aW;exists aW
  obtain⟨c,aT⟩:=I.ok.has x<|.inl aW;obtain⟨fT,z⟩:=I.cell x c aT;refine wpAny_storeName_cell I.ok.kind aW aT z λh' sU aP=>?_;obtain⟨ju,Ov,afI⟩:=id z;refine h { s with heap:=h'} ⟨I.ok,I.os,I.ft,⟨λb o e n aq av=>?_,λb o e n aq av=>?_,I.V.free,λb o e av=>?_,I.V.pC,I.V.od⟩,⟨m,bz.sameBut aP<|Ne.symm<|o4 x c aT,λj y hT az au a6=>?_⟩,λy cH e=>?_,I.free,I.kK,λp aF=>?_,tracked ⟨ju,Ov,I.kK x c aT⟩ aP,by simpa using I.len⟩ ⟨c,aP,.inr aT⟩
  ·exact(aP.2 b<|bv<|d5 (d6 e)<|I.ok.rj x c IA aT).trans (I.base.keep b o e n aq av)
  ·obtain⟨cX,az⟩:=I.base.slot b o e n aq av;exact⟨cX,(aP.2 b<|bv<|d5 (d6 e)<|I.ok.rj x c IA aT).trans az⟩
  ·obtain⟨dh,az⟩:=I.base.there b o e av;exact⟨dh,(aP.2 b<|bv<|d5 (d6 e)<|I.ok.rj x c IA aT).trans az⟩
  ·by_cases bU:j=i
   ·subst bU;rw[hi]at az;exists az;rw[GH Ou]at au
    exists au
    exact⟨u,r,.inr ⟨.inl aW,c,aT,sU⟩⟩
   ·rw[GL<|Ne.symm bU]at au;obtain⟨fu,b5,q⟩:=aB j y hT az au a6;refine⟨fu,b5,?_⟩;rcases q with q|⟨k,cH,e,kT⟩
    ·exact .inl q
    ·refine .inr ⟨k,cH,e,kT.sameBut aP ?_⟩;rintro rfl;exact bU<|Dn dK az<|I.ok.inj _ _ _ e aT▸hi
  ·by_cases Ow:cH=c
   ·subst Ow;exact⟨_,sU⟩
   ·obtain⟨fM,dE⟩:=I.cell y cH e;exact⟨fM,dE.sameBut aP Ow⟩
  ·obtain⟨e,n,ne,nG,d⟩:=I.pin p aF;refine⟨(aP.2 p.1 ?_).trans e,n,ne,nG,d⟩;intro q;rw[q,Ov]at e;have eN:ju=p.2:=Option.some.inj e;exact d fT (by rw[<-eN];exact afI)
def IB{i:Nat}(I:aS X ae O H s)(dK:X.N.Nodup)(hi:X.N[i]?=J x)(av:Loc X.I.Y x)(r:cW v u)
  (h:∀s',aS X ae (O.set i<|some v) H s'->Q () s') (hf:autoParam Zs pY):bl M A (storeName X.I x u) Q E s :=
 Ot I dK hi av r (λs' eH _=>h s' eH) hf
def aS.Gf(I:aS X ae O H s)(aZ:s'.os=s.os)(u:gf (hc X.stack) ch H aj s.D s'.D)(b1:gk X.R X.w aj s'.D)(bT:oJ s'.gens)
  (qk:∀b∈ch,(b∈X.ex\/X.cD.L<=b)/\b≠X.I.locals/\(∀x c,X.env.cells.lookup x=J c->c≠b)/\∀p∈X.gD++ae,p.1≠b):aS X ae O aj s':=by
 obtain⟨h',g',d',t',dh⟩:=s';have e:dh=s.os:=aZ;subst e;exact I.call (g':=g') (t':=t') (d':=d') u b1 bT qk
end
abbrev iv:=mt->Option Addr->aJ->Prop
abbrev St:=List<|Option V
abbrev fg:=V->aJ->Prop
abbrev TE:=St->aJ->fg->Prop
abbrev TT:=St->aJ->(Bool->aJ->Prop)->Prop
abbrev kU:=St->aJ->(List V->aJ->Prop)->Prop
structure Ends where
 bD:St->aJ->Prop
 aV:fg
 gs:St->aJ->Prop:=λ_ _=>False
 eE:St->aJ->Prop:=λ_ _=>False
abbrev kV:=Ends->St->aJ->Prop
def f6(X:bI)(ae:List Z1)(O:St)(Q:fg)(u:mt)(s':aR):Prop:=∃v aj,aS X ae O aj s'/\cW v u/\Q v aj
def Cn(X:bI)(ae:List Z1)(O:St)(Q:Bool->aJ->Prop)(b:Bool)(s':aR):Prop:=∃aj,aS X ae O aj s'/\Q b aj
def VJ(X:bI)(ae:List Z1)(O:St)(Q:List V->aJ->Prop)(us:List mt)(s':aR):Prop:=∃ah aj,aS X ae O aj s'/\cG ah us/\Q ah aj
def oL(X:bI)(ae:List Z1)(D:Ends)(f:Flow)(s':aR):Prop :=
 match f with
 |.next=>∃U' aj,aS X ae U' aj s'/\D.bD U' aj
 |.brk=>∃U' aj,aS X ae U' aj s'/\D.gs U' aj
 |.cont=>∃U' aj,aS X ae U' aj s'/\D.eE U' aj
 |.ret u=>∃v U' aj,aS X ae U' aj s'/\cW v u/\D.aV v aj
def d7(X:bI)(e:Expr)(t:TE):Prop :=
 ∀(ae:List Z1) (s:aR) (O:St) (H:aJ) (Q:fg),aS X ae O H s->t O H Q->bl Z2 X.A (eval e X.I) Zl X.cv s
def nH(X:bI)(e:Expr)(t:TT):Prop :=
 ∀(ae:List Z1) (s:aR) (O:St) (H:aJ) (Q:Bool->aJ->Prop),aS X ae O H s->t O H Q->bl Z2 X.A (isTrue e X.I<|eval e X.I) (Cn X ae O Q) X.cv s
def yY(X:bI)(e:Expr)(t:TT):Prop :=
 ∀(whole:Sem mt) (ae:List Z1) (s:aR) (O:St) (H:aJ) (Q:Bool->aJ->Prop),aS X ae O H s->t O H Q->bl Z2 X.A (isTrue e X.I whole) (Cn X ae O Q) X.cv s
def yY.pt(h:yY X e t):nH X e t:=h _
def nI(X:bI)(es:List Expr)(t:kU):Prop :=
 ∀(pos:Pos) (ae:List Z1) (s:aR) (O:St) (H:aJ) (Q:List V->aJ->Prop),aS X ae O H s->t O H Q->bl Z2 X.A (so<|ff pos Zm) (VJ X ae O Q) X.cv s
def oM(X:bI)(st:Stmt)(t:kV):Prop :=
 ∀(ae:List Z1) (s:aR) (O:St) (H:aJ) (D:Ends),aS X ae O H s->t D O H->bl Z2 X.A (exec st X.I) (oL X ae D) X.cv s
def kr(X:bI)(st:List Stmt)(t:kV):Prop :=
 ∀(ae:List Z1) (s:aR) (O:St) (H:aJ) (D:Ends),aS X ae O H s->t D O H->bl Z2 X.A (execs st X.I) (oL X ae D) X.cv s
def b2{α:Type}{t:Sem α}{Q e9:α->aR->Prop}{M:Model}(h:bl M A t Q E s)(hD:∀a s,Q a s->e9 a s):bl M A t e9 E s:=hk h hD λ_ _ x=>x
section
variable {X:bI}
def afJ(i:Nat):TE:=λO H Q=>∃v,O[i]?=J (J v)/\Q v H
def wH(v:V):TE:=λ_ H Q=>Q v H
def uU{i:Nat}(dK:X.N[i]?=J x)(bS:qj X.I.Y x)(hd:autoParam ZH eM)(g4:autoParam ((x==("__classdict__" : Str))=Y1) eM):d7 X (.Name x pos)<|afJ i:=by
 intro ae s O H Q I h;obtain⟨v,e,h⟩:=h;obtain⟨m,bz,aB⟩:=I.loc;obtain⟨u,r,l⟩:=aB i x v dK e bS;have fin:f6 X ae O Q u s:=⟨v,H,I,r,h⟩
 rcases l with⟨aW,hm⟩|⟨aW,c,aT,Uh⟩
 ·exact wpAny_Name (wpAny_loadName_local I.ok.kind aW bz hm fin) hd
 ·rcases aW with aW|aW
  ·exact wpAny_Name (wpAny_loadName_cell I.ok.kind aW aT Uh fin) hd
  ·exact wpAny_Name (wpAny_loadName_free I.ok.kind aW aT Uh fin g4) hd
def Dp{i j pos}:d7 X (.Constant (.int i) j pos)<|wH<|.int i:=λ_ _ _ H _ I h=>wpAny_Constant_int ⟨.int i,H,I.tok _,⟨_,rfl⟩,h⟩
def agG{b j pos}:d7 X (.Constant (.bool b) j pos)<|wH<|.aC b:=λ_ _ _ H _ I h=>Constant_bool ⟨.aC b,H,I,rfl,h⟩
def ahQ{j pos}:d7 X (.Constant .none j pos)<|wH .br:=λ_ _ _ H _ I h=>Constant_none ⟨.br,H,I,rfl,h⟩
def IC{x j pos}:d7 X (.Constant (.str x) j pos)<|wH<|.str x:=λ_ _ _ H _ I h=>Calls.Constant_str ⟨.str x,H,I.tok _,⟨_,rfl⟩,h⟩
def fv(X:bI)(x:Str):Prop:=X.env.kindOf x=J .globalImplicit
def uV{E:mt->aR->Prop}{ae:List Z1}{s:aR}{O:St}{H:aJ}{x:Str}{u:mt}{pos:Pos}{Q:mt->aR->Prop}(I:aS X ae O H s)(bT:fv X x)(hm:X.a3 x=J u)(h:Q u s)
  (hd:autoParam ZH eM):bl Z2 X.A (eval (.Name x pos) X.I) Q E s :=
 Calls.Name_function_global I.ok.kind bT (Calls.loadGlobal_global (by rw[I.ok.glob];exact I.mod.glob.keeps I.gs) hm h) hd
def la{E:mt->aR->Prop}{ae:List Z1}{s:aR}{O:St}{H:aJ}{x:Str}{u:mt}{pos:Pos}{Q:mt->aR->Prop}(I:aS X ae O H s)(bT:fv X x)(hm:X.a3 x=C)(bS:l8 x=J u)(h:Q u s)
  (bz:autoParam (x ≠ "__name__") eM) (hd:autoParam ZH eM):bl Z2 X.A (eval (.Name x pos) X.I) Q E s:=by
 obtain⟨lG,af,ak⟩:=I.mod.blt;exact Calls.Name_function_global I.ok.kind bT (Calls.loadGlobal_builtin (by rw[I.ok.glob];exact I.mod.glob.keeps I.gs) hm (by rw[I.ok.blt];exact af.keeps I.gs) ((ak x bz).trans bS) h) hd
def Ox(bT:fv X x)(hm:X.a3 x=J u)(r:cW v u)(hd:autoParam ZH eM):d7 X (.Name x pos) (wH v) :=
 λ_ _ _ H _ I h=>uV I bT hm ⟨v,H,I,r,h⟩ hd
variable {a b:Expr}{ta tb:TE}{pos:Pos}
def Hy(X:bI)(op:CmpOp)(a b:Expr)(t:TE):Prop :=
 ∀(ae:List Z1) (s:aR) (O:St) (H:aJ) (Q:fg),aS X ae O H s->t O H Q ->
  bl Z2 X.A (eval a X.I) (λv dN=>bl Z2 X.A (eval b X.I) (λu gU=>bl Z2 X.A (hq op v u) Zl X.cv gU) X.cv dN) X.cv s
def aly(b:Expr)(h:op≠.In)(ak:op≠.NotIn):wz op b=Y1:=by
 have az:(op==CmpOp.In)=Y1:=by exists op<;>first|rfl|exact absurd rfl h
 have au:(op==CmpOp.NotIn)=Y1:=by exists op<;>first|rfl|exact absurd rfl ak
 exists b<;>simp[wz,az,au]
def afK(ta:TE):TE:=λO H Q=>ta O H λx H1=>Q (.aC<|decide (x=.br)) H1
def cW.alA(r:cW x v):(v==Value.none)=decide (x=.br):=by
 cases x with
 |br=>exists r;rfl
 |aC _=>exists r;rfl
 |int _=>obtain⟨t,rfl⟩:=r;rfl
 |str _=>obtain⟨t,rfl⟩:=r;rfl
 |sQ _=>obtain⟨t,rfl⟩:=r;rfl
 |uT _=>obtain⟨t,rfl⟩:=r;rfl
 |ref _=>exists r;rfl
 |ty _=>exists r;rfl
def ID{j pos'}(ba:d7 X a ta):Hy X .Is a (.Constant .none j pos')<|afK ta:=by intro ae s O H Q I h;refine b2 (ba ae s O H _ I h) λv s1 ⟨x,H1,bf,bA,aX⟩=>?_;exact Constant_none<|is_none_gen ⟨.aC _,H1,bf,by rw[bA.alA];rfl,aX⟩
def VK(t:TE):TT:=λO H Q=>t O H λx H1=>∃c,x=.aC c/\Q c H1
def UL(h:Hy X op a b t)(af:autoParam (wz op b=Y1) az8._auto_1):d7 X (.Compare a [op] [b] pos) t:=λae s O H Q I hw=>wpAny_Compare1 (h ae s O H Q I hw) af
def ahR(h:Hy X op a b t)(af:autoParam (wz op b=Y1) az8._auto_1):nH X (.Compare a [op] [b] pos)<|VK t:=by
 intro ae s O H Q I hw;refine wpAny_isTrue_Compare1 (b2 (h ae s O H _ I hw) λv s1 af=>b2 af λu s2 ak=>b2 ak λc s3 ⟨x,H1,bf,bA,aX⟩=>?_) af;obtain⟨d,rfl,q⟩:=aX
 exists bA
 exact qX ⟨H1,bf,q⟩
variable {tA anP:TT}{rest:List Expr}
def afL(t:TT):TT:=λO H Q=>t O H λc H1=>Q (!c) H1
def ajH(ba:nH X a tA):yY X (.BoolOp .And [a] pos) tA:=by
 intro yZ ae s O H Q I h;refine isTrue_and (b2 (ba ae s O H Q I h) λc s1 e=>?_);cases c with
 |true=>exact isTrue_and_nil e
 |false=>exact e
def ahS(ba:nH X a tA):yY X (.BoolOp .Or [a] pos) tA:=by
 intro yZ ae s O H Q I h;refine isTrue_or (b2 (ba ae s O H Q I h) λc s1 e=>?_);cases c with
 |false=>exact isTrue_or_nil e
 |true=>exact e
def ahT(ba:nH X a tA):nH X (.UnaryOp .Not a pos)<|afL tA:=by intro ae s O H Q I h;exact isTrue_not<|ba ae s O H (λc H1=>Q (!c) H1) I h
def ahU{op}(h:d7 X a t):d7 X (.BoolOp op [a] pos) t:=λae s O H Q I hw=>BoolOp_one<|h ae s O H Q I hw
def aac(t:TT)(ta tb:TE):TE:=λO H Q=>t O H λc H1=>if c=Y0 then ta O H1 Q else tb O H1 Q
def alB(aT:nH X c tA)(ba:d7 X a ta)(aq:d7 X b tb):d7 X (.IfExp c a b pos)<|aac tA ta tb:=by
 intro ae s O H Q I h;refine wpAny_IfExp (b2 (aT ae s O H _ I h) λd s1 ⟨H1,bf,aX⟩=>?_);cases d with
 |true=>exact ba ae s1 O H1 Q bf aX
 |false=>exact aq ae s1 O H1 Q bf aX
end
def gw(K:W.Frag)(H:aJ)(a:Addr)(xs:List V):Prop :=
 iN H a (.ao xs) \/
  (∃(o:Obj) (a5:Array mt) (n:Nat),K.lookup a=J o/\o.cls=.type "list" /\ o.dict=C/\o.d=.seq a5 n/\a5.O<=dg/\cG xs a5.B)
def e6(K:W.Frag)(H:aJ)(a:Addr)(xs:List V):Prop :=
 iN H a (.aD xs) \/
  ∃(o:Obj) (a5:Array mt) (n:Nat),K.lookup a=J o/\o.cls=.type "tuple" /\ o.d=.seq a5 n/\a5.O<=dg/\cG xs a5.B
noncomputable def afM:mt->Option V
 |.none=>J .br
 |.bool b=>J<|.aC b
 |.int i _=>J<|.int i
 |.str x _=>J<|.str x
 |.bytes b _=>J<|.sQ b
 |.float b _=>J<|.uT b
 |.ref a=>J ZN
 |.type n=>J<|.ty n
 |_=>C
def cW.abs(r:cW x u):afM u=J x:=by
 cases x with
 |br=>exists r;rfl
 |aC _=>exists r;rfl
 |int _=>obtain⟨t,rfl⟩:=r;rfl
 |str _=>obtain⟨t,rfl⟩:=r;rfl
 |sQ _=>obtain⟨t,rfl⟩:=r;rfl
 |uT _=>obtain⟨t,rfl⟩:=r;rfl
 |ref _=>exists r;rfl
 |ty _=>exists r;rfl
theorem cW.inj(r:cW x u)(q:cW y u):x=y:=Option.some.inj<|r.abs.symm.trans q.abs
theorem cG.inj:∀{xs aO:List V} {us:List mt},cG xs us->cG aO us->xs=aO
 |_,_,_,.nil,.nil=>rfl
 |_,_,_,.cons r t,.cons b5 t'=>by rw[r.inj b5,cG.inj t t']
section
variable {X:bI}{ae:List Z1}{O:St}{H:aJ}{s:aR}{a:Addr}{xs aO:List V}
def gw.of{K:W.Frag}(h:H a=J (.ao xs)):gw K H a xs:=.inl<|.inl h
def e6.of{K:W.Frag}(h:H a=J (.aD xs)):e6 K H a xs:=.inl<|.inl h
def aS.list(I:aS X ae O H s)(h:gw X.K H a xs):∃a5:List mt,cG xs a5/\PlainL s.D a a5.Q/\xs.H<=dg:=by
 rcases h with h|⟨o,a5,n,aW,aT,hd,aP,hz,r⟩
 ·obtain⟨z,a5,n,r,e⟩:=h.ok I.b1;exact⟨a5,r,⟨_,n,e,rfl,rfl,rfl⟩,z⟩
 ·refine⟨a5.B,r,⟨o,n,I.hK a o aW,aT,hd,by simpa using aP⟩,?_⟩;have e:=r.H;simp only[gI]at e;lia
def aS.tuple(I:aS X ae O H s)(h:e6 X.K H a xs):∃a5:List mt,cG xs a5/\IsTup s.D a a5.Q/\xs.H<=dg:=by
 rcases h with h|⟨o,a5,n,aW,aT,aP,hz,r⟩
 ·obtain⟨z,a5,r,p⟩:=h.ok I.b1;exact⟨a5,r,p.aD,z⟩
 ·refine⟨a5.B,r,⟨o,I.hK a o aW,aT,n,by simpa using aP⟩,?_⟩;have e:=r.H;simp only[gI]at e;lia
def aS.alC(I:aS X ae O H s)(h:gw X.K H a xs)(h':gw X.K H a aO):xs=aO:=by
 obtain⟨a5,r,⟨o,n,e,_,_,d⟩,_⟩:=I.list h;obtain⟨its',b5,⟨dh,n',bN,_,_,d'⟩,_⟩:=I.list h';rw[e]at bN;exists bN;rw[d]at d';injection d' with d8 _;have:a5=its':=by simpa using congrArg Array.B d8
 subst this;exact r.inj b5
def aS.ang(I:aS X ae O H s)(h:e6 X.K H a xs)(h':e6 X.K H a aO):xs=aO:=by
 obtain⟨a5,r,⟨o,e,_,n,d⟩,_⟩:=I.tuple h;obtain⟨its',b5,⟨dh,bN,_,n',d'⟩,_⟩:=I.tuple h';rw[e]at bN;exists bN;rw[d]at d';injection d' with d8 _;have:a5=its':=by simpa using congrArg Array.B d8
 subst this;exact r.inj b5
end
noncomputable abbrev bI.nh(X:bI)(E:mt->aR->Prop):bI:={ X with cv:=E}
noncomputable abbrev bI.lL(X:bI):bI:=X.nh λ_ _=>False
theorem bI.Ok.nh{X:bI}(ok:X.Ok)(E:mt->aR->Prop):(X.nh E).Ok :=
 ⟨ok.mod,ok.kind,ok.glob,ok.blt,ok.above,ok.inj,ok.has,ok.rj,ok.hd,ok.frames,ok.sR,ok.sS,ok.bs,ok.mW,ok.rR,ok.rS,ok.kF,ok.o3⟩
def bI.Ok.pK{X:bI}(ok:(X.nh E).Ok):X.Ok :=
 ⟨ok.mod,ok.kind,ok.glob,ok.blt,ok.above,ok.inj,ok.has,ok.rj,ok.hd,ok.frames,ok.sR,ok.sS,ok.bs,ok.mW,ok.rR,ok.rS,ok.kF,ok.o3⟩
section
variable {X:bI}{ae:List Z1}{O:St}{H:aJ}{s:aR}{E:mt->aR->Prop}
theorem aS.nh(I:aS X ae O H s)(E:mt->aR->Prop):aS (X.nh E) ae O H s:=⟨I.ok.nh E,I.os,I.ft,I.V,I.loc,I.cell,I.free,I.kK,I.pin,I.b1,I.len⟩
theorem aS.pK(I:aS (X.nh E) ae O H s):aS X ae O H s:=⟨I.ok.pK,I.os,I.ft,I.V,I.loc,I.cell,I.free,I.kK,I.pin,I.b1,I.len⟩
theorem oL.pK(h:oL (X.nh E) ae D f s'):oL X ae D f s':=by
 cases f with
 |next=>obtain⟨U',aj,I,q⟩:=h;exact⟨U',aj,I.pK,q⟩
 |brk=>obtain⟨U',aj,I,q⟩:=h;exact⟨U',aj,I.pK,q⟩
 |cont=>obtain⟨U',aj,I,q⟩:=h;exact⟨U',aj,I.pK,q⟩
 |ret u=>obtain⟨v,U',aj,I,r,q⟩:=h;exact⟨v,U',aj,I.pK,r,q⟩
theorem kr.lL{st:List Stmt}{t:kV}(h:kr X.lL st t):kr X st t:=λae s O H D I hw =>
 hk (h ae s O H D (I.nh _) hw) (λ_ _ q=>q.pK) λ_ _ z=>False.elim z
end
section
variable {X:bI}{st:Stmt}{rest:List Stmt}{t u:kV}{e:Expr}{te:TE}{pos:Pos}
def agH:kV:=λD O H=>D.bD O H
def afN(t u:kV):kV:=λD O H=>t { D with bD:=u D} O H
def ajI:kr X [] agH:=λ_ _ O H _ I h=>yS ⟨O,H,I,h⟩
def uW(af:oM X st t)(ak:kr X rest u):kr X (st::rest)<|afN t u:=by
 intro ae s O H D I h;refine wpAny_execs_cons (b2 (af ae s O H { D with bD:=u D} I h) λf s1 q=>?_);cases f with
 |next =>
  obtain⟨U',aj,eH,q⟩:=q;exact ak ae s1 U' aj D eH q
 |ret v=>exact q
 |brk=>exact q
 |cont=>exact q
def Oy(af:oM X st t):kr X [st] t:=by
 intro ae s O H D I h;refine wpAny_execs_cons (b2 (af ae s O H D I h) λf s1 q=>?_);cases f with
 |next=>exact yS q
 |ret v=>exact q
 |brk=>exact q
 |cont=>exact q
def aS.quiet{ae:List Z1}{O:St}{H:aJ}{s:aR}(I:aS X ae O H s):interactive X.I=Y1:=by simp[interactive,I.ok.kind]
def agI(te:TE):kV:=λD O H=>te O H λ_ H1=>D.bD O H1
def zJ(he:d7 X e te)(aP:autoParam (nC e C pos.line X.I=pure Y1) bu):oM X (.Expr e pos)<|agI te:=by intro ae s O H D I h;exact wpAny_Expr_any (b2 (he ae s O H _ I h) λv s1 ⟨x,H1,bf,bA,aX⟩=>⟨O,H1,bf,aX⟩) I.quiet aP
def afO(te:TE):kV:=λD O H=>te O H D.aV
def IE(he:d7 X e te):oM X (.Return (J e) pos)<|afO te:=by intro ae s O H D I h;exact wpAny_Return_some (b2 (he ae s O H _ I h) λv s1 ⟨x,H1,bf,bA,aX⟩=>⟨x,O,H1,bf,bA,aX⟩)
def ahV:kV:=λ_ _ _=>False
def Dq{nR:List Stmt}:kr X nR ahV:=λ_ _ _ _ _ _ h=>h.elim
end
abbrev pZ:=V->St->aJ->(St->aJ->Prop)->Prop
abbrev zK:=List V->St->aJ->(St->aJ->Prop)->Prop
def p0(X:bI)(target:Expr)(t:pZ):Prop :=
 ∀(ae:List Z1) (s:aR) (O:St) (H:aJ) (v:V) (u:mt) (Q:St->aJ->Prop),aS X ae O H s->cW v u->t v O H Q ->
  bl Z2 X.A (nF target X.I u) (λ_ s'=>∃U' aj,aS X ae U' aj s'/\Q U' aj) X.cv s
def Dr(X:bI)(aA:List Expr)(t:zK):Prop :=
 ∀(ae:List Z1) (s:aR) (O:St) (H:aJ) (ah:List V) (us:List mt) (Q:St->aJ->Prop),aS X ae O H s->cG ah us->t ah O H Q ->
  bl Z2 X.A (assignInOrder ((mL aA X.I).map (·.2)) us) (λ_ s'=>∃U' aj,aS X ae U' aj s'/\Q U' aj) X.cv s
abbrev LQ:=V->V->V->aJ->(aJ->Prop)->Prop
def LS(X:bI)(t:LQ):Prop :=
 ∀(ae:List Z1) (s:aR) (O:St) (H:aJ) (o i v:V) (jY iw u:mt) (Q:aJ->Prop),aS X ae O H s->cW o jY->cW i iw->cW v u->t o i v H Q ->
  bl Z2 X.A (setItem jY iw u) (λ_ s'=>∃aj,aS X ae O aj s'/\Q aj) X.cv s
section
variable {X:bI}{pos:Pos}
def Ma(i:Nat):pZ:=λv O H Q=>Q (O.set i<|some v) H
def IF{i:Nat}(dK:X.N.Nodup)(hi:X.N[i]?=J x)(av:Loc X.I.Y x)(hf:autoParam Zs pY):p0 X (.Name x pos)<|Ma i:=by intro ae s O H v u Q I r h;exact wpAny_assign_Name<|IB I dK hi av r (λs' eH=>⟨_,H,eH,h⟩) hf
def afP:zK:=λah O H Q=>ah=[]/\Q O H
def agJ(t:pZ)(u:zK):zK:=λah O H Q=>∃v r,ah=v::r/\t v O H λU' aj=>u r U' aj Q
def ajJ:Dr X [] afP:=by
 intro ae s O H ah us Q I r h;obtain⟨e,h⟩:=h;subst e
 exists r
 exact assignInOrder_nil ⟨O,H,I,h⟩
def Oz(af:p0 X e t)(ak:Dr X es u)
  (aP:autoParam ((mL (e::es) X.I).map (·.2)=nF e X.I::(mL es X.I).map (·.2)) bu):Dr X (e::es)<|agJ t u:=by
 intro ae s O H ah us Q I r h;obtain⟨v,anr,az,h⟩:=h;subst az;cases r with
 |cons r hr =>
  rw[aP];refine assignInOrder_cons (b2 (af ae s O H _ _ _ I r h) λ_ s1 ⟨U1,H1,bf,aX⟩=>?_);exact ak ae s1 U1 H1 _ _ Q bf hr aX
def afQ(K:W.Frag)(n:Nat)(t:zK):pZ:=λv O H Q=>∃a xs,v=.ref a/\e6 K H a xs/\xs.H=n/\t xs O H Q
def ahW{k:Nat}{n:Nat}(aT:X.calm=Y0)(h:Dr X es t)
  (bz:autoParam ((mL es X.I).H=n) bu) (jD:autoParam ((mL es X.I).findIdx? (·.1)=C) bu):p0 X (.Tuple es k pos)<|afQ X.K n t:=by
 intro ae s O H v u Q I r hw;obtain⟨a,xs,az,a7,aB,hw⟩:=hw;subst az
 exists r
 obtain⟨a5,bq,cA,hz⟩:=I.tuple a7;refine assign_Tuple_tuple (I.ok.hd aT) cA (by simp[bz,<-aB,bq.H]) jD λh' av=>?_;have bf:aS X ae O H { s with heap:=h'}:=I.kept (t':=s.toks) λb o e=>av b o (bv<|d6 e) e;exact h ae _ O H xs _ Q bf (by simpa using bq) hw
def afR(to Hz:TE)(t:LQ):pZ:=λv O H Q=>to O H λo H1=>Hz O H1 λi bV=>t o i v bV λef=>Q O ef
def ahX(aZ:d7 X o to)(hi:d7 X i Hz)(aP:LS X t)
  (ba:autoParam (∀v,nF (.Subscript o i pos) X.I v=(do
   let jY<-oI [v] (eval o X.I)
   let iw<-oI [v,jY] (eval i X.I)
   standAt pos
   oI [v,jY,iw] (setItem jY iw v)
   release [v,jY,iw] [])) sA):p0 X (.Subscript o i pos)<|afR to Hz t:=by
 intro ae s O H v u Q I r h;rw[ba];refine a8<|jr (b2 (aZ ae s O H _ I h) λjY s1 ⟨x,H1,bf,bA,aX⟩=>?_);refine a8<|jr (b2 (hi ae s1 O H1 _ bf aX) λiw s2 ⟨y,bV,cS,cp,bb⟩=>?_);refine a8<|Hs<|a8<|jr (b2 (aP ae s2 O bV x y v jY iw u _ cS bA cp r bb) λ_ s3 ⟨ef,fU,cK⟩=>?_);exact wpAny_release ⟨O,ef,fU,cK⟩
def LU(te:TE)(g:pZ):kV:=λD O H=>te O H λx H1=>g x O H1 D.bD
def ahY(he:d7 X e te)(bT:p0 X di g)(aP:autoParam (swapsWithSole [di] e pos.line X.I=pure Y1) bu)(hw:autoParam (swappedStores [di] e X.I=pure C) bu)
  (af:autoParam ((mL [di] X.I).map (·.2)=[nF di X.I]) bu):oM X (.Assign [di] e pos)<|LU te g:=by
 intro ae s O H D I h;refine wpAny_Assign_stores (b2 (he ae s O H _ I h) λv s1 ⟨x,H1,bf,bA,aX⟩=>?_) aP hw;rw[af];exact b2 (bT ae s1 O H1 x v _ bf bA aX) λ_ s2 q=>q
def Ds{i:Nat}(dK:X.N.Nodup)(hi:X.N[i]?=J x)(av:Loc X.I.Y x)(he:d7 X e te)(aP:autoParam (nC e (J<|.Name x pos') pos.line X.I=pure Y1) bu)(hf:autoParam Zs pY) :
  oM X (.Assign [.Name x pos'] e pos) (LU te<|Ma i):=by
 intro ae s O H D I h;refine wpAny_Assign_Name (b2 (he ae s O H _ I h) λv s1 ⟨y,H1,bf,bA,aX⟩=>?_) aP;exact IB bf dK hi av bA (λs2 cS=>⟨_,H1,cS,aX⟩) hf
def ahZ(c:TT)(tb:kV):kV:=λD O H=>∃W:Nat->St->aJ->Prop,(∃m,W m O H)/\∀m O H,W m O H ->
 c O H λb H1=>if b=Y0 then ∃N:St->aJ->Prop,(∀U' aj,N U' aj->∃gg,gg<m/\W gg U' aj)/\tb { D with bD:=N,eE:=N,gs:=D.bD} O H1 else D.bD O H1
def alD(aF:yV Z2 X.A X.I X.cv)(aT:nH X c nJ)(aq:kr X body tb):oM X (.While c body [] pos)<|ahZ nJ tb:=by
 intro ae s O H D I h;obtain⟨W,⟨m0,q1⟩,turn⟩:=h;refine wpAny_While<|codeAny_whileLoop (λn s'=>∃U' aj,aS X ae U' aj s'/\W n U' aj) ?_ m0 ⟨O,H,I,q1⟩;rintro n s1 ⟨U1,H1,bf,eV⟩;refine ud aF (b2 (aT ae s1 U1 H1 _ bf<|turn n U1 H1 eV) λb s2 ⟨bV,cS,bb⟩=>?_);cases b with
 |true =>
  obtain⟨N,dK,bb⟩:=bb;rw[Y2 rfl];refine ud aF (b2 (aq ae s2 U1 bV _ cS bb) λf s3 cK=>?_);cases f with
  |next =>
   obtain⟨U3,ef,fU,fV⟩:=cK;obtain⟨gg,hm,uo⟩:=dK U3 ef fV;exact⟨gg,hm,U3,ef,fU,uo⟩
  |cont =>
   obtain⟨U3,ef,fU,fV⟩:=cK;obtain⟨gg,hm,uo⟩:=dK U3 ef fV;exact⟨gg,hm,U3,ef,fU,uo⟩
  |brk=>exact cK
  |ret v=>exact cK
 |false =>
  rw[Y3 nz];exact yS ⟨U1,bV,cS,bb⟩
end
structure kW where
 go:Nat->aJ->Prop
 Dt:Nat->aJ->V->aJ->Prop
 stop:Nat->aJ->Prop
def pD(X:bI)(ae:List Z1)(H:aJ)(b:Addr):Prop :=
 H b=C/\b≠X.I.locals/\b∉X.cm/\(b∈X.ex\/X.cD.L<=b)/\(∀x c,X.env.cells.lookup x=J c->c≠b)/\∀p∈X.gD++ae,p.1≠b
def aS.yb{X:bI}{ae:List Z1}{O:St}{H aj:aJ}{s:aR}{b:Addr}(I:aS X ae O H s)(aq:s.L<=b)(bz:aj b=C):pD X ae aj b:=by
 refine⟨bz,pS<|d5 I.lt aq,I.afH aq,.inr<|bP I.wG aq,λx c e z=>?_,λp aF z=>?_⟩
 ·obtain⟨v,q⟩:=I.cell x c e;exact absurd (d5 q.lt<|by rw[z];exact aq)<|oF _
 ·exact absurd (d5 (d6 (I.pin p aF).1)<|by rw[z];exact aq)<|oF _
structure Turn (P:dx) (w:c3) (K:W.Frag) (di:Expr) (cO:kW) (fp:List Addr) (it:Addr) (aQ:Nat->Heap->Prop):Prop where
 mem:it∈fp
 obj:∀i h,aQ i h->∀b∈fp,∃o,h.get? b=J o/\∀v,o.d≠.cell v
 keep:∀i h h',aQ i h->(∀b∈fp,∀o,h.get? b=J o->h'.get? b=J o)->aQ i h'
 item:∀(X:bI),X.R=P->X.w=w->X.K=K->X.calm=Y0->∀(i:Nat) (ae:List Z1) (s:aR) (O:St) (H:aJ) (E:mt->aR->Prop),aS X ae O H s->(∀b∈fp,pD X ae H b)->aQ i s.D->cO.go i H ->
  bl (bg P w) X.A (mM<|.ref it) (λr s1=>∃u,r=J u /\
   bl (bg P w) X.A (Cb di (.ref it) u) (λ_ s2=>∃x aj,aS X ae O aj s2/\cW x u/\cO.Dt i H x aj/\aQ (i+1) s2.D/\∀b∈fp,aj b=C) E s1) E s
 done:∀(X:bI),X.R=P->X.w=w->X.K=K->X.calm=Y0->∀(i:Nat) (ae:List Z1) (s:aR) (O:St) (H:aJ) (E:mt->aR->Prop),aS X ae O H s->(∀b∈fp,pD X ae H b)->aQ i s.D->cO.stop i H ->
  bl (bg P w) X.A (mM<|.ref it) (λr s1=>r=C/\aS X ae O H s1) E s
 self:∀(A:dI) (i:Nat) (s:aR) (Q:mt->aR->Prop) (E:mt->aR->Prop),aQ i s.D->Q (.ref it) s->bl (bg P w) A (mb<|.ref it) Q E s
abbrev TI:=St->aJ->(kW->aJ->Prop)->Prop
def sV(X:bI)(ae:List Z1)(O:St)(di:Expr)(R:kW->aJ->Prop)(IG:mt)(s2:aR):Prop :=
 ∃(it:Addr) (fp:List Addr) (aQ:Nat->Heap->Prop) (cO:kW) (aj:aJ),IG=.ref it/\aS X ae O aj s2/\Turn X.R X.w X.K di cO fp it aQ/\aQ 0 s2.D/\(∀b∈fp,pD X ae aj b)/\R cO aj
def oN(X:bI)(di iter:Expr)(mc:TI):Prop :=
 ∀(ae:List Z1) (s:aR) (O:St) (H:aJ) (R:kW->aJ->Prop),aS X ae O H s->mc O H R ->
  bl Z2 X.A (eval iter X.I) (λv s1=>bl Z2 X.A (mb v) (sV X ae O di R) X.cv s1) X.cv s
def Gg(aZ:s.heap.get? it=J o)(aT:o.cls=.type n)(hd:o.d=.fields ah)
  (bz:["enumerate","zip","dict_itemiterator","dict_reverseitemiterator","odict_iterator","itertools.zip_longest","itertools.pairwise"].contains n=Y1) (hD:Q () s):bl M A (Cb di (.ref it) u) Q E s:=by
 unfold Cb
 exists di<;>first
  |exact bZ hD
  | (exists u<;>first
    |exact bZ hD
    | (refine a8 (wpAny_load aZ ?_)
       rw[aT,hd];show bl M A (if(["enumerate","zip","dict_itemiterator","dict_reverseitemiterator","odict_iterator","itertools.zip_longest","itertools.pairwise"].contains n&&ah[0]?==J (gJ _))=Y0 then _ else _) Q E s;rw[Y3<|by intro h;rw[bz,sf]at h;exists h]
       exact bZ hD))
noncomputable def IH(K:W.Frag)(a:Addr):kW :=
 ⟨λi H=>∃xs x,gw K H a xs/\xs[i]?=J x,λi H x aj=>aj=H/\∀xs,gw K H a xs->xs[i]?=J x,λi H=>∃xs,gw K H a xs/\xs.H<=i⟩
noncomputable def II(K:W.Frag)(a:Addr):kW :=
 ⟨λi H=>∃xs x,e6 K H a xs/\xs[i]?=J x,λi H x aj=>aj=H/\∀xs,e6 K H a xs->xs[i]?=J x,λi H=>∃xs,e6 K H a xs/\xs.H<=i⟩
noncomputable def zL(lo:Int)(n:Nat):kW:=⟨λi _=>i<n,λi H x aj=>aj=H/\x=.int (lo+i),λi _=>n<=i⟩
def aad{P:dx}{w:c3}{K:W.Frag}{di:Expr}(a it:Addr):Turn P w K di (IH K a) [it] it (λi h=>h.IsListIter it a i) where
 mem:=by simp
 obj:=λi h st b aq=>by
  have e:b=it:=by simpa using aq
  subst e;obtain⟨o,e,c,d⟩:=st;exact⟨o,e,λv z=>by rw[d]at z;exists z⟩
 keep:=λi h h' st k=>st.at λo e=>k it Z7 o e
 item:=by intro X e4 hw ib aT i ae s O H E I hf st bT;subst e4 hw ib;obtain⟨xs,x,a7,av⟩:=bT;obtain⟨a5,bq,p,hz⟩:=I.list a7;obtain⟨u,b7,eW⟩:=bq.get av;obtain⟨f0,f1,f2,en,f4,hU⟩:=hf it Z7;refine wpAny_pyNext_list_item st p.isList (x:=u) (by simpa using b7) λh' c1 cV=>?_;have bf:aS X ae O H { s with heap:=h'}:=I.turned (t':=s.toks) (λb o aq e=>(cV.2 b aq).trans e) f0 f1 en f4 hU;obtain⟨o,e,c,d⟩:=id c1;exact⟨u,rfl,Gg (s:={ s with heap:=h'}) e c d Z0 ⟨x,H,bf,eW,⟨rfl,λaO aK=>by rw[I.alC aK a7];exact av⟩,c1,λb aq=>(hf b aq).1⟩⟩
 done:=by intro X e4 hw ib aT i ae s O H E I hf st bT;subst e4 hw ib;obtain⟨xs,a7,av⟩:=bT;obtain⟨a5,bq,p,hz⟩:=I.list a7;obtain⟨f0,f1,f2,en,f4,hU⟩:=hf it Z7;have aB:=bq.H;exact wpAny_pyNext_list_end (I.ok.hd aT) st p.isList (by simp;exact bP (d2 aB.symm) av) λh' hE=>⟨rfl,I.turned (t':=s.toks) (λb o aq e=>hE b o aq e) f0 f1 en f4 hU⟩
 self:=λ_ _ _ _ _ st h=>wpAny_pyIter_listiter st h
def aae{P:dx}{w:c3}{K:W.Frag}{di:Expr}(a it:Addr):Turn P w K di (II K a) [it] it (λi h=>h.IsTupleIter it a i) where
 mem:=by simp
 obj:=λi h st b aq=>by
  have e:b=it:=by simpa using aq
  subst e;obtain⟨o,e,c,d⟩:=st;exact⟨o,e,λv z=>by rw[d]at z;exists z⟩
 keep:=λi h h' st k=>st.at λo e=>k it Z7 o e
 item:=by intro X e4 hw ib aT i ae s O H E I hf st bT;subst e4 hw ib;obtain⟨xs,x,a7,av⟩:=bT;obtain⟨a5,bq,p,hz⟩:=I.tuple a7;obtain⟨u,b7,eW⟩:=bq.get av;obtain⟨f0,f1,f2,en,f4,hU⟩:=hf it Z7;refine wpAny_pyNext_tuple_item st (show s.heap.IsTuple a a5.Q from p) (x:=u) (by simpa using b7) λh' c1 cV=>?_;have bf:aS X ae O H { s with heap:=h'}:=I.turned (t':=s.toks) (λb o aq e=>(cV.2 b aq).trans e) f0 f1 en f4 hU;obtain⟨o,e,c,d⟩:=id c1;exact⟨u,rfl,Gg (s:={ s with heap:=h'}) e c d Z0 ⟨x,H,bf,eW,⟨rfl,λaO aK=>by rw[I.ang aK a7];exact av⟩,c1,λb aq=>(hf b aq).1⟩⟩
 done:=by intro X e4 hw ib aT i ae s O H E I hf st bT;subst e4 hw ib;obtain⟨xs,a7,av⟩:=bT;obtain⟨a5,bq,p,hz⟩:=I.tuple a7;obtain⟨f0,f1,f2,en,f4,hU⟩:=hf it Z7;have aB:=bq.H;exact wpAny_pyNext_tuple_end (I.ok.hd aT) st (show s.heap.IsTuple a a5.Q from p) (by simp;exact bP (d2 aB.symm) av) λh' hE=>⟨rfl,I.turned (t':=s.toks) (λb o aq e=>hE b o aq e) f0 f1 en f4 hU⟩
 self:=λ_ _ _ _ _ st h=>wpAny_pyIter_tupleiter st h
def aaf{P:dx}{w:c3}{K:PySem.W.Frag}{di:Expr}(it:Addr)(lo:Int)(n:Nat):Turn P w K di (zL lo n) [it] it (λi h=>IsRangeIter h it (lo+(i:Nat)*1) ((n:Int)-(i:Nat)) 1) where
 mem:=by simp
 obj:=λi h st b aq=>by
  have e:b=it:=by simpa using aq
  subst e
  exact⟨_,st,λv z=>by
   have kT:Data.fields _=Data.cell v:=z
   exists kT⟩
 keep:=λi h h' st k=>k it Z7 _ st
 item:=by intro X e4 hw ib aT i ae s O H E I hf st bT;subst e4 hw ib;obtain⟨f0,f1,f2,en,f4,hU⟩:=hf it Z7;have W:=Walks.range (prog:=X.R) (w:=X.w) (I.ok.hd aT) it lo 1 n;refine W.item i s _ _ bT st λv h' bx bS c1 md=>?_;obtain⟨t,rfl⟩:=bS;have bf:aS X ae O H { s with heap:=h',toks:=bx}:=I.turned (λb o aq e=>md b o (by simpa using aq) e) f0 f1 en f4 hU;refine⟨_,rfl,Gg (s:={ s with heap:=h',toks:=bx}) (n:="range_iterator") c1 rfl rfl Z0 ⟨.int<|lo+i,H,bf,⟨t,?_⟩,⟨rfl,rfl⟩,c1,λb aq=>(hf b aq).1⟩⟩;rw[Int.mul_one]
 done:=by intro X e4 hw ib aT i ae s O H E I hf st bT;subst e4 hw ib;obtain⟨f0,f1,f2,en,f4,hU⟩:=hf it Z7;exact wpAny_pyNext_range_end (I.ok.hd aT) st (by have:n<=i:=bT;lia) λh' hE=>⟨rfl,I.turned (t':=s.toks) (λb o aq e=>hE b o aq e) f0 f1 en f4 hU⟩
 self:=λ_ _ _ _ _ st h=>wpAny_pyIter_rangeiter st h
section
variable {X:bI}{di:Expr}
def OA{ae:List Z1}{O:St}{H:aJ}{s:aR}{R:kW->aJ->Prop}{E:mt->aR->Prop}{lo hi:Int}{t u v:Tok}{bx:Nat}(I:aS X ae O H s)(af:-(2^62)<=lo)(ak:lo<2^62)(bc:-(2^62)<=hi)(cL:hi<2^62)
  (q:R (zL lo (hi-lo).M) H):bl Z2 X.A (mb Zv) (sV X ae O di R) E { s with heap:=s.heap.push { cls:=.type "range",data:=.fields #[.int lo t,.int hi u,.int 1 v]},toks:=bx}:=by
 refine wpAny_pyIter_range (IsRange.new ..) (small_one af ak bc cL) ?_;have bf:aS X ae O H { s with heap:=s.heap.push { cls:=.type "range",data:=.fields #[.int lo t,.int hi u,.int 1 v]},toks:=bx}:=I.kept λb o e=>ed _ e
 refine⟨(s.heap.push { cls:=.type "range",data:=.fields #[.int lo t,.int hi u,.int 1 v]}).E.O,[(s.heap.push { cls:=.type "range",data:=.fields #[.int lo t,.int hi u,.int 1 v]}).E.O],_,_,H,rfl,
  bf.kept (t':=bx) λb o e=>ed _ e,aaf _ lo (hi-lo).M,?_,λb aq=>?_,q⟩
 ·have az:lo+((0:Nat):Int)*1=lo:=by simp
  have au:(((hi-lo).M:Nat):Int)-((0:Nat):Int)=Builtin.Range.rangeSize lo hi 1:=by rw[rangeSize_one];split<;>lia
  show IsRangeIter _ _ (lo+((0:Nat):Int)*1) ((((hi-lo).M:Nat):Int)-((0:Nat):Int)) 1;rw[az,au];exact gC _ rfl
 ·have e:b=(s.heap.push { cls:=.type "range",data:=.fields #[.int lo t,.int hi u,.int 1 v]}).E.O:=by simpa using aq
  subst e;exact bf.yb (cg _)<|bf.b1.fresh<|cg _
def agK(ta:kU):TI:=λO H R=>ta O H λah H1=>∃j:Int,ah=[.int j] /\ -(2^62)<=j/\j<2^62/\R (zL 0 j.M) H1
def agL(ta:kU):TI:=λO H R=>ta O H λah H1=>∃i j:Int,ah=[.int i,.int j]/\(-(2^62)<=i/\i<2^62 /\ -(2^62)<=j/\j<2^62)/\R (zL i (j-i).M) H1
def aag(bT:fv X "range")(hm:X.a3 "range" = C)(ba:nI X [a] ta)(aP:autoParam (b4 [a] X.I=[(Y1,eval a X.I)]) bu):oN X di (.Call (.Name "range" p) [a] [] pos)<|agK ta:=by
 intro ae s O H R I h;refine Call_<|la I bT hm boot_range<|PyProof.Rows.callWith_type1 (b2 (ba pos ae s O H _ I h) λus s1 ⟨ah,H1,bf,bA,aX⟩=>?_) aP rfl;obtain⟨j,e,aX,bb,q⟩:=aX;subst e;cases bA with
 |cons r hr =>
  exists hr
  obtain⟨t,rfl⟩:=r;exact call_range_1 (OA bf Z0 Z0 aX bb<|by simpa using q)
def aah(bT:fv X "range")(hm:X.a3 "range" = C)(ba:nI X [a,b] ta)(aP:autoParam (b4 [a,b] X.I=[(Y1,eval a X.I),(Y1,eval b X.I)]) bu)(iA:autoParam (b4 [b] X.I=[(Y1,eval b X.I)]) bu) :
  oN X di (.Call (.Name "range" p) [a,b] [] pos) (agL ta):=by
 intro ae s O H R I h;refine Call_<|la I bT hm boot_range (PyProof.Rows.callWith_type1 (b2 (ba pos ae s O H _ I h) λus s1 ⟨ah,H1,bf,bA,aX⟩=>?_) (by rw[aP,iA])<|by rw[iA];rfl);obtain⟨i,j,e,⟨aX,bb,cK,fW⟩,q⟩:=aX;subst e;cases bA with
 |cons r hr =>
  cases hr with
  |cons b5 hr =>
   exists hr
   obtain⟨t,rfl⟩:=r;obtain⟨t',rfl⟩:=b5;exact call_range_2<|OA bf aX bb cK fW q
def afS(mc:TI)(g:pZ)(tb:kV):kV:=λD O H=>mc O H λcO H1=>∃W:Nat->Nat->St->aJ->Prop,(∃m,W 0 m O H1)/\∀i m O H,W i m O H ->
 (cO.stop i H/\D.bD O H)\/(cO.go i H/\∃N:St->aJ->Prop,(∀U' aj,N U' aj->∃gg,gg<m/\W (i+1) gg U' aj)/\∀x aj,cO.Dt i H x aj->g x O aj λU2 bV=>tb { D with bD:=N,eE:=N,gs:=D.bD} U2 bV)
noncomputable def zM(fp:List Addr)(h:Heap):List Z1:=fp.filterMap λb=>(h.get? b).map λo=>(b,o)
def Du(aq:b∈fp)(e:h.get? b=J o):(b,o)∈zM fp h:=GP.mpr ⟨b,aq,by rw[e];rfl⟩
def aai(aF:p∈zM fp h):p.1∈fp/\h.get? p.1=J p.2:=by
 obtain⟨b,aq,e⟩:=GP.mp aF;cases q:h.get? b with
 |none=>rw[q]at e;exists e
 |some o =>
  rw[q]at e;have bN:(b,o)=p:=Option.some.inj e;subst bN;exact⟨aq,q⟩
def aS.pinned{ae:List Z1}{O:St}{H:aJ}{s:aR}{fp:List Addr}(I:aS X ae O H s)(hf:∀b∈fp,pD X ae H b)(aZ:∀b∈fp,∃o,s.heap.get? b=J o/\∀v,o.d≠.cell v):aS X (ae++zM fp s.D) O H s :=
 I.VE λp aF=>(hR.mp aF).elim (λz=>I.pin p<|l3 _ z) λz=>by obtain⟨aq,e⟩:=aai z;obtain⟨f0,f1,f2,_⟩:=hf p.1 aq;obtain⟨o,bN,d⟩:=aZ p.1 aq;rw[e]at bN;exists bN;exact⟨e,f0,f1,f2,d⟩
def aS.GC{ae cQ:List Z1}{O:St}{H:aJ}{s:aR}(I:aS X (ae++cQ) O H s):aS X ae O H s:=I.VE λp aF=>I.pin p<|l3 _<|pO _ aF
def UM(aF:yV Z2 X.A X.I X.cv)(aT:X.calm=Y0)(hi:oN X di iter mc)(bT:p0 X di g)(aq:kr X body tb)
  (aP:autoParam Zx sA):oM X (.For di iter body [] pos)<|afS mc g tb:=by
 intro ae s O H D I h;refine wpAny_For (b2 (hi ae s O H _ I h) λv s1 af=>b2 af λIG s2 ak=>?_) aP;obtain⟨it,fp,aQ,cO,bV,e,cS,T,hy,f2,W,⟨m0,q1⟩,turn⟩:=ak;subst e;have stat:∀{aj:aJ},(∀b∈fp,aj b=C)->∀b∈fp,pD X ae aj b:=λbz b aq=>⟨bz b aq,(f2 b aq).2⟩
 refine codeAny_forLoop_any (λn s'=>∃i U' aj,aS X ae U' aj s'/\aQ i s'.D/\(∀b∈fp,aj b=C)/\W i n U' aj) ?_ m0 ⟨0,O,bV,cS,hy,λb aq=>(f2 b aq).1,q1⟩;rintro n s3 ⟨i,U3,ef,fU,Dv,OB,uo⟩;rcases turn i n U3 ef uo with⟨stop,uq⟩|⟨go,N,dK,step⟩
 ·refine ud aF (b2 (T.done X rfl rfl rfl aT i ae s3 U3 ef X.cv fU (stat OB) Dv stop) λr s4 ⟨aU,hb⟩=>?_);subst aU;exact yS ⟨U3,ef,hb,uq⟩
 ·refine ud aF (b2 (T.item X rfl rfl rfl aT i ae s3 U3 ef X.cv fU (stat OB) Dv go) λr s4 ⟨u,aU,cL⟩=>?_);subst aU;refine ud aF (b2 cL λ_ s5 ⟨x,jv,wI,y0,ur,xc,Dw⟩=>?_);have aaj:=wI.pinned (stat Dw)<|T.obj _ _ xc;refine ud aF (b2 (bT _ s5 U3 jv x u _ aaj y0<|step x jv ur) λ_ jw ⟨U6,VL,oO,Nj⟩=>?_);refine ud aF (b2 (aq _ jw U6 VL _ oO Nj) λf oP sy=>?_);have again:∀{U7:St} {me:aJ},aS X (ae++zM fp s5.D) U7 me oP->N U7 me->∃m,m<n/\∃i U' aj,aS X ae U' aj oP/\aQ i oP.D/\(∀b∈fp,aj b=C)/\W i m U' aj:=λ{U7 me} lH y1=>by obtain⟨gg,hm,VM⟩:=dK U7 me y1;refine⟨gg,hm,i+1,U7,me,lH.GC,T.keep _ _ _ xc λb aq o e=>(lH.pin (b,o)<|l3 _<|l3 _<|Du aq e).1,λb aq=>?_,VM⟩;obtain⟨o,e,d⟩:=T.obj _ _ xc b aq;exact(lH.pin (b,o)<|l3 _<|l3 _<|Du aq e).2.1
  cases f with
  |next=>obtain⟨U7,me,lH,y1⟩:=sy;exact again lH y1
  |cont=>obtain⟨U7,me,lH,y1⟩:=sy;exact again lH y1
  |brk=>obtain⟨U7,me,lH,sy⟩:=sy;exact⟨U7,me,lH.GC,sy⟩
  |ret v=>obtain⟨fa,U7,me,lH,wJ,sy⟩:=sy;exact⟨fa,U7,me,lH.GC,wJ,sy⟩
end
abbrev dj:=V->V->aJ->fg->Prop
def iU(X:bI)(f:mt->mt->Sem mt)(r:dj):Prop :=
 ∀(ae:List Z1) (s:aR) (O:St) (H:aJ) (x y:V) (v u:mt) (Q:fg),aS X ae O H s->cW x v->cW y u->r x y H Q ->
  bl Z2 X.A (f v u) Zl X.cv s
def IJ(X:bI)(f:mt->Sem mt)(r:V->aJ->fg->Prop):Prop :=
 ∀(ae:List Z1) (s:aR) (O:St) (H:aJ) (x:V) (v:mt) (Q:fg),aS X ae O H s->cW x v->r x H Q ->
  bl Z2 X.A (f v) Zl X.cv s
def zN(X:bI)(f:mt)(r:List V->aJ->fg->Prop):Prop :=
 ∀(ae:List Z1) (s:aR) (O:St) (H:aJ) (xs:List V) (us:List mt) (Q:fg),aS X ae O H s->cG xs us->r xs H Q ->
  bl Z2 X.A (call f us) Zl X.cv s
def afT(X:bI)(r:V->aJ->(Bool->aJ->Prop)->Prop):Prop :=
 ∀(ae:List Z1) (s:aR) (O:St) (H:aJ) (x:V) (v:mt) (Q:Bool->aJ->Prop),aS X ae O H s->cW x v->r x H Q ->
  bl Z2 X.A (truthy v) (Cn X ae O Q) X.cv s
def aak(r:dj)(ta tb:TE):TE:=λO H Q=>ta O H λx H1=>tb O H1 λy bV=>r x y bV Q
def aal(r:V->aJ->fg->Prop)(ta:TE):TE:=λO H Q=>ta O H λx H1=>r x H1 Q
def Co(aN:Int->Int->Prop)(g:Int->Int->V):dj:=λx y H Q=>∃i j,x=.int i/\y=.int j/\aN i j/\Q (g i j) H
def IK(g:Int->Int->V):dj:=λx y H Q=>∃i j,x=.int i/\y=.int j/\Q (g i j) H
def Nk(g:Int->V):V->aJ->fg->Prop:=λx H Q=>∃i,x=.int i/\Q (g i) H
section
variable {X:bI}{a b c:Expr}{ta tb nJ:TE}{pos:Pos}
def FX(ba:d7 X a ta)(aq:d7 X b tb){ae:List Z1}{s:aR}{O:St}{H:aJ}{R:V->V->aJ->Prop}(I:aS X ae O H s)
  (h:ta O H λx H1=>tb O H1 λy bV=>R x y bV) {Q:mt->aR->Prop} {f:mt->mt->Sem mt}
  (hf:∀v u s2 x y bV,aS X ae O bV s2->cW x v->cW y u->R x y bV->bl Z2 X.A (f v u) Q X.cv s2) :
  bl Z2 X.A (eval a X.I) (λv dN=>bl Z2 X.A (eval b X.I) (λu gU=>bl Z2 X.A (f v u) Q X.cv gU) X.cv dN) X.cv s:=by
 refine b2 (ba ae s O H _ I h) λv s1 ⟨x,H1,bf,bA,aX⟩=>?_;refine b2 (aq ae s1 O H1 _ bf aX) λu s2 ⟨y,bV,cS,cp,bb⟩=>?_;exact hf v u s2 x y bV cS bA cp bb
def agM(aZ:iU X (ma op) r)(ba:d7 X a ta)(aq:d7 X b tb):d7 X (.BinOp a op b pos)<|aak r ta tb:=by intro ae s O H Q I h;exact wpAny_BinOp (FX ba aq I h λv u s2 x y bV cS cF dX q=>aZ ae s2 O bV x y v u Q cS cF dX q)
def Uj(aZ:IJ X (unaryOp op) r)(ba:d7 X a ta):d7 X (.UnaryOp op a pos)<|aal r ta:=by intro ae s O H Q I h;exact UnaryOp_ (b2 (ba ae s O H _ I h) λv s1 ⟨x,H1,bf,bA,aX⟩=>aZ ae s1 O H1 x v Q bf bA aX)
def IL{aN:Int->Int->Prop}{g:Int->Int->Int}
  (rule:∀(i j:Int) (t u:Tok) (s:aR) (Q:mt->aR->Prop) (E:mt->aR->Prop),aN i j->Q (.int (g i j) s.toks) { s with toks:=s.toks+1}->bl (bg X.R X.w) X.A (f (.int i t) (.int j u)) Q E s) :
  iU X f (Co aN λi j=>.int<|g i j):=by
 intro ae s O H x y v u Q I cF dX h;obtain⟨i,j,rfl,rfl,aT,q⟩:=h;obtain⟨t,rfl⟩:=cF;obtain⟨t',rfl⟩:=dX;exact rule i j t t' s _ _ aT ⟨.int<|g i j,H,I.tok _,⟨_,rfl⟩,q⟩
def TN{g:Int->Int->Int}
  (rule:∀(i j:Int) (t u:Tok) (s:aR) (Q:mt->aR->Prop) (E:mt->aR->Prop),Q (.int (g i j) s.toks) { s with toks:=s.toks+1}->bl (bg X.R X.w) X.A (f (.int i t) (.int j u)) Q E s) :
  iU X f (IK λi j=>.int<|g i j):=by
 intro ae s O H x y v u Q I cF dX h;obtain⟨i,j,rfl,rfl,q⟩:=h;obtain⟨t,rfl⟩:=cF;obtain⟨t',rfl⟩:=dX;exact rule i j t t' s _ _ ⟨.int<|g i j,H,I.tok _,⟨_,rfl⟩,q⟩
def afU(i j:Int):Prop:=0<j/\j<1073741824
def FY(i j:Int):Prop:=(-(2^64)<i/\i<2^64)\/(-(2^64)<j/\j<2^64)
def FY.ok{i j:Int}(h:FY i j):IntMulOk i j:=by
 rcases h with⟨af,ak⟩|⟨af,ak⟩
 ·exact .of_left<|intBits_le_64 af ak
 ·exact .of_right<|intBits_le_64 af ak
def ah0:iU X (ma .Add) (IK λi j=>.int<|i+j):=TN λ_ _ _ _ _ _ _ q=>add_int q
def ah1:iU X (ma .Sub) (IK λi j=>.int<|i-j):=TN λ_ _ _ _ _ _ _ q=>sub_int q
def ah2:iU X (ma .Mult) (Co FY λi j=>.int<|i*j):=IL λ_ _ _ _ _ _ _ aT q=>mul_int q aT.ok
def ajK:iU X (ma .FloorDiv) (Co afU λi j=>.int<|i / j):=IL λi j _ _ _ _ _ aT q=>by have af:(0:Int)<j:=aT.1;have ak:j<1073741824:=aT.2;exact floordiv_int (B8 af) (by rw[Int.fdiv_eq_ediv_of_nonneg i<|kQ af];exact q)<|.inl<|PyProof.noPylong_small Z3
def ah3:iU X (ma .Mod) (Co (λ_ j=>0<j) λi j=>.int<|i%j):=IL λi j _ _ _ _ _ aT q=>by have af:(0:Int)<j:=aT;exact mod_int' (B8 af) (by rw[Int.fmod_eq_emod_of_nonneg i<|kQ af];exact q)
def aam{g:Int->Int}
  (rule:∀(i:Int) (t:Tok) (s:aR) (Q:mt->aR->Prop) (E:mt->aR->Prop),Q (.int (g i) s.toks) { s with toks:=s.toks+1}->bl (bg X.R X.w) X.A (f (.int i t)) Q E s) :
  IJ X f (Nk λi=>.int<|g i):=by
 intro ae s O H x v Q I cF h;obtain⟨i,rfl,q⟩:=h;obtain⟨t,rfl⟩:=cF;exact rule i t s _ _ ⟨.int<|g i,H,I.tok _,⟨_,rfl⟩,q⟩
def UN:IJ X (unaryOp .USub) (Nk λi=>.int<|-i):=aam λ_ _ _ _ _ q=>neg_int q
def agN(t:TE):TT:=λO H Q=>t O H λx aj=>∃k,x=.aC k/\Q k aj
def IM(r b5:dj)(ta tb nJ:TE):TE:=λO H Q=>ta O H λx H1=>tb O H1 λy bV=>r x y bV λz ef=>∃k,z=.aC k /\
 (if k=Y0 then nJ O ef λfT p1=>b5 y fT p1 Q else Q (.aC Y1) ef)
def alE(aZ:iU X (hq op) r)(kq:iU X (hq op') b5)(ba:d7 X a ta)(aq:d7 X b tb)(aT:d7 X c nJ)
  (hm:autoParam (lastMarks [op,op'] [b,c]=Y1) az5._auto_1):d7 X (.Compare a [op,op'] [b,c] pos)<|IM r b5 ta tb nJ:=by
 intro ae s O H Q I h
 refine Compare_chain (b2 (ba ae s O H _ I h) λv s1 ⟨x,H1,bf,bA,aX⟩=>chain_link (b2 (aq ae s1 O H1 _ bf aX) λu s2 ⟨y,bV,cS,cp,bb⟩ =>
  b2 (aZ ae s2 O bV x y v u _ cS bA cp bb) λd s3 ⟨z,ef,fU,hF,k,e,cK⟩=>?_)) hm
 subst e
 exists hF
 refine qX ?_;cases k with
 |false=>exact ite_ff ⟨.aC Y1,ef,fU,rfl,cK⟩
 |true=>exact ite_tt<|chain_last (b2 (aT ae s3 O ef _ fU cK) λfT s4 ⟨kT,p1,hb,p2,fW⟩=>kq ae s4 O p1 y kT u fT Q hb cp p2 fW)
def alF(aZ:iU X (hq op) r)(kq:iU X (hq op') b5)(ba:d7 X a ta)(aq:d7 X b tb)(aT:d7 X c nJ)
  (hm:autoParam (lastMarks [op,op'] [b,c]=Y1) az5._auto_1):nH X (.Compare a [op,op'] [b,c] pos)<|agN<|IM r b5 ta tb nJ:=by
 intro ae s O H Q I h
 refine isTrue_chain (b2 (ba ae s O H _ I h) λv s1 ⟨x,H1,bf,bA,aX⟩=>test_link (b2 (aq ae s1 O H1 _ bf aX) λu s2 ⟨y,bV,cS,cp,bb⟩ =>
  b2 (aZ ae s2 O bV x y v u _ cS bA cp bb) λd s3 ⟨z,ef,fU,hF,k,e,cK⟩=>?_)) hm
 subst e
 exists hF
 refine qX ?_;cases k with
 |false =>
  obtain⟨fI,bN,eN⟩:=cK
  exists bN
  exact ite_ff ⟨ef,fU,eN⟩
 |true =>
  refine ite_tt<|test_last (b2 (aT ae s3 O ef _ fU cK) λfT s4 ⟨kT,p1,hb,p2,fW⟩=>b2 (kq ae s4 O p1 y kT u fT _ hb cp p2 fW) λd' s5 ⟨dE,jv,wI,y0,k2,au,hV⟩=>?_);subst au
  exists y0
  exact qX ⟨jv,wI,hV⟩
def TO(K:W.Frag)(x:V)(H:aJ)(k:Bool):Prop :=
 match x with
 |.br=>k=Y1
 |.aC b=>k=b
 |.int i=>k=(i != 0)
 |.str y=>y.H<=dg/\k=((y.H:Int) != 0)
 |.sQ y=>y.O<=dg/\k=((y.O:Int) != 0)
 |.ref p=>(∃xs,gw K H p xs/\k=!xs.isEmpty)\/(∃xs,e6 K H p xs/\k=!xs.isEmpty)\/∃ay,H p=J (.aw ay)/\k=!ay.isEmpty
 |_=>False
def aan{κ:Type}{ay:List<|κ×V}{ah:List<|κ×mt}(r:fq ay ah):(!ah.isEmpty)=!ay.isEmpty:=by
 exists r<;>rfl
def OC(r:cG xs a5):(!a5.Q.isEmpty)=!xs.isEmpty:=by
 exists r<;>simp
def zO:(dg:Nat)<2^63:=by rw[mK];decide
def ah4:afT X (λx H Q=>∃k,TO X.K x H k/\Q k H):=by
 intro ae s O H x v Q I cF h;obtain⟨k,e,q⟩:=h;have aB:=zO;have aP:dg=16777216:=mK;cases x with
 |br =>
  exists cF
  have bN:k=Y1:=e;subst bN;exact truthy_none ⟨H,I,q⟩
 |aC b =>
  exists cF
  have bN:k=b:=e;subst bN;exact qX ⟨H,I,q⟩
 |int i =>
  obtain⟨t,rfl⟩:=cF;have bN:k=(i != 0):=e;subst bN;exact PySem.P.truthy_int ⟨H,I,q⟩
 |str y =>
  obtain⟨t,rfl⟩:=cF;obtain⟨aK,bN⟩:y.H<=dg/\k=((y.H:Int) != 0):=e;subst bN;exact PySem.P.truthy_str Z3 ⟨H,I.tok _,q⟩
 |sQ y =>
  obtain⟨t,rfl⟩:=cF;obtain⟨aK,bN⟩:y.O<=dg/\k=((y.O:Int) != 0):=e;subst bN;exact W.truthy_bytes Z3 ⟨H,I.tok _,q⟩
 |ref p =>
  exists cF
  have bN:(∃xs,gw X.K H p xs/\k=!xs.isEmpty)\/(∃xs,e6 X.K H p xs/\k=!xs.isEmpty)\/∃ay,H p=J (.aw ay)/\k=!ay.isEmpty:=e;rcases bN with⟨xs,av,bN⟩|⟨xs,av,bN⟩|⟨ay,av,bN⟩
  ·subst bN;obtain⟨a5,r,cQ,hz⟩:=I.list av;have ej:=r.H;exact wpAny_truthy_list cQ.isList (by simp only[eU];lia) ⟨H,I.tok _,by rw[OC r];exact q⟩
  ·subst bN;obtain⟨a5,r,cQ,hz⟩:=I.tuple av;have ej:=r.H;exact truthy_tuple cQ (by simp only[eU];lia) ⟨H,I.tok _,by rw[OC r];exact q⟩
  ·subst bN;obtain⟨hz,fw,ah,r,m⟩:ay.H<=dg/\(p==qY)=Y1/\∃ah,fq ay ah/\s.heap.DictOf (hI X.R X.w) p ah:=I.b1 p _ av;have ej:ay.H=ah.H:=Paired.length r;exact wpAny_truthy_dict fw m Z3 ⟨H,I.tok _,by rw[aan r];exact q⟩
 |_=>exact(show False from e).elim
def vals1(r:cG [x] us):∃u,us=[u]/\cW x u:=by
 cases r with
 |cons bA cp=>exists cp;exact⟨_,rfl,bA⟩
def vals2(r:cG [x,y] us):∃u fT,us=[u,fT]/\cW x u/\cW y fT:=by
 cases r with
 |cons bA cp =>
  cases cp with
  |cons hF p2=>exists p2;exact⟨_,_,rfl,bA,hF⟩
def aao(aT:X.calm=Y0):zN X (.builtin "min") (λxs H Q=>∃i j,xs=[.int i,.int j]/\Q (.int (if j<i then j else i)) H):=by
 intro ae s O H xs us Q I r h;obtain⟨i,j,rfl,q⟩:=h;obtain⟨u,fT,rfl,⟨t,rfl⟩,⟨t',rfl⟩⟩:=vals2 r;refine min_two_ints (I.ok.hd aT) λh' bx k=>⟨_,H,I.kept k,?_,q⟩
 by_cases bU:j<i
 ·rw[Y2 bU,Y2 bU];exact⟨_,rfl⟩
 ·rw[Y3 bU,Y3 bU];exact⟨_,rfl⟩
def aap:zN X (.type "str") (λxs H Q=>∃i,xs=[.int i]/\i.natAbs.log2<1920/\Q (.str<|toString i) H):=by intro ae s O H xs us Q I r h;obtain⟨i,rfl,hz,q⟩:=h;obtain⟨u,rfl,t,rfl⟩:=vals1 r;exact PySem.P.str_of_int hz ⟨.str _,H,I.tok _,⟨_,rfl⟩,q⟩
def afV(K:W.Frag)(x:V)(H:aJ)(n:Nat):Prop :=
 match x with
 |.str y=>y.H<=dg/\n=y.H
 |.sQ y=>y.O<=dg/\n=y.O
 |.ref p=>(∃xs,gw K H p xs/\n=xs.H)\/∃xs,e6 K H p xs/\n=xs.H
 |_=>False
def IP:zN X (.builtin "len") (λxs H Q=>∃x n,xs=[x]/\afV X.K x H n/\Q (.int n) H):=by
 intro ae s O H xs us Q I r h;obtain⟨x,n,rfl,e,q⟩:=h;obtain⟨u,rfl,cF⟩:=vals1 r;have aB:=zO;have aP:dg=16777216:=mK;cases x with
 |str y =>
  obtain⟨t,rfl⟩:=cF;obtain⟨aK,bN⟩:y.H<=dg/\n=y.H:=e;subst bN;exact len_str Z3 ⟨.int _,H,I.tok _,⟨_,rfl⟩,q⟩
 |sQ y =>
  obtain⟨t,rfl⟩:=cF;obtain⟨aK,bN⟩:y.O<=dg/\n=y.O:=e;subst bN;exact W.len_bytes Z3 ⟨.int _,H,I.tok _,⟨_,rfl⟩,q⟩
 |ref p =>
  exists cF
  have bN:(∃xs,gw X.K H p xs/\n=xs.H)\/∃xs,e6 X.K H p xs/\n=xs.H:=e;rcases bN with⟨xs,av,bN⟩|⟨xs,av,bN⟩
  ·subst bN;obtain⟨a5,b5,cQ,hz⟩:=I.list av;have ej:=b5.H;exact Calls.call_len_list cQ.isList (by simp only[eU];lia) ⟨.int xs.H,H,I.tok _,⟨_,by simp only[eU];rw[ej]⟩,q⟩
  ·subst bN;obtain⟨a5,b5,cQ,hz⟩:=I.tuple av;have ej:=b5.H;exact len_tuple cQ (by simp only[eU];lia) ⟨.int xs.H,H,I.tok _,⟨_,by simp only[eU];rw[ej]⟩,q⟩
 |_=>exact(show False from e).elim
end
structure TP (h:Heap) (x oQ aN:Addr) (y2:Str->Option mt):Prop where
 obj:h.get? x=J (W.instObj aN oQ)
 ns:h.Ns1 oQ y2
 ne:oQ≠x
def aaq{h:Heap}(n:h.Ns1 oQ y2):∃hs,h.get? oQ=J hs/\∀name,W.lookIn name hs=J (y2 name):=by
 obtain⟨o,es,ep,aZ,hd,aW,_,hm⟩:=n;refine⟨o,aZ,λname=>?_⟩;have e:=hm name;unfold nsFind findBy at e;rw[<-Array.find?_toList]at e;unfold W.lookIn;rw[hd];dsimp only;split
 ·rename_i y q;rw[q]at e;exact congrArg J e
 ·rename_i q;rw[q]at e;have a:es.toList.any (·.refKey)=Y1:=by rw[MM];intro y aK;obtain⟨z,t,lX⟩:=aW y<|Array.mem_toList_iff.mp aK;simp[DictEntry.refKey,lX]
  have gK:¬es.toList.any (·.refKey)=Y0:=by rw[a];exact nz
  rw[Y3 gK];exact congrArg J e
def TP.look(I:TP h x oQ aN y2):∃hs,W.InstAt h x (W.instObj aN oQ) aN (J hs)/\∀name,W.lookIn name hs=J (y2 name) :=
 let ⟨hs,aZ,aB⟩:=aaq I.ns
 ⟨hs,⟨I.obj,rfl,rfl,aZ⟩,aB⟩
def ya.some_of(r:ya (J v) o):∃u,o=J u/\cW v u:=by
 cases o with
 |none=>exact(show False from r).elim
 |some u=>exact⟨u,rfl,r⟩
structure OE (K:W.Frag) (aN:Addr):Prop where
 VN:W.plainGet K aN Str.empty=Y0
 hd:W.hasDictIn K aN=Y0
 po:W.plainOver K aN=Y0
 a0:W.findIn K ZI "__setattr__" = J (J<|.builtin "object.__setattr__")
def OE.get{K:W.Frag}{aN:Addr}(c:OE K aN)(f:Str):W.plainGet K aN f=Y0:=c.VN
section
variable {X:bI}{ae:List Z1}{O:St}{H:aJ}{s:aR}{A:dI}{E:mt->aR->Prop}{Q:mt->aR->Prop}{c:mt}{b:Bool}
inductive qL (K:W.Frag) (H:aJ):V->mt->Prop where
 |br:qL K H .br<|.type "NoneType"
 |aC (x:Bool):qL K H (.aC x)<|.type "bool"
 |int (i:Int):qL K H (.int i)<|.type "int"
 |str (x:Str):qL K H (.str x)<|.type "str"
 |uT (x:UInt64):qL K H (.uT x)<|.type "float"
 |ao {a:Addr} {xs:List V} (e:H a=J (.ao xs)):qL K H ZN<|.type "list"
 |eo {a:Addr} {o:Obj} {xs:List V} (e:H a=J (.eo o<|.ao xs)):qL K H ZN<|.type "list"
 |aD {a:Addr} {xs:List V} (e:H a=J (.aD xs)):qL K H ZN<|.type "tuple"
 |aw {a:Addr} {ay:List ZW} (e:H a=J (.aw ay)):qL K H ZN<|.type "dict"
def zP(I:aS X ae O H s)(cF:cW x u)(ty:qL X.K H x t)(e:W.kitOne X.K t c=J b)(h:∀bx,Q (.bool b) { s with toks:=bx}) :
  bl Z2 A (call (.builtin "isinstance") [u,c]) Q E s:=by
 cases ty with
 |br=>cases (show u=Value.none from cF);exact W.kia_one W.kitx_none I.hK True.intro e (λz=>nomatch z) h
 |aC y=>cases (show u=Value.bool y from cF);exact W.kia_one W.kitx_bool I.hK True.intro e (λz=>nomatch z) h
 |int i=>obtain⟨t,q⟩:=(show ∃t,u=Value.int i t from cF);exists q;exact W.kia_one W.kitx_int I.hK True.intro e (λz=>nomatch z) h
 |str y=>obtain⟨t,q⟩:=(show ∃t,u=Value.str y t from cF);exists q;exact W.kia_one W.kitx_str I.hK True.intro e (λz=>nomatch z) h
 |uT y=>obtain⟨t,q⟩:=(show ∃t,u=Value.float y t from cF);exists q;exact W.kia_one W.kitx_float I.hK True.intro e (λz=>nomatch z) h
 |@ao a xs cu =>
  cases (show u=Value.ref a from cF);obtain⟨_,_,n,_,af⟩:=(show gP X.R X.w H s.D a (.ao xs) from I.b1 a _ cu)
  exact W.kia_one W.kitx_list I.hK ⟨_,af,rfl⟩ e (λz=>nomatch z) h
 |@eo a bJ xs cu =>
  cases (show u=Value.ref a from cF);obtain⟨_,_,_,n,_,af⟩:=(show gP X.R X.w H s.D a (.eo bJ<|.ao xs) from I.b1 a _ cu)
  exact W.kia_one W.kitx_list I.hK ⟨_,af,rfl⟩ e (λz=>nomatch z) h
 |@aD a xs cu =>
  cases (show u=Value.ref a from cF);obtain⟨_,_,_,p⟩:=(show gP X.R X.w H s.D a (.aD xs) from I.b1 a _ cu)
  obtain⟨o,af,ak,_⟩:=p;exact W.kia_one W.kitx_tuple I.hK ⟨o,af,ak⟩ e (λz=>nomatch z) h
 |@aw a ay cu =>
  cases (show u=Value.ref a from cF);obtain⟨_,_,ah,_,p⟩:=(show gP X.R X.w H s.D a (.aw ay) from I.b1 a _ cu)
  obtain⟨o,es,ep,af,ak,_⟩:=p;exact W.kia_one W.kitx_dict I.hK ⟨o,af,ak.1⟩ e (λz=>nomatch z) h
end
structure eD (k:Nat) (A:dI):Prop where
 hd:A.handled=C
 q2:A.depth+3*k+5<Hq
 un:A.units+16*k+200<iu
def eD.mono{j k:Nat}(r:eD k A)(h:j<=k):eD j A:=⟨r.hd,by have:=r.q2;lia,by have:=r.un;lia⟩
theorem eD.deeper{k:Nat}(r:eD (k+1) A)(env:Env):eD k (A.deeper env) :=
 ⟨r.hd,by have:=r.q2;show A.depth+1+3*k+5<_;lia,by have:=r.un;show A.units+3+16*k+200<_;lia⟩
theorem eD.depth{k:Nat}(r:eD k A):A.depth<Hq:=by have:=r.q2;lia
def eD.Gx{k:Nat}(r:eD k A):A.units<iu:=by have:=r.un;lia
def afW:kU:=λ_ H Q=>Q [] H
def agO(ta:TE)(p3:kU):kU:=λO H Q=>ta O H λx H1=>p3 O H1 λxs bV=>Q (x::xs) bV
section
variable {X:bI}{e:Expr}{es:List Expr}{te:TE}{t:kU}{pos:Pos}
def zQ:nI X [] afW:=λ_ _ _ _ H Q I h=>l6 ⟨[],H,I,.nil,h⟩
def ajL(ba:d7 X e te)(aU:nI X es t)(aP:autoParam ZP bu):nI X (e::es)<|agO te t:=by intro pos ae s O H Q I h;rw[aP];show bl _ _ (so<|ZG::ff pos Zm) _ _ s;refine ia (b2 (ba ae s O H _ I h) λu s1 ⟨x,H1,bf,bA,aX⟩=>?_);exact b2 (aU pos ae s1 O H1 _ bf aX) λus s2 ⟨xs,bV,cS,cp,bb⟩=>⟨x::xs,bV,cS,.cons bA cp,bb⟩
def afX(t:kU):TE:=λO H Q=>t O H λxs H1=>xs.H<=dg/\∀p,H1 p=C->Q (.ref p) (c4 H1 p<|.aD xs)
def afY(t:kU):TE:=λO H Q=>t O H λxs H1=>xs.H<=dg/\∀p,H1 p=C->Q (.ref p) (c4 H1 p<|.ao xs)
def UO{bH}(h:nI X es t):d7 X (.Tuple es bH pos)<|afX t:=by intro ae s O H Q I a7;refine wpAny_Tuple_spliced (b2 (h pos ae s O H _ I a7) λus s1 ⟨xs,H1,bf,r,z,q⟩=>⟨by rw[<-r.H];exact z,?_⟩);have hf:H1 s1.L=C:=bf.b1.fresh<|cg _;refine⟨.ref s1.L,c4 H1 s1.L<|.aD xs,bf.laid (t':=s1.toks) (λb u e=>ed _ e) (cg _) ?_,rfl,q _ hf⟩;exact⟨z,us,r,⟨_,gC _ rfl,rfl,rfl,_,rfl⟩⟩
def IQ(h:nI X es t):d7 X (.List es pos)<|afY t:=by intro ae s O H Q I a7;refine wpAny_List_spliced (b2 (h pos ae s O H _ I a7) λus s1 ⟨xs,H1,bf,r,z,q⟩=>⟨by rw[<-r.H];exact z,?_⟩);have hf:H1 s1.L=C:=bf.b1.fresh<|cg _;refine⟨.ref s1.L,c4 H1 s1.L<|.ao xs,bf.laid (t':=s1.toks) (λb u e=>ed _ e) (cg _) ?_,rfl,q _ hf⟩;exact⟨z,us,0,r,gC _ rfl⟩
end
abbrev kX:=List V->aJ->fg->iv->Prop
abbrev o5:=List Env->aJ->aR->iv->mt->aR->Prop
structure yc (P:dx) (w:c3) (K:W.Frag) (a3:Str->Option mt) (base:Heap) (A:dI) (cj:List Env) (s:aR) (H:aJ):Prop where
 frames:A.frames=J cj
 mod:Mod K a3 base
 bs:∀b o,base.get? b=J o->s.heap.get? b=J o/\H b=C
 mW:base.E.O<=s.L
 kF:s.heap.FunFrames base cj
 o3:∀b∈hc cj,H b=C
 b1:gk P w H s.D
 ft:oJ s.gens
def HA(cj:List Env)(P:dx)(w:c3)(H:aJ)(s:aR)(Q:fg)(u:mt)(s':aR):Prop :=
 ∃v aj,s'.os=s.os/\oJ s'.gens/\gf (hc cj) [] H aj s.D s'.D/\gk P w aj s'.D/\cW v u/\Q v aj
def Nl(CX:o5)(cj:List Env)(P:dx)(w:c3)(H:aJ)(s:aR)(Q:fg)(E:iv)(r:sr)(s':aR):Prop :=
 match r with
 |.ok (.ret u)=>HA cj P w H s Q u s'
 |.ok _=>False
 |.error e=>CX cj H s E e s'
structure i2 (P:dx) (w:c3) (K:W.Frag) (a3:Str->Option mt) (base:Heap) (CX:o5) (k:Nat) (f:Addr) (fd:hC) (ps:List Str) (sp:kX):Prop where
 len:∀ah H Q E,sp ah H Q E->ah.H=ps.H
 run:∀(A:dI) (cj:List Env) (s:aR) (H:aJ) (args:Args) (us:List mt) (ah:List V) (Q:fg) (E:iv),eD k A->yc P w K a3 base A cj s H->uk s fd args (ps.zip us)->cG ah us->sp ah H Q E ->
  kk (bg P w) A (.call (.ref f) args) (Nl CX cj P w H s Q E) s
section
variable {X:bI}{ae:List Z1}{O:St}{H:aJ}{s s':aR}
def aS.LV(I:aS X ae O H s):yc X.R X.w X.K X.a3 X.V X.A X.stack s H :=
 ⟨I.ok.frames,I.ok.mod,I.bs,bP I.ok.mW I.wG,I.stack,I.GA,I.b1,I.ft⟩
def aS.after(I:aS X ae O H s)(h:HA X.stack X.R X.w H s Q u s'):f6 X ae O Q u s':=by obtain⟨v,aj,os,ft,un,b1,r,q⟩:=h;obtain⟨bp,g,d,t,aar⟩:=s';obtain rfl:aar=s.os:=os;exact⟨v,aj,I.call (h':=bp) (g':=g) (d':=d) (t':=t) (ch:=[]) un b1 ft λb z=>absurd z Z7,r,q⟩
end
def agP(sp:kX)(sW:List V)(E:iv)(t:kU):TE:=λO H Q=>t O H λah H1=>sp (ah++sW) H1 Q E
def Binds(K:W.Frag)(fd:hC)(ps:List Str)(ds:List mt):Prop :=
 ∀(s:aR) (us:List mt),K.In s.D->(us++ds).H=ps.H->uk s fd ⟨us,[]⟩ (ps.zip<|us++ds)
def Binds.all{K:W.Frag}{fd:hC}{ps:List Str}(h:∀us:List mt,us.H=ps.H->sl fd ⟨us,[]⟩=pure (ps.zip us)):Binds K fd ps []:=λs us _ aB=>by rw[r7]at aB |-;exact .of_eq<|h us aB
def IS(CX:o5)(X:bI)(E:iv):Prop:=∀(ae:List Z1) (O:St) (H:aJ) (s:aR) (e:mt) (s':aR),aS X ae O H s->CX X.stack H s E e s'->X.cv e s'
section
variable {X:bI}{CX:o5}{k:Nat}{f aN:Addr}{fd:hC}{ps:List Str}{sp:kX}{sW:List V}{ds:List mt}{E:iv}{x m:Str}{p pos apos:Pos}{e o:Expr}{es:List Expr}{ta:TE}{t:kU}
def UP{ae:List Z1}{O:St}{H:aJ}{s:aR}{Q:fg}{us:List mt}{ah:List V}(F:i2 X.R X.w X.K X.a3 X.V CX k f fd ps sp)(aU:eD k X.A)(aq:Binds X.K fd ps ds)(hd:cG sW ds)(av:IS CX X E)
  (I:aS X ae O H s) (r:cG ah us) (h:sp (ah++sW) H Q E):bl Z2 X.A (call (.ref f) us) Zl X.cv s:=by
 have cp:cG (ah++sW)<|us++ds:=r.append hd;have aB:(us++ds).H=ps.H:=by rw[<-cp.H];exact F.len _ _ _ _ h
 refine ui (si (F.run X.A X.stack s H ⟨us,[]⟩ (us++ds) (ah++sW) Q E aU I.LV (aq s us I.hK aB) cp h) λr s' a7=>?_);cases r with
 |error e=>exact av ae O H s e s' I a7
 |ok bG =>
  cases bG with
  |ret u=>exact I.after a7
  |next=>exact False.elim a7
  |brk=>exact False.elim a7
  |cont=>exact False.elim a7
def ajM(F:i2 X.R X.w X.K X.a3 X.V CX k f fd ps sp)(aU:eD k X.A)(bT:fv X x)(hm:X.a3 x=J (.ref f))(aW:W.keepIn X.K (.ref f)=Y0)(aq:Binds X.K fd ps ds)(hd:cG sW ds)(av:IS CX X E)
  (ba:nI X (e::es) t) (fQ:autoParam ZH eM) (he:autoParam ZP bu) (eS:autoParam ((ff pos Zm).any (·.1)=Y1) bu) :
  d7 X Zn (agP sp sW E t):=by
 intro ae s O H Q I h;refine l7<|uV I bT hm ?_ fQ;refine W.callWith_K (h₀:=X.V) I.ok.mod.fl aW (b2 (ba pos ae s O H _ I h) λus s1 ⟨ah,H1,bf,r,q⟩=>⟨bf.hK,?_⟩) he eS;exact UP F aU aq hd av bf r q
structure ans (K:W.Frag) (aN f:Addr):Prop where
 makes:W.makesIn K aN=Y0
 init:W.findIn K ZI "__init__" = J (J<|.ref f)
 fn:W.isFn K (.ref f)=Y0
 b8:W.keepIn K ZI=Y0
end
structure mG (N P:List Str) (sc:js):Prop where
 kind:sc.kind=.function
 co:sc.isCoroutine=Y1
 gen:sc.isGenerator=Y1
 bW:N.Nodup
 pre:N.take P.H=P
 par:∀x∈P,sc.names.lookup x=J .local\/sc.names.lookup x=J .cell
 ah5:∀y∈sc.e,y.2≠.free
theorem OF{hl:Str->Option sm}:∀{binds:List (Str×mt)} {m:Str->Option mt},(∀v,(x,v)∉binds)->bindL hl binds m x=m x
 |[],_,_=>rfl
 |(n,v)::r,m,h=>by
  unfold bindL;rw[OF λw hw=>h w<|am _ hw];split
  ·have:x≠n:=by rintro rfl;exact h v dT
   simp[this]
  ·rfl
theorem OG{hl:Str->Option sm}:∀{binds:List (Str×mt)} {m:Str->Option mt},(∀v,(x,v)∉binds)->bindC hl binds m x=m x
 |[],_,_=>rfl
 |(n,v)::r,m,h=>by
  unfold bindC;rw[OG λw hw=>h w<|am _ hw];split
  ·rfl
  ·have:x≠n:=by rintro rfl;exact h v dT
   simp[this]
theorem OH{hl:Str->Option sm}:∀{P:List Str} {ah:List mt} {i:Nat} {m:Str->Option mt},P.Nodup->P[i]?=J x->ah[i]?=J v->hl x=J .local ->
  bindL hl (P.zip ah) m x=J v
 |[],_,_,_,_,h,_,_=>by simp at h
 |_::_,[],_,_,_,_,h,_=>by simp at h
 |p::P,w::ah,0,m,bW,af,ak,aW=>by simp at af ak;subst af;subst ak;show bindL hl ((p,w)::P.zip ah) m p=_;unfold bindL;rw[OF λv bS=>(nt.mp bW).1 (BS bS).1,Y2 aW];simp
 |p::P,w::ah,i+1,m,bW,af,ak,aW=>by show bindL hl ((p,w)::P.zip ah) m x=_;unfold bindL;exact OH (i:=i) (nt.mp bW).2 (by simpa using af) (by simpa using ak) aW
theorem OI{hl:Str->Option sm}:∀{P:List Str} {ah:List mt} {i:Nat} {m:Str->Option mt},P.Nodup->P[i]?=J x->ah[i]?=J v->hl x≠J .local ->
  bindC hl (P.zip ah) m x=J v
 |[],_,_,_,_,h,_,_=>by simp at h
 |_::_,[],_,_,_,_,h,_=>by simp at h
 |p::P,w::ah,0,m,bW,af,ak,aW=>by simp at af ak;subst af;subst ak;show bindC hl ((p,w)::P.zip ah) m p=_;unfold bindC;rw[OG λv bS=>(nt.mp bW).1 (BS bS).1,Y3 aW];simp
 |p::P,w::ah,i+1,m,bW,af,ak,aW=>by show bindC hl ((p,w)::P.zip ah) m x=_;unfold bindC;exact OI (i:=i) (nt.mp bW).2 (by simpa using af) (by simpa using ak) aW
noncomputable def start(N:List Str)(ah:List V):St:=ah.map J++List.replicate (N.H-ah.H) C
noncomputable def jP(CX:o5)(P:dx)(w:c3)(K:W.Frag)(a3:Str->Option mt)(base:Heap)(N:List Str)(qual:Str)(scope:js)(f:Addr)(cd:mt)(A:dI)(cj:List Env)(s:aR)(H:aJ)(E:iv):bI where
 prog:=P
 w:=w
 K:=K
 a3:=a3
 base:=base
 A:=A.deeper<|i5 qual scope s.L f cd
 N:=N
 cD:=s
 dJ:=H
 env:=i5 qual scope s.L f cd
 cj:=cj
 stack:=i5 qual scope s.L f cd::cj
 ex:=[]
 calm:=Y0
 fn:=λ_=>Y0
 gD:=[]
 cv:=λe s'=>bl (bg P w) (A.deeper<|i5 qual scope s.L f cd) (leaving (i5 qual scope s.L f cd) e) (λ_ lb=>CX cj H s E e lb) (λbN lb=>CX cj H s E bN lb) s'
def OJ{sc:js}{n:Nat}(h:sc.names.lookup x=J .cell):∃c,(cellsFrom n sc.e []).lookup x=J c:=by have q:=W.cellsFrom_some sc.e n []<|.inl h;exact yI.mp q
def OK{CX:o5}{P:dx}{w:c3}{K:W.Frag}{a3:Str->Option mt}{base:Heap}{N ps:List Str}{qual:Str}{scope:js}{f:Addr}{cd:mt}{A:dI}{cj:List Env}{s s1:aR}{H:aJ}{E:iv}{us:List mt}{ah:List V}
  (cc:mG N ps scope) (hd:A.handled=C) (dF:yc P w K a3 base A cj s H) (aB:ah.H=ps.H) (r:cG ah us)
  (x:InCallC s s.L (bindL (i5 qual scope s.L f cd).kindOf (ps.zip us) λ_=>C) (cellsFrom (s.L+1) scope.e []) (bindC (i5 qual scope s.L f cd).kindOf (ps.zip us) λ_=>C) s1) :
  aS (jP CX P w K a3 base N qual scope f cd A cj s H E) [] (start N ah) H s1:=by
 have eS:ps.H<=N.H:=by have:=congrArg List.H cc.pre;rw[jU]at this;exact bP (d2 this.symm)<|B0 _ _
 obtain⟨af,bx,rfl,aW⟩:=x.done;have zR:∀b:Addr,b∉(jP CX P w K a3 base N qual scope f cd A cj s H E).ex:=λb z=>absurd (show b∈([]:List Addr) from z) Z7
 refine⟨⟨dF.mod,cc.kind,rfl,rfl,cg _,λy z c af ak=>?_,λy aK=>?_,λy c _ h=>?_,λ_=>hd,Around.frames_deeper dF.frames,.inr ⟨rfl,rfl⟩,λb z=>absurd z<|zR b,dF.bs,dF.mW,λb _ _=>zR b,λb z=>absurd z<|zR b,dF.kF,dF.o3⟩,
  rfl,dF.ft,gf.kept aW,⟨_,x.toInCall.ns,λi y v af ak bc=>?_⟩,λy c h=>⟨_,x.cell y c h⟩,dF.b1.fresh<|cg _,λy c h=>?_,λp aF=>absurd (show p∈([]:List Z1) from aF) Z7,dF.b1.kept aW,?_⟩
 ·exact name_of_addr x.apart (PySem.mem_of_lookup af)<|PySem.mem_of_lookup ak
 ·have aK:scope.names.lookup y=J .cell\/scope.names.lookup y=J .free:=aK;rcases aK with aK|aK
  ·exact OJ aK
  ·exact absurd rfl<|cc.ah5 _<|PySem.mem_of_lookup aK
 ·exact eA<|x.above y c<|PySem.mem_of_lookup h
 ·have hi:i<ah.H:=by
   unfold start at ak;by_cases hi:i<ah.H
   ·exact hi
   ·rw[BM<|by simpa using hi]at ak;rw[BP]at ak;split at ak<;>exists ak
  have ba:ah[i]?=J v:=by
   unfold start at ak;rw[yn (by simpa using hi),kg]at ak;cases e:ah[i]? with
   |none=>rw[e]at ak;exists ak
   |some a=>rw[e]at ak;cases ak;rfl
  obtain⟨u,b7,bq⟩:=r.get ba;have aF:ps[i]?=J y:=by rw[<-cc.pre,My<|d5 hi<|d2 aB];exact af
  have OL:ps.Nodup:=by rw[<-cc.pre];exact cc.bW.sublist<|ys _ _
  refine⟨u,bq,?_⟩;rcases cc.par y (MD aF) with k|k
  ·exact .inl ⟨k,OH OL aF b7 k⟩
  ·obtain⟨c,e⟩:=OJ (n:=s.L+1) k;refine .inr ⟨.inl k,c,e,?_⟩;have q:=x.cell y c e;rw[OI OL aF b7<|by show scope.names.lookup y≠_;rw[k];decide]at q;exact q
 ·exact dF.b1.fresh<|eA<|x.above y c<|PySem.mem_of_lookup h
 ·unfold start;show _=N.H;rw[gr,cP,ow];exact nv<|bP (d2 aB) eS
def Uk{CX:o5}{P:dx}{w:c3}{K:W.Frag}{a3:Str->Option mt}{base:Heap}{k:Nat}{f:Addr}{name qual:Str}{params:Arguments}{body:List Stmt}{scope:js}{wK eB doc pm c8 eE ju:mt}{an hs:Option Addr}
  {ql:Array<|Option mt} {N ps:List Str} {sp:kX} (fN:K.lookup f=J ⟨ju,hs,.func<|W.fnOf name qual params body scope wK eB doc pm an c8 eE,ql⟩) (g4:W.codeIn K c8 qual=Y0) (cc:mG N ps scope)
  (len:∀ah H Q E,sp ah H Q E->ah.H=ps.H)
  (kL:∀(A:dI) (cj:List Env) (s:aR) (H:aJ) (ah:List V) (Q:fg) (E:iv),eD k (A.deeper<|i5 qual scope s.L f c8)->sp ah H Q E ->
   ∃t,kr (jP CX P w K a3 base N qual scope f c8 A cj s H E) body t/\t { bD:=λ_ aj=>Q .br aj,aV:=Q} (start N ah) H) :
  i2 P w K a3 base CX (k+1) f (W.fnOf name qual params body scope wK eB doc pm an c8 eE) ps sp:=by
 refine⟨len,λA cj s H args us ah Q E aU dF aq r lg=>?_⟩;have aB:=len _ _ _ _ lg;have lI:K.In s.D:=dF.mod.fl.keeps λb o e=>(dF.bs b o e).1;have lim:s.D.NoLimit:=dF.mod.nolimit.keeps λb o e=>(dF.bs b o e).1;have agQ:∀y∈ps.zip us,scope.names.lookup y.1=J .local\/(scope.names.lookup y.1=J .cell/\((cellsFrom (s.L+1) scope.e []).lookup y.1).isSome=Y0):=λ⟨n,v⟩ aK=>by
  rcases cc.par n (BS aK).1 with q|q
  ·exact .inl q
  ·exact .inr ⟨q,W.cellsFrom_some _ _ _<|.inl q⟩
 refine codeAny_call_function aU.depth (lI _ _ fN) rfl cc.co cc.gen rfl (W.codeRec_of lI g4)<|aq _ _ _ _ ?_;refine Nd cc.kind agQ λenv he s1 x=>?_;subst he;refine⟨lim.keeps x.toInCall.keep,codeAny_func ?_⟩;obtain⟨t,cA,a7⟩:=kL A cj s H ah Q E (aU.deeper _) lg;have I:aS (jP CX P w K a3 base N qual scope f c8 A cj s H E) [] (start N ah) H s1:=OK cc aU.hd dF aB r x;refine hk (cA [] s1 (start N ah) H _ I a7) (λbG s' aP=>?_) λe s' aP=>aP;have fin:∀{U':St} {aj:aJ} {v:V} {u:mt},aS (jP CX P w K a3 base N qual scope f c8 A cj s H E) [] U' aj s'->cW v u->Q v aj->HA cj P w H s Q u s' :=
  λ{U' aj v u} cO bq q=>⟨v,aj,cO.os,cO.ft,cO.V,cO.b1,bq,q⟩
 cases bG with
 |ret u =>
  obtain⟨v,U',aj,cO,bq,q⟩:=aP;exact fin cO bq q
 |next =>
  obtain⟨U',aj,cO,q⟩:=aP;exact fin (v:=V.br) (u:=Value.none) cO rfl q
 |brk =>
  obtain⟨_,_,_,q⟩:=aP;exact False.elim q
 |cont =>
  obtain⟨_,_,_,q⟩:=aP;exact False.elim q
end bj
namespace fE
open PySem PyProof.Rows
noncomputable def gb:List Int->List Int->Bool
 |[],[]=>Y1
 |[],_::_=>Y0
 |_::_,[]=>Y1
 |x::xs,y::aO=>if x=y then gb xs aO else decide (x<y)
section
variable {prog:dx}{w:c3}{A:dI}{E:mt->aR->Prop}{s:aR}
noncomputable def dY(n d:Nat):Option Int->Nat
 |none=>d
 |some v=>if v<0 then(v+(n:Int)).M else min v.M n
def ah6(n d:Nat)(hd:d<=n)(o:Option Int):dY n d o<=n:=by
 cases o with
 |none=>exact hd
 |some v =>
  show(if v<0 then(v+(n:Int)).M else min v.M n)<=n;by_cases bS:v<0
  ·rw[Y2 bS];lia
  ·rw[Y3 bS];exact B0 _ _
def OM(v:Int)(n d:Nat):(if v<0 then max (v+(n:Int)) 0 else min v (n:Int))=((dY n d (J v):Nat):Int):=by
 show(if v<0 then max (v+(n:Int)) 0 else min v (n:Int))=(((if v<0 then(v+(n:Int)).M else min v.M n):Nat):Int)
 by_cases bS:v<0
 ·simp only[Y2 bS];lia
 ·simp only[Y3 bS];lia
def aas(lo hi:Option Int)(n:Nat):Builtin.Slice.sliceAdjust lo hi 1 (n:Int)=(((dY n 0 lo:Nat):Int),((dY n n hi:Nat):Int)):=by
 have af:¬ ((1:Int)<0):=by decide
 unfold Builtin.Slice.sliceAdjust;simp only[af,if_false];refine Prod.ext ?_ ?_
 ·cases lo with
  |none=>rfl
  |some v=>exact OM v n 0
 ·cases hi with
  |none=>rfl
  |some v=>exact OM v n n
def aat(i j:Nat):Builtin.Slice.slicePlaces (i:Int) (j:Int) 1=j-i:=by
 unfold Builtin.Slice.slicePlaces;have af:(1:Int)>0:=by decide
 simp only[af,if_true,Int.ediv_one];split<;>lia
def BH(p:pW v o)(h:Q o s):bl Z9 A (Builtin.Slice.slicePartIndex v) Q E s:=by
 cases p with
 |none=>exact slicePart_none h
 |int i t=>exact slicePart_int h
def VI{lo hi:Option Int}{n:Nat}{Q:Int×Int×Nat->aR->Prop}(aP:s.heap.IsSliceOf cX i7 i8 .none)(cQ:pW i7 lo)(pu:pW i8 hi)
  (h:Q (((dY n 0 lo:Nat):Int),1,dY n n hi-dY n 0 lo) s):bl Z9 A (Builtin.Slice.sliceApplied (.ref cX)<|pure (n:Int)) Q E s:=by
 obtain⟨os,mY,nS,ml⟩:=id aP;unfold Builtin.Slice.sliceApplied Builtin.Slice.sliceFields;refine a8<|a8<|wB mY ml (x:=i7) rfl<|a8<|wB mY ml (x:=i8) rfl<|a8<|wB mY ml (x:=.none) rfl<|bZ ?_;refine a8<|slicePart_none ?_;show bl _ _ (if((1:Int)==0)=Y0 then _ else _) _ _ s;rw[Y3 Z0];refine a8<|BH cQ<|a8<|BH pu<|a8<|bZ ?_;show bl _ _ (match Builtin.Slice.sliceAdjust lo hi 1 (n:Int) with|(lo,hi)=>pure (lo,(1:Int),Builtin.Slice.slicePlaces lo hi 1)) _ _ s;rw[aas lo hi n];show bl _ _ (pure (((dY n 0 lo:Nat):Int),(1:Int),Builtin.Slice.slicePlaces ((dY n 0 lo:Nat):Int) ((dY n n hi:Nat):Int) 1)) _ _ s;rw[aat];exact bZ h
def alG(xs:Array mt)(i k:Nat):((List.range k).filterMap λ(m:Nat)=>xs[((i:Int)+(m:Int)*1).M]?).Q=((xs.toList.drop i).take k).Q:=by
 have e:(λ(m:Nat)=>xs[((i:Int)+(m:Int)*1).M]?)=λm=>xs[i+m]?:=by
  funext m;have:((i:Int)+(m:Int)*1).M=i+m:=by lia
  rw[this]
 rw[e];have:=pick_run xs i k;rw[MJ]at this;have au:((λx=>xs[x]?)∘λx=>i+x)=λm=>xs[i+m]?:=rfl;rw[au]at this;rw[this]
def ano{lo hi:Option Int}(cA:IsTup s.D t items)(aP:s.heap.IsSliceOf cX i7 i8 .none)(cQ:pW i7 lo)(pu:pW i8 hi)
  (hw:¬ (dY items.O 0 lo=0/\dY items.O items.O hi=items.O))
  (h:Q Zv { s with heap:=s.heap.push { cls:=.type "tuple",data:=.seq ((items.toList.drop (dY items.O 0 lo)).take (dY items.O items.O hi-dY items.O 0 lo)).Q}})
  (hsz:items.O<=dg):bl Z9 A (nE (.ref t)<|.ref cX) Q E s:=by
 have rY:sizeOk<|.seq ((items.toList.drop<|dY items.O 0 lo).take (dY items.O items.O hi-dY items.O 0 lo)).Q:=by show((items.toList.drop<|dY items.O 0 lo).take (dY items.O items.O hi-dY items.O 0 lo)).Q.O<=dg;rw[eU,jU,gc,gI];lia
 have bU:dY items.O items.O hi<=items.O:=ah6 _ _ (cg _) hi;obtain⟨os,mY,nS,ml⟩:=id aP;have zS:s.TypeIs (.ref cX) "slice":=⟨os,mY,nS⟩
 unfold nE
 try with_reducible refine jr ?_
 first|refine a8 (bZ ?_)|skip
 refine a8<|Hl cA.typeIs Z0 ?_
 refine a8 (yN (name:=Str.ofString "__getitem__") cA.typeIs PyProof.Rows.slot_tuple_getitem
  (sh PyProof.Rows.slot_tuple_getitem cA.typeIs Hu ?_<|Hv _ _))
 show bl _ _ (Builtin.Tuple.tupleItemsOf (.ref t) >>= _) _ _ s;refine a8<|Hw cA ?_;refine a8<|sj zS ?_;rw[Y2 Z0];refine a8<|VI aP cQ pu ?_;have IT:¬ ((((dY items.O 0 lo:Nat):Int)==0&&(1:Int)==1&&(dY items.O items.O hi-dY items.O 0 lo)==items.O)=Y0):=by intro q;rw[f5,f5]at q;have aX:((dY items.O 0 lo:Nat):Int)=0:=eq_of_beq q.1.1;have bb:dY items.O items.O hi-dY items.O 0 lo=items.O:=eq_of_beq q.2;exact hw ⟨by lia,by lia⟩
 show bl _ _ (if(((dY items.O 0 lo:Nat):Int)==0&&(1:Int)==1&&(dY items.O items.O hi-dY items.O 0 lo)==items.O)=Y0 then _ else _) _ _ s;rw[Y3 IT,alG]
 first
  |exact a8 (m:=Builtin.Tuple.tupleExact _)<|kR (bZ ⟨_,rfl,bZ h⟩) rY
  |exact a8 (m:=Builtin.Tuple.tupleExact _)<|kR (a8<|bZ<|bZ ⟨_,rfl,bZ h⟩) rY
  |exact a8<|a8 (m:=Builtin.Tuple.tupleExact _)<|kR (bZ<|bZ ⟨_,rfl,bZ h⟩) rY
  |exact a8<|a8 (m:=Builtin.Tuple.tupleExact _)<|kR (bZ ⟨_,rfl,bZ h⟩) rY
end
end fE
namespace bj
open PySem PySem.Spec PyProof.Rows
abbrev lJ:=St->aJ->(Option Int->aJ->Prop)->Prop
def y3(X:bI)(e:Option Expr)(t:lJ):Prop :=
 ∀(ae:List Z1) (s:aR) (O:St) (H:aJ) (Q:Option Int->aJ->Prop),aS X ae O H s->t O H Q ->
  bl Z2 X.A (evalPart e X.I) (λu s'=>∃o aj,aS X ae O aj s'/\pW u o/\Q o aj) X.cv s
def ajN:lJ:=λ_ H Q=>Q C H
def agR(t:TE):lJ:=λO H Q=>t O H λx H1=>∃i,x=.int i/\Q (J i) H1
section
variable {X:bI}{e:Expr}{te:TE}{lo hi:Option Expr}{hW Cp:lJ}{pos c7:Pos}
def ajO:y3 X C ajN:=by intro ae s O H Q I h;rw[Ht];exact bZ ⟨C,H,I,.none,h⟩
def ajP(h:d7 X e te):y3 X (J e)<|agR te:=by intro ae s O H Q I hw;rw[evalPart_some];refine b2 (h ae s O H _ I hw) λu s1 ⟨x,H1,bf,bA,aX⟩=>?_;obtain⟨i,rfl,q⟩:=aX;obtain⟨t,rfl⟩:=bA;exact⟨J i,H1,bf,.int i t,q⟩
def sX(X:bI)(r:V->Option Int->Option Int->aJ->fg->Prop):Prop :=
 ∀(ae:List Z1) (s:aR) (O:St) (H:aJ) (x:V) (v i7 i8:mt) (lo hi:Option Int) (cX:Addr) (Q:fg),aS X ae O H s->cW x v->s.heap.IsSliceOf cX i7 i8 .none->pW i7 lo->pW i8 hi->r x lo hi H Q ->
  ∃T id,typeLookup (.type T) "__getitem__" = pure (J<|.builtin id)/\s.TypeIs v T/\bl Z2 X.A (nE v<|.ref cX) Zl X.cv s
def sX.or(h:sX X r)(h':sX X b5):sX X (λx lo hi H Q=>r x lo hi H Q\/b5 x lo hi H Q):=by
 intro ae s O H x v i7 i8 lo hi cX Q I cF aP cQ pu q;rcases q with q|q
 ·exact h ae s O H x v i7 i8 lo hi cX Q I cF aP cQ pu q
 ·exact h' ae s O H x v i7 i8 lo hi cX Q I cF aP cQ pu q
def aau(r:V->Option Int->Option Int->aJ->fg->Prop)(te:TE)(hW Cp:lJ):TE:=λO H Q=>te O H λx H1=>hW O H1 λl bV=>Cp O bV λu ef=>r x l u ef Q
def alH(aU:sX X r)(he:d7 X e te)(aB:y3 X lo hW)(b7:y3 X hi Cp):d7 X (.Subscript e (.Slice lo hi C c7) pos)<|aau r te hW Cp:=by intro ae s O H Q I h;refine Cm (b2 (he ae s O H _ I h) λv s1 ⟨x,H1,bf,bA,aX⟩=>?_);refine wpAny_Slice (b2 (aB ae s1 O H1 _ bf aX) λi7 s2 ⟨l,bV,cS,cQ,bb⟩=>b2 (b7 ae s2 O bV _ cS bb) λi8 s3 ⟨u,ef,fU,pu,cK⟩=>?_);rw[Ht];refine bZ ?_;have hb:aS X ae O ef { s3 with heap:=s3.heap.push { cls:=.type "slice",data:=.fields #[i7,i8,.none]}}:=fU.kept (t':=s3.toks) λb bJ q=>ed _ q;obtain⟨T,id,gu,cA,bT⟩:=aU ae { s3 with heap:=s3.heap.push { cls:=.type "slice",data:=.fields #[i7,i8,.none]}} O ef x v i7 i8 l u s3.L Q hb bA (Heap.IsSliceOf.new ..) cQ pu cK;show bl Z2 X.A (Ck e (.Slice lo hi C c7) v<|.ref s3.L) Zl X.cv { s3 with heap:=s3.heap.push { cls:=.type "slice",data:=.fields #[i7,i8,.none]}};exact tail_any (ops:=[.ref s3.L,v]) cA gu bT (by with_unfolding_all rfl)
noncomputable def tK(xs:List V)(lo hi:Option Int):List V:=(xs.drop<|fE.dY xs.H 0 lo).take (fE.dY xs.H xs.H hi-fE.dY xs.H 0 lo)
def ON(xs:List V)(lo hi:Option Int):(tK xs lo hi).H<=xs.H:=by unfold tK;rw[jU,gc];lia
def afZ(K:W.Frag):V->Option Int->Option Int->aJ->fg->Prop:=λx lo hi H Q=>∃a xs,x=.ref a/\e6 K H a xs /\
 ¬ (fE.dY xs.H 0 lo=0/\fE.dY xs.H xs.H hi=xs.H)/\∀p,H p=C->Q (.ref p) (c4 H p<|.aD<|tK xs lo hi)
def ah7:sX X<|afZ X.K:=by
 intro ae s O H x v i7 i8 lo hi cX Q I cF aP cQ pu h;obtain⟨a,xs,rfl,av,hw,q⟩:=h
 exists cF
 obtain⟨a5,r,cA,hz⟩:=I.tuple av;have ej:a5.Q.O=xs.H:=by rw[eU];exact r.length.symm
 refine⟨"tuple",_,PyProof.Rows.slot_tuple_getitem.lookup,cA.typeIs,?_⟩;refine fE.ano cA aP cQ pu (by rw[ej];exact hw) ?_ (by rw[ej];exact hz);rw[ej];refine⟨.ref s.L,_,I.laid (t':=s.toks) (o:=.aD<|tK xs lo hi) (λb bJ q=>ed _ q) (cg _) ?_,rfl,q _<|I.b1.fresh<|cg _⟩;exact⟨bP (ON xs lo hi) hz,_,(r.drop<|fE.dY xs.H 0 lo).take (fE.dY xs.H xs.H hi-fE.dY xs.H 0 lo),mj.new _ _⟩
end
noncomputable def sY(n:Nat)(i:Int):Option Nat:=if 0<=i then(if i<n then J i.M else C) else if-(n:Int)<=i then J (i+n).M else C
noncomputable def xd{α:Type}(xs:List α)(i:Int):Option α:=(sY xs.H i).bind λj=>xs[j]?
def OO{n:Nat}{i:Int}{j:Nat}(h:sY n i=J j):seqIndex? i n=J j/\j<n /\ -(n:Int)<=i/\i<n:=by
 unfold sY at h;by_cases h0:0<=i
 ·rw[Y2 h0]at h;by_cases af:i<n
  ·rw[Y2 af]at h;have e:i.M=j:=Option.some.inj h;exact⟨by rw[seqIndex_of h0 af,e],by lia,(jq (Int.neg_nonpos_of_nonneg<|ir _) h0),af⟩
  ·rw[Y3 af]at h;exists h
 ·rw[Y3 h0]at h;by_cases af:-(n:Int)<=i
  ·rw[Y2 af]at h;have e:(i+n).M=j:=Option.some.inj h;exact⟨by rw[seqIndex_neg (sg h0) af,e],by lia,af,(B7 (sg h0)<|ir _)⟩
  ·rw[Y3 af]at h;exists h
def OP{α:Type}{xs:List α}{i:Int}{v:α}(h:xd xs i=J v):∃j,seqIndex? i xs.H=J j/\xs[j]?=J v/\j<xs.H /\ -(xs.H:Int)<=i/\i<xs.H:=by
 unfold xd at h;cases e:sY xs.H i with
 |none=>rw[e]at h;exists h
 |some j =>
  rw[e]at h;obtain⟨af,ak,bc,cL⟩:=OO e;exact⟨j,af,h,ak,bc,cL⟩
def ajQ(b:Expr):Prop:=∀o i,Ci b Y1 o i=operate [o,i] (nE o i)
def OQ(X:bI)(r:dj):Prop :=
 ∀(value slice:Expr) (ae:List Z1) (s:aR) (O:St) (H:aJ) (x y:V) (v u:mt) (Q:fg),aS X ae O H s->cW x v->cW y u->r x y H Q ->
  Ci slice Y1 v u=operate [v,u] (nE v u)->bl Z2 X.A (Ck value slice v u) Zl X.cv s
def aav(X:bI)(id:String)(r:V->List V->aJ->fg->Prop):Prop :=
 ∀(ae:List Z1) (s:aR) (O:St) (H:aJ) (x:V) (xs:List V) (v:mt) (us:List mt) (Q:fg),aS X ae O H s->cW x v->cG xs us->r x xs H Q ->
  bl Z2 X.A (call (.builtin id)<|v::us) Zl X.cv s
section
variable {X:bI}{a b:Expr}{ta tb:TE}{pos:Pos}
def af0(K:W.Frag):dj:=λx y H Q=>∃p xs i v,x=.ref p/\y=.int i/\gw K H p xs/\xd xs i=J v/\Q v H
def af1(K:W.Frag):dj:=λx y H Q=>∃p xs i v,x=.ref p/\y=.int i/\e6 K H p xs/\xd xs i=J v/\Q v H
def ajR:OQ X<|af0 X.K:=by
 intro value slice ae s O H x y v u Q I cF dX h aP;obtain⟨p,xs,i,z,rfl,rfl,a7,he,q⟩:=h
 exists cF
 obtain⟨t,rfl⟩:=dX;obtain⟨a5,r,cQ,hz⟩:=I.list a7;obtain⟨j,af,ak,bc,cL,eh⟩:=OP he;obtain⟨w,nK,ks⟩:=r.get ak;have aB:=r.H;have bz:=zO;have fin:f6 X ae O Q w s:=⟨z,H,I,ks,q⟩
 by_cases h0:0<=i
 ·have bU:i.M=j:=by rw[seqIndex_of h0 eh]at af;exact Option.some.inj af
  exact item_listR cQ.isList h0 Z3 (by rw[bU];simpa using nK) fin aP
 ·have bU:(i+(a5.Q.O:Int)).M=j:=by rw[seqIndex_neg (sg h0) cL]at af;rw[eU,<-aB];exact Option.some.inj af
  exact Nh (x:=w) cQ.isList.typeIs slot_list_getitem.lookup
   (wpAny_getItem_list_neg (Q:=λr s'=>r=w/\f6 X ae O Q r s') cQ.isList (sg h0) (by rw[eU]<;>lia) Z3 (by rw[bU];simpa using nK) ⟨rfl,fin⟩) aP
def ah8:OQ X<|af1 X.K:=by
 intro value slice ae s O H x y v u Q I cF dX h aP;obtain⟨p,xs,i,z,rfl,rfl,a7,he,q⟩:=h
 exists cF
 obtain⟨t,rfl⟩:=dX;obtain⟨a5,r,cQ,hz⟩:=I.tuple a7;obtain⟨j,af,ak,bc,cL,eh⟩:=OP he;obtain⟨w,nK,ks⟩:=r.get ak;have aB:=r.H;have bz:=zO;have fin:f6 X ae O Q w s:=⟨z,H,I,ks,q⟩
 exact Nh (x:=w) cQ.typeIs slot_tuple_getitem.lookup
  (getItem_tuple (j:=j) (Q:=λr s'=>r=w/\f6 X ae O Q r s') cQ Z3 Z3 (by rw[eU,<-aB];exact af) (by simpa using nK) ⟨rfl,fin⟩) aP
def aaw(a5:List mt)(n j:Nat)(u:mt):Obj.mapSeq (·.setIfInBounds j u) { cls:=.type "list",data:=.seq a5.Q n}={ cls:=.type "list",data:=.seq (a5.set j u).Q n}:=by simp[Obj.mapSeq]
theorem aS.ao{ae:List Z1}{O:St}{H:aJ}{s:aR}{p:Addr}{xs:List V}(I:aS X ae O H s)(h:H p=J (.ao xs)) :
  ∃(a5:List mt) (n:Nat),cG xs a5/\s.heap.get? p=J { cls:=.type "list",data:=.seq a5.Q n}/\xs.H<=dg:=by
 obtain⟨z,a5,n,r,e⟩:=I.b1 p _ h;exact⟨a5,n,r,e,z⟩
def aS.ah9{ae:List Z1}{O:St}{H:aJ}{s:aR}{p:Addr}{xs aO:List V}{a5 its':List mt}{n n':Nat}{f:Obj->Obj}(I:aS X ae O H s)(h:H p=J (.ao xs))
  (aZ:s.heap.get? p=J { cls:=.type "list",data:=.seq a5.Q n}) (hf:f { cls:=.type "list",data:=.seq a5.Q n}={ cls:=.type "list",data:=.seq its'.Q n'}) (r:cG aO its') (hz:aO.H<=dg) (t:Nat) :
  aS X ae O (c4 H p<|.ao aO) { s with heap:=s.heap.update p f,toks:=t}:=by
 have e:(s.heap.update p f).get? p=J { cls:=.type "list",data:=.seq its'.Q n'}:=by rw[qW f aZ (by rw[hf]<;>rfl),hf]
 refine I.write (x:=p) (by rw[h];trivial) (λb u aq q=>(t8 _ _<|Ne.symm aq).trans q) ⟨_,e⟩ ?_;exact⟨hz,its',n',r,e⟩
def Ul:V->V->V->aJ->(aJ->Prop)->Prop:=λo i v H Q=>∃p xs k j,o=.ref p/\i=.int k/\H p=J (.ao xs)/\sY xs.H k=J j/\Q (c4 H p<|.ao<|xs.set j v)
def set_list:LS X Ul:=by
 intro ae s O H o i v jY iw u Q I Cq wL bq h;obtain⟨p,xs,k,j,rfl,rfl,aF,bU,q⟩:=h
 exists Cq
 obtain⟨t,rfl⟩:=wL;obtain⟨a5,n,r,aZ,hz⟩:=I.ao aF;obtain⟨af,ak,bc,cL⟩:=OO bU;have aB:=r.H;have bz:=zO;have eH:aS X ae O (c4 H p<|.ao<|xs.set j v) { s with heap:=s.heap.update p (Obj.mapSeq (·.setIfInBounds j u))} :=
  I.ah9 aF aZ (aaw a5 n j u) (r.set bq j) (by rw[r8];exact hz) s.toks
 by_cases h0:0<=k
 ·have aW:k.M=j:=by rw[seqIndex_of h0 cL]at af;exact Option.some.inj af
  exact W.ki_setAt aZ h0 Z3 (by rw[eU,<-aB];exact cL) (by rw[aW];exact⟨_,eH,q⟩)
 ·have aW:(k+(a5.Q.O:Int)).M=j:=by rw[seqIndex_neg (sg h0) bc]at af;rw[eU,<-aB];exact Option.some.inj af
  exact W.ki_setBack aZ (sg h0) (by rw[eU,<-aB];exact bc) Z3 (by rw[aW];exact⟨_,eH,q⟩)
def aax(lo hi:Option Int)(n:Nat):(ug lo hi C n).1=((fE.dY n 0 lo:Nat):Int)/\(ug lo hi C n).2.1=((fE.dY n n hi:Nat):Int)/\(ug lo hi C n).2.2=1:=by
 refine⟨?_,?_,rfl⟩
 ·cases lo with
  |none=>simp[ug,fE.dY]
  |some i =>
   simp only[ug,fE.dY,M1,show(1:Int)>0 by decide,if_true];by_cases h:i<0
   ·simp only[h,if_true]<;>lia
   ·simp only[h,if_false]<;>lia
 ·cases hi with
  |none=>simp[ug,fE.dY]
  |some i =>
   simp only[ug,fE.dY,M1,show(1:Int)>0 by decide,if_true];by_cases h:i<0
   ·simp only[h,if_true]<;>lia
   ·simp only[h,if_false]<;>lia
def aay(a5:List mt)(lo hi:Option Int):slicePick a5.Q lo hi C=((a5.drop<|fE.dY a5.H 0 lo).take (fE.dY a5.H a5.H hi-fE.dY a5.H 0 lo)).Q:=by obtain⟨af,ak,bc⟩:=aax lo hi a5.Q.O;unfold slicePick;rw[af,ak,bc];simp only[sliceRange_one,pick_run,eU]<;>rfl
def af2(K:W.Frag):V->Option Int->Option Int->aJ->fg->Prop:=λx lo hi H Q=>∃a xs,x=.ref a/\gw K H a xs/\∀p,H p=C->Q (.ref p) (c4 H p<|.ao<|tK xs lo hi)
def ajS:sX X<|af2 X.K:=by
 intro ae s O H x v i7 i8 lo hi cX Q I cF aP cQ pu h;obtain⟨a,xs,rfl,av,q⟩:=h
 exists cF
 obtain⟨a5,r,cA,hz⟩:=I.list av;have ej:=r.H;refine⟨"list",_,slot_list_getitem.lookup,cA.isList.typeIs,?_⟩;refine Ng cA.isList aP cQ pu .none Z7 ?_ (by rw[eU]<;>lia);rw[aay,<-ej];refine⟨.ref s.L,_,I.laid (t':=s.toks) (o:=.ao<|tK xs lo hi) (λb bJ q=>ed _ q) (cg _) ?_,rfl,q _<|I.b1.fresh<|cg _⟩;exact⟨bP (ON xs lo hi) hz,_,0,(r.drop<|fE.dY xs.H 0 lo).take (fE.dY xs.H xs.H hi-fE.dY xs.H 0 lo),gC _ rfl⟩
noncomputable def qm:V->Bool
 |.br=>Y0
 |.aC _=>Y0
 |.int _=>Y0
 |.str _=>Y0
 |_=>Y1
noncomputable def mm:V->V->Bool
 |.br,.br=>Y0
 |.aC a,.aC b=>a==b
 |.aC a,.int b=>(if a then 1 else 0)==b
 |.int a,.aC b=>a==(if b then 1 else 0)
 |.int a,.int b=>a==b
 |.str a,.str b=>a==b
 |_,_=>Y1
def aia(dX:cW y u)(cF:cW x v)(VO:qm y=Y0)(b0:qm x=Y0):SeqAt.EqAt A s u v<|mm y x:=by
 cases y with
 |br =>
  exists dX
  cases x with
  |br=>exists cF;exact SeqAt.EqAt.same _
  |aC b=>exists cF;exact SeqAt.EqAt.none_bool b
  |int b=>obtain⟨t,rfl⟩:=cF;exact SeqAt.EqAt.none_int b t
  |str b=>obtain⟨t,rfl⟩:=cF;exact SeqAt.EqAt.none_str b t
  |_=>exact absurd (show Y1=Y0 from b0) nz
 |aC a =>
  exists dX
  cases x with
  |br=>exists cF;exact SeqAt.EqAt.bool_none a
  |aC b=>exists cF;exact SeqAt.EqAt.bool_bool a b
  |int b=>obtain⟨t,rfl⟩:=cF;exact SeqAt.EqAt.bool_int a b t
  |str b=>obtain⟨t,rfl⟩:=cF;exact SeqAt.EqAt.bool_str a b t
  |_=>exact absurd (show Y1=Y0 from b0) nz
 |int a =>
  obtain⟨t',rfl⟩:=dX;cases x with
  |br=>exists cF;exact SeqAt.EqAt.int_none a t'
  |aC b=>exists cF;exact SeqAt.EqAt.int_bool a t' b
  |int b=>obtain⟨t,rfl⟩:=cF;exact SeqAt.EqAt.int_int a t' b t
  |str b=>obtain⟨t,rfl⟩:=cF;exact SeqAt.EqAt.int_str a t' b t
  |_=>exact absurd (show Y1=Y0 from b0) nz
 |str a =>
  obtain⟨t',rfl⟩:=dX;cases x with
  |br=>exists cF;exact SeqAt.EqAt.str_none a t'
  |aC b=>exists cF;exact SeqAt.EqAt.str_bool a t' b
  |int b=>obtain⟨t,rfl⟩:=cF;exact SeqAt.EqAt.str_int a t' b t
  |str b=>obtain⟨t,rfl⟩:=cF;exact SeqAt.EqAt.str_str a t' b t
  |_=>exact absurd (show Y1=Y0 from b0) nz
 |_=>exact absurd (show Y1=Y0 from VO) nz
noncomputable def jE(x:V)(u:mt):Bool:=match u with
 |.none=>mm .br x
 |.bool b=>mm (.aC b) x
 |.int i _=>mm (.int i) x
 |.str z _=>mm (.str z) x
 |_=>Y1
def IU(r:cW y u)(f:qm y=Y0):jE x u=mm y x:=by
 cases y with
 |br=>exists r;rfl
 |aC b=>exists r;rfl
 |int i=>obtain⟨t,rfl⟩:=r;rfl
 |str z=>obtain⟨t,rfl⟩:=r;rfl
 |_=>exact absurd (show Y1=Y0 from f) nz
theorem IV:∀{xs:List V} {us:List mt},cG xs us->xs.all qm=Y0->us.any (jE x)=xs.any λy=>mm y x
 |_,_,.nil,_=>rfl
 |y::xs,u::us,.cons r t,f=>by rw[jV,f5]at f;rw[oB,oB,IU r f.1,IV t f.2]
theorem zT(cF:cW x v)(b0:qm x=Y0):∀{xs:List V} {us:List mt},cG xs us->xs.all qm=Y0->∀u∈us,SeqAt.EqAt A s u v (jE x u)
 |_,_,.nil,_=>λu b7=>by exists b7
 |y::xs,u::us,.cons r t,f=>λfu b7=>by
  rw[jV,f5]at f;rcases d4.mp b7 with rfl|b7
  ·rw[IU r f.1];exact aia r cF f.1 b0
  ·exact zT cF b0 t f.2 fu b7
def Dx(x:V)(xs:List V):Bool:=xs.any λy=>mm y x
def IW(K:W.Frag)(neg:Bool):dj:=λx y H Q=>∃p xs,y=.ref p/\(gw K H p xs\/e6 K H p xs)/\qm x=Y0/\xs.all qm=Y0/\Q (.aC (if neg then !Dx x xs else Dx x xs)) H
def aaz:iU X (hq .NotIn)<|IW X.K Y0:=by
 intro ae s O H x y v u Q I cF dX h;obtain⟨p,xs,rfl,a7,b0,cm,q⟩:=h
 exists dX
 rcases a7 with a7|a7
 ·obtain⟨a5,r,cQ,hz⟩:=I.list a7;refine SeqAt.notIn_listAt (jE x) cQ.isList (λw hw=>zT cF b0 r cm w<|by simpa using hw) ⟨.aC _,H,I,rfl,?_⟩;rw[show a5.toArray.any (jE x)=a5.any (jE x) by simp,IV r cm];exact q
 ·obtain⟨a5,r,cQ,hz⟩:=I.tuple a7;refine SeqAt.notIn_tupleAt (jE x) cQ (λw hw=>zT cF b0 r cm w<|by simpa using hw) ⟨.aC _,H,I,rfl,?_⟩;rw[show a5.toArray.any (jE x)=a5.any (jE x) by simp,IV r cm];exact q
def OR:zN X (.type "list") (λxs H Q=>∃p aO,xs=[.ref p]/\(gw X.K H p aO\/e6 X.K H p aO)/\∀l,H l=C->Q (.ref l) (c4 H l<|.ao aO)):=by
 intro ae s O H xs us Q I r h;obtain⟨p,aO,rfl,a7,q⟩:=h;obtain⟨u,rfl,cF⟩:=vals1 r
 exists cF
 have fin:∀(a5:List mt),cG aO a5->aO.H<=dg->∀(h':Heap) (cH:Nat),(∀b dh,s.heap.get? b=J dh->h'.get? b=J dh) ->
   h'.get? s.L=J { cls:=.type "list",dict:=C,data:=.seq a5.Q cH,slots:=#[]}->f6 X ae O Q Zv { s with heap:=h'}:=λa5 b5 hz h' cH b8 e =>
  ⟨.ref s.L,_,I.laid (t':=s.toks) b8 (cg _) (show gP X.R X.w _ h' _ (.ao aO) from⟨hz,a5,cH,b5,e⟩),rfl,q _<|I.b1.fresh<|cg _⟩
 rcases a7 with a7|a7
 ·obtain⟨a5,b5,cQ,hz⟩:=I.list a7;have ej:=b5.H;obtain⟨o,aZ,aT,n,hd⟩:=cQ.isList;exact call_list_seq p (.inl rfl) aZ aT hd (λh' cH b8 e=>fin a5 b5 hz h' cH b8 e) (by simp only[eU]<;>lia)
 ·obtain⟨a5,b5,cQ,hz⟩:=I.tuple a7;have ej:=b5.H;obtain⟨o,aZ,aT,n,hd⟩:=cQ;exact call_list_seq p (.inr rfl) aZ aT hd (λh' cH b8 e=>fin a5 b5 hz h' cH b8 e) (by simp only[eU]<;>lia)
def OS:zN X (.type "tuple") (λxs H Q=>∃p aO,xs=[.ref p]/\((gw X.K H p aO/\∀l,H l=C->Q (.ref l) (c4 H l<|.aD aO))\/(e6 X.K H p aO/\Q (.ref p) H))):=by
 intro ae s O H xs us Q I r h;obtain⟨p,aO,rfl,h⟩:=h;obtain⟨u,rfl,cF⟩:=vals1 r
 exists cF
 rcases h with⟨a7,q⟩|⟨a7,q⟩
 ·obtain⟨a5,b5,cQ,hz⟩:=I.list a7;have ej:=b5.H;refine call_tuple_list cQ.isList (λh' b8=>?_) (by simp only[eU]<;>lia);have bf:aS X ae O H { s with heap:=h'}:=I.kept (t':=s.toks) b8;have cS:aS X ae O (c4 H h'.E.O<|.aD aO) { s with heap:=h'.push { cls:=.type "tuple",data:=.seq a5.Q}} :=
   bf.laid (t':=s.toks) (λb o e=>ed _ e) (cg _) (show gP X.R X.w _ _ _ (.aD aO) from⟨hz,a5,b5,mj.new _ _⟩)
  exact⟨.ref h'.E.O,_,cS,rfl,q _<|bf.b1.fresh<|cg _⟩
 ·obtain⟨a5,b5,cQ,hz⟩:=I.tuple a7;exact call_tuple_same cQ ⟨.ref p,H,I,rfl,q⟩
def OT(K:W.Frag)(T:String)(x:V)(H:aJ):Prop:=match x with
 |.str _=>T = "str"
 |.int _=>T = "int"
 |.ref p=>(T = "list" /\ ∃xs,gw K H p xs)\/(T = "tuple" /\ ∃o,K.lookup p=J o/\o.cls=.type "tuple" /\ o.dict=C) \/
   (T = "dict" /\ (∃ay,H p=J (.aw ay)))\/(T = "set" /\ ∃cc n,H p=J (.set cc n))
 |_=>False
def aib{ae:List Z1}{O:St}{H:aJ}{s:aR}{T:String}{x:V}{v:mt}(I:aS X ae O H s)(r:cW x v)(ty:OT X.K T x H) :
  s.TypeIs v T/\∀a,v=.ref a->∃bJ,s.heap.get? a=J bJ/\bJ.dict=C:=by
 cases x with
 |str z =>
  obtain⟨t,rfl⟩:=r;cases (show T = "str" from ty);exact⟨typeIs_str s z t,λ_ e=>nomatch e⟩
 |int i =>
  obtain⟨t,rfl⟩:=r;cases (show T = "int" from ty);exact⟨yU s i t,λ_ e=>nomatch e⟩
 |ref p =>
  exists r
  rcases ty with⟨rfl,xs,a7⟩|⟨rfl,o,aW,aT,hd⟩|⟨rfl,aW⟩|⟨rfl,cc,n,aW⟩
  ·obtain⟨a5,_,cQ,_⟩:=I.list a7;refine⟨cQ.isList.typeIs,λa e=>?_⟩
   exists e
   obtain⟨o,n,e,c,hd,_⟩:=cQ;exact⟨o,e,hd⟩
  ·refine⟨⟨o,I.hK p o aW,aT⟩,λa e=>?_⟩
   exists e
   exact⟨o,I.hK _ o aW,hd⟩
  ·have z:∃o,s.heap.get? p=J o/\o.ExactDict:=by obtain⟨ay,aW⟩:=aW;obtain⟨_,_,_,_,o,_,_,e,ex,_⟩:=I.b1 p _ aW;exact⟨o,e,ex⟩
   obtain⟨o,e,ex⟩:=z;refine⟨⟨o,e,ex.1⟩,λa au=>?_⟩
   exists au
   exact⟨o,e,ex.2.1⟩
  ·obtain⟨o,_,_,_,e,ex,_⟩:=I.b1 p _ aW;refine⟨⟨o,e,ex.1⟩,λa au=>?_⟩
   exists au
   exact⟨o,e,ex.2.1⟩
 |_=>exact False.elim ty
def aaA(K:W.Frag)(T:String)(r:V->List V->aJ->fg->Prop)(to:TE)(t:kU):TE:=λO H Q=>to O H λx H1=>OT K T x H1/\t O H1 λxs bV=>r x xs bV Q
variable {o e:Expr}{es:List Expr}{to:TE}{t:kU}{name:Str}{apos ec:Pos}{T id:String}{r:V->List V->aJ->fg->Prop}
def Mb(pa:PlainAttrs T)(slot:Slot T name id)(aaB:typeOf (.builtin id)=pure (.type "method_descriptor"))(hm:aav X id r)(aZ:d7 X o to)(ba:nI X (e::es) t)
  (rZ:autoParam (uf o name X.I (eval o X.I)=eval o X.I) bu)
  (Bv:autoParam (((ff ec<|b4 (e::es) X.I).all (λx=>!x.1)&&(uj ec<|uh [] X.I).all (λx=>x.1.isSome)
   && decide ((e::es).H+([]:List pV).H+(if([]:List pV).isEmpty then 0 else 1)<30))=Y0) bu)
  (r0:autoParam ((apos.endLine==ec.line)=Y0) bu) (aP:autoParam ZP bu) (BG:autoParam ((ff ec Zm).any (·.1)=Y1) bu) :
  d7 X (.Call (.Attribute o name apos) (e::es) [] ec) (aaA X.K T r to t):=by
 intro ae s O H Q I h;refine wpAny_Call_method_late rZ Bv r0 rfl (b2 (aZ ae s O H _ I h) λv s1 ⟨x,H1,bf,bA,ty,aX⟩=>?_);obtain⟨af,ak⟩:=aib bf bA ty;refine⟨T,id,pa,slot,aaB,af,ak,?_⟩;have dt:=ba ec ae s1 O H1 _ bf aX;rw[aP]at dt |-;refine ub (by show(Y1||(ff ec (b4 es X.I)).any (·.1))=Y1;rw[BG]<;>rfl) (uc ?_);exact b2 dt λus s2 ⟨ah,bV,cS,cp,bb⟩=>hm ae s2 O bV x ah v us Q cS bA cp bb
end
def OU(X:bI)(id:String)(r:V->List V->aJ->fg->Prop):Prop :=
 ∀(ae:List Z1) (s:aR) (O:St) (H:aJ) (x:V) (xs:List V) (v:mt) (us:List mt) (Q:fg),aS X ae O H s->cW x v->cG xs us->r x xs H Q ->
  bl Z2 X.A (call (.builtin id)<|v::us) Zl X.cv s
def cG.one:∀{x:V} {us:List mt},cG [x] us->∃u,us=[u]/\cW x u:=by intro x us h;cases h with|cons r h=>cases h;exact⟨_,rfl,r⟩
def cG.two:∀{x y:V} {us:List mt},cG [x,y] us->∃u v,us=[u,v]/\cW x u/\cW y v:=by intro x y us h;cases h with|cons r h=>cases h with|cons q h=>cases h;exact⟨_,_,rfl,r,q⟩
theorem cG.reverse(h:cG xs us):cG xs.reverse us.reverse:=by
 induction h with
 |nil=>exact .nil
 |cons r t a4=>rw[BR,BR];exact cG.append a4<|.cons r .nil
theorem cG.rep(h:cG xs us):∀k:Nat,cG (List.replicate k xs).flatten (List.replicate k us).flatten
 |0=>.nil
 |k+1=>by rw[ox,ox,tV,tV];exact cG.append h<|cG.rep h k
theorem foldl_rep(a5:List mt):∀(k:Nat) (acc:List mt),
  List.foldl (λbH cf=>bH++cf) acc.Q (List.replicate k a5.Q)=(acc++(List.replicate k a5).flatten).Q
 |0,acc=>by simp
 |k+1,acc=>by
  have e:acc.Q++a5.Q=(acc++a5).Q:=by simp
  have au:(acc++a5)++(List.replicate k a5).flatten=acc++(List.replicate (k+1) a5).flatten:=by rw[ox,tV,h7]
  rw[<-au,<-foldl_rep a5 k (acc++a5),<-e,ox,mI]
section
variable {X:bI}{ae:List Z1}{O:St}{H:aJ}{s:aR}{l b:Addr}{xs aO zs:List V}
def aS.TQ{a5 its':List mt}{n:Nat}{f:Array mt->Array mt}{t':Nat}(I:aS X ae O H s)(mP:H l=J (.ao xs))
  (e:s.heap.get? l=J { cls:=.type "list",data:=.seq a5.Q n}) (hf:f a5.Q=its'.Q) (bS:cG aO its') (hz:aO.H<=dg) :
  aS X ae O (c4 H l<|.ao aO) { s with heap:=s.heap.update l (Obj.mapSeq f),toks:=t'}:=by
 have q:=PySem.IsL.update e f;rw[hf]at q;refine I.write (x:=l) (by rw[mP];exact trivial) (λgV u aq b7=>(t8 s.D (Obj.mapSeq f)<|Ne.symm aq).trans b7) ⟨_,q⟩ ?_;exact⟨hz,its',_,bS,q⟩
def aS.LW{t':Nat}(I:aS X ae O H s)(bS:cG aO a5)(hz:aO.H<=dg) :
  aS X ae O (c4 H s.L<|.ao aO) { s with heap:=s.heap.push { cls:=.type "list",data:=.seq a5.Q},toks:=t'} :=
 I.laid (λ_ _ q=>ed _ q) (cg _) ⟨hz,a5,0,bS,gC _ rfl⟩
theorem aS.fresh(I:aS X ae O H s):H s.L=C:=I.b1.fresh<|cg _
def aS.LX(I:aS X ae O H s)(mP:H l=J (.ao xs)):xs.H<=dg/\∃(a5:List mt) (n:Nat),cG xs a5/\xs.H=a5.H/\s.heap.get? l=J { cls:=.type "list",data:=.seq a5.Q n}:=by obtain⟨z,a5,n,r,e⟩:=I.b1 l _ mP;exact⟨z,a5,n,r,r.H,e⟩
def OV{n:Nat}(h:n<=dg):Builtin.List.listTooLong n=Y1:=by unfold Builtin.List.listTooLong;exact decide_eq_false<|sb h
end
section
variable {X:bI}
def ajT:V->List V->aJ->fg->Prop:=λx ah H Q=>∃l xs y,x=.ref l/\ah=[y]/\H l=J (.ao xs)/\xs.H<dg/\Q .br (c4 H l<|.ao<|xs++[y])
def IX:OU X "list.append" ajT:=by
 intro ae s O H x ah v us Q I cF bq h;obtain⟨l,xs,y,rfl,rfl,mP,hz,q⟩:=h
 exists cF
 obtain⟨u,rfl,eW⟩:=bq.one;obtain⟨z,a5,n,r,aB,e⟩:=I.LX mP;refine nB F.slot_list_append ⟨_,e,rfl⟩ F.entry_list_append (F.args_list_append_2 _ _) (PySem.list_append l a5.Q n u<|by rw[eU];lia) ⟨e,?_⟩;refine⟨.br,_,I.TQ (its':=a5++[u]) mP e Z7 (r.append<|.cons eW .nil) ?_,rfl,q⟩;rw[gr,pM];exact hz
def af3:dj:=λx y H Q=>∃l k xs,x=.ref l/\y=.int k/\H l=J (.ao xs) /\ -(2^63)<=k/\k<2^63/\xs.H*k.M<=dg /\
 ∀p,H p=C->Q (.ref p) (c4 H p<|.ao (List.replicate k.M xs).flatten)
def len_rep{α:Type}(xs:List α)(k:Nat):(List.replicate k xs).flatten.H=k*xs.H:=by
 induction k with
 |zero=>simp
 |succ k a4=>rw[ox,tV,gr,a4,se,yF]
def aic:iU X (ma .Mult) af3:=by
 intro ae s O H x y v u Q I cF dX h;obtain⟨l,k,xs,rfl,rfl,mP,af,ak,hz,q⟩:=h
 exists cF
 obtain⟨t,rfl⟩:=dX;obtain⟨z,a5,n,r,aB,e⟩:=I.LX mP;have ej:a5.Q.O*k.M<=dg:=by rw[eU,<-aB];exact hz
 have af4:¬a5.Q.O*k.M>(2^63-1) / 8:=by
  have:(dg:Nat)<=(2^63-1) / 8:=by decide
  lia
 have af5:¬ (!Builtin.List.listFitsIndex k)=Y0:=by rw[fitsIndex_both af ak];exact nz
 have Mc:¬Builtin.List.listTooLong (a5.Q.O*k.M)=Y0:=by rw[OV ej];exact nz
 have Bw:List.foldl (λbH cf=>bH++cf) #[] (List.replicate (if a5.Q.isEmpty=Y0 then 0 else k.M) a5.Q)=(List.replicate k.M a5).flatten.Q:=by
  have f0:∀m:Nat,List.foldl (λbH cf=>bH++cf) #[] (List.replicate m a5.Q)=(List.replicate m a5).flatten.Q:=λm=>by have:=foldl_rep a5 m [];rw[pQ]at this;exact this
  rw[f0];cases a5 with
  |nil=>simp
  |cons a b5=>rw[Y3 Z7]
 refine Nf (T:="list") (U:="int") Z0 ⟨_,e,rfl⟩ (λs'=>yU s' k t) noFill_list_mul F.fills_int_mul F.slot_int_rmul repeat_list F.slot_int_index.lookup
  (nB F.slot_int_rmul (yU s k t) F.entry_int_rmul (F.args_int_rmul_2 _ _) (int___rmul___int_list k t l a5.Q n)
   ⟨e,rfl,⟨_,e,rfl⟩,nB F.slot_list_mul ⟨_,e,rfl⟩ F.entry_list_mul (F.args_list_mul_2 _ _) (AutoListH.list___mul___list_int_3 l a5.Q n k t af5 af4 Mc) ⟨e,?_⟩⟩)
 rw[Bw];exact⟨.ref _,_,I.LW (t':=s.toks) (r.rep k.M) (by rw[len_rep,qV];exact hz),rfl,q _ I.fresh⟩
end
section
variable {prog:dx}{w:c3}{A:dI}{E:mt->aR->Prop}{s:aR}
set_option maxRecDepth 100000 in
end
section
variable {κ:Type}[DecidableEq κ]
noncomputable def qM(ay:List<|κ×V)(k:κ):Option V:=(ay.find? λc9=>decide (c9.1=k)).map (·.2)
noncomputable def iH(ay:List<|κ×V)(k:κ)(v:V):List (κ×V) :=
 if(ay.any λc9=>decide (c9.1=k))=Y0 then ay.map (λc9=>if c9.1=k then(c9.1,v) else c9) else ay++[(k,v)]
def OW{p:κ×V}{r:List<|κ×V}{k:κ}(e:p.1=k):qM (p::r) k=J p.2:=by simp[qM,ii,e]
def OX{p:κ×V}{r:List<|κ×V}{k:κ}(e:¬p.1=k):qM (p::r) k=qM r k:=by simp[qM,ii,e]
def OY(ay:List<|κ×V)(k:κ)(v:V):(iH ay k v).H<=ay.H+1:=by
 unfold iH;split
 ·rw[cP];exact gd _ _
 ·rw[gr,d9,tY];exact cg _
theorem ya.getD(r:ya o u)(HB:cW d d'):cW (o.getD d)<|u.getD d':=by
 cases o with
 |none=>cases u with
  |none=>exact HB
  |some _=>exact(show False from r).elim
 |some _=>cases u with
  |none=>exact(show False from r).elim
  |some _=>exact r
def fq.val(r:fq ay ah)(k:κ):ya (qM ay k)<|um ah k:=by
 unfold fq at r
 induction r with
 |nil=>exact True.intro
 |@cons p q ps uv h t a4 =>
  obtain⟨af,ak⟩:=h;by_cases e:p.1=k
  ·have bN:q.1=k:=af.symm.trans e;have b:um (q::uv) k=J q.2:=by simp[um,ii,bN]
   rw[OW e,b];exact ak
  ·have bN:¬q.1=k:=λz=>e<|af.trans z;have b:um (q::uv) k=um uv k:=by simp[um,ii,bN]
   rw[OX e,b];exact a4
theorem fq.any(r:fq ay ah)(k:κ):(ay.any λc9=>decide (c9.1=k))=ah.any λc9=>decide (c9.1=k):=by
 unfold fq at r
 induction r with
 |nil=>rfl
 |cons h t a4=>rw[oB,oB,a4,h.1]
def fq.af6(r:fq ay ah)(k:κ)(dX:cW y u) :
  fq (ay.map λc9=>if c9.1=k then(c9.1,y) else c9) (ah.map λc9=>if c9.1=k then(c9.1,u) else c9):=by
 unfold fq at r |-
 induction r with
 |nil=>exact .nil
 |@cons p q ps uv h t a4 =>
  rw[cU,cU];refine .cons ?_ a4;obtain⟨af,ak⟩:=h;by_cases e:p.1=k
  ·rw[Y2 e,Y2<|af.symm.trans e];exact⟨af,dX⟩
  ·rw[Y3 e,Y3 λz=>e<|af.trans z];exact⟨af,ak⟩
def fq.put(r:fq ay ah)(k:κ)(dX:cW y u):fq (iH ay k y)<|pX ah k u:=by
 unfold iH pX;rw[r.any k];by_cases e:(ah.any λc9=>decide (c9.1=k))=Y0
 ·rw[Y2 e,Y2 e];exact r.af6 k dX
 ·rw[Y3 e,Y3 e];exact Paired.snoc r ⟨rfl,dX⟩
theorem fq.length{ay:List<|κ×V}{ah:List<|κ×mt}(r:fq ay ah):ay.H=ah.H:=Paired.length r
end
def zU(r:cW (eB k) u):(hI P w).is k u=Y0:=by
 cases k with
 |inl i=>obtain⟨t,e⟩:=(show ∃t,u=Value.int i t from r);subst e;exact YZ P w i t
 |inr x=>obtain⟨t,e⟩:=(show ∃t,u=Value.str x t from r);subst e;exact aaa P w x t
section
variable {P:dx}{w:c3}{H:aJ}{h:Heap}{a:Addr}
def agS(ok:gk P w H h)(e:iN H a u):gP P w H h a u:=e.ok ok
def j6(ok:gk P w H h)(e:iN H a<|.aw ay):ay.H<=dg/\(a==qY)=Y1/\∃ah,fq ay ah/\h.DictOf (hI P w) a ah :=
 show gP P w H h a (.aw ay) from agS ok e
def Um(ok:gk P w H h)(e:H a=J (.aw ay)):ay.H<=dg/\(a==qY)=Y1/\∃ah,fq ay ah/\h.DictOf (hI P w) a ah:=j6 ok<|.inl e
end
def Bx(H:aJ)(a:Addr)(y:V)(r:Option V):Prop :=
 ∃ay k,iN H a (.aw ay)/\y=eB k/\r=qM ay k
def By(H:aJ)(a:Addr)(y v:V)(aj:aJ):Prop :=
 ∃ay k,H a=J (.aw ay)/\y=eB k/\ay.H<dg/\aj=c4 H a (.aw<|iH ay k v)
theorem By.k{k:Key}(e:H a=J (.aw ay))(aB:ay.H<dg):By H a (eB k) v<|c4 H a<|.aw<|iH ay k v:=⟨ay,k,e,rfl,aB,rfl⟩
section
variable {X:bI}{ae:List Z1}{O:St}{H:aJ}{s:aR}{a:Addr}{y v:V}{u r:mt}{o:Option V}{A:dI}{E:mt->aR->Prop}
def aS.bh(I:aS X ae O H s):qY<s.L:=by have h:kS<s.L:=(I.mod.glob.keeps I.gs).lt;exact wo Z0 h
def aaC(b7:A.units+1<iu)(I:aS X ae O H s)(g:Bx H a y<|some v)(dX:cW y u)(h:∀fT s',aS X ae O H s'->cW v fT->Q fT s') :
  bl Z2 A (nE ZN u) Q E s:=by
 obtain⟨ay,k,e,i9,l⟩:=g;subst i9;obtain⟨z,hd,ah,rel,dd⟩:=j6 I.b1 e;obtain⟨fT,hw,ks⟩:=ya.some_of (v:=v) (o:=um ah k) (by rw[l];exact rel.val k);exact wpAny_getItem_of (zU dX) dd.mapOf hw<|h fT _ (I.tok _) ks
def OZ{t':Nat}(I:aS X ae O H s)(sx:zH<|H a)(aP:Heap.SameBut a s.D h')(he:∃q,h'.get? a=J q)(new:gP X.R X.w (c4 H a bJ) h' a bJ) :
  aS X ae O (c4 H a bJ) { s with heap:=h',toks:=t'} :=
 I.write (x:=a) sx (λb q aq z=>(aP.2 b aq).trans z) he new
def Dy(z:ay.H<=dg)(hd:(a==qY)=Y1)(rel:fq ay ah)(dd:h'.DictOf (hI P w) a ah) :
  gP P w aj h' a (.aw ay):=⟨z,hd,ah,rel,dd⟩
def aaD(b7:A.units+1<iu)(I:aS X ae O H s)(g:By H a y v aj)(dX:cW y u)(bq:cW v r)(h:∀s',aS X ae O aj s'->Q () s') :
  bl Z2 A (setItem ZN u r) Q E s:=by
 obtain⟨ay,k,e,i9,l,HC⟩:=g;subst i9 HC;obtain⟨z,hd,ah,rel,dd⟩:=Um I.b1 e;have hz:ah.H<=dg:=by rw[<-rel.H];exact z
 have aB:(iH ay k v).H<=dg:=by have:=OY ay k v;exact bP this l
 refine wpAny_setItem_pairs (hsz:=hz) (zU dX) dd λh' sZ aP=>h _ ?_;have he:∃q,h'.get? a=J q:=let ⟨q,_,_,a7,_⟩:=sZ;⟨q,a7⟩
 exact OZ I (by rw[e];exact True.intro) aP he<|Dy aB hd (rel.put k bq) sZ
end
section
variable {X:bI}{ae:List Z1}{O:St}{H:aJ}{s:aR}{a:Addr}{ay:List ZW}{k:Key}{u:mt}{A:dI}{E:mt->aR->Prop}
def agT(I:aS X ae O H s)(e:iN H a<|.aw ay)(h:∀t s',aS X ae O H s'->Q (.int ay.H t) s'):bl Z2 A (call (.builtin "len") [.ref a]) Q E s:=by obtain⟨z,hd,ah,rel,dd⟩:=j6 I.b1 e;refine call_len_dict hd dd (by rw[<-rel.H];rw[mK]at z;lia) ?_;rw[<-rel.H];exact h _ _<|I.tok _
def ajU{Q:Bool->aR->Prop}(I:aS X ae O H s)(e:iN H a<|.aw ay)(h:∀s',aS X ae O H s'->Q (!ay.isEmpty) s'):bl Z2 A (truthy ZN) Q E s:=by
 obtain⟨z,hd,ah,rel,dd⟩:=j6 I.b1 e;refine wpAny_truthy_dict hd dd (by rw[<-rel.H];rw[mK]at z;lia) ?_;have q:ay.isEmpty=ah.isEmpty:=by exists rel<;>rfl
 rw[<-q];exact h _<|I.tok _
end
def aaE{X:bI}{ae:List Z1}{O:St}{H:aJ}{s:aR}{a:Addr}{y:V}{o:Option V}(I:aS X ae O H s)(g:Bx H a y o):s.TypeIs ZN "dict":=by obtain⟨ay,k,e,_,_⟩:=g;obtain⟨_,_,ah,_,dd⟩:=j6 I.b1 e;exact dd.typeIs
def O0(h:Heap)(aq:qY<h.E.O):gP P w H (h.push { cls:=.type "dict",data:=.dict #[]}) h.E.O (.aw []) :=
 ⟨gH _,beq_eq_false_iff_ne.mpr<|Ne.symm<|bv aq,[],.nil,Heap.DictOf.new h⟩
def aid:TE:=λ_ H Q=>∀p,H p=C->Q (.ref p) (c4 H p<|.aw [])
section
variable {X:bI}{pos:Pos}
def alI:d7 X (.Dict [] [] pos) aid:=λae s O H Q I h =>
 wpAny_Dict_empty ⟨.ref s.L,_,I.laid (a:=s.L) (o:=.aw []) (t':=s.toks) (λ_ _ q=>ed _ q) (cg _)<|O0 s.D I.bh,rfl,h _<|I.b1.fresh<|cg _⟩
end
def IY:List (TE×TE)->St->aJ->(List (V×V)->aJ->Prop)->Prop
 |[],_,H,Q=>Q [] H
 |(bx,hX)::r,O,H,Q=>bx O H λx H1=>hX O H1 λy bV=>IY r O bV λps ef=>Q ((x,y)::ps) ef
abbrev Nm:List (V×V)->List (mt×mt)->Prop:=Paired λp q=>cW p.1 q.1/\cW p.2 q.2
def Dz(X:bI)(pos:Pos)(keys:List<|Option Expr)(values:List Expr)(uX:List<|TE×TE):Prop :=
 ∀(ae:List Z1) (s:aR) (O:St) (H:aJ) (Q:List (V×V)->aJ->Prop),aS X ae O H s->IY uX O H Q ->
  bl Z2 X.A (evalPairs<|pairTrees keys values X.I pos) (λah s'=>∃ps aj,aS X ae O aj s'/\Nm ps ah/\Q ps aj) X.cv s
def ajV:Dz X pos [] [] []:=λae s O H Q I h=>pairTrees_nil_walk ⟨[],H,I,.nil,h⟩
def alJ(aW:d7 X k bx)(bS:d7 X v hX)(aU:Dz X pos dc ah uX) :
  Dz X pos (J k::dc) (v::ah) ((bx,hX)::uX):=λae s O H Q I h =>
 pairTrees_cons_walk (b2 (aW ae s O H _ I h) λu s1 ⟨x,H1,bf,cF,aX⟩=>b2 (bS ae s1 O H1 _ bf aX) λfM s2 ⟨y,bV,cS,dX,bb⟩ =>
  b2 (aU ae s2 O bV _ cS bb) λws s3 ⟨ps,ef,fU,rel,cK⟩=>⟨(x,y)::ps,ef,fU,.cons ⟨cF,dX⟩ rel,cK⟩)
noncomputable def xe(ay more:List ZW):List ZW:=more.foldl (λacc c9=>iH acc c9.1 c9.2) ay
def fq.merge:∀{more:List ZW} {rs:List (Key×mt)} {ay:List ZW} {ah:List (Key×mt)},fq more rs->fq ay ah->fq (xe ay more) (merged ah rs):=by
 intro more rs ay ah r;unfold fq at r
 induction r generalizing ay ah with
 |nil=>intro q;exact q
 |@cons p q ps uv h t a4 =>
  intro jx;have e:fq (iH ay p.1 p.2)<|pX ah q.1 q.2:=by have:=jx.put p.1 h.2;rw[<-h.1];exact this
  exact a4 e
theorem O1:∀(more ay:List ZW),(xe ay more).H<=ay.H+more.H
 |[],ay=>by show ay.H<=ay.H+0;exact cg _
 |p::r,ay=>by have af:=O1 r<|iH ay p.1 p.2;have ak:=OY ay p.1 p.2;show(xe (iH ay p.1 p.2) r).H<=_;rw[d9];lia
theorem O2:∀{ay:List ZW} {ws:List (mt×mt)},Nm (ay.map λc9=>(eB c9.1,c9.2)) ws->∃rs,Carries (hI P w) ws rs/\fq ay rs
 |[],_,r=>by rw[qS]at r;exists r;exact⟨[],True.intro,.nil⟩
 |p::ay,_,r=>by
  rw[cU]at r;cases r with
  |@cons a b as bs h t =>
   obtain⟨rs,c,q⟩:=O2 (P:=P) (w:=w) t;obtain⟨cq,cE⟩:=b;exact⟨(p.1,cE)::rs,⟨zU h.1,rfl,c⟩,.cons ⟨rfl,h.2⟩ q⟩
def agU(uX:List<|TE×TE):TE:=λO H Q=>∀p,H p=C->IY uX O (c4 H p<|.aw []) λps bV=>bV p=J (.aw [])/\∃ay:List ZW,ps=ay.map (λc9=>(eB c9.1,c9.2))/\ay.H<=15/\Q (.ref p) (c4 bV p<|.aw<|xe [] ay)
def ajW(h:Dz X pos keys values uX)(Bz:keys.all (·.isSome)=Y0)(aB:keys.H=values.H)(h0:keys≠[])
  (aaF:keys.H<=15):d7 X (.Dict keys values pos)<|agU uX:=by
 intro ae s O H Q I q;have bz:=I.b1.fresh<|cg s.L;have bf:=I.laid (a:=s.L) (o:=.aw []) (h':=s.heap.push { cls:=.type "dict",data:=.dict #[]}) (t':=s.toks) (λ_ _ q=>ed _ q) (cg _)<|O0 s.D I.bh;refine wpAny_Dict_walk (knd:=hI X.R X.w) Bz aB h0 aaF (b2 (h ae _ O _ _ bf<|q _ bz) λws s2 ⟨ps,bV,cS,rel,e,ay,ep,fN,bb⟩=>?_);subst ep;obtain⟨rs,c,rk⟩:=O2 (P:=X.R) (w:=X.w) rel;obtain⟨z,hd,anQ,jx,dd⟩:=Um cS.b1 e
 exists jx
 refine⟨rs,c,dd,λh' sZ aP=>⟨.ref s.L,_,?_,rfl,bb⟩⟩;have hz:(xe [] ay).H<=dg:=by have af:=O1 ay [];rw[tY]at af;rw[mK];lia
 have he:∃q,h'.get? s.L=J q:=let ⟨q,_,_,a7,_⟩:=sZ;⟨q,a7⟩
 exact OZ cS (by rw[e];exact True.intro) aP he<|Dy hz hd (rk.merge .nil) sZ
structure Cr (X:bI) (o:Expr) (m:Str) (apos:Pos) (e:Expr) (ec:Pos):Prop where
 base:uf o m X.I (eval o X.I)=eval o X.I
 uY:((ff ec<|b4 [e] X.I).all (λx=>!x.1)&&(uj ec<|uh [] X.I).all (λx=>x.1.isSome)
  && decide (([e]:List Expr).H+([]:List pV).H+(if([]:List pV).isEmpty then 0 else 1)<30))=Y0
 line:(apos.endLine==ec.line)=Y0
 trees:ff ec (b4 [e] X.I)=[ZG]
structure M2 (X:bI) (o:Expr) (m:Str) (apos:Pos) (e f:Expr) (ec:Pos):Prop where
 base:uf o m X.I (eval o X.I)=eval o X.I
 uY:((ff ec<|b4 [e,f] X.I).all (λx=>!x.1)&&(uj ec<|uh [] X.I).all (λx=>x.1.isSome)
  && decide (([e,f]:List Expr).H+([]:List pV).H+(if([]:List pV).isEmpty then 0 else 1)<30))=Y0
 line:(apos.endLine==ec.line)=Y0
 trees:ff ec (b4 [e,f] X.I)=[ZG,(Y1,eval f X.I)]
def O3(H:aJ)(a:Addr):Prop:=∃ay,iN H a<|.aw ay
def aie{X:bI}{ae:List Z1}{O:St}{H:aJ}{s:aR}{a:Addr}(I:aS X ae O H s)(d:O3 H a) :
  s.TypeIs ZN "dict" /\ (∀b,Value.ref a=.ref b->∃bJ,s.heap.get? b=J bJ/\bJ.dict=C)/\(a==qY)=Y1:=by
 obtain⟨ay,e⟩:=d;obtain⟨_,hd,ah,_,dd⟩:=j6 I.b1 e;refine⟨dd.typeIs,λb q=>?_,hd⟩;cases q;obtain⟨bJ,_,_,af,ak,_⟩:=dd;exact⟨bJ,af,ak.2.1⟩
section
variable {X:bI}{ae:List Z1}{O:St}{H:aJ}{s:aR}{a:Addr}{y d:V}{u r:mt}{o:Option V}{A:dI}{E:mt->aR->Prop}
def aif(b7:A.units+1<iu)(I:aS X ae O H s)(g:Bx H a y o)(dX:cW y u)(HB:cW d r)(h:∀fT s',aS X ae O H s'->cW (o.getD d) fT->Q fT s') :
  bl Z2 A (call (.builtin "dict.get") [.ref a,u,r]) Q E s:=by
 obtain⟨ay,k,e,i9,l⟩:=g;subst i9;obtain⟨z,hd,ah,rel,dd⟩:=j6 I.b1 e;refine call_meetsIn PySem.F.slot_dict_get dd.typeIs PySem.F.entry_dict_get (PySem.F.args_dict_get_3 _ _ _) (meets_dict_get_default (hI X.R X.w) a (zU dX) hd r) ⟨_,dd.mapOf,h _ _ (I.tok _) ?_⟩;rw[l];exact(rel.val k).getD HB
end
def aih(oR ty wM:TE):TE:=λO H Q=>oR O H λx H1=>∃a,x=.ref a/\O3 H1 a/\ty O H1 λy bV=>wM O bV λz ef=>∃o,Bx ef a y o/\Q (o.getD z) ef
section
variable {X:bI}{o e f:Expr}{apos ec:Pos}{oR ty wM:TE}
def alK(b7:X.A.units+1<iu)(aZ:d7 X o oR)(he:d7 X e ty)(hf:d7 X f wM)(m:M2 X o "get" apos e f ec):d7 X (.Call (.Attribute o "get" apos) [e,f] [] ec)<|aih oR ty wM:=by
 intro ae s O H Q I h;refine yO m.V m.uY m.line PySem.F.plainAttrs_dict PySem.F.slot_dict_get PySem.F.type_dict_get (b2 (aZ ae s O H _ I h) λu s1 ⟨x,H1,bf,cF,a,ex,d,aX⟩=>?_);subst ex;obtain rfl:u=Value.ref a:=cF;obtain⟨t1,eI,_⟩:=aie bf d;refine⟨t1,eI,?_⟩;rw[m.trees]
 refine ub rfl (uc (ia (b2 (he ae s1 O H1 _ bf aX) λiw s2 ⟨y,bV,cS,dX,bb⟩ =>
  ia (b2 (hf ae s2 O bV _ cS bb) λant s3 ⟨z,ef,fU,VP,jY,g,cK⟩=>l6 ?_))))
 exact aif b7 fU g dX VP λfT s4 hb ks=>⟨_,ef,hb,ks,cK⟩
end
section
variable {X:bI}{ae:List Z1}{O:St}{H:aJ}{s:aR}{a:Addr}{ay:List ZW}{A:dI}{E:mt->aR->Prop}
def alL(I:aS X ae O H s)(e:iN H a<|.aw ay)(h:∀p s',H p=C->aS X ae O (c4 H p<|.aw ay) s'->Q (.ref p) s'):bl Z2 A (call (.type "dict") [.ref a]) Q E s:=by obtain⟨z,hd,ah,rel,dd⟩:=j6 I.b1 e;refine kt_call_dict hd dd (by rw[<-rel.H];exact z) λh' sZ aP=>?_;refine h _ _ (I.b1.fresh<|cg _)<|I.laid (a:=s.L) (o:=.aw ay) (t':=s.toks) (λb q a7=>?_) (cg _)<|Dy z (beq_eq_false_iff_ne.mpr<|Ne.symm<|bv I.bh) rel sZ;exact(aP.2 b<|bv<|d6 a7).trans (ed _ a7)
end
end bj
namespace O4
open PySem PySem.W PySem.Calls PyProof.Rows
def aaG:∀(ns:List Int) (ah:List mt),WellAll P h ah (ns.map WData.int)->ha ah ns:=by
 intro ns
 induction ns with
 |nil =>
  intro ah w;rw[qS]at w
  exists w
  exact .nil
 |cons n ns a4 =>
  intro ah w;rw[cU]at w;cases w with
  |cons a b =>
   exists a
   exact .cons _ _<|a4 _ b
def aaH{l:OpenLaw}{n:Nat}(bz:l.most=J n){P:Params}{args:List WData}
  (yd:l.row.toRowW.claim.pre args=Y0) (DA:WellAll P h vals args) :
  ∃a ah ns,vals=[Value.ref a]/\args=[WData.list<|ns.map WData.int]/\h.get? a=J { cls:=.type "list",data:=.seq ah.Q}/\ha ah ns/\ns.H<=n:=by
 have aaI:WShape.hasAll [] args [.list .int]=Y0:=(pre_splitW yd).1;have aT:l.pre.holds [] { args:=args}=Y0:=(pre_splitW yd).2;obtain⟨d,r,rfl,af,ak⟩:=hasAllW_cons aaI;obtain rfl:=hasAllW_nil ak;obtain⟨xs,rfl,bc⟩:=hasW_list af;obtain⟨ns,rfl⟩:=items_int bc;have ej:ns.H<=n:=by
  unfold OpenLaw.pre at aT;have cL:(WTm.not<|.lt (.lit<|.int (n:Int))<|.len<|.arg 0).holds [] { args:=[.list<|ns.map .int]}=Y0:=by have cL:=(holds_andW aT).1;rw[bz]at cL;exact cL
  have eh:=condW_of cL<|w_not<|w_lt w_lit<|w_len_list<|w_arg rfl;rw[cP]at eh;refine hS λq=>?_;have eN:(n:Int)<((ns.H:Nat):Int):=by lia
  first
   |(rw[decide_eq_true eN]at eh;exact absurd eh Z0)
   |(simp at eh;lia)
 cases DA with
 |cons eV fM =>
  exists fM
  cases eV with
  |list aZ Bz=>exact⟨_,_,ns,rfl,rfl,aZ,aaG ns _ Bz,ej⟩
def aaJ(l:OpenLaw)(args:List WData):l.row.toRowW.claim.post args (.bool Y0) args=Y0 :=
 postW_of (r:=l.row.toRowW) (X:=(Y0==Y0))
  (show WShape.has [] (.bool Y0) .bool=Y0 by first|rfl|decide|simp[WShape.has,WShape.arms,WShape.armsAll])
  (show(WTm.eq .res<|.lit<|.bool Y0).value [] { args:=args,res:=J<|.bool Y0,after:=args}=J (.bool<|true==Y0) from w_eq_bool (w_res rfl) w_lit) rfl
def anj{l:OpenLaw}{n:Nat}{wN:(Str->Option mt)->Heap->Prop}{sz:c3->Heap->Prop}{d:DefRec}
  (bz:l.most=J n) (s6:d.params.defaults=[])
  (call:∀(w:c3) (cD dN:aR) (a3 lG:Str->Option mt) (da:Addr) (o:Obj) (pm cd doc:mt) (a:Addr) (ah:List mt) (ns:List Int),
   Ground q loose [] wN w cD a3 lG dN.D->sz w dN.D ->
   dN.heap.get? da=J o->o.d=.func (docDef d.name d.params d.body d.Y pm cd doc)->dN.heap.CodeRec cd d.name->a3 d.name=J (.ref da) ->
   dN.heap.get? a=J { cls:=.type "list",data:=.seq ah.Q}->ha ah ns->ns.H<=n->dN.gens=#[] ->
   kk (bg l.R w) sq (.call (.ref da) ⟨[.ref a],[]⟩) (λr s'=>r=.ok (.ret<|.bool Y0)/\OldK dN.D s'.D/\s'.os=dN.os/\oJ s'.gens) dN) :
  WalkO q loose wN sz l.row.toRowW d [] (λf ah=>PySem.call f ah):=by
 intro w cD dN a3 lG G Y da o pm cd doc wK eB aZ hd g4 gW zV bT args vals as yd an6 anR DA O5;obtain rfl:wK=.none:=Dflts.none gW s6;obtain rfl:eB=.none:=Dflts.noKw gW;obtain⟨a,ah,ns,rfl,rfl,LY,hints,ej⟩:=aaH bz yd DA;refine enter_call (si (call w cD dN a3 lG da o pm cd doc a ah ns G Y aZ (fd_plain hd) g4 zV LY hints ej bT) λr s' a7=>?_);obtain⟨rfl,ak,bc,cL⟩:=a7;exact⟨.inl ⟨.bool Y0,.bool Y0,[],rfl,λ_=>rfl,.bool Y0,aaJ l _,λ_=>⟨List.Pairwise.nil,λ_ hm=>(nomatch hm)⟩⟩,ak,bc,cL⟩
end O4
namespace bj
open PySem PySem.Spec PyProof.Rows
theorem qn:∀{ah:List mt} {ns:List Int},ha ah ns->cG (ns.map V.int) ah
 |_,_,.nil=>.nil
 |_,_,.cons n t h=>.cons ⟨t,rfl⟩<|qn h
def LZ(H:aJ):Prop:=∀b,H b=C\/∃o xs,H b=J (.eo o<|.ao xs)
def alM{P:dx}{w:c3}{K:W.Frag}{a3 lG:Str->Option mt}{CX:o5}{k:Nat}{da a:Addr}{fd:hC}{x:Str}{sp:kX}{dN:aR}{ah:List mt}{ns:List Int}
  (lI:K.In dN.D) (rl:dN.heap.Ns kS a3) (aq:dN.heap.Ns builtinsNs lG) (aaK:∀x:Str,x ≠ "__name__" -> lG x=l8 x) (af7:dN.D.NoLimit) (bT:dN.gens=#[])
  (ba:dN.heap.get? a=J { cls:=.type "list",data:=.seq ah.Q}) (hi:ha ah ns) (aB:ns.H<=dg) (aU:eD k sq)
  (F:∀base:Heap,K.In base->base.Ns kS a3->i2 P w K a3 base CX k da fd [x] sp) (agV:∀(s:aR) (u:mt),uk s fd ⟨[u],[]⟩ [(x,u)])
  (lg:∀H:aJ,LZ H->gw K H a (ns.map V.int)->sp [.ref a] H (λv _=>v=.aC Y0) λ_ _ _=>False)
  (IZ:∀H e s',CX [] H dN (λ_ _ _=>False) e s'->False) :
  kk (bg P w) sq (.call (.ref da) ⟨[.ref a],[]⟩) (λr s'=>r=.ok (.ret<|.bool Y0)/\OldK dN.D s'.D/\s'.os=dN.os/\oJ s'.gens) dN:=by
 have bq:=qn hi;have af8:=hi.H;have core:∀H:aJ,LZ H->gw K H a (ns.map V.int)->gk P w H dN.D->(∀b,H b≠C->b=a)->(H a≠C->K.lookup a=C) ->
   kk (bg P w) sq (.call (.ref da) ⟨[.ref a],[]⟩) (λr s'=>r=.ok (.ret<|.bool Y0)/\OldK dN.D s'.D/\s'.os=dN.os/\oJ s'.gens) dN:=by
  intro H wO fw b1 dt ib;have VF:∀{b:Addr} {o:Obj},dN.heap.get? b=J o->H b=C->(rQ dN.D H).get? b=J o:=λe n=>alz e n;have zR:∀{b:Addr} {o:Obj} {es:Array DictEntry} {ep:Nat},dN.heap.get? b=J o->o.d=.dict es ep->H b=C:=λ{b o es ep} e d=>by
   cases q:H b with
   |none=>rfl
   |some u =>
    have bN:b=a:=dt b (by rw[q];simp);subst bN;rw[ba]at e;exists e;have d':Data.seq ah.Q _=Data.dict es ep:=d
    exists d'
  have DB:∀{b:Addr} {m:Str->Option mt},dN.heap.Ns b m->(rQ dN.D H).Ns b m:=λ{b m} ⟨o,es,ep,e,d,r⟩=>⟨o,es,ep,VF e<|zR e d,d,r⟩
  have O6:K.In<|rQ dN.D H:=λb o e=>VF (lI b o e) (by
   cases q:H b with
   |none=>rfl
   |some u =>
    have bN:b=a:=dt b (by rw[q];simp);subst bN
    rw[ib<|by rw[q];simp]at e;exists e)
  have ei:Mod K a3<|rQ dN.D H:=⟨O6,DB rl,⟨lG,DB aq,aaK⟩,let ⟨HD,af,ak⟩:=af7;⟨HD,DB af,ak⟩⟩
  have dF:yc P w K a3 (rQ dN.D H) sq [] dN H:=⟨rfl,ei,λb o e=>ajF e,d2<|aab _ _,trivial,λb aq=>absurd (show b∈([]:List Addr) from aq) Z7,b1,.of_eq bT⟩
  refine si ((F _ O6<|DB rl).run sq [] dN H ⟨[.ref a],[]⟩ [.ref a] [.ref a] _ _ aU dF (agV dN ZN) (.cons rfl .nil) (lg H wO fw)) λr s' h=>?_;cases r with
  |error e=>exact(IZ H e s' h).elim
  |ok bG =>
   cases bG with
   |next=>exact False.elim h
   |brk=>exact False.elim h
   |cont=>exact False.elim h
   |ret u =>
    obtain⟨v,aj,os,ft,un,af9,b5,q⟩:=h;have eN:v=.aC Y0:=q;subst eN;obtain rfl:u=Value.bool Y0:=b5;refine⟨rfl,OldK.of_keep λb o e=>?_,os,ft⟩;cases q:H b with
    |none=>exact un.keep b o e q (by intro z;exact absurd (show b∈([]:List Addr) from z) Z7) Z7
    |some u =>
     rcases wO b with z|⟨bJ,xs,z⟩
     ·rw[q]at z;exists z
     ·have dE:=un.od b bJ _ z;obtain⟨az,_⟩:=b1 b _ z;obtain⟨au,_⟩:=af9 b _ dE;rw[e]at az;exists az;exact au
 cases aW:K.lookup a with
 |some o =>
  have e:=lI a o aW;rw[ba]at e
  exists e
  refine core (λ_=>C) (λ_=>.inl rfl) (.inr ⟨_,ah.Q,_,aW,rfl,rfl,rfl,by rw[eU,af8];exact aB,by simpa using bq⟩) (λb u z=>by have kT:(C:Option jX)=J u:=z;cases kT) (λb z=>absurd rfl z) λz=>absurd rfl z
 |none =>
  refine core (λb=>if b=a then J (.eo { cls:=.type "list",data:=.seq ah.Q}<|.ao<|ns.map V.int) else C) (λb=>?_) (.inl<|.inr ⟨{ cls:=.type "list",data:=.seq ah.Q},Y2 rfl⟩) (λb u z=>?_) (λb z=>?_) λ_=>aW
  ·by_cases aq:b=a
   ·exact .inr ⟨_,_,Y2 aq⟩
   ·exact .inl<|Y3 aq
  ·by_cases aq:b=a
   ·have kT:=(Y2 aq).symm.trans z
    exists kT
    subst aq;exact⟨ba,by rw[cP];exact aB,ah,_,bq,ba⟩
   ·have kT:=(Y3 aq).symm.trans z
    exists kT
  ·by_cases aq:b=a
   ·exact aq
   ·exact absurd (Y3 aq) z
def ajX{l:W.OpenLaw}{n k:Nat}{q:dx}{loose:List Str}{wN:(Str->Option mt)->Heap->Prop}{sz:c3->Heap->Prop}{d:DefRec}{K:Params->W.Frag}{CX:c3->o5}{sp:c3->kX}{x:Str}
  (bz:l.most=J n) (aaL:n<=dg) (s6:d.params.defaults=[]) (aU:eD k sq)
  (HE:∀(w:c3) (h:Heap),sz w h->(K w.params).In h)
  (F:∀(w:c3) (a3:Str->Option mt) (da:Addr) (h:Heap),(K w.params).In h->h.Ns kS a3->a3 d.name=J (.ref da) ->
   ∃fd:hC,(∀(s:aR) (u:mt),uk s fd ⟨[u],[]⟩ [(x,u)]) /\
    ∀base:Heap,(K w.params).In base->base.Ns kS a3->i2 l.R w (K w.params) a3 base (CX w) k da fd [x] (sp w))
  (lg:∀(w:c3) (H:aJ) (a:Addr) (ns:List Int),ns.H<=n->LZ H->gw (K w.params) H a (ns.map V.int)->sp w [.ref a] H (λv _=>v=.aC Y0) λ_ _ _=>False)
  (IZ:∀(w:c3) (H:aJ) (s:aR) (e:mt) (s':aR),CX w [] H s (λ_ _ _=>False) e s'->False) :
  W.WalkO q loose wN sz l.row.toRowW d [] (λf ah=>PySem.call f ah):=by
 refine O4.anj bz s6 λw cD dN a3 lG da o pm cd doc a ah ns G Y aZ hd g4 zV LY hints ej bT=>?_;have lI:=HE w _ Y;obtain⟨fd,aq,cx⟩:=F w a3 da _ lI G.T.g zV;exact alM lI G.T.g G.T.b G.T.builtins G.T.nolimit bT LY hints (bP ej aaL) aU cx aq (λH wO fw=>lg w H a ns ej wO fw) λH e s'=>IZ w H dN e s'
noncomputable def nT(s:Stmt):Arguments:=match s with
 |.FunctionDef _ a _ _ _ _ _ _ _ _=>a
 |_=>{ posonlyargs:=[],args:=[],vararg:=C,kwonlyargs:=[],kw_defaults:=[],kwarg:=C,defaults:=[]}
noncomputable def ih(s:Stmt):List Stmt:=match s with
 |.FunctionDef _ _ b _ _ _ _ _ _ _=>b
 |_=>[]
noncomputable def er(s:Stmt):js:=match s with
 |.FunctionDef _ _ _ _ _ _ sc _ _ _=>sc
 |_=>{ kind:=.function,names:=[],isGenerator:=Y1,isCoroutine:=Y1}
abbrev iB:o5:=λ_ _ _ _ _ _=>False
abbrev q3:iv:=λ_ _ _=>False
def Un:IS iB X q3:=λ_ _ _ _ _ _ _ h=>h.elim
structure qo (K:W.Frag) (x qual:Str) (st:Stmt) (f:Addr) (fd:hC):Prop where
 ex:∃(ju:mt) (hs:Option Addr) (eB doc pm:mt) (an:Option Addr) (c8 eE:mt) (ql:Array (Option mt)),
  fd=W.fnOf x qual (nT st) (ih st) (er st) .none eB doc pm an c8 eE/\K.lookup f=J ⟨ju,hs,.func fd,ql⟩/\W.codeIn K c8 qual=Y0
 b8:W.keepIn K (.ref f)=Y0
section
variable {P:dx}{w:c3}{K:W.Frag}{a3:Str->Option mt}{base:Heap}
def qo.ok{x qual:Str}{st:Stmt}{f:Addr}{fd:hC}{N ps:List Str}{k:Nat}{sp:kX}(F:qo K x qual st f fd)(cc:mG N ps<|er st)(len:∀ah H Q E,sp ah H Q E->ah.H=ps.H)
  (kL:∀(c8:mt) (A:dI) (cj:List Env) (s:aR) (H:aJ) (ah:List V) (Q:fg) (E:iv),eD k (A.deeper<|i5 qual (er st) s.L f c8)->sp ah H Q E ->
   ∃t,kr (jP iB P w K a3 base N qual (er st) f c8 A cj s H E).lL (ih st) t/\t { bD:=λ_ aj=>Q .br aj,aV:=Q} (start N ah) H):i2 P w K a3 base iB (k+1) f fd ps sp:=by
 obtain⟨ju,hs,eB,doc,pm,an,c8,eE,ql,rfl,fN,g4⟩:=F.ex;refine Uk fN g4 cc len λA cj s H ah Q E aU lg=>?_;obtain⟨t,h,q⟩:=kL c8 A cj s H ah Q E aU lg;exact⟨t,h.lL,q⟩
def qo.binds{x qual:Str}{st:Stmt}{f:Addr}{fd:hC}{ps:List Str}(F:qo K x qual st f fd)
  (h:∀(eB doc pm:mt) (an:Option Addr) (c8 eE:mt) (us:List mt),us.H=ps.H->sl (W.fnOf x qual (nT st) (ih st) (er st) .none eB doc pm an c8 eE) ⟨us,[]⟩=pure (ps.zip us)):Binds K fd ps []:=by
 obtain⟨ju,hs,eB,doc,pm,an,c8,eE,ql,rfl,fN,g4⟩:=F.ex;exact .all<|h eB doc pm an c8 eE
def aii{x qual:Str}{st:Stmt}{f:Addr}{ju:mt}{hs an:Option Addr}{ql:Array<|Option mt}{eB doc pm c8 eE:mt}(l:K.lookup f=J ⟨ju,hs,.func<|W.fnOf x qual (nT st) (ih st) (er st) .none eB doc pm an c8 eE,ql⟩)
  (c:W.codeIn K c8 qual=Y0) (k:W.keepIn K (.ref f)=Y0):qo K x qual st f<|W.fnOf x qual (nT st) (ih st) (er st) .none eB doc pm an c8 eE:=⟨⟨ju,hs,eB,doc,pm,an,c8,eE,ql,rfl,l,c⟩,k⟩
end
def FZ{A B:Prop}(h:B):if Y1=Y0 then A else B:=by rw[Y3 nz];exact h
def F0{A B:Prop}(h:A):if Y0=Y0 then A else B:=by rw[Y2 rfl];exact h
end bj
end
namespace bj.bO
open PySem
noncomputable abbrev ix:=Sum Int Str
inductive T where
 |br|aC (b:Bool)|int (i:Int)|str (x:Str)|aD (xs:List T)|ao (xs:List T)|bk (ay:List<|ix×T)|dq
 |bJ (a:Nat)
inductive bo where
 |aE|cZ|i3|ag
 deriving DecidableEq
noncomputable def ho:T->Bool
 |.ao _=>Y0
 |.bk _=>Y0
 |_=>Y1
noncomputable abbrev bE:=List<|Option ZJ
noncomputable abbrev bM:=bE->Nat->Option Zh
noncomputable abbrev fb:=bE->Nat->Option (Bool×Nat)
noncomputable abbrev gh:=bE->Nat->Option (List T×Nat)
noncomputable abbrev ic:=bE->Nat->Option (List T×Nat)
inductive hG where
 |bD|gs|eE|aV (t:T) (aE:Bool)
noncomputable abbrev bw:=bE->Nat->Option (hG×bE×Nat)
noncomputable abbrev cY:=List (T×Bool)->Nat->Option (T×Bool×Nat)
noncomputable abbrev iy:=bE->Nat->Option (List (T×Bool)×Nat)
noncomputable def eP(b:Bool):bo:=match b with
 |true=>.aE
 |false=>.ag
noncomputable def bh:Nat:=1000000
noncomputable def look(m:bo)(t:T):bo:=match m with
 |.aE=>if ho t then .i3 else .ag
 |.cZ=>if ho t then .cZ else .ag
 |.i3=>.i3
 |.ag=>.ag
noncomputable def ai(i:Nat):bM:=λS n=>match S[i]? with
 |some (J (t,m))=>J (t,look m t,n)
 |_=>C
noncomputable def aw(t:T):bM:=λ_ n=>J (t,.ag,n)
noncomputable def eo(t:T)(m:bo):Option T:=match m with
 |.aE=>J t
 |.ag=>J t
 |_=>if ho t then C else J t
noncomputable def aY(d:bM):bM:=λS n=>(d S n).bind λr=>(eo r.1 r.2.1).map λt=>(t,.ag,r.2.2)
noncomputable def ar:gh:=λ_ n=>J ([],n)
noncomputable def aa(d:bM)(r:gh):gh:=λS n=>(d S n).bind λa=>(r S a.2.2).map λb=>(a.1::b.1,b.2)
noncomputable abbrev eC:=Nat->List T->Option ZJ
noncomputable def aH(g:eC)(a:gh):bM:=λS n=>(a S n).bind λr=>(g r.2 r.1).map λx=>(x.1,x.2,r.2)
noncomputable def flag(m:bo)(t:T):Bool:=match m with
 |.aE=>Y0
 |.ag=>Y0
 |_=>!ho t
noncomputable def a9:iy:=λ_ n=>J ([],n)
noncomputable def ax(d:bM)(r:iy):iy:=λS n=>(d S n).bind λa=>(r S a.2.2).map λb=>((a.1,flag a.2.1 a.1)::b.1,b.2)
noncomputable def bB(dU:Nat)(f:cY)(a:iy):bM:=λS n=>(a S n).bind λr=>if r.1.H=dU then(f r.1 r.2).map λx=>(x.1,eP x.2.1,x.2.2) else C
noncomputable def cw(a:gh):bM:=λS n=>(a S n).bind λr=>if r.1.H<=bh then J (.aD r.1,.ag,r.2) else C
noncomputable def dG(a:gh):bM:=λS n=>(a S n).bind λr=>if r.1.H<=bh then J (.ao r.1,.aE,r.2) else C
noncomputable def s7(c:fb)(a b:bM):bM:=λS n=>(c S n).bind λr=>if r.1 then a S r.2 else b S r.2
noncomputable def rm(a b:bM):bM:=λS n=>(a S n).bind λr=>match r.1 with
 |.aC Y0=>b S r.2.2
 |.aC Y1=>J (.aC Y1,.ag,r.2.2)
 |_=>C
noncomputable def jF:T->Option Bool
 |.br=>J Y1
 |.aC b=>J b
 |.int i=>J<|i != 0
 |.aD xs=>J<|!xs.isEmpty
 |.ao xs=>J<|!xs.isEmpty
 |.bk ay=>J<|!ay.isEmpty
 |_=>C
noncomputable def bK(d:bM):fb:=λS n=>(d S n).bind λr=>(jF r.1).map λb=>(b,r.2.2)
noncomputable def eu(c:fb):fb:=λS n=>(c S n).map λr=>(!r.1,r.2)
noncomputable def pE(a b:fb):fb:=λS n=>(a S n).bind λr=>if r.1 then b S r.2 else J (Y1,r.2)
noncomputable def hY(a b:fb):fb:=λS n=>(a S n).bind λr=>if r.1 then J (Y0,r.2) else b S r.2
noncomputable def xf(c:fb):bM:=λS n=>(c S n).map λr=>(.aC<|!r.1,.ag,r.2)
noncomputable def iI:ix->T
 |.inl i=>.int i
 |.inr x=>.str x
noncomputable def walked(t:T)(m:bo):Option<|List T:=match t with
 |.ao xs=>J xs
 |.aD xs=>J xs
 |.bk ay=>match m with
  |.ag=>J (ay.map λc9=>iI c9.1)
  |.aE=>J (ay.map λc9=>iI c9.1)
  |_=>C
 |_=>C
noncomputable def fK(d:bM):ic:=λS n=>(d S n).bind λr=>(walked r.1 r.2.1).map λxs=>(xs,r.2.2)
noncomputable def iJ(d:bM):ic:=λS n=>(d S n).bind λr=>match r.2.1 with
 |.i3=>C
 |m=>(walked r.1 m).map λxs=>(xs,r.2.2)
noncomputable def ip(lo hi:Int):List T:=(List.range (hi-lo).M).map λ(k:Nat)=>.int<|lo+k
noncomputable def iC(a:gh):ic:=λS n=>(a S n).bind λr=>match r.1 with
 |[.int j]=>if-bh<=j/\j<=bh then J (ip 0 j,r.2) else C
 |_=>C
noncomputable def Gh(a:gh):ic:=λS n=>(a S n).bind λr=>match r.1 with
 |[.int i,.int j]=>if-bh<=i/\i<=bh /\ -bh<=j/\j<=bh then J (ip i j,r.2) else C
 |_=>C
noncomputable def iV(put:T->bE->Option bE)(c:fb)(e:bM):List T->bE->Nat->List T->Option (List T×Nat)
 |[],_,n,acc=>J (acc,n)
 |x::xs,S,n,acc=>(put x S).bind λS'=>(c S' n).bind λb=>if b.1 then(aY e S' b.2).bind λr=>if acc.H<bh then iV put c e xs S' r.2.2 (acc++[r.1]) else C
  else iV put c e xs S' b.2 acc
noncomputable def et(it:ic)(src:bE->bE)(put:T->bE->Option bE)(c:fb)(e:bM):bM:=λS n =>
 (it S n).bind λr=>(iV put c e r.1 (src S) r.2 []).map λa=>(.ao a.1,.aE,a.2)
noncomputable def yes:fb:=λ_ n=>J (Y0,n)
noncomputable def cB(i:Nat):T->bE->Option bE:=λt S=>J<|S.set i Zp
noncomputable def zW(i j:Nat):T->bE->Option bE:=λt S=>match t with
 |.aD [a,b]=>J<|(S.set i<|some (a,.ag)).set j (J (b,.ag))
 |_=>C
noncomputable def ck(l:List<|Option Nat):bE->bE:=λS=>l.map λo=>o.bind λj=>(S[j]?).join
noncomputable def e7:bw:=λS n=>J (.bD,S,n)
noncomputable def bL(a b:bw):bw:=λS n=>(a S n).bind λr=>match r.1 with
 |.bD=>b r.2.1 r.2.2
 |f=>J (f,r.2.1,r.2.2)
noncomputable def dM(i:Nat)(d:bM):bw:=λS n=>(d S n).bind λr=>match r.2.1 with
 |.aE=>J (.bD,S.set i<|some (r.1,.aE),r.2.2)
 |.ag=>J (.bD,S.set i<|some (r.1,.ag),r.2.2)
 |_=>C
noncomputable def TR(put:T->bE->Option bE)(d:bM):bw:=λS n=>(aY d S n).bind λr=>(put r.1 S).map λS'=>(.bD,S',r.2.2)
noncomputable def eG(c:fb)(a b:bw):bw:=λS n=>(c S n).bind λr=>if r.1 then a S r.2 else b S r.2
noncomputable def cT(d:bM):bw:=λS n=>(d S n).bind λr=>match r.2.1 with
 |.aE=>J (.aV r.1 Y0,S,r.2.2)
 |.ag=>J (.aV r.1 Y1,S,r.2.2)
 |_=>C
noncomputable def s8(i:Nat):bw:=λS n=>match S[i]? with
 |some (J (t,.aE))=>J (.aV t Y0,S,n)
 |some (J (t,.ag))=>J (.aV t Y1,S,n)
 |some (J (t,.cZ))=>if ho t then C else J (.aV t Y1,S,n)
 |_=>C
noncomputable def fD(i:Nat)(d:bw):bw:=λS n=>match S[i]? with
 |some (J (t,.aE))=>d (S.set i Zp) n
 |_=>d S n
noncomputable def dO(i:Nat)(d:bw):bw:=λS n=>match S[i]? with
 |some (J (.bk ay,.aE))=>d (S.set i<|some (.bk ay,.ag)) n
 |_=>d S n
noncomputable def fG(put:T->bE->Option bE)(b:bw):List T->bE->Nat->Option (hG×bE×Nat)
 |[],S,n=>J (.bD,S,n)
 |x::xs,S,n=>(put x S).bind λS1=>(b S1 n).bind λr=>match r.1 with
  |.bD=>fG put b xs r.2.1 r.2.2
  |.eE=>fG put b xs r.2.1 r.2.2
  |.gs=>J (.bD,r.2.1,r.2.2)
  |.aV t m=>J (.aV t m,r.2.1,r.2.2)
noncomputable def iK(it:ic)(put:T->bE->Option bE)(b:bw):bw:=λS n=>(it S n).bind λr=>fG put b r.1 S r.2
noncomputable def iW(c:fb)(b:bw):Nat->bE->Nat->Option (hG×bE×Nat)
 |0,_,_=>C
 |k+1,S,n=>(c S n).bind λt=>if t.1 then(b S t.2).bind λr=>match r.1 with
   |.bD=>iW c b k r.2.1 r.2.2
   |.eE=>iW c b k r.2.1 r.2.2
   |.gs=>J (.bD,r.2.1,r.2.2)
   |.aV t m=>J (.aV t m,r.2.1,r.2.2)
  else J (.bD,S,t.2)
noncomputable def DC(c:fb)(b:bw):bw:=λS n=>iW c b 100000 S n
noncomputable def DD(i:Nat):bw:=λS n=>match S[i]? with
 |some (J (.dq,_))=>if n<bh then J (.bD,S,n+1) else C
 |_=>C
noncomputable def hN(i:Nat)(g:T->T->Option T)(d:bM):bw:=λS n=>(aY d S n).bind λr=>match S[i]? with
 |some (J (t,.aE))=>(g t r.1).map λt'=>(.bD,S.set i<|some (t',.aE),r.2.2)
 |_=>C
noncomputable def rT:T->T->Option T
 |.ao xs,y=>if xs.H<bh then J (.ao<|xs++[y]) else C
 |_,_=>C
noncomputable def jQ:T->T->Option T
 |.ao xs,.ao aO=>if xs.H+aO.H<=bh then J (.ao<|xs++aO) else C
 |.ao xs,.aD aO=>if xs.H+aO.H<=bh then J (.ao<|xs++aO) else C
 |_,_=>C
noncomputable def qp(i:Nat)(g:T->T->T->Option T)(k v:bM):bw:=λS n=>(aY v S n).bind λr=>(k S r.2.2).bind λq=>match S[i]? with
 |some (J (t,.aE))=>(g t q.1 r.1).map λt'=>(.bD,S.set i<|some (t',.aE),q.2.2)
 |_=>C
noncomputable def c0(many:Nat)(b:bw):cY:=λaA n =>
 (b (aA.map (λt=>J (t.1,if t.2 then .ag else .cZ))++List.replicate (many-aA.H) C) n).bind λr=>match r.1 with
  |.aV t m=>J (t,m,r.2.2)
  |.bD=>J (.br,Y1,r.2.2)
  |_=>C
noncomputable def dZ(aN:Int->Int->Bool)(g:Int->Int->T):eC:=λ_ aA=>match aA with
 |[.int a,.int b]=>if aN a b then J (g a b,.ag) else C
 |_=>C
noncomputable def ek:eC:=λ_ aA=>match aA with
 |[.int a,.int b]=>J (.int<|a+b,.ag)
 |[.aD a,.aD b]=>if a.H+b.H<=bh then J (.aD<|a++b,.ag) else C
 |[.ao a,.ao b]=>if a.H+b.H<=bh then J (.ao<|a++b,.aE) else C
 |_=>C
noncomputable def kc:eC:=dZ (λ_ _=>Y0) λa b=>.int<|a-b
noncomputable def small(i:Int):Bool:=decide (i.natAbs<2^64)
noncomputable def kG:eC:=λ_ aA=>match aA with
 |[.int a,.int b]=>if small a||small b then J (.int<|a*b,.ag) else C
 |[.aD a,.int k]=>if a.H<=1000 /\ -1000<=k/\k<=10000/\a.H*k.M<=bh then J (.aD (List.replicate k.M a).flatten,.ag) else C
 |_=>C
noncomputable def og:eC:=dZ (λ_ b=>decide (0<b)) λa b=>.int<|a%b
noncomputable def F1:eC:=dZ (λ_ b=>decide (0<b)&&decide (b.natAbs<1073741824)) λa b=>.int<|a / b
noncomputable def eF:eC:=dZ (λ_ _=>Y0) λa b=>.aC<|decide (a<b)
noncomputable def fL:eC:=dZ (λ_ _=>Y0) λa b=>.aC<|decide (a<=b)
noncomputable def rn:eC:=dZ (λ_ _=>Y0) λa b=>.aC<|decide (b<a)
noncomputable def nU:T->Bool
 |.br=>Y0
 |_=>Y1
noncomputable def oh:eC:=λ_ aA=>match aA with
 |[t]=>J (.aC<|nU t,.ag)
 |_=>C
noncomputable def fe:eC:=λn aA=>match aA with
 |[.ao xs]=>J (.int xs.H,.ag)
 |[.aD xs]=>J (.int xs.H,.ag)
 |[.bk ay]=>J (.int ay.H,.ag)
 |[.dq]=>J (.int n,.ag)
 |_=>C
noncomputable def gF(xs:List T)(i:Int):Option T :=
 if 0<=i then(if i<xs.H then xs[i.M]? else C) else if-(xs.H:Int)<=i then xs[(i+xs.H).M]? else C
noncomputable def ke:T->Option ix
 |.int i=>J<|.inl i
 |.str x=>J<|.inr x
 |_=>C
noncomputable def iX(ay:List<|ix×T)(k:ix):Option T:=(ay.find? λc9=>decide (c9.1=k)).map (·.2)
noncomputable def j7(ay:List<|ix×T)(k:ix)(v:T):List (ix×T) :=
 if(ay.any λc9=>decide (c9.1=k))=Y0 then ay.map (λc9=>if c9.1=k then(c9.1,v) else c9) else ay++[(k,v)]
noncomputable def dv:eC:=λ_ aA=>match aA with
 |[.ao xs,.int i]=>(gF xs i).map λt=>(t,.ag)
 |[.aD xs,.int i]=>(gF xs i).map λt=>(t,.ag)
 |[.bk ay,k]=>(ke k).bind λk=>(iX ay k).map λt=>(t,.ag)
 |_=>C
noncomputable def mn:eC:=λ_ aA=>match aA with
 |[.bk ay,k,x]=>if ho x then C else(ke k).map λk=>((iX ay k).getD x,.ag)
 |_=>C
noncomputable def qN:T->T->T->Option T
 |.ao xs,.int i,v=>if 0<=i/\i<xs.H then J (.ao<|xs.set i.M v) else C
 |.bk ay,k,v=>(ke k).bind λk=>if ay.H<bh then J (.bk<|j7 ay k v) else C
 |_,_,_=>C
mutual
noncomputable def dV:T->T->Bool
 |.br,.br=>Y0
 |.aC a,.aC b=>a==b
 |.aC a,.int b=>(if a then 1 else 0)==b
 |.int a,.aC b=>a==(if b then 1 else 0)
 |.int a,.int b=>a==b
 |.str a,.str b=>a==b
 |.aD a,.aD b=>iL a b
 |.ao a,.ao b=>iL a b
 |_,_=>Y1
noncomputable def iL:List T->List T->Bool
 |[],[]=>Y0
 |x::xs,y::aO=>dV x y&&iL xs aO
 |_,_=>Y1
end
noncomputable def d0:Nat->T->Bool
 |_,.bk _=>Y1
 |_,.dq=>Y1
 |_,.bJ _=>Y1
 |0,.aD _=>Y1
 |0,.ao _=>Y1
 |k+1,.aD a=>a.all<|d0 k
 |k+1,.ao a=>a.all<|d0 k
 |_,_=>Y0
noncomputable def o6:T->T->Option Bool
 |.bk a,.bk b=>if b.isEmpty then J a.isEmpty else C
 |a,b=>if d0 6 a&&d0 6 b then J (dV a b) else C
noncomputable def gn:eC:=λ_ aA=>match aA with
 |[a,b]=>(o6 a b).map λr=>(.aC r,.ag)
 |_=>C
noncomputable def gp:eC:=λ_ aA=>match aA with
 |[a,b]=>(o6 a b).map λr=>(.aC<|!r,.ag)
 |_=>C
inductive Ty where
 |int|bool|list|tuple|str|dict
noncomputable def oj:Ty->T->Option Bool
 |.int,.int _=>J Y0
 |.int,.aC _=>J Y0
 |.bool,.aC _=>J Y0
 |.list,.ao _=>J Y0
 |.tuple,.aD _=>J Y0
 |.str,.str _=>J Y0
 |.dict,.bk _=>J Y0
 |_,.dq=>C
 |_,.bJ _=>C
 |_,_=>J Y1
noncomputable def dS(k:Ty):eC:=λ_ aA=>match aA with
 |[t]=>(oj k t).map λb=>(.aC b,.ag)
 |_=>C
noncomputable def hQ:List T->Option (List Bool)
 |[]=>J []
 |.aC b::r=>(hQ r).map (b::·)
 |_=>C
noncomputable def e3:List T->Option ZA
 |[]=>J []
 |.int i::r=>(e3 r).map (i::·)
 |_=>C
noncomputable def jk:eC:=λ_ aA=>match aA with
 |[.ao xs]=>(hQ xs).map λbs=>(.aC<|bs.all id,.ag)
 |_=>C
noncomputable def nV:eC:=λ_ aA=>match aA with
 |[.ao xs]=>J (.ao xs,.aE)
 |[.aD xs]=>J (.ao xs,.aE)
 |[.bk ay]=>J (.ao (ay.map λc9=>iI c9.1),.aE)
 |_=>C
noncomputable def qq:eC:=λ_ aA=>match aA with
 |[.ao xs]=>J (.aD xs,.ag)
 |[.aD xs]=>J (.aD xs,.ag)
 |_=>C
noncomputable def ins(x:Int):List Int->List Int
 |[]=>[x]
 |y::aO=>if x<=y then x::y::aO else y::ins x aO
noncomputable def sortI:List Int->List Int
 |[]=>[]
 |x::xs=>ins x<|sortI xs
noncomputable def gb:List Int->List Int->Bool
 |[],[]=>Y1
 |[],_::_=>Y0
 |_::_,[]=>Y1
 |x::xs,y::aO=>if x==y then gb xs aO else decide (x<y)
noncomputable def vW(x:List Int):List ZA->List ZA
 |[]=>[x]
 |y::aO=>if gb y x then y::vW x aO else x::y::aO
noncomputable def hL:List ZA->List ZA
 |[]=>[]
 |x::xs=>vW x<|hL xs
noncomputable def aG(l:List Int):T:=.aD<|l.map .int
noncomputable def mq:List T->Option (List ZA)
 |[]=>J []
 |.aD (x::xs)::r=>(e3<|x::xs).bind λl=>(mq r).map (l::·)
 |_=>C
noncomputable def xg:eC:=λ_ aA=>match aA with
 |[.ao xs]=>match e3 xs with
  |some ns=>J (.ao<|(sortI ns).map .int,.aE)
  |none=>(mq xs).map λls=>(.ao<|(hL ls).map aG,.aE)
 |[.aD xs]=>(e3 xs).map λns=>(.ao<|(sortI ns).map .int,.aE)
 |_=>C
noncomputable def hZ(ns:List Int):List Int:=ns.foldr (λx r=>if x∈r then r else x::r) []
noncomputable def itemsOf:List (ix×T)->Option (List Z6)
 |[]=>J []
 |(.inl k,.int v)::r=>(itemsOf r).map ((k,v)::·)
 |_=>C
noncomputable def jG(p:Int×Int):List Int:=[p.1,p.2]
noncomputable def DE:eC:=λ_ aA=>match aA with
 |[.bk ay]=>(itemsOf ay).map λps=>(.ao<|(hL<|ps.map jG).map aG,.aE)
 |_=>C
noncomputable def qQ:List T->Option (List<|ix×T)
 |[]=>J []
 |.aD [k,v]::r=>(ke k).bind λk=>(qQ r).map ((k,v)::·)
 |_=>C
noncomputable def xh:eC:=λ_ aA=>match aA with
 |[.ao xs]=>(qQ xs).bind λps=>if ps.H<bh then J (.bk<|ps.foldl (λd p=>j7 d p.1 p.2) [],.aE) else C
 |[.bk ay]=>J (.bk ay,.aE)
 |_=>C
noncomputable def least:List Int->Option Int
 |[]=>C
 |x::xs=>J<|xs.foldl (λa b=>if b<a then b else a) x
noncomputable def tS:List (ix×T)->Option ZA
 |[]=>J []
 |(.inl k,_)::r=>(tS r).map (k::·)
 |_=>C
noncomputable def vX:eC:=λ_ aA=>match aA with
 |[.ao xs]=>(e3 xs).bind λns=>(least ns).map λi=>(.int i,.ag)
 |[.bk ay]=>(tS ay).bind λns=>(least ns).map λi=>(.int i,.ag)
 |[.int a,.int b]=>J (.int (if b<a then b else a),.ag)
 |_=>C
noncomputable def uZ:eC:=λ_ aA=>match aA with
 |[.aD xs,.int y]=>(e3 xs).map λns=>(.int (ns.filter λx=>x==y).H,.ag)
 |_=>C
noncomputable def cI:List Int->Int
 |[]=>0
 |x::xs=>x+cI xs
noncomputable def bound(n d:Nat):Option Int->Nat
 |none=>d
 |some v=>if v<0 then(v+(n:Int)).M else min v.M n
noncomputable abbrev y4:=bE->Nat->Option (Option Int×Nat)
noncomputable def lM:y4:=λ_ n=>J (C,n)
noncomputable def lN(d:bM):y4:=λS n=>(d S n).bind λr=>match r.1 with
 |.int i=>J (J i,r.2.2)
 |_=>C
noncomputable def jl(xs:List T)(lo hi:Option Int):List T:=(xs.drop<|bound xs.H 0 lo).take (bound xs.H xs.H hi-bound xs.H 0 lo)
noncomputable def Md:bM:=λ_ n=>J (.bk [],.aE,n)
noncomputable def Me(k v:bM):bM:=λS n=>(k S n).bind λa=>(ke a.1).bind λk=>(v S a.2.2).map λb=>(.bk [(k,b.1)],.aE,b.2.2)
noncomputable def gx(g h:eC)(a b c:bM):bM:=λS n=>(a S n).bind λx=>(b S x.2.2).bind λy=>(g y.2.2 [x.1,y.1]).bind λr=>match r.1 with
 |.aC Y0=>(c S y.2.2).bind λz=>(h z.2.2 [y.1,z.1]).map λq=>(q.1,q.2,z.2.2)
 |.aC Y1=>J (.aC Y1,.ag,y.2.2)
 |_=>C
noncomputable def jh:bw:=λ_ _=>C
noncomputable def eT(d:bM):bw:=λS n=>(d S n).map λr=>(.bD,S,r.2.2)
noncomputable def ro(i j:Nat):bw:=λS n=>match S[j]? with
 |some (J (t,.aE))=>J (.bD,(S.set j C).set i (J (t,.aE)),n)
 |some (J (t,.ag))=>J (.bD,S.set i Zp,n)
 |some (J (t,.cZ))=>if ho t then C else J (.bD,S.set i Zp,n)
 |_=>C
theorem I0(x:Int):∀l:List Int,(ins x l).Perm (x::l)
 |[]=>.refl _
 |y::aO=>by
  unfold ins;split
  ·exact .refl _
  ·exact((I0 x aO).cons y).trans (.swap x y aO)
theorem sortI_perm:∀l:List Int,(sortI l).Perm l
 |[]=>.refl _
 |x::xs=>(I0 x _).trans ((sortI_perm xs).cons x)
theorem O7(x:Int):∀{l:List Int},l.Pairwise (·<=·)->(ins x l).Pairwise (·<=·)
 |[],_=>by unfold ins;simp
 |y::aO,h=>by
  unfold ins;obtain⟨af,ak⟩:=jT.mp h;split
  ·rename_i lO
   exact jT.mpr ⟨λz hz=>by
    rcases d4.mp hz with rfl|hz
    ·exact lO
    ·exact jq lO<|af z hz,h⟩
  ·rename_i lO;refine jT.mpr ⟨λz hz=>?_,O7 x ak⟩;rcases d4.mp ((I0 x aO).mem_iff.mp hz) with rfl|hz
   ·exact kQ<|sg lO
   ·exact af z hz
theorem rp:∀l:List Int,(sortI l).Pairwise (·<=·)
 |[]=>.nil
 |x::xs=>O7 x<|rp xs
theorem O8:∀{a b:List Int},a.Pairwise (·<=·)->b.Pairwise (·<=·)->a.Perm b->a=b
 |[],b,_,_,p=>(p.nil_eq)
 |x::a,[],_,_,p=>by have:=p.length_eq;simp at this
 |x::a,y::b,ba,aq,p=>by
  obtain⟨xi,I1⟩:=jT.mp ba;obtain⟨xk,I2⟩:=jT.mp aq;have lO:x<=y:=by
   rcases d4.mp (p.mem_iff.mpr (dT ..)) with e|e
   ·exact Hg e.symm
   ·exact xi y e
  have I3:y<=x:=by
   rcases d4.mp (p.mem_iff.mp (dT ..)) with e|e
   ·exact Hg e.symm
   ·exact xk x e
  have:x=y:=(Int.le_antisymm lO I3)
  subst this;rw[O8 I1 I2<|(List.perm_cons x).mp p]
def zX(p:a.Perm b)(h:a.Pairwise (·<=·)):a=sortI b:=O8 h (rp b)<|p.trans (sortI_perm b).symm
theorem zY:∀l:List Int,gb l l=Y1
 |[]=>rfl
 |x::xs=>by unfold gb;simp[zY xs]
theorem zZ:∀{a b c:List Int},gb a b=Y0->gb b c=Y0->gb a c=Y0
 |[],[],_,h,_=>by exists h
 |[],_::_,[],_,h=>by exists h
 |[],_::_,_::_,_,_=>rfl
 |_::_,[],_,h,_=>by exists h
 |_::_,_::_,[],_,h=>by exists h
 |x::xs,y::aO,z::zs,h,h'=>by
  unfold gb at h h' |-;by_cases e:x=y
  ·subst e;simp only[beq_self_eq_true,if_true]at h;by_cases bN:x=z
   ·subst bN;simp only[beq_self_eq_true,if_true]at h' |-;exact zZ h h'
   ·simp only[beq_iff_eq,bN,if_false]at h' |-;exact h'
  ·simp only[beq_iff_eq,e,if_false,decide_eq_true_eq]at h;by_cases bN:y=z
   ·subst bN;simp only[beq_iff_eq,e,if_false,decide_eq_true_eq];exact h
   ·simp only[beq_iff_eq,bN,if_false,decide_eq_true_eq]at h';have:¬x=z:=(yL<|B7 h<|kQ h')
    simp only[beq_iff_eq,this,if_false,decide_eq_true_eq];exact B7 h<|kQ h'
theorem DF:∀{a b:List Int},gb a b=Y1->gb b a=Y1->a=b
 |[],[],_,_=>rfl
 |[],_::_,h,_=>by exists h
 |_::_,[],_,h=>by exists h
 |x::xs,y::aO,h,h'=>by
  unfold gb at h h';by_cases e:x=y
  ·subst e;simp only[beq_self_eq_true,if_true]at h h';rw[DF h h']
  ·have au:¬y=x:=λz=>e z.symm;simp only[beq_iff_eq,e,au,if_false,decide_eq_false_iff_not]at h h';lia
noncomputable def rank(nss:List ZA)(l:List Int):Nat:=nss.countP λz=>gb z l
theorem O9{α:Type}{p q:α->Bool}{y:α}:∀{l:List α},(∀z,p z=Y0->q z=Y0)->y∈l->p y=Y1->q y=Y0->l.countP p<l.countP q
 |[],_,aK,_,_=>by simp at aK
 |x::xs,h,aK,af,ak=>by
  have mono:xs.countP p<=xs.countP q:=MB λz _ hz=>h z hz;rw[oz,oz];rcases d4.mp aK with rfl|aK
  ·rw[af,ak];simp;exact t5 mono
  ·have a4:=O9 h aK af ak;by_cases e:p x=Y0
   ·rw[e,h x e];exact t5 a4
   ·have:p x=Y1:=by cases z:p x<;>simp_all
    rw[this];simp;exact oC a4
def I4(ba:a∈nss):decide (rank nss a<rank nss b)=gb a b:=by
 cases e:gb a b with
 |true =>
  have:=O9 (l:=nss) (y:=a) (p:=λz=>gb z a) (q:=λz=>gb z b) (λz hz=>zZ hz e) ba (zY a) e;simp[rank,this]
 |false =>
  have:rank nss b<=rank nss a:=by
   unfold rank;refine MB λz _ hz=>?_;cases au:gb b a with
   |true=>exact zZ hz au
   |false=>rw[DF e au];exact hz
  simp;exact this
theorem I5(x:List Int):∀l,(vW x l).Perm (x::l)
 |[]=>.refl _
 |y::aO=>by
  unfold vW;split
  ·exact((I5 x aO).cons y).trans (.swap x y aO)
  ·exact .refl _
theorem DG:∀l,(hL l).Perm l
 |[]=>.refl _
 |x::xs=>(I5 x<|hL xs).trans ((DG xs).cons x)
noncomputable abbrev nW(a b:List Int):Prop:=gb b a=Y1
def aaM(h:nW a b)(h':nW b c):nW a c:=by
 cases e:gb c a with
 |false=>exact e
 |true =>
  cases au:gb a b with
  |true=>have:=zZ e au;rw[h']at this;exists this
  |false=>have:=DF au h;subst this;rw[h']at e;exists e
theorem Pa(x:List Int):∀{l:List ZA},l.Pairwise nW->(vW x l).Pairwise nW
 |[],_=>by unfold vW;simp
 |y::aO,h=>by
  obtain⟨af,ak⟩:=jT.mp h;unfold vW;split
  ·rename_i lO;refine jT.mpr ⟨λz hz=>?_,Pa x ak⟩;rcases d4.mp ((I5 x aO).mem_iff.mp hz) with rfl|hz
   ·cases e:gb z y with
    |false=>exact e
    |true=>have:=zZ lO e;rw[zY]at this;exists this
   ·exact af z hz
  ·rename_i lO;have lO:nW x y:=by simpa using lO
   exact jT.mpr ⟨λz hz=>by
    rcases d4.mp hz with rfl|hz
    ·exact lO
    ·exact aaM lO<|af z hz,h⟩
theorem Pb:∀l,(hL l).Pairwise nW
 |[]=>.nil
 |x::xs=>Pa x<|Pb xs
theorem Pc:∀{a b:List ZA},a.Pairwise nW->b.Pairwise nW->a.Perm b->a=b
 |[],b,_,_,p=>(p.nil_eq)
 |x::a,[],_,_,p=>by have:=p.length_eq;simp at this
 |x::a,y::b,ba,aq,p=>by
  obtain⟨xi,I1⟩:=jT.mp ba;obtain⟨xk,I2⟩:=jT.mp aq;have lO:nW x y:=by
   rcases d4.mp (p.mem_iff.mpr (dT ..)) with e|e
   ·rw[e];exact zY _
   ·exact xi y e
  have I3:nW y x:=by
   rcases d4.mp (p.mem_iff.mp (dT ..)) with e|e
   ·rw[e];exact zY _
   ·exact xk x e
  have:x=y:=DF I3 lO;subst this;rw[Pc I1 I2<|(List.perm_cons x).mp p]
def Pd(p:a.Perm b)(h:a.Pairwise nW):a=hL b:=Pc h (Pb b)<|p.trans (DG b).symm
noncomputable def rq(n:Nat):List T->Option ZA
 |[.ao xs]=>(e3 xs).bind λns=>if ns.H+1<4096 then J ns else C
 |[.aD xs]=>(e3 xs).bind λns=>if ns.H+1<4096 then J ns else C
 |_=>C
noncomputable def DH:eC:=λn aA=>(rq n aA).map λns=>(.ao<|(sortI<|hZ ns).map .int,.aE)
noncomputable def Pe:eC:=λn aA=>(rq n aA).map λns=>(.int (hZ ns).H,.ag)
noncomputable def pF:eC:=λ_ aA=>match aA with
 |[.int a]=>J (.int<|-a,.ag)
 |_=>C
noncomputable def L0:eC:=λ_ aA=>match aA with
 |[.ao xs]=>(hQ xs).map λbs=>(.aC<|bs.any id,.ag)
 |_=>C
noncomputable def g5:T->Bool
 |.br=>Y0
 |.aC _=>Y0
 |.int _=>Y0
 |.str _=>Y0
 |_=>Y1
noncomputable def tL(xs:List T)(y:T):Nat:=xs.countP λx=>dV x y
noncomputable def I6:eC:=λ_ aA=>match aA with
 |[.ao xs,y]=>if g5 y=Y0/\(xs.all g5)=Y0 then J (.int<|tL xs y,.ag) else C
 |_=>C
noncomputable def o7(ns:List Int)(many:Nat):bE:=J (.ao<|ns.map .int,.cZ)::J (.dq,.ag)::List.replicate (many-2) C
noncomputable def lY(d:bM)(lo hi:y4):bM:=λS n=>(d S n).bind λx=>(lo S x.2.2).bind λl=>(hi S l.2).bind λh=>match x.1 with
 |.ao xs=>J (.ao<|jl xs l.1 h.1,.aE,h.2)
 |.aD xs=>J (.aD<|jl xs l.1 h.1,.ag,h.2)
 |_=>C
noncomputable def lA(d8 fz:bM):bM:=λS n=>(d8 S n).bind λa=>(fz S a.2.2).bind λb=>match a.1,a.2.1,b.1 with
 |.ao xs,.aE,.int k=>if-1000<=k/\k<=10000/\xs.H*k.M<=bh then J (.ao (List.replicate k.M xs).flatten,.aE,b.2.2) else C
 |_,_,_=>C
noncomputable def xl:eC:=λ_ aA=>match aA with
 |[.aD xs]=>(e3 xs).bind λns=>if ns.H<100000/\(ns.all λx=>decide (x.natAbs<=10000000000000)) then J (.int<|cI ns,.ag) else C
 |[.ao xs]=>(e3 xs).bind λns=>if ns.H<100000/\(ns.all λx=>decide (x.natAbs<=10000000000000)) then J (.int<|cI ns,.ag) else C
 |_=>C
noncomputable def BA(d:bM):bM:=λS n=>(d S n).bind λx=>match x.1 with
 |.ao xs=>J (.ao xs.reverse,.aE,x.2.2)
 |.aD xs=>J (.aD xs.reverse,.ag,x.2.2)
 |_=>C
noncomputable def rr:eC:=λ_ aA=>match aA with
 |[.ao xs]=>(e3 xs).bind λns=>if ns.H<64 then J (.ao<|(sortI ns).map .int,.aE) else C
 |[.aD xs]=>(e3 xs).bind λns=>if ns.H<64 then J (.ao<|(sortI ns).map .int,.aE) else C
 |_=>C
abbrev dm:=bE->Nat->Option (Nat×Nat)
abbrev uw:=bE->Nat->Option Nat
abbrev e8:=List (T×Bool)->Nat->Option (Nat×Nat)
noncomputable def o8:Nat->Str
 |0=>"NoDie"
 |1=>"NoDice"
 |2=>"NoTotals"
 |3=>"NoNumber"
 |4=>"TooMany"
 |5=>"NoText"
 |6=>"NoSide"
 |7=>"NoRoll"
 |8=>"NoChoices"
 |9=>"Against"
 |_=>"Nothing"
noncomputable def fR:dm:=λ_ _=>C
noncomputable def d1(dU:Nat)(f:e8)(a:iy):dm:=λS n=>(a S n).bind λr=>if r.1.H=dU then f r.1 r.2 else C
noncomputable def mf:uw:=λ_ n=>J n
def ux(d:bM)(r:uw):uw:=λS n=>(d S n).bind λa=>match a.1 with
 |.int i=>if small i then r S a.2.2 else C
 |_=>C
noncomputable def mZ(c:Nat)(a:uw):dm:=λS n=>(a S n).map λn'=>(c,n')
noncomputable def dy(cM:dm)(a:bw)(jy:dm):dm:=λS n=>match cM S n with
 |some r=>J r
 |none=>(a S n).bind λr=>match r.1 with
  |.bD=>jy r.2.1 r.2.2
  |_=>C
noncomputable def fH(c:fb)(cM eX:dm):dm:=λS n=>(c S n).bind λr=>if r.1 then cM S r.2 else eX S r.2
noncomputable def s9(put:T->bE->Option bE)(b:bw)(eX:dm):List T->bE->Nat->Option (Nat×Nat)
 |[],_,_=>C
 |x::xs,S,n=>(put x S).bind λS1=>match eX S1 n with
  |some r=>J r
  |none=>(b S1 n).bind λr=>match r.1 with
   |.bD=>s9 put b eX xs r.2.1 r.2.2
   |.eE=>s9 put b eX xs r.2.1 r.2.2
   |_=>C
noncomputable def F2(it:ic)(put:T->bE->Option bE)(b:bw)(eX:dm):dm:=λS n=>(it S n).bind λr=>s9 put b eX r.1 S r.2
noncomputable def fnX(many:Nat)(eX:dm):e8:=λaA n=>eX (aA.map (λt=>J (t.1,if t.2 then .ag else .cZ))++List.replicate (many-aA.H) C) n
def u0{α:Type}(l:List α)(i:Int):Option α:=if 0<=i/\i<l.H then l[i.M]? else C
def ye(k:bM)(cm:List<|Nat×cY)(a:iy):bM:=λS n=>(k S n).bind λr=>match r.1 with
 |.int i=>(u0 cm i).bind λf=>bB f.1 f.2 a S r.2.2
 |_=>C
def F3(k:bM)(cm:List<|Nat×e8)(a:iy):dm:=λS n=>(k S n).bind λr=>match r.1 with
 |.int i=>(u0 cm i).bind λf=>d1 f.1 f.2 a S r.2.2
 |_=>C
noncomputable def m1(a:Nat)(b:Bool):eC:=λ_ aA=>match aA with
 |[.bJ x]=>if x=a then J (.aC b,.ag) else C
 |_=>C
end bj.bO
namespace bj.bO
noncomputable def z0(cs:List Nat)(b:bw)(eX:dm)(h:Nat->Option T):bw:=λS n=>match eX S n with
 |some r=>if r.1∈cs then(h r.1).map λt=>(.aV t Y1,S,r.2) else C
 |none=>b S n
end bj.bO
namespace bj.bO
open PySem
def rt:eC:=λ_ aA=>match aA with
 |[.ao xs]=>(mq xs).bind λls=>if ls.H<64 then J (.ao<|(hL ls).map aG,.aE) else C
 |_=>C
noncomputable def agW(l:List Int):T:=.aD [.int l.H,aG l]
def z1(a:gh):bM:=λS n=>(iC a S n).map λr=>(.ao r.1,.aE,r.2)
def dz(l:List Int):T:=.ao<|l.map .int
def strsOf:List T->Option (List Str)
 |[]=>J []
 |.str x::r=>(strsOf r).map (x::·)
 |_=>C
def j8(i:Int):Str:=Str.ofString<|toString i
def z2:eC:=λ_ aA=>match aA with
 |[.int i]=>if 0<=i/\i<=1000 then J (.str<|j8 i,.ag) else C
 |_=>C
def u1:eC:=λ_ aA=>match aA with
 |[.str sep,.ao xs]=>(strsOf xs).bind λws=>if(ws.map (·.H)).sum+ws.H*sep.H<=bh then J (.str<|Str.join sep ws,.ag) else C
 |_=>C
def aga(x:Str):Option Nat:=(List.range 31).find? λ(k:Nat)=>j8 (k:Int)==x
end bj.bO
namespace bj.bO
open PySem PySem.Spec PyProof.Rows
section
variable (tw:Addr)(H:aJ)
mutual
def aI:T->V->Prop
 |.br,v=>v=.br
 |.aC b,v=>v=.aC b
 |.int i,v=>v=.int i
 |.str x,v=>v=.str x
 |.aD xs,v=>∃a ah,v=.ref a/\H a=J (.aD ah)/\bR xs ah
 |.ao xs,v=>∃a o ah,v=.ref a/\H a=J (.eo o<|.ao ah)/\bR xs ah
 |.bk ay,v=>∃a o ws,v=.ref a/\H a=J (.eo o<|.aw ws)/\cJ ay ws
 |.dq,v=>v=.ref tw
 |.bJ a,v=>v=.ref a
def bR:List T->List V->Prop
 |[],ah=>ah=[]
 |x::xs,ah=>∃v r,ah=v::r/\aI x v/\bR xs r
def cJ:List (Key×T)->List ZW->Prop
 |[],ws=>ws=[]
 |(k,x)::xs,ws=>∃v r,ws=(k,v)::r/\aI x v/\cJ xs r
end
end
def eJ(H aj:aJ):Prop:=∀a,(∀ah,H a=J (.aD ah)->aj a=J (.aD ah))/\∀o u,H a=J (.eo o u)->aj a=J (.eo o u)
structure dn (tw:Addr) (H aj:aJ):Prop where
 to:∀a o,H a=J o->a≠tw->aj a=J o
def df(tw:Addr)(n:Nat)(H:aJ):Prop:=H tw=J (.ao<|List.replicate n<|.int 0)
def eJ.refl(H:aJ):eJ H H:=λ_=>⟨λ_ h=>h,λ_ _ h=>h⟩
def eJ.trans(a:eJ H H1)(b:eJ H1 bV):eJ H bV:=λx=>⟨λah h=>(b x).1 ah ((a x).1 ah h),λo u h=>(b x).2 o u ((a x).2 o u h)⟩
def dn.refl(tw:Addr)(H:aJ):dn tw H H:=⟨λ_ _ h _=>h⟩
def dn.trans(a:dn tw H H1)(b:dn tw H1 bV):dn tw H bV:=⟨λx o h n=>b.to x o (a.to x o h n) n⟩
def dn.all(k:∀a o,H a=J o->aj a=J o):dn tw H aj:=⟨λa o h _=>k a o h⟩
def dn.put(e:dn tw B H)(de:B a=C):dn tw B<|c4 H a o:=⟨λb u q nb=>by rw[e1<|by rintro rfl;rw[de]at q;cases q];exact e.to b u q nb⟩
def df.Mt{n:Nat}(t:df tw n H)(h:H a=J (.aD ah)):a≠tw:=by intro e;subst e;rw[df]at t;rw[t]at h;exists h
def df.Gy{n:Nat}(t:df tw n H)(h:H a=J (.eo o u)):a≠tw:=by intro e;subst e;rw[df]at t;rw[t]at h;exists h
def dn.b0{n:Nat}(t:df tw n H)(e:dn tw H aj):eJ H aj:=λa =>
 ⟨λah h=>e.to a _ h<|t.Mt h,λo u h=>e.to a _ h<|t.Gy h⟩
def eJ.new(h:H p=C):eJ H<|c4 H p o:=λa =>
 ⟨λah e=>by rw[e1<|xa e h];exact e,λ_ _ e=>by rw[e1<|xa e h];exact e⟩
def dn.new(h:H p=C):dn tw H<|c4 H p o:=.all λa u e=>by rw[e1<|xa e h];exact e
def df.new{n:Nat}(t:df tw n H)(h:H p=C):df tw n<|c4 H p o:=by unfold df at*;rw[e1<|xa t h];exact t
mutual
theorem aI.mono(h:eJ H aj):∀(t:T) (v:V),aI tw H t v->aI tw aj t v
 |.br,v,r=>by simpa[aI]using r
 |.aC b,v,r=>by simpa[aI]using r
 |.int i,v,r=>by simpa[aI]using r
 |.str x,v,r=>by simpa[aI]using r
 |.dq,v,r=>by simpa[aI]using r
 |.bJ a,v,r=>by simpa[aI]using r
 |.aD xs,v,r=>by rw[aI]at r |-;obtain⟨a,ah,e,p,q⟩:=r;exact⟨a,ah,e,(h a).1 _ p,bR.mono h xs ah q⟩
 |.ao xs,v,r=>by rw[aI]at r |-;obtain⟨a,o,ah,e,p,q⟩:=r;exact⟨a,o,ah,e,(h a).2 _ _ p,bR.mono h xs ah q⟩
 |.bk xs,v,r=>by rw[aI]at r |-;obtain⟨a,o,ah,e,p,q⟩:=r;exact⟨a,o,ah,e,(h a).2 _ _ p,cJ.mono h xs ah q⟩
theorem bR.mono(h:eJ H aj):∀(t:List T) (v:List V),bR tw H t v->bR tw aj t v
 |[],v,r=>by rw[bR]at r |-;exact r
 |x::xs,v,r=>by rw[bR]at r |-;obtain⟨w,hr,e,p,q⟩:=r;exact⟨w,hr,e,aI.mono h x w p,bR.mono h xs hr q⟩
theorem cJ.mono(h:eJ H aj):∀(t:List (Key×T)) (v:List ZW),cJ tw H t v->cJ tw aj t v
 |[],v,r=>by rw[cJ]at r |-;exact r
 |(k,x)::xs,v,r=>by rw[cJ]at r |-;obtain⟨w,hr,e,p,q⟩:=r;exact⟨w,hr,e,aI.mono h x w p,cJ.mono h xs hr q⟩
end
section
variable {tw:Addr}{H:aJ}
def ji(r:bR tw H [] ah):ah=[]:=by rw[bR]at r;exact r
def hg(r:bR tw H (x::xs) ah):∃v w,ah=v::w/\aI tw H x v/\bR tw H xs w:=by rw[bR]at r;exact r
def bR.nil:bR tw H [] []:=by rw[bR]
def bR.cons{x:T}{v:V}{xs:List T}{ah:List V}(a:aI tw H x v)(b:bR tw H xs ah):bR tw H (x::xs)<|v::ah:=by rw[bR];exact⟨v,ah,rfl,a,b⟩
theorem bR.length:∀{xs:List T} {ah:List V},bR tw H xs ah->xs.H=ah.H
 |[],_,r=>by rw[ji r];rfl
 |_::xs,_,r=>by obtain⟨v,w,rfl,_,q⟩:=hg r;rw[d9,d9,bR.length q]
theorem bR.get:∀{xs:List T} {ah:List V} {i:Nat} {x:T},bR tw H xs ah->xs[i]?=J x->∃v,ah[i]?=J v/\aI tw H x v
 |[],_,_,_,_,e=>by simp at e
 |y::xs,_,0,x,r,e=>by obtain⟨v,w,rfl,p,q⟩:=hg r;simp at e;subst e;exact⟨v,rfl,p⟩
 |y::xs,_,i+1,x,r,e=>by obtain⟨v,w,rfl,p,q⟩:=hg r;obtain⟨u,af,ak⟩:=bR.get (i:=i) (x:=x) q (by simpa using e);exact⟨u,by simpa using af,ak⟩
theorem bR.append:∀{xs aO:List T} {ah ws:List V},bR tw H xs ah->bR tw H aO ws->bR tw H (xs++aO) (ah++ws)
 |[],_,_,_,r,s=>by rw[ji r];exact s
 |x::xs,aO,_,ws,r,s=>by obtain⟨v,w,rfl,p,q⟩:=hg r;exact .cons p<|bR.append q s
theorem bR.take:∀{xs:List T} {ah:List V} (n:Nat),bR tw H xs ah->bR tw H (xs.take n) (ah.take n)
 |_,_,0,_=>by simp;exact .nil
 |[],_,_+1,r=>by rw[ji r];exact .nil
 |x::xs,_,n+1,r=>by obtain⟨v,w,rfl,p,q⟩:=hg r;exact .cons p<|bR.take n q
theorem bR.drop:∀{xs:List T} {ah:List V} (n:Nat),bR tw H xs ah->bR tw H (xs.drop n) (ah.drop n)
 |_,_,0,r=>r
 |[],_,_+1,r=>by rw[ji r];exact .nil
 |x::xs,_,n+1,r=>by obtain⟨v,w,rfl,p,q⟩:=hg r;exact bR.drop n q
theorem bR.set(a:aI tw H x v):∀{xs:List T} {ah:List V} (i:Nat),bR tw H xs ah->bR tw H (xs.set i x) (ah.set i v)
 |[],_,_,r=>by rw[ji r];exact .nil
 |y::xs,_,0,r=>by obtain⟨hT,w,rfl,p,q⟩:=hg r;exact .cons a q
 |y::xs,_,i+1,r=>by obtain⟨hT,w,rfl,p,q⟩:=hg r;exact .cons p<|bR.set a i q
theorem bR.reverse(r:bR tw H xs ah):bR tw H xs.reverse ah.reverse:=by
 induction xs generalizing ah with
 |nil=>rw[ji r];exact .nil
 |cons x xs a4 =>
  obtain⟨v,w,rfl,p,q⟩:=hg r;rw[BR,BR];exact(a4 q).append (.cons p .nil)
theorem bR.rep(r:bR tw H xs ah):∀k:Nat,bR tw H (List.replicate k xs).flatten (List.replicate k ah).flatten
 |0=>.nil
 |k+1=>by rw[ox,ox,tV,tV];exact r.append<|bR.rep r k
def bR.ints(ns:List Int):bR tw H (ns.map T.int)<|ns.map V.int:=by
 induction ns with
 |nil=>exact .nil
 |cons n ns a4=>exact .cons (by rw[aI]) a4
theorem xm:∀{ns:List Int} {ah:List V},bR tw H (ns.map T.int) ah->ah=ns.map V.int
 |[],_,r=>ji r
 |n::ns,_,r=>by obtain⟨v,w,rfl,p,q⟩:=hg r;rw[aI]at p;rw[p,xm q];rfl
end
def u2(K:PySem.W.Frag)(tw:Addr)(H:aJ)(a:Addr)(ah:List V):Prop :=
 (a≠tw/\iN H a (.ao ah)) \/
  (∃(o:Obj) (a5:Array mt) (n:Nat),K.lookup a=J o/\o.cls=.type "list" /\ o.dict=C/\o.d=.seq a5 n/\a5.O<=dg/\cG ah a5.B)
def u2.gi{K:PySem.W.Frag}{tw:Addr}{H:aJ}{a:Addr}{ah:List V}(h:u2 K tw H a ah):gw K H a ah:=h.imp (·.2) id
def u2.ext{K:PySem.W.Frag}{tw:Addr}{H aj:aJ}{a:Addr}{ah:List V}(e:dn tw H aj)(h:u2 K tw H a ah):u2 K tw aj a ah:=by
 rcases h with⟨n,h⟩|h
 ·rcases h with h|⟨o,h⟩
  ·exact .inl ⟨n,.inl<|e.to a _ h n⟩
  ·exact .inl ⟨n,.inr ⟨o,e.to a _ h n⟩⟩
 ·exact .inr h
def ew(K:PySem.W.Frag)(tw:Addr)(H:aJ):T->V->Prop
 |.ao xs,v=>∃a ah,v=.ref a/\u2 K tw H a ah/\bR tw H xs ah
 |.bk ay,v=>∃a ws,v=.ref a/\a≠tw/\iN H a (.aw ws)/\cJ tw H ay ws
 |t,v=>aI tw H t v
def mr(tw:Addr)(H:aJ)(a:Addr):T->Prop
 |.ao xs=>∃ah,H a=J (.ao ah)/\bR tw H xs ah
 |.bk ay=>∃ws,H a=J (.aw ws)/\cJ tw H ay ws
 |_=>False
section
variable {K:PySem.W.Frag}{tw:Addr}{H aj:aJ}{n:Nat}
def ew.Mu(aQ:df tw n H)(r:aI tw H t v):ew K tw H t v:=by
 cases t with
 |ao xs =>
  rw[aI]at r;obtain⟨a,o,ah,e,h,q⟩:=r;exact⟨a,ah,e,.inl ⟨aQ.Gy h,.inr ⟨o,h⟩⟩,q⟩
 |bk ay =>
  rw[aI]at r;obtain⟨a,o,ws,e,h,q⟩:=r;exact⟨a,ws,e,aQ.Gy h,.inr ⟨o,h⟩,q⟩
 |_=>exact r
def ew.rep(b:ho t=Y1)(r:ew K tw H t v):aI tw H t v:=by
 cases t with
 |ao xs=>exists b
 |bk ay=>exists b
 |_=>exact r
theorem ew.ext(aQ:df tw n H)(e:dn tw H aj)(r:ew K tw H t v):ew K tw aj t v:=by
 cases t with
 |ao xs =>
  obtain⟨a,ah,bN,h,q⟩:=r;exact⟨a,ah,bN,h.ext e,bR.mono (e.b0 aQ) _ _ q⟩
 |bk ay =>
  obtain⟨a,ws,bN,na,h,q⟩:=r;refine⟨a,ws,bN,na,?_,cJ.mono (e.b0 aQ) _ _ q⟩;rcases h with h|⟨o,h⟩
  ·exact .inl<|e.to a _ h na
  ·exact .inr ⟨o,e.to a _ h na⟩
 |_=>exact aI.mono (e.b0 aQ) _ _ r
def mr.root(na:a≠tw)(h:mr tw H a t):ew K tw H t ZN:=by
 cases t with
 |ao xs =>
  obtain⟨ah,e,q⟩:=h;exact⟨a,ah,rfl,.inl ⟨na,.inl e⟩,q⟩
 |bk ay =>
  obtain⟨ws,e,q⟩:=h;exact⟨a,ws,rfl,na,.inl e,q⟩
 |_=>exact h.elim
def mr.ext(na:a≠tw)(aQ:df tw n H)(e:dn tw H aj)(h:mr tw H a t):mr tw aj a t:=by
 cases t with
 |ao xs =>
  obtain⟨ah,bN,q⟩:=h;exact⟨ah,e.to a _ bN na,bR.mono (e.b0 aQ) _ _ q⟩
 |bk ay =>
  obtain⟨ws,bN,q⟩:=h;exact⟨ws,e.to a _ bN na,cJ.mono (e.b0 aQ) _ _ q⟩
 |_=>exact h.elim
def mr.some(h:mr tw H a t):H a≠C:=by
 intro z;cases t with
 |ao xs =>
  obtain⟨ah,bN,q⟩:=h;rw[z]at bN;exists bN
 |bk ay =>
  obtain⟨ws,bN,q⟩:=h;rw[z]at bN;exists bN
 |_=>exact h.elim
end
structure dr (K:PySem.W.Frag) (B:aJ) (tw:Addr) (S:bE) (n:Nat) (O:St) (H:aJ):Prop where
 ext:dn tw B H
 aQ:df tw n H
 lh:∃n0,df tw n0 B
 len:S.H=O.H
 ag:∀(i:Nat) (t:T),S[i]?=J Zp->∃v,O[i]?=J (J v)/\aI tw H t v
 cZ:∀(i:Nat) (t:T),S[i]?=J (J (t,.cZ))->∃v,O[i]?=J (J v)/\ew K tw B t v
 aE:∀(i:Nat) (t:T),S[i]?=J (J (t,.aE))->∃a,O[i]?=J (J ZN)/\B a=C/\mr tw H a t
 nX:∀(i:Nat) (t:T),S[i]?≠J (J (t,.i3))
 o9:∀(i j:Nat) (t t':T) (a:Addr),S[i]?=J (J (t,.aE))->S[j]?=J (J (t',.aE))->O[i]?=J (J ZN)->O[j]?=J (J ZN)->i=j
def Val(K:PySem.W.Frag)(B:aJ)(tw:Addr)(ht H:aJ)(t:T)(m:bo)(v:V):Prop :=
 match m with
 |.ag=>aI tw H t v
 |.cZ=>ew K tw B t v
 |.i3=>ew K tw H t v
 |.aE=>∃a,v=.ref a/\ht a=C/\mr tw H a t
section
variable {K:PySem.W.Frag}{B:aJ}{tw:Addr}{S:bE}{n n' n0:Nat}{O:St}{H aj ht H1:aJ}{t:T}{m:bo}{v:V}
def df.tT(aQ:df tw n H)(h:H a=C):a≠tw:=λe=>by subst e;unfold df at aQ;rw[h]at aQ;exists aQ
def dn.free(e:dn tw ht H)(aQ:df tw n H)(h:H a=C):ht a=C:=by
 cases z:ht a with
 |none=>rfl
 |some o=>have:=e.to a o z<|aQ.tT h;rw[h]at this;cases this
def dr.wb(R:dr K B tw S n O H)(h:B a=C):a≠tw:=let ⟨_,b⟩:=R.lh;b.tT h
theorem dr.mono(R:dr K B tw S n O H)(e:dn tw H aj)(aaN:df tw n' aj):dr K B tw S n' O aj :=
 ⟨R.ext.trans e,aaN,R.lh,R.len,λi t h=>let ⟨v,af,ak⟩:=R.ag i t h;⟨v,af,aI.mono (e.b0 R.aQ) _ _ ak⟩,R.cZ,
  λi t h=>let ⟨a,af,ak,bc⟩:=R.aE i t h;⟨a,af,ak,bc.ext (R.wb ak) R.aQ e⟩,R.nX,R.o9⟩
def Val.back(e:dn tw ht H1)(af:df tw n H1)(h:Val K B tw H1 H t m v):Val K B tw ht H t m v:=by
 cases m with
 |ag=>exact h
 |cZ=>exact h
 |i3=>exact h
 |aE =>
  obtain⟨a,aX,bb,cK⟩:=h;exact⟨a,aX,e.free af bb,cK⟩
theorem Val.root(R:dr K B tw S n O H)(h0:df tw n0 ht)(h:Val K B tw ht H t m v):ew K tw H t v:=by
 cases m with
 |ag=>exact ew.Mu R.aQ h
 |cZ=>exact let ⟨_,b⟩:=R.lh;ew.ext (v:=v) b R.ext h
 |i3=>exact h
 |aE =>
  obtain⟨a,rfl,bb,cK⟩:=h;exact cK.root<|h0.tT bb
end
inductive r1 (K:PySem.W.Frag) (tw:Addr) (H:aJ):List T->List V->Prop
 |nil:r1 K tw H [] []
 |cons {t:T} {v:V} {aA:List T} {ah:List V}:ew K tw H t v->r1 K tw H aA ah->r1 K tw H (t::aA) (v::ah)
def q4(K:PySem.W.Frag)(B:aJ)(tw:Addr)(S:bE)(n:Nat)(t:T)(m:bo)(n':Nat):TE:=λO H Q =>
 dr K B tw S n O H/\∀v aj,dn tw H aj->df tw n' aj->Val K B tw H aj t m v->Q v aj
def VQ(K:PySem.W.Frag)(B:aJ)(tw:Addr)(S:bE)(n:Nat)(aA:List T)(n':Nat):kU:=λO H Q =>
 dr K B tw S n O H/\∀ah aj,dn tw H aj->df tw n' aj->r1 K tw aj aA ah->Q ah aj
def KF(K:PySem.W.Frag)(B:aJ)(tw:Addr)(f:hG)(S':bE)(n':Nat)(D:Ends)(H:aJ):Prop:=match f with
  |.bD=>∀U' aj,eJ H aj->dr K B tw S' n' U' aj->D.bD U' aj
  |.gs=>∀U' aj,eJ H aj->dr K B tw S' n' U' aj->D.gs U' aj
  |.eE=>∀U' aj,eJ H aj->dr K B tw S' n' U' aj->D.eE U' aj
  |.aV t m=>∀v aj,eJ H aj->dn tw B aj->df tw n' aj->Val K B tw B aj t (eP m) v->D.aV v aj
def KF.b0{K:PySem.W.Frag}{B:aJ}{tw:Addr}{f:hG}{S':bE}{n':Nat}{D:Ends}{H H1:aJ}(e:eJ H H1)(h:KF K B tw f S' n' D H):KF K B tw f S' n' D H1:=by
 cases f with
 |bD=>exact λU' aj x y=>h U' aj (e.trans x) y
 |gs=>exact λU' aj x y=>h U' aj (e.trans x) y
 |eE=>exact λU' aj x y=>h U' aj (e.trans x) y
 |aV t m=>exact λv aj x y z w=>h v aj (e.trans x) y z w
def wQ(K:PySem.W.Frag)(B:aJ)(tw:Addr)(S:bE)(n:Nat)(f:hG)(S':bE)(n':Nat):kV:=λD O H =>
 dr K B tw S n O H/\KF K B tw f S' n' D H
def bF(X:bI)(tw:Addr)(e:Expr)(d:bM):Prop:=∀B S n t m n',d S n=J (t,m,n')->d7 X e (q4 X.K B tw S n t m n')
def nL(X:bI)(tw:Addr)(es:List Expr)(d:gh):Prop:=∀B S n aA n',d S n=J (aA,n')->nI X es (VQ X.K B tw S n aA n')
def gX(X:bI)(tw:Addr)(st:Stmt)(d:bw):Prop:=∀B S n f S' n',d S n=J (f,S',n')->oM X st (wQ X.K B tw S n f S' n')
def h1(X:bI)(tw:Addr)(st:List Stmt)(d:bw):Prop:=∀B S n f S' n',d S n=J (f,S',n')->kr X st (wQ X.K B tw S n f S' n')
section
variable {X:bI}{tw:Addr}
def lP(i:Nat){x:Str}{pos:Pos}(dK:autoParam (X.N[i]?=J x) bu)(bS:autoParam (qj X.I.Y x) az7._auto_1)(hd:autoParam ZH eM)
  (g4:autoParam ((x==("__classdict__" : Str))=Y1) eM):bF X tw (.Name x pos)<|ai i:=by
 intro B S n t m n' h ae s O H Q I ⟨R,k⟩;unfold ai at h;cases e:S[i]? with
 |none=>rw[e]at h;exists h
 |some o =>
  cases o with
  |none=>rw[e]at h;exists h
  |some p =>
   obtain⟨t',gg⟩:=p;rw[e]at h;have h:J (t',look gg t',n)=J (t,m,n'):=h;cases h;have fin:∃v,O[i]?=J (J v)/\Val X.K B tw H H t (look gg t) v:=by
    cases gg with
    |ag=>exact R.ag i t e
    |i3 =>
     cases t with
     |_=>exact absurd e<|R.nX i _
    |cZ =>
     obtain⟨v,af,ak⟩:=R.cZ i t e;refine⟨v,af,?_⟩;unfold look;cases b:ho t with
     |true=>exact ak
     |false=>exact let ⟨_,q5⟩:=R.lh;aI.mono (R.ext.b0 q5) _ _ (ak.rep b)
    |aE =>
     obtain⟨a,af,ak,bc⟩:=R.aE i t e;refine⟨.ref a,af,?_⟩;unfold look;cases b:ho t with
     |true=>exact bc.root<|R.wb ak
     |false=>exists t<;>first|exact(show False from bc).elim|cases b
   obtain⟨v,af,ak⟩:=fin;exact uU dK bS hd g4 ae s O H Q I ⟨v,af,k v H ZT R.aQ ak⟩
def yf{e:Expr}{t:T}{v:V}(h:d7 X e<|wH v)(r:∀H,aI tw H t v):bF X tw e<|aw t:=by
 intro B S n t' m n' hd ae s O H Q I ⟨R,k⟩
 exists hd
 exact h ae s O H Q I<|k v H ZT R.aQ<|r H
def z3{i:Int}{j pos}:bF X tw (.Constant (.int i) j pos)<|aw<|.int i:=yf Dp λ_=>by rw[aI]
def Mf{b:Bool}{j pos}:bF X tw (.Constant (.bool b) j pos)<|aw<|.aC b:=yf agG λ_=>by rw[aI]
def aij{j pos}:bF X tw (.Constant .none j pos)<|aw .br:=yf ahQ λ_=>by rw[aI]
def I7{x:Str}{j pos}:bF X tw (.Constant (.str x) j pos)<|aw<|.str x:=yf IC λ_=>by rw[aI]
def xn{x:Str}{i:Int}{t:Tok}{pos:Pos}(hm:X.a3 x=J (.int i t))(bT:autoParam (fv X x) bu)(hd:autoParam ZH eM):bF X tw (.Name x pos) (aw<|.int i) :=
 yf (Ox bT hm (v:=.int i) ⟨t,rfl⟩ hd) λ_=>by rw[aI]
end
section
variable {X:bI}{ae:List Z1}{O:St}{H:aJ}{s:aR}{a:Addr}{u:jX}{tw:Addr}
def _root_.bj.aS.freeze(I:aS X ae O H s)(h:H a=J u)(b7:(∃xs,u=.ao xs)\/∃ay,u=.aw ay):∃o,aS X ae O (c4 H a<|.eo o u) s:=by
 have ok:=I.b1 a u h;have⟨o,aZ⟩:∃o,s.heap.get? a=J o:=by
  rcases b7 with⟨xs,rfl⟩|⟨ay,rfl⟩
  ·obtain⟨_,a5,n,_,e⟩:=ok;exact⟨_,e⟩
  ·obtain⟨_,_,_,_,o,_,_,e,_⟩:=ok;exact⟨_,e⟩
 have agb:∀b xs,H b=J (.aD xs)->b≠a:=λb xs e z=>by subst z;rw[h]at e;cases e;rcases b7 with⟨_,q⟩|⟨_,q⟩<;>cases q
 have agc:∀b dh fu,H b=J (.eo dh fu)->b≠a:=λb dh fu e z=>by subst z;rw[h]at e;cases e;rcases b7 with⟨_,q⟩|⟨_,q⟩<;>cases q
 have bz:∀b,H b=C->b≠a:=λb e z=>by subst z;rw[h]at e;exists e
 have b1:gk X.R X.w (c4 H a<|.eo o u) s.D:=λb fT e=>by
  have st:∀(c:Addr) (fT:jX),gP X.R X.w H s.D c fT->gP X.R X.w (c4 H a<|.eo o u) s.D c fT:=λc fT q =>
   q.pB (λ_ z=>z)
  by_cases aq:b=a
  ·subst aq;rw[fC]at e;exists e;exact⟨aZ,st _ _ ok⟩
  ·rw[e1 aq]at e;exact st _ _<|I.b1 b fT e
 refine⟨o,?_⟩
 have un:gf X.cm [] H (c4 H a<|.eo o u) s.D s.D:=⟨λb bJ e _ _ _=>e,λb bJ e _ _ _=>⟨bJ.slots,e⟩,λb bJ e n _=>by rw[e1<|bz b n];exact n,λb bJ e _=>⟨bJ,e⟩,
  λb xs e=>by rw[e1<|agb b xs e];exact e,λb dh fu e=>by rw[e1<|agc b dh fu e];exact e⟩
 exact I.un (h':=s.D) (t':=s.toks) un b1
theorem eJ.eo{o:Obj}(h:H a=J u)(b7:(∃xs,u=.ao xs)\/∃ay,u=.aw ay):eJ H<|c4 H a<|.eo o u:=λb =>
 ⟨λah e=>by rw[e1<|by rintro rfl;rw[h]at e;cases e;rcases b7 with⟨_,q⟩|⟨_,q⟩<;>cases q];exact e,
  λdh fu e=>by rw[e1<|by rintro rfl;rw[h]at e;cases e;rcases b7 with⟨_,q⟩|⟨_,q⟩<;>cases q];exact e⟩
end
def aaO(h:∀y∈scope.e,y.2=.free->∃c,env.cells.lookup y.1=J c) :
  ∃cl,closureFor scope env=pure cl/\(∀x c,cl.lookup x=J c->env.cells.lookup x=J c)/\∀y∈scope.e,y.2=.free->∃c,cl.lookup y.1=J c:=by
 have key:∀(names:List (Str×sm)) (acc:List (Str×Addr)),(∀y∈names,y.2=.free->∃c,env.cells.lookup y.1=J c)->(∀x c,acc.lookup x=J c->env.cells.lookup x=J c) ->
   ∃cl,(forIn names acc λx cs=>match x with
    |(name,kind)=>if(kind==.free)=Y0 then(cellOf env name >>= λc=>pure<|ForInStep.yield<|(name,c)::cs) else pure (ForInStep.yield cs):Sem<|List<|Str×Addr)=pure cl /\
    (∀x c,cl.lookup x=J c->env.cells.lookup x=J c)/\(∀x c,acc.lookup x=J c->∃cH,cl.lookup x=J cH)/\∀y∈names,y.2=.free->∃c,cl.lookup y.1=J c:=by
  intro names
  induction names with
  |nil=>intro acc _ ba;exact⟨acc,rfl,ba,λx c e=>⟨c,e⟩,λy aK=>nomatch aK⟩
  |cons z r a4 =>
   intro acc bz ba;obtain⟨nm,p4⟩:=z;by_cases aW:(p4==NameKind.free)=Y0
   ·have aaP:p4=.free:=by simpa using aW
    obtain⟨c,aT⟩:=bz (nm,p4) dT aaP;have aT:env.cells.lookup nm=J c:=aT
    obtain⟨cl,e,af,ak,bc⟩:=a4 ((nm,c)::acc) (λy aK=>bz y<|am _ aK) (λx cH e=>by
     rw[r6]at e;split at e
     ·rename_i q;have q:x=nm:=by simpa using q
      exists e;rw[q];exact aT
     ·exact ba x cH e)
    refine⟨cl,?_,af,λx cH q=>?_,λy aK hf=>?_⟩
    ·rw[List.forIn_cons];simp only[aW,if_true];have az:cellOf env nm=pure c:=by unfold cellOf;rw[aT]
     rw[az];exact e
    ·by_cases av:x=nm
     ·subst av;exact ak x c (by simp[r6])
     ·exact ak x cH (by rw[r6,show(x==nm)=Y1 by simpa using av];exact q)
    ·rcases d4.mp aK with rfl|aK
     ·exact ak nm c (by simp[r6])
     ·exact bc y aK hf
   ·obtain⟨cl,e,af,ak,bc⟩:=a4 acc (λy aK=>bz y<|am _ aK) ba;refine⟨cl,?_,af,ak,λy aK hf=>?_⟩
    ·rw[List.forIn_cons];simp only[aW];exact e
    ·rcases d4.mp aK with rfl|aK
     ·exact absurd (by simpa using hf) (by simpa using aW)
     ·exact bc y aK hf
 obtain⟨cl,e,af,_,bc⟩:=key scope.e [] h (λx c e=>by simp at e);refine⟨cl,?_,af,bc⟩;unfold closureFor;dsimp only;rw[e];rfl
theorem DI{env:Env}:∀{names:List (Str×sm)} {x:Str} {k:sm},
  (names.map λ(n,k)=>if(k==NameKind.free&&env.Y.kind==.function&&env.kindOf n==J .cell) then(n,NameKind.cell) else(n,k)).lookup x=J k ->
  names.lookup x=J k\/(names.lookup x=J .free/\k=.cell)
 |[],_,_,h=>by simp at h
 |(n,k0)::r,x,k,h=>by
  have a4:=@DI env r x k;have ak:List.lookup x ((if(k0==NameKind.free&&env.Y.kind==.function&&env.kindOf n==J .cell)=Y0 then(n,NameKind.cell) else(n,k0))::(r.map λ(n,k)=>if(k==NameKind.free&&env.Y.kind==.function&&env.kindOf n==J .cell)=Y0 then(n,NameKind.cell) else(n,k)))=J k:=h;clear h;cases av:x==n with
  |true =>
   by_cases aT:(k0==NameKind.free&&env.Y.kind==.function&&env.kindOf n==J .cell)=Y0
   ·rw[Y2 aT]at ak;simp only[r6,av]at ak |-;have dF:k0=.free:=by simp only[f5,beq_iff_eq]at aT;exact aT.1.1
    subst dF;exact .inr ⟨rfl,(Option.some.inj ak).symm⟩
   ·rw[Y3 aT]at ak;simp only[r6,av]at ak |-;exact .inl ak
  |false =>
   by_cases aT:(k0==NameKind.free&&env.Y.kind==.function&&env.kindOf n==J .cell)=Y0
   ·rw[Y2 aT]at ak;simp only[r6,av]at ak |-;exact a4 ak
   ·rw[Y3 aT]at ak;simp only[r6,av]at ak |-;exact a4 ak
section
variable {prog:dx}{w:c3}{A:dI}{R:sr->aR->Prop}{s:aR}
def aaQ(I:Nat->aR->Prop)
  (turn:∀n s,I n s->bl Z9 A (mM it) (λr dN=>match r with
   |none=>R (.ok .next) dN
   | some v=>bl Z9 A (Cb target it v) (λ_ dN=>bl Z9 A (nF target env v) (λ_ gU =>
     bl Z9 A (forIn ifs Y0 λc r=>if r=Y0 then do let ok<-isTrue c env (eval c env);pure (ForInStep.yield ok) else pure (ForInStep.yield r)) (λok HF =>
      if ok=Y0 then bl Z9 A (eval elt env) (λx Nn =>
       bl Z9 A (call (.builtin "list.append") [acc,x]) (λ_ Np=>∃m,m<n/\I m Np) (λ_ _=>False) Nn) (λ_ _=>False) HF
      else ∃m,m<n/\I m HF) (λ_ _=>False) gU) (λ_ _=>False) dN) (λ_ _=>False) dN) (λ_ _=>False) s)
  (n:Nat) (h:I n s) :
  kk Z9 A (.compLoop (.ListComp elt [⟨target,iter,ifs,0⟩] scope pos) 0 it acc env) R s:=by
 refine codeAny_loop rfl I (λn s p5=>?_) n h;show bl _ A ((compTurn (.ListComp elt [⟨target,iter,ifs,0⟩] scope pos) 0 it acc env).onRaise (λx=>do noteFrame x env;theTreesLotGoes x)) _ _ s;refine wpAny_noted ?_;rw[compTurn_list];refine a8<|Hs<|a8 (hk (turn n s p5) (λr dN h₁=>?_) λ_ _ h'=>h'.elim);cases r with
 |none=>exact bZ h₁
 |some v =>
  refine a8 (hk h₁ (λ_ dN h₁=>?_) λ_ _ h'=>h'.elim);refine a8 (hk h₁ (λ_ gU Nq=>a8 (hk Nq (λok HF Nr=>?_) λ_ _ h'=>h'.elim)) λ_ _ h'=>h'.elim);cases ok with
  |false=>exact bZ ⟨rfl,Nr⟩
  |true =>
   exact a8<|a8 (hk Nr (λx Nn VR=>a8 (hk VR (λ_ Np VS=>bZ<|bZ ⟨rfl,VS⟩) λ_ _ h'=>h'.elim)) λ_ _ h'=>h'.elim)
end
noncomputable def gy(X:bI)(N':List Str)(scope:js)(cl:List<|Str×Addr)(aN:Addr)(cD:aR)(dJ:aJ)(fp:List Addr):bI :=
 { X with N:=N',cD:=cD,dJ:=dJ,env:=compEnvC scope cl aN X.I,cj:=X.stack,stack:=X.stack,ex:=fp,fn:=λ_=>Y1,gD:=[],cv:=λ_ _=>False}
structure l2 (X:bI) (scope:js) (N':List Str) (fo:List<|Option Nat):Prop where
 kind:scope.kind=.function
 cell:∀y∈scope.e,y.2≠.cell
 names:∀y∈scope.e,y.2=.local->scope.names.lookup y.1=J .local
 free:∀y∈scope.e,y.2=.free->X.env.kindOf y.1=J .cell\/X.env.kindOf y.1=J .free
 len:fo.H=N'.H
 src:∀(i j:Nat),fo[i]?=J (J j)->∃x,N'[i]?=J x/\X.N[j]?=J x/\scope.names.lookup x≠J .local
noncomputable def tM(l:List<|Option Nat)(O:St):St:=l.map λo=>o.bind λj=>(O[j]?).join
def I8{i:Nat}(h:(tM l O)[i]?=J (J v)):∃j,l[i]?=J (J j)/\O[j]?=J (J v):=by
 unfold tM at h;rw[kg]at h;cases e:l[i]? with
 |none=>rw[e]at h;exists h
 |some o =>
  rw[e]at h;cases o with
  |none=>exists h
  |some j =>
   refine⟨j,rfl,?_⟩;have h:(O[j]?).join=J v:=Option.some.inj h;cases q:O[j]? with
   |none=>rw[q]at h;exists h
   |some p=>rw[q]at h;rw[show p=J v from h]
def aaR{X:bI}{scope:js}{N':List Str}{fo:List<|Option Nat}{cl:List<|Str×Addr}{ae:List Z1}{O:St}{H:aJ}{s:aR}{h':Heap}{fp:List Addr}{bx:Nat}
  (aN:l2 X scope N' fo) (I:aS X ae O H s) (m2:∀x c,cl.lookup x=J c->X.env.cells.lookup x=J c) (u5:∀y∈scope.e,y.2=.free->∃c,cl.lookup y.1=J c)
  (hf:∀b∈fp,pD X ae H b) (aZ:∀b∈fp,∃o,s.heap.get? b=J o)
  (bz:h'.Ns s.L λ_=>C) (b8:∀b o,s.heap.get? b=J o->h'.get? b=J o) :
  aS (gy X N' scope cl s.L s H fp) [] (tM fo O) H { s with heap:=h',toks:=bx}:=by
 have aaS:∀b∈fp,b<s.L:=λb aq=>let ⟨o,e⟩:=aZ b aq;d6 e
 have kinds:∀(x:Str) (k:sm),(compEnvC scope cl s.L X.I).kindOf x=J k->(k=.cell\/k=.free)->scope.names.lookup x=J .free:=λx k h aW=>by
  rcases DI (env:=X.I) (names:=scope.e) (x:=x) (k:=k) h with e|⟨e,_⟩
  ·rcases aW with rfl|rfl
   ·exact absurd rfl<|aN.cell _<|PySem.mem_of_lookup e
   ·exact e
  ·exact e
 have b1:(gy X N' scope cl s.L s H fp).Ok:=by
  refine⟨I.ok.mod,aN.kind,I.ok.glob,I.ok.blt,cg _,λx y c af ak=>I.ok.inj x y c (m2 x c af)<|m2 y c ak,λx h=>?_,λx c h=>(by exists h),I.ok.hd,I.ok.frames,.inl rfl,λb aq=>⟨?_,λx c e=>?_⟩,I.bs,bP I.ok.mW I.wG,λb o e aq=>?_,λb aq z=>?_,I.stack,I.GA⟩
  ·rcases h with h|h
   ·exact u5 _ (PySem.mem_of_lookup<|kinds x _ h<|.inl rfl) rfl
   ·exact u5 _ (PySem.mem_of_lookup<|kinds x _ h<|.inr rfl) rfl
  ·exact bv<|aaS b aq
  ·exact(hf b aq).2.2.2.2.1 x c (m2 x c e)
  ·rcases(hf b aq).2.2.2.1 with z|z
   ·exact I.ok.rR b o e z
   ·exact absurd (d5 (d6 e)<|bP I.ok.mW z)<|oF _
  ·obtain⟨_,f1,f2,_⟩:=hf b aq;rcases d4.mp (I.Ms b z) with q|q
   ·exact f1 q
   ·exact f2 q
 refine⟨b1,rfl,I.ft,gf.kept b8,⟨_,bz,λi x v af ak bc=>?_⟩,λx c h=>?_,I.b1.fresh<|cg _,λx c h=>I.kK x c<|m2 x c h,λp aF=>(by exists aF),I.b1.kept b8,by show(fo.map _).H=N'.H;rw[cP,aN.len]⟩
 ·obtain⟨j,az,au⟩:=I8 ak;obtain⟨y,aX,bb,cK⟩:=aN.src i j az;have af:N'[i]?=J x:=af;rw[aX]at af;cases af;have Ge:scope.names.lookup x=J .free:=by
   rcases bc with k|k|k
   ·rcases DI (env:=X.I) (names:=scope.e) (x:=x) (k:=.local) k with e|⟨e,z⟩
    ·exact absurd e cK
    ·cases z
   ·exact kinds x _ k<|.inl rfl
   ·exact kinds x _ k<|.inr rfl
  have z4:=aN.free _ (PySem.mem_of_lookup Ge) rfl;obtain⟨m,_,aB⟩:=I.loc;obtain⟨u,eW,fN⟩:=aB j x v bb au<|.inr z4;refine⟨u,eW,.inr ⟨?_,?_⟩⟩
  ·rcases bc with k|k|k
   ·rcases DI (env:=X.I) (names:=scope.e) (x:=x) (k:=.local) k with e|⟨e,z⟩
    ·exact absurd e cK
    ·cases z
   ·exact .inl k
   ·exact .inr k
  ·rcases fN with⟨k,_⟩|⟨_,c,aT,VT⟩
   ·have z4:X.env.kindOf x=J .cell\/X.env.kindOf x=J .free:=z4;rw[k]at z4;rcases z4 with z|z<;>cases z
   ·obtain⟨cH,sU⟩:=u5 _ (PySem.mem_of_lookup Ge) rfl;have:=m2 _ _ sU;rw[show X.env.cells.lookup x=J c from aT]at this
    exists this
    obtain⟨o,e,d⟩:=VT;exact⟨c,sU,o,b8 c o e,d⟩
 ·obtain⟨v,o,e,d⟩:=I.cell x c<|m2 x c h;exact⟨v,o,b8 c o e,d⟩
def wR(X:bI)(ifs:List Expr)(t:TT):Prop :=
 ∀(ae:List Z1) (s:aR) (O:St) (H:aJ) (Q:Bool->aJ->Prop),aS X ae O H s->t O H Q ->
  bl Z2 X.A (forIn ifs Y0 λc r=>if r=Y0 then do let ok<-isTrue c X.I (eval c X.I);pure (ForInStep.yield ok) else pure (ForInStep.yield r)) (Cn X ae O Q) X.cv s
def aik:wR X [] (λO H Q=>Q Y0 H):=λae s O H Q I h=>wpAny_tests_nil ⟨H,I,h⟩
def ail(h:nH X c t):wR X [c] t:=λae s O H Q I hw=>wpAny_tests_one<|h ae s O H Q I hw
def Gi(mc:TI)(fo:List<|Option Nat)(g:pZ)(tt:TT)(te:TE):TE:=λO H Q=>mc O H λcO H1=>∀D,H1 D=C ->
 ∃W:Nat->Nat->List V->St->aJ->Prop,(∃m,W 0 m [] (tM fo O)<|c4 H1 D<|.ao [])/\∀i m acc U' aj,W i m acc U' aj ->
  (cO.stop i aj/\Q (.ref D) aj)\/(cO.go i aj/\∃wU:List V->St->aJ->Prop,(∀acc O H,wU acc O H->∃gg,gg<m/\W (i+1) gg acc O H) /\
   ∀x bV,cO.Dt i aj x bV->g x U' bV λU3 ef=>tt U3 ef λb p1=>if b=Y0 then te U3 p1 λy jv=>jv D=J (.ao acc)/\acc.H<dg/\wU (acc++[y]) U3 (c4 jv D<|.ao<|acc++[y]) else wU acc U3 p1)
def Pf{X:bI}{elt di iter:Expr}{ifs:List Expr}{scope:js}{pos agd:Pos}{N':List Str}{fo:List<|Option Nat}{mc:TI}{g:pZ}{tt:TT}{te:TE}{use:Option<|mt->Sem Unit}{Qv:mt->aR->Prop}{Q:fg}{ae:List Z1}{s:aR}{O:St}{H:aJ}(I:aS X ae O H s)(h:Gi mc fo g tt te O H Q)(aT:X.calm=Y0)
  (aN:l2 X scope N' fo) (hi:oN X di iter mc) (bT:∀cl aN cD dJ fp,p0 ZY di g) (cA:∀cl aN cD dJ fp,wR ZY ifs tt)
  (he:∀cl aN cD dJ fp,d7 ZY elt te) (aP:∀x,oG iter X.I x=pure x)
  (fin:∀(D:Addr) (aj:aJ) (jw:aR) (aN:Addr),(∀h',Heap.SameBut aN jw.D h'->aS X ae O aj { jw with heap:=h'})->(∃m,jw.heap.Ns aN m)->pD X ae aj aN->Q (.ref D) aj->compPost (bg X.R X.w) X.A X.cv use Qv (.ref D) aN (.ok .next) jw) :
  bl Z2 X.A (comprehension Zy scope X.I agd (newList []) Y1 (eval iter X.I) use) Qv X.cv s:=by
 obtain⟨cl,agX,m2,u5⟩:=aaO (scope:=scope) (env:=X.I) λy aK hf=>I.ok.has _<|aN.free y aK hf;refine wpAny_comprehension_free (use:=use) rfl aP agX aN.kind aN.e (b2 (hi ae s O H _ I h) λanu s1 af=>b2 af λIG s2 ak=>?_);obtain⟨it,fp,aQ,cO,H1,e,cS,T,hy,f2,q⟩:=ak;subst e;refine kR ?_;have gW:H1 s2.L=C:=cS.fresh;have fU:aS X ae O (c4 H1 s2.L<|.ao []) { s2 with heap:=s2.heap.push { cls:=.type "list",data:=.seq ([]:List mt).Q}}:=cS.LW (a5:=[]) (t':=s2.toks) .nil<|gH _;obtain⟨W,⟨m0,q1⟩,turn⟩:=q _ gW;refine wpAny_newFunctionEnv aN.cell (by intro y aK;simp at aK) (λcL rl lj=>?_) aN.kind;have anS:s2.L≠(s2.heap.push { cls:=.type "list",data:=.seq ([]:List mt).Q}).E.O:=by rw[ny];exact bv<|oE _
 have aaT:∀b∈fp,∃o,(s2.heap.push { cls:=.type "list",data:=.seq ([]:List mt).Q}).get? b=J o:=λb aq=>let ⟨o,e,_⟩:=T.obj 0 _ hy b aq;⟨o,ed _ e⟩
 have aaU:∀b∈fp,b≠s2.L:=λb aq z=>by obtain⟨o,e,_⟩:=T.obj 0 _ hy b aq;exact absurd (d6 e) (by rw[z];exact oF _)
 have en:∀b∈fp,pD X ae (c4 H1 s2.L<|.ao []) b:=λb aq=>⟨by rw[e1<|aaU b aq];exact(f2 b aq).1,(f2 b aq).2⟩
 have Pg:∀b o,(s2.heap.push { cls:=.type "list",data:=.seq ([]:List mt).Q}).get? b=J o->cL.get? b=J o:=λb o e =>
  lj.extBut b o (bv<|d6 e) (ed _ e)
 have hb:=aaR (bx:=s2.toks+([]:List<|Str×mt).H) aN fU m2 u5 en aaT (by simpa using rl) Pg;have Ph:aQ 0 cL:=T.keep 0 _ _ hy λb aq o e=>Pg b o<|ed _ e;have I9:∀{aj:aJ},(∀b∈fp,aj b=C)->∀b∈fp,pD (gy X N' scope cl (s2.heap.push { cls:=.type "list",data:=.seq ([]:List mt).Q}).objs.size { s2 with heap:=s2.heap.push { cls:=.type "list",data:=.seq ([]:List mt).Q}} (c4 H1 s2.L<|.ao []) fp) [] aj b:=λ{aj} bz b aq=>by refine⟨bz b aq,(hb.ok.sS b aq).1,hb.ok.rS b aq,.inl aq,λx c e z=>(hb.ok.sS b aq).2 x c e z,λp aF=>by exists aF⟩
 have loop:kk Z2 X.A (.compLoop Zy 0 (.ref it) (.ref s2.L)<|compEnvC scope cl (s2.heap.push { cls:=.type "list",data:=.seq ([]:List mt).Q}).objs.size X.I)
   (compPost Z2 X.A X.cv use Qv (.ref s2.L) (s2.heap.push { cls:=.type "list",data:=.seq ([]:List mt).Q}).E.O) { s2 with heap:=cL,toks:=s2.toks+([]:List (Str×mt)).H}:=by
  refine aaQ (λn s'=>∃i acc U' aj,aS (gy X N' scope cl (s2.heap.push { cls:=.type "list",data:=.seq ([]:List mt).Q}).objs.size { s2 with heap:=s2.heap.push { cls:=.type "list",data:=.seq ([]:List mt).Q}} (c4 H1 s2.L (.ao [])) fp) [] U' aj s'/\aQ i s'.D/\(∀b∈fp,aj b=C)/\W i n acc U' aj) ?_ m0
   ⟨0,[],_,_,hb,Ph,λb aq=>(en b aq).1,q1⟩
  rintro n s5 ⟨i,acc,U5,jv,wI,xc,Dw,VU⟩;rcases turn i n acc U5 jv VU with⟨stop,uq⟩|⟨go,wU,dK,step⟩
  ·refine b2 (T.done (gy X N' scope cl _ _ _ fp) rfl rfl rfl aT i [] s5 U5 jv (λ_ _=>False) wI (I9 Dw) xc stop) λr jw ⟨aU,oO⟩=>?_;subst aU;obtain⟨VV,aaV,_⟩:=oO.loc;refine fin _ jv jw _ (λh' tc=>?_) ⟨VV,aaV⟩ (fU.yb (cg _) oO.free) uq;have VW:∀b u,jv b=J u->b≠(s2.heap.push { cls:=.type "list",data:=.seq ([]:List mt).Q}).E.O:=λb u e z=>by
    have:=oO.free;rw[show(gy X N' scope cl (s2.heap.push { cls:=.type "list",data:=.seq ([]:List mt).Q}).objs.size { s2 with heap:=s2.heap.push { cls:=.type "list",data:=.seq ([]:List mt).Q}} (c4 H1 s2.L (.ao [])) fp).I.locals=(s2.heap.push { cls:=.type "list",data:=.seq ([]:List mt).Q}).E.O from rfl,<-z,e]at this
    exists this
   have b1:gk X.R X.w jv h':=λb u e=>(oO.b1 b u e).pB (λv q=>tc.extBut b v (VW b u e) q);have un:gf (hc X.stack) fp (c4 H1 s2.L<|.ao []) jv (s2.heap.push { cls:=.type "list",data:=.seq ([]:List mt).Q}) h':=by
    have lt:∀b o,(s2.heap.push { cls:=.type "list",data:=.seq ([]:List mt).Q}).get? b=J o->b≠(s2.heap.push { cls:=.type "list",data:=.seq ([]:List mt).Q}).E.O:=λb o e=>bv<|d6 e;have u:=oO.V
    exact⟨λb o e n aq av=>tc.extBut b o (lt b o e)<|u.keep b o e n aq av,λb o e n aq av=>let ⟨cX,q⟩:=u.slot b o e n aq av;⟨cX,tc.extBut b _ (lt b o e) q⟩,λb o e n av=>u.free b o e n av,
     λb o e av=>let ⟨dh,q⟩:=u.there b o e av;⟨dh,tc.extBut b _ (lt b o e) q⟩,u.pC,u.od⟩
   exact fU.Gf (s':={ jw with heap:=h'}) (ch:=fp) oO.os un b1 oO.ft λb aq=>let ⟨_,g1,g2,g3,gL,mQ⟩:=en b aq;⟨g3,g1,gL,mQ⟩
  ·refine b2 (T.item (gy X N' scope cl _ _ _ fp) rfl rfl rfl aT i [] s5 U5 jv (λ_ _=>False) wI (I9 Dw) xc go) λr jw ⟨u,aU,HG⟩=>?_;subst aU;refine b2 HG λ_ oP ⟨x,me,lH,wJ,y5,Ja,aaW⟩=>?_;have aaX:=lH.pinned (I9 aaW)<|T.obj _ _ Ja;refine b2 (bT _ _ _ _ _ _ oP U5 me x u _ aaX wJ<|step x me y5) λ_ VX ⟨U8,VY,VZ,V0⟩=>?_;refine b2 (cA _ _ _ _ _ _ VX U8 VY _ VZ V0) λb y6 ⟨V1,Nt,Cs⟩=>?_;have again:∀{U0:St} {ht:aJ} {F4:List V} {s0:aR},aS (gy X N' scope cl (s2.heap.push { cls:=.type "list",data:=.seq ([]:List mt).Q}).objs.size { s2 with heap:=s2.heap.push { cls:=.type "list",data:=.seq ([]:List mt).Q}} (c4 H1 s2.L (.ao [])) fp) ([]++zM fp oP.D) U0 ht s0->wU F4 U0 ht ->
     ∃m,m<n/\∃i acc U' aj,aS (gy X N' scope cl (s2.heap.push { cls:=.type "list",data:=.seq ([]:List mt).Q}).objs.size { s2 with heap:=s2.heap.push { cls:=.type "list",data:=.seq ([]:List mt).Q}} (c4 H1 s2.L<|.ao []) fp) [] U' aj s0/\aQ i s0.D/\(∀b∈fp,aj b=C)/\W i m acc U' aj:=λ{U0 ht F4 s0} f7 n0=>by
    obtain⟨gg,hm,aaY⟩:=dK F4 U0 ht n0;refine⟨gg,hm,i+1,F4,U0,ht,f7.GC,T.keep _ _ _ Ja λb aq o e=>(f7.pin (b,o)<|l3 _<|l3 _<|Du aq e).1,λb aq=>?_,aaY⟩;obtain⟨o,e,d⟩:=T.obj _ _ Ja b aq;exact(f7.pin (b,o)<|l3 _<|l3 _<|Du aq e).2.1
   cases b with
   |false =>
    rw[Y3 Z0]at Cs |-;exact again Nt Cs
   |true =>
    rw[Y2 rfl]at Cs |-;refine b2 (he _ _ _ _ _ _ y6 U8 V1 _ Nt Cs) λNu z5 ⟨y,aaZ,aa0,dX,mu,aa1,aa2⟩=>?_;refine b2 (IX (X:=gy X N' scope cl _ _ _ fp) _ z5 U8 aaZ (.ref s2.L) [y] (.ref s2.L) [Nu] (λ_ H=>wU (acc++[y]) U8 H) aa0 rfl (.cons dX .nil) ⟨_,acc,y,rfl,rfl,mu,aa1,aa2⟩) λ_ Pj ⟨v11,anT,aa3,_,aa4⟩=>?_;exact again aa3 aa4
 exact codeAny_compStart_list loop<|T.self _ 0 _ _ _ Ph loop
def ajY(aT:X.calm=Y0)
  (aN:l2 X scope N' fo) (hi:oN X di iter mc) (bT:∀cl aN cD dJ fp,p0 ZY di g) (cA:∀cl aN cD dJ fp,wR ZY ifs tt)
  (he:∀cl aN cD dJ fp,d7 ZY elt te) (aP:autoParam Zx sA) :
  d7 X Zy (Gi mc fo g tt te):=by
 intro ae s O H Q I h;rw[eval_ListComp];exact Pf (use:=C) I h aT aN hi bT cA he aP λD aj jw aN HH uy _ q=>let ⟨m,hm⟩:=uy;⟨m,hm,λh' tc=>⟨.ref D,aj,HH h' tc,rfl,q⟩⟩
def ajZ{i:Nat}(aT:X.calm=Y0)
  (dK:X.N.Nodup) (gz:X.N[i]?=J y) (aK:X.env.scope.names.lookup y=J .local)
  (aN:l2 X scope N' fo) (hi:oN X di iter mc) (bT:∀cl aN cD dJ fp,p0 ZY di g) (cA:∀cl aN cD dJ fp,wR ZY ifs tt)
  (he:∀cl aN cD dJ fp,d7 ZY elt te)
  (z6:nC Zy (J<|.Name y py) vY.line X.I=pure Y0) (aP:autoParam Zx sA) :
  oM X (.Assign [.Name y py] Zy vY) (LU (Gi mc fo g tt te)<|Ma i):=by
 intro ae s O H D I h;rw[exec_Assign_Name_used _ _ _ _ z6];refine a8<|Hs<|a8 ?_;show bl _ X.A (do let _<-comprehension (.ListComp elt [⟨di,iter,ifs,0⟩] scope pos) scope X.I _ (newList []) Y1 (eval iter X.I) (J (nF (.Name y py) X.I))) _ _ s;refine a8 (hk (Pf (use:=J<|nF (.Name y py) X.I) (Qv:=λ_ s'=>oL X ae D .next s') I h aT aN hi bT cA he aP λDa aj jw aN HH uy mR q=>?_) (λ_ s' a7=>bZ<|bZ a7) λ_ _ e=>e);obtain⟨m,hm⟩:=uy;have oO:aS X ae O aj jw:=HH jw.D<|.refl ..;show bl _ X.A (nF (.Name y py) X.I<|.ref Da) _ _ _;refine wpAny_assign_Name<|Ot oO dK gz (.inl aK) (v:=.ref Da) rfl (λoP lH cV=>?_)<|.inr aK;obtain⟨a,cV,ba⟩:=cV;have na:aN≠a:=by
  rcases ba with e|e
  ·rw[e];exact mR.2.1
  ·exact(mR.2.2.2.2.1 y a e).symm
 refine⟨m,hm.sameBut cV na,λh' tc=>⟨_,aj,?_,q⟩⟩;obtain⟨f0,f1,f2,en,f4,hU⟩:=mR;exact lH.turned (t':=oP.toks) (λb o aq e=>tc.extBut b o aq e) f0 f1 en f4 hU
section
variable {X:bI}{tw:Addr}
def cn{α β:Type}{o:Option α}{f:α->Option β}{b:β}(h:o.bind f=J b):∃a,o=J a/\f a=J b:=by
 cases o with
 |none=>exists h
 |some a=>exact⟨a,rfl,h⟩
def dw{α β:Type}{o:Option α}{f:α->β}{b:β}(h:o.map f=J b):∃a,o=J a/\f a=b:=by
 cases o with
 |none=>exists h
 |some a=>exact⟨a,rfl,Option.some.inj h⟩
def Jb{n n':Nat}(h:aH g a S n=J (t,m,n')):∃aA,a S n=J (aA,n')/\g n' aA=J (t,m):=by obtain⟨r,az,au⟩:=cn h;obtain⟨x,a6,bX⟩:=dw au;have q:=congrArg (λz:T×bo×Nat=>z.2.2) bX;have q:r.2=n':=q;subst q;have p:=congrArg (λz:T×bo×Nat=>(z.1,z.2.1)) bX;have p:x=(t,m):=p;subst p;exact⟨r.1,az,a6⟩
def xo{n n':Nat}(h:aa d a S n=J (l,n')):∃t m aM y7,d S n=J (t,m,aM)/\a S aM=J (y7,n')/\l=t::y7:=by obtain⟨r,az,au⟩:=cn h;obtain⟨x,a6,bX⟩:=dw au;have q:x.2=n':=congrArg Prod.snd bX;subst q;exact⟨_,_,_,x.1,az,a6,(congrArg Prod.fst bX).symm⟩
def Jc{n n':Nat}(h:ar S n=J (l,n')):l=[]/\n=n':=⟨(congrArg (λz:Option (List T×Nat)=>(z.getD ([],0)).1) h).symm,congrArg (λz:Option (List T×Nat)=>(z.getD ([],0)).2) h⟩
def DJ{n n':Nat}(h:aH g (aa eQ ar) S n=J (t,m,n')):∃t0 m0,eQ S n=J (t0,m0,n')/\g n' [t0]=J (t,m):=by obtain⟨aA,af,e⟩:=Jb h;obtain⟨_,_,_,_,f0,ak,rfl⟩:=xo af;obtain⟨rfl,rfl⟩:=Jc ak;exact⟨_,_,f0,e⟩
def Jd{n n':Nat}(h:aH g (aa eQ<|aa d8 ar) S n=J (t,m,n')):∃t0 m0 n0 t1 cR,eQ S n=J (t0,m0,n0)/\d8 S n0=J (t1,cR,n')/\g n' [t0,t1]=J (t,m):=by obtain⟨aA,af,e⟩:=Jb h;obtain⟨_,_,_,_,f0,ak,rfl⟩:=xo af;obtain⟨_,_,_,_,f1,bc,rfl⟩:=xo ak;obtain⟨rfl,rfl⟩:=Jc bc;exact⟨_,_,_,_,_,f0,f1,e⟩
def aj0{n n':Nat}(h:aH g (aa eQ<|aa d8<|aa fz ar) S n=J (t,m,n')):∃t0 m0 n0 t1 cR aM eI gv,eQ S n=J (t0,m0,n0)/\d8 S n0=J (t1,cR,aM)/\fz S aM=J (eI,gv,n')/\g n' [t0,t1,eI]=J (t,m):=by obtain⟨aA,af,e⟩:=Jb h;obtain⟨_,_,_,_,f0,ak,rfl⟩:=xo af;obtain⟨_,_,_,_,f1,bc,rfl⟩:=xo ak;obtain⟨_,_,_,_,f2,cL,rfl⟩:=xo bc;obtain⟨rfl,rfl⟩:=Jc cL;exact⟨_,_,_,_,_,_,_,_,f0,f1,f2,e⟩
def bF.run{e:Expr}{d:bM}(h:bF X tw e d){B:aJ}{S:bE}{n:Nat}{t:T}{m:bo}{n':Nat}(hd:d S n=J (t,m,n')){ae:List Z1}{s:aR}{O:St}{H:aJ}(I:aS X ae O H s)(R:dr X.K B tw S n O H) :
  bl Z2 X.A (eval e X.I) (λu s'=>∃v aj,aS X ae O aj s'/\cW v u/\dn tw H aj/\dr X.K B tw S n' O aj/\Val X.K B tw H aj t m v) X.cv s :=
 b2 (h B S n t m n' hd ae s O H (λv aj=>dn tw H aj/\df tw n' aj/\Val X.K B tw H aj t m v) I ⟨R,λv aj a b c=>⟨a,b,c⟩⟩) λu s' ⟨v,aj,eH,r,a,b,c⟩=>⟨v,aj,eH,r,a,R.mono a b,c⟩
def nL.run{es:List Expr}{d:gh}(h:nL X tw es d){B:aJ}{S:bE}{n:Nat}{aA:List T}{n':Nat}(hd:d S n=J (aA,n'))(pos:Pos){ae:List Z1}{s:aR}{O:St}{H:aJ}(I:aS X ae O H s)(R:dr X.K B tw S n O H) :
  bl Z2 X.A (so<|ff pos Zm) (λus s'=>∃ah aj,aS X ae O aj s'/\cG ah us/\dn tw H aj/\dr X.K B tw S n' O aj/\r1 X.K tw aj aA ah) X.cv s :=
 b2 (h B S n aA n' hd pos ae s O H (λah aj=>dn tw H aj/\df tw n' aj/\r1 X.K tw aj aA ah) I ⟨R,λv aj a b c=>⟨a,b,c⟩⟩) λu s' ⟨v,aj,eH,r,a,b,c⟩=>⟨v,aj,eH,r,a,R.mono a b,c⟩
def xp{e:Expr}{d:bM}(h:bF X tw e d):bF X tw e<|aY d:=by
 intro B S n t m n' hd ae s O H Q I ⟨R,k⟩;obtain⟨⟨t0,m0,n0⟩,af,ak⟩:=cn hd;obtain⟨t1,bc,cL⟩:=dw ak;cases cL;refine b2 (h.run af I R) λu s' ⟨v,aj,eH,r,a,Ct,c⟩=>?_;have same:∀(q:t0=t),aI tw aj t0 v->f6 X ae O Q u s':=λq c=>⟨v,aj,eH,r,k v aj a Ct.aQ<|q▸c⟩
 cases m0 with
 |ag=>exact same (Option.some.inj bc) c
 |i3 =>
  have bc:(if ho t0 then C else J t0)=J t:=bc;split at bc
  ·cases bc
  ·rename_i b;exact same (Option.some.inj bc)<|ew.rep (by simpa using b) c
 |cZ =>
  have bc:(if ho t0 then C else J t0)=J t:=bc;split at bc
  ·cases bc
  ·rename_i b;exact same (Option.some.inj bc)<|ew.rep (by simpa using b) (let ⟨_,q5⟩:=R.lh;ew.ext (v:=v) q5 Ct.ext c)
 |aE =>
  obtain⟨ad,rfl,bb,cK⟩:=c;obtain rfl:t0=t:=Option.some.inj bc;cases t0 with
  |ao xs =>
   obtain⟨ah,az,au⟩:=cK;obtain⟨o,cS⟩:=eH.freeze az<|.inl ⟨ah,rfl⟩;have na:ad≠tw:=R.aQ.tT bb;refine⟨_,_,cS,r,k _ _ (a.put bb) ?_ ?_⟩
   ·show c4 aj ad _ tw=_;rw[e1 na.symm];exact Ct.aQ
   ·show aI tw _ (.ao xs) _;rw[aI];exact⟨ad,o,ah,rfl,fC,bR.mono (eJ.eo az<|.inl ⟨ah,rfl⟩) _ _ au⟩
  |bk ay =>
   obtain⟨ah,az,au⟩:=cK;obtain⟨o,cS⟩:=eH.freeze az<|.inr ⟨ah,rfl⟩;have na:ad≠tw:=R.aQ.tT bb;refine⟨_,_,cS,r,k _ _ (a.put bb) ?_ ?_⟩
   ·show c4 aj ad _ tw=_;rw[e1 na.symm];exact Ct.aQ
   ·show aI tw _ (.bk ay) _;rw[aI];exact⟨ad,o,ah,rfl,fC,cJ.mono (eJ.eo az<|.inr ⟨ah,rfl⟩) _ _ au⟩
  |_=>exact cK.elim
def aim:nL X tw [] ar:=by
 intro B S n aA n' hd pos ae s O H Q I ⟨R,k⟩
 exists hd
 exact zQ pos ae s O H Q I<|k [] H ZT R.aQ .nil
def aj1{e:Expr}{es:List Expr}{d:bM}{r:gh}(af:bF X tw e d)(ak:nL X tw es r)(aP:autoParam ZP bu):nL X tw (e::es)<|aa d r:=by
 intro B S n aA n' hd pos ae s O H Q I ⟨R,k⟩;obtain⟨⟨t,m,aM⟩,az,au⟩:=cn hd;obtain⟨⟨m3,bC⟩,a6,bX⟩:=dw au
 exists bX
 rw[aP];show bl _ _ (so<|ZG::ff pos Zm) _ _ s;refine ia (b2 (af.run az I R) λu s1 ⟨v,H1,bf,bA,a1,bt,b6⟩=>?_);refine b2 (ak.run a6 pos bf bt) λus s2 ⟨ah,bV,cS,cp,a2,dj,dA⟩=>?_;exact⟨v::ah,bV,cS,.cons bA cp,k _ _ (a1.trans a2) dj.aQ<|.cons (ew.ext bt.aQ a2<|b6.root bt R.aQ) dA⟩
def fS(X:bI)(tw:Addr)(f:List mt->Sem mt)(g:eC):Prop :=
 ∀(B:aJ) (ae:List Z1) (s:aR) (O:St) (H:aJ) (ah:List V) (us:List mt) (aA:List T) (n:Nat) (t:T) (m:bo) (Q:fg),aS X ae O H s->cG ah us->r1 X.K tw H aA ah->df tw n H->g n aA=J (t,m) ->
  (∀v aj,dn tw H aj->df tw n aj->Val X.K B tw H aj t m v->Q v aj)->bl Z2 X.A (f us) Zl X.cv s
def td{x:Str}{id:String}{g:eC}{p pos:Pos}{e:Expr}{es:List Expr}{a:gh}(aF:fS X tw (λus=>call (.builtin id) us) g)(hm:X.a3 x=C)(bS:l8 x=J (.builtin id))(ba:nL X tw (e::es) a)(bT:autoParam (fv X x) bu)(bz:autoParam (x ≠ "__name__") eM)
  (fQ:autoParam ZH eM) (he:autoParam ZP bu) (eS:autoParam ((ff pos Zm).any (·.1)=Y1) bu):bF X tw Zn<|aH g a:=by
 intro B S n t m n' hd ae s O H Q I ⟨R,k⟩;obtain⟨⟨aA,aM⟩,az,au⟩:=cn hd;obtain⟨⟨t1,cR⟩,a6,bX⟩:=dw au;cases bX;refine l7<|la I bT hm bS ?_ bz fQ;refine PyProof.Rows.callWith_builtin1 (b2 (ba.run az pos I R) λus s1 ⟨ah,H1,bf,bA,a1,bt,b6⟩=>?_) he eS;exact aF B ae s1 O H1 ah us aA _ _ _ Q bf bA b6 bt.aQ a6 λv aj a b c=>k v aj (a1.trans a) b<|c.back a1 bt.aQ
def DK{x:Str}{kY:String}{g:eC}{p pos:Pos}{e:Expr}{es:List Expr}{a:gh}(aF:fS X tw (λus=>call (.type kY) us) g)(hm:X.a3 x=C)(bS:l8 x=J (.type kY))(ba:nL X tw (e::es) a)(bT:autoParam (fv X x) bu)(bz:autoParam (x ≠ "__name__") eM)
  (fQ:autoParam ZH eM) (he:autoParam ZP bu) (eS:autoParam ((ff pos Zm).any (·.1)=Y1) bu):bF X tw Zn<|aH g a:=by
 intro B S n t m n' hd ae s O H Q I ⟨R,k⟩;obtain⟨⟨aA,aM⟩,az,au⟩:=cn hd;obtain⟨⟨t1,cR⟩,a6,bX⟩:=dw au;cases bX;refine l7<|la I bT hm bS ?_ bz fQ;refine PyProof.Rows.callWith_type1 (b2 (ba.run az pos I R) λus s1 ⟨ah,H1,bf,bA,a1,bt,b6⟩=>?_) he eS;exact aF B ae s1 O H1 ah us aA _ _ _ Q bf bA b6 bt.aQ a6 λv aj a b c=>k v aj (a1.trans a) b<|c.back a1 bt.aQ
noncomputable def two(f:mt->mt->Sem mt):List mt->Sem mt
 |[a,b]=>f a b
 |_=>unsupported "two"
def DL{a b:Expr}{dQ db:bM}{f:mt->mt->Sem mt}{g:eC}(aF:fS X tw (two f) g)(ba:bF X tw a dQ)(aq:bF X tw b db){B:aJ}{S:bE}{n:Nat}{t:T}{m:bo}{n':Nat}(hd:aH g (aa dQ<|aa db ar) S n=J (t,m,n'))
  {ae:List Z1} {s:aR} {O:St} {H:aJ} {Q:fg} (I:aS X ae O H s) (R:dr X.K B tw S n O H) (k:∀v aj,dn tw H aj->df tw n' aj->Val X.K B tw H aj t m v->Q v aj) :
  bl Z2 X.A (eval a X.I) (λv dN=>bl Z2 X.A (eval b X.I) (λu gU=>bl Z2 X.A (f v u) Zl X.cv gU) X.cv dN) X.cv s:=by
 obtain⟨⟨aA,aM⟩,az,au⟩:=cn hd;obtain⟨⟨t1,cR⟩,a6,bX⟩:=dw au;cases bX;obtain⟨⟨ta,Nv,na⟩,f1,f2⟩:=cn az;obtain⟨⟨tb,nb⟩,en,f4⟩:=dw f2;cases f4;obtain⟨⟨aa5,lG,xq⟩,g1,g2⟩:=cn en;cases g2;refine b2 (ba.run f1 I R) λfX s1 ⟨v1,H1,bf,bA,a1,bt,b6⟩=>?_;refine b2 (aq.run g1 bf bt) λf9 s2 ⟨v2,bV,cS,cp,a2,dj,dA⟩=>?_;exact aF B ae s2 O bV [v1,v2] [fX,f9] [ta,aa5] _ _ _ Q cS (.cons bA<|.cons cp .nil) (.cons (ew.ext bt.aQ a2<|b6.root bt R.aQ)<|.cons (dA.root dj bt.aQ) .nil) dj.aQ a6
  λv aj x y z=>k v aj (a1.trans<|a2.trans x) y<|(z.back a2 dj.aQ).back a1 bt.aQ
def u6{a b:Expr}{dQ db:bM}{op:Operator}{g:eC}{pos:Pos}(aF:fS X tw (two<|ma op) g)(ba:bF X tw a dQ)(aq:bF X tw b db):bF X tw (.BinOp a op b pos)<|aH g<|aa dQ<|aa db ar:=by intro B S n t m n' hd ae s O H Q I ⟨R,k⟩;exact wpAny_BinOp<|DL aF ba aq hd I R k
def Je{a b:Expr}{dQ db:bM}{op:CmpOp}{g:eC}{pos:Pos}(aF:fS X tw (two<|hq op) g)(ba:bF X tw a dQ)(aq:bF X tw b db)(af:autoParam (wz op b=Y1) az8._auto_1) :
  bF X tw (.Compare a [op] [b] pos) (aH g<|aa dQ<|aa db ar):=by
 intro B S n t m n' hd ae s O H Q I ⟨R,k⟩;exact wpAny_Compare1 (DL aF ba aq hd I R k) af
def z7{a b:Expr}{dQ db:bM}{g:eC}{pos:Pos}(aF:∀value slice,(∀v u,Ci slice Y1 v u=operate [v,u] (nE v u))->fS X tw (two λv u=>Ck value slice v u) g)(ba:bF X tw a dQ)(aq:bF X tw b db)(aP:ajQ b) :
  bF X tw (.Subscript a b pos) (aH g<|aa dQ<|aa db ar):=by
 intro B S n t m n' hd ae s O H Q I ⟨R,k⟩;exact Cm<|DL (aF a b aP) ba aq hd I R k
def wV(K:PySem.W.Frag)(B:aJ)(tw:Addr)(S:bE)(n:Nat)(b:Bool)(n':Nat):TT:=λO H Q=>dr K B tw S n O H/\∀aj,dn tw H aj->df tw n' aj->Q b aj
def ST(X:bI)(tw:Addr)(e:Expr)(d:fb):Prop:=∀B S n b n',d S n=J (b,n')->nH X e (wV X.K B tw S n b n')
def oS(X:bI)(tw:Addr)(e:Expr)(d:fb):Prop:=∀B S n b n',d S n=J (b,n')->yY X e (wV X.K B tw S n b n')
def oS.st{e:Expr}{d:fb}(h:oS X tw e d):ST X tw e d:=λB S n b n' hd=>(h B S n b n' hd).pt
def ST.run{e:Expr}{d:fb}(h:ST X tw e d){B:aJ}{S:bE}{n:Nat}{b:Bool}{n':Nat}(hd:d S n=J (b,n')){ae:List Z1}{s:aR}{O:St}{H:aJ}(I:aS X ae O H s)(R:dr X.K B tw S n O H) :
  bl Z2 X.A (isTrue e X.I<|eval e X.I) (λc s'=>c=b/\∃aj,aS X ae O aj s'/\dn tw H aj/\dr X.K B tw S n' O aj) X.cv s :=
 b2 (h B S n b n' hd ae s O H (λc aj=>c=b/\dn tw H aj/\df tw n' aj) I ⟨R,λaj x y=>⟨rfl,x,y⟩⟩) λc s' ⟨aj,eH,e,x,y⟩=>⟨e,aj,eH,x,R.mono x y⟩
def Jf{t:T}{b:Bool}{v:V}{u:mt}{ae:List Z1}{s:aR}{O:St}{H:aJ}{Q:Bool->aR->Prop}(I:aS X ae O H s)(r:cW v u)(aV:ew X.K tw H t v)(h:jF t=J b)(k:∀s',aS X ae O H s'->Q b s') :
  bl Z2 X.A (truthy u) Q X.cv s:=by
 have go:TO X.K v H b->bl Z2 X.A (truthy u) Q X.cv s:=λq =>
  b2 (ah4 ae s O H v u (λc aj=>c=b/\aj=H) I r ⟨b,q,rfl,rfl⟩) λc s' ⟨aj,eH,az,au⟩=>by subst az au;exact k s' eH
 cases t with
 |br =>
  have aV:aI tw H .br v:=aV;rw[aI]at aV;subst aV;exists h;exact go rfl
 |aC c =>
  have aV:aI tw H (.aC c) v:=aV;rw[aI]at aV;subst aV;exists h;exact go rfl
 |int i =>
  have aV:aI tw H (.int i) v:=aV;rw[aI]at aV;subst aV;exists h;exact go rfl
 |aD xs =>
  have aV:aI tw H (.aD xs) v:=aV;rw[aI]at aV;obtain⟨a,ah,rfl,e,q⟩:=aV
  exists h
  refine go<|.inr<|.inl ⟨ah,e6.of e,?_⟩;have:=q.H
  exists xs<;>exists ah<;>first|rfl|(simp at this)
 |ao xs =>
  obtain⟨a,ah,rfl,e,q⟩:=aV
  exists h
  refine go<|.inl ⟨ah,e.gi,?_⟩;have:=q.H
  exists xs<;>exists ah<;>first|rfl|(simp at this)
 |bk ay =>
  obtain⟨a,ws,rfl,na,e,q⟩:=aV
  exists h
  exists r
  refine ajU I e λs' eH=>?_;have:(!ws.isEmpty)=!ay.isEmpty:=by
   cases ay with
   |nil=>rw[cJ]at q;rw[q];rfl
   |cons p r=>obtain⟨k,x⟩:=p;rw[cJ]at q;obtain⟨_,_,e,_⟩:=q;rw[e];rfl
  rw[this];exact k s' eH
 |_=>exists h
def UQ{e:Expr}{d:bM}(h:bF X tw e d)(he:autoParam (∀whole,isTrue e X.I whole=(do let v<-whole;standAt e.pos;oI [v] (truthy v))) sA):ST X tw e<|bK d:=by
 intro B S n b n' hd ae s O H Q I ⟨R,k⟩;obtain⟨⟨t,m,aM⟩,az,au⟩:=cn hd;obtain⟨gV,a6,bX⟩:=dw au
 exists bX
 exact isTrue_plain (b2 (h.run az I R) λu s1 ⟨v,H1,bf,bA,a1,bt,b6⟩=>Jf bf bA (b6.root bt R.aQ) a6 λs2 cS=>⟨H1,cS,k H1 a1 bt.aQ⟩)<|he _
def xr{a b:Expr}{dQ db:bM}{op:CmpOp}{g:eC}{pos:Pos}(aF:fS X tw (two<|hq op) g)(ba:bF X tw a dQ)(aq:bF X tw b db)(af:autoParam (wz op b=Y1) az8._auto_1) :
  ST X tw (.Compare a [op] [b] pos) (bK<|aH g<|aa dQ<|aa db ar):=by
 intro B S n c n' hd ae s O H Q I ⟨R,k⟩;obtain⟨⟨t,m,aM⟩,az,au⟩:=cn hd;obtain⟨gV,a6,bX⟩:=dw au
 exists bX
 refine wpAny_isTrue_Compare1 (b2 (DL aF ba aq az (Q:=λv aj=>dn tw H aj/\df tw aM aj/\Val X.K B tw H aj t m v) I R λv aj x y z=>⟨x,y,z⟩) λv s1 aX=>b2 aX λu s2 bb=>b2 bb λw s3 ⟨x,aj,eH,b5,gK,gV,cH⟩=>?_) af;exact Jf eH b5 (cH.root (R.mono gK gV) R.aQ) a6 λs4 hb=>⟨aj,hb,k aj gK gV⟩
def UR{e:Expr}{d:fb}{pos:Pos}(h:ST X tw e d):ST X tw (.UnaryOp .Not e pos)<|eu d:=by
 intro B S n b n' hd ae s O H Q I ⟨R,k⟩;obtain⟨⟨c,aM⟩,az,au⟩:=dw hd
 exists au
 exact ahT (h B S n c aM az) ae s O H Q I ⟨R,λaj x y=>k aj x y⟩
def aj2{e:Expr}{d:fb}{pos:Pos}(h:ST X tw e d):oS X tw (.BoolOp .And [e] pos) d:=λB S n b n' hd=>ajH<|h B S n b n' hd
def US{e:Expr}{d:fb}{pos:Pos}(h:ST X tw e d):oS X tw (.BoolOp .Or [e] pos) d:=λB S n b n' hd=>ahS<|h B S n b n' hd
def ain{a b:Expr}{rest:List Expr}{dQ db:fb}{pos:Pos}(af:ST X tw a dQ)(ak:oS X tw (.BoolOp .And (b::rest) pos) db):oS X tw (.BoolOp .And (a::b::rest) pos)<|pE dQ db:=by
 intro B S n c n' hd yZ ae s O H Q I ⟨R,k⟩;obtain⟨⟨x,aM⟩,az,au⟩:=cn hd;refine isTrue_and (b2 (af.run az I R) λy s1 ⟨i9,H1,bf,a1,bt⟩=>?_);subst i9;cases y with
 |true =>
  have au:db S aM=J (c,n'):=au;exact ak B S aM c n' au yZ ae s1 O H1 Q bf ⟨bt,λaj p q=>k aj (a1.trans p) q⟩
 |false =>
  have au:J (Y1,aM)=J (c,n'):=au
  exists au
  exact⟨H1,bf,k H1 a1 bt.aQ⟩
def Uo{a b:Expr}{rest:List Expr}{dQ db:fb}{pos:Pos}(af:ST X tw a dQ)(ak:oS X tw (.BoolOp .Or (b::rest) pos) db):oS X tw (.BoolOp .Or (a::b::rest) pos)<|hY dQ db:=by
 intro B S n c n' hd yZ ae s O H Q I ⟨R,k⟩;obtain⟨⟨x,aM⟩,az,au⟩:=cn hd;refine isTrue_or (b2 (af.run az I R) λy s1 ⟨i9,H1,bf,a1,bt⟩=>?_);subst i9;cases y with
 |false =>
  have au:db S aM=J (c,n'):=au;exact ak B S aM c n' au yZ ae s1 O H1 Q bf ⟨bt,λaj p q=>k aj (a1.trans p) q⟩
 |true =>
  have au:J (Y0,aM)=J (c,n'):=au
  exists au
  exact⟨H1,bf,k H1 a1 bt.aQ⟩
def aio{e:Expr}{d:bM}{pos:Pos}(h:bF X tw e d):bF X tw (.UnaryOp .Not e pos)<|xf<|bK d:=by intro B S n t m n' hd ae s O H Q I ⟨R,k⟩;obtain⟨⟨b,aM⟩,az,au⟩:=dw hd;cases au;obtain⟨⟨t,m,bC⟩,a6,bX⟩:=cn az;obtain⟨gV,eR,fO⟩:=dw bX;cases fO;refine UnaryOp_ (b2 (h.run a6 I R) λu s1 ⟨v,H1,bf,bA,a1,bt,b6⟩=>not_of (Jf bf bA (b6.root bt R.aQ) eR λs2 cS=>?_));exact⟨.aC<|!b,H1,cS,rfl,k _ H1 a1 bt.aQ<|by show aI tw H1 (.aC<|!b) _;rw[aI]⟩
def agY{c a b:Expr}{gj:fb}{dQ db:bM}{pos:Pos}(aT:ST X tw c gj)(ba:bF X tw a dQ)(aq:bF X tw b db):bF X tw (.IfExp c a b pos)<|s7 gj dQ db:=by
 intro B S n t m n' hd ae s O H Q I ⟨R,k⟩;obtain⟨⟨x,aM⟩,az,au⟩:=cn hd;refine alB (tA:=wV X.K B tw S n x aM) (ta:=λO H Q=>x=Y0/\q4 X.K B tw S aM t m n' O H Q) (tb:=λO H Q=>x=Y1/\q4 X.K B tw S aM t m n' O H Q) (aT B S n x aM az) ?_ ?_ ae s O H Q I ⟨R,λaj p q=>?_⟩
 ·rintro ae s O H Q I ⟨rfl,h⟩;exact ba B S aM t m n' au ae s O H Q I h
 ·rintro ae s O H Q I ⟨rfl,h⟩;exact aq B S aM t m n' au ae s O H Q I h
 ·have bt:=R.mono p q;cases x with
  |true=>exact F0 ⟨rfl,bt,λv bV a b c=>k v bV (p.trans a) b<|c.back p q⟩
  |false=>exact FZ ⟨rfl,bt,λv bV a b c=>k v bV (p.trans a) b<|c.back p q⟩
def aip{op}{e:Expr}{d:bM}{pos:Pos}(h:bF X tw e d):bF X tw (.BoolOp op [e] pos) d:=λB S n t m n' hd=>ahU<|h B S n t m n' hd
def aiq{a b:Expr}{rest:List Expr}{dQ db:bM}{pos:Pos}(af:bF X tw a dQ)(ak:bF X tw (.BoolOp .And (b::rest) pos) db):bF X tw (.BoolOp .And (a::b::rest) pos)<|rm dQ db:=by
 intro B S n t m n' hd ae s O H Q I ⟨R,k⟩;obtain⟨⟨x,cR,aM⟩,az,au⟩:=cn hd;refine BoolOp_and (b2 (af.run az I R) λu s1 ⟨v,H1,bf,bA,a1,bt,b6⟩=>?_);have aV:=b6.root bt R.aQ;cases x with
 |aC c =>
  have aV:aI tw H1 (.aC c) v:=aV;rw[aI]at aV;subst aV;exists bA;refine qX ?_;cases c with
  |true =>
   have au:db S aM=J (t,m,n'):=au;exact ak B S aM t m n' au ae s1 O H1 Q bf ⟨bt,λv aj p q r=>k v aj (a1.trans p) q<|r.back a1 bt.aQ⟩
  |false =>
   have au:J (T.aC Y1,bo.ag,aM)=J (t,m,n'):=au
   exists au
   exact⟨.aC Y1,H1,bf,rfl,k _ H1 a1 bt.aQ<|by show aI tw H1 (.aC Y1) _;rw[aI]⟩
 |_=>exists au
def V2(K:PySem.W.Frag)(B:aJ)(tw:Addr)(S:bE)(n:Nat)(aA:List T)(n':Nat):kU:=λO H Q =>
 dr K B tw S n O H/\∀ah aj,dn tw H aj->df tw n' aj->bR tw aj aA ah->Q ah aj
def sC(X:bI)(tw:Addr)(es:List Expr)(d:gh):Prop:=∀B S n aA n',d S n=J (aA,n')->nI X es (V2 X.K B tw S n aA n')
def nY:sC X tw [] ar:=by
 intro B S n aA n' hd pos ae s O H Q I ⟨R,k⟩
 exists hd
 exact zQ pos ae s O H Q I<|k [] H ZT R.aQ .nil
def g6{e:Expr}{es:List Expr}{d:bM}{r:gh}(af:bF X tw e d)(ak:sC X tw es r)(aP:autoParam ZP bu):sC X tw (e::es)<|aa (aY d) r:=by
 intro B S n aA n' hd pos ae s O H Q I ⟨R,k⟩;obtain⟨⟨t,m,aM⟩,az,au⟩:=cn hd;obtain⟨⟨m3,bC⟩,a6,bX⟩:=dw au
 exists bX
 obtain rfl:m=.ag:=by obtain⟨_,_,q⟩:=cn az;obtain⟨_,_,q⟩:=dw q;cases q;rfl
 rw[aP];show bl _ _ (so<|ZG::ff pos Zm) _ _ s;refine ia (b2 ((xp af).run az I R) λu s1 ⟨v,H1,bf,bA,a1,bt,b6⟩=>?_);refine b2 (ak B S aM m3 bC a6 pos ae s1 O H1 (λah bV=>dn tw H1 bV/\df tw bC bV/\bR tw bV m3 ah) bf ⟨bt,λah aj x y z=>⟨x,y,z⟩⟩) λus s2 ⟨ah,bV,cS,cp,a2,eI,dA⟩=>?_;exact⟨v::ah,bV,cS,.cons bA cp,k _ _ (a1.trans a2) eI<|.cons (aI.mono (a2.b0 bt.aQ) _ _ b6) dA⟩
def qr{k:Nat}(h:k<=bh):k<=dg:=bP h (by rw[mK];decide)
def DM{k:Nat}(h:k<bh):k<dg:=d5 h (by rw[mK];decide)
def Jg{es:List Expr}{a:gh}{bH}{pos:Pos}(h:sC X tw es a):bF X tw (.Tuple es bH pos)<|cw a:=by
 intro B S n t m n' hd ae s O H Q I ⟨R,k⟩;obtain⟨⟨aA,aM⟩,az,au⟩:=cn hd;by_cases aq:aA.H<=bh
 ·rw[Y2 aq]at au
  exists au
  refine UO (h B S n aA aM az) ae s O H Q I ⟨R,λah aj x y z=>⟨by rw[<-z.H];exact qr aq,λp aF=>k _ _ (x.trans<|.new aF) (y.new aF) ?_⟩⟩;show aI tw _ (.aD aA) _;rw[aI];exact⟨p,ah,rfl,fC,bR.mono (.new aF) _ _ z⟩
 ·rw[Y3 aq]at au;exists au
def u7{es:List Expr}{a:gh}{pos:Pos}(h:sC X tw es a):bF X tw (.List es pos)<|dG a:=by
 intro B S n t m n' hd ae s O H Q I ⟨R,k⟩;obtain⟨⟨aA,aM⟩,az,au⟩:=cn hd;by_cases aq:aA.H<=bh
 ·rw[Y2 aq]at au
  exists au
  refine IQ (h B S n aA aM az) ae s O H Q I ⟨R,λah aj x y z=>⟨by rw[<-z.H];exact qr aq,λp aF=>k _ _ (x.trans<|.new aF) (y.new aF) ?_⟩⟩;exact⟨p,rfl,x.free y aF,ah,fC,bR.mono (.new aF) _ _ z⟩
 ·rw[Y3 aq]at au;exists au
inductive Args (K:PySem.W.Frag) (tw:Addr) (H:aJ):List (T×Bool)->List V->Prop
 |nil:Args K tw H [] []
 |cons {t:T} {b:Bool} {v:V} {aA:List<|T×Bool} {ah:List V}:(b=Y0->aI tw H t v)->ew K tw H t v->Args K tw H aA ah->Args K tw H ((t,b)::aA) (v::ah)
theorem Args.length{K:PySem.W.Frag}{H:aJ}:∀{aA:List (T×Bool)} {ah:List V},Args K tw H aA ah->aA.H=ah.H
 |_,_,.nil=>rfl
 |_,_,.cons _ _ b=>by rw[d9,d9,Args.length b]
def V3(K:PySem.W.Frag)(B:aJ)(tw:Addr)(S:bE)(n:Nat)(aA:List<|T×Bool)(n':Nat):kU:=λO H Q =>
 dr K B tw S n O H/\∀ah aj,dn tw H aj->df tw n' aj->Args K tw aj aA ah->Q ah aj
def SB(X:bI)(tw:Addr)(es:List Expr)(d:iy):Prop:=∀B S n aA n',d S n=J (aA,n')->nI X es (V3 X.K B tw S n aA n')
def UT:SB X tw [] a9:=by
 intro B S n aA n' hd pos ae s O H Q I ⟨R,k⟩
 exists hd
 exact zQ pos ae s O H Q I<|k [] H ZT R.aQ .nil
noncomputable def DN:bo->bo
 |.aE=>.ag
 |.cZ=>.cZ
 |.i3=>.i3
 |.ag=>.ag
noncomputable def vZ(d:bM):bM:=λS n=>(d S n).map λr=>(r.1,DN r.2.1,r.2.2)
def Jh{e:Expr}{d:bM}(h:bF X tw e d):bF X tw e<|vZ d:=by
 intro B S n t m n' hd;obtain⟨⟨t0,m0,n0⟩,af,ak⟩:=dw hd;cases ak;cases m0 with
 |aE=>exact xp h B S n _ _ _ (by unfold aY;rw[af];rfl)
 |cZ=>exact h B S n _ _ _ af
 |i3=>exact h B S n _ _ _ af
 |ag=>exact h B S n _ _ _ af
def Pk{e:Expr}{es:List Expr}{d:bM}{r:iy}(af:bF X tw e d)(ak:SB X tw es r)(aP:autoParam ZP bu):SB X tw (e::es)<|ax d r:=by
 intro B S n aA n' hd pos ae s O H Q I ⟨R,k⟩;obtain⟨⟨t,m,aM⟩,az,au⟩:=cn hd;obtain⟨⟨m3,bC⟩,a6,bX⟩:=dw au
 exists bX
 rw[aP];show bl _ _ (so<|ZG::ff pos Zm) _ _ s;have tf:vZ d S n=J (t,DN m,aM):=by unfold vZ;rw[az];rfl
 refine ia (b2 ((Jh af).run tf I R) λu s1 ⟨v,H1,bf,bA,a1,bt,b6⟩=>?_);refine b2 (ak B S aM m3 bC a6 pos ae s1 O H1 (λah bV=>dn tw H1 bV/\df tw bC bV/\Args X.K tw bV m3 ah) bf ⟨bt,λah aj x y z=>⟨x,y,z⟩⟩) λus s2 ⟨ah,bV,cS,cp,a2,eI,dA⟩=>?_;refine⟨v::ah,bV,cS,.cons bA cp,k _ _ (a1.trans a2) eI<|.cons (λaq=>?_) (ew.ext bt.aQ a2<|b6.root bt R.aQ) dA⟩;have aV:ew X.K tw H1 t v:=b6.root bt R.aQ;cases m with
 |aE=>exact aI.mono (a2.b0 bt.aQ) _ _ b6
 |ag=>exact aI.mono (a2.b0 bt.aQ) _ _ b6
 |cZ=>exact aI.mono (a2.b0 bt.aQ) _ _ (aV.rep<|by simpa[flag]using aq)
 |i3=>exact aI.mono (a2.b0 bt.aQ) _ _ (aV.rep<|by simpa[flag]using aq)
def nZ(K:PySem.W.Frag)(tw:Addr)(dU:Nat)(f:cY):kX:=λah H Q _=>ah.H=dU/\∃aA n t m n',Args K tw H aA ah/\df tw n H/\f aA n=J (t,m,n') /\
 ∀v aj,dn tw H aj->df tw n' aj->Val K H tw H aj t (eP m) v->Q v aj
def Val.base{K:PySem.W.Frag}{B uz:aJ}{ht H:aJ}{t:T}{m:Bool}{v:V}(h:Val K B tw ht H t (eP m) v):Val K uz tw ht H t (eP m) v:=by
 exists m<;>exact h
def aj3{f:cY}{lv:Nat}{da:Addr}{fd:hC}{ps:List Str}{x:Str}{p pos:Pos}{e:Expr}{es:List Expr}{a:iy}{dU:Nat}(F:i2 X.R X.w X.K X.a3 X.V iB lv da fd ps<|nZ X.K tw dU f)(aU:eD lv X.A)(hm:X.a3 x=J (.ref da))(aW:PySem.W.keepIn X.K (.ref da)=Y0)
  (aq:Binds X.K fd ps []) (ba:SB X tw (e::es) a) (bT:autoParam (fv X x) bu) (fQ:autoParam ZH eM) (he:autoParam ZP bu)
  (eS:autoParam ((ff pos Zm).any (·.1)=Y1) bu):bF X tw Zn<|bB dU f a:=by
 intro B S n t m n' hd ae s O H Q I ⟨R,k⟩;obtain⟨⟨aA,aM⟩,az,au⟩:=cn hd;by_cases aB:aA.H=dU
 ·rw[Y2 aB]at au;obtain⟨⟨t1,cR,bC⟩,a6,bX⟩:=dw au;cases bX;refine ajM (E:=q3) (sp:=nZ X.K tw dU f) F aU bT hm aW aq .nil Un (ba B S n aA aM az) fQ he eS ae s O H Q I ⟨R,λah aj x y z=>?_⟩;show nZ X.K tw dU f (ah++[]) aj Q q3;rw[r7];exact⟨z.H▸aB,aA,aM,t1,cR,bC,z,y,a6,λv ee a b c=>k v ee (x.trans a) b<|c.base.back x y⟩
 ·rw[Y3 aB]at au;exists au
section
variable {K:PySem.W.Frag}{B:aJ}{S:bE}{n:Nat}{O:St}{H:aJ}{i j:Nat}{t t':T}{m:bo}{v:V}
def hp{α:Type}{l:List α}{i j:Nat}{x y:α}(h:(l.set i x)[j]?=J y):(j=i/\y=x/\i<l.H)\/(j≠i/\l[j]?=J y):=by
 rw[yt]at h;by_cases e:i=j
 ·subst e;rw[Y2 rfl]at h;split at h
  ·rename_i aB;exact .inl ⟨rfl,(Option.some.inj h).symm,aB⟩
  ·exists h
 ·rw[Y3 e]at h;exact .inr ⟨λz=>e z.symm,h⟩
def DO{α:Type}{l:List α}{i:Nat}{x:α}(h:i<l.H):(l.set i x)[i]?=J x:=by rw[yt,Y2 rfl,Y2 h]
def n1{α:Type}{l:List α}{i j:Nat}{x:α}(h:j≠i):(l.set i x)[j]?=l[j]?:=by rw[yt,Y3<|Ne.symm h]
def dr.pG(R:dr K B tw S n O H)(h:aI tw H t v):dr K B tw (S.set i Zp) n (O.set i<|some v) H:=by
 refine⟨R.ext,R.aQ,R.lh,by rw[r8,r8];exact R.len,λj t' e=>?_,λj t' e=>?_,λj t' e=>?_,λj t' e=>?_,λj k t1 eI a az au s1 s2=>?_⟩
 ·rcases hp e with⟨rfl,q,aB⟩|⟨ne,e⟩
  ·exists q;exact⟨v,DO<|R.len▸aB,h⟩
  ·obtain⟨w,af,ak⟩:=R.ag j t' e;exact⟨w,by rw[n1 ne];exact af,ak⟩
 ·rcases hp e with⟨rfl,q,aB⟩|⟨ne,e⟩
  ·cases q
  ·obtain⟨w,af,ak⟩:=R.cZ j t' e;exact⟨w,by rw[n1 ne];exact af,ak⟩
 ·rcases hp e with⟨rfl,q,aB⟩|⟨ne,e⟩
  ·cases q
  ·obtain⟨w,af,ak⟩:=R.aE j t' e;exact⟨w,by rw[n1 ne];exact af,ak⟩
 ·rcases hp e with⟨rfl,q,aB⟩|⟨ne,e⟩
  ·cases q
  ·exact R.nX j t' e
 ·rcases hp az with⟨rfl,q,aB⟩|⟨aM,az⟩
  ·cases q
  ·rcases hp au with⟨rfl,q,aB⟩|⟨bC,au⟩
   ·cases q
   ·rw[n1 aM]at s1;rw[n1 bC]at s2;exact R.o9 j k t1 eI a az au s1 s2
def dr.TS(R:dr K B tw S n O H)(de:B a=C)(h:mr tw H a t)(hd:∀(j:Nat) (t':T),j≠i->S[j]?=J (J (t',.aE))->O[j]?≠J (J ZN)) :
  dr K B tw (S.set i<|some (t,.aE)) n (O.set i<|some ZN) H:=by
 refine⟨R.ext,R.aQ,R.lh,by rw[r8,r8];exact R.len,λj t' e=>?_,λj t' e=>?_,λj t' e=>?_,λj t' e=>?_,λj k t1 eI b az au s1 s2=>?_⟩
 ·rcases hp e with⟨rfl,q,aB⟩|⟨ne,e⟩
  ·cases q
  ·obtain⟨w,af,ak⟩:=R.ag j t' e;exact⟨w,by rw[n1 ne];exact af,ak⟩
 ·rcases hp e with⟨rfl,q,aB⟩|⟨ne,e⟩
  ·cases q
  ·obtain⟨w,af,ak⟩:=R.cZ j t' e;exact⟨w,by rw[n1 ne];exact af,ak⟩
 ·rcases hp e with⟨rfl,q,aB⟩|⟨ne,e⟩
  ·exists q;exact⟨a,DO<|R.len▸aB,de,h⟩
  ·obtain⟨w,af,ak⟩:=R.aE j t' e;exact⟨w,by rw[n1 ne];exact af,ak⟩
 ·rcases hp e with⟨rfl,q,aB⟩|⟨ne,e⟩
  ·cases q
  ·exact R.nX j t' e
 ·rcases hp az with⟨rfl,q,aB⟩|⟨aM,tf⟩
  ·rw[DO<|R.len▸aB]at s1
   exists s1
   rcases hp au with⟨rfl,q,aB⟩|⟨bC,au⟩
   ·rfl
   ·rw[n1 bC]at s2;exact absurd s2<|hd k eI bC au
  ·rw[n1 aM]at s1;rcases hp au with⟨rfl,q,aB⟩|⟨bC,au⟩
   ·rw[DO<|R.len▸aB]at s2
    exists s2
    exact absurd s1<|hd j t1 aM tf
   ·rw[n1 bC]at s2;exact R.o9 j k t1 eI b tf au s1 s2
def dr.drop(R:dr K B tw S n O H)(i:Nat):dr K B tw (S.set i C) n O H:=by
 have key:∀(j:Nat) (p:T×bo),(S.set i C)[j]?=J (J p)->S[j]?=J (J p):=λj p e=>by
  rcases hp e with⟨rfl,q,aB⟩|⟨ne,e⟩
  ·exists q
  ·exact e
 exact⟨R.ext,R.aQ,R.lh,by rw[r8];exact R.len,λj t' e=>R.ag j t'<|key j _ e,λj t' e=>R.cZ j t'<|key j _ e,λj t' e=>R.aE j t'<|key j _ e,λj t' e=>R.nX j t'<|key j _ e,
  λj k t1 eI a az au s1 s2=>R.o9 j k t1 eI a (key j _ az) (key k _ au) s1 s2⟩
end
def Pl:h1 X tw [] e7:=by
 intro B S n f S' n' hd ae s O H D I ⟨R,k⟩
 exists hd
 exact ajI ae s O H D I<|k O H (.refl _) R
def DP{st:Stmt}{d:bw}(h:gX X tw st d):h1 X tw [st] d:=λB S n f S' n' hd=>Oy<|h B S n f S' n' hd
def DQ{st:Stmt}{nR:List Stmt}{d e:bw}(af:gX X tw st d)(ak:h1 X tw nR e):h1 X tw (st::nR)<|bL d e:=by
 intro B S n f S' n' hd ae s O H D I ⟨R,k⟩;obtain⟨⟨f1,S1,aM⟩,az,au⟩:=cn hd;cases f1 with
 |bD =>
  have au:e S1 aM=J (f,S',n'):=au;exact uW (af B S n .bD S1 aM az) (ak B S1 aM f S' n' au) ae s O H D I ⟨R,λU' aj x y=>⟨y,k.b0 x⟩⟩
 |gs=>exists au;exact uW (af B S n .gs S1 aM az) Dq ae s O H D I ⟨R,k⟩
 |eE=>exists au;exact uW (af B S n .eE S1 aM az) Dq ae s O H D I ⟨R,k⟩
 |aV t m=>exists au;exact uW (af B S n (.aV t m) S1 aM az) Dq ae s O H D I ⟨R,k⟩
def alN{st:Stmt}:gX X tw st jh:=by
 intro B S n f S' n' hd
 exists hd
def Up{c:Expr}{a b:List Stmt}{gj:fb}{dQ db:bw}{pos:Pos}(aT:ST X tw c gj)(ba:h1 X tw a dQ)(aq:h1 X tw b db):gX X tw (.If c a b pos)<|eG gj dQ db:=by
 intro B S n f S' n' hd ae s O H D I ⟨R,k⟩;obtain⟨⟨x,aM⟩,az,au⟩:=cn hd;refine wpAny_If (b2 (aT.run az I R) λy s1 ⟨i9,H1,bf,a1,bt⟩=>?_);subst i9;cases y with
 |true=>exact ba B S aM f S' n' au ae s1 O H1 D bf ⟨bt,k.b0<|a1.b0 R.aQ⟩
 |false=>exact aq B S aM f S' n' au ae s1 O H1 D bf ⟨bt,k.b0<|a1.b0 R.aQ⟩
def Pm{e:Expr}{d:bM}{pos:Pos}(h:bF X tw e d)(aP:autoParam (nC e C pos.line X.I=pure Y1) bu):gX X tw (.Expr e pos)<|eT d:=by intro B S n f S' n' hd ae s O H D I ⟨R,k⟩;obtain⟨⟨t,m,aM⟩,az,au⟩:=dw hd;cases au;exact zJ (h B S n t m aM az) aP ae s O H D I ⟨R,λv aj x y z=>k O aj (x.b0 R.aQ)<|R.mono x y⟩
def DR{e:Expr}{d:bM}{pos:Pos}(h:bF X tw e d):gX X tw (.Return (J e) pos)<|cT d:=by
 intro B S n f S' n' hd ae s O H D I ⟨R,k⟩;obtain⟨⟨t,m,aM⟩,az,au⟩:=cn hd;refine IE (h B S n t m aM az) ae s O H D I ⟨R,λv aj x y z=>?_⟩;cases m with
 |aE =>
  exists au
  exact k v aj (x.b0 R.aQ) (R.ext.trans x) y<|z.back R.ext R.aQ
 |ag =>
  exists au
  exact k v aj (x.b0 R.aQ) (R.ext.trans x) y z
 |_=>exists au
def aa6(i:Nat){x:Str}{pos pos':Pos}(dK:autoParam (X.N[i]?=J x) bu)(bS:autoParam (qj X.I.Y x) az7._auto_1)(hd:autoParam ZH eM)
  (g4:autoParam ((x==("__classdict__" : Str))=Y1) eM):gX X tw (.Return (J<|.Name x pos') pos)<|s8 i:=by
 intro B S n f S' n' bp ae s O H D I ⟨R,k⟩;have fin:∃v,O[i]?=J (J v)/\D.aV v H:=by
  unfold s8 at bp;cases e:S[i]? with
  |none=>rw[e]at bp;exists bp
  |some o =>
   cases o with
   |none=>rw[e]at bp;exists bp
   |some p =>
    obtain⟨t,m⟩:=p;rw[e]at bp;cases m with
    |aE =>
     exists bp
     obtain⟨a,af,ak,bc⟩:=R.aE i t e;exact⟨_,af,k _ H (.refl _) R.ext R.aQ ⟨a,rfl,ak,bc⟩⟩
    |ag =>
     exists bp
     obtain⟨v,af,ak⟩:=R.ag i t e;exact⟨_,af,k _ H (.refl _) R.ext R.aQ ak⟩
    |cZ =>
     have bp:(if ho t then C else J (hG.aV t Y1,S,n))=J (f,S',n'):=bp;split at bp
     ·exists bp
     ·rename_i b
      exists bp
      obtain⟨v,af,ak⟩:=R.cZ i t e;exact⟨_,af,k _ H (.refl _) R.ext R.aQ (let ⟨_,q5⟩:=R.lh;aI.mono (R.ext.b0 q5) _ _ (ak.rep<|by simpa using b))⟩
    |i3=>exists bp
 obtain⟨v,af,ak⟩:=fin;exact IE (uU dK bS hd g4) ae s O H D I ⟨v,af,ak⟩
def Pn{K:PySem.W.Frag}{B:aJ}{S:bE}{n:Nat}{O:St}{H:aJ}{a:Addr}(R:dr K B tw S n O H)(h:H a=C):∀(j:Nat) (t':T),S[j]?=J (J (t',.aE))->O[j]?≠J (J ZN):=λj t' e z=>by obtain⟨b,af,_,bc⟩:=R.aE j t' e;rw[z]at af;exists af;exact bc.some h
def dr.store{K:PySem.W.Frag}{B:aJ}{S S':bE}{n n':Nat}{O:St}{H aj:aJ}{i:Nat}{t:T}{m:bo}{v:V}(R:dr K B tw S n O H)(x:dn tw H aj)(y:df tw n' aj)(z:Val K B tw H aj t m v)
  (h:(match m with|.aE=>J (S.set i<|some (t,bo.aE))|.ag=>J (S.set i<|some (t,bo.ag))|_=>C)=J S'):dr K B tw S' n' (O.set i<|some v) aj:=by
 have bt:=R.mono x y;cases m with
 |aE =>
  exists h
  obtain⟨a,rfl,bb,cK⟩:=z;exact bt.TS (R.ext.free R.aQ bb) cK λj t' _ e z=>Pn R bb j t' e z
 |ag =>
  exists h
  exact bt.pG z
 |_=>exists h
def UU(i:Nat){x:Str}{e:Expr}{d:bM}{pos pos':Pos}(h:bF X tw e d)(dK:X.N.Nodup)(hi:autoParam (X.N[i]?=J x) bu)(av:autoParam (Loc X.I.Y x) az4._auto_1)(aP:autoParam (nC e (J<|.Name x pos') pos.line X.I=pure Y1) bu)
  (hf:autoParam Zs pY):gX X tw (.Assign [.Name x pos'] e pos)<|dM i d:=by
 intro B S n f S' n' hd ae s O H D I ⟨R,k⟩;obtain⟨⟨t,m,aM⟩,az,au⟩:=cn hd;refine Ds dK hi av (h B S n t m aM az) aP hf ae s O H D I ⟨R,λv aj x y z=>?_⟩;cases m with
 |aE=>exists au;exact k _ aj (x.b0 R.aQ)<|R.store x y z rfl
 |ag=>exists au;exact k _ aj (x.b0 R.aQ)<|R.store x y z rfl
 |_=>exists au
def aa7(i j:Nat){x y:Str}{pos pos' py:Pos}(dK:X.N.Nodup)(jH:autoParam (i≠j) eM)(hi:autoParam (X.N[i]?=J x) bu)(av:autoParam (Loc X.I.Y x) az4._auto_1)(bU:autoParam (X.N[j]?=J y) bu)(bS:autoParam (qj X.I.Y y) az7._auto_1)
  (hd:autoParam ((y==("__debug__" : Str))=Y1) eM) (g4:autoParam ((y==("__classdict__" : Str))=Y1) eM) (aP:autoParam (nC (.Name y py) (J<|.Name x pos') pos.line X.I=pure Y1) bu)
  (hf:autoParam Zs pY):gX X tw (.Assign [.Name x pos'] (.Name y py) pos)<|ro i j:=by
 intro B S n f S' n' bp ae s O H D I ⟨R,k⟩;have fin:∃v,O[j]?=J (J v)/\D.bD (O.set i<|some v) H:=by
  unfold ro at bp;cases e:S[j]? with
  |none=>rw[e]at bp;exists bp
  |some o =>
   cases o with
   |none=>rw[e]at bp;exists bp
   |some p =>
    obtain⟨t,m⟩:=p;rw[e]at bp;cases m with
    |aE =>
     exists bp
     obtain⟨a,af,ak,bc⟩:=R.aE j t e;refine⟨_,af,k _ H (.refl _) ((R.drop j).TS ak bc λl t' _ az au=>?_)⟩;rcases hp az with⟨_,q,_⟩|⟨ne,az⟩
     ·exists q
     ·exact ne<|R.o9 l j t' t a az e au af
    |ag =>
     exists bp
     obtain⟨v,af,ak⟩:=R.ag j t e;exact⟨_,af,k _ H (.refl _)<|R.pG ak⟩
    |cZ =>
     have bp:(if ho t then C else J (hG.bD,S.set i<|some (t,bo.ag),n))=J (f,S',n'):=bp;split at bp
     ·exists bp
     ·rename_i b
      exists bp
      obtain⟨v,af,ak⟩:=R.cZ j t e;exact⟨_,af,k _ H (.refl _)<|R.pG (let ⟨_,q5⟩:=R.lh;aI.mono (R.ext.b0 q5) _ _ (ak.rep<|by simpa using b))⟩
    |i3=>exists bp
 obtain⟨v,af,ak⟩:=fin;exact Ds dK hi av (uU bU bS hd g4) aP hf ae s O H D I ⟨v,af,ak⟩
theorem Ji{i:Nat}{S:bE}{n:Nat}{f:hG}{S':bE}{n':Nat}{g:T->Option T}(h:(match S[i]? with
  |some (J (t,.aE))=>(g t).map λt'=>(hG.bD,S.set i<|some (t',bo.aE),n)
  |_=>C)=J (f,S',n')):∃t t',S[i]?=J (J (t,bo.aE))/\g t=J t'/\f=.bD/\S'=S.set i (J (t',bo.aE))/\n'=n:=by
 cases e:S[i]? with
 |none=>rw[e]at h;exists h
 |some o =>
  cases o with
  |none=>rw[e]at h;exists h
  |some p =>
   obtain⟨t,m⟩:=p;rw[e]at h;cases m with
   |aE =>
    obtain⟨t',af,ak⟩:=dw h;cases ak;exact⟨t,t',rfl,af,rfl,rfl,rfl⟩
   |_=>exists h
def z8{n:Nat}{n':Nat}(e:aY d S n=J (t,m,n')):m=.ag:=by obtain⟨_,_,q⟩:=cn e;obtain⟨_,_,q⟩:=dw q;cases q;rfl
def mr.other(h:mr tw H b t)(b0:eJ H<|c4 H a o)(nb:b≠a):mr tw (c4 H a o) b t:=by
 cases t with
 |ao xs=>obtain⟨ah,cN,dE⟩:=h;exact⟨ah,by rw[e1 nb];exact cN,bR.mono b0 _ _ dE⟩
 |bk ay=>obtain⟨ah,cN,dE⟩:=h;exact⟨ah,by rw[e1 nb];exact cN,cJ.mono b0 _ _ dE⟩
 |_=>exact h.elim
def dr.write{K:PySem.W.Frag}{B:aJ}{S:bE}{n:Nat}{O:St}{H:aJ}{i:Nat}{t t':T}{a:Addr}{o:jX}(R:dr K B tw S n O H)(e:S[i]?=J (J (t,.aE)))(es:O[i]?=J (J ZN))(h:eJ H (c4 H a o)->mr tw (c4 H a o) a t') :
  dr K B tw (S.set i<|some (t',.aE)) n O (c4 H a o)/\eJ H (c4 H a o):=by
 obtain⟨gK,az,de,kZ⟩:=R.aE i t e;rw[es]at az;exists az;have na:=R.wb de
 have b0:eJ H<|c4 H a o:=λb=>⟨λah q=>by rw[e1<|by rintro rfl;exists t<;>first|(exact(show False from kZ).elim)|(obtain⟨_,z,_⟩:=kZ;rw[q]at z;exists z)];exact q,
  λdh u q=>by
   rw[e1<|by rintro rfl;exists t<;>first|(exact(show False from kZ).elim)|(obtain⟨_,z,_⟩:=kZ;rw[q]at z;exists z)];exact q⟩
 have anv:i<S.H:=(kM.mp e).1;refine⟨⟨R.ext.put de,by show c4 H a o tw=_;rw[e1 na.symm];exact R.aQ,R.lh,by rw[r8];exact R.len,λj t1 q=>?_,λj t1 q=>?_,λj t1 q=>?_,λj t1 q=>?_,λj k t1 eI b aX bb s1 s2=>?_⟩,b0⟩
 ·rcases hp q with⟨_,z,_⟩|⟨ne,q⟩
  ·cases z
  ·obtain⟨v,af,ak⟩:=R.ag j t1 q;exact⟨v,af,aI.mono b0 _ _ ak⟩
 ·rcases hp q with⟨_,z,_⟩|⟨ne,q⟩
  ·cases z
  ·exact R.cZ j t1 q
 ·rcases hp q with⟨rfl,z,_⟩|⟨ne,q⟩
  ·exists z;exact⟨a,es,de,h b0⟩
  ·obtain⟨b,af,ak,bc⟩:=R.aE j t1 q;exact⟨b,af,ak,bc.other b0<|by rintro rfl;exact ne<|R.o9 j i t1 t b q e af es⟩
 ·rcases hp q with⟨_,z,_⟩|⟨ne,q⟩
  ·cases z
  ·exact R.nX j t1 q
 ·have back:∀(l:Nat) (t0:T),(S.set i<|some (t',bo.aE))[l]?=J (J (t0,bo.aE))->∃aa8,S[l]?=J (J (aa8,bo.aE)):=λl t0 z=>by
   rcases hp z with⟨rfl,_,_⟩|⟨_,z⟩
   ·exact⟨t,e⟩
   ·exact⟨t0,z⟩
  obtain⟨fX,cN⟩:=back j t1 aX;obtain⟨f9,dE⟩:=back k eI bb;exact R.o9 j k fX f9 b cN dE s1 s2
def agZ:LQ:=λo i v H Q=>Ul o i v H Q\/∃a aj,o=.ref a/\By H a i v aj/\Q aj
def alO(b7:X.A.units+1<iu):LS X agZ:=by
 intro ae s O H o i v jY iw u Q I Cq wL bq h;rcases h with h|⟨a,aj,rfl,g,q⟩
 ·exact set_list ae s O H o i v jY iw u Q I Cq wL bq h
 ·exists Cq
  exact aaD b7 I g wL bq λs' eH=>⟨aj,eH,q⟩
theorem cJ.length:∀{ay:List (Key×T)} {ws:List ZW},cJ tw H ay ws->ay.H=ws.H
 |[],_,r=>by rw[cJ]at r;rw[r];rfl
 |(k,x)::xs,_,r=>by rw[cJ]at r;obtain⟨v,w,rfl,p,q⟩:=r;rw[d9,d9,cJ.length q]
def xt(a:aI tw H x v)(b:cJ tw H xs ws):cJ tw H ((k,x)::xs)<|(k,v)::ws:=by rw[cJ];exact⟨v,ws,rfl,a,b⟩
theorem cJ.at(k:Key):∀{ay:List (Key×T)} {ws:List ZW},cJ tw H ay ws->(iX ay k=C/\qM ws k=C)\/∃t v,iX ay k=J t/\qM ws k=J v/\aI tw H t v
 |[],_,r=>by rw[cJ]at r;rw[r];exact .inl ⟨rfl,rfl⟩
 |(fI,x)::xs,_,r=>by
  rw[cJ]at r;obtain⟨v,w,rfl,p,q⟩:=r;by_cases e:fI=k
  ·subst e;exact .inr ⟨x,v,by simp[iX,ii],OW rfl,p⟩
  ·have az:iX ((fI,x)::xs) k=iX xs k:=by simp[iX,ii,e]
   rw[az,OX (show ¬ (fI,v).1=k from e)];exact cJ.at k q
theorem cJ.any(k:Key)(r:cJ tw H ay ws):(ay.any λc9=>decide (c9.1=k))=(ws.any λc9=>decide (c9.1=k)):=by
 induction ay generalizing ws with
 |nil=>rw[cJ]at r;rw[r];rfl
 |cons p xs a4 =>
  obtain⟨fI,x⟩:=p;rw[cJ]at r;obtain⟨v,w,rfl,p,q⟩:=r;rw[oB,oB,a4 q]
def cJ.put(k:Key)(av:aI tw H x v)(r:cJ tw H ay ws):cJ tw H (j7 ay k x)<|iH ws k v:=by
 unfold j7 iH;rw[<-r.any k];have mapped:∀{ay:List (Key×T)} {ws:List ZW},cJ tw H ay ws->cJ tw H (ay.map λc9=>if c9.1=k then(c9.1,x) else c9) (ws.map λc9=>if c9.1=k then(c9.1,v) else c9):=by
  intro ay
  induction ay with
  |nil=>intro ws r;rw[cJ]at r;rw[r];rw[qS,qS,cJ]
  |cons p xs a4 =>
   intro ws r;obtain⟨fI,y⟩:=p;rw[cJ]at r;obtain⟨hT,w,rfl,p,q⟩:=r;rw[cU,cU];by_cases e:fI=k
   ·rw[Y2 e,Y2 e];exact xt av<|a4 q
   ·rw[Y3 e,Y3 e];exact xt p<|a4 q
 have snoc:∀{ay:List (Key×T)} {ws:List ZW},cJ tw H ay ws->cJ tw H (ay++[(k,x)]) (ws++[(k,v)]):=by
  intro ay
  induction ay with
  |nil=>intro ws r;rw[cJ]at r;rw[r];exact xt av (by rw[cJ])
  |cons p xs a4 =>
   intro ws r;obtain⟨fI,y⟩:=p;rw[cJ]at r;obtain⟨hT,w,rfl,p,q⟩:=r;exact xt p<|a4 q
 split
 ·exact mapped r
 ·exact snoc r
def Jj{H:aJ}{t:T}{k:Key}{v:V}{K:PySem.W.Frag}(h:ke t=J k)(r:ew K tw H t v):v=eB k:=by
 cases t with
 |int i=>exists h;have r:aI tw H (.int i) v:=r;rw[aI]at r;exact r
 |str x=>exists h;have r:aI tw H (.str x) v:=r;rw[aI]at r;exact r
 |_=>exists h
def air{n:Nat}{i:Int}(h0:0<=i)(af:i<n):sY n i=J i.M:=by unfold sY;rw[Y2 h0,Y2 af]
def alP(i:Nat){x:Str}{nM e:Expr}{mg d:bM}{pos pos' e5:Pos}(b7:X.A.units+1<iu)(bS:bF X tw e d)(aW:bF X tw nM mg)(dK:autoParam (X.N[i]?=J x) bu)(v3:autoParam (qj X.I.Y x) az7._auto_1)(hd:autoParam ZH eM)
  (g4:autoParam ((x==("__classdict__" : Str))=Y1) eM)
  (ba:autoParam (∀v,nF (.Subscript Zj nM pos') X.I v=(do
   let jY<-oI [v] (eval (.Name x e5) X.I)
   let iw<-oI [v,jY] (eval nM X.I)
   standAt pos'
   oI [v,jY,iw] (setItem jY iw v)
   release [v,jY,iw] [])) sA)
  (aP:autoParam (swapsWithSole [.Subscript Zj nM pos'] e pos.line X.I=pure Y1) bu) (hw:autoParam (swappedStores [.Subscript Zj nM pos'] e X.I=pure C) bu)
  (af:autoParam ((mL [.Subscript Zj nM pos'] X.I).map (·.2)=[nF (.Subscript Zj nM pos') X.I]) bu):gX X tw (.Assign [.Subscript Zj nM pos'] e pos)<|qp i qN mg d:=by
 intro B S n f S' n' bp ae s O H D I ⟨R,k⟩;obtain⟨⟨hX,HI,aM⟩,az,au⟩:=cn bp;obtain⟨⟨bx,mk,bC⟩,a6,bX⟩:=cn au;obtain rfl:=z8 az;obtain⟨t,t',hH,dR,rfl,rfl,rfl⟩:=Ji (g:=λt=>qN t bx hX) bX;obtain⟨a,es,de,_⟩:=R.aE i t hH;refine ahY ((xp bS) B S n hX .ag aM az) (ahX (uU dK v3 hd g4) (aW B S aM bx mk _ a6) (alO b7) ba) aP hw af ae s O H D I ⟨R,λv H1 bH dB cN=>?_⟩;have bt:=R.mono bH dB;refine⟨.ref a,es,bt,λc9 bV cf iO dE=>?_⟩;have dj:=bt.mono cf iO;have rk:=dE.root dj bt.aQ;have bq:aI tw bV hX v:=aI.mono (cf.b0 bt.aQ) _ _ cN;obtain⟨gK,jg,_,kZ⟩:=dj.aE i t hH;rw[es]at jg;exists jg;have n2:eJ H bV:=(bH.trans cf).b0 R.aQ;cases t with
 |ao xs =>
  obtain⟨ah,af,ak⟩:=kZ;cases bx with
  |int j =>
   have dR:(if 0<=j/\j<xs.H then J (T.ao<|xs.set j.M hX) else C)=J t':=dR;split at dR
   ·rename_i bU
    exists dR
    have rk:aI tw bV (.int j) c9:=rk;rw[aI]at rk;subst rk;have aB:=ak.H;refine .inl ⟨a,ah,j,j.M,rfl,rfl,af,air bU.1 (by rw[<-aB];exact bU.2),?_⟩;obtain⟨W,b0⟩:=dj.write (t':=.ao<|xs.set j.M hX) (o:=.ao<|ah.set j.M v) hH es λb0=>⟨_,fC,bR.set (aI.mono b0 _ _ bq) _<|bR.mono b0 _ _ ak⟩
    exact k O _ (n2.trans b0) W
   ·exists dR
  |_=>exists dR
 |bk ay =>
  obtain⟨ws,af,ak⟩:=kZ;have dR:(ke bx).bind (λk=>if ay.H<bh then J (T.bk<|j7 ay k hX) else C)=J t':=dR;obtain⟨gY,aX,bb⟩:=cn dR;split at bb
  ·rename_i aq
   exists bb
   have:=Jj aX rk;subst this;refine .inr ⟨a,_,rfl,By.k af (by rw[<-cJ.length ak];exact DM aq),?_⟩;obtain⟨W,b0⟩:=dj.write (t':=.bk<|j7 ay gY hX) (o:=.aw<|iH ws gY v) hH es λb0=>⟨_,fC,cJ.put gY (aI.mono b0 _ _ bq)<|cJ.mono b0 _ _ ak⟩
   exact k O _ (n2.trans b0) W
  ·exists bb
 |_=>exact(show False from kZ).elim
def ais(i:Nat){x:Str}{e:Expr}{d:bM}{pos e5 apos ec:Pos}(bS:bF X tw e d)(dK:autoParam (X.N[i]?=J x) bu)(v3:autoParam (qj X.I.Y x) az7._auto_1)(hd:autoParam ZH eM)
  (g4:autoParam ((x==("__classdict__" : Str))=Y1) eM) (rZ:autoParam (uf Zj "append" X.env (eval Zj X.I)=eval Zj X.I) bu)
  (Bv:autoParam (((ff ec<|b4 [e] X.I).all (λx=>!x.1)&&(uj ec<|uh [] X.I).all (λx=>x.1.isSome)
   && decide (([e]:List Expr).H+([]:List pV).H+(if([]:List pV).isEmpty then 0 else 1)<30))=Y0) bu)
  (r0:autoParam ((apos.endLine==ec.line)=Y0) bu) (aP:autoParam (b4 [e] X.I=ZG::b4 [] X.I) bu) (BG:autoParam ((ff ec<|b4 [] X.I).any (·.1)=Y1) bu) :
  gX X tw (.Expr (.Call (.Attribute Zj "append" apos) [e] [] ec) pos) (hN i rT d):=by
 intro B S n f S' n' bp ae s O H D I ⟨R,k⟩;obtain⟨⟨hX,HI,aM⟩,az,au⟩:=cn bp;obtain rfl:=z8 az;obtain⟨t,t',hH,dR,rfl,rfl,rfl⟩:=Ji au;obtain⟨a,es,de,kZ⟩:=R.aE i t hH;have cx:sC X tw [e]<|aa (aY d) ar:=g6 bS nY aP;have a6:aa (aY d) ar S n=J ([hX],n'):=by unfold aa;rw[az];rfl
 refine zJ (Mb PySem.F.plainAttrs_list PySem.F.slot_list_append PySem.F.type_list_append IX (uU dK v3 hd g4) (cx B S n [hX] _ a6) rZ Bv r0 aP BG) (by rfl) ae s O H D I ?_;cases t with
 |ao xs =>
  obtain⟨ah,af,ak⟩:=kZ;have dR:(if xs.H<bh then J (T.ao<|xs++[hX]) else C)=J t':=dR;split at dR
  ·rename_i aq
   exists dR
   refine⟨.ref a,es,.inl ⟨rfl,ah,gw.of af⟩,R,λws H1 bH dB cN=>?_⟩;have bt:=R.mono bH dB;obtain⟨v,w,rfl,bq,ks⟩:=hg cN;obtain rfl:=ji ks;have ku:=bH.to a _ af<|R.wb de;have tg:=bR.mono (bH.b0 R.aQ) _ _ ak;refine⟨a,ah,v,rfl,rfl,ku,by rw[<-ak.H];exact DM aq,?_⟩;obtain⟨W,b0⟩:=bt.write (t':=.ao<|xs++[hX]) (o:=.ao<|ah++[v]) hH es λb0=>⟨_,fC,(bR.mono b0 _ _ tg).append (.cons (aI.mono b0 _ _ bq) .nil)⟩
   exact k O _ ((bH.b0 R.aQ).trans b0) W
  ·exists dR
 |_=>exists dR
section
open PySem.AutoSeq1
def aj4(l:Addr)(items:Array mt)(n:Nat)(b:Addr)(ym:Array mt)(bC:Nat)(c:String)(aT:c = "list" \/ c = "tuple")(oQ:Option Addr)(cX:Array<|Option mt)(anU:¬(!items.isEmpty&&Builtin.List.listTooLong (items.O+ym.O))=Y0)(xu:items.O<=dg)(iA:items.O+ym.O<=dg+1) :
  Meets (Builtin.«list.extend» ⟨[.ref l,.ref b],[]⟩) (λ_ R s=>s.heap.get? l=J { cls:=.type "list",dict:=C,data:=.seq items n,slots:=#[]}/\s.heap.get? b=J { cls:=.type c,dict:=oQ,data:=.seq ym bC,slots:=cX}/\R (.ok<|.ret Value.none) { s with heap:=s.heap.update l (Obj.mapSeq λx=>x++ym),toks:=s.toks}):=by
 rcases aT with rfl|rfl
 ·exact .of_wp λprog w A R s h=>by
   obtain⟨aF,g,d,bx,os⟩:=s;obtain⟨aB,aq,h⟩:=h;have f1:=idx_int;have f2:=PySem.AutoSeq1.sub_tuple_tuple;have en:=PySem.AutoSeq1.sub_list_list;have f4:=PySem.AutoSeq1.sub_tuple_list;have hU:=PySem.AutoSeq1.sub_list_tuple;
   have qs:(items++ym).O<=dg+1:=by rw[M8];exact iA
   wp_walk using (ue aB rfl (hz:=xu) (_hz':=qs)),Cc aB,Cc aq;exact⟨_,rfl,h⟩
 ·exact .of_wp λprog w A R s h=>by
   obtain⟨aF,g,d,bx,os⟩:=s;obtain⟨aB,aq,h⟩:=h;have f1:=idx_int;have f2:=PySem.AutoSeq1.sub_tuple_tuple;have en:=PySem.AutoSeq1.sub_list_list;have f4:=PySem.AutoSeq1.sub_tuple_list;have hU:=PySem.AutoSeq1.sub_list_tuple;
   have qs:(items++ym).O<=dg+1:=by rw[M8];exact iA
   wp_walk using (ue aB rfl (hz:=xu) (_hz':=qs)),Cc aB,Cc aq;exact⟨_,rfl,h⟩
end
def TU(K:PySem.W.Frag):V->List V->aJ->fg->Prop:=λx ah H Q=>∃l b xs zs,x=.ref l/\ah=[.ref b]/\H l=J (.ao xs)/\(gw K H b zs\/e6 K H b zs)/\xs.H+zs.H<=dg/\Q .br (c4 H l<|.ao<|xs++zs)
def ait:OU X "list.extend"<|TU X.K:=by
 intro ae s O H x ah v us Q I cF bq h;obtain⟨l,b,xs,zs,rfl,rfl,mP,de,hz,q⟩:=h
 exists cF
 obtain⟨u,rfl,eW⟩:=bq.one
 exists eW
 obtain⟨z,a5,n,r,aB,e⟩:=I.LX mP;have key:∀(hO:List mt),cG zs hO->(∃(o:Obj) (c:String) (bC:Nat),s.heap.get? b=J o/\(c = "list" \/ c = "tuple")/\o.cls=.type c/\o.d=.seq hO.Q bC) ->
   bl Z2 X.A (call (.builtin "list.extend") [.ref l,.ref b]) Zl X.cv s:=λhO cp aZ=>by
  have DS:=cp.H;have hsz:a5.Q.O+hO.Q.O<=dg:=by rw[eU,eU];lia
  have Mc:¬ (!a5.Q.isEmpty&&Builtin.List.listTooLong (a5.Q.O+hO.Q.O))=Y0:=by rw[OV hsz,wx];exact nz
  obtain⟨⟨cl,oQ,Nw,cX⟩,c,bC,au,aT,rfl,rfl⟩:=aZ;refine nB F.slot_list_extend ⟨_,e,rfl⟩ F.entry_list_extend (F.args_list_extend_2 _ _) (aj4 l a5.Q n b hO.Q bC c aT oQ cX Mc (by rw[eU];exact l4 hsz)<|oC hsz) ⟨e,au,?_⟩;exact⟨.br,_,I.TQ (its':=a5++hO) mP e Z7 (r.append cp) (by rw[gr];exact hz),rfl,q⟩
 rcases de with de|de
 ·obtain⟨hO,cp,⟨o,bC,au,dA,_,fz⟩,_⟩:=I.list de;exact key hO cp ⟨o,"list",bC,au,.inl rfl,dA,fz⟩
 ·obtain⟨hO,cp,⟨o,au,dA,bC,fz⟩,_⟩:=I.tuple de;exact key hO cp ⟨o,"tuple",bC,au,.inr rfl,dA,fz⟩
def UW(i:Nat){x:Str}{e:Expr}{d:bM}{pos e5 apos ec:Pos}(bS:bF X tw e d)(dK:autoParam (X.N[i]?=J x) bu)(v3:autoParam (qj X.I.Y x) az7._auto_1)(hd:autoParam ZH eM)
  (g4:autoParam ((x==("__classdict__" : Str))=Y1) eM) (rZ:autoParam (uf Zj "extend" X.env (eval Zj X.I)=eval Zj X.I) bu)
  (Bv:autoParam (((ff ec<|b4 [e] X.I).all (λx=>!x.1)&&(uj ec<|uh [] X.I).all (λx=>x.1.isSome)
   && decide (([e]:List Expr).H+([]:List pV).H+(if([]:List pV).isEmpty then 0 else 1)<30))=Y0) bu)
  (r0:autoParam ((apos.endLine==ec.line)=Y0) bu) (aP:autoParam (b4 [e] X.I=ZG::b4 [] X.I) bu) (BG:autoParam ((ff ec<|b4 [] X.I).any (·.1)=Y1) bu) :
  gX X tw (.Expr (.Call (.Attribute Zj "extend" apos) [e] [] ec) pos) (hN i jQ d):=by
 intro B S n f S' n' bp ae s O H D I ⟨R,k⟩;obtain⟨⟨hX,HI,aM⟩,az,au⟩:=cn bp;obtain rfl:=z8 az;obtain⟨t,t',hH,dR,rfl,rfl,rfl⟩:=Ji au;obtain⟨a,es,de,kZ⟩:=R.aE i t hH;have cx:sC X tw [e]<|aa (aY d) ar:=g6 bS nY aP;have a6:aa (aY d) ar S n=J ([hX],n'):=by unfold aa;rw[az];rfl
 refine zJ (Mb PySem.F.plainAttrs_list PySem.F.slot_list_extend PySem.F.type_list_extend ait (uU dK v3 hd g4) (cx B S n [hX] _ a6) rZ Bv r0 aP BG) (by rfl) ae s O H D I ?_;cases t with
 |ao xs =>
  obtain⟨ah,af,ak⟩:=kZ;refine⟨.ref a,es,.inl ⟨rfl,ah,gw.of af⟩,R,λws H1 bH dB cN=>?_⟩;have bt:=R.mono bH dB;obtain⟨v,w,rfl,bq,ks⟩:=hg cN;obtain rfl:=ji ks;have ku:=bH.to a _ af<|R.wb de;have tg:=bR.mono (bH.b0 R.aQ) _ _ ak;have fin:∀(aO:List T) (b:Addr) (ws:List V),v=.ref b->bR tw H1 aO ws->(gw X.K H1 b ws\/e6 X.K H1 b ws)->(if xs.H+aO.H<=bh then J (T.ao<|xs++aO) else C)=J t'->TU X.K ZN [v] H1 (λ_ bV=>D.bD O bV):=λaO b ws ev rws gi dR=>by
   split at dR
   ·rename_i aq
    exists dR
    subst ev;refine⟨a,b,ah,ws,rfl,rfl,ku,gi,by rw[<-ak.H,<-rws.H];exact qr aq,?_⟩;obtain⟨W,b0⟩:=bt.write (t':=.ao<|xs++aO) (o:=.ao<|ah++ws) hH es λb0=>⟨_,fC,(bR.mono b0 _ _ tg).append (bR.mono b0 _ _ rws)⟩
    exact k O _ ((bH.b0 R.aQ).trans b0) W
   ·exists dR
  cases hX with
  |ao aO =>
   rw[aI]at bq;obtain⟨b,o,ws,ev,aq,rws⟩:=bq;exact fin aO b ws ev rws (.inl<|.inl<|.inr ⟨o,aq⟩) dR
  |aD aO =>
   rw[aI]at bq;obtain⟨b,ws,ev,aq,rws⟩:=bq;exact fin aO b ws ev rws (.inr<|e6.of aq) dR
  |_=>exists dR
 |_=>exists dR
def aj5(i:Nat){x:Str}{j:Nat}{pos e5 apos ec pc:Pos}(dK:autoParam (X.N[i]?=J x) bu)(v3:autoParam (qj X.I.Y x) az7._auto_1)(hd:autoParam ZH eM)
  (g4:autoParam ((x==("__classdict__" : Str))=Y1) eM) (rZ:autoParam (uf Zj "append" X.env (eval Zj X.I)=eval Zj X.I) bu)
  (r0:autoParam ((apos.endLine==ec.line)=Y0) bu) :
  gX X tw (.Expr (.Call (.Attribute Zj "append" apos) [.Constant (.int 0) j pc] [] ec) pos) (DD i):=by
 intro B S n f S' n' bp ae s O H D I ⟨R,k⟩;have⟨m,hH,aq,V4,HJ,y8⟩:∃m,S[i]?=J (J (T.dq,m))/\n<bh/\f=.bD/\S'=S/\n'=n+1:=by
  unfold DD at bp;cases e:S[i]? with
  |none=>rw[e]at bp;exists bp
  |some o =>
   cases o with
   |none=>rw[e]at bp;exists bp
   |some p =>
    obtain⟨t,m⟩:=p;rw[e]at bp;cases t with
    |dq =>
     have bp:(if n<bh then J (hG.bD,S,n+1) else C)=J (f,S',n'):=bp;split at bp
     ·rename_i aq;exists bp;exact⟨m,rfl,aq,rfl,rfl,rfl⟩
     ·exists bp
    |_=>exists bp
 subst V4 HJ y8;have es:O[i]?=J (J<|.ref tw):=by
  cases m with
  |ag=>obtain⟨v,af,ak⟩:=R.ag i _ hH;rw[aI]at ak;rw[af,ak]
  |cZ=>obtain⟨v,af,ak⟩:=R.cZ i _ hH;have ak:aI tw B .dq v:=ak;rw[aI]at ak;rw[af,ak]
  |aE=>obtain⟨a,af,ak,bc⟩:=R.aE i _ hH;exact(show False from bc).elim
  |i3=>exact absurd hH<|R.nX i _
 refine zJ (Mb PySem.F.plainAttrs_list PySem.F.slot_list_append PySem.F.type_list_append IX (uU dK v3 hd g4) (ajL Dp zQ) rZ (by rfl) r0 (by rfl)<|by rfl) (by rfl) ae s O H D I ?_;have aQ:=R.aQ;unfold df at aQ;refine⟨.ref tw,es,.inl ⟨rfl,_,gw.of aQ⟩,tw,_,.int 0,rfl,rfl,aQ,by rw[ow];exact DM aq,?_⟩;have az:List.replicate n (V.int 0)++[V.int 0]=List.replicate (n+1) (V.int 0):=by rw[ME]
 rw[az];have b0:eJ H<|c4 H tw<|.ao<|List.replicate (n+1)<|V.int 0:=λb=>⟨λah q=>by rw[e1<|R.aQ.Mt q];exact q,λ_ _ q=>by rw[e1<|R.aQ.Gy q];exact q⟩
 refine k O _ b0<|R.mono ⟨λb u q nb=>by rw[e1 nb];exact q⟩ ?_;exact fC
def UX(i:Nat){st:Stmt}{d:bw}(h:gX X tw st d):gX X tw st<|fD i d:=by
 intro B S n f S' n' bp ae s O H D I ⟨R,k⟩;unfold fD at bp;cases e:S[i]? with
 |none=>rw[e]at bp;exact h B S n f S' n' bp ae s O H D I ⟨R,k⟩
 |some o =>
  cases o with
  |none=>rw[e]at bp;exact h B S n f S' n' bp ae s O H D I ⟨R,k⟩
  |some p =>
   obtain⟨t,m⟩:=p;rw[e]at bp;cases m with
   |aE =>
    have bp:d (S.set i<|some (t,bo.ag)) n=J (f,S',n'):=bp;obtain⟨a,es,de,kZ⟩:=R.aE i t e;have na:=R.wb de;have go:∀u,H a=J u->((∃xs,u=.ao xs)\/∃ay,u=.aw ay)->(∀o,aI tw (c4 H a<|.eo o u) t ZN)->bl Z2 X.A (exec st X.I) (oL X ae D) X.cv s:=λu b7 Po aU=>by
     obtain⟨o,cS⟩:=I.freeze b7 Po;have b0:eJ H<|c4 H a<|.eo o u:=eJ.eo b7 Po;refine h B _ n f S' n' bp ae s O _ D cS ⟨?_,k.b0 b0⟩;refine⟨R.ext.put de,by show c4 H a _ tw=_;rw[e1 na.symm];exact R.aQ,R.lh,by rw[r8];exact R.len,λj t1 q=>?_,λj t1 q=>?_,λj t1 q=>?_,λj t1 q=>?_,λj k t1 eI b aX bb s1 s2=>?_⟩
     ·rcases hp q with⟨rfl,z,_⟩|⟨ne,q⟩
      ·exists z;exact⟨_,es,aU o⟩
      ·obtain⟨v,af,ak⟩:=R.ag j t1 q;exact⟨v,af,aI.mono b0 _ _ ak⟩
     ·rcases hp q with⟨_,z,_⟩|⟨ne,q⟩
      ·cases z
      ·exact R.cZ j t1 q
     ·rcases hp q with⟨rfl,z,_⟩|⟨ne,q⟩
      ·cases z
      ·obtain⟨b,af,ak,bc⟩:=R.aE j t1 q;exact⟨b,af,ak,bc.other b0<|by rintro rfl;exact ne<|R.o9 j i t1 t b q e af es⟩
     ·rcases hp q with⟨_,z,_⟩|⟨ne,q⟩
      ·cases z
      ·exact R.nX j t1 q
     ·rcases hp aX with⟨_,z,_⟩|⟨_,aX⟩
      ·cases z
      ·rcases hp bb with⟨_,z,_⟩|⟨_,bb⟩
       ·cases z
       ·exact R.o9 j k t1 eI b aX bb s1 s2
    cases t with
    |ao xs =>
     obtain⟨ah,af,ak⟩:=kZ;exact go _ af (.inl ⟨ah,rfl⟩) λo=>by rw[aI];exact⟨a,o,ah,rfl,fC,bR.mono (eJ.eo af<|.inl ⟨ah,rfl⟩) _ _ ak⟩
    |bk ay =>
     obtain⟨ah,af,ak⟩:=kZ;exact go _ af (.inr ⟨ah,rfl⟩) λo=>by rw[aI];exact⟨a,o,ah,rfl,fC,cJ.mono (eJ.eo af<|.inr ⟨ah,rfl⟩) _ _ ak⟩
    |_=>exact(show False from kZ).elim
   |ag=>exact h B S n f S' n' bp ae s O H D I ⟨R,k⟩
   |cZ=>exact h B S n f S' n' bp ae s O H D I ⟨R,k⟩
   |i3=>exact h B S n f S' n' bp ae s O H D I ⟨R,k⟩
end
section
variable {X:bI}{tw:Addr}{di:Expr}
def qO(tw:Addr)(cO:kW)(H:aJ)(aA:List T):Prop:=∀(i:Nat),
 (∀t,aA[i]?=J t->cO.go i H/\∀x bV,cO.Dt i H x bV->dn tw H bV/\(∀n,df tw n H->df tw n bV)/\aI tw bV t x)/\(aA.H<=i->cO.stop i H)
def ru(X:bI)(tw:Addr)(di iter:Expr)(d:ic):Prop:=∀B S n aA n',d S n=J (aA,n')->oN X di iter (λO H R=>dr X.K B tw S n O H /\
 ∀cO aj,dn tw H aj->df tw n' aj->(∀ee qt,df tw qt ee->dn tw aj ee->qO tw cO ee aA)->R cO aj)
def z9(X:bI)(tw:Addr)(di iter:Expr)(d:ic):Prop:=∀B S n aA n',d S n=J (aA,n')->oN X di iter (λO H R=>dr X.K B tw S n O H /\
 ∀cO aj,dn tw H aj->df tw n' aj->(∀ee qt,df tw qt ee->eJ aj ee->dn tw B ee->qO tw cO ee aA)->R cO aj)
def DT{ae:List Z1}{O:St}{H:aJ}{s:aR}{a:Addr}{ah:List V}{R:kW->aJ->Prop}(I:aS X ae O H s)(a7:gw X.K H a ah)(q:R (IH X.K a) H):bl Z2 X.A (mb ZN) (sV X ae O di R) X.cv s:=by
 obtain⟨a5,bq,p,hz⟩:=I.list a7;refine Ca p.isList ?_;refine⟨s.L,[s.L],_,_,H,rfl,I.kept (t':=s.toks) λb o e=>ed _ e,aad a _,⟨_,gC _ rfl,rfl,rfl⟩,λb aq=>?_,q⟩;have e:b=s.L:=by simpa using aq
 subst e;exact I.yb (cg _)<|I.b1.fresh<|cg _
def aiu{ae:List Z1}{O:St}{H:aJ}{s:aR}{a:Addr}{ah:List V}{R:kW->aJ->Prop}(I:aS X ae O H s)(a7:e6 X.K H a ah)(q:R (II X.K a) H):bl Z2 X.A (mb ZN) (sV X ae O di R) X.cv s:=by
 obtain⟨a5,bq,p,hz⟩:=I.tuple a7;refine Hk (show s.heap.IsTuple a a5.Q from p) ?_;refine⟨s.L,[s.L],_,_,H,rfl,I.kept (t':=s.toks) λb o e=>ed _ e,aae a _,⟨_,gC _ rfl,rfl,rfl⟩,λb aq=>?_,q⟩;have e:b=s.L:=by simpa using aq
 subst e;exact I.yb (cg _)<|I.b1.fresh<|cg _
noncomputable def Jk(a:Addr)(o:Obj)(ws:List ZW):kW :=
 ⟨λi H=>H a=J (.eo o<|.aw ws)/\i<ws.H,λi H x aj=>aj=H/\∃k v,ws[i]?=J (k,v)/\x=eB k,λi H=>H a=J (.eo o<|.aw ws)/\ws.H<=i⟩
def Jl{ep:Nat}(b1:gk P w H h)(e:H a=J (.eo o<|.aw ws))(hd:o.d=.dict es ep) :
  ∃ah,fq ws ah/\h.DictAt (hI P w) a ah ep/\(a==qY)=Y1:=by
 obtain⟨af,_,bc,ah,cL,dh,jg,sT,aX,bb,cK,fW⟩:=(show gP P w H h a (.eo o<|.aw ws) from b1 a _ e)
 rw[af]at aX;exists aX;rw[hd]at cK;exists cK;exact⟨ah,cL,⟨o,es,af,bb,hd,fW⟩,bc⟩
def Jm(r:fq ws ah):∀{i:Nat} {k:Key} {v:V},ws[i]?=J (k,v)->∃u,ah[i]?=J (k,u):=by
 unfold fq at r
 induction r with
 |nil=>intro i k v e;simp at e
 |@cons p q ps uv h t a4 =>
  intro i k v e;cases i with
  |zero =>
   simp at e;subst e;refine⟨q.2,?_⟩;have:k=q.1:=h.1;rw[this];rfl
  |succ i=>obtain⟨u,b7⟩:=a4 (i:=i) (k:=k) (v:=v) (by simpa using e);exact⟨u,by simpa using b7⟩
def Jn(h:(hI P w).is k u=Y0):cW (eB k) u:=by
 rcases qi (show uS k u=Y0 from h) with⟨i,t,rfl,rfl⟩|⟨x,t,rfl,rfl⟩
 ·exact⟨t,rfl⟩
 ·exact⟨t,rfl⟩
def aa9{P:dx}{w:c3}{K:PySem.W.Frag}{di:Expr}(a it:Addr)(o:Obj)(ws:List ZW)(es:Array DictEntry)(ep:Nat)(hd:o.d=.dict es ep):Turn P w K di (Jk a o ws) [it] it (λi h=>h.IsKeyIter it a i ws.H ep) where
 mem:=by simp
 obj:=λi h st b aq=>by
  have e:b=it:=by simpa using aq
  subst e;obtain⟨o,e,c,d⟩:=st;exact⟨o,e,λv z=>by rw[d]at z;exists z⟩
 keep:=λi h h' st k=>st.at λo e=>k it Z7 o e
 item:=by
  intro X e4 hw ib aT i ae s O H E I hf st bT;subst e4 hw ib;obtain⟨a7,av⟩:=bT;obtain⟨ah,bq,dd,_⟩:=Jl I.b1 a7 hd;have aB:ws.H=ah.H:=Paired.length bq;obtain⟨k,v,aW⟩:∃k v,ws[i]?=J (k,v):=⟨ws[i].1,ws[i].2,by simp[av]⟩
  obtain⟨u,b7⟩:=Jm bq aW;obtain⟨f0,f1,f2,en,f4,hU⟩:=hf it Z7;rw[aB]at st;refine wpAny_pyNext_dict_item st dd b7 λkey h' lX c1 cV=>?_;have bf:aS X ae O H { s with heap:=h'}:=I.turned (t':=s.toks) (λb o aq e=>(cV.2 b aq).trans e) f0 f1 en f4 hU;obtain⟨dh,e,c,d⟩:=id c1;exact⟨key,rfl,Gg (s:={ s with heap:=h'}) e c d Z0 ⟨eB k,H,bf,Jn lX,⟨rfl,k,v,aW,rfl⟩,by rw[aB];exact c1,λb aq=>(hf b aq).1⟩⟩
 done:=by intro X e4 hw ib aT i ae s O H E I hf st bT;subst e4 hw ib;obtain⟨a7,av⟩:=bT;obtain⟨ah,bq,dd,_⟩:=Jl I.b1 a7 hd;have aB:ws.H=ah.H:=Paired.length bq;obtain⟨f0,f1,f2,en,f4,hU⟩:=hf it Z7;rw[aB]at st;exact wpAny_pyNext_dict_end (I.ok.hd aT) st dd (GJ<|bP (d2 aB.symm) av) λh' hE=>⟨rfl,I.turned (t':=s.toks) (λb o aq e=>hE b o aq e) f0 f1 en f4 hU⟩
 self:=λ_ _ _ _ _ st h=>wpAny_pyIter_keyiter st h
def aj6{ae:List Z1}{O:St}{H:aJ}{s:aR}{a:Addr}{o:Obj}{ws:List ZW}{R:kW->aJ->Prop}(I:aS X ae O H s)(a7:H a=J (.eo o<|.aw ws))(q:R (Jk a o ws) H):bl Z2 X.A (mb ZN) (sV X ae O di R) X.cv s:=by
 obtain⟨af,_,bc,ah,cL,dh,es,ep,aX,bb,cK,fW⟩:=(show gP X.R X.w H s.D a (.eo o<|.aw ws) from I.b1 a _ a7)
 rw[af]at aX;exists aX;obtain⟨ah,bq,dd,_⟩:=Jl I.b1 a7 cK;have aB:ws.H=ah.H:=Paired.length bq;refine wpAny_pyIter_dict bc dd ?_;refine⟨s.L,[s.L],_,_,H,rfl,I.kept (t':=s.toks) λb o e=>ed _ e,aa9 a _ o ws es ep cK,⟨_,gC _ rfl,rfl,by rw[aB];rfl⟩,λb aq=>?_,q⟩;have e:b=s.L:=by simpa using aq
 subst e;exact I.yb (cg _)<|I.b1.fresh<|cg _
def DU{K:PySem.W.Frag}{H:aJ}{a:Addr}{ah:List V}{xs:List T}(aP:gw K H a ah)(r:bR tw H xs ah):qO tw (IH K a) H xs:=λi=>by refine⟨λt e=>?_,λaB=>⟨ah,aP,by rw[<-r.H];exact aB⟩⟩;obtain⟨v,af,ak⟩:=r.get e;refine⟨⟨ah,v,aP,af⟩,λx bV y=>?_⟩;obtain⟨rfl,y⟩:=y;have:=y ah aP;rw[af]at this;exists this;exact⟨.refl _ _,λ_ z=>z,ak⟩
def aiv{K:PySem.W.Frag}{H:aJ}{a:Addr}{ah:List V}{xs:List T}(aP:e6 K H a ah)(r:bR tw H xs ah):qO tw (II K a) H xs:=λi=>by refine⟨λt e=>?_,λaB=>⟨ah,aP,by rw[<-r.H];exact aB⟩⟩;obtain⟨v,af,ak⟩:=r.get e;refine⟨⟨ah,v,aP,af⟩,λx bV y=>?_⟩;obtain⟨rfl,y⟩:=y;have:=y ah aP;rw[af]at this;exists this;exact⟨.refl _ _,λ_ z=>z,ak⟩
theorem DV:∀{ay:List (Key×T)} {ws:List ZW} {i:Nat} {k:Key} {t:T},cJ tw H ay ws->ay[i]?=J (k,t)->∃v,ws[i]?=J (k,v)/\aI tw H t v
 |[],_,_,_,_,_,e=>by simp at e
 |(fI,x)::xs,_,0,k,t,r,e=>by rw[cJ]at r;obtain⟨v,w,rfl,p,q⟩:=r;simp at e;obtain⟨rfl,rfl⟩:=e;exact⟨v,rfl,p⟩
 |(fI,x)::xs,_,i+1,k,t,r,e=>by rw[cJ]at r;obtain⟨v,w,rfl,p,q⟩:=r;obtain⟨u,af,ak⟩:=DV (i:=i) (k:=k) (t:=t) q (by simpa using e);exact⟨u,by simpa using af,ak⟩
def Jo(k:Key):aI tw H (iI k)<|eB k:=by
 cases k with
 |inl i=>show aI tw H (.int i) (.int i);rw[aI]
 |inr x=>show aI tw H (.str x) (.str x);rw[aI]
def aj7(aP:H a=J (.eo o<|.aw ws))(r:cJ tw H ay ws):qO tw (Jk a o ws) H (ay.map λc9=>iI c9.1):=λi=>by
 have aB:=cJ.length r;refine⟨λt e=>?_,λh=>⟨aP,by rw[<-aB];simpa using h⟩⟩;rw[kg]at e;cases q:ay[i]? with
 |none=>rw[q]at e;exists e
 |some p =>
  obtain⟨k,t'⟩:=p;rw[q]at e;have e:iI k=t:=Option.some.inj e;subst e;obtain⟨v,af,ak⟩:=DV r q;refine⟨⟨aP,(kM.mp af).1⟩,λx bV y=>?_⟩;obtain⟨rfl,k2,v2,dB,rfl⟩:=y;rw[af]at dB;exists dB;exact⟨.refl _ _,λ_ z=>z,Jo k⟩
def Pp(lo:Int)(m:Nat):qO tw (zL lo m) H ((List.range m).map λ(k:Nat)=>T.int<|lo+k):=λi=>by
 refine⟨λt e=>?_,λh=>by show m<=i;simpa using h⟩;rw[kg]at e;cases q:(List.range m)[i]? with
 |none=>rw[q]at e;exists e
 |some j =>
  rw[q]at e;have e:T.int (lo+j)=t:=Option.some.inj e;subst e;obtain⟨hi,bU⟩:=kM.mp q;rw[List.getElem_range]at bU;subst bU;rw[tW]at hi;refine⟨hi,λx bV y=>?_⟩;obtain⟨rfl,rfl⟩:=y;exact⟨.refl _ _,λ_ z=>z,by rw[aI]⟩
def Pq{ae:List Z1}{O:St}{H:aJ}{s:aR}{t:T}{m:bo}{xs:List T}{v:V}{u:mt}{R:kW->aJ->Prop}(I:aS X ae O H s)(bq:cW v u)(r:aI tw H t v)(h:walked t m=J xs)
  (k:∀cO,(∀ee,eJ H ee->qO tw cO ee xs)->R cO H):bl Z2 X.A (mb u) (sV X ae O di R) X.cv s:=by
 cases t with
 |ao aO =>
  exists h
  rw[aI]at r;obtain⟨a,o,ah,rfl,e,q⟩:=r
  exists bq
  exact DT I (.inl<|.inr ⟨o,e⟩) (k _ λee b0=>DU (.inl<|.inr ⟨o,(b0 a).2 _ _ e⟩)<|bR.mono b0 _ _ q)
 |aD aO =>
  exists h
  rw[aI]at r;obtain⟨a,ah,rfl,e,q⟩:=r
  exists bq
  exact aiu I (e6.of e) (k _ λee b0=>aiv (e6.of<|(b0 a).1 _ e)<|bR.mono b0 _ _ q)
 |bk ay =>
  rw[aI]at r;obtain⟨a,o,ws,rfl,e,q⟩:=r
  exists bq
  have au:xs=ay.map λc9=>iI c9.1:=by exists m<;>first|(exists h;rfl)|exists h
  subst au;exact aj6 I e (k _ λee b0=>aj7 ((b0 a).2 _ _ e)<|cJ.mono b0 _ _ q)
 |_=>exists h
def age{e:Expr}{d:bM}(h:bF X tw e d):ru X tw di e<|fK d:=by
 intro B S n aA n' hd ae s O H R I ⟨jZ,k⟩;obtain⟨⟨t,m,aM⟩,az,au⟩:=cn hd;obtain⟨xs,a6,bX⟩:=dw au
 exists bX
 have tf:vZ d S n=J (t,DN m,aM):=by unfold vZ;rw[az];rfl
 refine b2 ((Jh h).run tf I jZ) λu s1 ⟨v,H1,bf,bA,a1,bt,b6⟩=>?_;have aV:=b6.root bt jZ.aQ;have tP:aI tw H1 t v->bl Z2 X.A (mb u) (sV X ae O di R) X.cv s1:=λiz =>
  Pq bf bA iz a6 λcO y9=>k cO H1 a1 bt.aQ λee qt DW ext=>y9 ee<|ext.b0 bt.aQ
 cases m with
 |aE=>exact tP b6
 |ag=>exact tP b6
 |cZ =>
  cases t with
  |ao aO =>
   exists a6
   obtain⟨a,ah,rfl,e,q⟩:=aV
   exists bA
   exact DT bf e.gi (k _ H1 a1 bt.aQ λee qt DW ext=>DU (e.ext ext).gi (bR.mono (ext.b0 bt.aQ) _ _ q))
  |aD aO=>exact tP aV
  |_=>exists a6
 |i3 =>
  cases t with
  |ao aO =>
   exists a6
   obtain⟨a,ah,rfl,e,q⟩:=aV
   exists bA
   exact DT bf e.gi (k _ H1 a1 bt.aQ λee qt DW ext=>DU (e.ext ext).gi (bR.mono (ext.b0 bt.aQ) _ _ q))
  |aD aO=>exact tP aV
  |_=>exists a6
def agf{e:Expr}{d:bM}(h:bF X tw e d):z9 X tw di e<|iJ d:=by
 intro B S n aA n' hd ae s O H R I ⟨jZ,k⟩;obtain⟨⟨t,m,aM⟩,az,au⟩:=cn hd;have tf:vZ d S n=J (t,DN m,aM):=by unfold vZ;rw[az];rfl
 refine b2 ((Jh h).run tf I jZ) λu s1 ⟨v,H1,bf,bA,a1,bt,b6⟩=>?_;have aV:=b6.root bt jZ.aQ;have tP:∀xs,walked t m=J xs->(xs,aM)=(aA,n')->aI tw H1 t v->bl Z2 X.A (mb u) (sV X ae O di R) X.cv s1:=λxs a6 bX iz=>by
  exists bX
  exact Pq bf bA iz a6 λcO y9=>k cO H1 a1 bt.aQ λee qt DW b0 _=>y9 ee b0
 cases m with
 |aE=>obtain⟨xs,a6,bX⟩:=dw au;exact tP xs a6 bX b6
 |ag=>obtain⟨xs,a6,bX⟩:=dw au;exact tP xs a6 bX b6
 |cZ =>
  obtain⟨xs,a6,bX⟩:=dw au;cases t with
  |ao aO =>
   exists a6
   exists bX
   have b6:ew X.K tw B (.ao _) v:=b6;obtain⟨n0,q5⟩:=jZ.lh;obtain⟨a,ah,rfl,e,q⟩:=b6
   exists bA
   exact DT bf (e.ext bt.ext).gi (k _ H1 a1 bt.aQ λee qt DW b0 ext=>DU (e.ext ext).gi (bR.mono (ext.b0 q5) _ _ q))
  |aD aO=>exact tP xs a6 bX aV
  |_=>exists a6
 |i3=>exists au
def rv(X:bI)(tw:Addr)(di iter:Expr)(d:ic):Prop:=∀B S n aA n',d S n=J (aA,n')->oN X di iter (λO H R=>dr X.K B tw S n O H/\∀cO aj,dn tw H aj->df tw n' aj->(∀ee,qO tw cO ee aA)->R cO aj)
theorem rv.c{iter:Expr}{d:ic}(h:rv X tw di iter d):ru X tw di iter d:=λB S n aA n' hd ae s O H R I ⟨jZ,k⟩=>h B S n aA n' hd ae s O H R I ⟨jZ,λcO aj a b c=>k cO aj a b λee _ _ _=>c ee⟩
theorem rv.s{iter:Expr}{d:ic}(h:rv X tw di iter d):z9 X tw di iter d:=λB S n aA n' hd ae s O H R I ⟨jZ,k⟩=>h B S n aA n' hd ae s O H R I ⟨jZ,λcO aj a b c=>k cO aj a b λee _ _ _ _=>c ee⟩
def iY{K:PySem.W.Frag}{H:aJ}{i:Int}{v:V}(r:ew K tw H (.int i) v):v=.int i:=by have r:aI tw H (.int i) v:=r;rw[aI]at r;exact r
def aj8{pos p:Pos}{a:Expr}{dQ:gh}(ba:nL X tw [a] dQ)(hm:X.a3 "range" = C)(bT:autoParam (fv X "range") bu)(aP:autoParam (b4 [a] X.I=[(Y1,eval a X.I)]) bu):rv X tw di (.Call (.Name "range" p) [a] [] pos)<|iC dQ:=by
 intro B S n aA n' hd ae s O H R I ⟨jZ,k⟩;obtain⟨⟨m3,aM⟩,az,au⟩:=cn hd;refine aag bT hm (ba B S n m3 aM az) aP ae s O H R I ⟨jZ,λah aj x y z=>?_⟩;cases z with
 |nil=>exists au
 |@cons t v an7 mv cN dE =>
  cases dE with
  |nil =>
   cases t with
   |int j =>
    have au:(if-bh<=j/\j<=bh then J (ip 0 j,aM) else C)=J (aA,n'):=au;split at au
    ·rename_i aq
     exists au
     have de:(bh:Int)=1000000:=rfl;refine⟨j,by rw[iY cN],(jq Z0 aq.1),(nA aq.2 Z0),k _ aj x y λee=>?_⟩;have:=Pp (tw:=tw) (H:=ee) 0 j.M
     unfold ip;rw[Int.sub_zero];exact this
    ·exists au
   |_=>exists au
  |cons a b=>exists t<;>exists au
def alQ{m3 aA:List T}{aM n':Nat}(au:(match m3 with|[.int i,.int j]=>if-bh<=i/\i<=bh /\ -bh<=j/\j<=bh then J (ip i j,aM) else C|_=>C)=J (aA,n')):∃i j,m3=[.int i,.int j]/\(-bh<=i/\i<=bh /\ -bh<=j/\j<=bh)/\aA=ip i j/\n'=aM:=by
 split at au
 ·rename_i i j;split at au
  ·rename_i aq;exists au;exact⟨i,j,rfl,aq,rfl,rfl⟩
  ·exists au
 ·exists au
def aj9{pos p:Pos}{a b:Expr}{dQ:gh}(ba:nL X tw [a,b] dQ)(hm:X.a3 "range" = C)(bT:autoParam (fv X "range") bu)(aP:autoParam (b4 [a,b] X.I=[(Y1,eval a X.I),(Y1,eval b X.I)]) bu)(iA:autoParam (b4 [b] X.I=[(Y1,eval b X.I)]) bu) :
  rv X tw di (.Call (.Name "range" p) [a,b] [] pos) (Gh dQ):=by
 intro B S n aA n' hd ae s O H R I ⟨jZ,k⟩;obtain⟨⟨m3,aM⟩,az,au⟩:=cn hd;refine aah bT hm (ba B S n m3 aM az) aP iA ae s O H R I ⟨jZ,λah aj x y z=>?_⟩;obtain⟨i,j,rfl,aq,rfl,rfl⟩:=alQ au;have de:(bh:Int)=1000000:=rfl;cases z with
 |cons cN dE =>
  cases dE with
  |cons dE iP =>
   exists iP
   refine⟨i,j,by rw[iY cN,iY dE],⟨(jq Z0 aq.1),(nA aq.2.1 Z0),(jq Z0 aq.2.2.1),(nA aq.2.2.2 Z0)⟩,k _ aj x y λee=>?_⟩;exact Pp i (j-i).M
def th(S':bE)(U':St)(S:bE)(O:St):Prop:=∀(j:Nat) (t:T) (a:Addr),S'[j]?=J (J (t,.aE))->U'[j]?=J (J ZN)->∃(q6:Nat) (t':T),S[q6]?=J (J (t',.aE))/\O[q6]?=J (J ZN)
def th.pG(i:Nat)(t:T)(v:V):th (S.set i Zp) (O.set i<|some v) S O:=λj t' a e bN=>by
 rcases hp e with⟨_,z,_⟩|⟨ne,e⟩
 ·cases z
 ·rw[n1 ne]at bN;exact⟨j,t',e,bN⟩
def th.trans(a:th S2 U2 S1 U1)(b:th S1 U1 S O):th S2 U2 S O:=λj t x e bN=>let ⟨q6,t',af,ak⟩:=a j t x e bN;b q6 t' x af ak
def Cu(X:bI)(tw:Addr)(put:T->bE->Option bE):pZ:=λv O H Q=>∃B S n t S',dr X.K B tw S n O H/\aI tw H t v/\put t S=J S'/\∀U',dr X.K B tw S' n U' H->th S' U' S O->Q U' H
def sD(X:bI)(tw:Addr)(di:Expr)(put:T->bE->Option bE):Prop:=p0 X di<|Cu X tw put
def Pr(i:Nat){x:Str}{pos:Pos}(dK:X.N.Nodup)(hi:autoParam (X.N[i]?=J x) bu)(av:autoParam (Loc X.I.Y x) az4._auto_1)(hf:autoParam Zs pY):sD X tw (.Name x pos)<|cB i:=by
 intro ae s O H v u Q I r h;obtain⟨B,S,n,t,S',R,aV,aF,k⟩:=h
 exists aF
 exact IF dK hi av hf ae s O H v u Q I r<|k _ (R.pG aV)<|.pG _ _ _
def aiw(i j:Nat){x y:Str}{e5 py pos:Pos}{md:Nat}(aT:X.calm=Y0)(dK:X.N.Nodup)(hi:autoParam (X.N[i]?=J x) bu)(bU:autoParam (X.N[j]?=J y) bu)(av:autoParam (Loc X.I.Y x) az4._auto_1)(aK:autoParam (Loc X.I.Y y) az4._auto_1)
  (hf:autoParam Zs pY) (aba:autoParam (X.fn y=Y0\/X.env.scope.names.lookup y=J .local) pY)
  (bz:autoParam ((mL [.Name x e5,.Name y py] X.I).H=2) bu) (jD:autoParam ((mL [.Name x e5,.Name y py] X.I).findIdx? (·.1)=C) bu)
  (af:autoParam ((mL [.Name x e5,.Name y py] X.I).map (·.2)=nF Zj X.I::(mL [.Name y py] X.I).map (·.2)) bu) (ak:autoParam ((mL [.Name y py] X.I).map (·.2)=nF (.Name y py) X.I::(mL [] X.I).map (·.2)) bu):sD X tw (.Tuple [.Name x e5,.Name y py] md pos)<|zW i j:=by
 intro ae s O H v u Q I r h;obtain⟨B,S,n,t,S',R,aV,aF,k⟩:=h;have⟨a,b,dR,HJ⟩:∃a b,t=.aD [a,b]/\S'=(S.set i (J (a,.ag))).set j (J (b,.ag)):=by
  match t,aF with
  |.aD [a,b],aF=>exists aF;exact⟨a,b,rfl,rfl⟩
 subst dR HJ;rw[aI]at aV;obtain⟨ad,ah,rfl,e,q⟩:=aV;obtain⟨fJ,eV,rfl,V5,q⟩:=hg q;obtain⟨sE,fM,rfl,V6,q⟩:=hg q;obtain rfl:=ji q;refine ahW aT (Oz (IF dK hi av hf) (Oz (IF dK bU aK aba) ajJ ak) af) bz jD ae s O H _ u Q I r ⟨ad,[fJ,sE],rfl,e6.of e,rfl,fJ,[sE],rfl,sE,[],rfl,rfl,?_⟩;exact k _ ((R.pG V5).pG V6)<|(th.pG _ _ _).trans (.pG _ _ _)
def aix{iter:Expr}{body:List Stmt}{d:ic}{put:T->bE->Option bE}{b:bw}{pos:Pos}(aT:X.calm=Y0)(av:X.cv=λ_ _=>False)(hi:z9 X tw di iter d)(bT:sD X tw di put)(aq:h1 X tw body b)(aP:autoParam Zx sA) :
  gX X tw (.For di iter body [] pos) (iK d put b):=by
 intro B S n f S' n' hd ae s O H D I ⟨R,k⟩;obtain⟨⟨aA,aM⟩,az,au⟩:=cn hd;have aF:yV Z2 X.A X.I X.cv:=by rw[av];exact PassesOwn.never
 have kL:kr X body (λD O H=>∃S n f S' n',b S n=J (f,S',n')/\wQ X.K B tw S n f S' n' D O H):=λae s O H D I h=>by obtain⟨S,n,f,S',n',e,h⟩:=h;exact aq B S n f S' n' e ae s O H D I h
 refine UM aF aT (hi B S n aA aM az) bT kL aP ae s O H D I ⟨R,λcO H1 bH dB it=>?_⟩;have bt:=R.mono bH dB;have k1:KF X.K B tw f S' n' D H1:=k.b0<|bH.b0 R.aQ;refine⟨λi m U' aj=>m=aA.H-i/\i<=aA.H/\eJ H1 aj/\∃Si k4,dr X.K B tw Si k4 U' aj/\fG put b (aA.drop i) Si k4=J (f,S',n'),⟨aA.H,by simp,gH _,.refl _,S,aM,bt,by simpa using au⟩,?_⟩;rintro i m U2 bV ⟨rfl,kv,n2,S2,bC,dj,a6⟩;have at2:=it bV bC dj.aQ n2 dj.ext i;by_cases dD:i<aA.H
 ·right;obtain⟨go,uA⟩:=at2.1 aA[i] (by simp[dD]);have za:aA.drop i=aA[i]::aA.drop (i+1):=pL dD;rw[za]at a6;obtain⟨S3,bX,eR⟩:=cn (show(put aA[i] S2).bind _=_ from a6);obtain⟨⟨f4,S4,hu⟩,fO,gM⟩:=cn eR;refine⟨go,λU' aj=>eJ H1 aj/\dr X.K B tw S4 hu U' aj/\fG put b (aA.drop<|i+1) S4 hu=J (f,S',n'),λU' aj ⟨cN,dE,iP⟩=>⟨aA.H-(i+1),by lia,rfl,dD,cN,S4,hu,dE,iP⟩,λx aj uB=>?_⟩;obtain⟨cv,mS,jy⟩:=uA x aj uB;have lQ:eJ H1 aj:=n2.trans<|cv.b0 dj.aQ;refine⟨B,S2,bC,aA[i],S3,dj.mono cv<|mS bC dj.aQ,jy,bX,λU3 mh _=>⟨S3,bC,f4,S4,hu,fO,mh,?_⟩⟩;cases f4 with
  |bD=>exact λU' ee cN dE=>⟨lQ.trans cN,dE,gM⟩
  |eE=>exact λU' ee cN dE=>⟨lQ.trans cN,dE,gM⟩
  |gs =>
   have gM:J (hG.bD,S4,hu)=J (f,S',n'):=gM
   exists gM
   exact λU' ee cN dE=>k1 U' ee (lQ.trans cN) dE
  |aV t km =>
   have gM:J (hG.aV t km,S4,hu)=J (f,S',n'):=gM
   exists gM
   exact λv ee cN dE iP uC=>k1 v ee (lQ.trans cN) dE iP uC
 ·left;have jI:aA.H<=i:=hS dD;refine⟨at2.2 jI,?_⟩;rw[wc jI]at a6;have a6:J (hG.bD,S2,bC)=J (f,S',n'):=a6
  exists a6
  exact k1 U2 bV n2 dj
def alR{c:Expr}{body:List Stmt}{gj:fb}{b:bw}{pos:Pos}(av:X.cv=λ_ _=>False)(aT:ST X tw c gj)(aq:h1 X tw body b):gX X tw (.While c body [] pos)<|DC gj b:=by
 intro B S n f S' n' hd ae s O H D I ⟨R,k⟩;have aF:yV Z2 X.A X.I X.cv:=by rw[av];exact PassesOwn.never
 have kL:kr X body (λD O H=>∃S n f S' n',b S n=J (f,S',n')/\wQ X.K B tw S n f S' n' D O H):=λae s O H D I h=>by obtain⟨S,n,f,S',n',e,h⟩:=h;exact aq B S n f S' n' e ae s O H D I h
 have ag0:nH X c (λO H Q=>∃S n b n',gj S n=J (b,n')/\wV X.K B tw S n b n' O H Q):=λae s O H Q I h=>by obtain⟨S,n,b,n',e,h⟩:=h;exact aT B S n b n' e ae s O H Q I h
 refine alD aF ag0 kL ae s O H D I ⟨λm U' aj=>eJ H aj/\∃Si k4,dr X.K B tw Si k4 U' aj/\iW gj b m Si k4=J (f,S',n'),⟨100000,.refl _,S,n,R,hd⟩,?_⟩;rintro m U2 bV ⟨n2,S2,bC,dj,a6⟩;cases m with
 |zero=>exists a6
 |succ m =>
  obtain⟨⟨t,fV⟩,bX,eR⟩:=cn (show(gj S2 bC).bind _=_ from a6);refine⟨S2,bC,t,fV,bX,dj,λef bY k6=>?_⟩;have mh:=dj.mono bY k6;have lQ:eJ H ef:=n2.trans<|bY.b0 dj.aQ;cases t with
  |false =>
   have eR:J (hG.bD,S2,fV)=J (f,S',n'):=eR
   exists eR
   exact FZ<|k U2 ef lQ mh
  |true =>
   obtain⟨⟨f4,S4,hu⟩,fO,gM⟩:=cn (show(b S2 fV).bind _=_ from eR);refine F0 ⟨λU' aj=>eJ H aj/\dr X.K B tw S4 hu U' aj/\iW gj b m S4 hu=J (f,S',n'),λU' aj ⟨cN,dE,iP⟩=>⟨m,oE _,cN,S4,hu,dE,iP⟩,S2,fV,f4,S4,hu,fO,mh,?_⟩;cases f4 with
   |bD=>exact λU' ee cN dE=>⟨lQ.trans cN,dE,gM⟩
   |eE=>exact λU' ee cN dE=>⟨lQ.trans cN,dE,gM⟩
   |gs =>
    have gM:J (hG.bD,S4,hu)=J (f,S',n'):=gM
    exists gM
    exact λU' ee cN dE=>k U' ee (lQ.trans cN) dE
   |aV t km =>
    have gM:J (hG.aV t km,S4,hu)=J (f,S',n'):=gM
    exists gM
    exact λv ee cN dE iP uC=>k v ee (lQ.trans cN) dE iP uC
def ti(X:bI)(tw:Addr)(ifs:List Expr)(d:fb):Prop:=∀B S n b n',d S n=J (b,n')->wR X ifs (wV X.K B tw S n b n')
def aka:ti X tw [] yes:=by
 intro B S n b n' hd ae s O H Q I ⟨R,k⟩
 exists hd
 exact aik ae s O H Q I<|k H ZT R.aQ
def akb{c:Expr}{d:fb}(h:ST X tw c d):ti X tw [c] d:=λB S n b n' hd=>ail<|h B S n b n' hd
def xv{i:Nat}(h:(ck l S)[i]?=J (J p)):∃j,l[i]?=J (J j)/\S[j]?=J (J p):=by
 unfold ck at h;rw[kg]at h;cases e:l[i]? with
 |none=>rw[e]at h;exists h
 |some o =>
  rw[e]at h;cases o with
  |none=>exists h
  |some j =>
   refine⟨j,rfl,?_⟩;have h:(S[j]?).join=J p:=Option.some.inj h;cases q:S[j]? with
   |none=>rw[q]at h;exists h
   |some eN=>rw[q]at h;rw[show eN=J p from h]
def Jp{i j:Nat}(h:l[i]?=J (J j))(e:O[j]?=J (J v)):(tM l O)[i]?=J (J v):=by unfold tM;rw[kg,h];show J ((O[j]?).join)=_;rw[e];rfl
def dr.src{K:PySem.W.Frag}{B:aJ}{S:bE}{n:Nat}{O:St}{H:aJ}{l:List<|Option Nat}(R:dr K B tw S n O H)(inj:∀(i q7 j:Nat),l[i]?=J (J j)->l[q7]?=J (J j)->i=q7):dr K B tw (ck l S) n (tM l O) H:=by
 refine⟨R.ext,R.aQ,R.lh,by unfold ck tM;rw[cP,cP],λi t e=>?_,λi t e=>?_,λi t e=>?_,λi t e=>?_,λi q7 t t' a e bN s s'=>?_⟩
 ·obtain⟨j,af,ak⟩:=xv e;obtain⟨v,aX,bb⟩:=R.ag j t ak;exact⟨v,Jp af aX,bb⟩
 ·obtain⟨j,af,ak⟩:=xv e;obtain⟨v,aX,bb⟩:=R.cZ j t ak;exact⟨v,Jp af aX,bb⟩
 ·obtain⟨j,af,ak⟩:=xv e;obtain⟨v,aX,bb⟩:=R.aE j t ak;exact⟨v,Jp af aX,bb⟩
 ·obtain⟨j,af,ak⟩:=xv e;exact R.nX j t ak
 ·obtain⟨j,af,ak⟩:=xv e;obtain⟨q6,ku,tg⟩:=xv bN;obtain⟨k,k1,k2⟩:=I8 s;obtain⟨fI,Pt,abb⟩:=I8 s';rw[af]at k1;exists k1;rw[ku]at Pt;exists Pt;obtain rfl:=R.o9 j q6 t t' a ak tg k2 abb;exact inj i q7 j af ku
def dr.anh{K:PySem.W.Frag}{B:aJ}{S:bE}{n:Nat}{O:St}{H:aJ}{D:Addr}{acc:List V}{o:jX}(R:dr K B tw S n O H)(gW:H D=J (.ao acc))(de:B D=C)(bW:∀(j:Nat) (t:T),S[j]?=J (J (t,.aE))->O[j]?≠J (J<|.ref D)):dr K B tw S n O<|c4 H D o:=by
 have b0:eJ H<|c4 H D o:=λa=>⟨λah q=>by rw[e1<|by rintro rfl;rw[gW]at q;exists q];exact q,λ_ _ q=>by rw[e1<|by rintro rfl;rw[gW]at q;exists q];exact q⟩
 refine⟨R.ext.put de,by show c4 H D o tw=_;rw[e1 (R.wb de).symm];exact R.aQ,R.lh,R.len,λi t e=>let ⟨v,af,ak⟩:=R.ag i t e;⟨v,af,aI.mono b0 _ _ ak⟩,R.cZ,λi t e=>?_,R.nX,R.o9⟩;obtain⟨a,af,ak,bc⟩:=R.aE i t e;have na:a≠D:=by rintro rfl;exact bW i t e af
 refine⟨a,af,ak,?_⟩;cases t with
 |ao xs=>obtain⟨ah,cN,dE⟩:=bc;exact⟨ah,by rw[e1 na];exact cN,bR.mono b0 _ _ dE⟩
 |bk ay=>obtain⟨ah,cN,dE⟩:=bc;exact⟨ah,by rw[e1 na];exact cN,cJ.mono b0 _ _ dE⟩
 |_=>exact bc.elim
def l2.inj{scope:js}{N':List Str}{fo:List<|Option Nat}(aN:l2 X scope N' fo)(bW:N'.Nodup):∀(i q7 j:Nat),fo[i]?=J (J j)->fo[q7]?=J (J j)->i=q7:=λi q7 j h h'=>by obtain⟨x,aX,bb,_⟩:=aN.src i j h;obtain⟨fA,Jq,DX,_⟩:=aN.src q7 j h';rw[bb]at DX;exists DX;exact Dn bW aX Jq
def Cv(X:bI)(B:aJ)(tw:Addr)(S:bE)(n:Nat)(aA:List T)(n':Nat):TI:=λO H R=>dr X.K B tw S n O H/\∀cO aj,dn tw H aj->df tw n' aj->(∀ee qt,df tw qt ee->dn tw aj ee->qO tw cO ee aA)->R cO aj
def zb(X:bI)(B:aJ)(tw:Addr)(c:fb):TT:=λO H Q=>∃S n b n',c S n=J (b,n')/\wV X.K B tw S n b n' O H Q
def wW(X:bI)(B:aJ)(tw:Addr)(e:bM):TE:=λO H Q=>∃S n t m n',aY e S n=J (t,m,n')/\q4 X.K B tw S n t m n' O H Q
def Pu{n aM bC:Nat}(aN:l2 X scope N' fo)(bW:N'.Nodup)(R:dr X.K B tw S n O H)(a6:iV put c e aA (ck fo S) aM []=J (out,bC))
  (k:∀v aj,dn tw H aj->df tw bC aj->Val X.K B tw H aj (.ao out) .aE v->Q v aj):Gi (Cv X B tw S n aA aM) fo (Cu X tw put) (zb X B tw c) (wW X B tw e) O H Q:=by
 refine⟨R,λcO H1 bH dB it D gW=>?_⟩;have bt:=R.mono bH dB;have Nx:D≠tw:=bt.aQ.tT gW;refine⟨λi m acc U' aj=>m=aA.H-i/\i<=aA.H/\aj D=J (.ao acc)/\dn tw H1 aj/\∃Si k4 as,dr X.K B tw Si k4 U' aj/\(∀(j:Nat) (t:T),Si[j]?=J (J (t,bo.aE))->U'[j]?≠J (J<|V.ref D))/\bR tw aj as acc/\iV put c e (aA.drop i) Si k4 as=J (out,bC),⟨aA.H,by simp,gH _,fC,.new gW,ck fo S,aM,[],(bt.src<|aN.inj bW).mono (.new gW) (bt.aQ.new gW),Pn (bt.src<|aN.inj bW) gW,.nil,by simpa using a6⟩,?_⟩;rintro i m acc U2 bV ⟨rfl,kv,u9,cf,S2,fV,as,dj,abc,oT,eR⟩;have at2:=it bV fV dj.aQ cf i;by_cases dD:i<aA.H
 ·right;obtain⟨go,uA⟩:=at2.1 aA[i] (by simp[dD]);have za:aA.drop i=aA[i]::aA.drop (i+1):=pL dD;rw[za]at eR;obtain⟨S3,fO,gM⟩:=cn (show(put aA[i] S2).bind _=_ from eR);obtain⟨⟨b,hu⟩,q8,p6⟩:=cn gM;refine⟨go,λtN U' aj=>aj D=J (.ao tN)/\dn tw H1 aj/\∃Si k4 DY,dr X.K B tw Si k4 U' aj/\(∀(j:Nat) (t:T),Si[j]?=J (J (t,bo.aE))->U'[j]?≠J (J<|V.ref D))/\bR tw aj DY tN/\iV put c e (aA.drop<|i+1) Si k4 DY=J (out,bC),λtN U' aj ⟨cN,dE,Si,k4,DY,iP,HK,uC,uD⟩=>⟨aA.H-(i+1),by lia,rfl,dD,cN,dE,Si,k4,DY,iP,HK,uC,uD⟩,λx ef uB=>?_⟩;obtain⟨cv,mS,jy⟩:=uA x ef uB;refine⟨B,S2,fV,aA[i],S3,dj.mono cv<|mS fV dj.aQ,jy,fO,λU3 mh abd=>⟨S3,fV,b,hu,q8,mh,λp1 ct nN=>?_⟩⟩;have zc:=mh.mono ct nN;have Jr:∀(j:Nat) (t:T),S3[j]?=J (J (t,bo.aE))->U3[j]?≠J (J<|V.ref D):=λj t q eN=>let ⟨q6,t',af,ak⟩:=abd j t D q eN;abc q6 t' af ak
  have DZ:dn tw bV p1:=cv.trans ct;cases b with
  |false =>
   have p6:iV put c e (aA.drop<|i+1) S3 hu as=J (out,bC):=p6;exact FZ ⟨DZ.to D _ u9 Nx,cf.trans DZ,S3,hu,as,zc,Jr,bR.mono (DZ.b0 dj.aQ) _ _ oT,p6⟩
  |true =>
   obtain⟨⟨HL,anw,sF⟩,mu,Aa⟩:=cn (show(aY e S3 hu).bind _=_ from p6);obtain rfl:=z8 mu;have Aa:(if as.H<bh then iV put c e (aA.drop<|i+1) S3 sF (as++[HL]) else C)=J (out,bC):=Aa;split at Aa
   ·rename_i aq;refine F0 ⟨S3,hu,HL,.ag,sF,mu,zc,λv jv fY ur uD=>?_⟩;have Js:=DZ.trans fY;have D0:jv D=J (.ao acc):=Js.to D _ u9 Nx;have HM:=zc.mono fY ur;have b0:eJ jv<|c4 jv D<|.ao<|acc++[v]:=λa=>⟨λah q=>by rw[e1<|by rintro rfl;rw[D0]at q;exists q];exact q,λ_ _ q=>by rw[e1<|by rintro rfl;rw[D0]at q;exists q];exact q⟩
    have abe:B D=C:=R.ext.free R.aQ<|bH.free dB gW;refine⟨D0,by rw[<-oT.H];exact DM aq,fC,(cf.trans Js).put gW,S3,sF,as++[HL],?_,Jr,(bR.mono b0 _ _<|bR.mono (Js.b0 dj.aQ) _ _ oT).append (.cons (aI.mono b0 _ _ uD) .nil),Aa⟩
    ·exact HM.anh D0 abe Jr
   ·exists Aa
 ·left;have jI:aA.H<=i:=hS dD;refine⟨at2.2 jI,?_⟩;rw[wc jI]at eR;have eR:J (as,fV)=J (out,bC):=eR
  exists eR
  exact k _ bV (bH.trans cf) dj.aQ ⟨D,rfl,bH.free dB gW,acc,u9,oT⟩
def Jt{elt iter:Expr}{ifs:List Expr}{scope:js}{pos:Pos}{N':List Str}{fo:List<|Option Nat}{d:ic}{put:T->bE->Option bE}{c:fb}{e:bM}(aT:X.calm=Y0)(aN:l2 X scope N' fo)(bW:N'.Nodup)(hi:ru X tw di iter d)
  (bT:∀cl aN cD dJ fp,sD ZY tw di put) (cA:∀cl aN cD dJ fp,ti ZY tw ifs c) (he:∀cl aN cD dJ fp,bF ZY tw elt e)
  (aP:autoParam Zx sA):bF X tw Zy<|et d (ck fo) put c e:=by
 intro B S n t m n' hd ae s O H Q I ⟨R,k⟩;obtain⟨⟨aA,aM⟩,az,au⟩:=cn hd;obtain⟨⟨out,bC⟩,a6,bX⟩:=dw au;cases bX;refine ajY aT aN (hi B S n aA aM az) (g:=Cu X tw put) (tt:=zb X B tw c) (te:=wW X B tw e) (λcl aN cD dJ fp=>bT cl aN cD dJ fp) (λcl aN cD dJ fp ae s O H Q I h=>?_) (λcl aN cD dJ fp ae s O H Q I h=>?_) aP ae s O H Q I<|Pu aN bW R a6 k
 ·obtain⟨S,n,b,n',e,h⟩:=h;exact cA cl aN cD dJ fp B S n b n' e ae s O H Q I h
 ·obtain⟨S,n,t,m,n',bN,h⟩:=h;exact xp (he cl aN cD dJ fp) B S n t m n' bN ae s O H Q I h
def abf(i:Nat){y:Str}{elt iter:Expr}{ifs:List Expr}{scope:js}{pos vY py:Pos}{N':List Str}{fo:List<|Option Nat}{d:ic}{put:T->bE->Option bE}{c:fb}{e:bM}(aT:X.calm=Y0)(dK:X.N.Nodup)(aN:l2 X scope N' fo)(bW:N'.Nodup)(hi:ru X tw di iter d)
  (bT:∀cl aN cD dJ fp,sD ZY tw di put) (cA:∀cl aN cD dJ fp,ti ZY tw ifs c) (he:∀cl aN cD dJ fp,bF ZY tw elt e)
  (gz:autoParam (X.N[i]?=J y) bu) (aK:autoParam (X.env.scope.names.lookup y=J .local) bu) (z6:autoParam (nC Zy (J<|.Name y py) vY.line X.I=pure Y0) bu) (aP:autoParam Zx sA) :
  gX X tw (.Assign [.Name y py] Zy vY) (dM i<|et d (ck fo) put c e):=by
 intro B S n f S' n' hd ae s O H D I ⟨R,k⟩;obtain⟨⟨t,m,n0⟩,dF,D1⟩:=cn hd;obtain⟨⟨aA,aM⟩,az,au⟩:=cn dF;obtain⟨⟨out,bC⟩,a6,bX⟩:=dw au;cases bX;cases D1;refine ajZ aT dK gz aK aN (hi B S n aA aM az) (g:=Cu X tw put) (tt:=zb X B tw c) (te:=wW X B tw e) (λcl aN cD dJ fp=>bT cl aN cD dJ fp) (λcl aN cD dJ fp ae s O H Q I h=>?_) (λcl aN cD dJ fp ae s O H Q I h=>?_) z6 aP ae s O H D I (Pu aN bW R a6 λv aj x y z=>k _ aj (x.b0 R.aQ)<|R.store x y z rfl)
 ·obtain⟨S,n,b,n',e,h⟩:=h;exact cA cl aN cD dJ fp B S n b n' e ae s O H Q I h
 ·obtain⟨S,n,t,m,n',bN,h⟩:=h;exact xp (he cl aN cD dJ fp) B S n t m n' bN ae s O H Q I h
def akc(i:Nat){st:Stmt}{d:bw}(h:gX X tw st d):gX X tw st<|dO i d:=by
 intro B S n f S' n' bp;have key:dO i d S n=d S n\/dO i d S n=fD i d S n:=by
  unfold dO fD;cases S[i]? with
  |none=>exact .inl rfl
  |some o =>
   cases o with
   |none=>exact .inl rfl
   |some p =>
    obtain⟨t,m⟩:=p
    exists t<;>exists m<;>first|exact .inl rfl|exact .inr rfl
 rcases key with e|e
 ·exact h B S n f S' n'<|e▸bp
 ·exact UX i h B S n f S' n'<|e▸bp
theorem Ju{K:PySem.W.Frag}{H:aJ}:∀{aA:List (T×Bool)} {ah:List V},Args K tw H aA ah->∀(i:Nat) (t:T) (b:Bool),aA[i]?=J (t,b)->∃v,ah[i]?=J v/\(b=Y0->aI tw H t v)/\ew K tw H t v
 |_,_,.nil,_,_,_,e=>by simp at e
 |_,_,.cons af ak _,0,_,_,e=>by simp at e;obtain⟨rfl,rfl⟩:=e;exact⟨_,rfl,af,ak⟩
 |_,_,.cons _ _ r,i+1,t,b,e=>by obtain⟨v,aX,bb⟩:=Ju r i t b (by simpa using e);exact⟨v,by simpa using aX,bb⟩
def Jv{K:PySem.W.Frag}{H:aJ}{N:List Str}{aA:List<|T×Bool}{ah:List V}{n:Nat}(a:Args K tw H aA ah)(aQ:df tw n H) :
  dr K H tw (aA.map (λt=>J (t.1,if t.2 then bo.ag else bo.cZ))++List.replicate (N.H-aA.H) C) n (start N ah) H:=by
 have aB:=a.H;have get:∀(i:Nat) (p:T×bo),(aA.map (λt=>J (t.1,if t.2 then bo.ag else bo.cZ))++List.replicate (N.H-aA.H) C)[i]?=J (J p)->∃b,aA[i]?=J (p.1,b)/\p.2=(if b then bo.ag else bo.cZ):=λi p e=>by
  by_cases h:i<aA.H
  ·rw[yn (by simpa using h),kg]at e;cases q:aA[i]? with
   |none=>rw[q]at e;exists e
   |some t=>rw[q]at e;exists e;exact⟨t.2,rfl,rfl⟩
  ·rw[BM (by simpa using h),BP]at e;split at e<;>exists e
 have val:∀(i:Nat) (v:V),ah[i]?=J v->(start N ah)[i]?=J (J v):=λi v e=>by have h:i<ah.H:=(kM.mp e).1;unfold start;rw[yn (by simpa using h),kg,e];rfl
 refine⟨.refl _ _,aQ,⟨n,aQ⟩,by unfold start;rw[gr,gr,cP,cP,ow,ow,aB],λi t e=>?_,λi t e=>?_,λi t e=>?_,λi t e=>?_,λi j t t' a e bN=>?_⟩
 ·obtain⟨b,aX,bb⟩:=get i _ e;obtain⟨v,af,ak,bc⟩:=Ju a i t b aX;cases b with
  |true=>exact⟨v,val i v af,ak rfl⟩
  |false=>exists bb
 ·obtain⟨b,aX,bb⟩:=get i _ e;obtain⟨v,af,ak,bc⟩:=Ju a i t b aX;exact⟨v,val i v af,bc⟩
 ·obtain⟨b,aX,bb⟩:=get i _ e;exists b<;>exists bb
 ·obtain⟨b,aX,bb⟩:=get i _ e;exists b<;>exists bb
 ·obtain⟨b,aX,bb⟩:=get i _ e;exists b<;>exists bb
def ag1{P:dx}{w:c3}{K:PySem.W.Frag}{a3:Str->Option mt}{base:Heap}{x qual:Str}{st:Stmt}{f:Addr}{fd:hC}{N ps:List Str}{lv:Nat}{b:bw}(F:qo K x qual st f fd)(cc:mG N ps<|er st)
  (kL:∀(c8:mt) (A:dI) (cj:List Env) (s:aR) (H:aJ) (E:iv),eD lv (A.deeper<|i5 qual (er st) s.L f c8)->h1 (jP iB P w K a3 base N qual (er st) f c8 A cj s H E).lL tw (ih st) b):i2 P w K a3 base iB (lv+1) f fd ps<|nZ K tw ps.H<|c0 N.H b:=by
 refine F.ok cc (λah H Q E h=>h.1) λc8 A cj s H ah Q E aU h=>?_;obtain⟨aB,aA,n,t,m,n',a,aQ,e,k⟩:=h;obtain⟨⟨bG,S',aM⟩,az,au⟩:=cn e;refine⟨_,kL c8 A cj s H E aU H _ n bG S' aM az,Jv a aQ,?_⟩;cases bG with
 |aV t0 m0=>exists au;exact λv aj _ x y z=>k v aj x y z
 |bD=>exists au;exact λU' aj _ R=>k .br aj R.ext R.aQ (by show aI tw aj .br _;rw[aI])
 |gs=>exists au
 |eE=>exists au
end
section
variable {X:bI}{tw:Addr}
def m4{K:PySem.W.Frag}{H:aJ}{a b:T}{ah:List V}(r:r1 K tw H [a,b] ah):∃v w,ah=[v,w]/\ew K tw H a v/\ew K tw H b w:=by
 cases r with
 |cons bA cp=>cases cp with
  |cons cp hF=>exists hF;exact⟨_,_,rfl,bA,cp⟩
def iZ{K:PySem.W.Frag}{H:aJ}{a:T}{ah:List V}(r:r1 K tw H [a] ah):∃v,ah=[v]/\ew K tw H a v:=by
 cases r with
 |cons bA cp=>exists cp;exact⟨_,rfl,bA⟩
def Ab{f:mt->mt->Sem mt}{aN:Int->Int->Bool}{g:Int->Int->T}{HN:Int->Int->V}{r:dj}(aZ:iU X f r)(aU:∀a b H Q,aN a b=Y0->Q (HN a b) H->r (.int a) (.int b) H Q)(bT:∀a b H,aI tw H (g a b)<|HN a b):fS X tw (two f)<|dZ aN g:=by
 intro B ae s O H ah us aA n t m Q I bq aV aQ e k;have⟨a,b,rx,oU,dR,em⟩:∃a b,aA=[.int a,.int b]/\aN a b=Y0/\t=g a b/\m=.ag:=by
  clear k aV bq
  induction aA using List.casesOn with
  |nil=>exists e
  |cons x r=>induction x using T.casesOn with
   |int a=>induction r using List.casesOn with
    |nil=>exists e
    |cons y r=>induction y using T.casesOn with
     |int b=>induction r using List.casesOn with
      |nil =>
       have e:(if aN a b then J (g a b,bo.ag) else C)=J (t,m):=e;split at e
       ·rename_i h;exists e;exact⟨a,b,rfl,h,rfl,rfl⟩
       ·exists e
      |cons _ _=>exists e
     |_=>exists e
   |_=>exists e
 subst rx dR em;obtain⟨v,w,rfl,bA,cp⟩:=m4 aV;obtain rfl:=iY bA;obtain rfl:=iY cp;obtain⟨fX,f9,rfl,aX,bb⟩:=bq.two;exact aZ ae s O H _ _ fX f9 Q I aX bb<|aU a b H Q oU<|k _ H ZT aQ<|bT a b H
def aiy:fS X tw (two<|ma .Sub) kc:=Ab ah1 (λa b H Q _ q=>⟨a,b,rfl,rfl,q⟩) λa b H=>by rw[aI]
def Jw:fS X tw (two<|ma .Mod) og:=Ab ah3 (λa b H Q h q=>⟨a,b,rfl,rfl,by simpa using h,q⟩) λa b H=>by rw[aI]
def aiz:fS X tw (two<|ma .FloorDiv) F1:=Ab ajK (λa b H Q h q=>⟨a,b,rfl,rfl,by
 simp only[f5,decide_eq_true_eq]at h
 exact⟨h.1,by have:=h.2;lia⟩,q⟩) λa b H=>by rw[aI]
def Jx{p:Int->Int->Bool}(rule:∀(i j:Int) (t u:Tok) (Q:mt->aR->Prop) (s:aR),Q (.bool<|p i j) s->bl Z2 X.A (hq op (.int i t)<|.int j u) Q X.cv s):iU X (hq op) (λx y H Q=>∃i j,x=.int i/\y=.int j/\Q (.aC<|p i j) H):=by intro ae s O H x y v u Q I cF dX h;obtain⟨i,j,rfl,rfl,q⟩:=h;obtain⟨t,rfl⟩:=cF;obtain⟨t',rfl⟩:=dX;exact rule i j t t' _ s ⟨.aC _,H,I,rfl,q⟩
def Uq:fS X tw (two<|hq .Lt) eF:=Ab (Jx λ_ _ _ _ _ _ h=>lt_int h) (λa b H Q _ q=>⟨a,b,rfl,rfl,q⟩) λa b H=>by rw[aI]
def Ur:fS X tw (two<|hq .Gt) rn:=Ab (Jx λ_ _ _ _ _ _ h=>gt_int h) (λa b H Q _ q=>⟨a,b,rfl,rfl,q⟩) λa b H=>by rw[aI]
def aiA{e:Expr}{d:bM}{j pos pos'}(h:bF X tw e d):bF X tw (.Compare e [.Is] [.Constant .none j pos'] pos)<|aH oh<|aa d ar:=by
 intro B S n t m n' hd ae s O H Q I ⟨R,k⟩;obtain⟨⟨aA,aM⟩,az,au⟩:=cn hd;obtain⟨⟨t0,m0,n0⟩,f1,f2⟩:=cn az
 exists f2
 exists au
 refine UL (ID<|h B S n t0 m0 _ f1) (by rfl) ae s O H Q I ⟨R,λv aj x y z=>k _ aj x y ?_⟩;have bt:=R.mono x y;have aV:=z.root bt R.aQ;have:decide (v=.br)=nU t0:=by
  cases t0 with
  |br=>have aV:aI tw aj .br v:=aV;rw[aI]at aV;subst aV;rfl
  |aC b=>have aV:aI tw aj (.aC b) v:=aV;rw[aI]at aV;subst aV;rfl
  |int b=>have aV:aI tw aj (.int b) v:=aV;rw[aI]at aV;subst aV;rfl
  |str b=>have aV:aI tw aj (.str b) v:=aV;rw[aI]at aV;subst aV;rfl
  |aD b=>have aV:aI tw aj (.aD b) v:=aV;rw[aI]at aV;obtain⟨_,_,rfl,_⟩:=aV;rfl
  |dq=>have aV:aI tw aj .dq v:=aV;rw[aI]at aV;subst aV;rfl
  |bJ b=>have aV:aI tw aj (.bJ b) v:=aV;rw[aI]at aV;subst aV;rfl
  |ao b=>obtain⟨_,_,rfl,_⟩:=aV;rfl
  |bk b=>obtain⟨_,_,rfl,_⟩:=aV;rfl
 rw[this];show aI tw aj (.aC _) _;rw[aI]
abbrev uE(p:Int->Int->Bool):dj:=λx y H Q=>∃i j,x=.int i/\y=.int j/\Q (.aC<|p i j) H
abbrev uF(p:Int->Int->Bool):eC:=dZ (λ_ _=>Y0) λa b=>.aC<|p a b
def D2{p:Int->Int->Bool}{n:Nat}(h:uF p n [a,b]=J (t,m)):∃i j,a=.int i/\b=.int j/\t=.aC (p i j)/\m=.ag:=by
 match a,b,h with
 |.int i,.int j,h=>exists h;exact⟨i,j,rfl,rfl,rfl,rfl⟩
def Pw{dC c7:Int->Int->Bool}{n:Nat}{n':Nat}(hd:gx (uF dC) (uF c7) dQ db gj S n=J (t,m,n'))(R:dr X.K B tw S n O H)(k:∀v aj,dn tw H aj->df tw n' aj->Val X.K B tw H aj t m v->Q v aj) :
  IM (uE dC) (uE c7) (λO H Q=>∃n t m n',dQ S n=J (t,m,n')/\q4 X.K B tw S n t m n' O H Q) (λO H Q=>∃n t m n',db S n=J (t,m,n')/\q4 X.K B tw S n t m n' O H Q) (λO H Q=>∃n t m n',gj S n=J (t,m,n')/\q4 X.K B tw S n t m n' O H Q) O H Q:=by
 obtain⟨⟨ta,Nv,na⟩,az,au⟩:=cn hd;obtain⟨⟨tb,lG,nb⟩,a6,bX⟩:=cn au;obtain⟨⟨p3,V7⟩,eR,fO⟩:=cn bX;obtain⟨i,j,rfl,rfl,rfl,rfl⟩:=D2 eR;refine⟨n,_,_,_,az,R,λv1 H1 bH dB cN=>⟨_,_,_,_,a6,R.mono bH dB,λv2 bV cf iO dE=>?_⟩⟩;have bt:=R.mono bH dB;have dj:=bt.mono cf iO;obtain rfl:=iY<|cN.root bt R.aQ;obtain rfl:=iY<|dE.root dj bt.aQ;refine⟨i,j,rfl,rfl,dC i j,rfl,?_⟩;have Px:=bH.trans cf;cases aF:dC i j with
 |false =>
  rw[aF]at fO;have fO:J (T.aC Y1,bo.ag,nb)=J (t,m,n'):=fO
  exists fO
  exact FZ (k _ bV Px iO<|by show aI tw bV (.aC Y1) _;rw[aI])
 |true =>
  rw[aF]at fO;obtain⟨⟨nJ,HD,V8⟩,gM,q8⟩:=cn (show(gj S nb).bind _=_ from fO);obtain⟨⟨V9,Wa⟩,p6,mu⟩:=dw q8;obtain⟨mi,uG,Ny,rfl,rfl,rfl⟩:=D2 p6
  exists Ny
  cases mu;refine F0 ⟨_,_,_,_,gM,dj,λNz ef bY k6 iP=>?_⟩;obtain rfl:=iY<|iP.root (dj.mono bY k6) dj.aQ;exact⟨j,uG,rfl,rfl,k _ ef (Px.trans bY) k6<|by show aI tw ef (.aC _) _;rw[aI]⟩
def xw{e:Expr}{d:bM}(h:bF X tw e d)(B:aJ)(S:bE):d7 X e (λO H Q=>∃n t m n',d S n=J (t,m,n')/\q4 X.K B tw S n t m n' O H Q):=λae s O H Q I ⟨n,t,m,n',e,q⟩=>h B S n t m n' e ae s O H Q I q
def alS{a b c:Expr}{dQ db gj:bM}{fs ja:CmpOp}{dC c7:Int->Int->Bool}{pos:Pos}(af:iU X (hq fs)<|uE dC)(ak:iU X (hq ja)<|uE c7)(ba:bF X tw a dQ)(aq:bF X tw b db)(aT:bF X tw c gj)
  (hm:autoParam (lastMarks [fs,ja] [b,c]=Y1) az5._auto_1):bF X tw (.Compare a [fs,ja] [b,c] pos)<|gx (uF dC) (uF c7) dQ db gj:=by
 intro B S n t m n' hd ae s O H Q I ⟨R,k⟩;exact alE af ak (xw ba B S) (xw aq B S) (xw aT B S) hm ae s O H Q I<|Pw hd R k
def alT{a b c:Expr}{dQ db gj:bM}{fs ja:CmpOp}{dC c7:Int->Int->Bool}{pos:Pos}(af:iU X (hq fs)<|uE dC)(ak:iU X (hq ja)<|uE c7)(ba:bF X tw a dQ)(aq:bF X tw b db)(aT:bF X tw c gj)
  (hm:autoParam (lastMarks [fs,ja] [b,c]=Y1) az5._auto_1):ST X tw (.Compare a [fs,ja] [b,c] pos)<|bK<|gx (uF dC) (uF c7) dQ db gj:=by
 intro B S n anx n' hd ae s O H Q I ⟨R,k⟩;obtain⟨⟨t,m,aM⟩,az,au⟩:=cn hd;obtain⟨gV,a6,bX⟩:=dw au
 exists bX
 refine alF af ak (xw ba B S) (xw aq B S) (xw aT B S) hm ae s O H Q I (Pw az R λv aj x y z=>?_);have abg:∃q,t=.aC q:=by
  obtain⟨⟨ta,Nv,na⟩,g1,g2⟩:=cn az;obtain⟨⟨tb,lG,nb⟩,g3,gL⟩:=cn g2;obtain⟨⟨p3,V7⟩,mQ,sG⟩:=cn gL;obtain⟨i,j,rfl,rfl,rfl,rfl⟩:=D2 mQ;cases aF:dC i j with
  |false =>
   rw[aF]at sG;have sG:J (T.aC Y1,bo.ag,nb)=J (t,m,aM):=sG
   exists sG;exact⟨_,rfl⟩
  |true =>
   rw[aF]at sG;obtain⟨⟨nJ,HD,V8⟩,anz,Wb⟩:=cn (show(gj S nb).bind _=_ from sG);obtain⟨⟨V9,Wa⟩,Wc,abh⟩:=dw Wb;obtain⟨_,_,_,_,rfl,_⟩:=D2 Wc
   exists abh;exact⟨_,rfl⟩
 obtain⟨q,rfl⟩:=abg
 exists a6
 have aV:aI tw aj (.aC _) v:=(z.root (R.mono x y) R.aQ)
 rw[aI]at aV;subst aV;exact⟨_,rfl,k aj x y⟩
def qu(h:H a=J (.aD ah))(r:bR tw H xs ah):aI tw H (.aD xs) ZN:=by rw[aI];exact⟨a,ah,rfl,h,r⟩
def kx{K:PySem.W.Frag}{H:aJ}{xs:List T}{v:V}(r:ew K tw H (.aD xs) v):∃a ah,v=.ref a/\H a=J (.aD ah)/\bR tw H xs ah:=by have r:aI tw H (.aD xs) v:=r;rw[aI]at r;exact r
end
end bj.bO
namespace bj.bO
open PySem PySem.Spec PyProof.Rows PySem.SeqAt
section
variable {X:bI}{tw:Addr}
theorem Jy(e4:∀t t' v,P t=Y0->P t'=Y0->aI tw H t v->aI tw H t' v->t=t'):∀(xs aO:List T) (ah:List V),xs.all P=Y0->aO.all P=Y0->bR tw H xs ah->bR tw H aO ah->xs=aO
 |[],aO,ah,p,fZ,r,b5=>by
  obtain rfl:=ji r;cases aO with
  |nil=>rfl
  |cons y aO=>obtain⟨_,_,e,_⟩:=hg b5;exists e
 |x::xs,aO,ah,p,fZ,r,b5=>by
  obtain⟨v,w,rfl,aX,bb⟩:=hg r;cases aO with
  |nil=>cases ji b5
  |cons y aO =>
   obtain⟨hT,fT,e,Jq,DX⟩:=hg b5;cases e;rw[jV,f5]at p fZ;rw[e4 x y v p.1 fZ.1 aX Jq,Jy e4 xs aO w p.2 fZ.2 bb DX]
def Py(bS:∀a,v≠.ref a)(r:aI tw H t v)(b5:aI tw H t' v):t=t':=by
 exists t<;>rw[aI]at r<;>first|(exact False.elim r)|(subst r;exists t'<;>rw[aI]at b5<;>first|rfl|(exact False.elim b5)|(exists b5;rfl)|(exists b5;done)|(obtain⟨_,_,e,_⟩:=b5;exists e;done)|(obtain⟨_,_,_,e,_⟩:=b5;exists e;done))|(obtain⟨_,_,e,_⟩:=r;exact absurd e<|bS _)|(obtain⟨_,_,_,e,_⟩:=r;exact absurd e<|bS _)|(exact absurd r<|bS _)
def akd:∀(k:Nat) (t t':T) (v:V),d0 k t=Y0->d0 k t'=Y0->aI tw H t v->aI tw H t' v->t=t':=by
 intro k
 induction k with
 |zero =>
  intro t t' v p fZ r b5;refine Py (λa e=>?_) r b5;subst e
  exists t<;>first|(exists p;done)|(rw[aI]at r;exists r;done)
 |succ k a4 =>
  intro t t' v p fZ r b5;cases t with
  |aD xs =>
   rw[aI]at r;obtain⟨a,ah,rfl,e,q⟩:=r;cases t' with
   |aD aO =>
    rw[aI]at b5;obtain⟨gK,mv,cu,bN,eN⟩:=b5
    exists cu
    rw[e]at bN;exists bN;rw[Jy (P:=d0 k) (a4) xs aO ah p fZ q eN]
   |ao aO=>rw[aI]at b5;obtain⟨gK,o,mv,cu,bN,_⟩:=b5;exists cu;rw[e]at bN;exists bN
   |bk aO=>exists fZ
   |dq=>exists fZ
   |bJ _=>exists fZ
   |_=>rw[aI]at b5;exists b5
  |ao xs =>
   rw[aI]at r;obtain⟨a,o,ah,rfl,e,q⟩:=r;cases t' with
   |ao aO =>
    rw[aI]at b5;obtain⟨gK,dh,mv,cu,bN,eN⟩:=b5
    exists cu
    rw[e]at bN;exists bN;rw[Jy (P:=d0 k) (a4) xs aO ah p fZ q eN]
   |aD aO=>rw[aI]at b5;obtain⟨gK,mv,cu,bN,_⟩:=b5;exists cu;rw[e]at bN;exists bN
   |bk aO=>exists fZ
   |dq=>exists fZ
   |bJ _=>exists fZ
   |_=>rw[aI]at b5;exists b5
  |bk _=>exists p
  |dq=>exists p
  |bJ _=>exists p
  |_ =>
   refine Py (λa e=>?_) r b5;subst e;rw[aI]at r;exists r
theorem Jz(e4:∀t,P t=Y0->dV t t=Y0):∀(xs:List T),xs.all P=Y0->iL xs xs=Y0
 |[],_=>by rw[iL]
 |x::xs,p=>by rw[jV,f5]at p;rw[iL,e4 x p.1,Jz e4 xs p.2];rfl
def alU:∀(k:Nat) (t:T),d0 k t=Y0->dV t t=Y0:=by
 intro k
 induction k with
 |zero=>intro t p;exists t<;>first|(exists p;done)|(rw[dV];done)|(rw[dV];simp)
 |succ k a4 =>
  intro t p;cases t with
  |aD xs=>rw[dV];exact Jz a4 xs p
  |ao xs=>rw[dV];exact Jz a4 xs p
  |bk _=>exists p
  |dq=>exists p
  |bJ _=>exists p
  |br=>rw[dV]
  |_=>rw[dV];simp
theorem JA:∀(xs aO:List T),xs.H≠aO.H->iL xs aO=Y1
 |[],[],h=>absurd rfl h
 |[],_::_,_=>by simp[iL]
 |_::_,[],_=>by simp[iL]
 |x::xs,y::aO,h=>by rw[iL,JA xs aO (λe=>h<|by rw[d9,d9,e]),wx]
theorem JB:∀(xs aO:List T),xs.H=aO.H->iL xs aO=(List.range xs.H).all λj=>dV (xs.getD j .br) (aO.getD j .br)
 |[],[],_=>by rw[iL];rfl
 |[],_::_,h=>by exists h
 |_::_,[],h=>by exists h
 |x::xs,y::aO,h=>by rw[iL,JB xs aO (by simpa using h),d9,GI,jV,pR];rfl
def JC(r:bR tw H xs ah)(bq:cG ah us){j:Nat}(h:j<us.H):∃v,aI tw H (xs.getD j .br) v/\cW v us[j]:=by
 have af:j<ah.H:=by rw[bq.H];exact h
 have ak:j<xs.H:=by rw[r.H];exact af
 obtain⟨v,az,au⟩:=r.get (i:=j) (x:=xs[j]) (by simp[ak]);obtain⟨u,a6,bX⟩:=bq.get az;have:us[j]=u:=by have:=hj h;rw[this]at a6;exact Option.some.inj a6
 refine⟨v,?_,this▸bX⟩;rw[nq,hj ak];exact au
inductive oV (s:aR) (tw:Addr) (H:aJ):T->mt->Prop
 |br:oV s tw H .br .none
 |aC (b:Bool):oV s tw H (.aC b)<|.bool b
 |int (i:Int) (t:Tok):oV s tw H (.int i)<|.int i t
 |str (x:Str) (t:Tok):oV s tw H (.str x)<|.str x t
 |aD {xs:List T} {a:Addr} {us:List mt} {ah:List V}:s.heap.IsTuple a us.Q->bR tw H xs ah->cG ah us->oV s tw H (.aD xs) ZN
 |ao {xs:List T} {a:Addr} {us:List mt} {ah:List V}:s.heap.IsList a us.Q->bR tw H xs ah->cG ah us->oV s tw H (.ao xs) ZN
def xy{ae:List Z1}{s:aR}{O:St}{H:aJ}{k:Nat}{t:T}{v:V}{u:mt}(I:aS X ae O H s)(p:d0 k t=Y0)(r:ew X.K tw H t v)(bq:cW v u):oV s tw H t u:=by
 cases t with
 |br=>have r:aI tw H .br v:=r;rw[aI]at r;subst r;exists bq;exact .br
 |aC b=>have r:aI tw H (.aC b) v:=r;rw[aI]at r;subst r;exists bq;exact .aC b
 |int i=>have r:aI tw H (.int i) v:=r;rw[aI]at r;subst r;obtain⟨t,rfl⟩:=bq;exact .int i t
 |str x=>have r:aI tw H (.str x) v:=r;rw[aI]at r;subst r;obtain⟨t,rfl⟩:=bq;exact .str x t
 |aD xs =>
  obtain⟨a,ah,rfl,e,q⟩:=kx r
  exists bq
  obtain⟨a5,bA,dC,_⟩:=I.tuple<|e6.of e;exact .aD dC q bA
 |ao xs =>
  obtain⟨a,ah,rfl,e,q⟩:=r
  exists bq
  obtain⟨a5,bA,dC,_⟩:=I.list e.gi;exact .ao dC.isList q bA
 |bk _=>exists k<;>exists p
 |dq=>exists k<;>exists p
 |bJ _=>exists k<;>exists p
def in1_units{A:dI}:A.in1.units=A.units+1:=rfl
def Ug{A:dI}{s:aR}{u fu:mt}{b c:Bool}(h:RcNeAt A s u fu b)(e:b=c):RcNeAt A s u fu c:=e▸h
def JD(tw:Addr)(H:aJ)(A:dI)(s:aR)(t t':T)(u fu:mt):Prop:=RcAt A s u fu (dV t t')/\RcNeAt A s u fu (!dV t t')/\((∃v,aI tw H t v/\cW v u)->(∃v,aI tw H t' v/\cW v fu)->EqAt A s u fu (dV t t'))
def eq3{b:Bool}(af:RcAt A s u fu b)(ak:RcNeAt A s u fu<|!b)(bc:EqAt A s u fu b)(e:dV t t'=b:=by first|rfl|rw[dV]):JD tw H A s t t' u fu:=by subst e;exact⟨af,ak,λ_ _=>bc⟩
def Us{ae:List Z1}{s:aR}{O:St}{H:aJ}{n:Nat}(I:aS X ae O H s)(aQ:df tw n H)(k:Nat):∀(A:dI) (t t':T) (u fu:mt),A.units+k<iu->d0 k t=Y0->d0 k t'=Y0->oV s tw H t u->oV s tw H t' fu->JD tw H A s t t' u fu:=by
 induction k using Nat.strongRecOn with
 |_ k a4 =>
 intro A t t' u fu b7 p fZ d d';have dt:A.units<iu:=gT (gd _ _) b7
 have refs:∀{a b:Addr} {t t':T},d0 k t=Y0->d0 k t'=Y0->RcAt A s ZN (.ref b) (dV t t')->RcNeAt A s ZN (.ref b) (!dV t t')->JD tw H A s t t' ZN (.ref b):=λ{a b t t'} p fZ h h'=>⟨h,h',λ⟨v,bq,ev⟩ ⟨hT,abi,abj⟩=>by
  by_cases D3:a=b
  ·subst D3;obtain rfl:=ev.inj abj;obtain rfl:=akd k t t' v p fZ bq abi;rw[alU k t p];exact EqAt.same _
  ·exact .of_refs D3 h⟩
 have items:∀{xs aO:List T} {us ws:List mt} {ah mv:List V} {fI:Nat},k=fI+1->xs.all (d0 fI)=Y0->aO.all (d0 fI)=Y0->bR tw H xs ah->cG ah us->bR tw H aO mv->cG mv ws->∀j (af:j<us.Q.O) (ak:j<ws.Q.O),EqAt A.in1 s us.Q[j] ws.Q[j] (dV (xs.getD j .br)<|aO.getD j .br):=λ{xs aO us ws ah mv fI} iQ e5 py cF sH dX p7 j af ak=>by
  subst iQ;have ku:j<us.H:=by simpa using af
  have tg:j<ws.H:=by simpa using ak
  obtain⟨v1,a1,cq⟩:=JC cF sH ku;obtain⟨v2,a2,cE⟩:=JC dX p7 tg;have g:∀{xs:List T},xs.all (d0 fI)=Y0->j<xs.H->d0 fI (xs.getD j .br)=Y0:=λe5 aB=>by rw[nq,hj aB];exact iM.mp e5 _<|oA _
  have g1:=g e5 (by rw[cF.H,sH.H];exact ku);have g2:=g py (by rw[dX.H,p7.H];exact tg);have:=(a4 fI (oE _) A.in1 _ _ _ _ (by rw[in1_units];lia) g1 g2 (xy I g1 (ew.Mu aQ a1) cq)<|xy I g2 (ew.Mu aQ a2) cE).2.2 ⟨v1,a1,cq⟩ ⟨v2,a2,cE⟩;simpa using this
 cases d with
 |br =>
  cases d' with
  |br=>exact eq3 (RcAt.none_none) (RcNeAt.none_none)<|EqAt.same _
  |aC b=>exact eq3 (RcAt.none_bool b) (RcNeAt.none_bool b)<|EqAt.none_bool b
  |int b tb=>exact eq3 (RcAt.none_int b tb) (RcNeAt.none_int b tb)<|EqAt.none_int b tb
  |str b tb=>exact eq3 (RcAt.none_str b tb) (RcNeAt.none_str b tb)<|EqAt.none_str b tb
  |aD b9=>exact eq3 (RcAt.none_tuple b9 dt) (RcNeAt.none_tuple b9 dt)<|EqAt.none_tuple b9 dt
  |ao b9=>exact eq3 (RcAt.none_list b9 dt) (RcNeAt.none_list b9 dt)<|EqAt.none_list b9 dt
 |aC a =>
  cases d' with
  |br=>exact eq3 (RcAt.bool_none a) (RcNeAt.bool_none a)<|EqAt.bool_none a
  |aC b=>exact eq3 (RcAt.bool_bool a b) (RcNeAt.bool_bool a b)<|EqAt.bool_bool a b
  |int b tb=>exact eq3 (RcAt.bool_int a b tb) (RcNeAt.bool_int a b tb)<|EqAt.bool_int a b tb
  |str b tb=>exact eq3 (RcAt.bool_str a b tb) (RcNeAt.bool_str a b tb)<|EqAt.bool_str a b tb
  |aD b9=>exact eq3 (RcAt.bool_tuple a b9 dt) (RcNeAt.bool_tuple a b9 dt)<|EqAt.bool_tuple a b9 dt
  |ao b9=>exact eq3 (RcAt.bool_list a b9 dt) (RcNeAt.bool_list a b9 dt)<|EqAt.bool_list a b9 dt
 |int a ta =>
  cases d' with
  |br=>exact eq3 (RcAt.int_none a ta) (RcNeAt.int_none a ta)<|EqAt.int_none a ta
  |aC b=>exact eq3 (RcAt.int_bool a ta b) (RcNeAt.int_bool a ta b)<|EqAt.int_bool a ta b
  |int b tb=>exact eq3 (RcAt.int_int a ta b tb) (RcNeAt.int_int a ta b tb)<|EqAt.int_int a ta b tb
  |str b tb=>exact eq3 (RcAt.int_str a ta b tb) (RcNeAt.int_str a ta b tb)<|EqAt.int_str a ta b tb
  |aD b9=>exact eq3 (RcAt.int_tuple a ta b9 dt) (RcNeAt.int_tuple a ta b9 dt)<|EqAt.int_tuple a ta b9 dt
  |ao b9=>exact eq3 (RcAt.int_list a ta b9 dt) (RcNeAt.int_list a ta b9 dt)<|EqAt.int_list a ta b9 dt
 |str a ta =>
  cases d' with
  |br=>exact eq3 (RcAt.str_none a ta) (RcNeAt.str_none a ta)<|EqAt.str_none a ta
  |aC b=>exact eq3 (RcAt.str_bool a ta b) (RcNeAt.str_bool a ta b)<|EqAt.str_bool a ta b
  |int b tb=>exact eq3 (RcAt.str_int a ta b tb) (RcNeAt.str_int a ta b tb)<|EqAt.str_int a ta b tb
  |str b tb=>exact eq3 (RcAt.str_str a ta b tb) (RcNeAt.str_str a ta b tb)<|EqAt.str_str a ta b tb
  |aD b9=>exact eq3 (RcAt.str_tuple a ta b9 dt) (RcNeAt.str_tuple a ta b9 dt)<|EqAt.str_tuple a ta b9 dt
  |ao b9=>exact eq3 (RcAt.str_list a ta b9 dt) (RcNeAt.str_list a ta b9 dt)<|EqAt.str_list a ta b9 dt
 |@aD xs a us ah cb cF sH =>
  cases k with
  |zero=>exists p
  |succ k =>
  cases d' with
  |br=>exact eq3 (RcAt.tuple_none cb dt) (RcNeAt.tuple_none cb dt)<|EqAt.tuple_none cb dt
  |aC b=>exact eq3 (RcAt.tuple_bool b cb dt) (RcNeAt.tuple_bool b cb dt)<|EqAt.tuple_bool b cb dt
  |int b tb=>exact eq3 (RcAt.tuple_int b tb cb dt) (RcNeAt.tuple_int b tb cb dt)<|EqAt.tuple_int b tb cb dt
  |str b tb=>exact eq3 (RcAt.tuple_str b tb cb dt) (RcNeAt.tuple_str b tb cb dt)<|EqAt.tuple_str b tb cb dt
  |@ao aO b ws mv b9 dX p7=>exact refs p fZ (t:=.aD xs) (t':=.ao aO) (RcAt.tuple_list cb b9 dt)<|RcNeAt.tuple_list cb b9 dt
  |@aD aO b ws mv b9 dX p7 =>
   have ex:xs.H=us.H:=cF.length.trans sH.H;have i9:aO.H=ws.H:=dX.length.trans p7.H;have it:=items rfl p fZ cF sH dX p7;have e:((List.range<|min us.Q.O ws.Q.O).all (λj=>dV (xs.getD j .br)<|aO.getD j .br)&&us.Q.O==ws.Q.O)=dV (.aD xs) (.aD aO):=by
    rw[eU,eU,<-ex,<-i9,dV];by_cases aB:xs.H=aO.H
    ·rw[JB xs aO aB,<-aB,Nat.min_self,beq_self_eq_true,Bool.and_true]
    ·rw[JA xs aO aB,beq_eq_false_iff_ne.mpr aB,wx]
   have af:=RcAt.tuples (A:=A) cb b9 dt it;have ak:=RcNeAt.tuples (A:=A) cb b9 dt it;rw[e]at af ak;exact refs p fZ af ak
 |@ao xs a us ah cb cF sH =>
  cases k with
  |zero=>exists p
  |succ k =>
  cases d' with
  |br=>exact eq3 (RcAt.list_none cb dt) (RcNeAt.list_none cb dt)<|EqAt.list_none cb dt
  |aC b=>exact eq3 (RcAt.list_bool b cb dt) (RcNeAt.list_bool b cb dt)<|EqAt.list_bool b cb dt
  |int b tb=>exact eq3 (RcAt.list_int b tb cb dt) (RcNeAt.list_int b tb cb dt)<|EqAt.list_int b tb cb dt
  |str b tb=>exact eq3 (RcAt.list_str b tb cb dt) (RcNeAt.list_str b tb cb dt)<|EqAt.list_str b tb cb dt
  |@aD aO b ws mv b9 dX p7=>exact refs p fZ (t:=.ao xs) (t':=.aD aO) (RcAt.list_tuple cb b9 dt)<|RcNeAt.list_tuple cb b9 dt
  |@ao aO b ws mv b9 dX p7 =>
   have ex:xs.H=us.H:=cF.length.trans sH.H;have i9:aO.H=ws.H:=dX.length.trans p7.H;by_cases aB:xs.H=aO.H
   ·have it:=items rfl p fZ cF sH dX p7;have aP:us.Q.O=ws.Q.O:=by rw[eU,eU,<-ex,<-i9,aB]
    have e:(List.range us.Q.O).all (λj=>dV (xs.getD j .br)<|aO.getD j .br)=dV (.ao xs) (.ao aO):=by rw[eU,<-ex,dV,JB xs aO aB]
    have af:=RcAt.lists (A:=A) cb b9 aP dt it;have ak:=RcNeAt.lists (A:=A) cb b9 aP dt it;rw[e]at af ak;exact refs p fZ af ak
   ·have e:dV (.ao xs) (.ao aO)=Y1:=by rw[dV,JA xs aO aB]
    have aP:(us.Q.O != ws.Q.O)=Y0:=bne_iff_ne.mpr (by rw[eU,eU,<-ex,<-i9];exact aB);exact refs p fZ (e▸RcAt.lists_lengths cb b9 aP dt) (Ug (RcNeAt.lists_lengths cb b9 aP dt)<|by rw[e];rfl)
def ag2{ae:List Z1}{s:aR}{O:St}{H:aJ}{n:Nat}(I:aS X ae O H s)(aQ:df tw n H)(k:Nat)(A:dI)(t t':T)(u fu:mt)(b7:A.units+(k+1)<iu)(p:d0 (k+1) t=Y0)(fZ:d0 (k+1) t'=Y0)(d:oV s tw H t u)(d':oV s tw H t' fu):RcNeAt A s u fu (!dV t t') :=
 (Us I aQ (k+1) A t t' u fu b7 p fZ d d').2.1
def Pz{r:Bool}(h:o6 a b=J r):(∃ay,a=.bk ay/\b=.bk []/\r=ay.isEmpty)\/(d0 6 a=Y0/\d0 6 b=Y0/\r=dV a b):=by
 have gen:(if d0 6 a&&d0 6 b then J (dV a b) else C)=J r->(d0 6 a=Y0/\d0 6 b=Y0/\r=dV a b):=λh=>by
  split at h
  ·rename_i q;rw[f5]at q
   exists h;exact⟨q.1,q.2,rfl⟩
  ·exists h
 cases a with
 |bk ay =>
  cases b with
  |bk ws =>
   have h:(if ws.isEmpty then J ay.isEmpty else C)=J r:=h;cases ws with
   |nil=>exists h;exact .inl ⟨ay,rfl,rfl,rfl⟩
   |cons p q=>exists h
  |_=>exact .inr<|gen h
 |_=>exact .inr<|gen h
end
end bj.bO
namespace bj.bO
open PySem PySem.Spec PyProof.Rows
section
variable {X:bI}{tw:Addr}
def ag3(b7:X.A.units+6<iu)(hd:∀(ae:List Z1) (s:aR) (O:St) (H:aJ) (a b:Addr) (ws:List ZW) (Q:mt->aR->Prop),aS X ae O H s->iN H a (.aw ws)->iN H b (.aw [])->(∀s',aS X ae O H s'->Q (.bool ws.isEmpty) s')->bl Z2 X.A (hq .Eq ZN<|.ref b) Q X.cv s) :
  fS X tw (two<|hq .Eq) gn:=by
 intro B ae s O H ah us aA n t m Q I bq aV aQ e k;have⟨a,b,r,rx,hH,dR,em⟩:∃a b r,aA=[a,b]/\o6 a b=J r/\t=.aC r/\m=.ag:=by
  match aA,e with
  |[a,b],e=>obtain⟨r,af,ak⟩:=dw e;exists ak;exact⟨a,b,r,rfl,af,rfl,rfl⟩
 subst rx dR em;obtain⟨v,w,rfl,bA,cp⟩:=m4 aV;obtain⟨fX,f9,rfl,aX,bb⟩:=bq.two;have fin:∀s',aS X ae O H s'->f6 X ae O Q (.bool r) s':=λs' eH=>⟨.aC r,H,eH,rfl,k _ H ZT aQ<|by show aI tw H (.aC r) _;rw[aI]⟩
 rcases Pz hH with⟨ay,rfl,rfl,rfl⟩|⟨p,fZ,rfl⟩
 ·obtain⟨a1,eV,rfl,_,az,bH⟩:=bA;obtain⟨a2,fM,rfl,_,au,cf⟩:=cp
  exists aX;exists bb
  rw[cJ]at cf;subst cf;have:eV.isEmpty=ay.isEmpty:=by have:=cJ.length bH;exists ay<;>exists eV<;>first|rfl|(simp at this)
  exact hd ae s O H a1 a2 eV _ I az au λs' eH=>by rw[this];exact fin s' eH
 ·exact(Us I aQ 6 X.A a b fX f9 b7 p fZ (xy I p bA aX)<|xy I fZ cp bb).1 X.R X.w X.cv _ (fin s I)
def Ut(b7:X.A.units+6<iu)(hd:∀(ae:List Z1) (s:aR) (O:St) (H:aJ) (a b:Addr) (ws:List ZW) (Q:mt->aR->Prop),aS X ae O H s->iN H a (.aw ws)->iN H b (.aw [])->(∀s',aS X ae O H s'->Q (.bool<|!ws.isEmpty) s')->bl Z2 X.A (hq .NotEq ZN<|.ref b) Q X.cv s) :
  fS X tw (two<|hq .NotEq) gp:=by
 intro B ae s O H ah us aA n t m Q I bq aV aQ e k;have⟨a,b,r,rx,hH,dR,em⟩:∃a b r,aA=[a,b]/\o6 a b=J r/\t=.aC (!r)/\m=.ag:=by
  match aA,e with
  |[a,b],e=>obtain⟨r,af,ak⟩:=dw e;exists ak;exact⟨a,b,r,rfl,af,rfl,rfl⟩
 subst rx dR em;obtain⟨v,w,rfl,bA,cp⟩:=m4 aV;obtain⟨fX,f9,rfl,aX,bb⟩:=bq.two;have fin:∀s',aS X ae O H s'->f6 X ae O Q (.bool<|!r) s':=λs' eH=>⟨.aC<|!r,H,eH,rfl,k _ H ZT aQ<|by show aI tw H (.aC<|!r) _;rw[aI]⟩
 rcases Pz hH with⟨ay,rfl,rfl,rfl⟩|⟨p,fZ,rfl⟩
 ·obtain⟨a1,eV,rfl,_,az,bH⟩:=bA;obtain⟨a2,fM,rfl,_,au,cf⟩:=cp
  exists aX;exists bb
  rw[cJ]at cf;subst cf;have:eV.isEmpty=ay.isEmpty:=by have:=cJ.length bH;exists ay<;>exists eV<;>first|rfl|(simp at this)
  exact hd ae s O H a1 a2 eV _ I az au λs' eH=>by rw[this];exact fin s' eH
 ·exact(ag2 I aQ 5 X.A a b fX f9 b7 p fZ (xy I p bA aX)<|xy I fZ cp bb) X.R X.w X.cv _ (fin s I)
def aiB:fS X tw (two<|ma .Add) ek:=by
 intro B ae s O H ah us aA n t m Q I bq aV aQ e k
 induction aA using List.casesOn with
 |nil=>exists e
 |cons dB fx =>
  induction dB using T.casesOn with
  |int a =>
   induction fx using List.casesOn with
   |nil=>exists e
   |cons iO Ac =>
    induction iO using T.casesOn with
    |int b =>
     induction Ac using List.casesOn with
     |nil =>
      exists e
      obtain⟨v,w,rfl,bA,cp⟩:=m4 aV;obtain rfl:=iY bA;obtain rfl:=iY cp;obtain⟨fX,f9,rfl,aX,bb⟩:=bq.two;exact ah0 ae s O H _ _ fX f9 Q I aX bb ⟨a,b,rfl,rfl,k _ H ZT aQ<|by show aI tw H (.int _) _;rw[aI]⟩
     |cons _ _=>exists e
    |_=>exists e
  |aD xs =>
   induction fx using List.casesOn with
   |nil=>exists e
   |cons k6 JE =>
    induction k6 using T.casesOn with
    |aD aO =>
     induction JE using List.casesOn with
     |nil =>
      have e:(if xs.H+aO.H<=bh then J (T.aD<|xs++aO,bo.ag) else C)=J (t,m):=e;split at e
      ·rename_i aq
       exists e
       obtain⟨v,w,rfl,bA,cp⟩:=m4 aV;obtain⟨a,fJ,rfl,cu,cM⟩:=kx bA;obtain⟨b,sE,rfl,hE,eX⟩:=kx cp;obtain⟨fX,f9,rfl,aX,bb⟩:=bq.two
       exists aX;exists bb
       obtain⟨a5,pd,dC,_⟩:=I.tuple<|e6.of (K:=X.K) cu;obtain⟨hO,lR,c7,_⟩:=I.tuple<|e6.of (K:=X.K) hE;obtain⟨⟨cls,dd,data,cX⟩,aZ,aT,aM,hd⟩:=id dC;obtain⟨⟨agg,va,data2,Ad⟩,pe,Ae,bC,hd2⟩:=id c7;simp only at aT hd Ae hd2;subst aT hd Ae hd2;have fh:=cM.H;have fF:=eX.H;have fc:=pd.H;have fP:=lR.H;by_cases h0:a5=[]
       ·refine Cg ⟨_,aZ,rfl⟩ ⟨_,pe,rfl⟩ Hn rc PySem.F.slot_tuple_add PySem.F.entry_tuple_add (PySem.F.args_tuple_add_2 _ _) (tuple_addW0 a b a5.Q hO.Q aM bC dd va cX Ad<|by simp[h0]) ⟨aZ,pe,?_⟩;have:xs=[]:=io (by rw[fh,fc,h0];rfl);subst this;exact⟨.ref b,H,I,rfl,k _ H ZT aQ<|qu hE eX⟩
       ·by_cases af:hO=[]
        ·refine Cg ⟨_,aZ,rfl⟩ ⟨_,pe,rfl⟩ Hn rc PySem.F.slot_tuple_add PySem.F.entry_tuple_add (PySem.F.args_tuple_add_2 _ _) (tuple_addW1 a b a5.Q hO.Q aM bC dd va cX Ad (by simpa using h0)<|by simp[af]) ⟨aZ,pe,?_⟩;have:aO=[]:=io (by rw[fF,fP,af];rfl);subst this;rw[r7]at k;exact⟨.ref a,H,I,rfl,k _ H ZT aQ<|qu cu cM⟩
        ·refine Cg ⟨_,aZ,rfl⟩ ⟨_,pe,rfl⟩ Hn rc PySem.F.slot_tuple_add PySem.F.entry_tuple_add (PySem.F.args_tuple_add_2 _ _) (tuple_addW2 a b a5.Q hO.Q aM bC dd va cX Ad (by simpa using h0) (by simpa using af)<|by rw[eU,eU,<-fc,<-fP,<-fh,<-fF];exact qr aq) ⟨aZ,pe,?_⟩;have uH:a5.Q++hO.Q=(a5++hO).Q:=by simp
         rw[uH];have aF:H s.L=C:=I.b1.fresh<|cg _;refine⟨.ref s.L,_,I.laid (t':=s.toks) (o:=.aD<|fJ++sE) (λb bJ q=>ed _ q) (cg _) ⟨by rw[gr,<-fh,<-fF];exact qr aq,_,pd.append lR,mj.new _ _⟩,rfl,k _ _ (.new aF) (aQ.new aF)<|qu fC<|(bR.mono (.new aF) _ _ cM).append (bR.mono (.new aF) _ _ eX)⟩
      ·exists e
     |cons _ _=>exists e
    |_=>exists e
  |ao xs =>
   induction fx using List.casesOn with
   |nil=>exists e
   |cons nN abk =>
    induction nN using T.casesOn with
    |ao aO =>
     induction abk using List.casesOn with
     |nil =>
      have e:(if xs.H+aO.H<=bh then J (T.ao<|xs++aO,bo.aE) else C)=J (t,m):=e;split at e
      ·rename_i aq
       exists e
       obtain⟨v,w,rfl,bA,cp⟩:=m4 aV;obtain⟨a,fJ,rfl,cu,cM⟩:=bA;obtain⟨b,sE,rfl,hE,eX⟩:=cp;obtain⟨fX,f9,rfl,aX,bb⟩:=bq.two
       exists aX;exists bb
       obtain⟨a5,pd,⟨⟨cls,dd,data,cX⟩,aM,aZ,aT,_,hd⟩,_⟩:=I.list cu.gi;obtain⟨hO,lR,⟨⟨agg,va,data2,Ad⟩,bC,pe,Ae,_,hd2⟩,_⟩:=I.list hE.gi;simp only at aT hd Ae hd2;subst aT hd Ae hd2;have fh:=cM.H;have fF:=eX.H;have fc:=pd.H;have fP:=lR.H;refine Cg ⟨_,aZ,rfl⟩ ⟨_,pe,rfl⟩ noFill_list_add seq_list_add PySem.F.slot_list_add PySem.F.entry_list_add (PySem.F.args_list_add_2 _ _) (list_addW a b a5.Q hO.Q aM bC dd va cX Ad<|by rw[eU,eU,<-fc,<-fP,<-fh,<-fF];exact qr aq) ⟨aZ,pe,?_⟩;have uH:a5.Q++hO.Q=(a5++hO).Q:=by simp
       rw[uH];have aF:H s.L=C:=I.b1.fresh<|cg _;exact⟨.ref _,_,I.LW (t':=s.toks) (pd.append lR) (by rw[gr,<-fh,<-fF];exact qr aq),rfl,k _ _ (.new aF) (aQ.new aF) ⟨_,rfl,aF,_,fC,(bR.mono (.new aF) _ _ cM).append (bR.mono (.new aF) _ _ eX)⟩⟩
      ·exists e
     |cons _ _=>exists e
    |_=>exists e
  |_=>exists e
def aiC:fS X tw (λus=>call (.builtin "len") us) fe:=by
 intro B ae s O H ah us aA n t m Q I bq aV aQ e k;have num:∀(i:Int),Val X.K B tw H H (.int i) .ag<|.int i:=λi=>by show aI tw H (.int i) _;rw[aI]
 induction aA using List.casesOn with
 |nil=>exists e
 |cons dB fx =>
  induction dB using T.casesOn with
  |ao xs =>
   induction fx using List.casesOn with
   |nil =>
    exists e
    obtain⟨v,rfl,a,fJ,rfl,cu,cM⟩:=iZ aV;exact IP ae s O H _ us Q I bq ⟨_,fJ.H,rfl,.inl ⟨fJ,cu.gi,rfl⟩,by rw[<-cM.H];exact k _ H ZT aQ<|num _⟩
   |cons _ _=>exists e
  |aD xs =>
   induction fx using List.casesOn with
   |nil =>
    exists e
    obtain⟨v,rfl,r⟩:=iZ aV;obtain⟨a,fJ,rfl,cu,cM⟩:=kx r;exact IP ae s O H _ us Q I bq ⟨_,fJ.H,rfl,.inr ⟨fJ,e6.of cu,rfl⟩,by rw[<-cM.H];exact k _ H ZT aQ<|num _⟩
   |cons _ _=>exists e
  |bk ay =>
   induction fx using List.casesOn with
   |nil =>
    exists e
    obtain⟨v,rfl,a,fJ,rfl,_,cu,cM⟩:=iZ aV;obtain⟨u,rfl,eW⟩:=bq.one
    exists eW
    exact agT I cu λt' s' eH=>⟨.int fJ.H,H,eH,⟨t',rfl⟩,by rw[<-cJ.length cM];exact k _ H ZT aQ<|num _⟩
   |cons _ _=>exists e
  |dq  =>
   induction fx using List.casesOn with
   |nil =>
    exists e
    obtain⟨v,rfl,r⟩:=iZ aV;have r:aI tw H .dq v:=r;rw[aI]at r;subst r;exact IP ae s O H _ us Q I bq ⟨_,n,rfl,.inl ⟨_,gw.of aQ,by rw[ow]⟩,k _ H ZT aQ<|num _⟩
   |cons _ _=>exists e
  |_=>exists e
def alV:fS X tw (λus=>call (.type "tuple") us) qq:=by
 intro B ae s O H ah us aA n t m Q I bq aV aQ e k
 induction aA using List.casesOn with
 |nil=>exists e
 |cons dB fx =>
  induction dB using T.casesOn with
  |ao xs =>
   induction fx using List.casesOn with
   |nil =>
    exists e
    obtain⟨v,rfl,a,fJ,rfl,cu,cM⟩:=iZ aV;exact OS ae s O H _ us Q I bq ⟨a,fJ,rfl,.inl ⟨cu.gi,λl aB=>k _ _ (.new aB) (aQ.new aB)<|qu fC<|bR.mono (.new aB) _ _ cM⟩⟩
   |cons _ _=>exists e
  |aD xs =>
   induction fx using List.casesOn with
   |nil =>
    exists e
    obtain⟨v,rfl,r⟩:=iZ aV;obtain⟨a,fJ,rfl,cu,cM⟩:=kx r;exact OS ae s O H _ us Q I bq ⟨a,fJ,rfl,.inr ⟨e6.of cu,k _ H ZT aQ<|qu cu cM⟩⟩
   |cons _ _=>exists e
  |_=>exists e
def vb:T->Option (List T)
 |.ao xs=>J xs
 |.aD xs=>J xs
 |.bk ay=>J (ay.map λc9=>iI c9.1)
 |_=>C
def Af{A':dI}{E:mt->aR->Prop}{ae:List Z1}{s:aR}{O:St}{H:aJ}{t:T}{v:V}{u:mt}{xs:List T}(bp:A'.handled=C)(I:aS X ae O H s)(r:ew X.K tw H t v)(bq:cW v u)(h:vb t=J xs) :
  bl Z2 A' (mb u) (λit gU=>∃oW fp wr P St,it=.ref oW/\Walks X.R X.w A' oW fp wr xs.H P St/\St 0 gU.D/\(∀b∈fp,b<gU.L)/\(∀i u,P i u->∃v x,cW v u/\xs[i]?=J x/\aI tw H x v) /\
   ∀h' bx,(∀b o,b∉wr->gU.heap.get? b=J o->h'.get? b=J o)->aS X ae O H { gU with heap:=h',toks:=bx}) E s:=by
 have fin:∀{o:Obj} {h':Heap} {bx:Nat},(∀b dh,b∉[s.L]->(s.heap.push o).get? b=J dh->h'.get? b=J dh)->aS X ae O H { s with heap:=h',toks:=bx}:=λ{o h' bx} b8 =>
  I.kept λb dh e=>b8 b dh (by simp;exact bv<|d6 e)<|ed _ e
 have item:∀{us:List mt} {ah:List V} {aO:List T},cG ah us->bR tw H aO ah->∀(i:Nat) (w:mt),us.Q[i]?=J w->∃v x,cW v w/\aO[i]?=J x/\aI tw H x v:=λ{us ah aO} bq rs i w e=>by
  have e:us[i]?=J w:=by simpa using e
  have hi:i<us.H:=(kM.mp e).1;obtain⟨v,af,ak⟩:=JC rs bq hi;have kv:i<aO.H:=by rw[rs.H,bq.H];exact hi
  refine⟨v,aO[i],?_,by simp[kv],?_⟩
  ·have:=(kM.mp e).2;rw[<-this];exact ak
  ·rw[nq,hj kv]at af;exact af
 cases t with
 |ao aO =>
  cases h;obtain⟨a,ah,rfl,e,q⟩:=r;cases bq;obtain⟨a5,bq,p,hz⟩:=I.list e.gi;have ba:a≠s.L:=bv (let ⟨o,aZ,_⟩:=p.isList;d6 aZ);refine Ca p.isList ⟨s.L,[s.L,a],[s.L],λi v=>a5.Q[i]?=J v,λi h=>h.IsListIter s.L a i/\h.IsList a a5.Q,rfl,?_,⟨⟨_,gC _ rfl,rfl,rfl⟩,p.isList.push _⟩,λb aq=>?_,item bq q,λh' bx b8=>fin b8⟩
  ·have:=Walks.list (prog:=X.R) (w:=X.w) bp s.L a ba a5.Q;rw[show a5.Q.O=xs.length by rw[eU,<-bq.H,<-q.H]]at this;exact this
  ·rw[ny];simp at aq;rcases aq with rfl|rfl
   ·exact oE _
   ·exact oD (let ⟨o,aZ,_⟩:=p.isList;d6 aZ)
 |aD aO =>
  cases h;obtain⟨a,ah,rfl,e,q⟩:=kx r;cases bq;obtain⟨a5,bq,p,hz⟩:=I.tuple<|e6.of (K:=X.K) e;have p:s.heap.IsTuple a a5.Q:=p;have ba:a≠s.L:=bv (let ⟨o,aZ,_⟩:=p;d6 aZ);refine Hk p ⟨s.L,[s.L,a],[s.L],λi v=>a5.Q[i]?=J v,λi h=>h.IsTupleIter s.L a i/\h.IsTuple a a5.Q,rfl,?_,⟨⟨_,gC _ rfl,rfl,rfl⟩,let ⟨o,aZ,r⟩:=p;⟨o,ed _ aZ,r⟩⟩,λb aq=>?_,item bq q,λh' bx b8=>fin b8⟩
  ·have:=Walks.tuple (prog:=X.R) (w:=X.w) bp s.L a ba a5.Q;rw[show a5.Q.O=xs.length by rw[eU,<-bq.H,<-q.H]]at this;exact this
  ·rw[ny];simp at aq;rcases aq with rfl|rfl
   ·exact oE _
   ·exact oD (let ⟨o,aZ,_⟩:=p;d6 aZ)
 |bk ay =>
  exists h
  obtain⟨a,ws,rfl,na,e,q⟩:=r
  exists bq
  obtain⟨z,hd,us,rel,dd⟩:=j6 I.b1 e;obtain⟨ep,dQ⟩:=dd.dictAt;have aB:ws.H=us.H:=Paired.length rel;have ba:a≠s.L:=bv dQ.lt_size;refine wpAny_pyIter_dict hd dQ ⟨s.L,[s.L,a],[s.L],λi v=>∃k x,us[i]?=J (k,x)/\(hI X.R X.w).is k v=Y0,λi h=>h.IsKeyIter s.L a i us.H ep/\h.DictAt (hI X.R X.w) a us ep,rfl,?_,⟨⟨_,gC _ rfl,rfl,rfl⟩,dQ.push _⟩,λb aq=>?_,λi w aF=>?_,λh' bx b8=>fin b8⟩
  ·have:=Walks.dictKeys (prog:=X.R) (w:=X.w) (knd:=hI X.R X.w) bp s.L a ba us ep;have aW:us.H=(ay.map λc9=>iI c9.1).H:=by rw[cP,cJ.length q,aB]
   rw[<-aW];exact this
  ·rw[ny];simp at aq;rcases aq with rfl|rfl
   ·exact oE _
   ·exact oD dQ.lt_size
  ·obtain⟨k,x,af,ak⟩:=aF;refine⟨eB k,iI k,Jn ak,?_,Jo k⟩;rw[kg];have hi:i<us.H:=(kM.mp af).1;have kv:i<ay.H:=by rw[cJ.length q,aB];exact hi
   obtain⟨v,g1,_⟩:=DV (k:=ay[i].1) (t:=ay[i].2) q (show ay[i]?=J (ay[i].1,ay[i].2) by simp[kv]);obtain⟨fu,g2⟩:=Jm rel g1;rw[af]at g2;have:k=ay[i].1:=by injection g2 with g2;injection g2
   rw[hj kv];show J (iI ay[i].1)=J (iI k);rw[this]
 |_=>exists h
theorem qv:∀{xs:List T} {ns:List Int},e3 xs=J ns->xs=ns.map T.int
 |[],_,h=>by exists h;rfl
 |.int i::r,ns,h=>by obtain⟨ms,af,ak⟩:=dw (show(e3 r).map (i::·)=J ns from h);subst ak;rw[cU,qv af]
 |.br::_,_,h=>by exists h
 |.aC _::_,_,h=>by exists h
 |.str _::_,_,h=>by exists h
 |.aD _::_,_,h=>by exists h
 |.ao _::_,_,h=>by exists h
 |.bk _::_,_,h=>by exists h
 |.dq::_,_,h=>by exists h
theorem PA:∀{ay:List (Key×T)} {ns:List Int},tS ay=J ns->(ay.map λc9=>iI c9.1)=ns.map T.int
 |[],_,h=>by exists h;rfl
 |(.inl k,x)::r,ns,h=>by obtain⟨ms,af,ak⟩:=dw (show(tS r).map (k::·)=J ns from h);subst ak;rw[cU,cU,PA af];rfl
 |(.inr k,x)::r,ns,h=>by exists h
def D4{ns:List Int}{i:Nat}(h:∃v x,cW v u/\(ns.map T.int)[i]?=J x/\aI tw H x v):∃t,u=.int (ns.getD i 0) t:=by
 obtain⟨v,x,af,ak,bc⟩:=h;rw[kg]at ak;cases e:ns[i]? with
 |none=>rw[e]at ak;exists ak
 |some z =>
  rw[e]at ak;have ak:T.int z=x:=Option.some.inj ak;subst ak;rw[aI]at bc;subst bc;obtain⟨t,rfl⟩:=af;refine⟨t,?_⟩;rw[nq,e];rfl
def abl(lt:Int->Int->Bool)(ns:List Int):∀(m:Nat),m<ns.H->ns.getD (argBest (λi j=>lt (ns.getD i 0)<|ns.getD j 0) m) 0=((ns.take<|m+1).tail).foldl (λa b=>if lt b a then b else a) (ns.getD 0 0):=by
 intro m
 induction m with
 |zero =>
  intro h;cases ns with
  |nil=>simp at h
  |cons x xs=>rfl
 |succ m a4 =>
  intro h;have a4:=a4<|eA h;have e:(ns.take<|m+1+1).tail=(ns.take<|m+1).tail++[ns.getD (m+1) 0]:=by
   cases ns with
   |nil=>simp at h
   |cons x xs =>
    rw[MG,MG,List.tail_cons,List.tail_cons];have h':m<xs.H:=by simpa using h
    rw[GU,hj h',nq,GF,hj h'];rfl
  rw[e,MN,<-a4];show ns.getD (if lt (ns.getD (m+1) 0) (ns.getD (argBest (λi j=>lt (ns.getD i 0)<|ns.getD j 0) m) 0)=Y0 then m+1 else argBest (λi j=>lt (ns.getD i 0)<|ns.getD j 0) m) 0=_;rw[mI,List.foldl_nil];split<;>rfl
def abm{i:Int}(h:least ns=J i):0<ns.H/\ns.getD (argBest (λi j=>decide (ns.getD i 0<ns.getD j 0))<|ns.H-1) 0=i:=by
 cases ns with
 |nil=>exists h
 |cons x xs =>
  refine⟨Nat.succ_pos _,?_⟩;have:=abl (λa b=>decide (a<b)) (x::xs) xs.H<|oE _;show(x::xs).getD (argBest _<|xs.H+1-1) 0=i;rw[MX];refine Eq.trans this ?_;rw[show(x::xs).take (xs.H+1)=x::xs from wd<|cg _];have h:xs.foldl (λa b=>if b<a then b else a) x=i:=Option.some.inj h;rw[<-h];show xs.foldl (λa b=>if decide (b<a)=Y0 then b else a) x=_;simp only[decide_eq_true_eq]
def PB{t:T}{xs:List T}{ns:List Int}{i:Int}{ae:List Z1}{s:aR}{O:St}{H:aJ}{v:V}{u:mt}{Q:fg}(bp:X.A.handled=C)(I:aS X ae O H s)(r:ew X.K tw H t v)(bq:cW v u)(h:vb t=J xs)(av:xs=ns.map T.int)(aB:least ns=J i)(q:Q (.int i) H) :
  bl Z2 X.A (call (.builtin "min") [u]) Zl X.cv s:=by
 subst av;obtain⟨h0,aq⟩:=abm aB;refine call_min_walk (b2 (Af (A':=X.A.in1) bp I r bq h) λit gU ⟨oW,fp,wr,P,St,e,W,st,ry,e4,fin⟩=>?_);refine⟨oW,fp,wr,_,P,St,_,e,W,st,ry,by simpa using h0,CmpOf.ints_lt (λi=>ns.getD i 0) λi v bS=>D4<|e4 i v bS,λhT h' bx bS b8=>?_⟩;obtain⟨D5,rfl⟩:=D4<|e4 _ _ bS;rw[cP];exact⟨.int i,H,fin h' bx b8,⟨D5,by rw[aq]⟩,q⟩
def aiD(aT:X.calm=Y0):fS X tw (λus=>call (.builtin "min") us) vX:=by
 intro B ae s O H ah us aA n t m Q I bq aV aQ e k;have num:∀(i:Int),Val X.K B tw H H (.int i) .ag<|.int i:=λi=>by show aI tw H (.int i) _;rw[aI]
 have bp:=I.ok.hd aT
 induction aA using List.casesOn with
 |nil=>exists e
 |cons dB fx =>
  induction dB using T.casesOn with
  |ao xs =>
   induction fx using List.casesOn with
   |nil =>
    obtain⟨ns,az,au⟩:=cn (show(e3 xs).bind _=_ from e);obtain⟨i,a6,bX⟩:=dw au
    exists bX
    obtain⟨v,rfl,r⟩:=iZ aV;obtain⟨u,rfl,eW⟩:=bq.one;exact PB bp I r eW rfl (qv az) a6<|k _ H ZT aQ<|num i
   |cons _ _=>exists e
  |bk ay =>
   induction fx using List.casesOn with
   |nil =>
    obtain⟨ns,az,au⟩:=cn (show(tS ay).bind _=_ from e);obtain⟨i,a6,bX⟩:=dw au
    exists bX
    obtain⟨v,rfl,r⟩:=iZ aV;obtain⟨u,rfl,eW⟩:=bq.one;exact PB bp I r eW rfl (PA az) a6<|k _ H ZT aQ<|num i
   |cons _ _=>exists e
  |int a =>
   induction fx using List.casesOn with
   |nil=>exists e
   |cons iO Ac =>
    induction iO using T.casesOn with
    |int b =>
     induction Ac using List.casesOn with
     |nil =>
      exists e
      obtain⟨v,w,rfl,bA,cp⟩:=m4 aV;obtain rfl:=iY bA;obtain rfl:=iY cp;exact aao aT ae s O H _ us Q I bq ⟨a,b,rfl,k _ H ZT aQ<|num _⟩
     |cons _ _=>exists e
    |_=>exists e
  |_=>exists e
def PC(ns:List Int):∀(m:Nat),m<=ns.H->preSum (λi=>ns.getD i 0) m=cI (ns.take m):=by
 have app:∀(a b:List Int),cI (a++b)=cI a+cI b:=λa b=>by
  induction a with
  |nil=>simp[cI]
  |cons x xs a4=>rw[GR,cI,a4,cI];lia
 intro m
 induction m with
 |zero=>intro _;rfl
 |succ m a4 =>
  intro h;have h':m<ns.H:=h;rw[preSum,a4<|eA h',GU,hj h',app,nq,hj h'];simp[cI]
theorem JF:∀{xs:List T} {bs:List Bool},hQ xs=J bs->xs=bs.map T.aC
 |[],_,h=>by exists h;rfl
 |.aC i::r,ns,h=>by obtain⟨ms,af,ak⟩:=dw (show(hQ r).map (i::·)=J ns from h);subst ak;rw[cU,JF af]
 |.br::_,_,h=>by exists h
 |.int _::_,_,h=>by exists h
 |.str _::_,_,h=>by exists h
 |.aD _::_,_,h=>by exists h
 |.ao _::_,_,h=>by exists h
 |.bk _::_,_,h=>by exists h
 |.dq::_,_,h=>by exists h
def PD{bs:List Bool}{i:Nat}(h:∃x y,cW x v/\(bs.map T.aC)[i]?=J y/\aI tw H y x):v=.bool (bs.getD i Y1):=by obtain⟨x,y,af,ak,bc⟩:=h;rw[kg]at ak;obtain⟨z,e,rfl⟩:=dw ak;rw[aI]at bc;subst bc;rw[nq,e];exact af
theorem PE:∀bs:List Bool,((List.range bs.H).all λi=>bs.getD i Y1)=bs.all id
 |[]=>rfl
 |b::bs=>by rw[d9,GI,jV,pR,jV,<-PE bs];rfl
def aiE(aT:X.calm=Y0):fS X tw (λus=>call (.builtin "all") us) jk:=by
 intro B ae s O H ah us aA n t m Q I bq aV aQ e k;have bp:=I.ok.hd aT
 induction aA using List.casesOn with
 |nil=>exists e
 |cons dB fx =>
  induction dB using T.casesOn with
  |ao xs =>
   induction fx using List.casesOn with
   |nil =>
    obtain⟨bs,az,au⟩:=dw (show(hQ xs).map _=_ from e)
    exists au
    obtain rfl:=JF az;obtain⟨v,rfl,r⟩:=iZ aV;obtain⟨u,rfl,eW⟩:=bq.one;refine call_all_walk (b2 (Af (A':=X.A.in1) bp I r eW rfl) λit gU ⟨oW,fp,wr,P,St,e,W,st,ry,e4,fin⟩=>?_);refine⟨oW,fp,wr,_,P,St,λi=>bs.getD i Y1,e,W,st,λi v s' e9 oX bS eN=>?_,λh' bx b8=>?_⟩
    ·rw[PD<|e4 i v bS];exact qX eN
    ·rw[cP,PE bs];exact⟨.aC _,H,fin h' bx b8,rfl,k _ H ZT aQ<|by show aI tw H (.aC _) _;rw[aI]⟩
   |cons _ _=>exists e
  |_=>exists e
def UY{i:Int}(r:bR tw H xs ah)(h:gF xs i=J t):∃v,xd ah i=J v/\aI tw H t v:=by
 have aB:=r.H;unfold gF at h;unfold xd sY;by_cases h0:0<=i
 ·rw[Y2 h0]at h |-;by_cases af:i<xs.H
  ·rw[Y2 af]at h;rw[Y2<|by rw[<-aB];exact af];obtain⟨v,az,au⟩:=r.get h;exact⟨v,az,au⟩
  ·rw[Y3 af]at h;exists h
 ·rw[Y3 h0]at h |-;by_cases af:-(xs.H:Int)<=i
  ·rw[Y2 af]at h;rw[Y2<|by rw[<-aB];exact af];obtain⟨v,az,au⟩:=r.get h;exact⟨v,by rw[<-aB];exact az,au⟩
  ·rw[Y3 af]at h;exists h
def Ag(b7:X.A.units+1<iu)(value slice:Expr)(aP:∀v u,Ci slice Y1 v u=operate [v,u] (nE v u)):fS X tw (two λv u=>Ck value slice v u) dv:=by
 intro B ae s O H ah us aA n t m Q I bq aV aQ e k
 match aA,e with
 |[.ao xs,.int i],e =>
  obtain⟨t0,az,au⟩:=dw (show(gF xs i).map _=_ from e)
  exists au
  obtain⟨v,w,rfl,bA,cp⟩:=m4 aV;obtain rfl:=iY cp;obtain⟨a,fJ,rfl,cu,cM⟩:=bA;obtain⟨fX,f9,rfl,aX,bb⟩:=bq.two;obtain⟨x,af,ak⟩:=UY cM az;exact ajR value slice ae s O H _ _ fX f9 Q I aX bb ⟨a,fJ,i,x,rfl,rfl,cu.gi,af,k _ H ZT aQ ak⟩<|aP _ _
 |[.aD xs,.int i],e =>
  obtain⟨t0,az,au⟩:=dw (show(gF xs i).map _=_ from e)
  exists au
  obtain⟨v,w,rfl,bA,cp⟩:=m4 aV;obtain rfl:=iY cp;obtain⟨a,fJ,rfl,cu,cM⟩:=kx bA;obtain⟨fX,f9,rfl,aX,bb⟩:=bq.two;obtain⟨x,af,ak⟩:=UY cM az;exact ah8 value slice ae s O H _ _ fX f9 Q I aX bb ⟨a,fJ,i,x,rfl,rfl,e6.of cu,af,k _ H ZT aQ ak⟩<|aP _ _
 |[.bk ay,kt],e =>
  obtain⟨gY,az,au⟩:=cn (show(ke kt).bind _=_ from e);obtain⟨t0,a6,bX⟩:=dw au
  exists bX
  obtain⟨v,w,rfl,bA,cp⟩:=m4 aV;obtain rfl:=Jj az cp;obtain⟨a,ws,rfl,_,cu,cM⟩:=bA;obtain⟨fX,f9,rfl,aX,bb⟩:=bq.two
  exists aX
  rcases cJ.at gY cM with⟨z,_⟩|⟨t1,x,af,ak,bc⟩
  ·rw[a6]at z;exists z
  ·rw[a6]at af;exists af;have g:Bx H a (eB gY)<|some x:=⟨ws,gY,cu,rfl,ak.symm⟩
   exact tail_any (ops:=[.ref a,f9]) (aaE I g) PySem.F.slot_dict_getitem.lookup (aaC b7 I g bb λfT s' eH ks=>⟨x,H,eH,ks,k _ H ZT aQ bc⟩)<|aP _ _
def zd(X:bI)(tw:Addr)(e:Option Expr)(d:y4):Prop:=∀B S n i n',d S n=J (i,n')->y3 X e (λO H Q=>dr X.K B tw S n O H/\∀aj,dn tw H aj->df tw n' aj->Q i aj)
def ake:zd X tw C lM:=by
 intro B S n i n' hd ae s O H Q I ⟨R,k⟩
 exists hd
 exact ajO ae s O H Q I<|k H ZT R.aQ
def akf(h:bF X tw e d):zd X tw (J e)<|lN d:=by
 intro B S n i n' hd ae s O H Q I ⟨R,k⟩;obtain⟨⟨t,m,aM⟩,az,au⟩:=cn hd;cases t with
 |int j =>
  exists au
  refine ajP (h B S n _ m aM az) ae s O H Q I ⟨R,λv aj x y z=>?_⟩;obtain rfl:=iY<|z.root (R.mono x y) R.aQ;exact⟨j,rfl,k aj x y⟩
 |_=>exists au
def tj(n d:Nat)(o:Option Int):bound n d o=fE.dY n d o:=by exists o<;>rfl
def akg{o e f:Expr}{eQ ie NA:bM}{apos ec:Pos}(b7:X.A.units+1<iu)(aZ:bF X tw o eQ)(he:bF X tw e ie)(hf:bF X tw f NA)(m:M2 X o "get" apos e f ec):bF X tw (.Call (.Attribute o "get" apos) [e,f] [] ec)<|aH mn<|aa eQ<|aa ie<|aa NA ar:=by
 intro B S n t km n' hd ae s O H Q I ⟨R,k⟩;obtain⟨to,mo,no,te,ze,ne,HO,Wd,f1,g1,af,a6⟩:=aj0 hd;refine alK b7 (aZ B S n to mo no f1) (he B S no te ze ne g1) (hf B S ne HO Wd n' af) m ae s O H Q I ⟨R,λv H1 bH dB cN=>?_⟩;have bt:=R.mono bH dB;cases to with
 |bk ay =>
  have a6:(if ho HO then C else(ke te).map λk=>((iX ay k).getD HO,bo.ag))=J (t,km):=a6;split at a6
  ·exists a6
  ·rename_i aq;obtain⟨gY,aX,bb⟩:=dw a6
   exists bb
   have aV:=cN.root bt R.aQ;obtain⟨a,ws,rfl,na,cu,cM⟩:=id aV;refine⟨a,rfl,⟨ws,cu⟩,bt,λv2 bV cf iO dE=>?_⟩;have dj:=bt.mono cf iO;refine⟨dj,λNz ef bY k6 iP=>?_⟩;have mh:=dj.mono bY k6;obtain rfl:=Jj aX<|dE.root dj bt.aQ;have Ah:=cf.trans bY;obtain⟨gK,Ai,abn,_,hE,eX⟩:=ew.ext bt.aQ Ah aV
   exists abn
   refine⟨qM Ai gY,⟨Ai,gY,hE,rfl,rfl⟩,k _ ef (bH.trans Ah) k6 ?_⟩;rcases cJ.at gY eX with⟨b6,dA⟩|⟨t,x,b6,dA,j0⟩
   ·rw[b6,dA];exact(iP.root mh dj.aQ).rep (by simpa using aq)
   ·rw[b6,dA];exact j0
 |_=>exists a6
noncomputable def tyName:Ty->String
 |.int=>"int"
 |.bool=>"bool"
 |.list=>"list"
 |.tuple=>"tuple"
 |.str=>"str"
 |.dict=>"dict"
noncomputable def VH:T->String
 |.br=>"NoneType"
 |.aC _=>"bool"
 |.int _=>"int"
 |.str _=>"str"
 |.aD _=>"tuple"
 |.ao _=>"list"
 |.bk _=>"dict"
 |.dq=>"list"
 |.bJ _=>"object"
def aiF(K:W.Frag)(k:Ty)(t:T)(b:Bool)(h:oj k t=J b):W.kitOne K (.type<|VH t) (.type<|tyName k)=J b:=by
 exists k<;>exists t<;>first|(exists h;done)|(exists h;first|rfl|decide+kernel|kernel_rfl)
def alW{ae:List Z1}{s:aR}{O:St}{H:aJ}{t:T}{v:V}{u c:mt}{b:Bool}{Q:mt->aR->Prop}(I:aS X ae O H s)(r:ew X.K tw H t v)(bq:cW v u)(cA:t≠.dq)(ba:∀a,t≠.bJ a)(e:W.kitOne X.K (.type<|VH t) c=J b)(h:∀bx,Q (.bool b) { s with toks:=bx}) :
  bl Z2 X.A (call (.builtin "isinstance") [u,c]) Q X.cv s:=by
 cases t with
 |br=>have r:aI tw H .br v:=r;rw[aI]at r;subst r;exact zP I bq .br e h
 |aC b=>have r:aI tw H (.aC b) v:=r;rw[aI]at r;subst r;exact zP I bq (.aC b) e h
 |int i=>have r:aI tw H (.int i) v:=r;rw[aI]at r;subst r;exact zP I bq (.int i) e h
 |str x=>have r:aI tw H (.str x) v:=r;rw[aI]at r;subst r;exact zP I bq (.str x) e h
 |aD xs=>obtain⟨a,ah,rfl,cu,q⟩:=kx r;exact zP I bq (.aD cu) e h
 |dq=>exact absurd rfl cA
 |bJ a=>exact absurd rfl<|ba a
 |ao xs =>
  obtain⟨a,ah,rfl,cu,q⟩:=r
  exists bq
  obtain⟨a5,_,⟨o,n,aZ,aT,_⟩,_⟩:=I.list cu.gi;exact W.kia_one W.kitx_list I.hK ⟨o,aZ,aT⟩ e (λz=>nomatch z) h
 |bk ay =>
  obtain⟨a,ws,rfl,_,cu,q⟩:=r
  exists bq
  obtain⟨_,_,ah,_,o,es,ep,af,ak,_⟩:=j6 I.b1 cu;exact W.kia_one W.kitx_dict I.hK ⟨o,af,ak.1⟩ e (λz=>nomatch z) h
def D6{e:Expr}{d:bM}{k:Ty}{kY:Str}{p gN pos:Pos}(h:bF X tw e d)(hm:X.a3 "isinstance" = C)(gu:X.a3 kY=C)(bS:l8 kY=J (.type<|tyName k))(bT:autoParam (fv X "isinstance") bu)(abo:autoParam (fv X kY) bu)(bz:autoParam (kY ≠ "__name__") eM)(fQ:autoParam ((kY==("__debug__" : Str))=Y1) eM)
  (he:autoParam (b4 [e,.Name kY gN] X.I=ZG::b4 [.Name kY gN] X.I) bu) (lk:autoParam (b4 [.Name kY gN] X.I=(Y1,eval (.Name kY gN) X.I)::b4 [] X.I) bu) (eS:autoParam ((ff pos<|b4 [.Name kY gN] X.I).any (·.1)=Y1) bu) (aq:autoParam (l8 "isinstance" = J (.builtin "isinstance")) az11._auto_1) :
  bF X tw (.Call (.Name "isinstance" p) [e,.Name kY gN] [] pos) (aH (dS k)<|aa d ar):=by
 intro B S n t m n' hd ae s O H Q I ⟨R,md⟩;obtain⟨t0,m0,f1,a6⟩:=DJ hd;obtain⟨b,g1,g2⟩:=dw (show(oj k t0).map _=_ from a6)
 exists g2
 refine l7<|la I bT hm aq ?_ Z0 Z0;refine PyProof.Rows.callWith_builtin1 ?_ he eS;rw[he];show bl _ _ (so<|ZG::ff pos (b4 [.Name kY gN] X.I)) _ _ s;refine ia (b2 (h.run f1 I R) λu s1 ⟨v,H1,bf,bA,a1,bt,b6⟩=>?_);rw[lk];show bl _ _ (so<|(Y1,eval (.Name kY gN) X.I)::ff pos (b4 [] X.I)) _ _ s1;refine ia<|la bf abo gu bS (l6 ?_) bz fQ;refine alW bf (b6.root bt R.aQ) bA (λz=>by subst z;cases k<;>cases g1) (λa z=>by subst z;cases k<;>cases g1) (aiF X.K k t0 b g1) λbx=>?_;exact⟨.aC b,H1,bf.tok bx,rfl,md _ H1 a1 bt.aQ<|by show aI tw H1 (.aC b) _;rw[aI]⟩
def alX(b7:X.A.units<iu):∀(ae:List Z1) (s:aR) (O:St) (H:aJ) (a b:Addr) (ws:List ZW) (Q:mt->aR->Prop),aS X ae O H s->iN H a (.aw ws)->iN H b (.aw [])->(∀s',aS X ae O H s'->Q (.bool ws.isEmpty) s')->bl Z2 X.A (hq .Eq ZN<|.ref b) Q X.cv s:=by
 intro ae s O H a b ws Q I cu hE k;obtain⟨_,ba,us,oT,dQ⟩:=j6 I.b1 cu;obtain⟨_,aq,vc,wX,db⟩:=j6 I.b1 hE
 exists wX
 refine W.keq_eq (r:=Y0) ba aq dQ db b7 (λaB=>?_) ?_
 ·obtain rfl:=io aB;exact .nil
 ·cases oT with
  |nil=>exact k s I
  |cons _ _=>exact k s I
def PF(b7:X.A.units<iu):∀(ae:List Z1) (s:aR) (O:St) (H:aJ) (a b:Addr) (ws:List ZW) (Q:mt->aR->Prop),aS X ae O H s->iN H a (.aw ws)->iN H b (.aw [])->(∀s',aS X ae O H s'->Q (.bool<|!ws.isEmpty) s')->bl Z2 X.A (hq .NotEq ZN<|.ref b) Q X.cv s:=by
 intro ae s O H a b ws Q I cu hE k;obtain⟨_,ba,us,oT,dQ⟩:=j6 I.b1 cu;obtain⟨_,aq,vc,wX,db⟩:=j6 I.b1 hE
 exists wX
 refine W.keq_ne (r:=Y0) ba aq dQ db b7 (λaB=>?_) ?_
 ·obtain rfl:=io aB;exact .nil
 ·cases oT with
  |nil=>exact k s I
  |cons _ _=>exact k s I
def akh{pos:Pos}:bF X tw (.Dict [] [] pos) Md:=by
 intro B S n t m n' hd ae s O H Q I ⟨R,k⟩
 exists hd
 exact alI ae s O H Q I λp aF=>k _ _ (.new aF) (R.aQ.new aF) ⟨p,rfl,aF,[],fC,by rw[cJ]⟩
def aki{i:Int}{j:Nat}{pi pos:Pos}{e:Expr}{d:bM}(h:bF X tw e d):bF X tw (.Dict [J<|.Constant (.int i) j pi] [e] pos)<|Me (aw<|.int i)<|aY d:=by
 intro B S n t m n' hd ae s O H Q I ⟨R,k⟩;obtain⟨⟨bx,mk,mT⟩,az,au⟩:=cn hd
 exists az
 obtain⟨gY,a6,bX⟩:=cn au
 exists a6
 obtain⟨⟨hX,HI,NB⟩,eR,fO⟩:=dw bX;cases fO;obtain rfl:=z8 eR;refine ajW (alJ Dp ((xp h) B S n hX .ag NB eR) ajV) rfl rfl Z7 Z7 ae s O H Q I λp aF=>?_;have bt:=R.mono (.new (o:=.aw []) aF)<|R.aQ.new aF;show q4 X.K B tw S n hX .ag NB O (c4 H p<|.aw []) _;refine⟨bt,λv bV x y z=>?_⟩;have np:p≠tw:=R.aQ.tT aF;have JG:bV p=J (.aw []):=x.to p _ fC np;refine⟨JG,[(.inl i,v)],rfl,by simp,?_⟩;have de:eJ bV<|c4 bV p<|.aw<|xe [] [(.inl i,v)]:=λb=>⟨λah q=>by rw[e1<|by rintro rfl;rw[JG]at q;cases q];exact q,λ_ _ q=>by rw[e1<|by rintro rfl;rw[JG]at q;cases q];exact q⟩
 refine k _ _ (((dn.new aF).trans x).put aF) ?_ ⟨p,rfl,aF,_,fC,?_⟩
 ·show c4 bV p _ tw=_;rw[e1 np.symm];exact y
 ·show cJ tw _ [(.inl i,hX)] [(.inl i,v)];exact xt (aI.mono de _ _ z) (by rw[cJ])
def abp:fillsNumberSlot (.type "tuple") "mul" = pure Y1 :=
 PySem.fillsNumberSlot_seq (id:="tuple.__mul__") (r:=J<|.builtin "tuple.__rmul__") PySem.F.slot_tuple_mul.lookup Za PySem.F.slot_tuple_rmul.lookup Za
def abq:seqRepeat? (.type "tuple")=pure (J<|.builtin "tuple.__mul__"):=by unfold seqRepeat?;rw[PySem.seqSlot_of (T:="tuple") (name:="__mul__") (id:="tuple.__mul__") PySem.F.slot_tuple_mul.lookup Za,PySem.seqSlot_of (T:="tuple") (name:="__rmul__") (id:="tuple.__rmul__") PySem.F.slot_tuple_rmul.lookup Za];rfl
def alY(a:Int)(t:Tok)(l:Addr)(items:Array mt)(n:Nat)(dd:Option Addr)(cX:Array<|Option mt) :
  Meets (Builtin.«int.__rmul__» ⟨[.int a t,.ref l],[]⟩) (λ_ R s=>s.heap.get? l=J { cls:=.type "tuple",dict:=dd,data:=.seq items n,slots:=cX}/\R (.ok<|.ret Value.notImplemented) s) :=
 .of_wp λprog w A R s h=>by obtain⟨aF,g,d,bx,os⟩:=s;obtain⟨aB,h⟩:=h;wp_walk;exact⟨_,rfl,h⟩
def abr(l:Addr)(items:Array mt)(n:Nat)(dd:Option Addr)(cX:Array<|Option mt)(x:Int)(u:Tok)(h0:items.isEmpty=Y1)(af:(x==1)=Y1)(ak:¬x<=0)(bc:x<2^63)(cL:items.O*x.M<=dg) :
  Meets (Builtin.«tuple.__mul__» ⟨[.ref l,.int x u],[]⟩) (λ_ R s=>s.heap.get? l=J { cls:=.type "tuple",dict:=dd,data:=.seq items n,slots:=cX}/\R (.ok<|.ret<|Value.ref s.L) { s with heap:=s.heap.push { cls:=Value.type "tuple",data:=Data.seq (List.foldl (λbH cf=>bH++cf) #[] (List.replicate x.M items))},toks:=s.toks}) :=
 .of_wp λprog w A R s h=>by
  obtain⟨aF,g,d,bx,os⟩:=s;obtain⟨aB,h⟩:=h;have f1:=PySem.AutoSeq1.idx_int
  have az:¬ (decide (x < -2^63)||decide (x>=2^63))=Y0:=by simp;lia
  have au:¬ (items.isEmpty||x==1)=Y0:=by rw[h0,af];decide
  have a6:¬ (decide (x<=0)||items.isEmpty)=Y0:=by rw[h0];simp;exact sg ak
  have dF:(items.O:Int)*x<=dg:=by
   have:x=(x.M:Int):=by lia
   rw[this];exact_mod_cast cL
  have bX:¬ ↑items.O*x>(2^63-1) / 8:=by
   have:((dg:Nat):Int)<=(2^63-1) / 8:=by decide
   exact yK<|jq dF this
  have eR:¬Builtin.Tuple.tupleTooMany (↑items.O*x)=Y0:=by unfold Builtin.Tuple.tupleTooMany;simp;exact dF
  have fO:¬ (List.foldl (λbH cf=>bH++cf) #[] (List.replicate x.M items)).O>dg:=by
   have:=foldl_rep items.B x.M []
   rw[pQ,B4]at this;have e:(#[]:Array mt)=([]:List mt).Q:=rfl;rw[e,this,eU,len_rep,qV,gI];exact sb cL
  wp_walk using PySem.AutoSeq1.wpAny_loadPart' aB
  rw[Y3 az]
  wp_walk using PySem.AutoSeq1.wpAny_loadPart' aB
  rw[Y3 bX]
  wp_walk
  exact⟨_,rfl,h⟩
def abt(l:Addr)(items:Array mt)(n:Nat)(dd:Option Addr)(cX:Array<|Option mt)(x:Int)(u:Tok)(af:(items.isEmpty||x==1)=Y0)(bc:x<2^63)(cL:-(2^63)<=x) :
  Meets (Builtin.«tuple.__mul__» ⟨[.ref l,.int x u],[]⟩) (λ_ R s=>s.heap.get? l=J { cls:=.type "tuple",dict:=dd,data:=.seq items n,slots:=cX}/\R (.ok<|.ret<|Value.ref l) s) :=
 .of_wp λprog w A R s h=>by
  obtain⟨aF,g,d,bx,os⟩:=s;obtain⟨aB,h⟩:=h;have f1:=PySem.AutoSeq1.idx_int
  have az:¬ (decide (x < -2^63)||decide (x>=2^63))=Y0:=by simp;exact And.intro cL bc
  wp_walk using PySem.AutoSeq1.wpAny_loadPart' aB
  rw[Y3 az]
  wp_walk using PySem.AutoSeq1.wpAny_loadPart' aB
  exact⟨_,rfl,h⟩
def abu(l:Addr)(items:Array mt)(n:Nat)(dd:Option Addr)(cX:Array<|Option mt)(x:Int)(u:Tok)(h0:items.isEmpty=Y1)(ak:x<=0)(cL:-(2^63)<=x) :
  Meets (Builtin.«tuple.__mul__» ⟨[.ref l,.int x u],[]⟩) (λ_ R s=>s.heap.get? l=J { cls:=.type "tuple",dict:=dd,data:=.seq items n,slots:=cX}/\R (.ok<|.ret<|Value.ref s.L) { s with heap:=s.heap.push { cls:=Value.type "tuple",data:=Data.seq #[]},toks:=s.toks}) :=
 .of_wp λprog w A R s h=>by
  obtain⟨aF,g,d,bx,os⟩:=s;obtain⟨aB,h⟩:=h;have f1:=PySem.AutoSeq1.idx_int
  have az:¬ (decide (x < -2^63)||decide (x>=2^63))=Y0:=by simp;exact And.intro cL<|nA ak Z0
  have au:¬ (items.isEmpty||x==1)=Y0:=by rw[h0];simp;exact yL<|nA ak Z0
  have a6:(decide (x<=0)||items.isEmpty)=Y0:=by simp[ak]
  wp_walk using PySem.AutoSeq1.wpAny_loadPart' aB
  rw[Y3 az]
  wp_walk using PySem.AutoSeq1.wpAny_loadPart' aB
  rw[Y3 au]
  wp_walk
  exact⟨_,rfl,h⟩
def abv{n:Nat}{x:Int}(aB:s.heap.get? l=J { cls:=.type "tuple",dict:=dd,data:=.seq a5.Q n,slots:=cX})
  (af:-(2^63)<=x) (ak:x<2^63) (cL:a5.H*x.M<=dg) (h:(a5=[]\/x=1)->Q (.ref l) s) (h':Q Zv { s with heap:=s.heap.push { cls:=Value.type "tuple",data:=Data.seq (List.replicate x.M a5).flatten.Q},toks:=s.toks}) :
  bl Z2 X.A (ma .Mult (.ref l)<|.int x u) Q X.cv s:=by
 refine Nf (T:="tuple") (U:="int") Z0 ⟨_,aB,rfl⟩ (λs'=>yU s' x u) abp F.fills_int_mul F.slot_int_rmul abq F.slot_int_index.lookup
  (nB F.slot_int_rmul (yU s x u) F.entry_int_rmul (F.args_int_rmul_2 _ _) (alY x u l a5.Q n dd cX) ⟨aB,rfl,⟨_,aB,rfl⟩,?_⟩)
 have f0:List.foldl (λbH cf=>bH++cf) #[] (List.replicate x.M a5.Q)=(List.replicate x.M a5).flatten.Q:=by
  have:=foldl_rep a5 x.M []
  rw[pQ]at this;exact this
 by_cases b6:a5=[]\/x=1
 ·refine nB F.slot_tuple_mul ⟨_,aB,rfl⟩ F.entry_tuple_mul (F.args_tuple_mul_2 _ _) (abt l a5.Q n dd cX x u ?_ ak af) ⟨aB,h b6⟩;rcases b6 with c|c<;>simp[c]
 ·have dA:a5≠[]:=λz=>b6<|.inl z;have j0:x≠1:=λz=>b6<|.inr z;have hv:a5.Q.isEmpty=Y1:=by cases a5 with
   |nil=>exact absurd rfl dA
   |cons a r=>simp
  by_cases q9:x<=0
  ·refine nB F.slot_tuple_mul ⟨_,aB,rfl⟩ F.entry_tuple_mul (F.args_tuple_mul_2 _ _) (abu l a5.Q n dd cX x u hv q9 af) ⟨aB,?_⟩;have:x.M=0:=by lia
   rw[this]at h';exact h'
  ·refine nB F.slot_tuple_mul ⟨_,aB,rfl⟩ F.entry_tuple_mul (F.args_tuple_mul_2 _ _) (abr l a5.Q n dd cX x u hv (by simpa using j0) q9 ak<|by rw[eU];exact cL) ⟨aB,?_⟩;rw[f0];exact h'
def aiG:fS X tw (two<|ma .Mult) kG:=by
 intro B ae s O H ah us aA n t m Q I bq aV aQ e k
 induction aA using List.casesOn with
 |nil=>exists e
 |cons dB fx =>
  induction dB using T.casesOn with
  |int a =>
   induction fx using List.casesOn with
   |nil=>exists e
   |cons iO Ac =>
    induction iO using T.casesOn with
    |int b =>
     induction Ac using List.casesOn with
     |nil =>
      have e:(if small a||small b then J (T.int<|a*b,bo.ag) else C)=J (t,m):=e;split at e
      ·rename_i aP
       exists e
       obtain⟨v,w,rfl,bA,cp⟩:=m4 aV;obtain rfl:=iY bA;obtain rfl:=iY cp;obtain⟨fX,f9,rfl,aX,bb⟩:=bq.two;have aT:FY a b:=by
        simp only[small,Bool.or_eq_true,decide_eq_true_eq]at aP;rcases aP with aP|aP
        ·exact .inl ⟨by lia,by lia⟩
        ·exact .inr ⟨by lia,by lia⟩
       exact ah2 ae s O H _ _ fX f9 Q I aX bb ⟨a,b,rfl,rfl,aT,k _ H ZT aQ<|by show aI tw H (.int _) _;rw[aI]⟩
      ·exists e
     |cons _ _=>exists e
    |_=>exists e
  |aD xs =>
   induction fx using List.casesOn with
   |nil=>exists e
   |cons k6 JE =>
    induction k6 using T.casesOn with
    |int j =>
     induction JE using List.casesOn with
     |nil =>
      have e:(if xs.H<=1000 /\ -1000<=j/\j<=10000/\xs.H*j.M<=bh then J (T.aD (List.replicate j.M xs).flatten,bo.ag) else C)=J (t,m):=e;split at e
      ·rename_i aq;obtain⟨_,cq,cE,fj⟩:=aq
       exists e
       obtain⟨v,w,rfl,bA,cp⟩:=m4 aV;obtain⟨a,fJ,rfl,cu,cM⟩:=kx bA;obtain rfl:=iY cp;obtain⟨fX,f9,rfl,aX,bb⟩:=bq.two
       exists aX
       obtain⟨bx,rfl⟩:=bb;obtain⟨a5,pd,dC,_⟩:=I.tuple<|e6.of (K:=X.K) cu;obtain⟨⟨cls,dd,data,cX⟩,aZ,aT,aM,hd⟩:=id dC;simp only at aT hd;subst aT hd;have fh:=cM.H;have fc:=pd.H;have hz:a5.H*j.M<=dg:=by rw[<-fc,<-fh];exact qr fj
       have aF:H s.L=C:=I.b1.fresh<|cg _;refine abv aZ (jq Z0 cq) (nA cE Z0) hz (λc=>?_) ?_
       ·have:(List.replicate j.M xs).flatten=xs:=by
         rcases c with c|c
         ·have:xs=[]:=io (by rw[fh,fc,c];rfl);subst this;simp
         ·subst c;simp
        rw[this]at k;exact⟨.ref a,H,I,rfl,k _ H ZT aQ<|qu cu cM⟩
       ·refine⟨.ref s.L,_,I.laid (t':=s.toks) (o:=.aD (List.replicate j.M fJ).flatten) (λb bJ q=>ed _ q) (cg _) ⟨by rw[len_rep,qV,fc];exact hz,_,pd.rep _,mj.new _ _⟩,rfl,k _ _ (.new aF) (aQ.new aF)<|qu fC<|(bR.mono (.new aF) _ _ cM).rep _⟩
      ·exists e
     |cons _ _=>exists e
    |_=>exists e
  |_=>exists e
theorem xA:∀{xs:List T} {us:List mt},us.H=xs.H->(∀(i:Nat) (u:mt),us[i]?=J u->∃v x,cW v u/\xs[i]?=J x/\aI tw H x v)->∃ah,cG ah us/\bR tw H xs ah
 |[],[],_,_=>⟨[],.nil,.nil⟩
 |x::xs,u::us,aB,h=>by
  obtain⟨v,fA,r,e,q⟩:=h 0 u rfl;have e:x=fA:=by simpa using e
  subst e;obtain⟨ah,af,ak⟩:=xA (xs:=xs) (us:=us) (by simpa using aB) λi u e=>by obtain⟨v,x,r,bN,q⟩:=h (i+1) u (by simpa using e);exact⟨v,x,r,by simpa using bN,q⟩
  exact⟨v::ah,.cons r af,.cons q ak⟩
 |[],_::_,aB,_=>by simp at aB
 |_::_,[],aB,_=>by simp at aB
def PG{a:Addr}{s:aR}{ae:List Z1}{O:St}{ay:List<|Key×T}{us:List<|Key×mt}(q:cJ tw H ay ws)(rel:fq ws us)(i:Nat)(w:mt)
  (aF:∃k x,us[i]?=J (k,x)/\(hI X.R X.w).is k w=Y0):∃v x,cW v w/\(ay.map λc9=>iI c9.1)[i]?=J x/\aI tw H x v:=by
 obtain⟨k,x,af,ak⟩:=aF;have aB:ws.H=us.H:=Paired.length rel;refine⟨eB k,iI k,Jn ak,?_,Jo k⟩;rw[kg];have hi:i<us.H:=(kM.mp af).1;have kv:i<ay.H:=by rw[cJ.length q,aB];exact hi
 obtain⟨v,g1,_⟩:=DV (k:=ay[i].1) (t:=ay[i].2) q (show ay[i]?=J (ay[i].1,ay[i].2) by simp[kv]);obtain⟨fu,g2⟩:=Jm rel g1;rw[af]at g2;have:k=ay[i].1:=by injection g2 with g2;injection g2
 rw[hj kv];show J (iI ay[i].1)=J (iI k);rw[this]
def abw{A':dI}{E:mt->aR->Prop}{ae:List Z1}{s:aR}{O:St}{H:aJ}{t:T}{v:V}{u:mt}{xs:List T}{Q:List mt->aR->Prop}(bp:A'.handled=C)(I:aS X ae O H s)(r:ew X.K tw H t v)(bq:cW v u)(h:vb t=J xs)
  (k:∀us ah h' bx,cG ah us->bR tw H xs ah->us.H<=dg->Zt->Q us { s with heap:=h',toks:=bx}):bl (bg X.R X.w) A' (collect u) Q E s:=by
 cases t with
 |ao aO =>
  exists h
  obtain⟨a,ah,rfl,e,q⟩:=r
  exists bq
  obtain⟨a5,bq,p,hz⟩:=I.list e.gi;obtain⟨o,aZ,aT,n,hd⟩:=p.isList;have qs:a5.Q.O<=dg:=by rw[eU];first|exact hz|(rw[<-bq.H];exact hz)
  exact wpAny_collect_seq a (.inl rfl) aZ aT hd (λh' b8=>k a5 ah h' s.toks bq q (by simpa using qs) b8) qs
 |aD aO =>
  exists h
  obtain⟨a,ah,rfl,e,q⟩:=kx r
  exists bq
  obtain⟨a5,bq,p,hz⟩:=I.tuple<|e6.of (K:=X.K) e;obtain⟨o,aZ,aT,n,hd⟩:=id p;have qs:a5.Q.O<=dg:=by rw[eU];first|exact hz|(rw[<-bq.H];exact hz)
  exact wpAny_collect_seq a (.inr rfl) aZ aT hd (λh' b8=>k a5 ah h' s.toks bq q (by simpa using qs) b8) qs
 |bk ay =>
  exists h
  obtain⟨a,ws,rfl,na,e,q⟩:=r
  exists bq
  obtain⟨z,hd,us,rel,dd⟩:=j6 I.b1 e;obtain⟨ep,dQ⟩:=dd.dictAt;have aB:ws.H=us.H:=Paired.length rel;refine W.kdu_collect (W.kdl_dict (knd:=hI X.R X.w) («kvs»:=us) (ep:=ep) hd) bp dQ (by rw[<-aB];exact z) λh' bx acc b8 hi=>?_;obtain⟨ah,af,ak⟩:=xA (tw:=tw) (H:=H) (xs:=ay.map λc9=>iI c9.1) (us:=acc.B) (by rw[gI,hi.1,cP,cJ.length q,aB]) λi w e =>
   PG (X:=X) (a:=a) (s:=s) (ae:=ae) (O:=O) q rel i w (hi.2 i w<|by rw[<-lE];exact e)
  exact k _ ah h' bx af ak (by rw[gI,hi.1,<-aB];exact z) b8
 |_=>exists h
theorem PH:∀{us:List mt} {ns:List Int},ha us ns->cG (ns.map V.int) us
 |_,_,.nil=>.nil
 |_,_,.cons n t h=>.cons ⟨t,rfl⟩<|PH h
theorem qn:∀{ns:List Int} {us:List mt},cG (ns.map V.int) us->ha us ns
 |[],_,.nil=>.nil
 |n::ns,_,.cons ⟨t,e⟩ h=>by subst e;exact .cons n t<|qn h
def akj(bp:X.A.handled=C):fS X tw (λus=>call (.type "list") us) nV:=by
 intro B ae s O H ah us aA n t m Q I bq aV aQ e k
 induction aA using List.casesOn with
 |nil=>exists e
 |cons dB fx =>
  induction dB using T.casesOn with
  |ao xs =>
   induction fx using List.casesOn with
   |nil =>
    exists e
    obtain⟨v,rfl,a,fJ,rfl,cu,cM⟩:=iZ aV;exact OR ae s O H _ us Q I bq ⟨a,fJ,rfl,.inl cu.gi,λl aB=>k _ _ (.new aB) (aQ.new aB) ⟨l,rfl,aB,_,fC,bR.mono (.new aB) _ _ cM⟩⟩
   |cons _ _=>exists e
  |aD xs =>
   induction fx using List.casesOn with
   |nil =>
    exists e
    obtain⟨v,rfl,r⟩:=iZ aV;obtain⟨a,fJ,rfl,cu,cM⟩:=kx r;exact OR ae s O H _ us Q I bq ⟨a,fJ,rfl,.inr<|e6.of cu,λl aB=>k _ _ (.new aB) (aQ.new aB) ⟨l,rfl,aB,_,fC,bR.mono (.new aB) _ _ cM⟩⟩
   |cons _ _=>exists e
  |bk ay =>
   induction fx using List.casesOn with
   |nil =>
    exists e
    obtain⟨v,rfl,a,ws,rfl,na,cu,q⟩:=iZ aV;obtain⟨u,rfl,eW⟩:=bq.one
    exists eW
    obtain⟨z,hd,us,rel,dd⟩:=j6 I.b1 cu;obtain⟨ep,dQ⟩:=dd.dictAt;have aB:ws.H=us.H:=Paired.length rel;refine W.kdl_call (W.kdl_dict (knd:=hI X.R X.w) («kvs»:=us) (ep:=ep) hd) bp dQ (by rw[<-aB];exact z) λh' bx acc c b8 fw hi=>?_;obtain⟨ah,af,ak⟩:=xA (tw:=tw) (H:=H) (xs:=ay.map λc9=>iI c9.1) (us:=acc.B) (by rw[gI,hi.1,cP,cJ.length q,aB]) λi w e =>
     PG (X:=X) (a:=a) (s:=s) (ae:=ae) (O:=O) q rel i w (hi.2 i w<|by rw[<-lE];exact e)
    have aF:H s.L=C:=I.b1.fresh<|cg _;have eH:=I.laid (a:=s.L) (o:=.ao ah) (t':=bx) (h':=h') b8 (cg _) ⟨by rw[af.H,gI,hi.1,<-aB];exact z,acc.B,c,af,by simpa using fw⟩;exact⟨.ref s.L,_,eH,rfl,k _ _ (.new aF) (aQ.new aF) ⟨_,rfl,aF,_,fC,bR.mono (.new aF) _ _ ak⟩⟩
   |cons _ _=>exists e
  |_=>exists e
def _root_.bj.aS.Gz(I:aS X ae O H s)(h:H a=J (.aD xs)):∃a5:List mt,cG xs a5/\mj s.D a a5.Q/\xs.H<=dg:=by obtain⟨z,a5,r,p⟩:=I.b1 a _ h;exact⟨a5,r,p,z⟩
noncomputable def isInt(j:Int):mt->Bool
 |.int i _=>i==j
 |_=>Y1
def abx(j:Int)(h:ha us ns):us.countP (isInt j)=(ns.filter λx=>x==j).H:=by
 induction h with
 |nil=>rfl
 |cons n t h a4 =>
  rw[oz,tX,a4];show _+(if(n==j)=Y0 then 1 else 0)=_;cases n==j<;>simp
def alZ(h:ha us ns)(aK:y∈us):∃i t,y=.int i t:=by
 induction h with
 |nil=>exists aK
 |cons n t h a4 =>
  rcases d4.mp aK with rfl|aK
  ·exact⟨n,t,rfl⟩
  ·exact a4 aK
def aby{k:Nat}(a6:uZ k [to,te]=J (t1,cR)):∃xs j ns,to=.aD xs/\te=.int j/\e3 xs=J ns/\t1=.int (ns.filter λx=>x==j).H/\cR=.ag:=by
 induction to using T.casesOn with
 |aD xs =>
  induction te using T.casesOn with
  |int j =>
   obtain⟨ns,af,ak⟩:=dw (show(e3 xs).map _=_ from a6)
   exists ak
   exact⟨xs,j,ns,rfl,rfl,af,rfl,rfl⟩
  |_=>exists a6
 |_=>exists a6
def al0{o e:Expr}{eQ ie:bM}{apos ec:Pos}(aZ:bF X tw o eQ)(he:bF X tw e ie)(m:Cr X o "count" apos e ec):bF X tw (.Call (.Attribute o "count" apos) [e] [] ec)<|aH uZ<|aa eQ<|aa ie ar:=by
 intro B S n t km n' hd ae s O H Q I ⟨R,k⟩;obtain⟨to,mo,no,te,ze,f1,g1,a6⟩:=Jd hd;obtain⟨xs,j,ns,mU,uH,hi,dR,em⟩:=aby a6;subst mU uH dR em;refine yO m.V m.uY m.line PySem.F.plainAttrs_tuple PySem.F.slot_tuple_count PySem.F.type_tuple_count (b2 (aZ.run f1 I R) λu s1 ⟨v,H1,bf,bA,a1,bt,b6⟩=>?_);obtain⟨a,fJ,rfl,cu,cM⟩:=kx<|b6.root bt R.aQ
 exists bA
 obtain⟨a5,pd,⟨fs,ll,Aj,vd,_⟩,_⟩:=bf.Gz cu;refine⟨⟨fs,ll,Aj⟩,λb e=>?_,?_⟩
 ·exists e;exact⟨fs,ll,vd⟩
 ·rw[m.trees];refine ub rfl<|uc<|ia (b2 (he.run g1 bf bt) λiw s2 ⟨y,bV,cS,dX,a2,dj,dA⟩=>l6 ?_);obtain rfl:=iY<|dA.root dj bt.aQ;obtain⟨bx,rfl⟩:=dX;have ve:bV a=J (.aD fJ):=a2.to a _ cu<|bt.aQ.Mt cu;obtain⟨a5,lR,⟨⟨cls,dd,data,cX⟩,aZ,aT,hd,nn,kd⟩,_⟩:=cS.Gz ve;simp only at aT kd
  subst aT kd
  have We:=qv hi;subst We;have abz:=xm cM;subst abz;have p5:=qn lR;have L1:=abx j p5;refine nB PySem.F.slot_tuple_count ⟨_,aZ,rfl⟩ PySem.F.entry_tuple_count (PySem.F.args_tuple_count_2 _ _) (PySem.SeqAt.tuple_countAt a a5.Q nn dd cX (.int j bx)<|isInt j) ⟨aZ,λy aK=>?_,?_⟩
  ·have aK:y∈a5:=by simpa using aK
   have:=alZ p5 aK;obtain⟨i,t,rfl⟩:=this;exact PySem.SeqAt.EqAt.int_int i t j bx
  ·refine⟨.int _,bV,cS.tok _,⟨_,rfl⟩,?_⟩;show Q (.int ((List.countP (isInt j) a5.Q.B:Nat):Int)) bV;rw[show a5.Q.B=a5 from rfl,L1];exact k _ bV (a1.trans a2) dj.aQ (by show aI tw bV (.int _) _;rw[aI])
def abA:typeLookup (.type "list") "keys" = pure C:=by rw[Cd,B9];kernel_rfl
def abB{k:Nat}
  (av:s.heap.get? a=J o) (aT:o.cls=.type "list") (kd:o.d=.seq xs k) (hd:o.dict=C) (dt:A.handled=C)
  (h:∀h' bx,Zt->Q C { s with heap:=h',toks:=bx}) :
  bl Z9 A (getAttr? ZN "keys") Q E s:=by
 obtain⟨c,anV,dat,cX⟩:=o;simp only at aT kd hd;subst aT kd hd;obtain⟨aF,g,d,bx,os⟩:=s;have gu:∀D5,(⟨aF,g,d,D5,os⟩:aR).TypeIs ZN "list":=λ_=>⟨_,av,rfl⟩
 have f1:=sub_AttributeError;have en:=F.slot_list_getattribute.lookup;have f4:=F.slot_list_getattribute.bind ZN;have hU:=am_list_getattr_none;unfold getAttr? getAttrBy? getAttrBy
 repeat (any_goals (first|assumption|exact gu _|((with_reducible show bl _ _ (call (Value.builtin "list.__getattribute__") _ _) _ _ _);refine nB F.slot_list_getattribute (gu _) am_entry_list_getattribute (F.args_list_getattribute_2 _ _) (meets_getattribute_miss_list a xs k cX "keys" _ abA (by decide)) ⟨av,dt,λh' D5 e fm=>?_⟩)|wp_step))
 obtain⟨t',fu,he⟩:=fm.there;show bl _ _ (getattributeRaised _ _ _ _ _ _ _) _ _ _;unfold getattributeRaised
 repeat (any_goals (first|assumption|wp_step))
 exact h _ _ fm.keeps
def PI:yW table "dict.update.loop" = J Builtin.«dict.update.loop»:=entryFor_of_tree (by kernel_rfl)
def D7:plainId "dict.update.loop" = Y0:=by decide+kernel
section
variable {prog:dx}{w:c3}{K:Type}[DecidableEq K]{knd:KeyKind prog w K}{A:dI}{R:sr->aR->Prop}{I d:Addr}{fp wr:List Addr}{P:Nat->mt->Prop}{St:Nat->Heap->Prop}
noncomputable def tR(ps:List<|K×mt):List<|K×mt:=ps.foldl (λm p=>pX m p.1 p.2) []
def abC(m:List<|K×mt)(k:K)(v:mt):(pX m k v).H<=m.H+1:=by
 unfold pX;split
 ·rw[cP];exact gd _ _
 ·rw[gr];simp
def abD(ps:List<|K×mt):∀m:List (K×mt),(ps.foldl (λm p=>pX m p.1 p.2) m).H<=m.H+ps.H:=by
 induction ps with
 |nil=>intro m;simp
 |cons p ps a4 =>
  intro m;rw[mI];have af:=a4<|pX m p.1 p.2;have ak:=abC m p.1 p.2;rw[d9];lia
def abE{h₀:Heap}{ps:List<|K×mt}(W:Walks prog w A.in1 I fp wr ps.H P St)(s6:d∉fp)(res:mt)(bz:ps.H<=dg)
  (e4:∀i v,P i v->∃b k key x o m,v=.ref b/\b≠d/\b∉wr/\h₀.get? b=J o/\o.cls=.type "tuple" /\ o.d=.seq #[key,x] m/\knd.is k key=Y0/\ps[i]?=J (k,x)) :
  ∀(j i:Nat) (s:aR),ps.H-i=j->i<=ps.H->St i s.D->(∀b o,b≠d->b∉wr->h₀.get? b=J o->s.heap.get? b=J o)->s.heap.DictOf knd d (tR<|ps.take i) ->
  (∀h' bx,(∀b o,b≠d->b∉wr->h₀.get? b=J o->h'.get? b=J o)->h'.DictOf knd d (tR ps)->R (.ok<|.ret res) { s with heap:=h',toks:=bx}) ->
  kk Z9 A (.builtin "dict.update.loop" ⟨[.ref d,.ref I,gJ i,res],[]⟩) R s:=by
 have PJ:d∉wr:=λh=>s6<|W.sub _ h;intro j
 induction j with
 |zero =>
  intro i s bU hi jD aW gW gZ;have pf:i=ps.H:=(h9 hi<|yB bU)
  subst pf;refine pT PI ?_;rw[Around.under_plainId D7 _];show bl _ A.in1 (mM (.ref I) >>= _) _ _ s;refine a8 (W.done s _ _ jD λh' bx hm=>?_);rw[yx]at gW;refine a8<|bZ ?_;exact bZ<|gZ h' bx (λb o aq hw e=>hm b o hw<|aW b o aq hw e) (let ⟨o,es,ep,aZ,r⟩:=gW;⟨o,es,ep,hm d o PJ aZ,r⟩)
 |succ j a4 =>
  intro i s bU hi jD aW gW gZ;have dD:i<ps.H:=(G3<|qU<|d2 bU.symm)
  refine pT PI ?_;rw[Around.under_plainId D7 _];show bl _ A.in1 (mM (.ref I) >>= _) _ _ s;refine a8 (W.item i s _ _ dD jD λv h' bx aF agh hm=>?_);obtain⟨b,k,key,x,o,m,rfl,abF,abG,aZ,aT,kd,lX,D8⟩:=e4 i v aF;have pg:∀b o,b≠d->b∉wr->h₀.get? b=J o->h'.get? b=J o:=λb o aq hw e=>hm b o hw<|aW b o aq hw e;have xk:=pg b o abF abG aZ;have abH:h'.DictOf knd d<|tR<|ps.take i:=let ⟨o,es,ep,aZ,r⟩:=gW;⟨o,es,ep,hm d o PJ aZ,r⟩
  refine a8<|jr ?_;refine a8<|Ce ?_;unfold Builtin.Dict.pairItems;refine a8<|sj (T:="tuple") ⟨o,xk,aT⟩ ?_;rw[Y2 Z0];refine a8<|Cf xk kd ?_;refine bZ ?_;show bl _ _ (oI [key,x]<|dictSet d key x) _ _ _;have ej:(tR<|ps.take i).H<=dg:=by have:=abD (ps.take i) [];rw[jU]at this;unfold tR;simp at this;lia
  refine jr<|wpAny_dictSet_pairs (s:={ s with heap:=h',toks:=bx}) lX abH (λak u9 iA=>?_) ej;have Mg:tR (ps.take<|i+1)=pX (tR<|ps.take i) k x:=by
   have:ps.take (i+1)=ps.take i++[(k,x)]:=by rw[MO,D8];rfl
   unfold tR;rw[this,MN];rfl
  refine bZ ⟨oH D7 _,?_⟩;refine a4 (i+1) { s with heap:=ak,toks:=bx+1} Z3 dD (W.frame _ _ _ agh λc sU dh e=>?_) (λc dh aq hw e=>?_) (by rw[Mg];exact u9) λbc JH vf abI=>gZ bc JH vf abI
  ·have:c≠d:=λz=>s6<|z▸sU;exact(iA.2 c this).trans e
  ·exact(iA.2 c aq).trans (pg c dh aq hw e)
end
def al1{k:Key}(h:ke t=J k)(r:aI tw H t v):v=eB k:=by
 cases t with
 |int i=>exists h;rw[aI]at r;exact r
 |str x=>exists h;rw[aI]at r;exact r
 |_=>exists h
def aiH(H:aJ)(P:dx)(w:c3)(h:Heap)(v:V)(u:mt)(k:Key)(x:V)(y:mt):Prop :=
 ∃b o m key,v=.ref b/\u=.ref b/\H b=J (.aD [eB k,x])/\h.get? b=J o/\o.cls=.type "tuple" /\ o.d=.seq #[key,y] m/\(hI P w).is k key=Y0/\cW x y
theorem pairs_at{ae:List Z1}{s:aR}{O:St}{H:aJ}(I:aS X ae O H s):∀{xs:List T} {ps:List (Key×T)} {ah:List V} {us:List mt},qQ xs=J ps->bR tw H xs ah->cG ah us ->
  ∃(ws:List ZW) (aO:List (Key×mt)),cJ tw H ps ws/\fq ws aO/\aO.H=us.H/\∀(i:Nat) (u:mt),us[i]?=J u->∃v k x y,aiH H X.R X.w s.D v u k x y/\aO[i]?=J (k,y)
 |[],ps,ah,us,h,r,bq=>by
  exists h
  cases ji r
  exists bq
  exact⟨[],[],by rw[cJ],.nil,rfl,λi u e=>by simp at e⟩
 |t::xs,ps,ah,us,h,r,bq=>by
  have⟨kt,wY,k,xB,az,au,a6,bX⟩:∃kt wY k xB,t=.aD [kt,wY]/\ke kt=J k/\qQ xs=J xB/\ps=(k,wY)::xB:=by
   match t,h with
   |.aD [kt,wY],h =>
    obtain⟨k,af,ak⟩:=cn (show(ke kt).bind _=_ from h);obtain⟨xB,bc,cL⟩:=dw ak;exact⟨kt,wY,k,xB,rfl,af,bc,cL.symm⟩
  subst az bX;obtain⟨v,mv,rfl,bA,cp⟩:=hg r;cases bq with
  |cons abJ xC =>
   rename_i u vc;obtain⟨ws,aO,g1,g2,g3,gL⟩:=pairs_at I a6 cp xC;obtain⟨b,fJ,rfl,aq,q⟩:=kx (K:=X.K) bA;obtain⟨abK,anW,rfl,aX,bb⟩:=hg q;obtain⟨PK,an8,rfl,cK,fW⟩:=hg bb;cases ji fW;have iQ:abK=eB k:=al1 au aX;subst iQ
   exists abJ
   obtain⟨a5,wL,⟨o,aZ,aT,D9,m,kd⟩,_⟩:=I.Gz aq;obtain⟨Wf,NC,rfl,rk,dX⟩:=wL.two;refine⟨(k,PK)::ws,(k,NC)::aO,xt cK g1,.cons ⟨rfl,dX⟩ g2,by rw[d9,d9,g3],λi u e=>?_⟩;cases i with
   |zero =>
    have e:Value.ref b=u:=by simpa using e
    subst e;exact⟨.ref b,k,PK,NC,⟨b,o,m,Wf,rfl,rfl,aq,aZ,aT,kd,zU rk,dX⟩,rfl⟩
   |succ i =>
    obtain⟨v,fI,x,y,dC,c7⟩:=gL i u (by simpa using e);exact⟨v,fI,x,y,dC,by simpa using c7⟩
theorem cJ.fold:∀{ps:List (Key×T)} {ws:List ZW},cJ tw H ps ws->∀{d:List (Key×T)} {e:List ZW},cJ tw H d e->cJ tw H (ps.foldl (λd p=>j7 d p.1 p.2) d) (ws.foldl (λd p=>iH d p.1 p.2) e)
 |[],_,r,_,_,q=>by rw[cJ]at r;subst r;exact q
 |(k,x)::ps,_,r,d,e,q=>by rw[cJ]at r;obtain⟨v,fT,rfl,bA,cp⟩:=r;exact cJ.fold cp<|cJ.put k bA q
def fq.fold:∀{ws:List ZW} {aO:List (Key×mt)},fq ws aO->∀{d:List ZW} {e:List (Key×mt)},fq d e->fq (ws.foldl (λd p=>iH d p.1 p.2) d) (aO.foldl (λd p=>pX d p.1 p.2) e):=by
 intro ws aO r;unfold fq at r
 induction r with
 |nil=>intro d e q;exact q
 |cons h t a4 =>
  intro d e q;rename_i a b as bs;obtain⟨k,v⟩:=a;obtain⟨fI,y⟩:=b;obtain⟨af,ak⟩:=h;simp only at af ak;subst af;exact a4<|fq.put q k ak
def al2(ws:List ZW):∀d:List ZW,(ws.foldl (λd p=>iH d p.1 p.2) d).H<=d.H+ws.H:=by
 induction ws with
 |nil=>intro d;simp
 |cons p ps a4 =>
  intro d;rw[mI];have af:=a4<|iH d p.1 p.2;have ak:(iH d p.1 p.2).H<=d.H+1:=by
   unfold iH;split
   ·rw[cP];exact gd _ _
   ·rw[gr];simp
  rw[d9];lia
theorem PL:∀{xs:List T} {ps:List (Key×T)},qQ xs=J ps->ps.H=xs.H
 |[],_,h=>by exists h;rfl
 |t::xs,ps,h=>by
  match t,h with
  |.aD [kt,wY],h =>
   obtain⟨k,af,ak⟩:=cn (show(ke kt).bind _=_ from h);obtain⟨xB,bc,cL⟩:=dw ak;subst cL;rw[d9,d9,PL bc]
def akk(bp:X.A.handled=C):fS X tw (λus=>call (.type "dict") us) xh:=by
 intro B ae s O H ah us aA n t m Q I bq aV aQ e k
 induction aA using List.casesOn with
 |nil=>exists e
 |cons dB fx =>
  induction dB using T.casesOn with
  |bk ay =>
   induction fx using List.casesOn with
   |nil =>
    exists e
    obtain⟨v,rfl,a,ws,rfl,na,cu,q⟩:=iZ aV;obtain⟨u,rfl,eW⟩:=bq.one
    exists eW
    exact alL I cu λp s' aF eH=>⟨.ref p,_,eH,rfl,k _ _ (.new aF) (aQ.new aF) ⟨p,rfl,aF,_,fC,cJ.mono (.new aF) _ _ q⟩⟩
   |cons _ _=>exists e
  |ao xs =>
   induction fx using List.casesOn with
   |nil =>
    obtain⟨ps,az,au⟩:=cn (show(qQ xs).bind _=_ from e);split at au
    ·rename_i agi
     exists au
     obtain⟨v,rfl,a,fJ,rfl,cu,cM⟩:=iZ aV;obtain⟨u,rfl,eW⟩:=bq.one
     exists eW
     obtain⟨a5,bA,⟨o,nn,aZ,aT,D9,kd⟩,hz⟩:=I.list cu.gi;obtain⟨ws,aO,g1,g2,g3,gL⟩:=pairs_at I az cM bA;have eS:=PL az;have abL:aO.H=ps.H:=by rw[g3,<-bA.H,<-cM.H,eS]
     have DA:ws.H=ps.H:=(cJ.length g1).symm;have abM:ps.H<=dg:=qr<|eA agi;refine callType_codes (Q₁:=λobj dN=>obj=.ref s.L/\dN={ s with heap:=s.heap.push { cls:=.type "dict",data:=.dict #[]}}) F.kt_called_dict (F.kt_typeCall_dict_1 _) F.entry_dict_init (kt_code_dict_new _ ⟨rfl,rfl⟩) ?_;rintro obj dN ⟨rfl,rfl⟩;have Bw:(s.heap.push { cls:=.type "dict",data:=.dict #[]}).DictOf (hI X.R X.w) s.L []:=Heap.DictOf.new s.D;refine⟨Bw.typeIs,F.args_dict_init_2 _ _,?_⟩;have PM:a<s.L:=d6 aZ;have ll:=ed { cls:=.type "dict",data:=.dict #[]} aZ;unfold Builtin.«dict.__init__»;refine a8 ?_;unfold Builtin.Dict.selfAndRest;refine a8<|wpAny_notOrdered_dict Bw.typeIs ?_;show bl _ _ (pure (s.L,[Value.ref a])) _ _ _;refine bZ ?_;show bl _ _ (Builtin.Dict.updateFrom "dict.__init__" s.heap.objs.size ZN [] .none) _ _ _;unfold Builtin.Dict.updateFrom;refine a8<|sj (T:="list") ⟨o,ll,aT⟩ ?_;rw[Y2 Z0];refine a8 (abB ll aT kd D9 bp λh' bx b8=>?_);rw[Y2<|by rfl];refine a8<|l9 ?_;have m5:h'.IsList a a5.Q:=⟨o,b8 a o ll,aT,nn,kd⟩
     have PN:h'.DictOf (hI X.R X.w) s.L []:=let ⟨dh,es,ep,kq,r⟩:=Bw;⟨dh,es,ep,b8 _ _ kq,r⟩
     have F5:s.L<h'.E.O:=let ⟨dh,es,ep,kq,r⟩:=PN;d6 kq
     have hsz:a5.Q.O=aO.H:=by rw[eU,g3]
     have ba:a≠h'.E.O:=bv<|wo PM F5;refine a8<|Ca m5 ?_;refine bZ ⟨oH D7 _,?_⟩;have W:=Walks.list (prog:=X.R) (w:=X.w) (A:=X.A.in1.in1) bp h'.E.O a ba a5.Q;rw[hsz]at W;refine abE (knd:=hI X.R X.w) (h₀:=h') (ps:=aO) W (λhm=>?_) .none (by rw[abL];exact abM) (λi v aF=>?_) aO.H 0 _ rfl (gH _) ⟨⟨_,gC _ rfl,rfl,rfl⟩,m5.push _⟩ (λb dh _ _ e=>ed _ e) (PN.push _) λak Ak ky u9=>?_
     ·simp at hm;rcases hm with hm|hm
      ·exact absurd F5 (by rw[<-hm];exact oF _)
      ·exact absurd PM (by rw[<-hm];exact oF _)
     ·obtain⟨hT,fI,x,y,⟨b,dh,gg,key,rfl,rfl,_,aq,abN,fQ,lX,_⟩,aK⟩:=gL i v (by simpa using aF);have TV:b<s.L:=d6 aq;exact⟨b,fI,key,y,dh,gg,rfl,bv TV,by simp;exact bv<|wo TV F5,b8 b dh<|ed _ aq,abN,fQ,lX,aK⟩
     ·have aF:H s.L=C:=I.b1.fresh<|cg _;have vg:(ws.foldl (λd p=>iH d p.1 p.2) []).H<=dg:=by have:=al2 ws [];simp at this;lia
      have eH:=I.laid (a:=s.L) (o:=.aw<|ws.foldl (λd p=>iH d p.1 p.2) []) (t':=Ak) (h':=ak) (λb u q=>ky b u (bv<|d6 q) (by simp;exact bv<|wo (d6 q) F5)<|b8 b u<|ed _ q) (cg _)
       (Dy vg (beq_eq_false_iff_ne.mpr<|Ne.symm<|bv I.bh) (fq.fold g2 .nil) u9)
      exact⟨rfl,.ref s.L,_,eH,rfl,k _ _ (.new aF) (aQ.new aF) ⟨_,rfl,aF,_,fC,cJ.mono (.new aF) _ _ (cJ.fold g1<|by rw[cJ])⟩⟩
    ·exists au
   |cons _ _=>exists e
  |_=>exists e
end
end bj.bO
namespace bj.Tm
open PySem PyProof.Rows
section
variable {O:Type}{M:Model}{A:dI}{E:mt->aR->Prop}{s:aR}{α β:Type}{Q:α->O->Prop}{st:O}
def tk(h:wpS M A E s m Q st):bl M A (m st) (λr s'=>s'=s/\Q r.1 r.2) E s:=h
end
section
variable {O:Type}{M:Model}{A:dI}{E:mt->aR->Prop}{s:aR}{α:Type}{Q:α->O->Prop}{st:O}{m₁ m₂:StateT O Sem α}
def iD[Decidable c](af:c->wpS M A E s m₁ Q st)(ak:¬c->wpS M A E s m₂ Q st):wpS M A E s (if c then m₁ else m₂) Q st:=by
 split
 ·exact af ‹_›
 ·exact ak ‹_›
def jJ{x y:Nat}(af:x=y->wpS M A E s m₁ Q st)(ak:x≠y->wpS M A E s m₂ Q st):wpS M A E s (if(x==y)=Y0 then m₁ else m₂) Q st :=
 iD (λc=>af<|eq_of_beq c) λc=>ak λe=>c<|beq_iff_eq.mpr e
def tl[Decidable p](af:p->wpS M A E s m₁ Q st)(ak:¬p->wpS M A E s m₂ Q st):wpS M A E s (if decide p=Y0 then m₁ else m₂) Q st :=
 iD (λc=>af<|of_decide_eq_true c) λc=>ak λe=>c<|decide_eq_true e
end
def ph{O:Type}{M:Model}{α:Type}{m:StateT O Sem α}{Q:α->O->Prop}{st:O}(h:∀e9,e9=Q->wpS M A E s m e9 st):wpS M A E s m Q st:=h Q rfl
def pj{β:Type}{v:β}{G:β->Prop}(P:β->Prop)(bS:P v)(h:∀x,P x->G x):∀x,x=v->G x:=λx e=>h x<|e▸bS
def PO:Bool->b3->Array b3->Nat->Nat->Nat->StateT dP Sem (Option Nat):=sortPriv% PySem.Builtin.gallop
section
variable {prog:dx}{w:c3}{A:dI}{E:mt->aR->Prop}{s:aR}{κ:wF}{du:Array b3}{rk:b3->Nat}
def om(prog:dx)(w:c3)(A:dI)(E:mt->aR->Prop)(s:aR)(κ:wF)(du:Array b3)(rk:b3->Nat):Prop :=
 ∀(st:dP) (x y:b3) (Q:Option Bool->dP->Prop),hl st=κ->x∈du->y∈du->Q (J<|decide (rk x<rk y)) st->wpS Z9 A E s (lt' x y) Q st
noncomputable def at_(rk:b3->Nat)(xs:Array b3)(i:Nat):Nat:=(xs[i]?.map rk).getD 0
def f3(rk:b3->Nat)(xs:Array b3)(lo hi:Nat):Prop:=∀i j,lo<=i->i<=j->j<hi->at_ rk xs i<=at_ rk xs j
def ij{arr:Array b3}{i:Nat}{st:dP}{Q:b3->dP->Prop}(h:i<arr.O)(q:Q arr[i] st):wpS Z9 A E s (elem' arr i) Q st:=by rw[elem'_eq,t9 h];exact c6 q
def hA(rk:b3->Nat)(left:Bool)(key:b3)(arr:Array b3)(i:Nat):Bool:=if left then decide (at_ rk arr i<rk key) else !decide (rk key<at_ rk arr i)
def hh{i:Nat}(h:i<xs.O):at_ rk xs i=rk xs[i]:=by unfold at_;rw[t9 h];rfl
def al3{left:Bool}{base n:Nat}(aP:f3 rk arr base<|base+n){i j:Nat}(jH:i<=j)(bU:j<n)(h:hA rk left key arr (base+j)=Y0):hA rk left key arr (base+i)=Y0:=by
 have:=aP (base+i) (base+j) (gd _ _) (h8 jH _)<|nx bU _;unfold hA at *
 exists left
 ·simp at h |-;exact bP this h
 ·simp at h |-;exact gT this h
def abO(el:om prog w A E s κ du rk){st:dP}(aW:hl st=κ){left:Bool}{key:b3}{arr:Array b3}{i:Nat}(lX:key∈du)(L2:∀x∈arr,x∈du)(hi:i<arr.O)
  {Q:Option Bool->dP->Prop} (h:Q (J<|hA rk left key arr i) st):wpS Z9 A E s (do
   let x<-elem' arr i
   if left=Y0 then lt' x key else do
    let y<-lt' key x
    pure (Option.map (λx=>!x) y)) Q st:=by
 refine cz<|ij hi ?_;have hm:arr[i]∈du:=L2 _<|jW hi;unfold hA at h;rw[hh hi]at h;cases left with
 |true=>rw[Y2 rfl]at h |-;exact el st _ _ _ aW hm lX h
 |false =>
  rw[Y3 Z0]at h |-;exact cz<|el st _ _ _ aW lX hm<|c6 h
inductive sI {S:Type} (L R:Nat->Prop) (cD:dP) (n d:Nat):Option S×Nat×Nat->dP->Prop
 |mk (l r:Nat) (af:l<=r) (ak:r<=n) (bc:r-l<=d) (gL:∀i,i<l->L i) (mQ:∀i,r<=i->i<n->R i):sI L R cD n d (C,l,r) cD
inductive zf {S:Type} (T F:Nat->Prop) (cD:dP) (x:Nat):Option S×Nat×Nat->dP->Prop
 |mk (cy f:Nat) (af:T cy) (bc:cy<f) (cL:x+1<=f\/F f):zf T F cD x (C,cy,f) cD
def Uu{l r:Nat}(h:l<r):(r-l) / 2<r-l:=Nat.div_lt_self (G4 h) Z0
def half{l r:Nat}(h:l<r):l<=l+(r-l) / 2/\l+(r-l) / 2<r:=⟨gd _ _,Nat.add_lt_of_lt_sub'<|Uu h⟩
def UZ{l r n x:Nat}(h:l<r)(d:r-l<=n-x):r-(l+(r-l) / 2+1)<=n-(x+1)/\l+(r-l) / 2-l<=n-(x+1):=by have e:r-(l+1)<=n-(x+1):=GY d 1;exact⟨bP (G1 (wj (half h).1) r) e,bP (by rw[yA];exact GZ<|Uu h) e⟩
def twice{x f:Nat}(h:x+1<=f):f<2*f+1/\x+1+1<=2*f+1:=⟨t5<|t2 _ Z0,wj<|bP h<|t2 _ Z0⟩
def xD(el:om prog w A E s κ du rk){st:dP}(aW:hl st=κ){left:Bool}{key:b3}{arr:Array b3}{base n hint:Nat}(lX:key∈du)(L2:∀x∈arr,x∈du)(aq:base+n<=arr.O)(bp:hint<n)(aP:f3 rk arr base<|base+n)
  {Q:Option Nat->dP->Prop} (h:∀k,k<=n->(∀i,i<k->hA rk left key arr (base+i)=Y0)->(∀i,k<=i->i<n->hA rk left key arr (base+i)=Y1)->Q (J k) st):wpS Z9 A E s (PO left key arr base n hint) Q st:=by
 unfold PO;unfold wpS;wp_delta;wp_delta;refine tk ?_;dsimp only;have pos:∀{i j:Nat},i<=j->j<n->hA rk left key arr (base+j)=Y0->hA rk left key arr (base+i)=Y0:=λjH bU=>al3 aP jH bU;have neg:∀{i j:Nat},i<=j->j<n->hA rk left key arr (base+i)=Y1->hA rk left key arr (base+j)=Y1:=λ{i j} jH bU hf=>by
  cases e:hA rk left key arr (base+j) with
  |false=>rfl
  |true=>rw[pos jH bU e]at hf;exact hf
 have at':∀{i:Nat},i<n->base+i<arr.O:=λhi=>d5 (nx hi _) aq;revert pos neg;generalize de:(λi=>hA rk left key arr<|base+i)=B;have PQ:∀i,hA rk left key arr (base+i)=B i:=λi=>congrFun de i;simp only[PQ]at h |-;intro pos neg
 have ask:∀{i:Nat} {Q:Option Bool->dP->Prop},i<n->Q (J<|B i) st->wpS Z9 A E s (do
   let x<-elem' arr (base+i)
   if left=Y0 then lt' x key else do
    let y<-lt' key x
    pure (Option.map (λx=>!x) y)) Q st:=λ{i Q} hi q=>abO el aW lX L2 (at' hi) (by rw[PQ];exact q)
 refine cz<|ask bp ?_;dsimp only;have fin:∀{c:Option (Option Nat)×Nat×Nat} {c1:dP},sI (λi=>B i=Y0) (λi=>B i=Y1) st n 0 c c1->∃k,c=(C,k,k)/\c1=st/\Q (J k) st:=λh'=>by obtain⟨l,r,af,ak,bc,cL,eh⟩:=h';have:l=r:=h9 af<|yB<|h9 bc<|gH _;subst this;exact⟨l,rfl,rfl,h l ak cL eh⟩
 cases aU:B hint with
 |true =>
  rw[Y2 rfl]
  refine cz (lF (mO
   (I:=zf (λcy=>hint+cy<n/\B (hint+cy)=Y0) (λ_=>False) st)
   (Q:=zf (λcy=>hint+cy<n/\B (hint+cy)=Y0) (λf=>n-hint<=f\/hint+f<n/\B (hint+f)=Y1) st n) ?step ?fin (.mk 0 1 ⟨bp,aU⟩ Z0<|.inl Z0)) ?post)
  case fin =>
   intro c c1 fB;obtain⟨cy,f,af,ak,bc⟩:=fB;exact .mk cy f af ak<|.inr<|.inl<|bc.elim (λz=>by lia) False.elim
  case step =>
   intro x c c1 _ av fB;obtain⟨cy,f,af,ak,bc⟩:=fB;dsimp only;refine iD (λaZ=>c6<|.mk cy f af ak<|.inr<|.inl aZ) λaZ=>?_;have hf:hint+f<n:=by lia
   refine cz<|ask hf ?_;dsimp only;cases hm:B (hint+f) with
   |true =>
    rw[Y3 Z0];have t:=twice<|bc.elim id False.elim;exact c6<|.mk f (2*f+1) ⟨hf,hm⟩ t.1<|.inl t.2
   |false =>
    rw[Y2 Z0];exact c6<|.mk cy f af ak<|.inr<|.inr ⟨hf,hm⟩
  case post =>
   intro c c1 fB;obtain⟨cy,f,⟨af,ku⟩,ak,bc⟩:=fB;dsimp only
   refine cz (lF (mO (I:=λx=>sI (λi=>B i=Y0) (λi=>B i=Y1) st n<|n-x) (Q:=sI (λi=>B i=Y0) (λi=>B i=Y1) st n 0) ?Al ?fin2
    (.mk (hint+cy+1) (hint+min f (n-hint)) Z3 Z3 Z3 (λi hi=>pos (ki hi) af ku) λi hi pf=>?up)) ?Mh)
   case up =>
    rcases bc with bc|bc|⟨cL,eh⟩
    ·lia
    ·lia
    ·exact neg Z3 pf eh
   case fin2 =>
    intro c c1 h';rw[lf,B2]at h';exact h'
   case Mh =>
    intro c c1 h';obtain⟨k,rfl,rfl,q⟩:=fin h';exact c6 q
   case Al =>
    intro x c c1 _ av h';obtain⟨l,r,af,ak,bc,cL,eh⟩:=h';dsimp only;refine iD (λjI=>c6<|.mk l r af ak (d2<|GX jI) cL eh) λjI=>?_;have dD:=sd jI;obtain⟨cR,gv⟩:=half dD;obtain⟨d8,fz⟩:=UZ dD bc;have jz:=d5 gv ak;refine cz<|ask jz ?_;dsimp only;cases hm:B (l+(r-l) / 2) with
    |true =>
     rw[Y2 rfl];exact c6<|.mk _ r gv ak d8 (λi gz=>pos (ki gz) jz hm) eh
    |false =>
     rw[Y3 Z0];exact c6 (.mk l _ cR (eA jz) fz cL λi gz pf=>neg gz pf hm)
 |false =>
  rw[Y3 Z0]
  refine cz (lF (mO
   (I:=zf (λcy=>cy<=hint/\B (hint-cy)=Y1) (λ_=>False) st)
   (Q:=zf (λcy=>cy<=hint/\B (hint-cy)=Y1) (λf=>hint+1<=f\/f<=hint/\B (hint-f)=Y0) st n) ?step ?fin (.mk 0 1 ⟨gH _,aU⟩ Z0<|.inl Z0)) ?post)
  case fin =>
   intro c c1 fB;obtain⟨cy,f,af,ak,bc⟩:=fB;exact .mk cy f af ak<|.inr<|.inl<|bc.elim (λz=>by lia) False.elim
  case step =>
   intro x c c1 _ av fB;obtain⟨cy,f,af,ak,bc⟩:=fB;dsimp only;refine iD (λaZ=>c6<|.mk cy f af ak<|.inr<|.inl aZ) λaZ=>?_;have hf:f<=hint:=by lia
   refine cz<|ask (gT (mJ _ _) bp) ?_;dsimp only;cases hm:B (hint-f) with
   |true =>
    rw[Y2 rfl];exact c6<|.mk cy f af ak<|.inr<|.inr ⟨hf,hm⟩
   |false =>
    rw[Y3 Z0];have t:=twice<|bc.elim id False.elim;exact c6<|.mk f (2*f+1) ⟨hf,hm⟩ t.1<|.inl t.2
  case post =>
   intro c c1 fB;obtain⟨cy,f,⟨af,ku⟩,ak,bc⟩:=fB;dsimp only
   refine cz (lF (mO (I:=λx=>sI (λi=>B i=Y0) (λi=>B i=Y1) st n<|n-x) (Q:=sI (λi=>B i=Y0) (λi=>B i=Y1) st n 0) ?Al ?fin2
    (.mk (hint+1-min f (hint+1)) (hint-cy) Z3 Z3 Z3 (λi hi=>?mV) λi hi pf=>neg hi pf ku)) ?Mh)
   case mV =>
    rcases bc with bc|bc|⟨cL,eh⟩
    ·lia
    ·lia
    ·exact pos Z3 (gT (mJ _ _) bp) eh
   case fin2 =>
    intro c c1 h';rw[lf,B2]at h';exact h'
   case Mh =>
    intro c c1 h';obtain⟨k,rfl,rfl,q⟩:=fin h';exact c6 q
   case Al =>
    intro x c c1 _ av h';obtain⟨l,r,af,ak,bc,cL,eh⟩:=h';dsimp only;refine iD (λjI=>c6<|.mk l r af ak (d2<|GX jI) cL eh) λjI=>?_;have dD:=sd jI;obtain⟨cR,gv⟩:=half dD;obtain⟨d8,fz⟩:=UZ dD bc;have jz:=d5 gv ak;refine cz<|ask jz ?_;dsimp only;cases hm:B (l+(r-l) / 2) with
    |true =>
     rw[Y2 rfl];exact c6<|.mk _ r gv ak d8 (λi gz=>pos (ki gz) jz hm) eh
    |false =>
     rw[Y3 Z0];exact c6 (.mk l _ cR (eA jz) fz cL λi gz pf=>neg gz pf hm)
end
def PR:Array b3->Array b3->StateT dP Sem (Array b3):=sortPriv% PySem.Builtin.mergeLo
def PS:Array b3->Array b3->StateT dP Sem (Array b3):=sortPriv% PySem.Builtin.mergeHi
section
variable {rk:b3->Nat}{cy e0 o:List b3}{cb b9:Nat}
structure gE (rk:b3->Nat) (cy e0 o:List b3) (cb b9:Nat):Prop where
 perm:o.Perm<|cy.take cb++e0.take b9
 lS:o.Pairwise λx y=>rk x<=rk y
 p8:∀x∈o,∀y∈cy.drop cb,rk x<=rk y
 p9:∀x∈o,∀y∈e0.drop b9,rk x<=rk y
abbrev eY(rk:b3->Nat)(l:List b3):Prop:=l.Pairwise λx y=>rk x<=rk y
def gE.swap(h:gE rk cy e0 o cb b9):gE rk e0 cy o b9 cb:=⟨h.perm.trans r3,h.lS,h.p9,h.p8⟩
def gE.app(h:gE rk cy e0 o cb b9)(a0:eY rk cy)(k:Nat)(av:∀x∈(cy.drop cb).take k,∀y∈e0.drop b9,rk x<=rk y):gE rk cy e0 (o++(cy.drop cb).take k) (cb+k) b9:=by
 have hd:eY rk<|cy.drop cb:=a0.sublist<|wg _ _;have aiI:(cy.drop cb).take k++(cy.drop cb).drop k=cy.drop cb:=pN k _;rw[<-aiI]at hd;obtain⟨af,ak,bc⟩:=pP.mp hd;refine⟨?_,?_,?_,?_⟩
 ·have:cy.take (cb+k)=cy.take cb++(cy.drop cb).take k:=GV;rw[this];refine(h.perm.append_right _).trans ?_;rw[h7,h7];exact(r3).append_left _
 ·refine pP.mpr ⟨h.lS,af,λx av y aK=>h.p8 x av y<|tU aK⟩
 ·intro x fm y aK;have PT:y∈(cy.drop cb).drop k:=by rw[BV];exact aK
  rcases hR.mp fm with fm|fm
  ·exact h.p8 x fm y<|we PT
  ·exact bc x fm y PT
 ·intro x fm y aK;rcases hR.mp fm with fm|fm
  ·exact h.p9 x fm y aK
  ·exact av x fm y aK
def gE.Va(h:gE rk cy e0 o cb b9)(a0:eY rk cy)(aq:e0.H<=b9):eY rk (o++cy.drop cb)/\(o++cy.drop cb).Perm (cy++e0):=by refine⟨pP.mpr ⟨h.lS,a0.sublist<|wg _ _,h.p8⟩,?_⟩;refine(h.perm.append_right _).trans ?_;rw[wd aq,h7];refine((r3).append_left _).trans ?_;rw[<-h7,pN]
end
def gE.last{cb b9:Nat}(h:gE rk cy e0 o cb b9)(a0:eY rk cy)(cV:eY rk e0)(av:∀x∈e0.drop b9,∀y∈cy.drop cb,rk x<=rk y):eY rk (o++e0.drop b9++cy.drop cb)/\(o++e0.drop b9++cy.drop cb).Perm (cy++e0):=by
 refine⟨pP.mpr ⟨pP.mpr ⟨h.lS,cV.sublist<|wg _ _,h.p9⟩,a0.sublist<|wg _ _,λx fm y aK=>?_⟩,?_⟩
 ·rcases hR.mp fm with fm|fm
  ·exact h.p8 x fm y aK
  ·exact av x fm y aK
 ·refine((h.perm.append_right _).append_right _).trans ?_;rw[h7<|cy.take cb,pN,h7];refine(List.Perm.append_left _ r3).trans ?_;rw[<-h7,pN]
def gE.good{rk:b3->Nat}{cy e0 o:List b3}{cb b9:Nat}(h:gE rk cy e0 o cb b9)(a0:eY rk cy)(cV:eY rk e0)(av:e0.H<=b9\/cy.H<=cb):eY rk (o++cy.drop cb++e0.drop b9)/\(o++cy.drop cb++e0.drop b9).Perm (cy++e0):=by
 rcases av with av|av
 ·rw[wc av,r7];exact h.Va a0 av
 ·rw[wc av,r7];obtain⟨af,ak⟩:=h.swap.Va cV av;exact⟨af,ak.trans r3⟩
def abP(out:Array b3)(x:b3):(out.push x).B=out.B++[x]:=by simp
def PU(out a:Array b3)(i j:Nat):(out++a.extract i j).B=out.B++(a.toList.drop i).take (j-i):=by rw[wu,B5,BN]
def Ea(out a:Array b3)(i:Nat):(out++a.extract i a.O).B=out.B++a.toList.drop i:=by rw[PU,wd<|by rw[gc,gI];exact cg _]
def Eb(a:Array b3){i:Nat}(h:i<a.O):(a.toList.drop i).take 1=[a[i]]:=by
 have h':i<a.B.H:=by simpa using h
 rw[pL h'];simp
abbrev jm(st:dP)(g:Nat):dP:=SortSt.mk' (hl st) (cC st) (fy st) g<|q0 st
inductive HP {α β γ ζ:Type} (In:Nat->α->β->γ->Prop) (st:dP) (n:Nat):Option (Array b3)×α×β×γ×ζ->dP->Prop
 |mk (g:Nat) (u:α) (v:β) (w:γ) (z:ζ) (h:In n u v w):HP In st n (C,u,v,w,z)<|jm st g
inductive Cw {α β γ ζ:Type} (G:Array b3->Prop) (In:Nat->α->β->γ->Prop) (st:dP) (n:Nat):Option (Array b3)×α×β×γ×ζ->dP->Prop
 |ret (g:Nat) (r:Array b3) (z:α×β×γ×ζ) (h:G r):Cw G In st n (J r,z)<|jm st g
 |go (g:Nat) (u:α) (v:β) (w:γ) (z:ζ) (h:In n u v w):Cw G In st n (C,u,v,w,z)<|jm st g
def xE{M:Model}{A:dI}{E:mt->aR->Prop}{s:aR}{α β γ ζ:Type}{In:Nat->α->β->γ->Prop}{G:Array b3->Prop}{st:dP}(m:Nat->Nat)(q:Nat){N:Nat}{f:Nat->Option (Array b3)×α×β×γ×ζ->StateT dP Sem (ForInStep<|Option (Array b3)×α×β×γ×ζ)}{g:Nat}{u:α}{v:β}{w:γ}{z:ζ}
  {Q:Option (Array b3)×α×β×γ×ζ->dP->Prop} (h:In (m 0) u v w)
  (Mg:∀x g u v w z,x<N->In (m x) u v w->wpS M A E s (f x (C,u,v,w,z)) (λr c1=>match r with|.done cH=>Cw G In st q cH c1|.yield cH=>HP In st (m<|x+1) cH c1) (jm st g))
  (agj:∀u v w,In (m N) u v w->In q u v w) (agk:∀g r z,G r->Q (J r,z) (jm st g)) (abQ:∀g u v w z,In q u v w->Q (C,u,v,w,z) (jm st g)):wpS M A E s (forIn [0:N] (C,u,v,w,z) f) Q<|jm st g:=by
 refine lF (mO (I:=λx=>HP In st<|m x) (Q:=Cw G In st q) (λx c c1 _ av h=>?_) (λc c1 h=>?_)<|.mk g u v w z h) λc c1 h=>?_
 ·obtain⟨g,u,v,w,z,h⟩:=h;exact lF (Mg x g u v w z av h) λr c1 h=>by exists r<;>exact h
 ·rw[lf]at h;obtain⟨g,u,v,w,z,h⟩:=h;exact .go g u v w z<|agj u v w h
 ·rcases h with⟨g,r,z,h⟩|⟨g,u,v,w,z,h⟩
  ·exact agk g r z h
  ·exact abQ g u v w z h
section
variable {prog:dx}{w:c3}{A:dI}{E:mt->aR->Prop}{s:aR}{κ:wF}{du:Array b3}{rk:b3->Nat}
def jb(rk:b3->Nat)(a b r:Array b3):Prop:=eY rk r.B/\r.toList.Perm (a.B++b.B)
def Uv(h:eY rk l){i:Nat}(hi:i<l.H):∀y∈l.drop i,rk l[i]<=rk y:=by
 intro y aK;rw[pL hi]at aK;have hd:eY rk<|l.drop i:=h.sublist<|wg _ _;rw[pL hi]at hd;rcases d4.mp aK with rfl|aK
 ·exact cg _
 ·exact(jT.mp hd).1 y aK
def gE.v8{a b out:Array b3}{cb b9:Nat}(h:gE rk a.B b.B out.B cb b9)(cV:eY rk b.B)(aq:b9<b.O)(av:∀y∈a.toList.drop cb,rk b[b9]<=rk y):gE rk a.B b.B (out.push b[b9]).B cb (b9+1):=by have:=h.swap.app cV 1 (by rw[Eb b aq];intro x fm y aK;rw[oy.mp fm];exact av y aK);rw[Eb b aq]at this;rw[abP];exact this.swap
def gE.v9{a b out:Array b3}{cb b9:Nat}(h:gE rk a.B b.B out.B cb b9)(a0:eY rk a.B)(ba:cb<a.O)(av:∀y∈b.toList.drop b9,rk a[cb]<=rk y):gE rk a.B b.B (out.push a[cb]).B (cb+1) b9:=(gE.v8 (a:=b) (b:=a) h.swap a0 ba av).swap
def gE.BB{a b out:Array b3}{cb b9 k:Nat}(h:gE rk a.B b.B out.B cb b9)(a0:eY rk a.B)(av:∀x∈(a.toList.drop cb).take k,∀y∈b.toList.drop b9,rk x<=rk y):gE rk a.B b.B (out++a.extract cb (cb+k)).B (cb+k) b9:=by rw[PU,yA];exact h.app a0 k av
def gE.L3{a b out:Array b3}{cb b9 k:Nat}(h:gE rk a.B b.B out.B cb b9)(cV:eY rk b.B)(av:∀x∈(b.toList.drop b9).take k,∀y∈a.toList.drop cb,rk x<=rk y):gE rk a.B b.B (out++b.extract b9 (b9+k)).B cb (b9+k):=(gE.BB (a:=b) (b:=a) h.swap cV av).swap
def Am{cb b9:Nat}(h:gE rk a.B b.B out.B cb b9)(a0:eY rk a.B)(cV:eY rk b.B)(av:b.O<=b9\/a.O<=cb):jb rk a b<|out++a.extract cb a.O++b.extract b9 b.O:=by unfold jb;rw[Ea,Ea];exact h.good a0 cV (by simpa using av)
def Ec{cb b9:Nat}(h:gE rk a.B b.B out.B cb b9)(a0:eY rk a.B)(cV:eY rk b.B)(av:∀x∈b.toList.drop b9,∀y∈a.toList.drop cb,rk x<=rk y):jb rk a b<|out++b.extract b9 b.O++a.extract cb a.O:=by unfold jb;rw[Ea,Ea];exact h.last a0 cV av
def vh{a:Array b3}(h:eY rk a.B){i:Nat}(hi:i<a.O):∀y∈a.toList.drop i,rk a[i]<=rk y:=λy aK=>by have:=Uv h (i:=i) (by simpa using hi) y aK;simpa using this
def xF{lo hi:Nat}(h:eY rk a.B)(bp:hi<=a.O):f3 rk a lo hi:=λi j _ jH bU=>by
 have af:i<a.O:=(gT jH<|d5 bU bp)
 have ak:j<a.O:=(d5 bU bp)
 rw[hh af,hh ak]
 have:=Uv h (i:=i) (by simpa using af) a[j] (by
  rw[yo]
  exact⟨j-i,by rw[gc,gI];lia,by rw[yu];simp;congr 1;exact nv jH⟩)
 simpa using this
def An{a:Array b3}{i k:Nat}{x:b3}(h:x∈(a.toList.drop i).take k):∃j,j<k/\∃aP:i+j<a.O,x=a[i+j]:=by obtain⟨j,bU,rfl⟩:=yo.mp h;rw[jU,gc,gI]at bU;exact⟨j,(d5 bU<|Nat.min_le_left _ _),by lia,by rw[yv,yu];simp⟩
def PV:Nat->StateT dP Sem Unit:=sortPriv% PySem.Builtin.setMinGallop
def Ed{st:dP}{g:Nat}{Q:Unit->dP->Prop}(h:Q ()<|jm st g):wpS Z9 A E s (PV g) Q st:=by unfold PV;unfold wpS;wp_delta;wp_delta;refine tk ?_;exact wD h
structure ra (rk:b3->Nat) (a b:Array b3) (n:Nat) (out:Array b3) (cb b9:Nat):Prop where
 m:gE rk a.B b.B out.B cb b9
 p:cb+1<a.O
 q:b9<b.O
 s:n<=cb+b9
def ra.le{n m cb b9:Nat}(h:ra rk a b n out cb b9)(l:m<=n):ra rk a b m out cb b9:=⟨h.m,h.p,h.q,bP l h.s⟩
def abR(el:om prog w A E s κ du rk){st:dP}(aW:hl st=κ){a b:Array b3}(ba:∀x∈a,x∈du)(aq:∀x∈b,x∈du)(a0:eY rk a.B)(cV:eY rk b.B)(na:0<a.O)(nb:0<b.O)
  (hf:rk b[0]<rk a[0]) (aB:∀x∈b,rk x<rk a[a.O-1])
  {Q:Array b3->dP->Prop} (h:∀r g,jb rk a b r->Q r (jm st g)):wpS Z9 A E s (PR a b) Q st:=by
 have same:∀r,jb rk a b r->Q r st:=λr aU=>h r (su st) aU;have Gj:∀(cb b9:Nat),cb+1=a.O->∀x∈b.toList.drop b9,∀y∈a.toList.drop cb,rk x<=rk y:=λcb b9 he x av y aK=>by
  have hi:cb<a.B.H:=by rw[gI];exact d5 (oE _)<|d2 he
  have hd:a.toList.drop cb=[a[a.O-1]]:=by rw[pL hi,wc<|by rw[gI,he];exact cg _];simp[<-he]
  rw[hd]at aK;rw[oy.mp aK];exact eA (aB x<|by simpa using we av)
 have start:gE rk a.B b.B (#[b[0]]:Array b3).B 0 1:=gE.v8 (out:=#[]) ⟨by simp,.nil,by simp,by simp⟩ cV nb λy aK=>bP (eA hf)<|vh a0 na y aK;unfold PR;unfold wpS;wp_delta;wp_delta;refine tk ?_;refine cz<|sv<|l9 ⟨rfl,?_⟩
 repeat fail
 refine cz<|ij nb ?_
 repeat fail
 refine jJ (λb6=>c6<|same _<|Am start a0 cV<|.inl<|d2 b6.symm) λb6=>jJ (λdA=>c6<|same _<|Ec start a0 cV<|Gj 0 1 dA) λdA=>?_;refine cz<|oK ?_
 repeat fail
 refine cz (xE (In:=ra rk a b) (G:=jb rk a b) (λx=>x+1) (a.O+b.O) ⟨start,sa na dA,sa nb b6,cg _⟩ ?step (λ_ _ _ h=>h.le<|t7 _) (λg r _ aU=>c6<|h r g aU) λg out cb b9 a3 h=>?post)
 case post =>
  have af:=h.p;have ak:=h.q;have bc:=h.s;lia
 case step =>
  intro x g out cb b9 a3 av af;show wpS _ _ _ _ (Bind.bind _ _) _ _;dsimp (zeta:=Y1) (zetaHave:=Y1) only;refine cz (xE (G:=jb rk a b) (z:=(0,0)) (λy=>x+1+y) (x+2) af ?s1 (λ_ _ _ h=>h.le<|BX<|oC na) (λg r z aU=>?bA) λg out cb b9 z af=>?dC)
  case s1 =>
   intro y g out cb b9 z aK fk;obtain⟨g1,g2,g3,gL⟩:=fk;obtain⟨ac,rb⟩:=z;have tm:=kP g2;show wpS _ _ _ _ (Bind.bind _ _) _ _;dsimp (zeta:=Y1) (zetaHave:=Y1) only;refine cz<|ij g3<|cz<|ij tm<|cz<|el _ _ _ _ aW (aq _<|jW _) (ba _<|jW _) ?_;dsimp (zeta:=Y1) (zetaHave:=Y1) only;refine tl (λhw=>?_) λhw=>?_
   ·refine cz (ij g3 ?_)
    repeat fail
    have cR:=g1.v8 cV g3 λy aK=>bP (eA hw)<|vh a0 tm y aK;refine jJ (λc=>c6<|.ret _ _ _<|Am cR a0 cV<|.inl<|d2 c.symm) λc=>?_;have bz:ra rk a b (x+1+y+1) _ cb<|b9+1:=⟨cR,g2,sa g3 c,wj gL⟩
    exact iD (λ_=>c6<|.go _ _ _ _ _<|bz.le Z3) λ_=>c6<|.mk _ _ _ _ _ bz
   ·refine cz (ij tm ?_)
    repeat fail
    have cR:=g1.v9 a0 tm λy aK=>bP (hS hw)<|vh cV g3 y aK;refine jJ (λc=>c6<|.ret _ _ _<|Ec cR a0 cV<|Gj _ _ c) λc=>?_;have bz:ra rk a b (x+1+y+1) _ (cb+1) b9:=⟨cR,sa g2 c,g3,by lia⟩
    exact iD (λ_=>c6<|.go _ _ _ _ _<|bz.le Z3) λ_=>c6<|.mk _ _ _ _ _ bz
  case bA =>
   repeat fail
   exact c6<|.ret _ _ _ aU
  case dC =>
   obtain⟨ac,rb⟩:=z;show wpS _ _ _ _ (Bind.bind _ _) _ _;dsimp (zeta:=Y1) (zetaHave:=Y1) only;refine cz<|sv<|l9 ⟨rfl,?_⟩
   repeat fail
   refine cz (xE (G:=jb rk a b) (z:=(_,ac,rb)) (λ_=>x+2) (x+2) af ?s2 (λ_ _ _ h=>h) (λg r z aU=>?cp) λg out cb b9 z af=>?c7)
   case cp =>
    repeat fail
    exact c6<|.ret _ _ _ aU
   case c7 =>
    obtain⟨a3,ac,rb⟩:=z;show wpS _ _ _ _ (Bind.bind _ _) _ _;dsimp (zeta:=Y1) (zetaHave:=Y1) only
    repeat fail
    exact cz<|Ed<|c6<|.mk _ _ _ _ _ af
   case s2 =>
     intro y g out cb b9 z aK fk;obtain⟨g1,g2,g3,gL⟩:=fk;obtain⟨a3,ac,rb⟩:=z;have tm:=kP g2
     fail;fail;fail;fail;fail;fail;fail;fail;fail;fail;fail
     dsimp (zeta:=Y1) (zetaHave:=Y1) only;refine ph ?_;intro e9 gA;extract_lets+onlyGivenNames-underBinder jpv;clear_value (hjpv:jpv=_);revert jpv;refine pj (P:=λjp=>∀u m,wpS Z9 A E s (jp u m) e9<|jm st g) ?rd ?k0
     case k0 =>
      subst gA;intro jp bU;refine iD (λ_=>?_) λ_=>bU _ _
      fail
      exact bU _ _
     case rd =>
      subst gA;intro u rz;refine cz<|Ed<|cz<|ij g3<|cz (xD (st:=jm st rz) (arr:=a) (base:=cb) (n:=a.O-cb) el aW (aq _<|jW _) ba Z3 (G4 tm) (xF a0 Z3) λk pg qw vf=>?_);dsimp (zeta:=Y1) (zetaHave:=Y1) only;have lo:∀x∈(a.toList.drop cb).take k,∀y∈b.toList.drop b9,rk x<=rk y:=λx av y aK=>by obtain⟨j,bU,aP,rfl⟩:=An av;have:=qw j bU;unfold hA at this;rw[hh aP]at this;simp at this;exact bP this<|vh cV g3 y aK
      have hi:∀(aP:cb+k<a.O),rk b[b9]<rk a[cb+k]:=λaP=>by have:=vf k (cg _) Z3;unfold hA at this;rw[hh aP]at this;simpa using this
      fail
      refine ph ?_;intro e9 gA;extract_lets+onlyGivenNames-underBinder jpv;clear_value (hjpv:jpv=_);revert jpv;refine pj (P:=λjp=>∀u (pH:Array b3) (qx:Nat),ra rk a b (x+2) pH qx b9->(dD:qx<a.O)->rk b[b9]<rk a[qx]->wpS Z9 A E s (jp u pH qx) e9 (jm st rz)) ?nO ?k1
      case k1 =>
       subst gA;intro jp bU;refine iD (λaW=>?_) λaW=>?_
       ·fail;fail
        have cR:=g1.BB a0 lo;refine jJ (λc=>c6<|.ret _ _ _<|Ec cR a0 cV<|Gj _ _ c) λc=>jJ (λcH=>c6<|.ret _ _ _<|Am cR a0 cV<|.inr<|d2 cH.symm) λcH=>?_;exact bU _ _ _ ⟨cR,by lia,g3,by lia⟩ Z3<|hi Z3
       ·have:k=0:=(h9 (hS aW)<|gH _)
        subst this;exact bU _ _ _ ⟨g1,g2,g3,gL⟩ tm<|hi tm
      case nO =>
       subst gA;intro u pH qx aM Ao fV;refine cz<|ij g3 ?_
       fail;fail
       have cR:=aM.m.v8 cV g3 λy aK=>bP (eA fV)<|vh a0 Ao y aK;refine jJ (λc=>c6<|.ret _ _ _<|Am cR a0 cV<|.inl<|d2 c.symm) λc=>?_;have sF:=sa g3 c;refine cz<|ij Ao<|cz (xD (st:=jm st rz) (arr:=b) (base:=b9+1) (n:=b.O-(b9+1)) el aW (ba _<|jW _) aq Z3 (G4 sF) (xF cV Z3) λk2 n3 vi Ap=>?_);dsimp (zeta:=Y1) (zetaHave:=Y1) only;have vj:∀x∈(b.toList.drop (b9+1)).take k2,∀y∈a.toList.drop qx,rk x<=rk y:=λx av y aK=>by obtain⟨j,bU,aP,rfl⟩:=An av;have:=vi j bU;unfold hA at this;rw[hh aP]at this;simp at this;exact bP (eA this)<|vh a0 Ao y aK
       have kv:∀(aP:b9+1+k2<b.O),rk a[qx]<=rk b[b9+1+k2]:=λaP=>by have:=Ap k2 (cg _) Z3;unfold hA at this;rw[hh aP]at this;simpa using this
       fail
       refine ph ?_;intro e9 gA;extract_lets+onlyGivenNames-underBinder jpv;clear_value (hjpv:jpv=_);revert jpv;refine pj (P:=λjp=>∀u (wa:Array b3) (xG:Nat),ra rk a b (x+3) wa qx xG->(dD:xG<b.O)->rk a[qx]<=rk b[xG]->wpS Z9 A E s (jp u wa xG) e9 (jm st rz)) ?uG ?k2
       case k2 =>
        subst gA;intro jp bU;refine iD (λaW=>?_) λaW=>?_
        ·fail;fail
         have gv:=cR.L3 cV vj;refine jJ (λcH=>c6<|.ret _ _ _<|Am gv a0 cV<|.inl<|d2 cH.symm) λcH=>?_;have uy:b9+1+k2<b.O:=by lia
         exact bU _ _ _ ⟨gv,aM.p,uy,by have:=aM.s;lia⟩ uy<|kv uy
        ·have:k2=0:=(h9 (hS aW)<|gH _)
         subst this;exact bU _ _ _ ⟨cR,aM.p,sF,wj aM.s⟩ sF<|kv sF
       case uG =>
        subst gA;intro u wa xG dC c7 jA;refine cz<|ij Ao ?_
        fail;fail
        have jz:=dC.m.v9 a0 Ao λy aK=>bP jA<|vh cV c7 y aK;refine jJ (λcH=>c6<|.ret _ _ _<|Ec jz a0 cV<|Gj _ _ cH) λcH=>?_;have bz:ra rk a b (x+2) _ (qx+1) xG:=⟨jz,sa aM.p cH,c7,by have:=dC.s;lia⟩
        exact iD (λ_=>c6<|.go _ _ _ _ _ bz) λ_=>c6<|.mk _ _ _ _ _ bz
end
section
variable {rk:b3->Nat}{cy e0 R:List b3}{na nb:Nat}
structure g0 (rk:b3->Nat) (cy e0 R:List b3) (na nb:Nat):Prop where
 perm:R.Perm<|cy.drop na++e0.drop nb
 lS:eY rk R
 p8:∀x∈cy.take na,∀y∈R,rk x<=rk y
 p9:∀x∈e0.take nb,∀y∈R,rk x<=rk y
def g0.swap(h:g0 rk cy e0 R na nb):g0 rk e0 cy R nb na:=⟨h.perm.trans r3,h.lS,h.p9,h.p8⟩
def g0.app(h:g0 rk cy e0 R na nb)(a0:eY rk cy)(m:Nat)(hm:m<=na)(av:∀x∈(cy.drop m).take (na-m),∀y∈e0.take nb,rk y<=rk x):g0 rk cy e0 ((cy.drop m).take (na-m)++R) m nb:=by
 have hd:cy.drop m=(cy.drop m).take (na-m)++cy.drop na:=by
  have:(cy.drop m).drop (na-m)=cy.drop na:=by rw[BV];congr 1;exact nv hm
  rw[<-this,pN]
 have cA:cy.take na=cy.take m++(cy.drop m).take (na-m):=by have:=GV (l:=cy) (i:=m) (j:=na-m);rw[show m+(na-m)=na from(nv hm)]at this;exact this
 have st:eY rk<|cy.take na:=a0.sublist<|ys _ _;rw[cA]at st;obtain⟨s1,s2,s3⟩:=pP.mp st;refine⟨?_,?_,?_,?_⟩
 ·refine(h.perm.append_left _).trans ?_;rw[<-h7,<-hd]
 ·exact pP.mpr ⟨s2,h.lS,λx fm y aK=>h.p8 x (by rw[cA];exact l3 _ fm) y aK⟩
 ·intro x fm y aK;rcases hR.mp aK with aK|aK
  ·exact s3 x fm y aK
  ·exact h.p8 x (by rw[cA];exact pO _ fm) y aK
 ·intro x fm y aK;rcases hR.mp aK with aK|aK
  ·exact av y aK x fm
  ·exact h.p9 x fm y aK
def g0.fin(h:g0 rk cy e0 R na nb)(a0:eY rk cy)(cV:eY rk e0)(av:∀x∈cy.take na,∀y∈e0.take nb,rk x<=rk y):eY rk (cy.take na++e0.take nb++R)/\(cy.take na++e0.take nb++R).Perm (cy++e0):=by
 refine⟨pP.mpr ⟨pP.mpr ⟨a0.sublist<|ys _ _,cV.sublist<|ys _ _,av⟩,h.lS,λx fm y aK=>?_⟩,?_⟩
 ·rcases hR.mp fm with fm|fm
  ·exact h.p8 x fm y aK
  ·exact h.p9 x fm y aK
 ·refine(h.perm.append_left _).trans ?_;have p:(cy.take na++e0.take nb++(cy.drop na++e0.drop nb)).Perm (cy.take na++cy.drop na++(e0.take nb++e0.drop nb)):=by rw[h7,h7];refine List.Perm.append_left _ ?_;rw[<-h7,<-h7];exact r3.append_right _
  rw[pN,pN]at p;exact p
end
section
variable {prog:dx}{w:c3}{A:dI}{E:mt->aR->Prop}{s:aR}{κ:wF}{du:Array b3}{rk:b3->Nat}
def Aq(a:Array b3)(m n:Nat):(a.extract m n).B=(a.toList.drop m).take (n-m):=by rw[B5,BN]
def al4(out:Array b3)(x:b3):(out.push x).B.reverse=[x]++out.B.reverse:=by simp
def akl(out c:Array b3):(out++c.reverse).B.reverse=c.B++out.B.reverse:=by simp
def Ee(a:Array b3)(n:Nat):(a.extract 0 n).B=a.toList.take n:=by rw[Aq];simp
def g0.v9{a b out:Array b3}{na nb:Nat}(h:g0 rk a.B b.B out.B.reverse na nb)(a0:eY rk a.B)(h0:0<na)(ba:na-1<a.O)(av:∀y∈b.toList.take nb,rk y<=rk a[na-1]):g0 rk a.B b.B (out.push a[na-1]).B.reverse (na-1) nb:=by
 have e:(a.toList.drop<|na-1).take (na-(na-1))=[a[na-1]]:=by rw[show na-(na-1)=1 from(Nat.sub_sub_self h0),Eb a ba]
 have:=h.app a0 (na-1) (mJ _ _) (by rw[e];intro x fm y aK;rw[oy.mp fm];exact av y aK);rw[e]at this;rw[al4];exact this
def g0.v8{a b out:Array b3}{na nb:Nat}(h:g0 rk a.B b.B out.B.reverse na nb)(cV:eY rk b.B)(h0:0<nb)(aq:nb-1<b.O)(av:∀y∈a.toList.take na,rk y<=rk b[nb-1]):g0 rk a.B b.B (out.push b[nb-1]).B.reverse na (nb-1):=(g0.v9 (a:=b) (b:=a) h.swap cV h0 aq av).swap
def g0.BB{a b out:Array b3}{na nb m:Nat}(h:g0 rk a.B b.B out.B.reverse na nb)(a0:eY rk a.B)(hm:m<=na)(av:∀x∈(a.toList.drop m).take (na-m),∀y∈b.toList.take nb,rk y<=rk x):g0 rk a.B b.B (out++(a.extract m na).reverse).B.reverse m nb:=by rw[akl,Aq];exact h.app a0 m hm av
def g0.L3{a b out:Array b3}{na nb m:Nat}(h:g0 rk a.B b.B out.B.reverse na nb)(cV:eY rk b.B)(hm:m<=nb)(av:∀x∈(b.toList.drop m).take (nb-m),∀y∈a.toList.take na,rk y<=rk x):g0 rk a.B b.B (out++(b.extract m nb).reverse).B.reverse na m:=(g0.BB (a:=b) (b:=a) h.swap cV hm av).swap
def Ar{a b out:Array b3}{na nb:Nat}(h:g0 rk a.B b.B out.B.reverse na nb)(a0:eY rk a.B)(cV:eY rk b.B)(av:na=0\/nb=0):jb rk a b<|a.extract 0 na++b.extract 0 nb++out.reverse:=by
 unfold jb;rw[wu,wu,Ee,Ee,M6];refine h.fin a0 cV ?_;rcases av with rfl|rfl
 ·intro x av;simp at av
 ·intro x _ y aK;simp at aK
def Ef{a b out:Array b3}{na nb:Nat}(h:g0 rk a.B b.B out.B.reverse na nb)(a0:eY rk a.B)(cV:eY rk b.B)(av:∀x∈b.toList.take nb,∀y∈a.toList.take na,rk x<=rk y):jb rk a b<|b.extract 0 nb++a.extract 0 na++out.reverse:=by unfold jb;rw[wu,wu,Ee,Ee,M6];obtain⟨af,ak⟩:=h.swap.fin cV a0 av;exact⟨af,ak.trans r3⟩
def xH{a:Array b3}(h:eY rk a.B){n:Nat}(h0:0<n)(bz:n-1<a.O):∀y∈a.toList.take n,rk y<=rk a[n-1]:=by intro y aK;obtain⟨j,bU,rfl⟩:=yo.mp aK;rw[jU,gI]at bU;rw[yv];have:=xF (rk:=rk) (lo:=0) (hi:=a.O) h (cg _) j (n-1) (gH _) Z3<|bz;rw[hh<|d5 bU<|B0 _ _,hh bz]at this;simpa using this
structure j1 (rk:b3->Nat) (a b:Array b3) (n na nb:Nat) (out:Array b3):Prop where
 m:g0 rk a.B b.B out.B.reverse na nb
 p:0<na
 q:na<=a.O
 r:1<nb
 t:nb<=b.O
 s:n+na+nb<=a.O+b.O
def j1.le{n m na nb:Nat}(h:j1 rk a b n na nb out)(l:m<=n):j1 rk a b m na nb out:=⟨h.m,h.p,h.q,h.r,h.t,by have:=h.s;lia⟩
def j1.ga{n na nb:Nat}(h:j1 rk a b n na nb out):na-1<a.O:=by have:=h.p;have:=h.q;lia
def j1.k7{n na nb:Nat}(h:j1 rk a b n na nb out):nb-1<b.O:=by have:=h.r;have:=h.t;lia
def j1.a1{n na nb:Nat}(h:j1 rk a b n na nb out)(m:g0 rk a.B b.B pH.B.reverse (na-1) nb)(c:na-1≠0):j1 rk a b (n+1) (na-1) nb pH:=⟨m,kh c,bP (mJ _ _) h.q,h.r,h.t,by have:=h.p;have:=h.s;lia⟩
def j1.cq{n na nb:Nat}(h:j1 rk a b n na nb out)(m:g0 rk a.B b.B pH.B.reverse na<|nb-1)(c:nb-1≠1):j1 rk a b (n+1) na (nb-1) pH:=⟨m,h.p,h.q,by have:=h.r;lia,bP (mJ _ _) h.t,by have:=h.r;have:=h.s;lia⟩
def abS(el:om prog w A E s κ du rk){st:dP}(aW:hl st=κ){a b:Array b3}(ba:∀x∈a,x∈du)(aq:∀x∈b,x∈du)(a0:eY rk a.B)(cV:eY rk b.B)(As:0<a.O)(Eg:0<b.O)
  (hf:∀x∈a,rk b[0]<rk x) (aB:∀x∈b,rk x<rk a[a.O-1])
  {Q:Array b3->dP->Prop} (h:∀r g,jb rk a b r->Q r (jm st g)):wpS Z9 A E s (PS a b) Q st:=by
 have same:∀r,jb rk a b r->Q r st:=λr aU=>h r (su st) aU;have Au:∀{nb} na,nb=1->∀x∈b.toList.take nb,∀y∈a.toList.take na,rk x<=rk y:=λna e x av y aK=>by
  subst e;have av:x=b[0]:=by have:=Eb b Eg;rw[yy]at this;rw[this]at av;exact oy.mp av
  rw[av];exact eA (hf y<|by simpa using tU aK)
 have xi:a.O-1<a.O:=wt As Z0;have start:g0 rk a.B b.B (#[a[a.O-1]]:Array b3).B.reverse (a.O-1) b.O:=by
  have h0:g0 rk a.B b.B (#[]:Array b3).B.reverse a.O b.O:=⟨by simp,by simp,by simp,by simp⟩
  exact h0.v9 a0 As xi λy aK=>eA (aB y<|by simpa using tU aK)
 unfold PS;unfold wpS;wp_delta;wp_delta;refine tk ?_;refine cz<|sv<|l9 ⟨rfl,?_⟩
 repeat fail
 refine cz<|ij (i:=a.O-1) xi ?_
 repeat fail
 refine jJ (λb6=>c6<|same _<|Ar start a0 cV<|.inl b6) λb6=>jJ (λdA=>c6<|same _<|Ef start a0 cV<|Au _ dA) λdA=>?_;refine cz<|oK ?_
 repeat fail
 refine cz (xE (In:=j1 rk a b) (G:=jb rk a b) (λx=>x+1) (a.O+b.O) ⟨start,kh b6,mJ _ _,by lia,cg _,by lia⟩ ?step (λ_ _ _ h=>h.le<|t7 _) (λg r _ aU=>c6<|h r g aU) λg na nb out a3 h=>?post)
 case post =>
  have af:=h.p;have bc:=h.s;lia
 case step =>
  intro x g na nb out a3 av af;show wpS _ _ _ _ (Bind.bind _ _) _ _;dsimp (zeta:=Y1) (zetaHave:=Y1) only;refine cz (xE (G:=jb rk a b) (z:=(0,0)) (λy=>x+1+y) (x+2) af ?s1 (λ_ _ _ h=>h.le<|BX<|oC As) (λg r z aU=>?bA) λg na nb out z af=>?dC)
  case s1 =>
   intro y g na nb out z aK fk;obtain⟨ac,rb⟩:=z;have ga:=fk.ga;have k7:=fk.k7;show wpS _ _ _ _ (Bind.bind _ _) _ _;dsimp (zeta:=Y1) (zetaHave:=Y1) only;refine cz<|ij k7<|cz<|ij ga<|cz<|el _ _ _ _ aW (aq _<|jW _) (ba _<|jW _) ?_;dsimp (zeta:=Y1) (zetaHave:=Y1) only;refine tl (λhw=>?_) λhw=>?_
   ·repeat fail
    refine cz<|ij ga ?_
    repeat fail
    have cR:=fk.m.v9 a0 fk.p ga λy aK=>bP (xH cV (kP fk.r) k7 y aK)<|eA hw;refine jJ (λc=>c6<|.ret _ _ _<|Ar cR a0 cV<|.inl c) λc=>?_;have bz:=fk.a1 cR c;exact iD (λ_=>c6<|.go _ _ _ _ _<|bz.le<|t5<|gd _ _) λ_=>c6<|.mk _ _ _ _ _ bz
   ·repeat fail
    refine cz<|ij k7 ?_
    repeat fail
    have cR:=fk.m.v8 cV (kP fk.r) k7 λy aK=>bP (xH a0 fk.p ga y aK)<|hS hw;refine jJ (λc=>c6<|.ret _ _ _<|Ef cR a0 cV<|Au _ c) λc=>?_;have bz:=fk.cq cR c;exact iD (λ_=>c6<|.go _ _ _ _ _<|bz.le<|t5<|gd _ _) λ_=>c6<|.mk _ _ _ _ _ bz
  case bA =>
   repeat fail
   exact c6<|.ret _ _ _ aU
  case dC =>
   obtain⟨ac,rb⟩:=z;show wpS _ _ _ _ (Bind.bind _ _) _ _;dsimp (zeta:=Y1) (zetaHave:=Y1) only;refine cz<|sv<|l9 ⟨rfl,?_⟩
   repeat fail
   refine cz (xE (G:=jb rk a b) (z:=(_,ac,rb)) (λ_=>x+2) (x+2) af ?s2 (λ_ _ _ h=>h) (λg r z aU=>?cp) λg na nb out z af=>?c7)
   case cp =>
    repeat fail
    exact c6<|.ret _ _ _ aU
   case c7 =>
    obtain⟨a3,ac,rb⟩:=z;show wpS _ _ _ _ (Bind.bind _ _) _ _;dsimp (zeta:=Y1) (zetaHave:=Y1) only
    repeat fail
    exact cz<|Ed<|c6<|.mk _ _ _ _ _ af
   case s2 =>
     intro y g na nb out z aK fk;obtain⟨a3,ac,rb⟩:=z;have ga:=fk.ga;have k7:=fk.k7
     fail;fail;fail;fail;fail;fail;fail;fail;fail;fail;fail
     dsimp (zeta:=Y1) (zetaHave:=Y1) only;refine ph ?_;intro e9 gA;extract_lets+onlyGivenNames-underBinder jpv;clear_value (hjpv:jpv=_);revert jpv;refine pj (P:=λjp=>∀u m,wpS Z9 A E s (jp u m) e9<|jm st g) ?rd ?k0
     case k0 =>
      subst gA;intro jp bU;refine iD (λ_=>?_) λ_=>bU _ _
      fail
      exact bU _ _
     case rd =>
      subst gA;intro u rz;refine cz<|Ed<|cz<|ij k7<|cz (xD (st:=jm st rz) (arr:=a) (base:=0) (n:=na) el aW (aq _<|jW _) ba (by have:=fk.q;exact yC this<|gH _) (wt fk.p Z0) (xF a0 (by have:=fk.q;exact yC this<|gH _)) λk pg qw vf=>?_);dsimp (zeta:=Y1) (zetaHave:=Y1) only;have lo:∀x∈(a.toList.drop k).take (na-k),∀y∈b.toList.take nb,rk y<=rk x:=λx av y aK=>by obtain⟨j,bU,aP,rfl⟩:=An av;have:=vf (k+j) (gd _ _) Z3;unfold hA at this;rw[t6,hh aP]at this;simp at this;exact bP (xH cV (kP fk.r) k7 y aK)<|eA this
      have hi:∀(h0:0<k) (aP:k-1<a.O),rk a[k-1]<=rk b[nb-1]:=λh0 aP=>by have:=qw (k-1)<|wt h0 Z0;unfold hA at this;rw[t6,hh aP]at this;simpa using this
      fail;fail
      refine ph ?_;intro e9 gA;extract_lets+onlyGivenNames-underBinder jpv;clear_value (hjpv:jpv=_);revert jpv;refine pj (P:=λjp=>∀u (qy:Nat) (pH:Array b3),j1 rk a b (x+2) qy nb pH->(dD:qy-1<a.O)->rk a[qy-1]<=rk b[nb-1]->wpS Z9 A E s (jp u qy pH) e9 (jm st rz)) ?nO ?k1
      case k1 =>
       subst gA;intro jp bU;refine iD (λaW=>?_) λaW=>?_
       ·fail;fail
        have cR:=fk.m.BB a0 pg lo;refine jJ (λc=>c6<|.ret _ _ _<|Ar cR a0 cV<|.inl c) λc=>?_;have bz:j1 rk a b (x+2) k nb _:=⟨cR,kh c,bP pg fk.q,fk.r,fk.t,by have:=fk.s;lia⟩
        exact bU _ _ _ bz bz.ga<|hi bz.p bz.ga
       ·have:k=na:=by lia
        subst this;exact bU _ _ _ fk ga<|hi fk.p ga
      case nO =>
       subst gA;intro u qy pH aM Av hu
       fail
       refine cz<|ij k7 ?_
       fail
       have cR:=aM.m.v8 cV (kP aM.r) k7 λy aK=>bP (xH a0 aM.p Av y aK) hu;refine jJ (λc=>c6<|.ret _ _ _<|Ef cR a0 cV<|Au _ c) λc=>?_;have bC:=aM.cq cR c;refine cz<|ij Av<|cz (xD (st:=jm st rz) (arr:=b) (base:=0) (n:=nb-1) el aW (ba _<|jW _) aq (by have:=bC.t;exact yC this<|gH _) (wt (kP bC.r) Z0) (xF cV (by have:=bC.t;exact yC this<|gH _)) λk2 n3 vi Ap=>?_);dsimp (zeta:=Y1) (zetaHave:=Y1) only;have vj:∀x∈(b.toList.drop k2).take (nb-1-k2),∀y∈a.toList.take qy,rk y<=rk x:=λx av y aK=>by obtain⟨j,bU,aP,rfl⟩:=An av;have:=Ap (k2+j) (gd _ _) Z3;unfold hA at this;rw[t6,hh aP]at this;simp at this;exact bP (xH a0 aM.p Av y aK) this
       have kv:∀(h0:0<k2) (aP:k2-1<b.O),rk b[k2-1]<rk a[qy-1]:=λh0 aP=>by have:=vi (k2-1)<|wt h0 Z0;unfold hA at this;rw[t6,hh aP]at this;simpa using this
       fail;fail
       refine ph ?_;intro e9 gA;extract_lets+onlyGivenNames-underBinder jpv;clear_value (hjpv:jpv=_);revert jpv;refine pj (P:=λjp=>∀u (xq:Nat) (wa:Array b3),j1 rk a b (x+2+1) qy xq wa->(dD:xq-1<b.O)->rk b[xq-1]<rk a[qy-1]->wpS Z9 A E s (jp u xq wa) e9 (jm st rz)) ?uG ?k2
       case k2 =>
        subst gA;intro jp bU;refine iD (λaW=>?_) λaW=>?_
        ·fail;fail
         have gv:=cR.L3 cV n3 vj;refine jJ (λcH=>c6<|.ret _ _ _<|Ef gv a0 cV<|Au _ cH) λcH=>jJ (λPW=>c6<|.ret _ _ _<|Ar gv a0 cV<|.inr PW) λPW=>?_;have bz:j1 rk a b (x+2+1) qy k2 _:=⟨gv,aM.p,aM.q,by lia,bP n3 bC.t,by have:=bC.s;lia⟩
         exact bU _ _ _ bz bz.k7<|kv (kP bz.r) bz.k7
        ·have:k2=nb-1:=by lia
         subst this;exact bU _ _ _ bC bC.k7<|kv (kP bC.r) bC.k7
       case uG =>
        subst gA;intro u xq wa dC c7 sJ
        fail
        refine cz<|ij Av ?_
        fail
        have jz:=dC.m.v9 a0 aM.p Av λy aK=>bP (xH cV (kP dC.r) c7 y aK)<|eA sJ;refine jJ (λcH=>c6<|.ret _ _ _<|Ar jz a0 cV<|.inl cH) λcH=>?_;have bz:=(dC.a1 jz cH).le (gd (x+2) 2);exact iD (λ_=>c6<|.go _ _ _ _ _ bz) λ_=>c6<|.mk _ _ _ _ _ bz
end
def abT(m:List b3):∀(n:Nat) (arr:Array b3) (lo:Nat),lo+n+m.H<=arr.O ->
  ((m.zipIdx n).foldl (λa (p:b3×Nat)=>a.setIfInBounds (lo+p.2) p.1) arr).B=arr.toList.take (lo+n)++m++arr.toList.drop (lo+n+m.H):=by
 induction m with
 |nil=>intro n arr lo h;simp
 |cons x m a4 =>
  intro n arr lo h;rw[List.zipIdx_cons,mI,a4 (n+1) _ lo<|by rw[Array.size_setIfInBounds,d9]at*;lia];rw[d9]at h;have dD:lo+n<arr.B.H:=by rw[gI];exact qT h
  rw[M3];have az:(arr.toList.set (lo+n) x).take (lo+(n+1))=arr.toList.take (lo+n)++[x]:=by rw[show lo+(n+1)=lo+n+1 from(yG _),MO,List.take_set_of_le<|cg _];rw[GH dD];rfl
  have au:(arr.toList.set (lo+n) x).drop (lo+(n+1)+m.H)=arr.toList.drop (lo+n+(x::m).H):=by rw[List.drop_set_of_lt Z3,d9];congr 1;lia
  rw[az,au];simp
def PX:Nat->StateT dP Sem Bool:=sortPriv% PySem.Builtin.mergeAt
section
variable {prog:dx}{w:c3}{A:dI}{E:mt->aR->Prop}{s:aR}{κ:wF}{du:Array b3}{rk:b3->Nat}
abbrev xI(st:dP)(p:Array<|Nat×Nat×Nat)(xs:Array b3)(g:Nat):dP:=SortSt.mk' (hl st) xs p g<|q0 st
structure JI (rk:b3->Nat) (xs m6:Array b3) (lo hi:Nat):Prop where
 perm:m6.Perm xs
 same:∀i,(i<lo\/hi<=i)->m6[i]?=xs[i]?
 lS:f3 rk m6 lo hi
def PY{lo hi i j:Nat}(h:f3 rk xs lo hi)(af:lo<=i)(ak:j<=hi)(bc:hi<=xs.O):eY rk (xs.extract i j).B:=by rw[Aq,eY,GD];intro p q aF a7 abU;rw[jU,gc,gI]at aF a7;rw[yv,yu,yv,yu];have:=h (i+p) (i+q) (oC af) (h8 (eA abU) _) Z3;rw[hh Z3,hh Z3]at this;simpa using this
def JJ{xs:Array b3}{i j k:Nat}(h:k<(xs.extract i j).O)(h':i+k<xs.O):(xs.extract i j)[k]=xs[i+k]:=by rw[Array.getElem_extract]
def Aw{xs:Array b3}{i j:Nat}(h:j<=xs.O):(xs.extract i j).O=j-i:=by rw[Array.size_extract,Nat.min_eq_left h]
def Eh{xs:Array b3}{i j:Nat}{x:b3}(bU:j<=xs.O)(h:x∈xs.extract i j):∃k,i<=k/\k<j/\∃aP:k<xs.O,x=xs[k]:=by obtain⟨k,aW,rfl⟩:=Array.mem_iff_getElem.mp h;rw[Aw bU]at aW;exact⟨i+k,(gd _ _),by lia,by lia,JJ _ _⟩
def abV{a0 na nb k k2:Nat}(hsz:a0+na+nb<=xs.O)(aW:k<na)(h0:0<k2)(qw:k2<=nb)(s1:f3 rk xs a0<|a0+na)(s2:f3 rk xs (a0+na)<|a0+na+nb)
  (lo:∀p,a0<=p->p<a0+k->at_ rk xs p<=at_ rk xs (a0+na)) (up:∀p,a0+k<=p->p<a0+na->at_ rk xs (a0+na)<at_ rk xs p)
  (vj:∀p,a0+na<=p->p<a0+na+k2->at_ rk xs p<at_ rk xs (a0+na-1)) (Ei:∀p,a0+na+k2<=p->p<a0+na+nb->at_ rk xs (a0+na-1)<=at_ rk xs p)
  (aU:jb rk (xs.extract (a0+k)<|a0+na) (xs.extract (a0+na)<|a0+na+k2) r) :
  JI rk xs (List.foldl (λa (p:b3×Nat)=>a.setIfInBounds (a0+k+p.2) p.1) xs r.B.zipIdx) a0 (a0+na+nb):=by
 obtain⟨b7,aF⟩:=aU;have ej:r.B.H=na-k+k2:=by rw[aF.length_eq,gr,gI,gI,Aw<|l4 hsz,Aw<|bP (h8 qw _) hsz,G0,yA]
 have au:a0+na+k2=a0+k+(na-k+k2):=by rw[<-yE,yE a0 k,nv<|eA aW]
 have W:=abT r.B 0 xs (a0+k) (by rw[ej,G8,<-au];exact bP (h8 qw _) hsz);rw[G8,ej]at W;generalize anY:List.foldl (λa (p:b3×Nat)=>a.setIfInBounds (a0+k+p.2) p.1) xs r.B.zipIdx=aO at W |-;have PZ:(xs.extract (a0+k)<|a0+na).B++(xs.extract (a0+na)<|a0+na+k2).B=(xs.toList.drop<|a0+k).take (na-k+k2):=by
  rw[Aq,Aq,GV,BV];congr 2
  ·exact G0 _ _ _
  ·exact yA _ _
  ·congr 1;lia
 have dD:(xs.toList.take<|a0+k).H=a0+k:=by rw[jU,gI];lia
 have hi:∀{p},a0+k<=p->p<a0+na+k2->p-(a0+k)<r.B.H:=λh h'=>by rw[ej];exact yz h<|au▸h'
 have g1:∀p,p<a0+k->aO[p]?=xs[p]?:=λp h=>by rw[<-lE,W,h7,yn<|d5 h<|d2 dD.symm,My h,lE]
 have g2:∀p,a0+k<=p->p<a0+na+k2->aO[p]?=r.B[p-(a0+k)]?:=λp h h'=>by rw[<-lE,W,h7,BM<|bP (d2 dD) h,dD,yn<|hi h h']
 have g3:∀p,a0+na+k2<=p->aO[p]?=xs[p]?:=λp h=>by rw[<-lE,W,BM (by rw[gr,dD,ej,<-au];exact h),gr,dD,ej,List.getElem?_drop,<-au,nv h,lE]
 have inr:∀p,a0+k<=p->p<a0+na+k2->∃q,a0+k<=q/\q<a0+na+k2/\at_ rk aO p=at_ rk xs q:=λp h h'=>by
  have hi:=hi h h';have hm:r.B[p-(a0+k)]∈(xs.toList.drop<|a0+k).take (na-k+k2):=by rw[<-PZ];exact aF.mem_iff.mp<|oA hi
  obtain⟨j,bU,aP,e⟩:=An hm;refine⟨a0+k+j,(gd _ _),by lia,?_⟩;rw[hh aP,<-e];unfold at_;rw[g2 p h h',hj hi];rfl
 have a1:∀p,p<a0+k->at_ rk aO p=at_ rk xs p:=λp h=>by unfold at_;rw[g1 p h]
 have k8:∀p,a0+na+k2<=p->at_ rk aO p=at_ rk xs p:=λp h=>by unfold at_;rw[g3 p h]
 refine⟨?_,λp h=>?_,λp q af ak bc=>?_⟩
 ·rw[M4,W];have:xs.B=xs.toList.take (a0+k)++((xs.toList.drop<|a0+k).take (na-k+k2)++xs.toList.drop (a0+k+(na-k+k2))):=by
   have e:xs.toList.drop (a0+k+(na-k+k2))=(xs.toList.drop<|a0+k).drop (na-k+k2):=by rw[BV]
   rw[e,pN,pN]
  rw[h7]
  conv=>rhs;rw[this]
  refine List.Perm.append_left _<|List.Perm.append_right _ ?_;rw[<-PZ];exact aF
 ·rcases h with h|h
  ·exact g1 p<|oC h
  ·exact g3 p<|bP (h8 qw _) h
 ·have key:∀u v,a0<=u->u<a0+na->a0+na<=v->v<a0+na+nb->(u<a0+k\/a0+na+k2<=v)->at_ rk xs u<=at_ rk xs v:=λu v cq cE fj wZ sL=>by
   rcases sL with sL|sL
   ·exact bP (lo u cq sL)<|s2 _ v (cg _) fj wZ
   ·exact bP (s1 u (a0+na-1) cq (t4 cE)<|BZ cE)<|Ei v sL wZ
  have cmp:∀u v,a0<=u->u<=v->v<a0+na+nb->(u<a0+k\/a0+na+k2<=v)->at_ rk xs u<=at_ rk xs v:=λu v cq cE fj wZ=>by
   rcases l5 v (a0+na) with c|c
   ·exact s1 u v cq cE c
   ·rcases l5 u (a0+na) with d|d
    ·exact key u v cq d c fj wZ
    ·exact s2 u v d cE fj
  rcases l5 p (a0+k) with b6|b6
  ·rw[a1 p b6];rcases l5 q (a0+k) with dA|dA
   ·rw[a1 q dA];exact cmp p q af ak bc<|.inl b6
   ·rcases l5 q (a0+na+k2) with j0|j0
    ·obtain⟨eN,aX,bb,e⟩:=inr q dA j0;rw[e];exact cmp p eN af (bP (eA b6) aX) (d5 bb<|h8 qw _)<|.inl b6
    ·rw[k8 q j0];exact cmp p q af ak bc<|.inl b6
  ·rcases l5 p (a0+na+k2) with dA|dA
   ·rcases l5 q (a0+na+k2) with j0|j0
    ·have eS:p-(a0+k)<r.O:=hi b6 dA;have abW:q-(a0+k)<r.O:=hi (bP b6 ak) j0;have:=xF (rk:=rk) (lo:=0) (hi:=r.O) b7 (cg _) (p-(a0+k)) (q-(a0+k)) (gH _) (GY ak _) abW;unfold at_ at this |-;rw[g2 p b6 dA,g2 q (bP b6 ak) j0,lE,lE];exact this
    ·obtain⟨fZ,aX,bb,e⟩:=inr p b6 dA;rw[e,k8 q j0];exact cmp fZ q (l4 aX) (bP (eA bb) j0) bc<|.inr j0
   ·rw[k8 p dA,k8 q<|bP dA ak];exact cmp p q af ak bc<|.inr<|bP dA ak
def al5{st c1:dP}{Q:PUnit->dP->Prop}(h:Q ⟨⟩ c1):wpS Z9 A E s (set c1:StateT dP Sem PUnit) Q st:=by unfold wpS;rw[StateT.run_set];exact bZ ⟨rfl,h⟩
def abX(el:om prog w A E s κ du rk){st:dP}(aW:hl st=κ)(aF:(cC st).Perm du)(abY:q0 st=C){i a0 na pa nb pb:Nat}(dC:(fy st)[i]?=J (a0,na,pa))(c7:(fy st)[i+1]?=J (a0+na,nb,pb))
  (As:0<na) (Eg:0<nb) (hsz:a0+na+nb<=(cC st).O) (s1:f3 rk (cC st) a0<|a0+na) (s2:f3 rk (cC st) (a0+na)<|a0+na+nb)
  {Q:Bool->dP->Prop} (h:∀xs g,JI rk (cC st) xs a0 (a0+na+nb)->Q Y0 (xI st Z03 xs g)):wpS Z9 A E s (PX i) Q st:=by
 unfold PX;unfold wpS;wp_delta;wp_delta;refine tk ?_;have rU:∀x∈cC st,x∈du:=λx av=>aF.mem_iff.mp av
 have done:(∀p q,a0<=p->p<a0+na->a0+na<=q->q<a0+na+nb->at_ rk (cC st) p<=at_ rk (cC st) q)->JI rk (cC st) (cC st) a0 (a0+na+nb):=λav=>⟨.refl _,λ_ _=>rfl,λp q af ak bc=>by
  rcases l5 q (a0+na) with c|c
  ·exact s1 p q af ak c
  ·rcases l5 p (a0+na) with cH|cH
   ·exact av p q af cH c bc
   ·exact s2 p q cH ak bc⟩
 have lj:a0+na<(cC st).O:=(d5 (BX Eg) hsz)
 refine cz<|oK ?_;rw[show(PyProof.Rows.pendingOf st)[i]?=J (a0,na,pa) from dC,show(PyProof.Rows.pendingOf st)[i+1]?=J (a0+na,nb,pb) from c7];dsimp (zeta:=Y1) (zetaHave:=Y1) only;refine cz<|al5 ?_;refine cz<|ij lj ?_;refine cz (xD (st:=xI st Z03 (cC st)<|su st) (arr:=cC st) (base:=a0) (n:=na) el aW (rU _<|jW _) rU (eA lj) As s1 λk pg qw vf=>?_);dsimp (zeta:=Y1) (zetaHave:=Y1) only;have lo:∀p,a0<=p->p<a0+k->at_ rk (cC st) p<=at_ rk (cC st) (a0+na):=λp af ak=>by have:=qw (p-a0)<|yz af ak;unfold hA at this;rw[show a0+(p-a0)=p from(nv af)]at this;rw[hh lj];simpa using this
 have up:∀p,a0+k<=p->p<a0+na->at_ rk (cC st) (a0+na)<at_ rk (cC st) p:=λp af ak=>by have:=vf (p-a0) (MW af)<|yz (l4 af) ak;unfold hA at this;rw[show a0+(p-a0)=p from(nv<|l4 af)]at this;rw[hh lj];simpa using this
 by_cases c:na-k=0
 ·rw[Y2<|by simpa using c];refine c6<|h _ (su st) (done λp q af ak bc cL=>bP (lo p af<|d5 ak<|h8 (yB c) _)<|s2 (a0+na) q (cg _) bc cL)
 rw[Y3<|by simpa using c];have w0:a0+k+(na-k)-1=a0+na-1:=by rw[yE,nv pg]
 have JK:a0+k+(na-k)-1<(cC st).O:=gT (d2 w0)<|B1 lj;refine cz<|ij JK ?_;refine cz (xD (st:=xI st Z03 (cC st)<|su st) (arr:=cC st) (base:=a0+na) (n:=nb) el aW (rU _<|jW _) rU (hsz) (wt Eg Z0) s2 λk2 n3 vi Ap=>?_);dsimp (zeta:=Y1) (zetaHave:=Y1) only;have vj:∀p,a0+na<=p->p<a0+na+k2->at_ rk (cC st) p<at_ rk (cC st) (a0+na-1):=λp af ak=>by have:=vi (p-(a0+na))<|yz af ak;unfold hA at this;rw[show a0+na+(p-(a0+na))=p from(nv af)]at this;rw[<-w0,hh JK];simpa using this
 have Ei:∀p,a0+na+k2<=p->p<a0+na+nb->at_ rk (cC st) (a0+na-1)<=at_ rk (cC st) p:=λp af ak=>by have:=Ap (p-(a0+na)) (MW af)<|yz (l4 af) ak;unfold hA at this;rw[show a0+na+(p-(a0+na))=p from(nv<|l4 af)]at this;rw[<-w0,hh JK];simpa using this
 by_cases cH:k2=0
 ·rw[Y2<|by simpa using cH];refine c6<|h _ (su st) (done λp q af ak bc cL=>bP (s1 p (a0+na-1) af (t4 ak)<|BZ ak)<|Ei q (by rw[cH];exact bc) cL)
 rw[Y3<|by simpa using cH]
 fail;fail
 refine ph ?_;intro e9 gA;extract_lets+onlyGivenNames-underBinder jpv;clear_value (hjpv:jpv=_);revert jpv;refine pj (P:=λjp=>∀(r:Array b3) g,jb rk ((cC st).extract (a0+k) (a0+na)) ((cC st).extract (a0+na) (a0+na+k2)) r->wpS Z9 A E s (jp r) e9 (xI st Z03 (cC st) g)) ?rd ?k0
 case k0 =>
  subst gA;intro jp bU;have Cx:((cC st).extract (a0+k) (a0+na)).O=na-k:=by rw[Aw<|eA lj,G0]
  have Cy:((cC st).extract (a0+na) (a0+na+k2)).O=k2:=by rw[Aw<|bP (h8 n3 _) hsz];exact yA _ _
  have ND:∀x∈(cC st).extract (a0+k) (a0+na),x∈du:=λx av=>by obtain⟨p,_,_,aP,rfl⟩:=Eh (eA lj) av;exact rU _<|jW _
  have NF:∀x∈(cC st).extract (a0+na) (a0+na+k2),x∈du:=λx av=>by obtain⟨p,_,_,aP,rfl⟩:=Eh (bP (h8 n3 _) hsz) av;exact rU _<|jW _
  have NG:eY rk ((cC st).extract (a0+k) (a0+na)).B:=PY s1 (gd _ _) (cg _)<|eA lj;have NH:eY rk ((cC st).extract (a0+na) (a0+na+k2)).B:=PY s2 (cg _) (h8 n3 _)<|hsz;have HQ:((cC st).extract (a0+na) (a0+na+k2))[0]'(d5 (kh cH)<|d2 Cy.symm)=(cC st)[a0+na]:=JJ (k:=0) _ lj;have cx:∀x∈(cC st).extract (a0+k) (a0+na),rk (((cC st).extract (a0+na) (a0+na+k2))[0]'(d5 (kh cH)<|d2 Cy.symm))<rk x:=λx av=>by obtain⟨p,aX,bb,aP,rfl⟩:=Eh (eA lj) av;rw[HQ];have:=up p aX bb;rw[hh aP,hh lj]at this;exact this
  have P0:∀x∈(cC st).extract (a0+na) (a0+na+k2),rk x<rk (((cC st).extract (a0+k) (a0+na))[((cC st).extract (a0+k) (a0+na)).O-1]'(Nat.sub_one_lt<|Cx▸c)):=λx av=>by
   have e:a0+k+(((cC st).extract (a0+k) (a0+na)).O-1)=a0+na-1:=by rw[Cx,<-MY (kh c),w0]
   obtain⟨p,aX,bb,aP,rfl⟩:=Eh (bP (h8 n3 _) hsz) av;rw[JJ (h':=by rw[e];exact B1 lj)];have:=vj p aX bb;rw[hh aP,hh<|B1 lj]at this;simp only[e];exact this
  split
  ·exact cz (abR (st:=xI st Z03 (cC st)<|su st) el aW ND NF NG NH (d5 (kh c)<|d2 Cx.symm) (d5 (kh cH)<|d2 Cy.symm) (cx _<|jW _) P0 λr g aU=>bU r g aU)
  ·exact cz (abS (st:=xI st Z03 (cC st)<|su st) el aW ND NF NG NH (d5 (kh c)<|d2 Cx.symm) (d5 (kh cH)<|d2 Cy.symm) cx P0 λr g aU=>bU r g aU)
 case rd =>
  subst gA;intro r g aU;refine cz<|wD ?_;refine cz<|oK ?_;refine c6 ?_;have e:(q0 st).isNone=Y0:=by rw[abY];rfl
  show e9 (q0 st).isNone _;rw[e];exact h _ g<|abV hsz (G3<|kh c) (kh cH) n3 s1 s2 lo up vj Ei aU
def P1(el:om prog w A E s κ du rk){st:dP}(aW:hl st=κ)(hm:∀x∈cC st,x∈du){i j:Nat}(hi:i<(cC st).O)(bU:j<(cC st).O){Q:Option Bool->dP->Prop}(h:Q (J<|decide (at_ rk (cC st) i<at_ rk (cC st) j)) st):wpS Z9 A E s (ltAt' i j) Q st:=by rw[ltAt'_eq];refine cz<|oK ?_;refine cz<|ij hi<|cz<|ij bU ?_;refine el st _ _ _ aW (hm _<|jW _) (hm _<|jW _) ?_;rw[hh hi,hh bU]at h;exact h
noncomputable def FX:Nat->Nat->Nat->StateT dP Sem Bool:=sortPriv% PySem.Builtin.binarySort
noncomputable def tL:Nat->Nat->StateT dP Sem (Option Nat):=sortPriv% PySem.Builtin.countRun
structure iE (xs m6:Array b3) (lo hi:Nat):Prop where
 perm:m6.Perm xs
 same:∀i,(i<lo\/hi<=i)->m6[i]?=xs[i]?
theorem iE.refl(xs:Array b3)(lo hi:Nat):iE xs xs lo hi:=⟨.refl _,λ_ _=>rfl⟩
theorem iE.trans{lo hi:Nat}(a:iE xs aO lo hi)(b:iE aO zs lo hi):iE xs zs lo hi:=⟨b.perm.trans a.perm,λi h=>(b.same i h).trans (a.same i h)⟩
def iE.size{lo hi:Nat}(a:iE xs aO lo hi):aO.O=xs.O:=a.perm.size_eq
def P2{lo ok:Nat}(h:f3 rk xs lo<|lo+ok):f3 rk xs lo<|lo+max ok 1:=λp q cq cE fj=>by
 rcases l5 q (lo+ok) with c|c
 ·exact h p q cq cE c
 ·have:p=q:=by lia
  subst this;exact cg _
def akm{lo hi:Nat}(h:∀p,lo<=p->p+1<hi->at_ rk xs p<=at_ rk xs (p+1)):f3 rk xs lo hi:=λi j cq cE fj=>by
 induction cE with
 |refl=>exact cg _
 |step cE a4=>exact bP (a4<|kP fj)<|h _ (bP cq cE) fj
def akn{lo l k:Nat}(aP:lo+k<xs.O)(aB:l<=k)(s:f3 rk xs lo<|lo+k)(gL:∀i,i<l->at_ rk xs (lo+i)<=at_ rk xs (lo+k))(mQ:∀i,l<=i->i<k->at_ rk xs (lo+k)<at_ rk xs (lo+i)) :
  (∀p,p<lo\/lo+k<p->(bubble xs (lo+k)<|lo+k-(lo+l))[p]?=xs[p]?)/\f3 rk (bubble xs (lo+k)<|lo+k-(lo+l)) lo (lo+k+1):=by
 have fF:=h8 aB lo;have e:∀p,(bubble xs (lo+k)<|lo+k-(lo+l))[p]?=if p=lo+l then xs[lo+k]? else if lo+l<p/\p<=lo+k then xs[p-1]? else xs[p]?:=λp=>by rw[getElem?_bubble aP _ (mJ _ _) p,Nat.sub_sub_self fF]
 refine⟨λp aF=>?_,akm λp cq cE=>?_⟩
 ·rw[e,Y3,Y3]
  ·exact λz=>aF.elim (λc=>G9 c<|gT (gd _ _) z.1) λc=>sb z.2 c
  ·rintro rfl;exact aF.elim (λc=>sb (gd _ _) c) λc=>sb fF c
 ·obtain⟨i,rfl⟩:=Nat.exists_eq_add_of_le cq;have fj:=Nat.lt_of_succ_lt_succ cE;unfold at_;rw[e,e];rcases Nat.lt_trichotomy i l with c|c|c
  ·have cH:=nx c lo;rw[Y3<|bv cH,Y3 λz=>G9 cH z.1];rcases Nat.eq_or_lt_of_le c with d|d
   ·rw[Y2 (show lo+i+1=lo+l from congrArg (lo+·) d)];exact gL i c
   ·have d':lo+i+1<lo+l:=nx d lo;rw[Y3<|bv d',Y3 λz=>G9 d' z.1];exact s _ _ cq (t7 _)<|d5 d' fF
  ·subst c;rw[Y2 rfl,Y3<|Nat.succ_ne_self _,Y2 ⟨oE _,fj⟩];exact eA<|mQ i (cg _)<|Nat.lt_of_add_lt_add_left fj
  ·have cH:=nx c lo;rw[Y3<|pS cH,Y2 ⟨cH,eA fj⟩,Y3<|pS<|oD cH,Y2 ⟨oD cH,fj⟩];exact s _ _ (GZ<|gT (gd _ _) cH) (mJ _ _) fj
inductive HR (rk:b3->Nat) (st:dP) (lo n k:Nat):Option Bool×Unit->dP->Prop
 |mk (xs:Array b3) (af:iE (cC st) xs lo<|lo+n) (ak:f3 rk xs lo<|lo+k) (bc:k<=n\/n=0):HR rk st lo n k (C,())<|jt st xs
def Gk{l r:Nat}(h:l<r):l<=(l+r) / 2/\(l+r) / 2<r:=by lia
def ako{l r n x:Nat}(h:l<r)(d:r-l<=n-x):r-((l+r) / 2+1)<=n-(x+1)/\(l+r) / 2-l<=n-(x+1):=by have e:r-(l+1)<=n-(x+1):=GY d 1;exact⟨bP (G1 (wj (Gk h).1) r) e,bP (GZ<|Nat.sub_lt_sub_right (Gk h).1 (Gk h).2) e⟩
def aiJ(el:om prog w A E s κ du rk){st:dP}(aW:hl st=κ)(aF:(cC st).Perm du){lo n ok:Nat}(bz:lo+n<=(cC st).O)(b1:ok<=n)(aP:f3 rk (cC st) lo<|lo+ok)
  {Q:Bool->dP->Prop} (h:∀xs,iE (cC st) xs lo (lo+n)->f3 rk xs lo (lo+n)->Q Y0 (jt st xs)):wpS Z9 A E s (FX lo n ok) Q st:=by
 unfold FX;unfold wpS;wp_delta;wp_delta;refine tk ?_;refine cz<|lF (mO (I:=HR rk st lo n) (Q:=HR rk st lo n n) ?step ?fin<|.mk (cC st) (.refl _ _ _) (P2 aP) Z3) ?post
 case fin =>
  intro c c1 fB;obtain⟨xs,af,ak,bc⟩:=fB;exact .mk xs af (λp q cq cE fj=>ak p q cq cE<|d5 fj<|h8 (G5 _ _) _)<|.inl<|cg _
 case post =>
  intro c c1 fB;obtain⟨xs,af,ak,bc⟩:=fB
  repeat fail
  exact c6<|h xs af ak
 case step =>
  intro k c c1 anZ abZ fB;obtain⟨xs,af,ak,bc⟩:=fB;have JL:lo+k<xs.O:=d5 (nx abZ lo)<|bP bz<|d2 af.O.symm;have hm:∀x∈xs,x∈du:=λx av=>(af.perm.trans aF).mem_iff.mp av
  repeat fail
  refine cz (lF (mO (I:=λx=>sI (λi=>at_ rk xs (lo+i)<=at_ rk xs (lo+k)) (λi=>at_ rk xs (lo+k)<at_ rk xs (lo+i)) (jt st xs) k<|k-x)
   (Q:=sI (λi=>at_ rk xs (lo+i)<=at_ rk xs (lo+k)) (λi=>at_ rk xs (lo+k)<at_ rk xs (lo+i)) (jt st xs) k 0) ?s1 ?f1 (.mk 0 k (gH _) (cg _) (cg _) (λi hi=>absurd hi<|Nat.not_lt_zero _) λi hi bU=>absurd bU<|sb hi)) ?dC)
  case f1 =>
   intro c c1 h';rw[lf,B2]at h';exact h'
  case s1 =>
   intro x c c1 _ av fB;obtain⟨l,r,g1,g2,g3,gL,mQ⟩:=fB
   repeat fail
   dsimp (zeta:=Y1) (zetaHave:=Y1) only;refine iD (λjI=>c6<|.mk l r g1 g2 (d2<|GX jI) gL mQ) λjI=>?_;have dD:=sd jI;obtain⟨cR,gv⟩:=Gk dD;obtain⟨d8,fz⟩:=ako dD g3;have jz:=d5 gv g2
   repeat fail
   refine cz<|P1 (st:=jt st xs) el aW hm JL (wo (nx jz lo) JL) ?_;dsimp (zeta:=Y1) (zetaHave:=Y1) only;refine tl (λhw=>?_) λhw=>?_
   ·repeat fail
    exact c6 (.mk l _ cR (eA jz) fz gL λp cq cE=>d5 hw<|ak _ _ (gd _ _) (h8 cq _)<|nx cE _)
   ·repeat fail
    exact c6<|.mk _ r gv g2 d8 (λp cq=>bP (ak _ _ (gd _ _) (h8 (ki cq) _)<|nx jz _)<|hS hw) mQ
  case dC =>
   intro c c1 fB;obtain⟨l,r,g1,g2,g3,gL,mQ⟩:=fB;have:l=r:=h9 g1<|yB<|h9 g3<|gH _;subst this
   repeat fail
   dsimp (zeta:=Y1) (zetaHave:=Y1) only;refine cz ?_;refine wD ?_;obtain⟨jc,mi⟩:=akn JL g2 ak gL mQ;have TX:k<n:=by lia
   exact c6<|.mk _ (af.trans ⟨bubble_perm _ _ _,λp xJ=>jc p (xJ.imp id λc=>d5 (nx TX _) c)⟩) mi<|.inl TX
def Ej{st:dP}{i j:Nat}{Q:Unit->dP->Prop}(h:Q ()<|jt st<|mirror (cC st) i j<|(j-i) / 2):wpS Z9 A E s (reverseSlice' i j) Q st:=by rw[reverseSlice'_eq];exact wD h
def P4{i j:Nat}(bU:j<=xs.O)(p:Nat):at_ rk (mirror xs i j<|(j-i) / 2) p=if i<=p/\p<j then at_ rk xs (i+j-1-p) else at_ rk xs p:=by unfold at_;rw[getElem?_mirror_all bU p];split<;>rfl
def JM{i j:Nat}(bU:j<=xs.O)(he:∀p,i<=p->p<j->at_ rk xs p=at_ rk xs (j-1))(p:Nat):at_ rk (mirror xs i j<|(j-i) / 2) p=at_ rk xs p:=by
 rw[P4 bU];split
 ·rename_i h;rw[he _ Z3 Z3,he p h.1 h.2]
 ·rfl
theorem iE.mirror{i j lo hi:Nat}(bU:j<=xs.O)(af:lo<=i)(ak:j<=hi):iE xs (mirror xs i j<|(j-i) / 2) lo hi:=⟨mirror_perm _ _ _ _,λp aF=>by
 rw[getElem?_mirror_all bU p,Y3 λz=>aF.elim (λc=>G6 c<|bP af z.1) λc=>sb (bP ak c) z.2]⟩
def uI(rk:b3->Nat)(xs:Array b3)(lo hi:Nat):Prop:=∀p q,lo<=p->p<=q->q<hi->at_ rk xs q<=at_ rk xs p
def P5{R:Nat->Nat->Prop}(Wg:∀a,R a a)(p3:∀{a b c},R a b->R b c->R a c){f:Nat->Nat}{lo x:Nat}(g:∀p q,lo<=p->p<=q->q<lo+x->R (f p) (f q))(hw:R (f<|lo+x-1)<|f<|lo+x):∀p q,lo<=p->p<=q->q<lo+(x+1)->R (f p) (f q):=λp q cq cE fj=>by
 rcases l5 q (lo+x) with c|c
 ·exact g p q cq cE c
 ·obtain rfl:q=lo+x:=h9 (ki fj) c;rcases l5 p (lo+x) with d|d
  ·exact p3 (g p (lo+x-1) cq (t4 d)<|BZ d) hw
  ·obtain rfl:p=lo+x:=h9 cE d;exact Wg _
def f3.ext{lo x:Nat}(g:f3 rk xs lo<|lo+x)(hw:at_ rk xs (lo+x-1)<=at_ rk xs (lo+x)):f3 rk xs lo<|lo+(x+1):=P5 (R:=(·<=·)) cg bP g hw
def uI.ext{lo x:Nat}(g:uI rk xs lo<|lo+x)(hw:at_ rk xs (lo+x)<=at_ rk xs (lo+x-1)):uI rk xs lo<|lo+(x+1):=P5 (R:=λa b=>b<=a) cg (λh h'=>bP h' h) g hw
inductive zg {S:Type} (P:Nat->Prop) (cD:dP):Option S×Nat->dP->Prop
 |mk (n:Nat) (h:P n):zg P cD (C,n) cD
structure Cz (rk:b3->Nat) (xs:Array b3) (lo nrem n:Nat):Prop where
 a:1<=n
 b:n<=nrem
 c:f3 rk xs lo<|lo+n
inductive ic {S:Type} (rk:b3->Nat) (st:dP) (lo nrem:Nat) (P:Nat->Prop):Option S×Nat×Nat->dP->Prop
 |mk (xs:Array b3) (n pk:Nat) (h:P n) (aX:iE (cC st) xs lo<|lo+nrem) (bb:uI rk xs lo<|lo+n) (cK:pk+1<=n) (fW:∀p,lo+n-(pk+1)<=p->p<lo+n->at_ rk xs p=at_ rk xs (lo+n-1)) (hV:n<=nrem):ic rk st lo nrem P (C,n,pk)<|jt st xs
def JN{lo x:Nat}:∀p,lo+(x+1)-(0+1)<=p->p<lo+(x+1)->at_ rk xs p=at_ rk xs (lo+(x+1)-1):=λ_ cq cE=>congrArg _<|h9 (ki cE) cq
def Ax(el:om prog w A E s κ du rk){st:dP}(aW:hl st=κ)(aF:(cC st).Perm du){lo nrem:Nat}(bz:lo+nrem<=(cC st).O)(af:1<=nrem)
  {Q:Option Nat->dP->Prop} (h:∀xs n,1<=n->n<=nrem->iE (cC st) xs lo (lo+nrem)->f3 rk xs lo (lo+n)->(f3 rk (cC st) lo (lo+nrem)->n=nrem)->Q (J n) (jt st xs)):wpS Z9 A E s (tL lo nrem) Q st:=by
 have ab0:∀{xs:Array b3},iE (cC st) xs lo (lo+nrem)->∀x∈xs,x∈du:=λm x av=>(m.perm.trans aF).mem_iff.mp av;have BF:∀{xs:Array b3} {x y:Nat} {Q:Option Bool->dP->Prop},iE (cC st) xs lo (lo+nrem)->x<nrem->y<nrem->Q (J<|decide (at_ rk xs (lo+x)<at_ rk xs (lo+y))) (jt st xs)->wpS Z9 A E s (ltAt' (lo+x)<|lo+y) Q (jt st xs):=λ{xs x y Q} m av aK q =>
  have hz:∀{x},x<nrem->lo+x<xs.O:=λav=>d5 (nx av _)<|bP bz<|d2 m.O.symm
  P1 (st:=jt st xs) el aW (ab0 m) (hz av) (hz aK) q
 have pred:∀{x:Nat},1<=x->lo+x-1=lo+(x-1):=λh=>MY h lo;have m0:iE (cC st) (cC st) lo<|lo+nrem:=.refl _ _ _;have tn:∀{xs:Array b3} {n:Nat},iE (cC st) xs lo (lo+nrem)->n<=nrem->lo+n<=xs.O:=λm g=>bP (h8 g _)<|bP bz<|d2 m.O.symm;unfold tL;unfold wpS;wp_delta;wp_delta;refine tk ?_
 refine cz (lF (mO (I:=λx=>zg (λn=>n=x/\Cz rk (cC st) lo nrem n) st) (Q:=zg (λn=>Cz rk (cC st) lo nrem n/\(n<nrem->at_ rk (cC st) (lo+n)<at_ rk (cC st) (lo+n-1))) st) ?s1 ?f1
  (.mk 1 ⟨rfl,cg _,af,P2 (ok:=0) λp q cq cE fj=>absurd (bP cq cE)<|G6 fj⟩)) ?dC)
 case f1 =>
  intro c c1 fB;obtain⟨n,rfl,g⟩:=fB;exact .mk _ ⟨g,λdD=>absurd dD<|sb<|G5 _ _⟩
 case s1 =>
  intro x c c1 _ av fB;obtain⟨n,rfl,g⟩:=fB
  repeat fail
  dsimp (zeta:=Y1) (zetaHave:=Y1) only;rw[pred g.a];refine cz<|BF m0 av (gT (mJ _ _) av) ?_;dsimp (zeta:=Y1) (zetaHave:=Y1) only;rw[<-pred g.a];refine tl (λhw=>c6<|.mk _ ⟨g,λ_=>hw⟩) λhw=>?_
  repeat fail
  exact c6<|.mk _ ⟨rfl,wk _ _,av,g.c.ext<|hS hw⟩
 case dC =>
  intro c c1 fB;obtain⟨n,⟨g1,g2,g3⟩,gL⟩:=fB
  repeat fail
  dsimp (zeta:=Y1) (zetaHave:=Y1) only;refine jJ (λc=>c6 (h _ n g1 g2 m0 g3 λ_=>c)) λc=>?_;have cH:=sa g2 c;have gL:=gL cH;have no:∀{m:Nat},f3 rk (cC st) lo (lo+nrem)->m=nrem:=λz=>absurd (z (lo+n-1) (lo+n) (t4<|h8 g1 _) (mJ _ _)<|nx cH _)<|G6 gL;refine ph ?_;intro e9 gA;extract_lets+onlyGivenNames-underBinder jpv;clear_value (hjpv:jpv=_);revert jpv;refine pj (P:=λjp=>∀u xs,iE (cC st) xs lo (lo+nrem)->(∀p,lo<=p->p<lo+n->at_ rk xs p=at_ rk xs lo)->at_ rk xs (lo+n)<at_ rk xs (lo+n-1)->wpS Z9 A E s (jp u) e9 (jt st xs)) ?rd ?k0
  case k0 =>
   subst gA;intro jp bU;refine iD (λ_=>?_) λab1=>?_
   ·have q:=BF (x:=0) (y:=n-1) (Q:=λr s'=>s'=st/\r=J (decide (at_ rk (cC st) lo<at_ rk (cC st) (lo+n-1)))) m0 af (gT (mJ _ _) cH) (by rw[pred g1];exact⟨rfl,rfl⟩);rw[<-pred g1]at q;refine cz<|lF q ?_;rintro r s' ⟨rfl,rfl⟩;dsimp (zeta:=Y1) (zetaHave:=Y1) only;refine tl (λhw=>c6<|h _ n g1 g2 m0 g3 no) λhw=>?_;have heq:∀p,lo<=p->p<lo+n->at_ rk (cC s') p=at_ rk (cC s') (lo+n-1):=λp cq cE =>
     h9 (g3 p (lo+n-1) cq (t4 cE)<|BZ cE) (bP (hS hw)<|g3 lo p (cg _) cq cE)
    have m7:=JM (rk:=rk) (xs:=cC s') (i:=lo) (j:=lo+n) (tn m0 g2) heq;refine cz<|Ej ?_;refine bU _ _ (.mirror (tn m0 g2) (cg _)<|h8 g2 _) (λp cq cE=>?_) ?_
    ·rw[m7,m7,heq p cq cE,heq lo (cg _)<|BX g1]
    ·rw[m7,m7];exact gL
   ·obtain rfl:n=1:=h9 (hS ab1) g1;exact bU _ _ m0 (λp cq cE=>congrArg _<|h9 (ki cE) cq) gL
  case rd =>
   subst gA;intro u xs cR az au;refine cz<|sv<|l9 ⟨rfl,?_⟩
   fail;fail
   have n0:uI rk xs lo<|lo+(n+1):=uI.ext (λp q cq cE fj=>by rw[az p cq<|gT cE fj,az q (bP cq cE) fj];exact cg _)<|eA au;refine cz<|lF (mO (I:=λx=>ic rk st lo nrem (·=x)) (Q:=ic rk st lo nrem λ_=>True) ?s2 ?f2<|.mk xs (n+1) 0 rfl cR n0 (wk _ _) JN cH) ?c7
   case f2 =>
    intro c pI fB;obtain⟨xs,n,pk,_,aX,bb,cK,fW,hV⟩:=fB;exact .mk xs n pk trivial aX bb cK fW hV
   case s2 =>
    intro x c pI JO av fB;obtain⟨xs,n,pk,rfl,aX,bb,cK,fW,hV⟩:=fB;have aM:=qU cK;have fm:=gT (mJ n 1) av
    repeat fail
    dsimp (zeta:=Y1) (zetaHave:=Y1) only;rw[pred aM];refine cz<|BF aX av fm ?_;dsimp (zeta:=Y1) (zetaHave:=Y1) only
    fail
    rw[<-pred aM];refine tl (λhw=>?_) λhw=>?_
    ·fail
     refine iD (λ_=>?_) λ_=>?_
     ·refine cz<|Ej ?_;have m7:=JM (rk:=rk) (xs:=xs) (i:=lo+n-(pk+1)) (j:=lo+n) (tn aX hV) fW
      repeat fail
      refine c6<|.mk _ _ 0 rfl (aX.trans<|.mirror (tn aX hV) (t4<|h8 cK _)<|h8 hV _) (λp q cq cE fj=>?_) (wk _ _) JN av;rw[m7,m7];exact bb.ext (eA hw) p q cq cE fj
     ·repeat fail
      exact c6<|.mk xs _ 0 rfl aX (bb.ext<|eA hw) (wk _ _) JN av
    ·rw[pred aM];refine cz<|BF aX fm av ?_;dsimp (zeta:=Y1) (zetaHave:=Y1) only;rw[<-pred aM];refine tl (λJP=>c6<|.mk xs n pk trivial aX bb cK fW hV) λJP=>?_
     repeat fail
     refine c6<|.mk xs _ (pk+1) rfl aX (bb.ext<|hS JP) (wj cK) (λp cq cE=>?_) av;have e:lo+(n+1)-1=lo+n:=rfl;rw[e];rcases l5 p (lo+n) with d|d
     ·rw[fW p (bP Z3 cq) d];exact h9 (hS hw)<|hS JP
     ·rw[show p=lo+n from h9 (ki cE) d]
   case c7 =>
    intro c pI fB;obtain⟨xs,n',pk,_,aX,bb,cK,fW,hV⟩:=fB
    repeat fail
    dsimp (zeta:=Y1) (zetaHave:=Y1) only;refine ph ?_;intro e9 gA;extract_lets+onlyGivenNames-underBinder jpv;clear_value (hjpv:jpv=_);revert jpv;refine pj (P:=λjp=>∀u xs,iE (cC st) xs lo (lo+nrem)->uI rk xs lo (lo+n')->wpS Z9 A E s (jp u) e9 (jt st xs)) ?nO ?k1
    case k1 =>
     subst gA;intro jp bU;refine iD (λ_=>?_) λ_=>bU _ xs aX bb;refine cz<|Ej ?_;have m7:=JM (rk:=rk) (xs:=xs) (i:=lo+n'-(pk+1)) (j:=lo+n') (tn aX hV) fW;exact bU _ _ (aX.trans<|.mirror (tn aX hV) (t4<|h8 cK _)<|h8 hV _) λp q cq cE fj=>by rw[m7,m7];exact bb p q cq cE fj
    case nO =>
     subst gA;intro u xs bA cp;refine cz<|Ej ?_;have m7:=P4 (rk:=rk) (xs:=xs) (i:=lo) (j:=lo+n')<|tn bA hV;have hF:iE (cC st) (mirror xs lo (lo+n')<|(lo+n'-lo) / 2) lo<|lo+nrem:=bA.trans<|.mirror (tn bA hV) (cg _)<|h8 hV _;have p2:f3 rk (mirror xs lo (lo+n')<|(lo+n'-lo) / 2) lo<|lo+n':=λp q cq cE fj=>by rw[m7,m7,Y2<|And.intro cq<|gT cE fj,Y2<|And.intro (bP cq cE) fj];exact cp _ _ Z3 (G1 cE _) Z3
     show wpS _ _ _ _ _ _ (jt st<|mirror xs lo (lo+n')<|(lo+n'-lo) / 2);generalize mirror xs lo (lo+n') ((lo+n'-lo) / 2)=aO at hF p2;refine cz<|lF (mO (I:=λx=>zg (λn=>n=x/\Cz rk aO lo nrem n)<|jt st aO) (Q:=zg (Cz rk aO lo nrem)<|jt st aO) ?s3 ?en<|.mk _ ⟨rfl,qU cK,hV,p2⟩) ?jA
     case en =>
      intro c pI fB;obtain⟨n,rfl,g⟩:=fB;exact .mk _ g
     case jA =>
      intro c pI fB;obtain⟨fV,t⟩:=fB
      repeat fail
      exact c6<|h aO fV t.a t.b hF t.c no
     case s3 =>
      intro x c pI _ av fB;obtain⟨n,rfl,g⟩:=fB
      repeat fail
      dsimp (zeta:=Y1) (zetaHave:=Y1) only;rw[pred g.a];refine cz<|BF hF av (gT (mJ _ _) av) ?_;dsimp (zeta:=Y1) (zetaHave:=Y1) only;rw[<-pred g.a];refine tl (λhw=>c6<|.mk _ g) λhw=>?_
      repeat fail
      exact c6<|.mk _ ⟨rfl,wk _ _,av,g.c.ext<|hS hw⟩
def Runs(rk:b3->Nat)(xs:Array b3):List (Nat×Nat×Nat)->Nat->Nat->Prop
 |[],b,e=>b=e
 |(t,n,_)::r,b,e=>t=b/\0<n/\f3 rk xs b (b+n)/\Runs rk xs r (b+n) e
theorem Runs.le:∀{l:List (Nat×Nat×Nat)} {b e:Nat},Runs rk xs l b e->b+l.H<=e
 |[],b,e,h=>by have h:b=e:=h;simp;exact d2 h
 |(t,n,q)::r,b,e,h=>by obtain⟨_,af,_,ak⟩:=h;have:=Runs.le ak;rw[d9];lia
theorem Runs.split:∀{l m:List (Nat×Nat×Nat)} {b e:Nat},Runs rk xs (l++m) b e->∃c,Runs rk xs l b c/\Runs rk xs m c e
 |[],m,b,e,h=>⟨b,rfl,h⟩
 |(t,n,q)::r,m,b,e,h=>by obtain⟨h0,af,ak,bc⟩:=h;obtain⟨c,g1,g2⟩:=Runs.split bc;exact⟨c,⟨h0,af,ak,g1⟩,g2⟩
theorem Runs.join:∀{l m:List (Nat×Nat×Nat)} {b c e:Nat},Runs rk xs l b c->Runs rk xs m c e->Runs rk xs (l++m) b e
 |[],m,b,c,e,h,g=>by have h:b=c:=h;subst h;exact g
 |(t,n,q)::r,m,b,c,e,h,g=>by obtain⟨h0,af,ak,bc⟩:=h;exact⟨h0,af,ak,Runs.join bc g⟩
theorem Runs.congr:∀{l:List (Nat×Nat×Nat)} {b e:Nat},(∀p,b<=p->p<e->at_ rk aO p=at_ rk xs p)->Runs rk xs l b e->Runs rk aO l b e
 |[],b,e,_,h=>h
 |(t,n,q)::r,b,e,av,h=>by obtain⟨h0,af,ak,bc⟩:=h;have:=Runs.le bc;exact⟨h0,af,λp q cq cE fj=>by rw[av p (cq) Z3,av q (bP cq cE)<|d5 fj<|l4 this];exact ak p q cq cE fj,Runs.congr (λp cq cE=>av p (l4 cq) cE) bc⟩
structure qa (κ:wF) (du:Array b3) (rk:b3->Nat) (st:dP) (e:Nat):Prop where
 kind:hl st=κ
 perm:(cC st).Perm du
 yg:q0 st=C
 runs:Runs rk (cC st) (fy st).B 0 e
def Ay{p:Nat}(h:aO[p]?=xs[p]?):at_ rk aO p=at_ rk xs p:=by unfold at_;rw[h]
def P6(el:om prog w A E s κ du rk){st:dP}{e i:Nat}(fw:qa κ du rk st e)(he:e<=du.O)(hi:i+1<(fy st).O){Q:Bool->dP->Prop}(h:∀c1,qa κ du rk c1 e->(fy c1).O+1=(fy st).O->(∀p,e<=p->(cC c1)[p]?=(cC st)[p]?)->Q Y0 c1):wpS Z9 A E s (mergeAt' i) Q st:=by
 have gz:i+1<(fy st).B.H:=by simpa using hi
 obtain⟨a0,na,pa,az⟩:∃a0 na pa,(fy st).B[i]=(a0,na,pa):=⟨_,_,_,rfl⟩
 obtain⟨cV,nb,pb,au⟩:∃cV nb pb,(fy st).B[i+1]=(cV,nb,pb):=⟨_,_,_,rfl⟩
 have aB:(fy st).B=(fy st).toList.take i++(a0,na,pa)::(cV,nb,pb)::(fy st).toList.drop (i+2):=by have d8:=pL (l:=(fy st).B) (i:=i)<|eA gz;have fz:=pL (l:=(fy st).B) (i:=i+1) gz;rw[au]at fz;rw[az,fz]at d8;rw[<-d8,pN]
 have aU:=fw.runs;rw[aB]at aU;obtain⟨c,bA,cp⟩:=Runs.split aU;obtain⟨rfl,hF,p2,rfl,y0,Wh,wJ⟩:=cp;have hle:=Runs.le wJ;have hsz:=fw.perm.size_eq;refine abX (pa:=pa) (pb:=pb) el fw.kind fw.perm fw.yg (i:=i) (a0:=a0) (na:=na) (nb:=nb) ?_ ?_ hF y0 Z3 p2 Wh λxs g aT=>?_
 ·rw[<-lE,hj<|eA gz,az]
 ·rw[<-lE,hj gz,au]
 ·have ej:((fy st).toList.take i).H=i:=by rw[jU];lia
  have aF:(((fy st).setIfInBounds i (a0,na+nb,pa)).eraseIdxIfInBounds (i+1)).B=(fy st).toList.take i++(a0,na+nb,pa)::(fy st).toList.drop (i+2):=by
   rw[Array.toList_eraseIdxIfInBounds,M3]
   conv=>lhs;rw[aB]
   rw[List.set_append_right _ _<|d2 ej,ej,B2,List.eraseIdx_append_of_length_le<|oC<|d2 ej,ej];simp
  refine h _ ⟨fw.kind,aT.perm.trans fw.perm,fw.yg,?_⟩ ?_ λp xJ=>aT.same p<|.inr<|bP (l4 hle) xJ
  ·show Runs rk xs (((fy st).setIfInBounds i (a0,na+nb,pa)).eraseIdxIfInBounds (i+1)).B 0 e;rw[aF];refine Runs.join (Runs.congr (λp cq cE=>Ay<|aT.same p Z3) bA) ⟨rfl,(oC hF),by rw[<-yE];exact aT.lS,?_⟩;rw[<-yE];exact Runs.congr (λp cq cE=>Ay<|aT.same p Z3) wJ
  ·show(((fy st).setIfInBounds i (a0,na+nb,pa)).eraseIdxIfInBounds (i+1)).O+1=_;rw[<-gI,aF,gr,d9,ej,gc,<-gI];lia
def aiK[Decidable c]{n:Nat}(h:¬n<=1):(if c then n-2-1 else n-2)+1<n:=by split<;>(lia)
def ab2{st:dP}{n:Nat}(h:(cC st).O=n):((sortPriv% PySem.Builtin.SortState.a) st).O=n:=h
theorem P7{CA:Nat}:∀{l:List (Nat×Nat×Nat)} {i b e:Nat},Runs rk xs l b e->Runs rk xs (l.modify i λx=>(x.1,x.2.1,CA)) b e
 |[],i,b,e,h=>by exists i<;>exact h
 |(t,n,q)::r,0,b,e,h=>h
 |(t,n,q)::r,i+1,b,e,h=>by obtain⟨h0,af,ak,bc⟩:=h;exact⟨h0,af,ak,P7 bc⟩
def al6{xs:Array b3}{CA:Nat}{p:Array<|Nat×Nat×Nat}{i e:Nat}(h:Runs rk xs p.B 0 e):Runs rk xs (p.modify i λx=>(x.1,x.2.1,CA)).B 0 e:=by rw[Array.toList_modify];exact P7 h
def akp(el:om prog w A E s κ du rk){st:dP}(aW:hl st=κ)(aF:(cC st).Perm du)(hf:q0 st=C)(ab3:fy st=#[]){Q:Unit->dP->Prop}
  (h:∀c1,(cC c1).Perm du->q0 c1=C->f3 rk (cC c1) 0 du.O->Q () c1):wpS Z9 A E s sortRuns' Q st:=by
 unfold sortRuns';unfold wpS;wp_delta;wp_delta;refine tk ?_;refine cz<|oK ?_
 fail;fail;fail
 have hsz:(cC st).O=du.O:=aF.size_eq
 refine cz (lF (mO
  (I:=λx c c1=>∃lo,c=(C,lo)/\qa κ du rk c1 lo/\lo<=du.O/\(x<=lo\/lo=du.O))
  (Q:=λc c1=>c=(C,du.O)/\qa κ du rk c1 du.O) ?s1 ?f1 ⟨0,rfl,⟨aW,aF,hf,by rw[ab3];rfl⟩,(gH _),by(lia)⟩) ?dC)
 case f1 =>
  rintro c c1 ⟨lo,rfl,g1,g2,g3⟩;have:lo=du.O:=by
   rcases g3 with g3|g3
   ·have e:(PyProof.Rows.arrOf st).O=du.O:=hsz;simp only[e]at g3;exact h9 g2 g3
   ·exact g3
  subst this;exact⟨rfl,g1⟩
 case dC =>
  rintro c c1 ⟨rfl,g1⟩
  repeat fail
  dsimp (zeta:=Y1) (zetaHave:=Y1) only;have hle:=Runs.le g1.runs;rw[gI]at hle
  refine cz (lF (mO
   (I:=λx c c1=>c=(C,())/\qa κ du rk c1 du.O/\(fy c1).O<=max 1 (du.O-x))
   (Q:=λc c1=>c=(C,())/\qa κ du rk c1 du.O/\(fy c1).O<=1) ?s2 ?f2 ⟨rfl,g1,by(lia)⟩) ?c7)
  case f2 =>
   rintro c pI ⟨rfl,aX,bb⟩;have e:(PyProof.Rows.arrOf st).O=du.O:=hsz;simp only[e]at bb;exact⟨rfl,aX,by(lia)⟩
  case c7 =>
   rintro c pI ⟨rfl,aX,bb⟩
   repeat fail
   refine c6<|h _ aX.perm aX.yg ?_;have aU:=aX.runs;have aB:(fy pI).B.H<=1:=by rw[gI];exact bb
   match hm:(fy pI).B,aB with
   |[],_ =>
    rw[hm]at aU;have aU:0=du.O:=aU;intro p q cq cE fj;(lia)
   |[(t,n,CA)],_ =>
    rw[hm]at aU;obtain⟨_,_,cp,hF⟩:=aU;have hF:0+n=du.O:=hF;rw[hF]at cp;exact cp
  case s2 =>
   rintro x c pI _ av ⟨rfl,aX,bb⟩;refine cz<|oK ?_
   fail
   by_cases c:(fy pI).O<=1
   ·rw[Y2 c];exact c6 ⟨rfl,aX,c⟩
   ·rw[Y3 c]
    fail;fail;fail
    refine cz (P6 el aX (cg _) (aiK c) λDv t1 eI _=>?_);rw[Y3 Z0];exact c6 ⟨rfl,t1,by(lia)⟩
 case s1 =>
  rintro x c c1 _ av ⟨lo,rfl,g1,g2,g3⟩;have qs:(cC c1).O=du.O:=g1.perm.size_eq
  repeat fail
  dsimp (zeta:=Y1) (zetaHave:=Y1) only;have e:(PyProof.Rows.arrOf st).O=du.O:=hsz;have bN:=ab2 hsz;by_cases c:lo>=du.O
  ·rw[Y2<|by rw[<-e]at c;exact c];have:lo=du.O:=(h9 g2 c)
   subst this;exact c6 ⟨rfl,g1⟩
  rw[Y3<|by rw[<-e]at c;exact c];refine cz (Ax (st:=c1) el g1.kind g1.perm (lo:=lo) (nrem:=(PyProof.Rows.arrOf st).O-lo) (by(lia)) (by(lia)) λxs n aM bC cR s1 _=>?_);rw[e]at bC cR;rw[show lo+(du.O-lo)=du.O from(nv g2)]at cR;dsimp (zeta:=Y1) (zetaHave:=Y1) only
  fail
  refine ph ?_;intro e9 gA;extract_lets+onlyGivenNames-underBinder jpv;clear_value (hjpv:jpv=_);revert jpv;refine pj (P:=λjp=>∀u n xs,1<=n->lo+n<=du.O->iE (cC c1) xs lo du.O->f3 rk xs lo (lo+n)->wpS Z9 A E s (jp u n) e9 (jt c1 xs)) ?rd ?k0
  case k0 =>
   subst gA;intro jp bU;split
   ·rename_i an9;refine cz (sv<|l9 ⟨rfl,?_⟩)
    fail
    refine cz (aiJ (st:=jt c1 xs) el g1.kind (cR.perm.trans g1.perm) (by show _<=xs.O;rw[cR.O];have:=bN;(lia)) (by have:=bN;(lia)) s1 λaO gv s2=>?_);rw[Y3 Z0]
    fail
    refine bU _ _ aO (by have:=bN;(lia)) (by have:=bN;(lia)) (cR.trans ⟨gv.perm,λp xJ=>gv.same p (by have:=bN;(lia))⟩) s2
   ·exact bU _ _ xs aM (by(lia)) cR s1
  case rd =>
   subst gA;intro u n xs aM bC cR s1;refine cz<|oK ?_;refine ph ?_;intro e9 gA;extract_lets+onlyGivenNames-underBinder jpv;clear_value (hjpv:jpv=_);revert jpv;refine pj (P:=λjp=>∀u hy,qa κ du rk hy lo->f3 rk (cC hy) lo (lo+n)->wpS Z9 A E s (jp u) e9 hy) ?nO ?k1
   case nO =>
    subst gA;intro u hy aX bb;refine cz<|wD ?_
    fail
    refine c6 ⟨lo+n,rfl,⟨aX.kind,aX.perm,aX.yg,?_⟩,bC,by(lia)⟩;show Runs rk (cC hy) ((fy hy).push (lo,n,0)).B 0 (lo+n);rw[B6];exact Runs.join aX.runs ⟨rfl,aM,bb,rfl⟩
   case k1 =>
    subst gA;intro jp bU;have ea:qa κ du rk (jt c1 xs) lo:=⟨g1.kind,cR.perm.trans g1.perm,g1.yg,Runs.congr (λp cq cE=>Ay<|cR.same p<|.inl cE) g1.runs⟩
    split
    ·fail
     refine cz (lF (mO
      (I:=λ_ c hy=>c=(C,())/\qa κ du rk hy lo/\f3 rk (cC hy) lo (lo+n))
      (Q:=λc hy=>c=(C,())/\qa κ du rk hy lo/\f3 rk (cC hy) lo (lo+n)) ?s3 ?en ⟨rfl,ea,s1⟩) ?jA)
     case en=>exact λc hy z=>z
     case jA =>
      rintro c hy ⟨rfl,aX,bb⟩
      repeat fail
      dsimp (zeta:=Y1) (zetaHave:=Y1) only;refine cz<|wD ?_;refine bU _ _ ⟨aX.kind,aX.perm,aX.yg,?_⟩ bb;exact al6 aX.runs
     case s3 =>
      rintro y c hy _ _ ⟨rfl,aX,bb⟩;refine cz<|oK ?_
      fail
      split
      ·rename_i hm;split
       ·exact c6 ⟨rfl,aX,bb⟩
       ·have hz:1<(fy hy).O:=by
         by_cases z:(fy hy).O>1
         ·exact z
         ·rw[Y3 z]at hm;exists hm
        refine cz (P6 el aX (g2) (by show _<(fy hy).O;have:(fy hy).O-2+1<(fy hy).O:=(by(lia));exact this)
         λDv t1 eI t3=>?_)
        rw[Y3 Z0];exact c6 ⟨rfl,t1,λp q cq cE fj=>by rw[Ay<|t3 p cq,Ay<|t3 q<|bP cq cE];exact bb p q cq cE fj⟩
      ·exact c6 ⟨rfl,aX,bb⟩
    ·exact bU _ _ ea s1
end
end bj.Tm
namespace bj.bO
open PySem PySem.Spec PyProof.Rows bj.Tm
def Az(prog:dx)(w:c3)(h:Heap)(ah:List mt)(rk:b3->Nat):Prop :=
 2<=ah.H->∃κ,∀(A:dI) (E:mt->aR->Prop) (s:aR),(∀b o,h.get? b=J o->s.heap.get? b=J o) ->
  bl Z9 A (keyKind' ah.Q) (λk s'=>k=κ/\s'=s) E s/\om prog w A E s κ (PyProof.Rows.pairsOf ah) rk
def JQ(prog:dx)(w:c3)(A:dI)(E:mt->aR->Prop)(h:Heap)(ah:List mt)(rk:b3->Nat):Prop :=
 2<=ah.H->∃κ,∀s:aR,(∀b o,h.get? b=J o->s.heap.get? b=J o) ->
  bl Z9 A (keyKind' ah.Q) (λk s'=>k=κ/\s'=s) E s/\om prog w A E s κ (PyProof.Rows.pairsOf ah) rk
def Az.at(x:Az prog w h ah rk):JQ prog w A E h ah rk:=λak=>let ⟨κ,k⟩:=x ak;⟨κ,k A E⟩
section
variable {prog:dx}{w:c3}{A:dI}{E:mt->aR->Prop}{s:aR}
def JR{n:Nat}{Q:Nat->aR->Prop}(aZ:s.heap.get? a=J o)(hd:o.d=.seq xs n)(q:Q n s):bl Z9 A (seqEpoch a) Q E s:=seqEpoch_at aZ hd q
def al7{n:Nat}(aZ:s.heap.get? a=J (i6 "list" ah.toArray n))(hz:ah.H<=dg)
  (ab4:∀b o,h0.get? b=J o->b≠a) (ab5:∀b o,h0.get? b=J o->s.heap.get? b=J o) (fw:JQ prog w A E h0 ah rk)
  (h:∀xs:Array b3,xs.Perm (PyProof.Rows.pairsOf ah)->f3 rk xs 0 ah.H->P (.done<|.ret .none) { s with heap:=sortedHeap s.D a ah (xs.map (·.2))}) :
  bl Z9 A (Builtin.«list.sort» ⟨[.ref a],[]⟩) P E s:=by
 rw[list_sort_plain];have dD:a<s.L:=d6 aZ;obtain⟨az,k1⟩:∃az,(s.heap.update a (Obj.mapSeq λ_=>#[])).get? a=J (i6 "list" #[] az):=⟨_,get?_update_seq aZ λ_=>#[]⟩
 refine a8<|listItems_at aZ rfl<|a8<|Hx aZ rfl<|a8<|JR k1 rfl<|a8<|wpAny_newTuple<|a8<|wpAny_newList<|jr ?_;have b8:∀b o,b≠a->s.heap.get? b=J o->(((s.heap.update a (Obj.mapSeq λ_=>#[])).push (i6 "tuple" ah.toArray 0)).push (i6 "list" #[] 0)).get? b=J o:=λb o nb q=>by have aq:b<s.L:=d6 q;rw[yH _ _ _ (by rw[size_push',B3];exact bv<|oD aq),yH _ _ _ (by rw[B3];exact bv aq),Heap.get?_update_ne _ _ _ _ nb];exact q
 have k2:(((s.heap.update a (Obj.mapSeq λ_=>#[])).push (i6 "tuple" ah.toArray 0)).push (i6 "list" #[] 0)).get? a=J (i6 "list" #[] az):=by rw[yH _ _ _ (by rw[size_push',B3];exact bv<|oD dD),yH _ _ _<|by rw[B3];exact bv dD];exact k1
 show bl Z9 A _ P E { s with heap:=((s.heap.update a (Obj.mapSeq λ_=>#[])).push (i6 "tuple" ah.toArray 0)).push (i6 "list" #[] 0)};dsimp only;have hsz:ah.Q.O=ah.H:=by simp
 have D8:(PyProof.Rows.pairsOf ah).O=ah.H:=pairsOf_size ah;by_cases ak:ah.Q.O<2
 ·rw[Y2 ak,Y2 ak];refine a8<|bZ ?_;rw[StateT.run_pure];refine a8<|bZ<|a8<|JR k2 rfl<|a8<|Hx k2 rfl ?_ (hsz2:=by rw[Array.size_map];show(PyProof.Rows.pairsOf ah).O<=_;lia);dsimp only;simp only[bne_self_eq_false,jo,if_false];refine bZ (h (PyProof.Rows.pairsOf ah) (Array.Perm.refl _) λi j _ jH bU=>?_);have:i=j:=by lia
  rw[this];exact cg _
 ·rw[Y3 ak,Y3 ak];obtain⟨κ,Wi⟩:=fw<|hS ak;obtain⟨aX,bb⟩:=Wi { s with heap:=((s.heap.update a (Obj.mapSeq λ_=>#[])).push (i6 "tuple" ah.toArray 0)).push (i6 "list" #[] 0)} λb o e=>b8 b o (ab4 b o e)<|ab5 b o e;refine a8 (hk aX ?_ λ_ _ e=>e);rintro k s' ⟨rfl,rfl⟩;refine a8 (hk (akp bb (st:=SortSt.mk' k (PyProof.Rows.pairsOf ah) #[] 7 C) rfl (Array.Perm.refl _) rfl rfl (Q:=λ_ c1=>(cC c1).Perm (PyProof.Rows.pairsOf ah)/\q0 c1=C/\f3 rk (cC c1) 0 ah.H) λc1 a1 a2 k8=>⟨a1,a2,by rw[D8]at k8;exact k8⟩) ?_ λ_ _ e=>e);rintro⟨⟨⟩,c1⟩ s' ⟨rfl,aF,hf,aP⟩;dsimp only;refine a8<|JR k2 rfl<|a8<|Hx k2 rfl ?_ (hsz2:=bP (d2<|(Array.size_map ..).trans (aF.size_eq.trans D8))<|MZ hz);rw[hf];simp only[bne_self_eq_false,jo,if_false];exact bZ<|h _ aF aP
end
section
variable {X:bI}{tw:Addr}
def JS
  (aT:bl Z2 A'.in1 (collect x) (λah s1=>∃rk,ah.H<=dg/\(∀E,JQ X.R X.w A'.in1.in1 E s1.D ah rk)/\∀h' (xs:Array b3) e,(∀b o,s1.heap.get? b=J o->h'.get? b=J o)->h'.get? s1.L=J (i6 "list" (xs.map (·.2)) e)->xs.Perm (PyProof.Rows.pairsOf ah)->f3 rk xs 0 ah.H->Q (.ref s1.L) { s1 with heap:=h'}) E s) :
  bl Z2 A' (call (.builtin "sorted") [x]) Q E s:=by
 refine Calls.call_function_entry kind_sorted plain_sorted entry_sorted (args_sorted1 _) ?_;unfold Builtin.«sorted»;refine a8 (m:=checkCount "sorted" 1 1 _)<|bZ<|a8 (hk aT (λah s1 h=>?_) λ_ _ e=>e);obtain⟨rk,hz,fw,k⟩:=h;refine a8<|wpAny_newList ?_ hz;have xb:(s1.heap.push<|i6 "list" ah.toArray 0).get? s1.L=J (i6 "list" ah.toArray 0):=gC _ rfl;show bl _ _ _ _ _ { s1 with heap:=s1.heap.push (i6 "list" ah.toArray 0)};refine a8<|jr<|sh slot_list_sort ⟨_,xb,rfl⟩ entry_list_sort (al7 (h0:=s1.D) xb hz (λb o aq=>bv<|d6 aq) (λb o aq=>ed _ aq) (fw _) λxs a1 a2=>⟨_,rfl,?_⟩)<|args_list_sort _;obtain⟨e,he⟩:=sortedHeap_at (out:=xs.map (·.2)) xb;refine bZ ⟨_,rfl,k _ xs e (λb o aq=>?_) he a1 a2⟩;have dD:b<s1.L:=d6 aq;rw[sortedHeap_old (bv dD)<|by rw[ny];exact oD dD];exact ed _ aq
end
noncomputable def intOf?:mt->Option Int
 |.int i _=>J i
 |_=>C
noncomputable def i0(h:Heap):mt->List Int
 |.ref a=>match h.get? a with
  |some o=>match o.d with
   |.seq xs _=>xs.toList.filterMap intOf?
   |_=>[]
  |none=>[]
 |.int i _=>[i]
 |_=>[]
theorem P8:∀{us:List mt} {ns:List Int},ha us ns->us.filterMap intOf?=ns
 |_,_,.nil=>rfl
 |_,_,.cons n t h=>by rw[r5];show n::_=_;rw[P8 h]
def rV(h:Heap)(v:mt)(l:List Int):Prop:=∃a o xs n,v=.ref a/\h.get? a=J o/\o.cls=.type "tuple" /\ o.d=.seq xs n/\ha xs.B l/\l≠[]
def rV.gY(t:rV h v l):i0 h v=l:=by
 obtain⟨a,o,xs,n,rfl,aZ,aT,hd,hi,_⟩:=t
 show(match h.get? a with
  |some o=>match o.d with
   |.seq xs _=>xs.toList.filterMap intOf?
   |_=>[]
  |none=>[])=l
 rw[aZ]
 show(match o.d with
   |.seq xs _=>xs.toList.filterMap intOf?
   |_=>[])=l
 rw[hd];exact P8 hi
def rV.mono(k:∀b o,h.get? b=J o->h'.get? b=J o)(t:rV h v l):rV h' v l:=by obtain⟨a,o,xs,n,r,aZ,q⟩:=t;exact⟨a,o,xs,n,r,k a o aZ,q⟩
section
variable {prog:dx}{w:c3}{A:dI}{E:mt->aR->Prop}{s:aR}
def al8{Q:Bool->aR->Prop}:∀{us ah:List mt} {as bs:List Int} (i:Nat),ha us as->ha ah bs->Q (gb as bs) s->W.KatLex prog w A Y0 (decide (us.H<ah.H)) Q (us.zip ah) i s:=by
 have gen:∀{us ah:List mt} {as bs:List Int} (i:Nat) (fin:Bool),ha us as->ha ah bs->(decide (us.H<ah.H)=fin)->Q (gb as bs) s->W.KatLex prog w A Y0 fin Q (us.zip ah) i s:=by
  intro us
  induction us with
  |nil =>
   intro ah as bs i fin af ak hf q
   exists af
   cases ak with
   |nil=>subst hf;exact q
   |cons n t h=>subst hf;exact q
  |cons u us a4 =>
   intro ah as bs i fin af ak hf q;cases af with
   |cons n t h =>
    cases ak with
    |nil=>subst hf;exact q
    |cons m r g =>
     refine W.kat_cons<|wpAny_eqBool_int ?_;unfold gb at q;by_cases e:n=m
     ·subst e;rw[beq_self_eq_true]at q |-;exact W.kat_yes (a4 (i+1) fin h g (by simpa using hf)<|by simpa using q)
     ·have bN:(n==m)=Y1:=by simpa using e
      rw[bN]at q |-;refine W.kat_no ?_;have q:Q (decide (n<m)) s:=by simpa using q
      cases i with
      |zero=>exact oneLt_int q
      |succ i=>exact W.kat_one _ _<|lt_int q
 intro us ah as bs i af ak q;exact gen i _ af ak rfl q
def aiL{Q:Bool->aR->Prop}(av:rV s.D x a)(aK:rV s.D y b)(q:Q (gb a b) s):bl Z9 A (keyLt' (tuples' Y0) x y) Q E s:=by obtain⟨p,o,xs,n,rfl,aZ,aT,hd,hi,_⟩:=av;obtain⟨fZ,dh,aO,n',rfl,kq,sU,mX,gz,_⟩:=aK;refine W.kat_lt aZ hd kq mX ?_;have:=al8 (prog:=prog) (w:=w) (A:=A) (s:=s) (Q:=Q) 0 hi gz q;simpa using this
end
def AB(h:x∈PyProof.Rows.pairsOf ah):x.1∈ah/\x.2=x.1:=by have h:x∈(PyProof.Rows.pairsOf ah).B:=Array.mem_def.mp h;rw[pairsOf_toList]at h;have:=mem_zip_self h;exact⟨this.2,this.1.symm⟩
inductive lZ (h:Heap):List mt->List ZA->Prop
 |nil:lZ h [] []
 |cons {v:mt} {l:List Int} {ah:List mt} {ls:List ZA}:rV h v l->lZ h ah ls->lZ h (v::ah) (l::ls)
theorem lZ.gY:∀{ah:List mt} {ls:List ZA},lZ h ah ls->ah.map (i0 h)=ls
 |_,_,.nil=>rfl
 |_,_,.cons t r=>by rw[cU,t.gY,r.gY]
theorem lZ.mem:∀{ah:List mt} {ls:List ZA},lZ h ah ls->v∈ah->rV h v (i0 h v)
 |_,_,.cons t r,bS=>by
  rcases d4.mp bS with rfl|bS
  ·rw[t.gY];exact t
  ·exact r.mem bS
theorem lZ.mono(k:∀b o,h.get? b=J o->h'.get? b=J o):∀{ah:List mt} {ls:List ZA},lZ h ah ls->lZ h' ah ls
 |_,_,.nil=>.nil
 |_,_,.cons t r=>.cons (t.mono k)<|r.mono k
theorem lZ.gG:∀{ah:List mt} {ls:List ZA},lZ h ah ls->∃cm,W.KatTups h ah cm/\cm.H=ah.H/\∀f∈cm,∃i t,f=.int i t
 |_,_,.nil=>⟨[],.nil,rfl,λf hf=>by simp at hf⟩
 |_,_,.cons t r=>by
  obtain⟨cm,k1,k2,k3⟩:=r.gG;obtain⟨a,o,xs,n,rfl,aZ,aT,hd,hi,vk⟩:=t;have⟨i,u,av⟩:∃i u,xs[0]?=J (.int i u):=by
   rw[<-lE];cases gz:xs.B with
   |nil=>rw[gz]at hi;exists hi;exact absurd rfl vk
   |cons v ah=>rw[gz]at hi;cases hi with
    |cons n t _=>exact⟨n,t,rfl⟩
  refine⟨.int i u::cm,.cons aZ aT hd av k1,by simp[k2],λf hf=>?_⟩;rcases d4.mp hf with rfl|hf
  ·exact⟨i,u,rfl⟩
  ·exact k3 f hf
def P9(t:lZ h ah ls):Az prog w h ah λx=>rank ls<|i0 h x.1:=by
 intro ak;refine⟨tuples' Y0,λA E s b8=>⟨?_,λst x y Q aW av aK q=>?_⟩⟩
 ·obtain⟨cm,k1,k2,k3⟩:=(t.mono b8).gG;refine W.kat_kind (T:=.type "int") k1 (kP<|d5 ak<|d2 k2.symm) (λv bS=>?_) Z0 ⟨rfl,rfl⟩;obtain⟨i,u,rfl⟩:=k3 v bS;exact .now
 ·have NI:=AB av;have Wj:=AB aK;have wM:=(t.mem NI.1).mono b8;have ty:=(t.mem Wj.1).mono b8;rw[I4<|by rw[<-t.gY];exact kf NI.1]at q;rw[lt'_eq];refine cz<|oK ?_;rw[aW];exact cz<|sv<|wA<|aiL wM ty ⟨rfl,c6 q⟩
def JT(gY:ah.map (i0 h)=ls)(p:xs.Perm<|PyProof.Rows.pairsOf ah)(Wk:f3 (λx=>rank ls<|i0 h x.1) xs 0 ah.H) :
  (xs.map (·.2)).toList.Perm ah/\(xs.map (·.2)).toList.map (i0 h)=hL ls:=by
 have aB:xs.toList.Perm<|ah.zip ah:=by rw[<-pairsOf_toList];exact M4.mp p
 have c7:(xs.map (·.2)).toList.Perm ah:=by have:=aB.map (·.2);rw[List.map_snd_zip<|cg _]at this;rw[Array.toList_map];exact this
 refine⟨c7,?_⟩;have jA:=c7.map<|i0 h;rw[gY]at jA;refine Pd jA ?_;have hsz:xs.O=ah.H:=by rw[p.size_eq,pairsOf_size]
 have rU:∀x,x∈xs->x.1∈ah/\x.2=x.1:=λx av=>AB<|p.mem_iff.mp av;rw[GD];intro i j hi bU jH;have gz:i<xs.O:=by simpa using hi
 have rA:j<xs.O:=by simpa using bU
 have q:=Wk i j (gH _) (eA jH)<|d5 rA<|d2 hsz;rw[hh gz,hh rA]at q;have cR:=rU _<|jW gz;have gv:=rU _<|jW rA;have az:((xs.map (·.2)).toList.map (i0 h))[i]=i0 h xs[i].1:=by simp[cR.2]
 have au:((xs.map (·.2)).toList.map (i0 h))[j]=i0 h xs[j].1:=by simp[gv.2]
 show gb _ _=Y1;rw[az,au,<-I4 (nss:=ls) (by rw[<-gY];exact kf gv.1)];simpa using q
section
variable {X:bI}{tw:Addr}
def _root_.bj.aS.ag4{t':Nat}(I:aS X ae O H s)(k:∀b u,s.heap.get? b=J u->h'.get? b=J u)(old:∀b u,H b=J u->aj b=J u)
  (aF:∀b,b<s.L->H b=C->aj b=C) (new:∀b u,H b=C->aj b=J u->gP X.R X.w aj h' b u):aS X ae O aj { s with heap:=h',toks:=t'}:=by
 refine I.un ⟨λb u q _ _ _=>k b u q,λb u q _ _ _=>⟨u.slots,k b u q⟩,λb u q n _=>aF b (d6 q) n,λb u q _=>⟨u,k b u q⟩,λb xs q=>old b _ q,λb o u q=>old b _ q⟩ λb u e=>?_;cases z:H b with
 |none=>exact new b u z e
 |some bJ =>
  have:=old b bJ z;rw[this]at e;exists e;exact(I.b1 b _ z).pB (k b)
def Qa(ns:List Int):hL (ns.map λi=>[i])=(sortI ns).map λi=>[i]:=by
 refine(Pd ((sortI_perm ns).map _) ?_).symm;rw[yw];refine(rp ns).imp λ{a b} h=>?_;show gb [b] [a]=Y1;unfold gb;by_cases e:b=a
 ·subst e;simp[gb]
 ·simp[e];exact h
def Qb(t:ha ah ns):Az prog w h ah λx=>rank (ns.map λi=>[i])<|i0 h x.1:=by
 intro ak;refine⟨oneType',λA E s b8=>⟨?_,λst x y Q aW av aK q=>?_⟩⟩
 ·match ah,ak,t with
  |v1::v2::rest,_,t=>rw[keyKind_ints t];exact bZ ⟨rfl,rfl⟩
 ·have get:∀{v:mt} {ah:List mt} {ns:List Int},ha ah ns->v∈ah->∃i u,v=.int i u/\i∈ns:=by
   intro v ah ns t
   induction t with
   |nil=>intro bS;simp at bS
   |cons n u r a4 =>
    intro bS;rcases d4.mp bS with rfl|bS
    ·exact⟨n,u,rfl,dT ..⟩
    ·obtain⟨i,u,e,m⟩:=a4 bS;exact⟨i,u,e,am _ m⟩
  obtain⟨bH,cf⟩:=x;obtain⟨dB,iO⟩:=y;obtain⟨i,u,rfl,Wl⟩:=get t (AB av).1;obtain⟨j,fu,rfl,anA⟩:=get t (AB aK).1;have q:Q (J<|decide (rank (ns.map λi=>[i]) [i]<rank (ns.map λi=>[i]) [j])) st:=q
  rw[I4<|kf Wl,show gb [i] [j]=decide (i<j) from by
   unfold gb;by_cases e:i=j
   ·subst e;simp[gb]
   ·simp[e]]at q
  rw[lt'_eq];refine cz<|oK ?_;rw[aW,keyLt'_oneType];exact cz<|sv<|wA<|oneLt_int ⟨rfl,c6 q⟩
theorem Ek:∀{ah:List mt} {ns:List Int},ha ah ns->ah.map (i0 h)=ns.map λi=>[i]
 |_,_,.nil=>rfl
 |_,_,.cons n t r=>by rw[cU,cU,Ek r];rfl
theorem Qc{ae:List Z1}{s:aR}{O:St}{H:aJ}(I:aS X ae O H s):∀{xs:List T} {ls:List ZA} {ah:List V} {us:List mt},mq xs=J ls->bR tw H xs ah->cG ah us->lZ s.D us ls
 |[],ls,ah,us,e,r,bq=>by
  exists e
  cases ji r
  exists bq
  exact .nil
 |.aD (x::xs)::rest,ls,ah,us,e,r,bq=>by
  obtain⟨l,az,au⟩:=cn (show(e3<|x::xs).bind _=_ from e);obtain⟨ab6,a6,bX⟩:=dw au
  exists bX
  obtain⟨v,w,rfl,p,q⟩:=hg r;cases bq with
  |cons bA cp =>
   rw[aI]at p;obtain⟨a,fJ,rfl,cu,cM⟩:=p
   exists bA
   obtain⟨a5,aX,⟨o,aZ,aT,_,n,hd⟩,_⟩:=I.Gz cu;have ex:=qv az;rw[ex]at cM;cases xm cM;refine .cons ⟨a,o,a5.Q,n,rfl,aZ,aT,hd,by simpa using qn aX,?_⟩<|Qc I a6 q cp;rintro rfl
   exists ex
 |.aD []::_,_,_,_,e,_,_=>by exists e
 |.br::_,_,_,_,e,_,_=>by exists e
 |.aC _::_,_,_,_,e,_,_=>by exists e
 |.int _::_,_,_,_,e,_,_=>by exists e
 |.str _::_,_,_,_,e,_,_=>by exists e
 |.ao _::_,_,_,_,e,_,_=>by exists e
 |.bk _::_,_,_,_,e,_,_=>by exists e
 |.dq::_,_,_,_,e,_,_=>by exists e
theorem Qd:∀{xs:List T} {ls:List ZA},mq xs=J ls->xs=ls.map aG
 |[],ls,e=>by exists e;rfl
 |.aD (x::xs)::rest,ls,e=>by
  obtain⟨l,az,au⟩:=cn (show(e3<|x::xs).bind _=_ from e);obtain⟨ab6,a6,bX⟩:=dw au
  exists bX
  rw[cU,<-Qd a6,aG,<-qv az]
 |.aD []::_,_,e=>by exists e
 |.br::_,_,e=>by exists e
 |.aC _::_,_,e=>by exists e
 |.int _::_,_,e=>by exists e
 |.str _::_,_,e=>by exists e
 |.ao _::_,_,e=>by exists e
 |.bk _::_,_,e=>by exists e
 |.dq::_,_,e=>by exists e
def Qe(bq:cG ah us)(r:bR tw H (ls.map mk) ah)(gY:us.map (i0 h)=ls)(p:out.Perm us):∃ws,cG ws out/\bR tw H ((out.map<|i0 h).map mk) ws:=by
 have all:∀{ls:List ZA} {ah:List V} {us:List mt},cG ah us->bR tw H (ls.map mk) ah->us.map (i0 h)=ls->∀u∈us,∃v,cW v u/\aI tw H (mk<|i0 h u) v:=by
  intro ls ah us bq
  induction bq generalizing ls with
  |nil=>intro _ _ u b7;simp at b7
  |cons bA cp a4 =>
   rename_i v u ah us;intro iz iQ fu b7;subst iQ;rw[cU,cU]at iz;obtain⟨hT,w,e,dC,c7⟩:=hg iz;cases e;rcases d4.mp b7 with rfl|b7
   ·exact⟨v,bA,dC⟩
   ·exact a4 c7 rfl fu b7
 have Bz:=all bq r gY;refine xA Z7 λi u e=>?_;obtain⟨v,aX,bb⟩:=Bz u<|p.mem_iff.mp<|MD e;exact⟨v,mk<|i0 h u,aX,by simp[e],bb⟩
def JU(bp:X.A.handled=C):fS X tw (λus=>call (.builtin "sorted") us) xg:=by
 intro B ae s O H ah us aA n t m Q I bq aV aQ e k;have run:∀{t0:T} {xs:List T} {ls:List ZA} {mk:List Int->T} {v:V} {u:mt},ew X.K tw H t0 v->cW v u->vb t0=J xs->xs=ls.map mk ->
   (∀(h':Heap) (ah:List V) (us:List mt),cG ah us->bR tw H xs ah->Zt->us.map (i0 h')=ls/\Az X.R X.w h' us λx=>rank ls<|i0 h' x.1) ->
   (∀v aj,dn tw H aj->df tw n aj->Val X.K B tw H aj (.ao<|(hL ls).map mk) .aE v->Q v aj)->bl Z2 X.A (call (.builtin "sorted") [u]) Zl X.cv s:=by
  intro t0 xs ls mk v u r eW hw av aP md;refine JS (abw bp I r eW hw λus ah h' bx af ak bc b8=>?_);obtain⟨gY,fw⟩:=aP h' ah us af ak b8;refine⟨_,bc,λ_=>fw.at,λAD m6 e ky he aF AE=>?_⟩;have xJ:m6.Perm<|PyProof.Rows.pairsOf us:=aF;obtain⟨c7,au⟩:=JT gY xJ AE;subst av;obtain⟨ws,eV,fM⟩:=Qe af ak gY c7;rw[au]at fM;have bf:aS X ae O H { s with heap:=h',toks:=bx}:=I.kept b8;have hf:H h'.E.O=C:=bf.b1.fresh<|cg _;have eH:=bf.laid (a:=h'.E.O) (o:=.ao ws) (t':=bx) (h':=AD) ky (cg _) ⟨by rw[eV.H,c7.length_eq];exact bc,(m6.map (·.2)).B,e,eV,by rw[B4];exact he⟩;exact⟨.ref h'.E.O,_,eH,rfl,md _ _ (.new hf) (aQ.new hf) ⟨_,rfl,hf,_,fC,bR.mono (.new hf) _ _ fM⟩⟩
 have TY:∀{t0:T} {xs:List T} {ns:List Int} {v:V} {u:mt},ew X.K tw H t0 v->cW v u->vb t0=J xs->e3 xs=J ns ->
   (∀v aj,dn tw H aj->df tw n aj->Val X.K B tw H aj (.ao<|(sortI ns).map T.int) .aE v->Q v aj)->bl Z2 X.A (call (.builtin "sorted") [u]) Zl X.cv s:=by
  intro t0 xs ns v u r eW hw hi md;have av:=qv hi;refine run (ls:=ns.map λi=>[i]) (mk:=λl=>.int<|l.headD 0) r eW hw (by rw[ci];exact av) (λh' ah us af ak b8=>?_) λv aj a b c=>md v aj a b (by rw[Qa,ci]at c;exact c);rw[av]at ak;cases xm ak;exact⟨Ek<|qn af,Qb<|qn af⟩
 induction aA using List.casesOn with
 |nil=>exists e
 |cons dB fx =>
  induction dB using T.casesOn with
  |ao xs =>
   induction fx using List.casesOn with
   |nil =>
    obtain⟨v,rfl,r⟩:=iZ aV;obtain⟨u,rfl,eW⟩:=bq.one;cases hi:e3 xs with
    |some ns =>
     have e:(match e3 xs with
      |some ns=>J (T.ao<|(sortI ns).map .int,bo.aE)
      |none=>(mq xs).map λls=>(T.ao<|(hL ls).map aG,bo.aE))=J (t,m):=e
     rw[hi]at e
     exists e
     exact TY r eW rfl hi k
    |none =>
     have e:(match e3 xs with
      |some ns=>J (T.ao<|(sortI ns).map .int,bo.aE)
      |none=>(mq xs).map λls=>(T.ao<|(hL ls).map aG,bo.aE))=J (t,m):=e
     rw[hi]at e;obtain⟨ls,az,au⟩:=dw e
     exists au
     exact run (mk:=aG) r eW rfl (Qd az) (λh' ah us af ak b8=>let tt:=Qc (I.kept (t':=s.toks) b8) az ak af;⟨tt.gY,P9 tt⟩) k
   |cons _ _=>exists e
  |aD xs =>
   induction fx using List.casesOn with
   |nil =>
    obtain⟨v,rfl,r⟩:=iZ aV;obtain⟨u,rfl,eW⟩:=bq.one;obtain⟨ns,az,au⟩:=dw (show(e3 xs).map _=_ from e)
    exists au
    exact TY r eW rfl az k
   |cons _ _=>exists e
  |_=>exists e
def al9{nR:List Stmt}:h1 X tw nR jh:=λ_ _ _ _ _ _ hd=>by exists hd
def _root_.bj.bO.fS.weak(h:fS X tw f g)(w:∀n aA r,g' n aA=J r->g n aA=J r):fS X tw f g':=λB ae s O H ah us aA n t m Q I bq aV aQ e k=>h B ae s O H ah us aA n t m Q I bq aV aQ (w _ _ _ e) k
def ama(bp:X.A.handled=C):fS X tw (λus=>call (.builtin "sorted") us) rr:=(JU bp).weak λn aA r e=>by
 have fin:∀{xs:List T},((e3 xs).bind λns=>if ns.H<64 then J (T.ao<|(sortI ns).map .int,bo.aE) else C)=J r->∃ns,e3 xs=J ns/\J (T.ao<|(sortI ns).map .int,bo.aE)=J r:=λ{xs} e=>by
  obtain⟨ns,az,au⟩:=cn e;split at au
  ·exact⟨ns,az,au⟩
  ·exists au
 induction aA using List.casesOn with
 |nil=>exists e
 |cons dB fx =>
  induction dB using T.casesOn with
  |ao xs =>
   induction fx using List.casesOn with
   |nil =>
    obtain⟨ns,az,au⟩:=fin e
    show(match e3 xs with
     |some ns=>J (T.ao<|(sortI ns).map .int,bo.aE)
     |none=>_)=_
    rw[az];exact au
   |cons _ _=>exists e
  |aD xs =>
   induction fx using List.casesOn with
   |nil =>
    obtain⟨ns,az,au⟩:=fin e;show(e3 xs).map _=_;rw[az];exact au
   |cons _ _=>exists e
  |_=>exists e
def amb(bp:X.A.handled=C):fS X tw (λus=>call (.builtin "sorted") us) rt:=(JU bp).weak λn aA r e=>by
 induction aA using List.casesOn with
 |nil=>exists e
 |cons dB fx =>
  induction dB using T.casesOn with
  |ao xs =>
   induction fx using List.casesOn with
   |nil =>
    obtain⟨ls,az,au⟩:=cn (show(mq xs).bind _=_ from e);split at au
    ·show(match e3 xs with
      |some ns=>J (T.ao<|(sortI ns).map .int,bo.aE)
      |none=>(mq xs).map λls=>(T.ao<|(hL ls).map aG,bo.aE))=_
     match xs,az with
     |[],az=>exists az;exact au
     |.aD _::_,az=>rw[az];exact au
    ·exists au
   |cons _ _=>exists e
  |_=>exists e
theorem Qf:∀{ay:List (ix×T)} {ps:List Z6},itemsOf ay=J ps->ay=ps.map λp=>(Sum.inl p.1,T.int p.2)
 |[],_,e=>by exists e;rfl
 |(.inl k,.int v)::r,_,e=>by
  obtain⟨ps,az,au⟩:=dw (show(itemsOf r).map _=_ from e)
  exists au
  rw[Qf az];rfl
 |(.inr _,_)::_,_,e=>by exists e
 |(.inl _,.br)::_,_,e=>by exists e
 |(.inl _,.aC _)::_,_,e=>by exists e
 |(.inl _,.str _)::_,_,e=>by exists e
 |(.inl _,.aD _)::_,_,e=>by exists e
 |(.inl _,.ao _)::_,_,e=>by exists e
 |(.inl _,.bk _)::_,_,e=>by exists e
 |(.inl _,.dq)::_,_,e=>by exists e
theorem Qg:∀{ps:List Z6} {ws:List ZW},cJ tw H (ps.map λp=>(Sum.inl p.1,T.int p.2)) ws->ws=ps.map λp=>(Sum.inl p.1,V.int p.2)
 |[],_,r=>by rw[qS,cJ]at r;subst r;rfl
 |p::ps,_,r=>by rw[cU,cJ]at r;obtain⟨v,b5,rfl,h,q⟩:=r;rw[aI]at h;rw[Qg q,h];rfl
theorem Qh:∀{ps:List Z6} {us:List (Key×mt)},fq (ps.map λp=>(Sum.inl p.1,V.int p.2)) us->∀(j:Nat) (k:Key) (x:mt),us[j]?=J (k,x)->∃p t,ps[j]?=J p/\k=Sum.inl p.1/\x=.int p.2 t
 |[],_,r,j,k,x,e=>by exists r;simp at e
 |p::ps,_,r,j,k,x,e=>by
  rw[cU]at r;cases r with
  |cons h t =>
   rename_i q uv;cases j with
   |zero =>
    simp at e;subst e;obtain⟨af,u,ak⟩:=h;exact⟨p,u,rfl,af.symm,ak⟩
   |succ j=>exact Qh t j k x (by simpa using e)
noncomputable def rB(H:aJ)(as:List Addr)(ls:List ZA):aJ:=λb=>match as.findIdx? (·==b) with
 |some j=>J<|.aD<|(ls.getD j []).map V.int
 |none=>H b
def AF(h:b∉as):rB H as ls b=H b:=by
 unfold rB;have:as.findIdx? (·==b)=C:=by rw[Mx];intro x av;simp;rintro rfl;exact h av
 rw[this]
def Qi{j:Nat}(bW:as.Nodup)(h:as[j]?=J b):rB H as ls b=J (.aD<|(ls.getD j []).map V.int):=by
 unfold rB;have:as.findIdx? (·==b)=J j:=by
  obtain⟨bU,e⟩:=kM.mp h;rw[BJ];refine⟨bU,by simp[e],λi hi=>?_⟩;have:as[i]≠b:=λz=>by have:=(MQ (h₀:=(gT (eA hi) bU)) (h₁:=bU) bW).mp (z.trans e.symm);lia
  simpa using this
 rw[this]
def ab7{o:Expr}{eQ:bM}{p apos ec pos:Pos}(bp:X.A.handled=C)(aZ:bF X tw o eQ)(hm:X.a3 "sorted" = C)(bT:autoParam (fv X "sorted") bu)(rZ:autoParam (uf o "items" X.env (eval o X.I)=eval o X.I) bu)(r0:autoParam ((apos.endLine==ec.line)=Y0) bu)
  (he:autoParam (b4 [.Call (.Attribute o "items" apos) [] [] ec] X.I=(Y1,eval (.Call (.Attribute o "items" apos) [] [] ec) X.I)::b4 [] X.I) bu) :
  bF X tw (.Call (.Name "sorted" p) [.Call (.Attribute o "items" apos) [] [] ec] [] pos) (aH DE<|aa eQ ar):=by
 intro B S n t km n' hd ae s O H Q I ⟨R,k⟩;obtain⟨to,mo,f1,a6⟩:=DJ hd;have⟨ay,ps,mU,hi,dR,em⟩:∃ay ps,to=.bk ay/\itemsOf ay=J ps/\t=.ao ((hL (ps.map jG)).map aG)/\km=.aE:=by
  induction to using T.casesOn with
  |bk ay =>
   obtain⟨ps,af,ak⟩:=dw (show(itemsOf ay).map _=_ from a6)
   exists ak
   exact⟨ay,ps,rfl,af,rfl,rfl⟩
  |_=>exists a6
 subst mU dR em;refine l7<|la I bT hm yX ?_ Z0 Z0;refine PyProof.Rows.callWith_builtin1 (Q:=f6 X ae O Q) ?_ he rfl;rw[he];refine ia<|wpAny_Call_method0_late rZ r0 (b2 (aZ.run f1 I R) λu s1 ⟨v,H1,bf,bA,a1,bt,b6⟩=>?_);obtain⟨a,ws,rfl,na,cu,cM⟩:=b6.root bt R.aQ
 exists bA
 obtain⟨z,ab8,us,rel,dd⟩:=j6 bf.b1 cu;obtain⟨fs,hB,Qj,ll,ab9,_⟩:=id dd;refine⟨"dict","dict.items",PySem.F.plainAttrs_dict,PySem.F.slot_dict_items,PySem.F.type_dict_items,dd.typeIs,λb e=>by exists e;exact⟨fs,ll,ab9.2.1⟩,ub rfl<|PySem.evalArgs_none ?_⟩;refine call_meetsIn PySem.F.slot_dict_items dd.typeIs PySem.F.entry_dict_items (PySem.F.args_dict_items_1 _) (meets_dict_items (hI X.R X.w) a ab8) ⟨⟨us,dd⟩,?_⟩;refine l6 ?_;have cS:aS X ae O H1 { s1 with heap:=s1.heap.push { cls:=.type "dict_items",data:=.fields #[.ref a]}}:=bf.kept (t':=s1.toks) λb u q=>ed _ q;have va:(s1.heap.push { cls:=.type "dict_items",data:=.fields #[.ref a]}).DictOf (hI X.R X.w) a us:=by obtain⟨_,_,vc,aoa,sZ⟩:=j6 cS.b1 cu;obtain⟨fs,hB,Qj,aX,bb,cK⟩:=dd;exact⟨fs,hB,Qj,ed _ aX,bb,cK⟩
 obtain⟨ep,dQ⟩:=va.dictAt;have aB:ws.H=us.H:=Paired.length rel;have iQ:=Qf hi;subst iQ;have nK:=Qg cM;subst nK;have Qk:ps.H=us.H:=by rw[<-aB,cP]
 refine JS (W.kdx_collect (d:=a) bp ⟨_,gC _ rfl,rfl,rfl⟩ dQ (by rw[<-aB];exact z) λh' bx as b8 has iR=>?_);have pr:∀(j:Nat) (b:Addr),as[j]?=J b->∃(q:Int×Int) (t eI:Tok),ps[j]?=J q/\h'.get? b=J { cls:=.type "tuple",data:=.seq #[.int q.1 t,.int q.2 eI]}:=λj b e=>by
  obtain⟨key,md,x,g1,g2,g3⟩:=iR.pairs j b e;obtain⟨q,eI,af,rfl,rfl⟩:=Qh rel j md x g1;have⟨t,aW⟩:∃t,key=.int q.1 t:=by
   have g2:Value.isInt q.1 key=Y0:=g2
   exists key<;>simp[Value.isInt]at g2
   subst g2;exact⟨_,rfl⟩
  subst aW;exact⟨q,t,eI,af,g3⟩
 have tt:∀{as:List Addr} {ps:List Z6},as.H=ps.H->(∀(j:Nat) (b:Addr),as[j]?=J b->∃(q:Int×Int) (t eI:Tok),ps[j]?=J q/\h'.get? b=J { cls:=.type "tuple",data:=.seq #[.int q.1 t,.int q.2 eI]})->lZ h' (as.map Value.ref) (ps.map jG):=by
  intro as
  induction as with
  |nil=>intro ps e _;cases ps with
   |nil=>exact .nil
   |cons _ _=>simp at e
  |cons b as a4 =>
   intro ps e h;cases ps with
   |nil=>simp at e
   |cons q ps =>
    obtain⟨eN,t,eI,g1,g2⟩:=h 0 b rfl;simp at g1;subst g1
    exact .cons ⟨b,_,_,_,rfl,g2,rfl,rfl,.cons _ _<|.cons _ _ .nil,by simp[jG]⟩ (a4 (by simpa using e) λj gV bN=>by
     obtain⟨aca,t,eI,g1,g2⟩:=h (j+1) gV (by simpa using bN)
     exact⟨aca,t,eI,by simpa using g1,g2⟩)
 have T0:=tt (by rw[has,Qk]) pr;have bW:as.Nodup:=iR.rise.imp λh=>bv h;refine⟨_,by rw[cP,has,<-aB];exact z,λ_=>(P9 T0).at,λAD m6 e ky av aF AE=>?_⟩;obtain⟨c7,au⟩:=JT T0.gY aF AE;have above:∀b∈as,s1.L<=b:=λb aq=>by have:=iR.above b aq;rw[ny]at this;exact eA<|kP this
 have fr:∀b∈as,H1 b=C:=λb aq=>bf.b1.fresh<|above b aq;have fU:aS X ae O (rB H1 as<|ps.map jG) { s1 with heap:=h',toks:=bx}:=by
  refine bf.ag4 (λb u q=>b8 b u<|ed _ q) (λb u q=>?_) (λb aq q=>?_) λb u q e=>?_
  ·rw[AF λaq=>by rw[fr b aq]at q;exists q];exact q
  ·rw[AF λmw=>absurd aq<|Ha.mpr<|above b mw];exact q
  ·by_cases aq:b∈as
   ·obtain⟨j,bU⟩:=List.mem_iff_getElem?.mp aq;rw[Qi bW bU]at e;exists e;obtain⟨eN,t,eI,g1,g2⟩:=pr j b bU;have:(ps.map jG).getD j []=[eN.1,eN.2]:=by simp[List.getD,g1,jG]
    rw[this];exact⟨by simp;decide,[.int eN.1 t,.int eN.2 eI],.cons ⟨t,rfl⟩<|.cons ⟨eI,rfl⟩ .nil,_,g2,rfl,rfl,_,rfl⟩
   ·rw[AF aq,q]at e;exists e
 have bY:dn tw H1<|rB H1 as<|ps.map jG:=.all λb u q=>by rw[AF λaq=>by rw[fr b aq]at q;exists q];exact q
 have Ql:df tw n'<|rB H1 as<|ps.map jG:=by have:=bt.aQ;unfold df at this |-;rw[AF (λaq=>by rw[fr tw aq]at this;exists this)];exact this
 have iz:∃ah,cG ah (as.map Value.ref)/\bR tw (rB H1 as<|ps.map jG) ((ps.map jG).map aG) ah:=by
  refine xA (by rw[cP,cP,cP,has,Qk]) λj u e=>?_;rw[kg]at e;cases q:as[j]? with
  |none=>rw[q]at e;exists e
  |some b =>
   rw[q]at e;exists e;obtain⟨eN,t,eI,g1,g2⟩:=pr j b q;refine⟨.ref b,aG<|jG eN,rfl,by simp[g1],?_⟩;rw[aG,aI];refine⟨b,_,rfl,Qi bW q,?_⟩;rw[show(ps.map jG).getD j []=jG eN by simp[List.getD,g1]];exact bR.ints _
 obtain⟨ah,v1,v2⟩:=iz;obtain⟨Ai,eV,fM⟩:=Qe v1 v2 T0.gY c7;rw[au]at fM;have hf:rB H1 as (ps.map jG) h'.E.O=C:=fU.b1.fresh<|cg _;have hb:=fU.laid (a:=h'.E.O) (o:=.ao Ai) (t':=bx) (h':=AD) ky (cg _) ⟨by rw[eV.H,c7.length_eq,cP,has,<-aB];exact z,(m6.map (·.2)).B,e,eV,by rw[B4];exact av⟩;exact⟨.ref h'.E.O,_,hb,rfl,k _ _ (a1.trans<|bY.trans<|.new hf) (Ql.new hf) ⟨_,rfl,a1.free bt.aQ<|bY.free Ql hf,_,fC,bR.mono (.new hf) _ _ fM⟩⟩
end
end bj.bO
section
namespace bj.bO
open PySem PySem.Spec PyProof.Rows bj.Tm
def AG(K:W.Frag):kX:=λah H Q _=>∃(a:Addr) (ns:List Int),ah=[.ref a]/\gw K H a (ns.map V.int)/\ns.H<=63/\∀aj,Q (.aC Y0) aj
def aiM{P:dx}{w:c3}{K:W.Frag}{a3:Str->Option mt}{base:Heap}{st:Stmt}{f:Addr}{fd:hC}{N:List Str}{lv:Nat}{rest:List Stmt}{b:bw}{e5 cQ pos:Pos}(F:qo K "law" "law" st f fd)(cc:mG N ["_law_script"]<|er st)
  (aq:ih st=.Assign [.Name "_law_town" e5] (.List [] cQ) pos::rest) (af:N[1]?=J ("_law_town" : Str)) (ak:2<=N.H) (av:Loc (er st) "_law_town")
  (aP:∀(c8:mt) (A:dI) (cj:List Env) (s:aR) (H:aJ) (E:iv),nC (.List [] cQ) (J<|.Name "_law_town" e5) pos.line (jP iB P w K a3 base N "law" (er st) f c8 A cj s H E).lL.I=pure Y1)
  (kL:∀(tw:Addr) (c8:mt) (A:dI) (cj:List Env) (s:aR) (H:aJ) (E:iv),eD lv (A.deeper<|i5 "law" (er st) s.L f c8)->h1 (jP iB P w K a3 base N "law" (er st) f c8 A cj s H E).lL tw rest b)
  (run:∀ns:List Int,ns.H<=63->∃S' n',b (o7 ns N.H) 0=J (.aV (.aC Y0) Y1,S',n')):i2 P w K a3 base iB (lv+1) f fd ["_law_script"]<|AG K:=by
 refine F.ok cc (λah H Q E h=>?_) λc8 A cj s H ah Q E aU h=>?_
 ·obtain⟨a,ns,rfl,_⟩:=h;rfl
 obtain⟨a,ns,rfl,fw,acb,q⟩:=h;obtain⟨S',n',e⟩:=run ns acb;rw[aq];refine⟨_,uW (Ds (i:=1) cc.bW af av (IQ zQ) (aP c8 A cj s H E)<|.inl rfl) (u:=λD O H=>∃tw B,wQ K B tw (o7 ns N.H) 0 (.aV (.aC Y0) Y1) S' n' D O H) λae s' O aj D I h=>?_,?_⟩
 ·obtain⟨tw,B,h⟩:=h;exact kL tw c8 A cj s H E aU B _ 0 _ _ _ e ae s' O aj D I h
 ·refine⟨by show 0<=dg;exact gH _,λp aF=>?_⟩;have na:∀b o,H b=J o->b≠p:=λb o z=>by rintro rfl;rw[aF]at z;exists z
  have a7:u2 K p (c4 H p<|.ao []) a<|ns.map V.int:=by
   rcases fw with(z|⟨o,z⟩)|z
   ·exact .inl ⟨na _ _ z,.inl<|by rw[e1<|na _ _ z];exact z⟩
   ·exact .inl ⟨na _ _ z,.inr ⟨o,by rw[e1<|na _ _ z];exact z⟩⟩
   ·exact .inr z
  refine⟨p,c4 H p<|.ao [],⟨?_,?_⟩⟩
  ·have aQ:df p 0<|c4 H p<|.ao []:=by unfold df;rw[fC];rfl
   have ej:(o7 ns N.H).H=N.H:=by unfold o7;simp;lia
   have jD:start N [V.ref a]=J (V.ref a)::List.replicate (N.H-1) C:=rfl;have xu:((start N [V.ref a]).set 1 (J<|V.ref p))=J (V.ref a)::J (V.ref p)::List.replicate (N.H-2) C:=by rw[jD,show N.H-1=(N.H-2)+1 by lia,ox];rfl
   have get:∀(i:Nat) (x:T×bo),(o7 ns N.H)[i]?=J (J x)->(i=0/\x=(.ao<|ns.map .int,.cZ))\/(i=1/\x=(.dq,.ag)):=λi x z=>by
    unfold o7 at z
    match i,z with
    |0,z=>simp at z;exact .inl ⟨rfl,z.symm⟩
    |1,z=>simp at z;exact .inr ⟨rfl,z.symm⟩
    |i+2,z =>
     have z:(List.replicate (N.H-2) (C:Option ZJ))[i]?=J (J x):=z;rw[BP]at z;split at z<;>exists z
   rw[xu];refine⟨.refl _ _,aQ,⟨0,aQ⟩,by rw[ej];simp;lia,λi t z=>?_,λi t z=>?_,λi t z=>?_,λi t z=>?_,λi j t t' a z=>?_⟩
   ·rcases get i _ z with⟨rfl,z⟩|⟨rfl,z⟩
    ·exists z
    ·exists z;exact⟨_,rfl,by rw[aI]⟩
   ·rcases get i _ z with⟨rfl,z⟩|⟨rfl,z⟩
    ·exists z;exact⟨_,rfl,a,_,rfl,a7,bR.ints ns⟩
    ·exists z
   ·rcases get i _ z with⟨rfl,z⟩|⟨rfl,z⟩<;>exists z
   ·rcases get i _ z with⟨rfl,z⟩|⟨rfl,z⟩<;>exists z
   ·rcases get i _ z with⟨rfl,z⟩|⟨rfl,z⟩<;>exists z
  ·intro v aj _ _ _ z;have z:aI p aj (.aC Y0) v:=z;rw[aI]at z;subst z;exact q aj
def ag5{l:W.OpenLaw}{q:dx}{loose:List Str}{wN:(Str->Option mt)->Heap->Prop}{sz:c3->Heap->Prop}{d:DefRec}{K:Params->W.Frag}(k:Nat)(bz:l.most=J 63)(s6:d.params.defaults=[])(aU:eD k sq)
  (HE:∀(w:c3) (h:Heap),sz w h->(K w.params).In h)
  (F:∀(w:c3) (a3:Str->Option mt) (da:Addr) (h:Heap),(K w.params).In h->h.Ns kS a3->a3 d.name=J (.ref da) ->
   ∃fd:hC,(∀(s:aR) (u:mt),uk s fd ⟨[u],[]⟩ [("_law_script",u)])/\∀base:Heap,(K w.params).In base->base.Ns kS a3->i2 l.R w (K w.params) a3 base iB k da fd ["_law_script"] (AG<|K w.params)) :
  W.WalkO q loose wN sz l.row.toRowW d [] (λf ah=>PySem.call f ah) :=
 bj.ajX (n:=63) (k:=k) (x:="_law_script") (CX:=λ_=>iB) (sp:=λw=>AG<|K w.params) bz Z0 s6 aU HE F (λw _ a ns aB _ fw=>⟨a,ns,rfl,fw,aB,λ_=>rfl⟩) λ_ _ _ _ _ z=>z
def l2.of{X:bI}{scope:js}{N':List Str}{fo:List<|Option Nat}(af:autoParam (scope.kind=.function) bu)(ak:autoParam ((scope.names.all λy=>y.2 != .cell)=Y0) bu)
  (bc:autoParam ((scope.names.all λy=>y.2 != .local||scope.names.lookup y.1==J .local)=Y0) bu)
  (cL:autoParam ((scope.names.all λy=>y.2 != .free||X.env.kindOf y.1==J .cell||X.env.kindOf y.1==J .free)=Y0) bu)
  (eh:autoParam (fo.H=N'.H) bu)
  (HG:autoParam (((List.range fo.H).all λi=>match fo[i]? with
   | some (J j)=>(match N'[i]? with
    |some x=>X.N[j]?==J x&&scope.names.lookup x != J .local
    |none=>Y1)
   |_=>Y0)=Y0) bu):l2 X scope N' fo:=by
 refine⟨af,λy aK z=>?_,λy aK z=>?_,λy aK z=>?_,eh,λi j e=>?_⟩
 ·have:=iM.mp ak y aK;rw[z]at this;exists this
 ·have:=iM.mp bc y aK;rw[z]at this;exact eq_of_beq (by simpa using this)
 ·have:=iM.mp cL y aK;rw[z]at this;simpa using this
 ·have hi:i<fo.H:=(kM.mp e).1;have:=iM.mp HG i<|nu.mpr hi;rw[e]at this
  have:(match N'[i]? with
    |some x=>X.N[j]?==J x&&scope.names.lookup x != J .local
    |none=>Y1)=Y0:=this
  cases q:N'[i]? with
  |none=>rw[q]at this;exists this
  |some x =>
   rw[q]at this;simp only[f5,beq_iff_eq,bne_iff_ne]at this;exact⟨x,rfl,this.1,this.2⟩
end bj.bO
namespace bj
open PySem
def eD.fX{k:Nat}(r:eD k A):A.units+1<iu:=by have:=r.un;lia
def eD.CB{k:Nat}(r:eD k A):A.units+6<iu:=by have:=r.un;lia
end bj
end
namespace bj.bO
open PySem PySem.Spec PyProof.Rows
def pJ(xs:Array Nat):Prop:=∀(i j:Nat) (hi:i<xs.O) (bU:j<xs.O),i<j->xs[i]<xs[j]
theorem JV{j:Nat}(aU:pJ xs):∀(fuel lo hi:Nat),hi-lo<=fuel->lo<=hi->hi<=xs.O->(∀i (h:i<xs.O),i<lo->xs[i]<j)->(∀i (h:i<xs.O),hi<=i->j<=xs[i]) ->
  ∃p,SetTable.below.go xs j fuel lo hi=p/\lo<=p/\p<=hi/\(∀i (h:i<xs.O),i<p->xs[i]<j)/\∀i (h:i<xs.O),p<=i->j<=xs[i]
 |0,lo,hi,hf,aB,aP,af,ak=>⟨lo,rfl,cg _,aB,af,λi h gz=>ak i h Z3⟩
 |fuel+1,lo,hi,hf,aB,aP,af,ak=>by
  unfold SetTable.below.go;by_cases c:lo<hi
  ·rw[Y2 c];have hm:(lo+hi) / 2<xs.O:=by lia
   have bT:xs.getD ((lo+hi) / 2) j=xs[(lo+hi) / 2]:=by simp[Array.getD,hm]
   dsimp only;rw[bT];by_cases d:xs[(lo+hi) / 2]<j
   ·rw[Y2 d]
    obtain⟨p,e,a,b,aX,bb⟩:=JV aU fuel ((lo+hi) / 2+1) hi Z3 Z3 aP (λi h gz=>by
     by_cases z:i=(lo+hi) / 2
     ·subst z;exact d
     ·exact wo (aU i _ h hm<|sa (ki gz) z) d) ak
    exact⟨p,e,by lia,b,aX,bb⟩
   ·rw[Y3 d]
    obtain⟨p,e,a,b,aX,bb⟩:=JV aU fuel lo ((lo+hi) / 2) Z3 Z3 (eA hm) af (λi h gz=>by
     by_cases z:i=(lo+hi) / 2
     ·subst z;exact hS d
     ·exact bP (hS d)<|eA<|aU _ i hm h Z3)
    exact⟨p,e,a,by lia,aX,bb⟩
  ·rw[Y3 c];exact⟨lo,rfl,cg _,aB,af,λi h gz=>ak i h<|bP (hS c) gz⟩
def JW(aU:pJ xs)(j:Nat):SetTable.below xs j<=xs.O/\(∀i (h:i<xs.O),i<SetTable.below xs j->xs[i]<j)/\∀i (h:i<xs.O),SetTable.below xs j<=i->j<=xs[i]:=by obtain⟨p,e,_,b,aX,bb⟩:=JV aU (j:=j) xs.O 0 xs.O (cg _) (gH _) (cg _) (λi h z=>by lia) (λi h z=>by lia);have e:SetTable.below xs j=p:=e;rw[e];exact⟨b,aX,bb⟩
def yh(xs:Array Nat)(j:Nat):Prop:=xs[SetTable.below xs j]?≠J j
def akq{α:Type}(xs:Array α)(p:Nat)(x:α)(aF:p<=xs.O):(SetTable.insertAt xs p x).B=xs.toList.take p++x::xs.toList.drop p:=by unfold SetTable.insertAt;rw[wu,B6,B5,B5,BN,BN];simp only[yG,yy,h7,List.singleton_append];congr 2;exact wd Z7
def JX:pJ xs↔xs.toList.Pairwise (·<·):=by
 rw[GD];constructor
 ·intro h i j hi bU jH;simpa using h i j (by simpa using hi) (by simpa using bU) jH
 ·intro h i j hi bU jH;have:=h i j (by simpa using hi) (by simpa using bU) jH;rw[M7,M7]at this;exact this
def amc{j:Nat}(aU:pJ xs)(bz:yh xs j):pJ<|SetTable.insertAt xs (SetTable.below xs j) j:=by
 obtain⟨b,aX,bb⟩:=JW aU j;have cK:∀i (h:i<xs.O),SetTable.below xs j<=i->j<xs[i]:=λi h hi=>by
  have:=bb i h hi;rcases Nat.lt_or_eq_of_le this with z|z
  ·exact z
  ·by_cases e:i=SetTable.below xs j
   ·refine absurd ?_ bz;rw[<-e,t9 h,<-z]
   ·have dD:SetTable.below xs j<xs.O:=(gT hi h)
    have:=aU (SetTable.below xs j) i dD h Z3;have:=bb (SetTable.below xs j) dD<|cg _;lia
 rw[JX,akq _ _ _ b];have aB:=JX.mp aU;rw[pP];have cR:∀a∈xs.toList.take (SetTable.below xs j),a<j:=λa ba=>by obtain⟨i,hi,e⟩:=yo.mp ba;rw[jU]at hi;rw[yv]at e;have:=aX i (by simp at hi;exact d5 hi<|B0 _ _)<|d5 hi<|Nat.min_le_left _ _;simp at e;exact gT (d2 e.symm) this
 have gv:∀a∈xs.toList.drop (SetTable.below xs j),j<a:=λa ba=>by obtain⟨i,hi,e⟩:=yo.mp ba;rw[gc]at hi;rw[yu]at e;have:=cK (SetTable.below xs j+i) (by simp at hi;lia)<|gd _ _;simp at e;exact d5 this<|d2 e
 refine⟨aB.sublist<|ys _ _,jT.mpr ⟨gv,aB.sublist<|wg _ _⟩,λa ba c aT=>?_⟩;have:=cR a ba;rcases d4.mp aT with rfl|aT
 ·exact this
 ·have:=gv c aT;lia
structure l1 (led:Bool) (t:pU):Prop where
 led:t.led=led
 rise:t.plain=Y0->pJ t.place
theorem l1.fresh(led:Bool):l1 led<|.fresh 0 0 led:=⟨rfl,λ_ i j hi=>by simp[SetTable.fresh]at hi⟩
theorem l1.standIn{led:Bool}(g:l1 led t)(n:Nat):l1 led<|t.standIn n:=⟨g.led,λz=>by exists z⟩
def Qm{t:pU}{j:Nat}(h:∀i,t.slot j≠.live i):yh t.place j:=by intro z;refine h (SetTable.below t.place j) ?_;unfold SetTable.slot;dsimp only;rw[z];simp
theorem JY{t:pU}{f:Nat->Int}{h:Int}:∀(fuel:Nat) (p:SetTable.Probe) (j:Nat) (d:Option Nat),(∀x,p.dummy=J x->yh t.place x)->SetTable.probe.go t f h fuel p=J (.empty j d)->yh t.place j/\∀x,d=J x->yh t.place x
 |0,p,j,d,_,e=>by exists e
 |fuel+1,p,j,d,hd,e=>by
  unfold SetTable.probe.go at e;have Qn:∀q:SetTable.Probe,(t.advance q).dummy=q.dummy:=λq=>by unfold SetTable.advance;split<;>rfl
  cases aP:t.slot p.j with
  |empty =>
   rw[aP]at e
   exists e
   exact⟨Qm (λi z=>by rw[aP]at z;exists z),hd⟩
  |dummy =>
   rw[aP]at e
   exact JY fuel _ j d (λx av=>by
    rw[Qn]at av
    exists av
    exact Qm λi z=>by rw[aP]at z;exists z) e
  |live i =>
   rw[aP]at e;dsimp only at e;split at e
   ·exists e
   ·exact JY fuel _ j d (λx av=>by rw[Qn]at av;exact hd x av) e
def akr{t:pU}{h:Int}{j:Nat}{w:Bool}(e:t.freeSlot h=J (j,w)):yh t.place j:=by
 unfold SetTable.freeSlot at e;split at e
 ·rename_i q6 d aF
  exists e
  obtain⟨aM,bC⟩:=JY _ _ _ _ (λx av=>by exists av) aF;cases d with
  |none=>exact aM
  |some x=>exact bC x rfl
 ·exists e
def l1.lay{led:Bool}(g:l1 led t)(es:Array<|Int×mt)(h:Int)(x:mt):l1 led (layNew t es h x).2.1:=by
 unfold layNew;cases e:t.freeSlot h with
 |none=>exact g.standIn _
 |some q =>
  obtain⟨j,w⟩:=q;dsimp only;have g1:l1 led (t.put j).1:=⟨g.led,λz=>amc (g.rise z)<|akr e⟩
  unfold SetTable.orStandIn;split
  ·exact g1
  ·exact g1.standIn _
def acd(m:Nat)(f:Nat->Option Nat):((List.range m).filterMap λj=>(f j).map (j,·)).Pairwise (λa b=>a.1<b.1):=by
 rw[List.pairwise_filterMap];refine Mz.imp λ{a b} D3 x av y aK=>?_;cases ba:f a with
 |none=>rw[ba]at av;exists av
 |some u =>
  cases aq:f b with
  |none=>rw[aq]at aK;exists aK
  |some v=>rw[ba]at av;rw[aq]at aK;exists av;exists aK;exact D3
def l1.ag6{led:Bool}(g:l1 led t)(es:Array<|Int×mt)(k:Nat):l1 led (wC t es k).2.1:=by
 unfold wC;cases e:t.relaid (es.map (·.1)) k with
 |none=>exact g.standIn _
 |some q =>
  obtain⟨t',order⟩:=q;dsimp only;split
  ·unfold SetTable.relaid SetTable.laid at e;obtain⟨owner,_,au⟩:=cn (show(SetTable.layClean _ _).bind _=_ from e)
   exists au
   refine⟨g.led,λz=>?_⟩;rw[JX];dsimp only;rw[yw];exact acd _ _
  ·exact g.standIn _
def ace(aU:pJ xs){k:Nat}(aW:k<xs.O):SetTable.below xs (xs[k]+1)=k+1:=by
 obtain⟨b,aX,bb⟩:=JW aU<|xs[k]+1;have af:k<SetTable.below xs (xs[k]+1):=by
  by_cases c:k<SetTable.below xs (xs[k]+1)
  ·exact c
  ·have:=bb k aW<|hS c;lia
 have ak:SetTable.below xs (xs[k]+1)<=k+1:=by
  by_cases c:SetTable.below xs (xs[k]+1)<=k+1
  ·exact c
  ·have pg:k+1<xs.O:=(d5 (sd c) b)
   have a1:=aX (k+1) pg<|sd c;have a2:=aU k (k+1) aW pg<|cg _;lia
 exact h9 ak af
def acf(aU:pJ xs):SetTable.below xs 0=0:=by
 obtain⟨b,aX,bb⟩:=JW aU 0;by_cases c:SetTable.below xs 0=0
 ·exact c
 ·have:=aX 0 (d5 (kh c) b)<|kh c;lia
noncomputable def mx(w:c3):Bool:=w.params.followText "set-order"
structure kH (prog:dx) (w:c3) (h:Heap) (a:Addr) (es:Array<|Int×mt) (ep:Nat) (t:pU):Prop where
 obj:∃o,h.get? a=J o/\o.ExactSet/\o.d=.set es ep t
 bd:es.O<nD
 fit:t.fits es.O=Y0
 good:l1 (!mx w) t
def kH.kept{ep:Nat}(g:kH prog w h a es ep t)(k:∀o,h.get? a=J o->h'.get? a=J o):kH prog w h' a es ep t:=by obtain⟨o,af,ak⟩:=g.obj;exact⟨⟨o,k o af,ak⟩,g.bd,g.fit,g.good⟩
structure oq (prog:dx) (w:c3) (h:Heap) (a:Addr) (es:Array<|Int×mt) (ep:Nat) (t:pU):Prop where
 obj:∃o,h.get? a=J o/\o.ExactSet/\o.d=.set es ep t
 qb:ElemsOf (i4 prog w) es.B
 bd:es.O<nD
 fit:t.fits es.O=Y0
 good:l1 (!mx w) t
def oq.i{ep:Nat}(g:oq prog w h a es ep t):kH prog w h a es ep t:=⟨g.obj,g.bd,g.fit,g.good⟩
section
variable {prog:dx}{w:c3}{A:dI}{E:mt->aR->Prop}{s:aR}{a:Addr}{es:Array<|Int×mt}{ep:Nat}{t:pU}
def oq.kept(g:oq prog w h a es ep t)(k:∀o,h.get? a=J o->h'.get? a=J o):oq prog w h' a es ep t:=by obtain⟨o,af,ak⟩:=g.obj;exact⟨⟨o,k o af,ak⟩,g.qb,g.bd,g.fit,g.good⟩
def oq.store(g:oq prog w h a es ep t)(qb:ElemsOf (i4 prog w) jg.B)(bd:jg.O<nD)(fit:t'.fits jg.O=Y0)(good:l1 (!mx w) t') :
  oq prog w (h.update a<|Obj.putSet jg t') a jg (ep+1) t':=by
 obtain⟨o,af,ak,bc⟩:=g.obj;have:=qW (Obj.putSet jg t') af (by rw[putSet_of jg t' bc];rfl);rw[putSet_of jg t' bc]at this;exact⟨⟨_,this,ak,rfl⟩,qb,bd,fit,good⟩
def agl{v:Int}{Q:Bool->aR->Prop}(g:oq prog w s.D a es ep t)(room:es.O+1<nD)
  (af:(∃e∈es.B,(i4 prog w).is v e.2=Y0)->Q Y1 s)
  (ak:(¬ ∃e∈es.B,(i4 prog w).is v e.2=Y0)->∀h' jg sT t',Heap.SameBut a s.D h'->oq prog w h' a jg sT t'->jg.toList.Perm (es.B++[((i4 prog w).hash v,.int v bx)])->Q Y0 { s with heap:=h'}) :
  bl Z9 A (setAddHashed a (.int v bx)<|(i4 prog w).hash v) Q E s:=by
 have lX:(i4 prog w).is v (.int v bx)=Y0:=intKind_is _ _ _ _;obtain⟨o,aZ,hex,hd⟩:=g.obj;unfold setAddHashed setAddHashedIn;refine jr<|a8<|yP aZ hd g.fit ?_;dsimp only;rw[byScan_of (x:=.int v bx) rfl g.bd g.qb,Y2 rfl];unfold setAddByScan;refine a8<|a8<|l9<|a8<|wpAny_setScan_of lX aZ hd g.fit g.qb ?_;cases aU:List.findIdx? (λe=>(i4 prog w).is v e.2) es.B with
 |some j =>
  obtain⟨bU,aF,_⟩:=BJ.mp aU;exact bZ<|bZ<|af ⟨_,oA bU,aF⟩
 |none =>
  have no:¬ ∃e∈es.B,(i4 prog w).is v e.2=Y0:=λ⟨e,he,aF⟩=>by have:=Mx.mp aU e he;rw[aF]at this;exists this
  have k2:=ak no;have dC:=layNew_perm t es ((i4 prog w).hash v)<|.int v bx;have f1:=layNew_fits t es ((i4 prog w).hash v)<|.int v bx;have g1:=g.good.lay es ((i4 prog w).hash v)<|.int v bx;dsimp only;generalize layNew t es ((i4 prog w).hash v) (.int v bx)=L at dC f1 g1 |-;obtain⟨hB,t1,uJ,HN⟩:=L;dsimp only at dC f1 g1 |-;rw[B6]at dC;have wG:hB.O=es.O+1:=by rw[<-gI,dC.length_eq];simp
  have Qo:ElemsOf (i4 prog w) hB.B:=(g.qb.push lX rfl).perm dC;have way:∀(b:Bool) {dN:aR} {e9:Unit->aR->Prop},e9 () dN->bl Z9 A (match b with|true=>rule "set.scan.the-table-gave-way" |false=>pure ()) e9 E dN:=λb dN e9 a7=>by
   exists b
   ·exact bZ a7
   ·exact l9 a7
  have cq:hB.O<nD:=(gT (d2 wG) room)
  have jB:oq prog w (s.heap.update a<|Obj.putSet hB t1) a hB (ep+1) t1:=g.store Qo cq f1 g1;have Qp:=Heap.SameBut.update s.D a<|Obj.putSet hB t1
  have tail:bl Z9 A (do
    storeSet a hB t1
    if(!uJ&&t1.tooFull)=Y0 then do
      (match (wC t1 hB<|SetTable.grown hB.O).2.2 with|true=>rule "set.scan.the-table-gave-way" |false=>pure ())
      storeSet a (wC t1 hB<|SetTable.grown hB.O).1 (wC t1 hB<|SetTable.grown hB.O).2.1
      pure (J Y0)
     else pure (J Y0)) (λr s'=>r=J Y0/\Q Y0 s') E s:=by
   refine a8<|wpAny_storeSet_of aZ hd ?_<|yQ cq;split
   ·have c7:=relayAll_perm t1 hB<|SetTable.grown hB.O;have f2:=relayAll_fits t1 hB<|SetTable.grown hB.O;have g2:=g1.ag6 hB<|SetTable.grown hB.O;generalize wC t1 hB (SetTable.grown hB.O)=jZ at c7 f2 g2 |-;obtain⟨JZ,eI,an0⟩:=jZ;dsimp only at c7 f2 g2 |-;have acg:JZ.O=hB.O:=by rw[<-gI,c7.length_eq,gI]
    have cE:JZ.O<nD:=(gT (d2 acg) cq)
    obtain⟨fs,ll,_,vd⟩:=jB.obj;refine a8<|way _<|a8<|wpAny_storeSet_of ll vd ?_<|yQ cE;exact bZ ⟨rfl,k2 _ JZ _ eI (Qp.trans<|Heap.SameBut.update _ a _) (jB.store (Qo.perm c7) cE f2 g2)<|c7.trans dC⟩
   ·exact bZ ⟨rfl,k2 _ hB _ t1 Qp jB dC⟩
  refine a8<|way _ ?_;have eq1:hashByValue 8 (.int v bx)=pure Y0:=rfl;split
  ·rw[eq1];refine a8<|bZ ?_;simp only[if_true];refine hk tail (λr s' z=>?_) λ_ _ e=>e;obtain⟨rfl,z⟩:=z;exact bZ z
  ·refine a8<|bZ ?_;simp only[if_true];refine hk tail (λr s' z=>?_) λ_ _ e=>e;obtain⟨rfl,z⟩:=z;exact bZ z
end
def ot(prog:dx)(w:c3)(h:Heap)(a:Addr)(dc:List Int):Prop:=∃es ep t,oq prog w h a es ep t/\ha (es.toList.map (·.2)) dc/\dc.Nodup
section
variable {prog:dx}{w:c3}{A:dI}{E:mt->aR->Prop}{s:aR}{a:Addr}
theorem ot.kept(g:ot prog w h a dc)(k:∀o,h.get? a=J o->h'.get? a=J o):ot prog w h' a dc:=by obtain⟨es,ep,t,g1,g2⟩:=g;exact⟨es,ep,t,g1.kept k,g2⟩
def J0(h:ha us dc)(p:vc.Perm us):∃lT,ha vc lT/\lT.Perm dc:=by refine⟨vc.map numOf,intsAre_map vc λv bS=>h.all v<|p.mem_iff.mp bS,?_⟩;have:=p.map numOf;rwa [h.nums]at this
def ach(h:ha us dc)(v:Int):(∃u∈us,(i4 prog w).is v u=Y0)↔v∈dc:=by
 induction h with
 |nil=>simp
 |cons n t r a4 =>
  have e:(i4 prog w).is v (.int n t)=Y0↔v=n:=by show Value.isInt v (.int n t)=Y0↔v=n;simp[Value.isInt];exact eq_comm
  rw[d4,<-a4];constructor
  ·rintro⟨u,b7,z⟩;rcases d4.mp b7 with rfl|b7
   ·exact .inl<|e.mp z
   ·exact .inr ⟨u,b7,z⟩
  ·rintro(z|⟨u,b7,z⟩)
   ·exact⟨_,dT ..,e.mpr z⟩
   ·exact⟨u,am _ b7,z⟩
theorem ints_snoc:∀{us:List mt} {dc:List Int},ha us dc->∀(v:Int) (bx:Tok),ha (us++[.int v bx]) (dc++[v])
 |_,_,.nil,v,bx=>.cons v bx .nil
 |_,_,.cons n t r,v,bx=>.cons n t<|ints_snoc r v bx
def agm{v:Int}{Q:Bool->aR->Prop}(g:ot prog w s.D a dc)(room:dc.H+1<nD)
  (h:∀h' lT,Heap.SameBut a s.D h'->ot prog w h' a lT->(∀x,x∈lT↔x∈dc\/x=v)->lT.H<=dc.H+1->∀b,Q b { s with heap:=h'}) :
  bl Z9 A (setAddHashed a (.int v bx)<|(i4 prog w).hash v) Q E s:=by
 obtain⟨es,ep,t,g1,g2,g3⟩:=g;have aB:es.O=dc.H:=by rw[<-g2.H];simp
 have ex:(∃e∈es.B,(i4 prog w).is v e.2=Y0)↔v∈dc:=by
  rw[<-ach (prog:=prog) (w:=w) g2 v];constructor
  ·rintro⟨e,he,z⟩;exact⟨e.2,kf he,z⟩
  ·rintro⟨u,b7,z⟩;obtain⟨e,he,rfl⟩:=ez.mp b7;exact⟨e,he,z⟩
 refine agl g1 Z3 (λz=>?_) λz h' jg sT t' cV cc p=>?_
 ·have:s={ s with heap:=s.D}:=rfl;rw[this];refine h s.D dc (Heap.SameBut.refl a s.D) ⟨es,ep,t,g1,g2,g3⟩ (λx=>⟨.inl,λq=>q.elim id λq=>by rw[q];exact ex.mp z⟩) (t7 _) Y1
 ·have c7:=p.map (·.2);rw[lD]at c7;have gL:ha (es.toList.map (·.2)++[.int v bx])<|dc++[v]:=ints_snoc g2 v bx;obtain⟨lT,aX,bb⟩:=J0 gL c7;refine h h' lT cV ⟨jg,sT,t',cc,aX,?_⟩ (λx=>by rw[bb.mem_iff];simp) (by rw[bb.length_eq];simp) Y0;rw[bb.nodup_iff,wh];refine⟨g3,by simp,λx av y aK e=>?_⟩;simp at aK;subst aK e;exact z<|ex.mpr av
def amd{P:Nat->mt->Prop}{St:Nat->Heap->Prop}{ns:List Int}(W:Walks prog w A.in1 I fp wr ns.H P St)(fw:a∉fp)(e4:∀i v,P i v->∃t,v=.int (ns.getD i 0) t)(aq:ns.H+1<nD) :
  ∀(k i:Nat) (s:aR) (dc:List Int),ns.H-i=k->i<=ns.H->St i s.D->ot prog w s.D a dc->(∀x,x∈dc↔x∈ns.take i)->dc.H<=i ->
   (∀h' bx lT,(∀b o,b≠a->b∉wr->s.heap.get? b=J o->h'.get? b=J o)->ot prog w h' a lT->(∀x,x∈lT↔x∈ns)->R (.ok<|.ret .none) { s with heap:=h',toks:=bx}) ->
   kk Z9 A (.builtin "set.update.loop" ⟨[.ref a,.ref I],[]⟩) R s:=by
 have hw:a∉wr:=λz=>fw<|W.sub _ z;intro k
 induction k with
 |zero =>
  intro i s dc aW hi st g hm aB fin;have e:i=ns.H:=(h9 hi<|yB aW)
  subst e;refine pT F.entry_set_update_loop ?_;rw[Around.under_plainId F.plain_set_update_loop _];refine a8 (m:=mM<|.ref I) (W.done s _ _ st λh' bx b8=>?_);exact bZ (fin h' bx dc (λb o _ nb z=>b8 b o nb z) (g.kept λo z=>b8 a o hw z) λx=>by rw[hm x,yx])
 |succ k a4 =>
  intro i s dc aW hi st g hm aB fin;have dD:i<ns.H:=(G3<|qU<|d2 aW.symm)
  refine pT F.entry_set_update_loop ?_;rw[Around.under_plainId F.plain_set_update_loop _];refine a8 (m:=mM<|.ref I) (W.item i s _ _ dD st λv h' bx bS c1 b8=>?_);obtain⟨t,rfl⟩:=e4 i v bS;refine a8 (m:=oI [Value.int (ns.getD i 0) t]<|setAdd a<|.int (ns.getD i 0) t)<|jr ?_;unfold setAdd;refine jr<|a8<|(i4 prog w).pyHash (k:=ns.getD i 0) (intKind_is _ _ _ _) ?_;refine agm (s:={ s with heap:=h',toks:=bx+1}) (g.kept λo z=>b8 a o hw z) Z3 λak El cV g2 gv fF b=>?_;refine bZ ⟨oH F.plain_set_update_loop _,a4 (i+1) _ El Z3 dD (W.frame _ _ _ c1 λb aq o z=>?_) g2 (λx=>?_) (bP fF<|t5 aB) λbc JH aci acj g3 jz=>?_⟩
  ·show ak.get? b=J o;rw[cV.2 b λq=>fw<|by rw[<-q];exact aq];exact z
  ·rw[gv x,hm x,GU,hR,hj dD];have:ns.getD i 0=ns[i]:=by simp[List.getD,dD]
   rw[this];simp
  ·refine fin bc JH aci (λb o nb nw z=>acj b o nb nw ?_) g3 jz;show ak.get? b=J o;rw[cV.2 b nb];exact b8 b o nw z
end
end bj.bO
section
set_option maxHeartbeats 8000000
namespace bj.bO
open PySem PySem.Spec PyProof.Rows
section
variable {prog:dx}{w:c3}{A:dI}{E:mt->aR->Prop}{s:aR}
noncomputable abbrev jK(w:c3):Obj:={ cls:=.type "set",dict:=C,data:=.set #[] 0 (.fresh 0 0<|!mx w)}
def aks(x:mt)(h:Q₁ Zv { s with heap:=s.heap.push (jK w)}) :
  kk Z9 A (.call (.builtin "set.__new__") ⟨[.type "set",x],[]⟩) (wants Q₁ E) s:=by
 refine codeAny_of_tree (show bl _ A.in1 (do checkBuiltinCall "set.__new__" ⟨[.type "set",x],[]⟩;again (.builtin "set.__new__" ⟨[.type "set",x],[]⟩)) _ _ s from ?_)
 refine a8 (wpAny_of_eq (F.newCall_set_1 x) (bZ ⟨oH F.plain_set_new _,pT F.entry_set_new (by
  rw[Around.under_plainId F.plain_set_new _];unfold Builtin.«set.__new__» Builtin.Frozenset.newClass;have agn:=sub_set_self;obtain⟨aF,g,d,bx,os⟩:=s;dsimp only;wp_walk;refine yR<|bZ ?_;dsimp only;simp only[newObj]
  exact a8<|wpAny_alloc<|bZ<|bZ h)⟩))
def ack(bT:h.get? a=J (jK w)):ot prog w h a [] :=
 ⟨#[],0,_,⟨⟨_,bT,⟨rfl,rfl,rfl⟩,rfl⟩,λe he=>by simp at he,by decide,rfl,.fresh _⟩,.nil,.nil⟩
def Vb{items:Array mt}{P:Nat->mt->Prop}{St:Nat->Heap->Prop}(xK:s.heap.get? l=J ol)(hi:ha items.B ns)(aq:ns.H+1<nD)
  (W:Walks prog w A.in1 (s.heap.push<|jK w).E.O [(s.heap.push<|jK w).E.O,l] [(s.heap.push<|jK w).E.O] ns.H P St) (st:St 0<|(s.heap.push<|jK w).push oi) (e4:∀i v,P i v->items[i]?=J v)
  (fin:∀h' bx dc,ot prog w h' s.L dc->(∀x,x∈dc↔x∈ns)->Zt->R (.ok<|.ret .none) { s with heap:=h',toks:=bx}) :
  kk Z9 A (.builtin "set.update.loop" ⟨[.ref s.L,.ref (s.heap.push<|jK w).E.O],[]⟩) R { s with heap:=(s.heap.push (jK w)).push oi}:=by
 have fw:(s.heap.push<|jK w).get? s.L=J (jK w):=gC _ rfl;have acm:l<s.L:=d6 xK;have Em:s.L∉[(s.heap.push<|jK w).E.O,l]:=by rw[ny];simp;exact pS acm
 refine amd W Em (λi v bS=>IntsAre.int_at hi i v<|by rw[lE];exact e4 i v bS) aq ns.H 0 _ [] (yG _) (gH _) st (ack<|ed _ fw) (λx=>by simp) Z7 λh' bx dc b8 g m=>fin h' bx dc g m λb o z=>?_;have aq:=d6 z;exact b8 b o (bv aq) (by rw[ny];simp;exact bv<|oD aq)<|ed _<|ed _ z
def aiN(aT:c = "list" \/ c = "tuple"){nl:Nat}(bp:A.handled=C)(xK:s.heap.get? l=J ol)(m2:ol.cls=.type c)(Qq:ol.d=.seq items nl)(hi:ha items.B ns)(aq:ns.H+1<nD)
  (h:∀(h':Heap) (bx:Nat) (dc:List Int),ot prog w h' s.L dc->(∀x,x∈dc↔x∈ns)->Zt->Q Zv { s with heap:=h',toks:=bx}) :
  bl Z9 A (call (.type "set") [.ref l]) Q E s:=by
 have ej:items.O=ns.H:=by rw[<-hi.H];simp
 obtain⟨cH,hW,aob⟩:=F.called_set.mro;have aoe:=F.called_set.made;have agn:=F.called_set.sub;refine ui<|codeAny_of_tree (show bl _ _ (callAny (.type "set") _) _ _ _ from bZ ⟨Code.quiet_builtin _ Za,pT F.entry_type_call ?_⟩);rw[Around.under_plain (weight_type_call_type "set" [.ref l] []) rfl];have k1:=F.called_set.notType;have k2:=F.called_set.canCreate;have k3:=F.typeCall_set_1<|.ref l
 repeat (any_goals (first|assumption|wp_step))
 refine si (aks (.ref l) (E:=E) (Q₁:=λobj dN=>obj=.ref s.L/\dN={ s with heap:=s.heap.push (jK w)}) ⟨rfl,rfl⟩) λr dN aU=>?_;cases r with
 |error e=>exact aU
 |ok bG =>
  cases bG with
  |ret obj =>
   obtain⟨rfl,rfl⟩:=aU;have fw:(s.heap.push<|jK w).get? s.L=J (jK w):=gC _ rfl;have gu:Shared.TypeIs { s with heap:=s.heap.push (jK w)} (.ref s.L) "set":=⟨_,fw,rfl⟩
   have zh:=F.called_set.init.lookup;have k5:=F.called_set.init.bind Zv
   repeat (any_goals (first|assumption|wp_step))
   refine si (Hi (R:=wants (λr gU=>r=.none/\∃h' bx dc,gU={ s with heap:=h',toks:=bx}/\ot prog w h' s.L dc/\(∀x,x∈dc↔x∈ns)/\Zt) E) F.called_set.init.plain F.entry_set_init<|check_set_init_1 gu ?_) λWm gU J1=>?_
   ·have TZ:(s.heap.push<|jK w).get? l=J ol:=ed _ xK;have T1:l≠(s.heap.push<|jK w).E.O:=by rw[ny];exact bv (oD<|d6 xK)
    have Qr:A.in1.in1.in1.handled=C:=by simp[bp]
    obtain⟨aoc,aof,aog,aoh⟩:=ol;simp only at m2 Qq;subst m2;subst Qq;rcases aT with rfl|rfl
    ·have aX:=F.sub_list_set;have bb:=F.sub_list_frozenset;have cK:(Value.type "list" == Value.type "dict")=Y1:=by decide
     have vl:(s.heap.push<|jK w).IsList l items:=⟨_,TZ,rfl,nl,rfl⟩
     unfold Builtin.«set.__init__» noKeywords Builtin.Frozenset.updateFrom;generalize J2:mb=oN
     wp_walk
     subst J2;refine Ca vl<|a8<|Hr ?_;have W:=Walks.list (prog:=prog) (w:=w) Qr _ l T1 items;rw[ej]at W;exact Vb xK hi aq W ⟨⟨_,gC _ rfl,rfl,rfl⟩,vl.push _⟩ (λi v z=>z) λh' bx dc g m b8=>bZ<|bZ ⟨rfl,h',bx,dc,rfl,g,m,b8⟩
    ·have aX:isSubtype (.type "tuple") (.type "set")=pure Y1:=by rw[yT];kernel_rfl
     have bb:isSubtype (.type "tuple") (.type "frozenset")=pure Y1:=by rw[yT];kernel_rfl
     have cK:(Value.type "tuple" == Value.type "dict")=Y1:=by decide
     have vl:(s.heap.push<|jK w).IsTuple l items:=⟨_,TZ,rfl,nl,rfl⟩
     unfold Builtin.«set.__init__» noKeywords Builtin.Frozenset.updateFrom;generalize J2:mb=oN
     wp_walk
     subst J2;refine Hk vl<|a8<|Hr ?_;have W:=Walks.tuple (prog:=prog) (w:=w) Qr _ l T1 items;rw[ej]at W;exact Vb xK hi aq W ⟨⟨_,gC _ rfl,rfl,rfl⟩,let ⟨o,aZ,r⟩:=vl;⟨o,ed _ aZ,r⟩⟩ (λi v z=>z) λh' bx dc g m b8=>bZ<|bZ ⟨rfl,h',bx,dc,rfl,g,m,b8⟩
   ·cases Wm with
    |error e=>exact J1
    |ok acn =>
     cases acn with
     |ret r =>
      obtain⟨rfl,h',bx,dc,rfl,g,m,b8⟩:=J1
      repeat (any_goals (first|assumption|wp_step))
      exact h _ _ _ g m b8
     |_=>exact J1.elim
  |_=>exact aU.elim
end
end bj.bO
end
section
set_option maxHeartbeats 1000000
namespace bj.bO
open PySem PySem.Spec PyProof.Rows
def Vc:Manifest.owners.lookup (String.ofList ['r','o','t','a','r','e','t','i','_','t','e','s'].reverse)=J Manifest.sig_set_iterator:=by kernel_rfl
def tq:Slot "set_iterator" "__next__" "set_iterator.__next__" :=
 .of (owner:="set_iterator") (n:="__next__") (by rw[Cd,B9];kernel_rfl) Za Za Za (by first|exact .inl Za|exact .inr Za) (by rw[yT];kernel_rfl)
def Qs:yW table "set_iterator.__next__" = J Builtin.«set_iterator.__next__»:=entryFor_of_tree (by kernel_rfl)
def Qt(a:mt):qZ "set_iterator.__next__" ⟨[a],[]⟩:=by unfold qZ;rw[signature?_of (id:="set_iterator.__next__") (n:=['_','_','t','x','e','n','_','_']) (o:=['r','o','t','a','r','e','t','i','_','t','e','s']) (by kernel_rfl) Vc];kernel_rfl
def aco:yW table "set.__iter__" = J Builtin.«frozenset.__iter__»:=entryFor_alias (id':="frozenset.__iter__") (by kernel_rfl) rfl Za (by kernel_rfl)
noncomputable abbrev qz(f:mt)(i:Nat)(a:Addr)(n ep:Nat):Obj:={ cls:=.type "set_iterator",data:=.fields #[f,gJ i,.ref a,gJ n,gJ ep]}
section
variable {prog:dx}{w:c3}{A:dI}{E:mt->aR->Prop}{s:aR}{I a:Addr}{es:Array<|Int×mt}{ep i:Nat}{t:pU}
def Qu{α:Type}{Q:α->aR->Prop}(bp:A.handled=C)(h:∀e h',Zt->Shared.TypeIs { s with heap:=h'} e "StopIteration" -> E e { s with heap:=h'}):bl Z9 A (newExc (.type "StopIteration") [] >>= λe=>(raiseNew e:Sem α)) Q E s:=by refine a8 ?_;simp only[newExc,newTuple];refine a8 (kR ?_<|by size_fits);refine a8 (m:=firstArgMember _ _)<|wpAny_of_eq (a:=Value.none) (by first|rfl|(simp only[firstArgMember];rfl)) ?_;refine kR ?_ (by size_fits);simp only[raiseNew];refine a8 (wpAny_handled ?_);rw[bp];exact a8 (bZ (wpAny_throw (h (.ref _) _ (λb o z=>ed _<|ed _ z) ⟨_,gC _ rfl,rfl⟩)))
def En{slot Qw:Nat}(g:kH prog w s.D a es ep t)(hd:mx w=Y1->(!t.plain&&decide (es.O>1))=Y1)(acp:Qw=ep)
  (af:mx w=Y0->Q (((sk (w.params.setOrder a ep) es)[i]?).map λe=>(e.2,slot)) s)
  (ak:mx w=Y1->Q (match es[SetTable.below t.place slot]?,t.place[SetTable.below t.place slot]? with|some (_,x),J j=>J (x,j+1)|_,_=>C) s):bl Z9 A (setNext a slot i Qw) Q E s:=by
 subst acp;obtain⟨o,aZ,av,lp⟩:=g.obj;unfold setNext setsByText;refine a8<|yP aZ lp g.fit ?_;dsimp only;refine a8<|a8<|yR<|bZ ?_;show bl _ _ (if mx w=Y0 then _ else _) _ _ s;cases aq:mx w with
 |true =>
  rw[Y2 rfl,Y3 Z7];unfold setWalk setsByText;refine a8<|a8<|yP aZ lp g.fit ?_;dsimp only;refine a8<|a8<|yR<|bZ ?_;show bl _ _ (if mx w=Y0 then _ else _) _ _ s;rw[aq,Y2 rfl];refine a8<|yR<|bZ<|bZ<|af aq
 |false =>
  rw[Y3 Z7];have az:=hd aq;have au:t.led=Y0:=by rw[g.good.led,aq];rfl
  show bl _ _ (if(!t.plain&&decide (es.O>1))=Y0 then _ else _) _ _ s;rw[az,Y3 Z0];refine a8 ?_;wp_delta;rw[au,Y3 Z7];exact bZ<|bZ<|ak aq
def Eo{slot:Nat}{r:Option<|mt×Nat}{Q:Option mt->aR->Prop}(bp:A.handled=C)(hit:s.heap.get? I=J (qz (gJ slot) i a es.O ep))(g:kH prog w s.D a es ep t)
  (bz:∀(A':dI) (oX:mt->aR->Prop) (e9:Option (mt×Nat)->aR->Prop),e9 r s->bl Z9 A' (setNext a slot i ep) e9 oX s)
  (af:∀x bD,r=J (x,bD)->∀h',h'.get? I=J (qz (gJ bD) (i+1) a es.O ep)->Heap.SameBut I s.D h'->Q (J x) { s with heap:=h'})
  (ak:r=C->∀h',(∀b o,b≠I->s.heap.get? b=J o->h'.get? b=J o)->Q C { s with heap:=h'}):bl (bg prog w) A (mM (.ref I)) Q E s:=by
 have gu:s.TypeIs (.ref I) "set_iterator":=⟨_,hit,rfl⟩
 obtain⟨o,aZ,av,lp⟩:=g.obj;unfold mM;refine a8<|wA<|yN (name:=Str.ofString "__next__") gu tq<|sh tq gu Qs ?_<|Qt _;unfold Builtin.«set_iterator.__next__»;refine a8<|bZ<|a8<|wpAny_fieldsOf hit rfl ?_;dsimp only;refine a8<|Hj aZ lp g.fit ?_;rw[Y3 Z7];simp only[gJ,ua];refine a8<|bz _ _ _ ?_;cases r with
 |some q =>
  obtain⟨x,bD⟩:=q;dsimp only;refine a8<|wy hit rfl Z7<|a8 ?_;have F6:=qW (Obj.mapFields (·.setIfInBounds 0 (gJ bD))) hit rfl;refine wy F6 rfl Z7<|bZ ⟨_,rfl,bZ<|af x bD rfl _ ?_<|(Heap.SameBut.update ..).trans (Heap.SameBut.update ..)⟩;exact qW _ F6 rfl
 |none =>
  dsimp only;refine a8<|wy hit rfl Z7 (Qu (by simpa using bp) λe h' b8 HS=>?_);refine a8<|Ho (T:="StopIteration") (b:=Y0) HS isSubtype_stop<|bZ (ak rfl h' λb o nb z=>b8 b o ?_);rw[(Heap.SameBut.update s.D I _).2 b nb];exact z
def Qx{tp:Addr}{HT:Obj}{cQ:Array mt}{m:Nat}{Q:Option mt->aR->Prop}(bp:A.handled=C)(hit:s.heap.get? I=J (qz (.ref tp) i a es.O ep))(g:kH prog w s.D a es ep t)(acq:s.heap.get? tp=J HT)(an1:HT.cls=.type "tuple")(ago:HT.d=.seq cQ m)
  (af:∀p,cQ[i]?=J (gJ (p:Nat))->∃av x,es[p]?=J (av,x)/\∀h',h'.get? I=J (qz (.ref tp) (i+1) a es.O ep)->Heap.SameBut I s.D h'->Q (J x) { s with heap:=h'})
  (h0:cQ[i]?=C\/∃p:Nat,cQ[i]?=J (gJ p))
  (ak:cQ[i]?=C->∀h',(∀b o,b≠I->s.heap.get? b=J o->h'.get? b=J o)->Q C { s with heap:=h'}):bl (bg prog w) A (mM (.ref I)) Q E s:=by
 have gu:s.TypeIs (.ref I) "set_iterator":=⟨_,hit,rfl⟩
 obtain⟨o,aZ,av,lp⟩:=g.obj;unfold mM;refine a8<|wA<|yN (name:=Str.ofString "__next__") gu tq<|sh tq gu Qs ?_<|Qt _;unfold Builtin.«set_iterator.__next__»;refine a8<|bZ<|a8<|wpAny_fieldsOf hit rfl ?_;dsimp only;refine a8<|Hj aZ lp g.fit ?_;rw[Y3 Z7];refine a8<|Cf acq ago ?_;simp only[gJ,ua];rcases h0 with bz|⟨p,aF⟩
 ·simp only[bz];refine a8<|wy hit rfl Z7<|a8 ?_;have F6:=qW (Obj.mapFields (·.setIfInBounds 0 (gJ 0))) hit rfl;refine wy F6 rfl Z7 (Qu (by simpa using bp) λe h' b8 HS=>?_);refine a8<|Ho (T:="StopIteration") (b:=Y0) HS isSubtype_stop<|bZ (ak bz h' λb o nb z=>b8 b o ?_);rw[(Heap.SameBut.update _ I _).2 b nb,(Heap.SameBut.update s.D I _).2 b nb];exact z
 ·obtain⟨fm,x,e,k⟩:=af p aF;simp only[aF,gJ,ua];unfold setNextDrawn;refine a8<|a8<|yP aZ lp g.fit ?_;dsimp only;rw[Y3 Z7,e];refine bZ<|a8<|wy hit rfl Z7<|bZ ⟨_,rfl,bZ<|k _ ?_<|Heap.SameBut.update ..⟩;exact qW _ hit rfl
end
end bj.bO
end
section
set_option maxHeartbeats 1000000
namespace bj.bO
open PySem PySem.Spec PyProof.Rows
theorem J3{α:Type}:∀{l:List α} {i:Nat} (h:i<l.H),(l[i]::l.eraseIdx i).Perm l
 |[],i,h=>by simp at h
 |x::l,0,h=>.refl _
 |x::l,i+1,h=>by rw[List.getElem_cons_succ,List.eraseIdx_cons_succ];exact(List.Perm.swap _ _ _).trans ((J3<|by simpa using h).cons x)
theorem Qy{α:Type}(f:Nat->Nat):∀(fuel k:Nat) (left:List α) (out:Array α),fuel=left.H->(pickOrder.go f fuel k left out).toList.Perm (out.B++left)
 |0,k,left,out,h=>by have:left=[]:=GG.mp h.symm;subst this;unfold pickOrder.go;simp
 |fuel+1,k,left,out,h=>by unfold pickOrder.go;have aB:f k%left.H<left.H:=Nat.mod_lt _<|qU<|d2 h;rw[hj aB];dsimp only;refine(Qy f fuel (k+1) _ _<|by rw[Mv aB];lia).trans ?_;rw[B6,h7];exact List.Perm.append_left _<|J3 aB
def J4{α:Type}(f:Nat->Nat)(xs:Array α):(sk f xs).toList.Perm xs.B:=by have:=Qy f xs.O 0 xs.B #[] Z7;simpa[sk]using this
section
variable {prog:dx}{w:c3}{A:dI}{E:mt->aR->Prop}{s:aR}{I a:Addr}{es:Array<|Int×mt}{ep i:Nat}{t:pU}
def acr{n:Nat}{Q:Nat->aR->Prop}(bz:n≠0)(h:∀k d,k<n->Q k { s with drawn:=d}):bl Z9 A (choose src n) Q E s:=by intro Γ p Wn;show Sem.wp _ _ (.choose src n _) _ _ _ _;rw[Sem.wp_choose];refine⟨bz,?_⟩;exact bZ (h _ _<|Nat.mod_lt _<|kh bz) Γ p Wn
theorem Qz{α:Type}:∀(n:Nat) (xs:List α) (s:aR) (Q:List α->aR->Prop),n=xs.H->(∀l d,l.Perm xs->Q l { s with drawn:=d})->bl (bg prog w) A (drawOrder n xs) Q E s
 |0,xs,s,Q,e,h=>by have:xs=[]:=GG.mp e.symm;subst this;unfold drawOrder;exact bZ<|h [] s.drawn<|.refl _
 |n+1,[],s,Q,e,h=>by exists e
 |n+1,x::xs,s,Q,e,h=>by unfold drawOrder;refine a8 (acr Z7 λk d aW=>?_);rw[hj aW];dsimp only;refine a8 (Qz n _ _ _ (by rw[Mv aW];exact Nat.add_right_cancel e) λl d' p=>bZ ?_);exact h _ d'<|(p.cons _).trans (J3 aW)
def QA:Slot "set_iterator" "__iter__" "set_iterator.__iter__" :=
 .of (owner:="set_iterator") (n:="__iter__") (by rw[Cd,B9];kernel_rfl) Za Za Za (by first|exact .inl Za|exact .inr Za) (by rw[yT];kernel_rfl)
def ame(a:mt):qZ "set_iterator.__iter__" ⟨[a],[]⟩:=by unfold qZ;rw[signature?_of (id:="set_iterator.__iter__") (n:=['_','_','r','e','t','i','_','_']) (o:=['r','o','t','a','r','e','t','i','_','t','e','s']) (by kernel_rfl) Vc];kernel_rfl
def acs:yW table "set_iterator.__iter__" = J Builtin.«dict_keyiterator.__iter__»:=entryFor_alias (id':="dict_keyiterator.__iter__") (by kernel_rfl) rfl Za (by kernel_rfl)
def J5{o:Obj}{Q:mt->aR->Prop}(aZ:s.heap.get? I=J o)(aT:o.cls=.type "set_iterator")(h:Q (.ref I) s):bl Z9 A (mb<|.ref I) Q E s:=by
 have gu:s.TypeIs (.ref I) "set_iterator":=⟨_,aZ,aT⟩
 refine wpAny_pyIter_slot gu QA<|sh QA gu acs (show bl _ _ (ret<|.ref I) _ _ s from ?_)<|ame _;exact bZ ⟨_,rfl,"set_iterator",_,gu,tq.lookup,h⟩
noncomputable def slotAt(cQ:Array Nat):Nat->Nat
 |0=>0
 |i+1=>cQ.getD i 0+1
def QB(aU:pJ cQ)(hi:i<=cQ.O):SetTable.below cQ (slotAt cQ i)=i:=by
 cases i with
 |zero=>exact acf aU
 |succ i =>
  have h:i<cQ.O:=hi;have e:slotAt cQ (i+1)=cQ[i]+1:=by unfold slotAt;simp[Array.getD,h]
  rw[e];exact ace aU h
def acu(aq:mx w=Y1)(aU:pJ t.place)(hd:(!t.plain&&decide (es.O>1))=Y1)(bp:A.handled=C)(AH:I≠a) :
  Walks prog w A I [I,a] [I] es.O (λi v=>(es.toList.map (·.2))[i]?=J v) (λi h=>h.get? I=J (qz (gJ<|slotAt t.place i) i a es.O ep)/\kH prog w h a es ep t) where
 sub:=λb aq=>by simp at aq;simp[aq]
 frame:=λi h h' st k=>⟨k I Z7 _ st.1,st.2.kept λo z=>k a Z7 o z⟩
 item:=λi s Q E hi st hD=>by
  have hsz:t.place.O=es.O:=by have:=st.2.fit;simp[SetTable.fits]at this;exact this.1
  have aF:i<t.place.O:=(d5 hi<|d2 hsz.symm)
  refine Eo (r:=J (es[i].2,t.place[i]+1)) bp st.1 st.2 (λA' oX e9 q=>En st.2 (λ_=>hd) rfl (λz=>by rw[aq]at z;exists z) λ_=>?_) (λx bD e h' af cV=>?_) λz=>by exists z
  ·rw[QB aU<|eA aF,t9 hi,t9 aF];exact q
  ·exists e
   refine hD _ h' s.toks (by simp[hi]) ⟨?_,st.2.kept λo z=>by rw[cV.2 a<|Ne.symm AH];exact z⟩ λb o nb z=>by rw[cV.2 b<|by simpa using nb];exact z
   rw[af];simp[slotAt,Array.getD,aF]
 done:=λs Q E st hD=>by
  have hsz:t.place.O=es.O:=by have:=st.2.fit;simp[SetTable.fits]at this;exact this.1
  refine Eo (r:=C) bp st.1 st.2 (λA' oX e9 q=>En st.2 (λ_=>hd) rfl (λz=>by rw[aq]at z;exists z) λ_=>?_) (λx bD e=>by exists e) λ_ h' b8=>hD h' s.toks λb o nb z=>b8 b o (by simpa using nb) z;rw[QB aU<|d2 hsz.symm,M5<|cg _];exact q
 self:=λ_ s Q E st hD=>J5 st.1 rfl hD
def acv(aq:mx w=Y0)(bp:A.handled=C)(AH:I≠a) :
  Walks prog w A I [I,a] [I] es.O (λi v=>((sk (w.params.setOrder a ep) es).toList.map (·.2))[i]?=J v) (λi h=>h.get? I=J (qz (gJ (0:Nat)) i a es.O ep)/\kH prog w h a es ep t) where
 sub:=λb aq=>by simp at aq;simp[aq]
 frame:=λi h h' st k=>⟨k I Z7 _ st.1,st.2.kept λo z=>k a Z7 o z⟩
 item:=λi s Q E hi st hD=>by
  have eS:(sk (w.params.setOrder a ep) es).O=es.O:=by have:=(J4 (w.params.setOrder a ep) es).length_eq;simpa using this
  have aF:i<(sk (w.params.setOrder a ep) es).O:=(d5 hi<|d2 eS.symm)
  refine Eo (r:=J ((sk (w.params.setOrder a ep) es)[i].2,0)) bp st.1 st.2 (λA' oX e9 q=>En st.2 (λz=>by rw[aq]at z;exists z) rfl (λ_=>?_) λz=>by rw[aq]at z;exists z) (λx bD e h' af cV=>?_) λz=>by exists z
  ·rw[t9 aF];exact q
  ·exists e
   exact hD _ h' s.toks (by simp[aF]) ⟨af,st.2.kept λo z=>by rw[cV.2 a<|Ne.symm AH];exact z⟩ λb o nb z=>by rw[cV.2 b<|by simpa using nb];exact z
 done:=λs Q E st hD=>by
  have eS:(sk (w.params.setOrder a ep) es).O=es.O:=by have:=(J4 (w.params.setOrder a ep) es).length_eq;simpa using this
  refine Eo (r:=C) bp st.1 st.2 (λA' oX e9 q=>En st.2 (λz=>by rw[aq]at z;exists z) rfl (λ_=>?_) λz=>by rw[aq]at z;exists z) (λx bD e=>by exists e) λ_ h' b8=>hD h' s.toks λb o nb z=>b8 b o (by simpa using nb) z;rw[M5<|d2 eS];exact q
 self:=λ_ s Q E st hD=>J5 st.1 rfl hD
def acw{tp:Addr}{l:List Nat}(aB:l.Perm<|List.range es.O)(bp:A.handled=C)(AH:I≠a)(acx:I≠tp) :
  Walks prog w A I [I,a,tp] [I] es.O (λi v=>(l.map λp=>((es[p]?).map (·.2)).getD .none)[i]?=J v) (λi h=>h.get? I=J (qz (.ref tp) i a es.O ep)/\kH prog w h a es ep t/\∃m,h.get? tp=J { cls:=.type "tuple",data:=.seq (l.map λ(i:Nat)=>gJ i).Q m}) where
 sub:=λb aq=>by simp at aq;simp[aq]
 frame:=λi h h' st k=>⟨k I Z7 _ st.1,st.2.1.kept λo z=>k a Z7 o z,let ⟨m,z⟩:=st.2.2;⟨m,k tp Z7 _ z⟩⟩
 item:=λi s Q E hi st hD=>by
  obtain⟨s1,s2,m,s3⟩:=st;have xM:l.H=es.O:=by rw[aB.length_eq];simp
  have AI:i<l.H:=(d5 hi<|d2 xM.symm)
  have dD:l[i]<es.O:=by simpa using aB.mem_iff.mp<|oA AI
  have aF:(l.map λ(i:Nat)=>gJ i).Q[i]?=J (gJ l[i]):=by simp[AI]
  refine Qx bp s1 s2 s3 rfl rfl (λp e=>?_) (.inr ⟨_,aF⟩) λz=>by rw[aF]at z;exists z
  rw[aF]at e;have e:((l[i]:Nat):Int)=p:=by simpa[gJ]using e
  have e:l[i]=p:=by lia
  subst e;refine⟨es[l[i]].1,es[l[i]].2,by simp[dD],λh' af cV=>hD _ h' s.toks (by simp[AI,dD]) ⟨af,s2.kept λo z=>by rw[cV.2 a<|Ne.symm AH];exact z,m,by rw[cV.2 tp<|Ne.symm acx];exact s3⟩ λb o nb z=>by rw[cV.2 b<|by simpa using nb];exact z⟩
 done:=λs Q E st hD=>by
  obtain⟨s1,s2,m,s3⟩:=st;have xM:l.H=es.O:=by rw[aB.length_eq];simp
  have aF:(l.map λ(i:Nat)=>gJ i).Q[es.O]?=C:=by simp[xM]
  exact Qx bp s1 s2 s3 rfl rfl (λp e=>by rw[aF]at e;exists e) (.inl aF) λ_ h' b8=>hD h' s.toks λb o nb z=>b8 b o (by simpa using nb) z
 self:=λ_ s Q E st hD=>J5 st.1 rfl hD
end
end bj.bO
end
section
set_option maxHeartbeats 1000000
namespace bj.bO
open PySem PySem.Spec PyProof.Rows
section
variable {prog:dx}{w:c3}{A:dI}{E:mt->aR->Prop}{s:aR}{a:Addr}{es:Array<|Int×mt}{ep:Nat}{t:pU}
def ag7(prog:dx)(w:c3)(s:aR)(a:Addr)(us:List mt)(it:mt)(gU:aR):Prop :=
 ∃(ah:List mt) (I:Addr) (fp:List Addr) (St:Nat->Heap->Prop) (d:Drawn),it=.ref I/\ah.Perm us/\s.L<=I/\(∀b∈fp,b=a\/s.L<=b)/\(∀A',A'.handled=C->Walks prog w A' I fp [I] ah.H (λi v=>ah[i]?=J v) St)/\St 0 gU.D /\
  (∀b o,s.heap.get? b=J o->gU.heap.get? b=J o)/\gU={ s with heap:=gU.D,drawn:=d}
def QC(h:b∈[n,a]):b=a\/n<=b:=by
 rcases d4.mp h with rfl|h
 ·exact .inr<|cg _
 ·exact .inl (by simpa using h)
def amf(g:kH prog w s.D a es ep t):bl Z9 A (mb ZN) (ag7 prog w s a<|es.toList.map (·.2)) E s:=by
 obtain⟨o,aZ,av,lp⟩:=g.obj;have gu:s.TypeIs ZN "set":=⟨_,aZ,av.1⟩
 have ba:a<s.L:=d6 aZ;have hsz:t.place.O=es.O:=by have:=g.fit;simp[SetTable.fits]at this;exact this.1
 refine wpAny_pyIter_slot gu F.slot_set_iter<|sh F.slot_set_iter gu aco ?_<|F.args_set_iter_1 _;unfold Builtin.«frozenset.__iter__»;refine a8 (m:=Builtin.Frozenset.slot0 _ _)<|bZ<|a8 ?_;unfold Builtin.Frozenset.sizeOf;refine a8<|Hj aZ lp g.fit<|bZ<|a8 ?_;unfold setDrawn setsByText;refine a8<|yP aZ lp g.fit ?_;dsimp only;refine a8<|a8<|yR<|bZ<|bZ ?_;show bl _ _ (if(!mx w&&(!t.plain&&decide (es.O>1)))=Y0 then _ else _) _ _ s;cases aq:mx w with
 |true =>
  rw[Y3 Z7];refine a8<|bZ<|a8<|Hm aZ lp g.fit<|a8<|kR<|bZ ⟨_,rfl,"set_iterator",_,⟨_,gC _ rfl,rfl⟩,tq.lookup,?_⟩;have aF:=(J4 (w.params.setOrder a ep) es).map (·.2);refine⟨_,s.L,[s.L,a],λi h=>h.get? s.L=J (qz (gJ (0:Nat)) i a es.O ep)/\kH prog w h a es ep t,s.drawn,rfl,aF,cg _,λb mw=>QC mw,λA' bp=>?_,⟨gC _ rfl,g.kept λo z=>ed _ z⟩,λb o z=>ed _ z,rfl⟩;have W:=acv (prog:=prog) (es:=es) (t:=t) (ep:=ep) aq bp<|pS ba;rw[aF.length_eq];simpa using W
 |false =>
  cases hd:(!t.plain&&decide (es.O>1)) with
  |false =>
   rw[Y3 Z7];refine a8<|bZ<|a8<|Hm aZ lp g.fit<|a8<|kR<|bZ ⟨_,rfl,"set_iterator",_,⟨_,gC _ rfl,rfl⟩,tq.lookup,?_⟩;have aU:pJ t.place:=by
    cases eS:t.plain with
    |true=>exact g.good.rise eS
    |false =>
     rw[eS]at hd;intro i j hi bU jH;have:¬es.O>1:=by simpa using hd
     omega
   refine⟨_,s.L,[s.L,a],λi h=>h.get? s.L=J (qz (gJ<|slotAt t.place i) i a es.O ep)/\kH prog w h a es ep t,s.drawn,rfl,.refl _,cg _,λb mw=>QC mw,λA' bp=>?_,⟨gC _ rfl,g.kept λo z=>ed _ z⟩,λb o z=>ed _ z,rfl⟩;have W:=acu (prog:=prog) (es:=es) (t:=t) (ep:=ep) aq aU hd bp<|pS ba;simpa using W
  |true =>
   rw[Y2 Z7];refine a8 (Qz es.O (List.range es.O) s _ Z7 λl d aB=>?_);have xM:l.H=es.O:=by rw[aB.length_eq];simp
   refine a8 (wpAny_newTuple ?_<|by rw[cP,xM];exact yQ g.bd);have g2:kH prog w (s.heap.push<|i6 "tuple" (l.map λ(i:Nat)=>gJ i).toArray 0) a es ep t:=g.kept λo z=>ed _ z;obtain⟨ja,pe,QD,agp⟩:=g2.obj;refine a8<|Hm pe agp g.fit<|a8<|kR<|bZ ⟨_,rfl,"set_iterator",_,⟨_,gC _ rfl,rfl⟩,tq.lookup,?_⟩;have aF:(l.map λp=>((es[p]?).map (·.2)).getD .none).Perm (es.toList.map (·.2)):=by
    refine(aB.map _).trans ?_;have:(List.range es.O).map (λp=>((es[p]?).map (·.2)).getD .none)=es.toList.map (·.2):=by
     refine List.ext_getElem Z7 λi af ak=>?_;have:i<es.O:=by simpa using af
     simp[this]
    rw[this]
   refine⟨_,(s.heap.push<|i6 "tuple" (l.map λ(i:Nat)=>gJ i).toArray 0).E.O,[(s.heap.push<|i6 "tuple" (l.map λ(i:Nat)=>gJ i).toArray 0).E.O,a,s.L],λi h=>h.get? (s.heap.push<|i6 "tuple" (l.map λ(i:Nat)=>gJ i).toArray 0).E.O=J (qz Zv i a es.O ep)/\kH prog w h a es ep t/\∃m,h.get? s.L=J { cls:=.type "tuple",data:=.seq (l.map λ(i:Nat)=>gJ i).Q m},d,rfl,aF,by rw[ny];exact t7 _,λb mw=>?_,λA' bp=>?_,⟨gC _ rfl,g2.kept λo z=>ed _ z,0,ed _<|gC _ rfl⟩,λb o z=>ed _<|ed _ z,rfl⟩
   ·simp at mw;rcases mw with z|z|z
    ·right;rw[z];exact t7 _
    ·exact .inl z
    ·right;rw[z];exact cg _
   ·have W:=acw (prog:=prog) (w:=w) (es:=es) (t:=t) (ep:=ep) aB bp (I:=(s.heap.push<|i6 "tuple" (l.map λ(i:Nat)=>gJ i).toArray 0).E.O) (a:=a) (tp:=s.L) (by rw[ny];exact pS<|oD ba) (by rw[ny];exact pS<|oE _);rw[cP,xM];exact W
def akt:typeLookup (.type "set") "__len__" = pure (J<|.builtin "set.__len__"):=by rw[Cd,B9];kernel_rfl
def amg(gu:s.TypeIs ZN "set"){Q:Bool->aR->Prop}(h:Q Y1 s):bl Z9 A (Builtin.List.listLengthHint ZN) Q E s:=by unfold Builtin.List.listLengthHint;refine a8<|wpAny_specialOf gu akt ?_;generalize QE:("set.__len__" : String)=Ep;wp_delta;rw[show splitId Ep=J ("set","__len__") from by subst QE;decide+kernel];subst QE;refine a8<|Ho (T:="set") (b:=Y0) gu (by rw[yT];kernel_rfl) ?_;refine Hp (λz=>absurd z Z0) λ_=>Hp (λ_=>a8<|sj gu<|bZ h) λz=>absurd Za z
def acy(bp:A.handled=C)(g:kH prog w s.D a es ep t)(cc:Addr)(QF:cc≠a)(res:mt)(c₀:Nat)(fw:s.heap.get? cc=J { cls:=.type "list",data:=.seq #[] c₀})
  (gZ:∀h' bx d acc c ah,(∀b o,b≠cc->s.heap.get? b=J o->h'.get? b=J o)->h'.get? cc=J { cls:=.type "list",dict:=C,data:=.seq acc c,slots:=#[]}->ah.Perm (es.toList.map (·.2))->acc.B=ah->R (.ok<|.ret res) { s with heap:=h',toks:=bx,drawn:=d}) :
  bl Z9 A.in1 (Builtin.List.listExtendWith (.ref cc) ZN res)
   (λfin s'=>match fin with|.done f=>R (.ok f) s'|.again cH=>cH.quiet=Y0/\kk Z9 A cH R s') (λe s'=>R (.error e) s') s:=by
 obtain⟨o,aZ,av,lp⟩:=g.obj;have gu:s.TypeIs ZN "set":=⟨_,aZ,av.1⟩
 have acz:=d6 fw;unfold Builtin.List.listExtendWith;refine a8<|sj (T:="set") gu ?_;simp only[show Builtin.List.listSameRef (.ref cc) ZN=Y1 from by simp[Builtin.List.listSameRef,QF],show(Value.type "set" == Value.type "list")=Y1 from by decide,show(Value.type "set" == Value.type "tuple")=Y1 from by decide,Bool.or_false,jo,if_false];refine a8 (hk (amf g) (λit gU z=>?_) λ_ _ e=>e);obtain⟨ah,I,fp,St,d,rfl,aF,p5,ry,jC,st,b8,Wo⟩:=z;obtain⟨Nq,anB,anC,k₂,anD⟩:=gU
 exists Wo
 have Em:cc∉fp:=λz=>by rcases ry cc z with q|q;exact QF q;exact absurd acz<|Ha.mpr q
 have W:=jC A.in1 bp;have J6:ah.H<=dg:=by rw[aF.length_eq];simp;exact yQ g.bd
 have J7:=b8 cc _ fw;have key:∀(h:Heap) (c₁ bx:Nat),St 0 h->(∀b o,b≠cc->s.heap.get? b=J o->h.get? b=J o)->h.get? cc=J { cls:=.type "list",data:=.seq #[] c₁}->kk Z9 A (.builtin "list.extend.loop" ⟨[.ref cc,.ref I,res],[]⟩) R { s with heap:=h,toks:=bx,drawn:=d}:=by
  intro h c₁ bx jD aW J8;refine codeAny_extend_loopS W.toS J6 cc Em res ah.H 0 _ #[] c₁ rfl (gH _) jD J8 (ItemsOf.nil _) λs' tN cH hm acA T2=>?_;have e:=Moved.eq_with hm;rw[e];refine gZ s'.D s'.toks d tN cH ah (λb o nb z=>hm.heap b o (λq=>?_)<|aW b o nb z) acA aF ?_
  ·rcases d4.mp q with q|q
   ·exact nb q
   ·have dD:=d6 z;have q:b=I:=by simpa using q
    rw[q]at dD;exact absurd dD<|Ha.mpr p5
  ·refine List.ext_getElem? λi=>?_;by_cases hi:i<tN.O
   ·have:=T2.2 i tN[i] (by simp[hi]);rw[this,lE];simp[hi]
   ·have af:tN.B[i]?=C:=by simp;exact hS hi
    have ak:ah[i]?=C:=by have:=T2.1;simp;exact bP (d2 this.symm)<|hS hi
    rw[af,ak]
 refine a8<|jr<|amg (let ⟨o,z,q⟩:=gu;⟨o,b8 a o z,q⟩) ?_;refine Hp (λ_=>?_) λ_=>bZ ⟨oH PySem.F.plain_extend_loop _,key _ c₀ _ st (λb o _ z=>b8 b o z) J7⟩;refine a8<|l9<|a8 (show bl _ _ (updateSeq cc (·.push .none) >>= λ_=>updateSeq cc (·.pop)) _ _ _ from ?_);have bb:=qW (Obj.mapSeq (·.push Value.none)) J7 rfl;have cK:=qW (Obj.mapSeq (·.pop)) bb rfl;refine a8<|ue J7 rfl<|ue (hz:=by seq_fits) bb rfl<|bZ ⟨oH PySem.F.plain_extend_loop _,key _ _ _ ?_ (λb o nb z=>?_) cK⟩
 ·refine W.frame 0 _ _ st λb aq o z=>?_;have nb:b≠cc:=λq=>Em<|q▸aq;exact(t8 _ _<|Ne.symm nb).trans ((t8 _ _<|Ne.symm nb).trans z)
 ·exact(t8 _ _<|Ne.symm nb).trans ((t8 _ _<|Ne.symm nb).trans (b8 b o z))
def acB(bp:A.handled=C)(g:kH prog w s.D a es ep t)
  (h:∀h' bx d ah,Zt->ah.Perm (es.toList.map (·.2))->R ah { s with heap:=h',toks:=bx,drawn:=d}):bl (bg prog w) A (collect (.ref a)) R E s:=by
 obtain⟨o,aZ,av,lp⟩:=g.obj;have ba:=d6 aZ;unfold collect;refine a8<|Hr<|pT PyProof.Rows.entry_proto_collect' ?_;rw[Around.under_plainId PySem.F.plain_proto_collect _];refine(show bl _ A.in1 (newList [] >>= λl=>again<|.builtin "list.__iadd__" ⟨[l,.ref a],[]⟩) _ _ s from a8<|kR<|bZ ⟨oH PySem.F.plain_list_iadd _,pT PyProof.Rows.entry_list_iadd' ?_⟩);rw[Around.under_plainId PySem.F.plain_list_iadd _];have J8:(s.heap.push { cls:=.type "list",data:=.seq ([]:List mt).Q}).get? s.L=J { cls:=.type "list",data:=.seq #[]}:=gC _ rfl;have key:=acy (A:=A) (s:={ s with heap:=s.heap.push { cls:=.type "list",data:=.seq ([]:List mt).Q}})
  (R:=λ(q:sr) (s':aR)=>∃h' bx d acc c ah,q=.ok (.ret Zv)/\s'={ s with heap:=h',toks:=bx,drawn:=d}/\(∀b o,s.heap.get? b=J o->h'.get? b=J o)/\h'.get? s.L=J { cls:=.type "list",dict:=C,data:=.seq acc c,slots:=#[]}/\ah.Perm (es.toList.map (·.2))/\acc.B=ah)
  bp (g.kept λo z=>ed _ z) s.L (pS ba) Zv 0 J8
  (λh' bx d acc c ah k1 k2 k3 zh=>⟨h',bx,d,acc,c,ah,rfl,rfl,λb o z=>k1 b o (bv<|d6 z)<|ed _ z,k2,k3,zh⟩)
 have fin:∀{q:sr} {s':aR},(∃h' bx d acc c ah,q=.ok (.ret Zv)/\s'={ s with heap:=h',toks:=bx,drawn:=d}/\Zt/\h'.get? s.L=J { cls:=.type "list",dict:=C,data:=.seq acc c,slots:=#[]}/\ah.Perm (es.toList.map (·.2))/\acc.B=ah)->True:=λ_=>trivial;refine hk key (λf s' x=>?_) λe s' x=>?_
 ·cases f with
  |done f =>
   obtain⟨h',bx,d,acc,c,ah,e,rfl,k1,k2,k3,rfl⟩:=x
   exists e
   exact(show bl _ A (load s.L >>= _) _ _ _ from a8<|wpAny_load k2<|bZ<|h h' bx d _ k1 k3)
  |again c₁ =>
   refine⟨x.1,si x.2 λq gU y=>?_⟩;obtain⟨h',bx,d,acc,c,ah,rfl,rfl,k1,k2,k3,rfl⟩:=y;exact(show bl _ A (load s.L >>= _) _ _ _ from a8<|wpAny_load k2<|bZ<|h h' bx d _ k1 k3)
 ·obtain⟨_,_,_,_,_,_,bN,_⟩:=x
  exists bN
end
end bj.bO
end
namespace bj.bO
open PySem PySem.Spec PyProof.Rows bj.Tm
def _root_.bj.aS.aku(I:aS X ae O H s)(d:Drawn):aS X ae O H { s with drawn:=d}:=⟨I.ok,I.os,I.ft,I.V,I.loc,I.cell,I.free,I.kK,I.pin,I.b1,I.len⟩
theorem Er(x:Int):∀ns:List Int,x∈hZ ns↔x∈ns
 |[]=>by simp[hZ]
 |n::ns=>by
  have a4:=Er x ns;unfold hZ at a4 |-;rw[BU];split
  ·rename_i h;rw[a4,d4];exact⟨.inr,λz=>z.elim (λe=>by rw[e];exact(Er n ns).mp h) id⟩
  ·rw[d4,d4,a4]
theorem AJ:∀ns:List Int,(hZ ns).Nodup
 |[]=>by simp[hZ]
 |n::ns=>by
  have a4:=AJ ns;unfold hZ at a4 |-;rw[BU];split
  ·exact a4
  ·rename_i h;exact nt.mpr ⟨h,a4⟩
section
variable {X:bI}{tw:Addr}
def QG{e:Expr}{d:bM}{B:aJ}{S:bE}{n aM:Nat}{ns:List Int}{aA:List T}{ae:List Z1}{s:aR}{O:St}{H:aJ}{Q:mt->aR->Prop}{c7 mE:Pos}(bp:X.A.handled=C)(h:bF X tw e d)(rC:X.a3 "set" = C)(AK:fv X "set")(lk:b4 [e] X.I=ZG::b4 [] X.I)
  (az:aa d ar S n=J (aA,aM)) (hi:rq aM aA=J ns) (I:aS X ae O H s) (R:dr X.K B tw S n O H)
  (k:∀s' aj a dc,aS X ae O aj s'->dn tw H aj->dr X.K B tw S aM O aj->ot X.R X.w s'.D a dc->dc.Perm (hZ ns)->Q ZN s') :
  bl Z2 X.A (eval (.Call (.Name "set" c7) [e] [] mE) X.I) Q X.cv s:=by
 refine l7<|la I AK rC boot_set ?_ Z0 Z0;refine PyProof.Rows.callWith_type1 ?_ lk rfl;rw[lk];obtain⟨⟨to,mo,no⟩,f1,f2⟩:=cn az
 exists f2
 refine ia (b2 (h.run f1 I R) λu s1 ⟨v,H1,bf,bA,a1,bt,b6⟩=>l6 ?_);have aV:=b6.root bt R.aQ;have fin:∀{c:String} {l:Addr} {ol:Obj} {items:Array mt} {nl:Nat},(c = "list" \/ c = "tuple")->s1.heap.get? l=J ol->ol.cls=.type c->ol.d=.seq items nl->ha items.B ns->ns.H+1<4096->bl Z2 X.A (call (.type "set") [.ref l]) Q X.cv s1:=λaT aZ m2 hd p5 aq=>by
  refine aiN aT bp aZ m2 hd p5 (by unfold nD;exact aq) λh' bx dc g m b8=>?_;have cS:aS X ae O H1 { s1 with heap:=h',toks:=bx}:=bf.kept b8;have bW:dc.Nodup:=by obtain⟨_,_,_,_,_,z⟩:=g;exact z
  exact k _ H1 _ dc cS a1 bt g ((Mw bW<|AJ ns).mpr λx=>by rw[m x,Er])
 induction to using T.casesOn with
 |ao xs =>
  obtain⟨acC,af,ak⟩:=cn (show(e3 xs).bind _=_ from hi);split at ak
  ·rename_i aq
   exists ak
   obtain⟨l,ah,rfl,gi,iz⟩:=aV
   exists bA
   have av:=qv af;subst av;cases xm iz;obtain⟨a5,bq,cQ,hz⟩:=bf.list gi.gi;obtain⟨o,aZ,aT,m,hd⟩:=cQ.isList;exact fin (.inl rfl) aZ aT hd (by simpa using qn bq) aq
  ·exists ak
 |aD xs =>
  obtain⟨acC,af,ak⟩:=cn (show(e3 xs).bind _=_ from hi);split at ak
  ·rename_i aq
   exists ak
   obtain⟨l,ah,rfl,cu,iz⟩:=kx aV
   exists bA
   have av:=qv af;subst av;cases xm iz;obtain⟨a5,bq,⟨o,aZ,aT,m,hd⟩,hz⟩:=bf.tuple<|e6.of (K:=X.K) cu;exact fin (.inr rfl) aZ aT hd (by simpa using qn bq) aq
  ·exists ak
 |_=>exists hi
def acD{e:Expr}{d:bM}{p c7 pos mE:Pos}(bp:X.A.handled=C)(h:bF X tw e d)(hm:X.a3 "len" = C)(rC:X.a3 "set" = C)(bT:autoParam (fv X "len") bu)(AK:autoParam (fv X "set") bu)(lk:autoParam (b4 [e] X.I=ZG::b4 [] X.I) bu)
  (he:autoParam (b4 [.Call (.Name "set" c7) [e] [] mE] X.I=(Y1,eval (.Call (.Name "set" c7) [e] [] mE) X.I)::b4 [] X.I) bu) :
  bF X tw (.Call (.Name "len" p) [.Call (.Name "set" c7) [e] [] mE] [] pos) (aH Pe<|aa d ar):=by
 intro B S n t km n' hd ae s O H Q I ⟨R,k⟩;obtain⟨⟨aA,aM⟩,az,au⟩:=cn hd;obtain⟨⟨t1,cR⟩,a6,bX⟩:=dw au;cases bX;obtain⟨ns,hi,eR⟩:=dw (show(rq aM aA).map _=_ from a6);cases eR;refine l7<|la I bT hm boot_len ?_ Z0 Z0;refine PyProof.Rows.callWith_builtin1 (Q:=f6 X ae O Q) ?_ he rfl;rw[he];refine ia (QG bp h rC AK lk az hi I R λs1 H1 a dc bf bH bt g HU=>l6 ?_);obtain⟨es,ep,tt,g1,g2,g3⟩:=g;obtain⟨o,aZ,av,lp⟩:=g1.obj;have aB:es.O=(hZ ns).H:=by rw[<-HU.length_eq,<-g2.H];simp
 have aq:=g1.bd;have lj:nD=4096:=rfl;refine call_len_set aZ av lp g1.fit (by omega) ⟨.int (hZ ns).H,H1,bf.tok _,⟨_,by rw[aB]⟩,k _ _ bH bt.aQ ?_⟩;show aI tw H1 (.int _) _;rw[aI]
def acE{e:Expr}{d:bM}{p c7 pos mE:Pos}(bp:X.A.handled=C)(h:bF X tw e d)(hm:X.a3 "sorted" = C)(rC:X.a3 "set" = C)(bT:autoParam (fv X "sorted") bu)(AK:autoParam (fv X "set") bu)(lk:autoParam (b4 [e] X.I=ZG::b4 [] X.I) bu)
  (he:autoParam (b4 [.Call (.Name "set" c7) [e] [] mE] X.I=(Y1,eval (.Call (.Name "set" c7) [e] [] mE) X.I)::b4 [] X.I) bu) :
  bF X tw (.Call (.Name "sorted" p) [.Call (.Name "set" c7) [e] [] mE] [] pos) (aH DH<|aa d ar):=by
 intro B S n t km n' hd ae s O H Q I ⟨R,k⟩;obtain⟨⟨aA,aM⟩,az,au⟩:=cn hd;obtain⟨⟨t1,cR⟩,a6,bX⟩:=dw au;cases bX;obtain⟨ns,hi,eR⟩:=dw (show(rq aM aA).map _=_ from a6);cases eR;refine l7<|la I bT hm yX ?_ Z0 Z0;refine PyProof.Rows.callWith_builtin1 (Q:=f6 X ae O Q) ?_ he rfl;rw[he];refine ia (QG bp h rC AK lk az hi I R λs1 H1 a dc bf bH bt g HU=>l6 ?_);obtain⟨es,ep,tt,g1,g2,g3⟩:=g;refine JS (acB (A:=X.A.in1) bp g1.i λh' bx dd ah b8 CD=>?_);obtain⟨lT,aX,bb⟩:=J0 g2 CD;have aB:ah.H<=dg:=by rw[CD.length_eq];simp;exact yQ g1.bd
 refine⟨_,aB,λ_=>(Qb aX).at,λAD m6 uH ky av aF AE=>?_⟩;obtain⟨QH,QI⟩:=JT (Ek aX) aF AE;have cS:aS X ae O H1 { s1 with heap:=h',toks:=bx,drawn:=dd}:=(bf.kept b8).aku dd;have hf:H1 h'.E.O=C:=cS.b1.fresh<|cg _;obtain⟨El,eV,fM⟩:=J0 aX QH;have acF:El=sortI (hZ ns):=by
  have z:=Ek (h:=h') eV;rw[z,Qa]at QI;have:El=sortI lT:=by have:=congrArg (List.map λl:List Int=>l.headD 0) QI;simpa[ci,Function.comp_def]using this
  rw[this];exact zX ((sortI_perm lT).trans (bb.trans HU))<|rp lT
 subst acF;have fU:=cS.laid (a:=h'.E.O) (o:=.ao<|(sortI<|hZ ns).map V.int) (t':=bx) (h':=AD) ky (cg _) ⟨by rw[cP,<-eV.H,QH.length_eq];exact aB,(m6.map (·.2)).B,uH,PH eV,by rw[B4];exact av⟩;exact⟨.ref h'.E.O,_,fU,rfl,k _ _ (bH.trans<|.new hf) (bt.aQ.new hf) ⟨_,rfl,bH.free bt.aQ hf,_,fC,bR.ints _⟩⟩
end
end bj.bO
namespace bj.bO
open PySem PySem.Spec PyProof.Rows
section
variable {X:bI}{tw:Addr}
def akv{k:Nat}(a6:pF k [to]=J (t1,cR)):∃i,to=.int i/\t1=.int (-i)/\cR=.ag:=by
 induction to using T.casesOn with
 |int i =>
  exists a6;exact⟨i,rfl,rfl,rfl⟩
 |_=>exists a6
def QJ{e:Expr}{d:bM}{pos:Pos}(h:bF X tw e d):bF X tw (.UnaryOp .USub e pos)<|aH pF<|aa d ar:=by intro B S n t km n' hd ae s O H Q I ⟨R,k⟩;obtain⟨to,mo,f1,a6⟩:=DJ hd;obtain⟨i,rfl,rfl,rfl⟩:=akv a6;refine Uj UN (h B S n (.int i) mo _ f1) ae s O H Q I ⟨R,λv aj x y z=>?_⟩;have:=iY<|z.root (R.mono x y) R.aQ;subst this;exact⟨i,rfl,k _ aj x y<|by show aI tw aj (.int _) _;rw[aI]⟩
theorem QK:∀bs:List Bool,((List.range bs.H).any λi=>bs.getD i Y1)=bs.any id
 |[]=>rfl
 |b::bs=>by rw[d9,GI,oB,GW,oB,<-QK bs];rfl
def aiO(aT:X.calm=Y0):fS X tw (λus=>call (.builtin "any") us) L0:=by
 intro B ae s O H ah us aA n t m Q I bq aV aQ e k;have bp:=I.ok.hd aT
 induction aA using List.casesOn with
 |nil=>exists e
 |cons dB fx =>
  induction dB using T.casesOn with
  |ao xs =>
   induction fx using List.casesOn with
   |nil =>
    obtain⟨bs,az,au⟩:=dw (show(hQ xs).map _=_ from e)
    exists au
    obtain rfl:=JF az;obtain⟨v,rfl,r⟩:=iZ aV;obtain⟨u,rfl,eW⟩:=bq.one;refine call_any_walk (b2 (Af (A':=X.A.in1) bp I r eW rfl) λit gU ⟨oW,fp,wr,P,St,e,W,st,ry,e4,fin⟩=>?_);refine⟨oW,fp,wr,_,P,St,λi=>bs.getD i Y1,e,W,st,λi v s' e9 oX bS eN=>?_,λh' bx b8=>?_⟩
    ·rw[PD<|e4 i v bS];exact qX eN
    ·rw[cP,QK];exact⟨.aC _,H,fin h' bx b8,rfl,k _ H ZT aQ<|by show aI tw H (.aC _) _;rw[aI]⟩
   |cons _ _=>exists e
  |_=>exists e
def AL(h:g5 t=Y0)(r:aI tw H t v):qm v=Y0:=by
 cases t with
 |br=>rw[aI]at r;subst r;rfl
 |aC b=>rw[aI]at r;subst r;rfl
 |int i=>rw[aI]at r;subst r;rfl
 |str x=>rw[aI]at r;subst r;rfl
 |_=>exists h
def QL(h:g5 t=Y0)(h':g5 t'=Y0)(r:aI tw H t v)(b5:aI tw H t' hT):mm v hT=dV t t':=by
 cases t with
 |br=>cases t' with
  |br=>rw[aI]at r;rw[aI]at b5;subst r b5;rfl
  |aC b=>rw[aI]at r;rw[aI]at b5;subst r b5;rfl
  |int i=>rw[aI]at r;rw[aI]at b5;subst r b5;rfl
  |str x=>rw[aI]at r;rw[aI]at b5;subst r b5;rfl
  |_=>exists h'
 |aC b=>cases t' with
  |br=>rw[aI]at r;rw[aI]at b5;subst r b5;rfl
  |aC b=>rw[aI]at r;rw[aI]at b5;subst r b5;simp[mm,dV]
  |int i=>rw[aI]at r;rw[aI]at b5;subst r b5;simp[mm,dV]
  |str x=>rw[aI]at r;rw[aI]at b5;subst r b5;rfl
  |_=>exists h'
 |int i=>cases t' with
  |br=>rw[aI]at r;rw[aI]at b5;subst r b5;rfl
  |aC b=>rw[aI]at r;rw[aI]at b5;subst r b5;simp[mm,dV]
  |int i=>rw[aI]at r;rw[aI]at b5;subst r b5;simp[mm,dV]
  |str x=>rw[aI]at r;rw[aI]at b5;subst r b5;rfl
  |_=>exists h'
 |str x=>cases t' with
  |br=>rw[aI]at r;rw[aI]at b5;subst r b5;rfl
  |aC b=>rw[aI]at r;rw[aI]at b5;subst r b5;rfl
  |int i=>rw[aI]at r;rw[aI]at b5;subst r b5;rfl
  |str x=>rw[aI]at r;rw[aI]at b5;subst r b5;simp[mm,dV]
  |_=>exists h'
 |_=>exists h
theorem Es:∀{xs:List T} {ah:List V},(xs.all g5)=Y0->bR tw H xs ah->ah.all qm=Y0
 |[],ah,_,r=>by cases ji r;rfl
 |x::xs,ah,h,r=>by obtain⟨v,w,rfl,p,q⟩:=hg r;rw[jV,f5]at h;rw[jV,AL h.1 p,Es h.2 q];rfl
theorem J9(aK:g5 y=Y0)(dX:aI tw H y z):∀{xs:List T} {ah:List V} {us:List mt},(xs.all g5)=Y0->bR tw H xs ah->cG ah us->us.map (jE z)=xs.map λx=>dV x y
 |[],ah,us,_,r,bq=>by cases ji r;exists bq;rfl
 |x::xs,ah,us,h,r,bq=>by
  obtain⟨v,w,rfl,p,q⟩:=hg r;rw[jV,f5]at h;cases bq with
  |cons bA cp=>rw[cU,cU,J9 aK dX h.2 q cp,IU bA<|AL h.1 p,QL h.1 aK p dX]
def Ka{K:W.Frag}{H:aJ}{t:T}{v:V}(h:g5 t=Y0)(r:ew K tw H t v):aI tw H t v:=by
 refine ew.rep ?_ r;cases t with
 |br=>rfl
 |aC b=>rfl
 |int i=>rfl
 |str x=>rfl
 |_=>exists h
def Kb{us:List mt}{z:V}{xs:List T}{y:T}(h:us.map (jE z)=xs.map λx=>dV x y):us.countP (jE z)=tL xs y:=by
 have a:∀{α:Type} (f:α->Bool) (l:List α),l.countP f=(l.map f).countP id:=λf l=>by rw[List.countP_map];rfl
 rw[tL,a,h,<-a]
def acG{o e:Expr}{eQ ie:bM}{apos ec:Pos}(aZ:bF X tw o eQ)(he:bF X tw e ie)(m:Cr X o "count" apos e ec):bF X tw (.Call (.Attribute o "count" apos) [e] [] ec)<|aH I6<|aa eQ<|aa ie ar:=by
 intro B S n t km n' hd ae s O H Q I ⟨R,k⟩;obtain⟨to,mo,no,te,ze,f1,g1,a6⟩:=Jd hd;have⟨xs,mU,aK,av,dR,em⟩:∃xs,to=.ao xs/\g5 te=Y0/\(xs.all g5)=Y0/\t=.int (tL xs te)/\km=.ag:=by
  induction to using T.casesOn with
  |ao xs =>
   have a6:(if g5 te=Y0/\(xs.all g5)=Y0 then J (T.int<|tL xs te,bo.ag) else C)=J (t,km):=a6;split at a6
   ·rename_i h;exists a6;exact⟨xs,rfl,h.1,h.2,rfl,rfl⟩
   ·exists a6
  |_=>exists a6
 subst mU dR em;refine yO m.V m.uY m.line PySem.F.plainAttrs_list PySem.F.slot_list_count PySem.F.type_list_count (b2 (aZ.run f1 I R) λu s1 ⟨v,H1,bf,bA,a1,bt,b6⟩=>?_);obtain⟨a,fJ,rfl,cu,cM⟩:=b6.root bt R.aQ
 exists bA
 obtain⟨a5,pd,⟨fs,acH,ll,Aj,vd,_⟩,_⟩:=bf.list cu.gi;refine⟨⟨fs,ll,Aj⟩,λb e=>?_,?_⟩
 ·exists e;exact⟨fs,ll,vd⟩
 ·rw[m.trees];refine ub rfl<|uc<|ia (b2 (he.run g1 bf bt) λiw s2 ⟨y,bV,cS,dX,a2,dj,dA⟩=>l6 ?_);have aV:=Ka aK<|dA.root dj bt.aQ;have ve:=cu.ext a2;have vm:=bR.mono (a2.b0 bt.aQ) _ _ cM;obtain⟨a5,lR,⟨⟨cls,dd,data,cX⟩,nn,aZ,aT,hd,kd⟩,_⟩:=cS.list ve.gi;simp only at aT kd
  subst aT kd
  have L1:=Kb<|J9 aK aV av vm lR;refine nB PySem.F.slot_list_count ⟨_,aZ,rfl⟩ PySem.F.entry_list_count (PySem.F.args_list_count_2 _ _) (PySem.SeqAt.list_countAt a a5.Q nn dd cX iw<|jE y) ⟨aZ,λw hw=>zT dX (AL aK aV) lR (Es av vm) w (by simpa using hw),?_⟩
  ·refine⟨.int _,bV,cS.tok _,⟨_,rfl⟩,?_⟩;show Q (.int ((List.countP (jE y) a5.Q.B:Nat):Int)) bV;rw[show a5.Q.B=a5 from rfl,L1];exact k _ bV (a1.trans a2) dj.aQ (by show aI tw bV (.int _) _;rw[aI])
end
end bj.bO
section
namespace bj.AM
open PySem PySem.Spec PyProof.Rows
section
variable {prog:dx}{w:c3}{A:dI}{E:mt->aR->Prop}{s:aR}
open fE in
def anq{lo hi:Option Int}(cA:IsTup s.D t items)(aP:s.heap.IsSliceOf cX i7 i8 .none)(cQ:pW i7 lo)(pu:pW i8 hi)
  (hw:fE.dY items.O 0 lo=0/\fE.dY items.O items.O hi=items.O)
  (h:Q (.ref t) s):bl Z9 A (nE (.ref t)<|.ref cX) Q E s:=by
 obtain⟨os,mY,nS,ml⟩:=id aP;have zS:s.TypeIs (.ref cX) "slice":=⟨os,mY,nS⟩
 unfold nE
 try with_reducible refine jr ?_
 first|refine a8 (bZ ?_)|skip
 refine a8<|Hl cA.typeIs Z0 ?_
 refine a8 (yN (name:=Str.ofString "__getitem__") cA.typeIs PyProof.Rows.slot_tuple_getitem
  (sh PyProof.Rows.slot_tuple_getitem cA.typeIs Hu ?_<|Hv _ _))
 show bl _ _ (Builtin.Tuple.tupleItemsOf (.ref t) >>= _) _ _ s;refine a8<|Hw cA ?_;refine a8<|sj zS ?_;rw[Y2 Z0];refine a8<|fE.VI aP cQ pu ?_;have agq:(((fE.dY items.O 0 lo:Nat):Int)==0&&(1:Int)==1&&(fE.dY items.O items.O hi-fE.dY items.O 0 lo)==items.O)=Y0:=by rw[hw.1,hw.2];simp
 show bl _ _ (if(((fE.dY items.O 0 lo:Nat):Int)==0&&(1:Int)==1&&(fE.dY items.O items.O hi-fE.dY items.O 0 lo)==items.O)=Y0 then _ else _) _ _ s;rw[Y2 agq];refine a8 ?_;unfold Builtin.Tuple.tupleIsExact;refine a8<|sj cA.typeIs<|bZ ?_;rw[Y2 Z0]
 first
  |exact a8<|l9<|a8<|bZ ⟨_,rfl,bZ h⟩
  |exact a8<|l9<|bZ ⟨_,rfl,bZ h⟩
  |exact a8<|l9<|bZ<|bZ ⟨_,rfl,bZ h⟩
end
end bj.AM
namespace bj
open PySem PySem.Spec PyProof.Rows
section
variable {X:bI}
def ag8(K:W.Frag):V->Option Int->Option Int->aJ->fg->Prop:=λx lo hi H Q=>∃a xs,x=.ref a/\e6 K H a xs/\(fE.dY xs.H 0 lo=0/\fE.dY xs.H xs.H hi=xs.H)/\Q x H
def akw:sX X<|ag8 X.K:=by
 intro ae s O H x v i7 i8 lo hi cX Q I cF aP cQ pu h;obtain⟨a,xs,rfl,av,hw,q⟩:=h
 exists cF
 obtain⟨a5,r,cA,hz⟩:=I.tuple av;have ej:a5.Q.O=xs.H:=by rw[eU];exact r.length.symm
 exact⟨"tuple",_,PyProof.Rows.slot_tuple_getitem.lookup,cA.typeIs,AM.anq cA aP cQ pu (by rw[ej];exact hw) ⟨.ref a,H,I,rfl,q⟩⟩
end
end bj
namespace bj.bO
open PySem PySem.Spec PyProof.Rows
section
variable {X:bI}{tw:Addr}
def aiP{e:Expr}{lo hi:Option Expr}{c7 pos:Pos}{d:bM}{dl NJ:y4}(h:bF X tw e d)(aB:zd X tw lo dl)(bp:zd X tw hi NJ):bF X tw (.Subscript e (.Slice lo hi C c7) pos)<|lY d dl NJ:=by
 intro B S n t m n' hd ae s O H Q I ⟨R,k⟩;obtain⟨⟨t0,m0,n0⟩,az,au⟩:=cn hd;obtain⟨⟨l,aM⟩,a6,bX⟩:=cn au;obtain⟨⟨u,bC⟩,eR,fO⟩:=cn bX;refine alH (ajS.or<|ah7.or akw) (h B S n t0 m0 n0 az) (aB B S n0 l aM a6) (bp B S aM u bC eR) ae s O H Q I ⟨R,λv H1 bH dB cN=>?_⟩;have bt:=R.mono bH dB;refine⟨bt,λbV cf iO=>?_⟩;have dj:=bt.mono cf iO;refine⟨dj,λef bY k6=>?_⟩;have Ah:=cf.trans bY;have aV:ew X.K tw ef t0 v:=ew.ext bt.aQ Ah<|cN.root bt R.aQ;have Et:=bH.trans Ah;cases t0 with
 |ao xs =>
  exists fO
  obtain⟨a,ah,rfl,cu,cM⟩:=aV;refine .inl ⟨a,ah,rfl,cu.gi,λp aF=>k _ _ (Et.trans<|.new aF) (k6.new aF) ⟨p,rfl,Et.free k6 aF,_,fC,?_⟩⟩;unfold jl tK;rw[tj,tj,cM.H];exact bR.take _<|bR.drop _<|bR.mono (.new aF) _ _ cM
 |aD xs =>
  exists fO
  obtain⟨a,ah,rfl,cu,cM⟩:=kx aV;by_cases hw:bound xs.H 0 l=0/\bound xs.H xs.H u=xs.H
  ·refine .inr (.inr ⟨a,ah,rfl,e6.of cu,?_,k _ _ Et k6<|qu cu ?_⟩)
   ·rw[<-cM.H,<-tj,<-tj];exact hw
   ·unfold jl;rw[hw.1,hw.2,yy,yG,yx];exact cM
  ·refine .inr (.inl ⟨a,ah,rfl,e6.of cu,?_,λp aF=>k _ _ (Et.trans<|.new aF) (k6.new aF)<|qu fC ?_⟩)
   ·rw[<-cM.H,<-tj,<-tj];exact hw
   ·unfold jl tK;rw[tj,tj,cM.H];exact bR.take _<|bR.drop _<|bR.mono (.new aF) _ _ cM
 |_=>exists fO
def aiQ{a b:Expr}{dQ db:bM}{pos:Pos}(ba:bF X tw a dQ)(acI:bF X tw b db):bF X tw (.BinOp a .Mult b pos)<|lA dQ db:=by
 intro B S n t m n' hd ae s O H Q I ⟨R,k⟩;obtain⟨⟨t1,cR,aM⟩,az,au⟩:=cn hd;obtain⟨⟨eI,gv,bC⟩,a6,bX⟩:=cn au;have⟨xs,j,acJ,acK,acL,aq,dR,em,y8⟩:∃xs j,t1=.ao xs/\cR=.aE/\eI=.int j/\(-1000<=j/\j<=10000/\xs.H*j.M<=bh)/\t=.ao (List.replicate j.M xs).flatten/\m=.aE/\n'=bC:=by
  cases t1 with
  |ao xs =>
   cases cR with
   |aE =>
    cases eI with
    |int j =>
     have bX:(if-1000<=j/\j<=10000/\xs.H*j.M<=bh then J (T.ao (List.replicate j.M xs).flatten,bo.aE,bC) else C)=J (t,m,n'):=bX;split at bX
     ·rename_i aq;exists bX;exact⟨xs,j,rfl,rfl,rfl,aq,rfl,rfl,rfl⟩
     ·exists bX
    |_=>exists bX
   |_=>exists bX
  |_=>exists bX
 subst acJ acK acL dR em y8;refine agM aic (ba B S n _ _ aM az) (acI B S aM _ gv _ a6) ae s O H Q I ⟨R,λv H1 bH dB cN=>?_⟩;have bt:=R.mono bH dB;obtain⟨ad,rfl,f1,ah,cu,cM⟩:=cN;refine⟨bt,λw bV cf iO dE=>?_⟩;have:=iY<|dE.root (bt.mono cf iO) bt.aQ;subst this;have ve:=cf.to ad _ cu<|R.aQ.tT f1;have vm:=bR.mono (cf.b0 bt.aQ) _ _ cM;refine⟨ad,j,ah,rfl,rfl,ve,(jq Z0 aq.1),(nA aq.2.1 Z0),?_,λp aF=>k _ _ ((bH.trans cf).trans (.new aF)) (iO.new aF) ⟨p,rfl,(bH.trans cf).free iO aF,_,fC,?_⟩⟩
 ·rw[<-cM.H];exact qr aq.2.2
 ·exact bR.mono (.new aF) _ _<|bR.rep vm _
def acM(h:∀x∈ns,-10000000000000<=x/\x<=10000000000000):-(10000000000000*(ns.H:Int))<=cI ns/\cI ns<=10000000000000*(ns.H:Int):=by
 induction ns with
 |nil=>simp[cI]
 |cons x xs a4 =>
  have:=a4 λy aK=>h y<|am _ aK;have:=h x dT;rw[cI,d9]
  push_cast
  lia
def amh{t:T}{xs:List T}{ns:List Int}{ae:List Z1}{s:aR}{O:St}{H:aJ}{v:V}{u:mt}{Q:fg}(bp:X.A.handled=C)(I:aS X ae O H s)(r:ew X.K tw H t v)(bq:cW v u)(h:vb t=J xs)(av:xs=ns.map T.int)
  (aB:ns.H<100000) (aq:∀x∈ns,-10000000000000<=x/\x<=10000000000000) (q:Q (.int<|cI ns) H):bl Z2 X.A (call (.builtin "sum") [u]) Zl X.cv s:=by
 subst av;refine call_sum_walk (b2 (Af (A':=X.A.in1) bp I r bq h) λit gU ⟨oW,fp,wr,P,St,e,W,st,ry,e4,fin⟩=>?_);refine⟨oW,fp,wr,_,P,St,λi=>ns.getD i 0,e,W,st,ry,λi v bS=>D4<|e4 i v bS,λj bU=>?_,λh' bx t' b8=>?_⟩
 ·rw[cP]at bU;have af:=aq (ns.getD j 0) (by rw[nq,hj bU];exact oA _);show InLong (ns.getD j 0)/\_;rw[PC ns (j+1) bU];have ak:=acM (ns:=ns.take<|j+1) λx av=>aq x<|tU av;have bc:((ns.take<|j+1).H:Int)<=100000:=by rw[jU];lia
  exact⟨⟨(jq Z0 af.1),(nA af.2 Z0)⟩,⟨by lia,by lia⟩⟩
 ·rw[cP,PC ns ns.H<|cg _,yx];exact⟨.int _,H,fin h' bx b8,⟨t',rfl⟩,q⟩
def akx(aT:X.calm=Y0):fS X tw (λus=>call (.builtin "sum") us) xl:=by
 intro B ae s O H ah us aA n t m Q I bq aV aQ e k;have bp:=I.ok.hd aT;have go:∀(t0:T) (xs:List T),aA=[t0]->vb t0=J xs->((e3 xs).bind λns=>if ns.H<100000/\(ns.all λx=>decide (x.natAbs<=10000000000000)) then J (T.int<|cI ns,bo.ag) else C)=J (t,m)->bl Z2 X.A (call (.builtin "sum") us) Zl X.cv s:=λt0 xs rx hw bN=>by
  subst rx;obtain⟨ns,az,au⟩:=cn bN;split at au
  ·rename_i aq
   exists au
   obtain⟨v,rfl,r⟩:=iZ aV;obtain⟨u,rfl,eW⟩:=bq.one;refine amh bp I r eW hw (qv az) aq.1 (λx av=>?_) (k _ H ZT aQ<|by show aI tw H (.int _) _;rw[aI]);have:=iM.mp aq.2 x av;simp only[decide_eq_true_eq]at this;lia
  ·exists au
 induction aA using List.casesOn with
 |nil=>exists e
 |cons dB fx =>
  induction dB using T.casesOn with
  |aD xs =>
   induction fx using List.casesOn with
   |nil =>
    exact go _ xs rfl rfl e
   |cons _ _=>exists e
  |ao xs =>
   induction fx using List.casesOn with
   |nil =>
    exact go _ xs rfl rfl e
   |cons _ _=>exists e
  |_=>exists e
end
def uK(P:dx)(w:c3)(K:W.Frag)(a3:Str->Option mt)(base:Heap)(lv:Nat)(x:Str)(ps:List Str)(f:cY)(tw:Addr):Prop :=
 ∃(a:Addr) (d:hC),i2 P w K a3 base iB lv a d ps (nZ K tw ps.H f)/\Binds K d ps []/\W.keepIn K ZN=Y0/\a3 x=J ZN
def ami{X:bI}{tw:Addr}{f:cY}{lv dU:Nat}{ps:List Str}{x:Str}{p pos:Pos}{e:Expr}{es:List Expr}{a:iy}(G:uK X.R X.w X.K X.a3 X.V lv x ps f tw)(aU:eD lv X.A)(ba:SB X tw (e::es) a)(bz:autoParam (ps.H=dU) bu)(bT:autoParam (fv X x) bu)(fQ:autoParam ZH eM)
  (he:autoParam ZP bu) (eS:autoParam ((ff pos Zm).any (·.1)=Y1) bu):bF X tw Zn<|bB dU f a:=by
 obtain⟨da,fd,F,aq,aW,hm⟩:=G;subst bz;exact aj3 F aU hm aW aq ba bT fQ he eS
end bj.bO
namespace bj.AM
open PySem PySem.Spec PyProof.Rows
section
variable {prog:dx}{w:c3}{A:dI}{E:mt->aR->Prop}{s:aR}
def acN{n:Nat}{Q:Int×Int×Nat->aR->Prop}(aP:s.heap.IsSliceOf cX .none .none<|.int (-1) bx)(h:Q ((n:Int)-1,-1,n) s):bl Z9 A (Builtin.Slice.sliceApplied (.ref cX)<|pure (n:Int)) Q E s:=by
 obtain⟨os,mY,nS,ml⟩:=id aP;unfold Builtin.Slice.sliceApplied Builtin.Slice.sliceFields;refine a8<|a8<|wB mY ml (x:=.none) rfl<|a8<|wB mY ml (x:=.none) rfl<|a8<|wB mY ml (x:=.int (-1) bx) rfl<|bZ ?_;refine a8<|fE.BH (.int (-1) bx) ?_;show bl _ _ (if((-1:Int)==0)=Y0 then _ else _) _ _ s;rw[Y3 Z0];refine a8<|fE.BH .none<|a8<|fE.BH .none<|a8<|bZ ?_;show bl _ _ (pure ((n:Int)-1,(-1:Int),Builtin.Slice.slicePlaces ((n:Int)-1) (-1)<|-1)) _ _ s;have e:Builtin.Slice.slicePlaces ((n:Int)-1) (-1) (-1)=n:=by
  unfold Builtin.Slice.slicePlaces;rw[Y3 Z0];split
  ·rw[show(-(-1):Int)=1 from rfl,Int.ediv_one];lia
  ·lia
 rw[e];exact bZ h
def amj(xs:Array mt):((List.range xs.O).filterMap λ(k:Nat)=>xs[(((xs.O:Int)-1)+(k:Int) *-1).M]?).Q=xs.B.reverse.Q:=by
 have e:(List.range xs.O).filterMap (λ(k:Nat)=>xs[(((xs.O:Int)-1)+(k:Int) *-1).M]?)=((List.range xs.O).map λk=>xs.O-1-k).filterMap (xs[·]?):=by
  rw[MJ];have gen:∀l:List Nat,(∀k∈l,k<xs.O)->l.filterMap (λ(k:Nat)=>xs[(((xs.O:Int)-1)+(k:Int) *-1).M]?)=l.filterMap ((xs[·]?)∘λk=>xs.O-1-k):=by
   intro l
   induction l with
   |nil=>intro _;rfl
   |cons k l a4 =>
    intro aB;have aW:=aB k<|dT ..;have e:(((xs.O:Int)-1)+(k:Int) *-1).M=xs.O-1-k:=by lia
    rw[r5,r5,a4 λfI h'=>aB fI<|am _ h',e];rfl
  exact gen _ λk aW=>nu.mp aW
 rw[e,W.krv_range,List.filterMap_reverse,W.krv_all]
def anp(cA:IsTup s.D t items)(aP:s.heap.IsSliceOf cX .none .none<|.int (-1) bx)
  (h:Q Zv { s with heap:=s.heap.push { cls:=.type "tuple",data:=.seq items.B.reverse.Q}}) (hsz:items.O<=dg):bl (bg prog w) A (nE (.ref t) (.ref cX)) Q E s:=by
 have rY:sizeOk<|.seq items.B.reverse.Q:=by show items.B.reverse.Q.O<=dg;rw[eU,yp,gI];exact hsz
 obtain⟨os,mY,nS,ml⟩:=id aP;have zS:s.TypeIs (.ref cX) "slice":=⟨os,mY,nS⟩
 unfold nE
 try with_reducible refine jr ?_
 first|refine a8 (bZ ?_)|skip
 refine a8<|Hl cA.typeIs Z0 ?_
 refine a8 (yN (name:=Str.ofString "__getitem__") cA.typeIs PyProof.Rows.slot_tuple_getitem
  (sh PyProof.Rows.slot_tuple_getitem cA.typeIs Hu ?_<|Hv _ _))
 show bl _ _ (Builtin.Tuple.tupleItemsOf (.ref t) >>= _) _ _ s;refine a8<|Hw cA ?_;refine a8<|sj zS ?_;rw[Y2 Z0];refine a8<|acN aP ?_;show bl _ _ (if(((items.O:Int)-1==0)&&((-1:Int)==1)&&items.O==items.O)=Y0 then _ else _) _ _ s;rw[Y3 Z7,amj]
 first
  |exact a8 (m:=Builtin.Tuple.tupleExact _)<|kR (bZ ⟨_,rfl,bZ h⟩) rY
  |exact a8 (m:=Builtin.Tuple.tupleExact _)<|kR (a8<|bZ<|bZ ⟨_,rfl,bZ h⟩) rY
  |exact a8<|a8 (m:=Builtin.Tuple.tupleExact _)<|kR (bZ<|bZ ⟨_,rfl,bZ h⟩) rY
  |exact a8<|a8 (m:=Builtin.Tuple.tupleExact _)<|kR (bZ ⟨_,rfl,bZ h⟩) rY
end
end bj.AM
namespace bj.bO
open PySem PySem.Spec PyProof.Rows
section
variable {X:bI}{tw:Addr}
def aiR{e:Expr}{d:bM}{j}{dC c7 jA pos:Pos}(h:bF X tw e d):bF X tw (.Subscript e (.Slice C C (J<|.UnaryOp .USub (.Constant (.int 1) j dC) c7) jA) pos)<|BA d:=by
 intro B S n t m n' hd ae s O H Q I ⟨R,k⟩;obtain⟨⟨t0,m0,n0⟩,az,au⟩:=cn hd;refine Cm (b2 (h.run az I R) λv s1 ⟨x,H1,bf,bA,a1,bt,b6⟩=>?_);refine wpAny_Slice ?_;rw[Ht];refine bZ<|bZ ?_;rw[evalPart_some];refine b2 (Uj UN (Dp (i:=1)) ae s1 O H1 (λv aj=>v=.int (-1)/\aj=H1) bf ⟨1,rfl,rfl,rfl⟩) λah s3 ⟨Nz,ef,fU,hF,a6,bX⟩=>?_;subst a6 bX;obtain⟨bx,rfl⟩:=hF;have hb:aS X ae O ef { s3 with heap:=s3.heap.push { cls:=.type "slice",data:=.fields #[.none,.none,.int (-1) bx]}}:=fU.kept (t':=s3.toks) λb bJ q=>ed _ q;have aV:=b6.root bt R.aQ;have aP:(s3.heap.push { cls:=.type "slice",data:=.fields #[.none,.none,.int (-1) bx]}).IsSliceOf s3.L .none .none (.int (-1) bx):=Heap.IsSliceOf.new ..;cases t0 with
 |ao xs =>
  exists au
  obtain⟨a,ah,rfl,cu,cM⟩:=aV
  exists bA
  obtain⟨a5,r,cA,hz⟩:=hb.list cu.gi;refine tail_any (ops:=[.ref a,.ref s3.L]) cA.isList.typeIs slot_list_getitem.lookup ?_ (by with_unfolding_all rfl);refine Ng cA.isList aP .none .none (.int (-1) bx) Z7 ?_ (by rw[eU,<-r.H];exact hz);rw[W.krv_pick];have hf:ef (s3.heap.push { cls:=.type "slice",data:=.fields #[.none,.none,.int (-1) bx]}).E.O=C:=hb.b1.fresh<|cg _;refine⟨.ref _,_,hb.laid (t':=s3.toks) (o:=.ao ah.reverse) (λb bJ q=>ed _ q) (cg _) ?_,rfl,k _ _ (a1.trans<|.new hf) (bt.aQ.new hf) ⟨_,rfl,a1.free bt.aQ hf,_,fC,bR.mono (.new hf) _ _ cM.reverse⟩⟩;exact⟨by rw[yp];exact hz,_,0,r.reverse,gC _ rfl⟩
 |aD xs =>
  exists au
  obtain⟨a,ah,rfl,cu,cM⟩:=kx aV
  exists bA
  obtain⟨a5,r,cA,hz⟩:=hb.tuple<|e6.of (K:=X.K) cu;refine tail_any (ops:=[.ref a,.ref s3.L]) cA.typeIs PyProof.Rows.slot_tuple_getitem.lookup ?_ (by with_unfolding_all rfl);refine AM.anp cA aP ?_ (by rw[eU,<-r.H];exact hz);have hf:ef (s3.heap.push { cls:=.type "slice",data:=.fields #[.none,.none,.int (-1) bx]}).E.O=C:=hb.b1.fresh<|cg _;refine⟨.ref _,_,hb.laid (t':=s3.toks) (o:=.aD ah.reverse) (λb bJ q=>ed _ q) (cg _) ?_,rfl,k _ _ (a1.trans<|.new hf) (bt.aQ.new hf)<|qu fC<|bR.mono (.new hf) _ _ cM.reverse⟩;exact⟨by rw[yp];exact hz,_,r.reverse,mj.new _ _⟩
 |_=>exists au
end
end bj.bO
end
namespace bj.bO
open PySem PySem.Spec PyProof.Rows
section
variable {prog:dx}{w:c3}{A:dI}{E:mt->aR->Prop}{s:aR}
abbrev Uw(Q:mt->aR->Prop)(E:mt->aR->Prop):sr->aR->Prop:=λr s'=>match r with
 |.ok (.ret v)=>Q v s'
 |.ok _=>False
 |.error e=>E e s'
abbrev agr(prog:dx)(w:c3)(A:dI)(Q:mt->aR->Prop)(E:mt->aR->Prop):Fin->aR->Prop:=λfin s'=>match fin with
 |.done f=>Uw Q E (.ok f) s'
 |.again cH=>cH.quiet=Y0/\kk Z9 A cH (Uw Q E) s'
def amk{id:String}{b:Builtin}{dc:List<|Str×mt}(af:builtinKind id=C)(ak:plainId id=Y0)(bc:yW table id=J b)(cL:qZ id ⟨ps,dc⟩)
  (go:bl Z9 A.in1 (b ⟨ps,dc⟩) (agr prog w A Q E) E s):bl Z9 A (call (.builtin id) ps dc) Q E s:=by
 apply ui;apply Hi ak bc;unfold checkBuiltinCall;rw[af];unfold qZ at cL;generalize Manifest.signature? id=Wq at cL |-;cases Wq with
 |none=>exact bZ go
 |some y =>
  dsimp only at cL |-;rw[cL];exact bZ go
end
variable {X:bI}{tw:Addr}
def acO(a v:mt):qZ "min" ⟨[a],[(Str.ofString "default",v)]⟩:=by unfold qZ;kernel_rfl
def Ux:Option Int->Int->Option Int
 |none,x=>J x
 |some a,x=>J (if x<a then x else a)
def qA(b:Option Int)(ns:List Int):Option Int:=ns.foldl Ux b
theorem QM:∀(ns:List Int) (a:Int),qA (J a) ns=J (ns.foldl (λa b=>if b<a then b else a) a)
 |[],_=>rfl
 |x::ns,a=>QM ns _
def acP{i:Int}(h:least ns=J i):qA C ns=J i:=by
 cases ns with
 |nil=>exists h
 |cons x xs=>exact(QM xs x).trans h
def Cell(o:Option Int)(cs:Array mt):Prop:=match o with
 |none=>cs=#[]
 |some a=>∃t,cs=#[.int a t,.int a t]
section
variable {prog:dx}{w:c3}{A:dI}{R:sr->aR->Prop}{I cc:Addr}{fp wr:List Addr}{P:Nat->mt->Prop}{St:Nat->Heap->Prop}{ns:List Int}{d:mt}
def aky{x y:Int}(q:Q (.bool<|decide (x<y)) s):bl Z9 A (richCompare .Lt (.int x t)<|.int y u) Q E s :=
 CmpOf.ints_lt (P:=λi v=>∃t,v=.int (if i=0 then x else y) t) (λi=>if i=0 then x else y) (λ_ _ h=>h) 0 1 _ _ s Q E ⟨t,rfl⟩ ⟨u,rfl⟩ q
def acQ(W:Walks prog w A.in1 I fp wr ns.H P St)(num:∀i v,P i v->∃t,v=.int (ns.getD i 0) t)(out:cc∉fp):∀(k i:Nat) (s:aR) (cs:Array mt) (c:Nat) (o:Option Int),i+k=ns.H->St i s.D->Cell o cs ->
  s.heap.get? cc=J { cls:=.type "list",dict:=C,data:=.seq cs c,slots:=#[]} ->
  (∀r h' bx,(match qA o (ns.drop i) with|none=>r=d|some a=>∃t,r=.int a t)->(∀b bJ,b∉wr->b≠cc->s.heap.get? b=J bJ->h'.get? b=J bJ)->R (.ok<|.ret r) { s with heap:=h',toks:=bx}) ->
  kk Z9 A (.builtin "min.loop" ⟨[.ref I,.none,.ref cc],[(Str.ofString "default",d)]⟩) R s:=by
 have T3:cc∉wr:=λz=>out<|W.sub _ z;have away:∀{h:Heap} {g:Obj->Obj} {b:Addr} {bJ:Obj},b≠cc->h.get? b=J bJ->(h.update cc g).get? b=J bJ:=λne e=>(t8 _ _ λz=>ne z.symm).trans e;have nm:(toString "min" ++ toString ".loop" : String) = "min.loop":=by decide
 intro k
 induction k with
 |zero =>
  intro i s cs c o zi st ce at_ fin;have zi:i=ns.H:=zi;subst zi;rw[List.drop_length]at fin;refine pT F.entry_min_loop ?_;rw[Around.under_plainId F.plain_min_loop _];refine a8 (m:=seqItems?<|.ref cc)<|Cf at_ rfl<|a8 (m:=tryCatch (mM<|.ref I) _)<|Ce (W.done s _ _ st λh' bx b8=>?_);cases o with
  |none =>
   have ce:cs=#[]:=ce;subst ce;exact a8<|l9<|bZ (fin d h' bx rfl λb bJ aq _ e=>b8 b bJ aq e)
  |some a =>
   obtain⟨t,rfl⟩:=ce;refine a8 (m:=updateSeq cc λ_=>#[])<|ue (b8 cc _ T3 at_) rfl<|a8<|Cj<|bZ ?_;exact fin _ _ _ ⟨t,rfl⟩ λb bJ aq ne e=>away ne<|b8 b bJ aq e
 |succ k a4 =>
  intro i s cs c o zi st ce at_ fin;have lt:i<ns.H:=(qT<|d2 zi)
  have split:ns.drop i=ns.getD i 0::ns.drop (i+1):=by rw[pL lt,nq,hj lt];rfl
  rw[split]at fin;refine pT F.entry_min_loop ?_;rw[Around.under_plainId F.plain_min_loop _];refine a8 (m:=seqItems?<|.ref cc)<|Cf at_ rfl<|a8 (m:=tryCatch (mM<|.ref I) _)<|Ce (W.item i s _ _ lt st λv h' bx CD c1 b8=>?_);obtain⟨t,rfl⟩:=num i v CD;have at2:=b8 cc _ T3 at_;have put:∀(Eu:Array mt) (dh:Option Int),Cell dh Eu->dh=Ux o (ns.getD i 0)->kk Z9 A (.builtin "min.loop" ⟨[.ref I,.none,.ref cc],[(Str.ofString "default",d)]⟩) R { s with heap:=h'.update cc (Obj.mapSeq λ_=>Eu),toks:=bx}:=λEu dh acR mU=>by refine a4 (i+1) _ Eu _ dh (by omega) (W.frame _ _ _ c1 λb aq bJ e=>away (by rintro rfl;exact out aq) e) acR (qW _ at2 rfl) λr ak Ak aU ky=>?_;refine fin r ak Ak ?_ λb bJ aq ne e=>ky b bJ aq ne<|away ne<|b8 b bJ aq e;rw[mU]at aU;exact aU
  cases o with
  |none =>
   have ce:cs=#[]:=ce;subst ce;refine a8 (m:=updateSeq cc λ_=>#[_,_])<|ue at2 rfl ?_;rw[nm];exact bZ ⟨oH F.plain_min_loop _,put _ (J<|ns.getD i 0) ⟨t,rfl⟩ rfl⟩
  |some a =>
   obtain⟨u,rfl⟩:=ce;refine a8 (m:=tryCatch (oI [_,_]<|richCompare .Lt _ _ >>= _) _)<|Ce<|jr<|a8<|aky<|a8<|jr<|qX<|a8<|Cj<|bZ ?_;by_cases less:ns.getD i 0<a
   ·rw[Y2<|decide_eq_true less];refine a8<|ue at2 rfl<|a8<|Cj ?_;rw[nm];exact bZ ⟨oH F.plain_min_loop _,put _ (J<|ns.getD i 0) ⟨t,rfl⟩<|by show _=J (if _ then _ else _);rw[Y2 less]⟩
   ·rw[Y3<|by simpa using less];refine a8<|Cj ?_;rw[nm];refine bZ ⟨oH F.plain_min_loop _,a4 (i+1) _ _ _ (J a) (by omega) c1 ⟨u,rfl⟩ at2 λr ak Ak aU ky=>fin r ak Ak ?_ λb bJ aq ne e=>ky b bJ aq ne<|b8 b bJ aq e⟩;show match qA (J (if _ then _ else _)) _ with|none=>_|some a=>_
    rw[Y3 less];exact aU
end
def Mi:eC:=λ_ aA=>match aA with
 |[.ao xs]=>(e3 xs).map λns=>(match qA C ns with|none=>.br|some i=>.int i,.ag)
 |_=>C
def aml{ae:List Z1}{s:aR}{O:St}{H:aJ}{v:V}{u:mt}{ns:List Int}{Q:fg}(bp:X.A.handled=C)(I:aS X ae O H s)(r:ew X.K tw H (.ao<|ns.map .int) v)(bq:cW v u)(q:Q (match qA C ns with|none=>.br|some i=>.int i) H) :
  bl Z2 X.A (call (.builtin "min") [u] [(Str.ofString "default",Value.none)]) Zl X.cv s:=by
 refine amk F.kind_min F.plain_min F.entry_min (acO _ _) ?_;show bl _ _ (Builtin.Builtins.bindParams "min" ["key","default"] 0 ⟨[],[(Str.ofString "default",Value.none)]⟩ >>= _) _ _ _;have Wr:Builtin.Builtins.bindParams "min" ["key","default"] 0 ⟨[],[(Str.ofString "default",Value.none)]⟩=pure [C,J Value.none]:=rfl;refine a8<|wpAny_of_eq Wr ?_;refine a8<|bZ ?_;refine a8 (b2 (Af (A':=X.A.in1) bp I r bq (xs:=ns.map .int) rfl) λit gU ⟨oW,fp,wr,P,St,e,W,st,ry,e4,fin⟩=>?_);subst e;rw[cP]at W;refine a8<|kR ?_;rw[show(toString "min" ++ toString ".loop" : String) = "min.loop" by decide];refine bZ ⟨oH F.plain_min_loop _,acQ W (λi v bS=>D4<|e4 i v bS) (λz=>oF _<|ry _ z) ns.H 0 _ #[] _ C (t6 _) (W.frame _ _ _ st λb _ o e=>ed _ e) rfl (gC _ rfl) λr h' bx aU b8=>?_⟩;have cS:=fin h' bx λb o aq e=>b8 b o aq (bv<|d6 e)<|ed _ e;rw[yy]at aU;cases z:qA C ns with
 |none=>rw[z]at aU q;subst aU;exact⟨.br,H,cS,rfl,q⟩
 |some a=>rw[z]at aU q;obtain⟨t,rfl⟩:=aU;exact⟨.int a,H,cS,⟨t,rfl⟩,q⟩
def akz{p pos b8 ags:Pos}{j:Nat}{e:Expr}{a:gh}(aT:X.calm=Y0)(ba:nL X tw [e] a)(hm:X.a3 "min" = C)(bS:l8 "min" = J (.builtin "min"))(bT:autoParam (fv X "min") bu)
  (he:autoParam (ff pos (b4 [e] X.I)=ZG::ff pos (b4 [] X.I)) bu) (eS:autoParam ((ff pos<|b4 [e] X.I).any (·.1)=Y1) bu) :
  bF X tw (.Call (.Name "min" p) [e] [⟨J "default",.Constant .none j ags,b8⟩] pos) (aH Mi a):=by
 intro B S n t m n' hd ae s O H Q I ⟨R,k⟩;obtain⟨⟨aA,aM⟩,az,au⟩:=cn hd;obtain⟨⟨t1,cR⟩,a6,bX⟩:=dw au;cases bX;have⟨ns,dR,q⟩:∃ns:List Int,aA=[.ao (ns.map .int)]/\(match qA C ns with|none=>T.br|some i=>.int i,bo.ag)=(t1,cR):=by
  clear az hd k
  induction aA using List.casesOn with
  |nil=>exists a6
  |cons x r =>
   induction x using T.casesOn with
   |ao xs =>
    induction r using List.casesOn with
    |nil =>
     obtain⟨ns,aX,bb⟩:=dw (show(e3 xs).map _=J (t1,cR) from a6);exact⟨ns,by rw[qv aX],bb⟩
    |cons _ _=>exists a6
   |_=>exists a6
 subst dR;have bp:=I.ok.hd aT;refine l7<|la I bT hm bS ?_ Z0 Z0;refine callWith_kw (b2 (ba.run az pos I R) λus s1 ⟨ah,H1,bf,bA,a1,bt,b6⟩=>?_) he eS;refine kws_cons<|wpAny_Constant_none<|kws_nil ?_;obtain⟨v,rfl,r⟩:=iZ b6;obtain⟨u,rfl,eW⟩:=bA.one;refine aml bp bf r eW ?_;cases z:qA C ns with
 |none=>rw[z]at q;cases q;exact k _ H1 a1 bt.aQ (by show aI tw H1 .br _;rw[aI])
 |some a=>rw[z]at q;cases q;exact k _ H1 a1 bt.aQ (by show aI tw H1 (.int a) _;rw[aI])
variable {X:bI}{tw:Addr}
def AN(x:T):T->Option Bool
 |.aD xs=>if g5 x&&xs.all g5 then J (xs.any λy=>dV y x) else C
 |.ao xs=>if g5 x&&xs.all g5 then J (xs.any λy=>dV y x) else C
 |_=>C
def Kc:eC:=λ_ aA=>match aA with
 |[x,y]=>(AN x y).map λb=>(.aC<|!b,.ag)
 |_=>C
theorem Vd(av:g5 x=Y0)(cF:aI tw H x v):∀{xs:List T} {ah:List V},(xs.all g5)=Y0->bR tw H xs ah->Dx v ah=xs.any λy=>dV y x
 |[],ah,_,r=>by cases ji r;rfl
 |y::xs,ah,h,r=>by obtain⟨u,w,rfl,p,q⟩:=hg r;rw[jV,f5]at h;have a4:=Vd av cF h.2 q;unfold Dx at a4 |-;rw[oB,oB,a4,QL h.1 av p cF]
def akA{b:Bool}(e:AN x y=J b)(bA:ew X.K tw H x v)(cp:ew X.K tw H y w){neg:Bool}(q:Q (.aC (if neg then !b else b)) H):IW X.K neg v w H Q:=by
 have go:∀{xs:List T} {a:Addr} {ah:List V},(if g5 x&&xs.all g5 then J (xs.any λy=>dV y x) else C)=J b->w=.ref a->(gw X.K H a ah\/e6 X.K H a ah)->bR tw H xs ah->IW X.K neg v w H Q:=λ{xs a ah} e nK gi rs=>by
  split at e
  ·rename_i hf
   exists e
   rw[f5]at hf;have cF:=Ka hf.1 bA;refine⟨a,ah,nK,gi,AL hf.1 cF,Es hf.2 rs,?_⟩;rw[Vd hf.1 cF hf.2 rs];exact q
  ·exists e
 cases y with
 |aD xs =>
  obtain⟨a,ah,nK,cu,cM⟩:=kx cp;exact go e nK (.inr<|e6.of cu) cM
 |ao xs =>
  obtain⟨a,ah,nK,cu,cM⟩:=cp;exact go e nK (.inl cu.gi) cM
 |_=>exists e
def acS:fS X tw (two<|hq .NotIn) Kc:=by
 intro B ae s O H ah us aA n t m Q I bq aV aQ e k
 match aA,e with
 |[x,y],e =>
  obtain⟨b,az,au⟩:=dw (show(AN x y).map _=_ from e)
  exists au
  obtain⟨v,w,rfl,bA,cp⟩:=m4 aV;obtain⟨fX,f9,rfl,aX,bb⟩:=bq.two;exact aaz ae s O H v w fX f9 Q I aX bb<|akA az bA cp (neg:=Y0) (k _ H ZT aQ<|by show aI tw H (.aC _) _;rw[aI];rfl)
variable {X:bI}{tw:Addr}
def Ew:eC:=λ_ aA=>match aA with
 |[.ao xs,y]=>if g5 y=Y0/\xs.all g5=Y0/\xs.H<=bh then(xs.findIdx? λx=>dV x y).map λ(j:Nat)=>(.int j,.ag) else C
 |_=>C
def acT{n:Nat}(h:Ew n [to,te]=J (t,m)):∃xs j,to=.ao xs/\g5 te=Y0/\xs.all g5=Y0/\xs.H<=bh/\(xs.findIdx? λx=>dV x te)=J j/\t=.int (j:Nat)/\m=.ag:=by
 cases to with
 |ao xs =>
  have h:(if g5 te=Y0/\xs.all g5=Y0/\xs.H<=bh then(xs.findIdx? λx=>dV x te).map λ(j:Nat)=>(T.int j,bo.ag) else C)=J (t,m):=h;split at h
  ·rename_i q;obtain⟨j,af,ak⟩:=dw h
   exists ak
   exact⟨xs,j,rfl,q.1,q.2.1,q.2.2,af,rfl,rfl⟩
  ·exists h
 |_=>exists h
def akB{us:List mt}{xs:List T}{j:Nat}(h:us.map (jE z)=xs.map λx=>dV x y)(bU:(xs.findIdx? λx=>dV x y)=J j) :
  ∃aB:j<us.H,jE z us[j]=Y0/\∀m (hm:m<us.H),m<j->jE z us[m]=Y1:=by
 have ej:us.H=xs.H:=by have:=congrArg List.H h;simpa using this
 have at_:∀m (af:m<us.H) (ak:m<xs.H),jE z us[m]=dV xs[m] y:=λm af ak=>by have:=congrArg (λl=>l[m]?) h;simp only[kg,hj af,hj ak,kj]at this;exact Option.some.inj this
 obtain⟨av,az,au⟩:=BJ.mp bU;have b7:j<us.H:=(d5 av<|d2 ej.symm)
 refine⟨b7,by rw[at_ j b7 av];exact az,λm hm QN=>?_⟩;have rC:m<xs.H:=(gT (eA QN) av)
 rw[at_ m hm rC];have:=au m QN;simpa using this
def amm{o e:Expr}{eQ ie:bM}{apos ec:Pos}(aZ:bF X tw o eQ)(he:bF X tw e ie)(m:Cr X o "index" apos e ec):bF X tw (.Call (.Attribute o "index" apos) [e] [] ec)<|aH Ew<|aa eQ<|aa ie ar:=by
 intro B S n t km n' hd ae s O H Q I ⟨R,k⟩;obtain⟨to,mo,no,te,ze,f1,g1,a6⟩:=Jd hd;obtain⟨xs,j,rfl,aK,av,hz,bU,rfl,rfl⟩:=acT (n:=_) (to:=to) (te:=te) a6;refine yO m.V m.uY m.line PySem.F.plainAttrs_list PySem.F.slot_list_index PySem.F.type_list_index (b2 (aZ.run f1 I R) λu s1 ⟨v,H1,bf,bA,a1,bt,b6⟩=>?_);obtain⟨a,fJ,rfl,cu,cM⟩:=b6.root bt R.aQ
 exists bA
 obtain⟨a5,pd,⟨fs,acH,ll,Aj,vd,_⟩,_⟩:=bf.list cu.gi;refine⟨⟨fs,ll,Aj⟩,λb e=>?_,?_⟩
 ·exists e;exact⟨fs,ll,vd⟩
 ·rw[m.trees];refine ub rfl<|uc<|ia (b2 (he.run g1 bf bt) λiw s2 ⟨y,bV,cS,dX,a2,dj,dA⟩=>l6 ?_);have aV:=Ka aK<|dA.root dj bt.aQ;have ve:=cu.ext a2;have vm:=bR.mono (a2.b0 bt.aQ) _ _ cM;obtain⟨a5,lR,⟨⟨cls,dd,data,cX⟩,nn,aZ,aT,hd,kd⟩,_⟩:=cS.list ve.gi;simp only at aT kd
  subst aT kd
  obtain⟨aB,hit,IT⟩:=akB (J9 aK aV av vm lR) bU;have acU:(j:Int)<2^63-1:=by have af:=(BJ.mp bU).1;have de:bh=1000000:=rfl;omega
  refine nB PySem.F.slot_list_index ⟨_,aZ,rfl⟩ PySem.F.entry_list_index (PySem.F.args_list_index_2 _ _) (PySem.SeqAt.list_indexAt a a5.Q nn dd cX iw (jE y) j (by simpa using aB) acU (by simpa using hit) λm hm h=>by simpa using IT m (by simpa using hm) h) ⟨aZ,λw hw=>zT dX (AL aK aV) lR (Es av vm) w (by simpa using hw),?_⟩;exact⟨.int _,bV,cS.tok _,⟨_,rfl⟩,k _ bV (a1.trans a2) dj.aQ<|by show aI tw bV (.int _) _;rw[aI]⟩
section
variable {X:bI}{tw:Addr}
def amn{K:W.Frag}{aj:aJ}{t0:T}{v:V}(aV:ew K tw aj t0 v):decide (v=.br)=nU t0:=by
 cases t0 with
 |br=>have aV:aI tw aj .br v:=aV;rw[aI]at aV;subst aV;rfl
 |aC b=>have aV:aI tw aj (.aC b) v:=aV;rw[aI]at aV;subst aV;rfl
 |int b=>have aV:aI tw aj (.int b) v:=aV;rw[aI]at aV;subst aV;rfl
 |str b=>have aV:aI tw aj (.str b) v:=aV;rw[aI]at aV;subst aV;rfl
 |aD b=>have aV:aI tw aj (.aD b) v:=aV;rw[aI]at aV;obtain⟨_,_,rfl,_⟩:=aV;rfl
 |dq=>have aV:aI tw aj .dq v:=aV;rw[aI]at aV;subst aV;rfl
 |bJ b=>have aV:aI tw aj (.bJ b) v:=aV;rw[aI]at aV;subst aV;rfl
 |ao b=>obtain⟨_,_,rfl,_⟩:=aV;rfl
 |bk b=>obtain⟨_,_,rfl,_⟩:=aV;rfl
def aiS{e:Expr}{d:bM}{j pos pos'}(h:bF X tw e d):ST X tw (.Compare e [.Is] [.Constant .none j pos'] pos)<|bK<|aH oh<|aa d ar:=by
 intro B S n b n' hd ae s O H Q I ⟨R,k⟩;obtain⟨⟨t,m,fV⟩,d8,fz⟩:=cn hd;obtain⟨⟨aA,aM⟩,az,au⟩:=cn d8;obtain⟨⟨t0,m0,n0⟩,f1,f2⟩:=cn az
 exists f2
 exists au
 exists fz
 refine ahR (ID<|h B S n t0 m0 _ f1) (by rfl) ae s O H Q I ⟨R,λv aj x y z=>⟨_,rfl,?_⟩⟩;rw[amn<|z.root (R.mono x y) R.aQ];exact k aj x y
end
end bj.bO
section
namespace bj.bO
open PySem PySem.Spec PyProof.Rows
def _root_.bj.aS.VG{X:bI}{ae:List Z1}{O:St}{H:aJ}{s:aR}{h':Heap}{t':Nat}{fp:List Addr}(I:aS X ae O H s)(k:∀b o,b∉fp->s.heap.get? b=J o->h'.get? b=J o)(hf:∀b∈fp,pD X ae H b):aS X ae O H { s with heap:=h',toks:=t'}:=by
 have Iy:∀b u,H b=J u->b∉fp:=λb u e z=>by rw[(hf b z).1]at e;exists e
 refine I.step (g':=s.gens) (d':=s.drawn) (ch:=fp) (λb aq=>?_) (λb o _ _ aT e _=>k b o aT e) (λb o _ _ aT e _=>⟨o.slots,k b o aT e⟩) (λ_ _ _ _ n=>n)
  (λb o aT e=>⟨o,k b o aT e⟩) (λ_ _ e=>e) (λ_ _ _ e=>e) (λm hm=>?_) (λb u e=>?_) I.ft
 ·obtain⟨_,f1,_,en,f4,hU⟩:=hf b aq;exact⟨en,f1,f4,hU⟩
 ·obtain⟨o,es,ep,aZ,r⟩:=hm;exact⟨o,es,ep,k _ o (λz=>(hf _ z).2.1 rfl) aZ,r⟩
 ·exact(I.b1 b u e).pB (λv q=>k b v (Iy b u e) q)
end bj.bO
end
namespace bj.bO
open PySem PySem.Spec PyProof.Rows
section
variable {X:bI}{tw:Addr}
def acV{p q pos mE:Pos}{a:Expr}{dQ:gh}(bp:X.A.handled=C)(ba:nL X tw [a] dQ)(Kd:X.a3 "list" = C)(Ke:X.a3 "range" = C)(J6:autoParam (l8 "list" = J (.type "list")) az11._auto_1)(acW:autoParam (l8 "range" = J (.type "range")) az11._auto_1)(acX:autoParam (fv X "list") bu)(acY:autoParam (fv X "range") bu)
  (aP:autoParam (b4 [a] X.I=[(Y1,eval a X.I)]) bu) (iA:autoParam (b4 [.Call (.Name "range" q) [a] [] mE] X.I=[(Y1,eval (.Call (.Name "range" q) [a] [] mE) X.I)]) bu) :
  bF X tw (.Call (.Name "list" p) [.Call (.Name "range" q) [a] [] mE] [] pos) (z1 dQ):=by
 intro B S n t m n' hd ae s O H Q I ⟨R,k⟩;obtain⟨⟨xs,aM⟩,az,au⟩:=dw hd;cases au;obtain⟨⟨aA,bC⟩,a6,bX⟩:=cn az;obtain⟨j,rfl,nO,uG,rfl,rfl⟩:∃j:Int,aA=[.int j] /\ -(bh:Int)<=j/\j<=bh/\xs=ip 0 j/\aM=bC:=by
  dsimp only at bX;split at bX
  ·rename_i j;split at bX
   ·rename_i aq;cases bX;exact⟨j,rfl,aq.1,aq.2,rfl,rfl⟩
   ·cases bX
  ·cases bX
 refine l7<|la I acX Kd J6 ?_ Z0 Z0;refine PyProof.Rows.callWith_type1 (ia ?_) iA rfl;refine l7<|la I acY Ke acW ?_ Z0 Z0;refine PyProof.Rows.callWith_type1 (b2 (ba.run a6 mE I R) λus s1 ⟨ah,H1,bf,bA,a1,bt,b6⟩=>?_) aP rfl;have de:bh=1000000:=rfl;obtain⟨v,rfl,r⟩:=iZ b6;obtain⟨u,rfl,eW⟩:=bA.one;have r:aI tw H1 (.int j) v:=r;rw[aI]at r;subst r;obtain⟨tok,rfl⟩:=eW;refine call_range_1<|l6 ?_;have cS:aS X ae O H1 { s1 with heap:=s1.heap.push { cls:=.type "range",data:=.fields #[.int 0 s1.toks,.int j tok,.int 1<|s1.toks+1]},toks:=s1.toks+1+1}:=bf.kept λb o e=>ed _ e;have bz:Builtin.Range.rangeSize 0 j 1=((j.M:Nat):Int):=by rw[rangeSize_one];split<;>omega
 refine call_list_range bp (IsRange.new ..) (small_one Z0 Z0 (jq Z0 nO)<|nA uG Z0) bz (by omega) λh' bx acc c b8 fw hi=>?_;obtain⟨ws,eV,fM⟩:=xA (tw:=tw) (H:=H1) (xs:=ip 0 j) (us:=acc.B) (by rw[gI,hi.1];simp[ip]) λi w e=>by
  obtain⟨t0,dF⟩:=hi.2 i w (by rw[<-lE];exact e);have dD:i<j.M:=by have:=(kM.mp e).1;rw[gI,hi.1]at this;exact this
  refine⟨.int<|0+(i:Int),.int<|0+(i:Int),⟨t0,by rw[dF];simp⟩,?_,by rw[aI]⟩;unfold ip;rw[kg,List.getElem?_range<|by omega];rfl
 have hf:=cS.b1.fresh<|cg _;have eH:=cS.laid (a:=(s1.heap.push { cls:=.type "range",data:=.fields #[.int 0 s1.toks,.int j tok,.int 1<|s1.toks+1]}).E.O) (o:=.ao ws) (t':=bx) (h':=h') b8 (cg _) ⟨by rw[eV.H,gI,hi.1,mK];omega,acc.B,c,eV,by simpa using fw⟩;exact⟨.ref (s1.heap.push { cls:=.type "range",data:=.fields #[.int 0 s1.toks,.int j tok,.int 1<|s1.toks+1]}).E.O,_,eH,rfl,k _ _ (a1.trans<|.new hf) (bt.aQ.new hf)<|Val.back a1 bt.aQ ⟨_,rfl,hf,_,fC,bR.mono (.new hf) _ _ fM⟩⟩
end
end bj.bO
namespace bj.bO
open PySem PySem.Spec
def jd(h h':Heap):Prop:=∀(b:Nat) (o:Obj),h.E[b]?=J o->∃dh:Obj,h'.E[b]?=J dh/\dh.dict=o.dict
def jd.refl(h:Heap):jd h h:=λ_ o e=>⟨o,e,rfl⟩
theorem jd.trans(a:jd h af)(b:jd af ak):jd h ak:=λx o e=>by obtain⟨fs,az,d8⟩:=a x o e;obtain⟨ja,au,fz⟩:=b x fs az;exact⟨ja,au,fz.trans d8⟩
theorem jd.push(h:Heap)(o:Obj):jd h<|h.push o:=λb p e=>by obtain⟨objs,l⟩:=h;refine⟨p,?_,rfl⟩;show(objs.push o)[b]?=_;have aq:b<objs.O:=(Array.getElem?_eq_some_iff.mp e).1;rw[Array.getElem?_push_lt aq];exact(t9 aq).symm.trans e
theorem jd.update(h:Heap)(a:Addr)(f:Obj->Obj)(hf:∀o,(f o).dict=o.dict):jd h<|h.update a f:=λb p e=>by
 obtain⟨objs,l⟩:=h;show ∃dh,(objs.modify a f)[b]?=J dh/\_;rw[Array.getElem?_modify];have e:objs[b]?=J p:=e;rw[e];by_cases z:a=b
 ·rw[Y2 z];exact⟨f p,rfl,hf p⟩
 ·rw[Y3 z];exact⟨p,rfl,rfl⟩
theorem jd.get(x:jd h h')(e:h.get? b=J o)(bN:h'.get? b=J dh):dh.dict=o.dict:=by have q:=(M0.mp e).1;have eN:=(M0.mp bN).1;obtain⟨ja,au,d⟩:=x b o q;have au:h'.E[b]?=J ja:=au;rw[eN]at au;exists au;exact d
def c2{α:Type}:Sem α->Prop
 |.pure _=>True
 |.raise _=>True
 |.unsupported _=>True
 |.finish _=>True
 |.rule _ k=>c2<|k ()
 |.at _ k=>c2<|k ()
 |.load _ _ k=>∀o,c2<|k o
 |.update _ _ f k=>(∀o,(f o).dict=o.dict)/\c2 (k ())
 |.alloc _ k=>∀a,c2<|k a
 |.loadIfAlive _ k=>∀o,c2<|k o
 |.point _ k=>c2<|k ()
 |.register _ _=>True
 |.fresh k=>∀t,c2<|k t
 |.ask k=>∀t,c2<|k t
 |.choose _ _ k=>∀t,c2<|k t
 |.stack k=>∀l,c2<|k l
 |.handled _ k=>∀l,c2<|k l
 |.thread k=>∀l,c2<|k l
 |_=>False
theorem c2.mF{α:Type}:∀{t:Sem α},c2 t->∀{Q:α->Pos->aR->Prop} {E:mt->Pos->aR->Prop} {p:Pos} {s:aR},Sem.wp M Γ t Q E p s ->
  ∀{h0:Heap},jd h0 s.D->Sem.wp M Γ t (λa p s'=>Q a p s'/\jd h0 s'.D) (λe p s'=>E e p s'/\jd h0 s'.D) p s
 |.pure _,_,_,_,_,_,h,_,x=>⟨h,x⟩
 |.raise _,_,_,_,_,_,h,_,x=>⟨h,x⟩
 |.unsupported _,_,_,_,_,_,h,_,_=>h
 |.finish _,_,_,_,_,_,h,_,_=>h
 |.rule _ k,m,_,_,_,_,h,_,x=>c2.mF (t:=k ()) m h x
 |.at _ k,m,_,_,_,_,h,_,x=>c2.mF (t:=k ()) m h x
 |.load _ _ k,m,_,_,_,_,h,_,x=>let ⟨o,q,h⟩:=h;⟨o,q,c2.mF (t:=k o) (m o) h x⟩
 |.update a _ f k,m,_,_,_,_,h,_,x=>⟨h.1,c2.mF (t:=k ()) m.2 h.2<|x.trans<|jd.update _ a f m.1⟩
 |.alloc o k,m,_,_,_,_,h,_,x=>c2.mF (t:=k _) (m _) h<|x.trans<|jd.push _ o
 |.loadIfAlive _ k,m,_,_,_,_,h,_,x=>c2.mF (t:=k _) (m _) h x
 |.point _ k,m,_,_,_,_,h,_,x=>c2.mF (t:=k ()) m h x
 |.register _ _,_,_,_,_,_,h,_,_=>h
 |.fresh k,m,_,_,_,_,h,_,x=>c2.mF (t:=k _) (m _) h x
 |.ask k,m,_,_,_,_,h,_,x=>c2.mF (t:=k _) (m _) h x
 |.choose _ _ k,m,_,_,_,_,h,_,x=>⟨h.1,c2.mF (t:=k _) (m _) h.2 x⟩
 |.stack k,m,_,_,_,_,h,_,x=>c2.mF (t:=k _) (m _) h x
 |.handled _ k,m,_,_,_,_,h,_,x=>c2.mF (t:=k _) (m _) h x
 |.thread k,m,_,_,_,_,h,_,x=>c2.mF (t:=k _) (m _) h x
 |.os ..,m,_,_,_,_,_,_,_=>m.elim
 |.call ..,m,_,_,_,_,_,_,_=>m.elim
 |.newGen ..,m,_,_,_,_,_,_,_=>m.elim
 |.genState ..,m,_,_,_,_,_,_,_=>m.elim
 |.resume ..,m,_,_,_,_,_,_,_=>m.elim
 |.yield ..,m,_,_,_,_,_,_,_=>m.elim
 |.fork ..,m,_,_,_,_,_,_,_=>m.elim
 |.await ..,m,_,_,_,_,_,_,_=>m.elim
def c2.any{α:Type}{M:Model}{t:Sem α}(m:c2 t){Q:α->aR->Prop}(h:bl M A t Q E s):bl M A t (λa s'=>Q a s'/\jd s.D s'.D) (λe s'=>E e s'/\jd s.D s'.D) s :=
 λΓ p i=>m.mF (h Γ p i)<|jd.refl _
theorem c2.bind{α β:Type}:∀{t:Sem α} {k:α->Sem β},c2 t->(∀a,c2<|k a)->c2 (t >>= k)
 |.pure a,_,_,h=>h a
 |.raise _,_,_,_=>trivial
 |.unsupported _,_,_,_=>trivial
 |.finish _,_,_,_=>trivial
 |.rule _ k,_,m,h=>c2.bind (t:=k ()) m h
 |.at _ k,_,m,h=>c2.bind (t:=k ()) m h
 |.load _ _ k,_,m,h=>λo=>c2.bind (t:=k o) (m o) h
 |.update _ _ f k,_,m,h=>⟨m.1,c2.bind (t:=k ()) m.2 h⟩
 |.alloc _ k,_,m,h=>λo=>c2.bind (t:=k o) (m o) h
 |.loadIfAlive _ k,_,m,h=>λo=>c2.bind (t:=k o) (m o) h
 |.point _ k,_,m,h=>c2.bind (t:=k ()) m h
 |.register _ _,_,_,_=>trivial
 |.fresh k,_,m,h=>λo=>c2.bind (t:=k o) (m o) h
 |.ask k,_,m,h=>λo=>c2.bind (t:=k o) (m o) h
 |.choose _ _ k,_,m,h=>λo=>c2.bind (t:=k o) (m o) h
 |.stack k,_,m,h=>λo=>c2.bind (t:=k o) (m o) h
 |.handled _ k,_,m,h=>λo=>c2.bind (t:=k o) (m o) h
 |.thread k,_,m,h=>λo=>c2.bind (t:=k o) (m o) h
 |.os ..,_,m,_=>m.elim
 |.call ..,_,m,_=>m.elim
 |.newGen ..,_,m,_=>m.elim
 |.genState ..,_,m,_=>m.elim
 |.resume ..,_,m,_=>m.elim
 |.yield ..,_,m,_=>m.elim
 |.fork ..,_,m,_=>m.elim
 |.await ..,_,m,_=>m.elim
def jL{α:Type}{a:α}:c2 (pure a:Sem α):=trivial
def qB{α:Type}:c2 (unsupported x:Sem α):=trivial
def Kf:c2<|load a:=λ_=>trivial
def Kg:c2 stack:=λ_=>trivial
def Ex{i:Nat}:c2<|field v i:=by
 unfold field fieldsOf;refine c2.bind ?_ λl=>?_
 ·exists v<;>first|exact qB|refine c2.bind Kf λo=>?_
  cases o.d<;>first|exact qB|exact jL
 ·cases l[i]?<;>first|exact qB|exact jL
def Kh{i:Nat}:c2<|setField v i x:=by
 unfold setField
 exists v<;>first|exact qB|skip
 rename_i a;show c2 (updateField a i x);unfold updateField;refine c2.bind Kf λo=>?_;cases o.d<;>first|exact qB|skip
 rename_i ah;show c2 (if i<ah.O then _ else _);by_cases z:i<ah.O
 ·rw[Y2 z];exact⟨λo=>by obtain⟨_,_,d,_⟩:=o;exists d<;>rfl,trivial⟩
 ·rw[Y3 z];exact qB
theorem QO:∀l:List Env,c2 (readyFrames l)
 |[]=>jL
 |env::r=>by
  unfold readyFrames;cases env.frame with
  |none=>exact qB
  |some f =>
   refine c2.bind Kf λo=>?_;by_cases z:((o.slots.getD 3 C).isSome)=Y0
   ·rw[Y2 z];exact jL
   ·rw[Y3 z];refine c2.bind ?_ λb=>c2.bind ?_ λc=>c2.bind ⟨λo=>rfl,trivial⟩ λ_=>QO r
    ·unfold behindIsImport;by_cases cN:(env.Y.kind != ScopeKind.module||r.isEmpty)=Y0
     ·simp only[cN,if_true];exact jL
     ·simp only[cN];by_cases dE:(env.code==Value.none)=Y0
      ·simp only[dE,if_true];exact jL
      ·simp only[dE];exact c2.bind Ex λ_=>jL
    ·cases r with
     |nil =>
      simp only[keptBack];by_cases cN:(env.Y.isGenerator||env.Y.isCoroutine)=Y0
      ·simp only[cN,if_true];exact jL
      ·simp only[cN];refine c2.bind ?_ λ_=>jL;unfold underTheClaimsCaller;exact c2.bind Kg λ_=>jL
     |cons _ _=>exact jL
def acZ:c2<|frameOf env:=by
 unfold frameOf frameEnvs;refine c2.bind (c2.bind Kg λ_=>jL) λl=>c2.bind ?_ λo=>?_
 ·generalize List.dropWhile _ l=q;cases q with
  |nil=>exact jL
  |cons a b=>exact c2.bind (QO _) λ_=>jL
 ·exists o<;>first|exact qB|exact jL
def Ki:c2<|setFlight v f:=by
 unfold setFlight;refine c2.bind Ex λx=>?_;by_cases z:(x != Value.none)=Y0
 ·rw[Y2 z];exact Kh
 ·rw[Y3 z];exact jL
def ac0:c2<|EntryCells.newEntry a b c d e l:=by
 unfold EntryCells.newEntry newFields newObj;dsimp only;by_cases z:([a,b,c,d,e]++if l.isEmpty=Y0 then List.replicate 6 Value.none else l).Q.O>dg+2
 ·simp only[z,if_true];exact qB
 ·simp only[z,if_false];unfold newObjAsIs;exact λ_=>jL
def QP:c2<|noteFrame v env:=by
 unfold noteFrame;cases env.frame with
 |none=>exact qB
 |some f =>
  have tail:∀x:mt,c2 (do let fr<-frameOf env;let cQ<-entryPlaceOf f (x != .none);let b<-EntryCells.newEntry x fr .none (gJ f) .none cQ;setField v 1 b):=λx=>by refine c2.bind acZ λfr=>c2.bind ?_ λcQ=>c2.bind ac0 λb=>Kh;unfold entryPlaceOf;refine c2.bind Kg λaod=>?_;split<;>exact jL
  refine c2.bind Ex λx=>?_;by_cases z:(x != Value.none)=Y0
  ·simp only[z,if_true];refine c2.bind Ex λy=>?_;split
   ·exact jL
   ·have:=tail x;rw[z]at this;exact c2.bind Kh λ_=>this
  ·have:=tail x;simp only[z]at this |-;exact this
def QQ:c2<|leaving env v:=c2.bind QP λ_=>Ki
end bj.bO
namespace bj.bO
open PySem PySem.Spec PyProof.Rows
section
variable {P:dx}{w:c3}{H aj lK:aJ}{h h' aT B:Heap}{a:Addr}{o:jX}{cm:List Addr}
def has_obj(x:gP P w H h a o):∃bJ,h.get? a=J bJ:=by
 cases o with
 |ao xs=>obtain⟨_,_,_,_,e⟩:=x;exact⟨_,e⟩
 |aD xs=>obtain⟨_,_,_,bJ,e,_⟩:=x;exact⟨_,e⟩
 |aw ay=>obtain⟨_,_,_,_,bJ,_,_,e,_⟩:=x;exact⟨_,e⟩
 |set cc n=>obtain⟨bJ,_,_,_,e,_⟩:=x;exact⟨_,e⟩
 |hJ lo hi=>obtain⟨_,_,_,e⟩:=x;exact⟨_,e⟩
 |eo bJ u=>obtain⟨e,_⟩:=x;exact⟨_,e⟩
 |ext φ=>obtain⟨_,e,_⟩:=x;exact e
def Kept(cm:List Addr)(aT:Heap)(aj:aJ)(h B:Heap):Prop:=∀b o,h.get? b=J o->b∉cm->(aj b≠C\/aT.get? b≠C)->B.get? b=J o
def Mj(u:gf cm [] lK aj aT h)(b1:gk P w aj h)(b8:Kept cm aT aj h B)(st:B.StaysIn h')(up:h.UpToSlots h')(hf:∀b∈cm,aj b=C/\∀o,h.get? b=J o->∀ah,o.d≠.fields ah) :
  gf cm [] lK aj aT h'/\gk P w aj h'/\Kept cm aT aj h' B:=by
 have p3:∀b u,aj b=J u->∃bJ,h.get? b=J bJ/\h'.get? b=J bJ/\B.get? b=J bJ:=λb u e=>by obtain⟨bJ,q⟩:=has_obj<|b1 b u e;have bb:=b8 b bJ q (λz=>by rw[(hf b z).1]at e;exists e) (.inl<|by rw[e];simp);exact⟨bJ,q,st b bJ bb,bb⟩
 refine⟨⟨λb o q n aq av=>?_,λb o q n aq av=>?_,λb o q n av=>u.free b o q n av,λb o q av=>?_,u.pC,u.od⟩,λc v e=>?_,λb o q aq bp=>?_⟩
 ·exact st b o<|b8 b o (u.keep b o q n aq av) aq (.inr<|by rw[q];simp)
 ·obtain⟨cX,e⟩:=u.slot b o q n aq av;obtain⟨Dm,bN⟩:=up b _ e<|(hf b aq).2 _ e;exact⟨Dm,bN⟩
 ·obtain⟨dh,e⟩:=u.there b o q av;by_cases aq:b∈cm
  ·obtain⟨Dm,bN⟩:=up b _ e<|(hf b aq).2 _ e;exact⟨_,bN⟩
  ·exact⟨dh,st b dh<|b8 b dh e aq (.inr<|by rw[q];simp)⟩
 ·refine(b1 c v e).pB (λx av=>?_);obtain⟨bJ,aX,bb,_⟩:=p3 c v e;rw[aX]at av;exists av;exact bb
 ·rcases bp with bp|bp
  ·cases e:aj b with
   |none=>exact absurd e bp
   |some y =>
    obtain⟨bJ,aX,bb,cK⟩:=p3 b y e;rw[bb]at q;exists q;exact cK
  ·cases e:aT.get? b with
   |none=>exact absurd e bp
   |some y =>
    obtain⟨dh,bN⟩:=u.there b y e Z7;have bb:=b8 b dh bN aq<|.inr bp;rw[st b dh bb]at q;exists q;exact bb
def gf.same:gf cm [] H H h h:=gf.refl
end
def my(P:dx)(w:c3):o5:=λcj H s E e s'=>∃(a aN:Addr) (aj:aJ) (B:Heap) (t:Addr),e=.ref a/\s'.os=s.os/\oJ s'.gens/\gf (hc cj) [] H aj s.D s'.D/\gk P w aj s'.D /\
 Heap.FlyingW B cj a ZI (.ref t) s'.D/\Kept (hc cj) s.D aj s'.D B/\(∀o,s'.heap.get? a=J o->o.dict=C)/\E ZI C aj
def Exc(bG:Bool)(X:bI)(ae:List Z1)(aj:aJ)(s:aR)(e aN:Addr):Prop:=∃(O:St) (lK:aJ) (sc:aR) (h:Heap),aS X ae O lK sc/\s.os=sc.os/\oJ s.gens/\gf (hc X.stack) [] lK aj sc.D h/\gk X.R X.w aj h /\
 ((h=s.D/\∃B t,Heap.FlyingW B X.stack e ZI (.ref t) h/\Kept (hc X.stack) sc.D aj h B/\∀o,h.get? e=J o->o.dict=C)\/(bG=Y1/\∃ah,Heap.MadeExcOf h s.D e ZI ah))
def Exc.weak{bG:Bool}(x:Exc Y0 X ae aj s e aN):Exc bG X ae aj s e aN:=by
 obtain⟨O,lK,sc,h,a1,a2,k8,zj,sM,HV⟩:=x;refine⟨O,lK,sc,h,a1,a2,k8,zj,sM,?_⟩;rcases HV with HV|⟨z,_⟩
 ·exact .inl HV
 ·exists z
section
variable {X:bI}{ae:List Z1}{O:St}{H aj:aJ}{s:aR}{h:Heap}
def Kj(I:aS X ae O H s)(u:gf (hc X.stack) [] H aj s.D h):∀b∈hc X.stack,aj b=C/\∀o,h.get? b=J o->∀ah,o.d≠.fields ah:=λb aq=>by obtain⟨_,o,aZ,hd⟩:=I.stack.mem aq;refine⟨u.free b o aZ (I.GA b aq) Z7,λdh e ah q=>?_⟩;obtain⟨cX,bN⟩:=u.slot b o aZ (I.GA b aq) aq Z7;rw[bN]at e;exists e;exact hd ah q
def amo(qc:X.stack=X.I::cj)(AO:X.cj=cj)(hex:X.ex=[])(hf:X.I.frame=J X.I.locals)(x:Exc Y1 X ae aj s e aN)(zk:E ZI C aj) :
  bl Z2 X.A (leaving X.I<|.ref e) (λ_ lb=>my X.R X.w cj X.dJ X.cD E (.ref e) lb) (λbN lb=>my X.R X.w cj X.dJ X.cD E bN lb) s:=by
 obtain⟨O,lK,sc,h,I,os,ft,u,b1,bp⟩:=x;have fr:X.A.frames=J (X.I::cj):=by rw[<-qc];exact I.ok.frames
 have mR:=Kj I u;have fin:∀(B:Heap) (t:Addr) (h':Heap),Kept (hc X.stack) sc.D aj h B->h.UpToSlots h'->Heap.FlyingW B cj e ZI (.ref t) h'->(∀o,h'.get? e=J o->o.dict=C)->my X.R X.w cj X.dJ X.cD E (.ref e) { s with heap:=h'}:=λB t h' b8 up bG mV=>by
  obtain⟨f9,yi,ky⟩:=Mj u b1 b8 bG.1 up mR;have cS:aS X ae O aj { s with heap:=h'}:=I.Gf (s':={ s with heap:=h'}) os f9 yi ft λb z=>absurd z Z7;have p9:=cS.V;rw[hex,show X.cm=hc cj by rw[<-AO]]at p9;refine⟨e,aN,aj,B,t,rfl,cS.os,ft,p9,yi,bG,λb o q aq bp=>?_,mV,zk⟩;have nG:b∉hc X.stack:=λz=>by
   rw[qc]at z;have z:b∈(X.I::cj).filterMap (·.frame):=z;rw[r5,hf]at z;rcases d4.mp z with rfl|z
   ·rcases bp with bp|bp
    ·exact bp cS.free
    ·cases az:X.cD.heap.get? X.I.locals with
     |none=>exact bp az
     |some y=>exact absurd (d5 (d6 az) cS.ok.above)<|oF _
   ·exact aq z
  refine ky b o q nG (bp.imp id λbp z=>?_);cases az:X.cD.heap.get? b with
  |none=>exact bp az
  |some y =>
   obtain⟨dh,au⟩:=I.base.there b y az (by rw[hex];simp);rw[z]at au;exists au
 rcases bp with⟨rfl,B,t,bG,b8,mV⟩|⟨_,ah,mk⟩
 ·rw[qc]at bG;obtain⟨bJ,qC,_⟩:=bG.there;refine hk (QQ.any (wpAny_leaves_onW (Q:=λ_ lb=>∃h',lb={ s with heap:=h'}/\Heap.FlyingW B cj e ZI (.ref t) h'/\s.heap.UpToSlots h') (E:=λ_ _=>False) fr hf bG λh' f2 up=>⟨h',rfl,f2,up⟩)) (λ_ lb ⟨⟨h',aX,f2,up⟩,hd⟩=>?_) λ_ _ z=>z.1.elim;subst aX;exact fin B t h' b8 up f2 λo q=>(hd.get qC q).trans (mV bJ qC)
 ·have bf:aS X ae O aj { sc with heap:=h}:=I.Gf (s':={ sc with heap:=h}) rfl u b1 I.ft λb z=>absurd z Z7;have pf:∀env∈X.stack,∀b,env.frame=J b->b∈hc X.stack:=λenv he b aq=>GP.mpr ⟨env,he,aq⟩;have NK:Heap.FunFrames h (W.hideAll h<|hc X.stack)<|X.I::cj:=by have z:=W.funFrames_hide (as:=hc X.stack) bf.stack pf;generalize hc X.stack=q at z |-;rw[qc]at z;exact z
  obtain⟨_,qC,_⟩:=mk.there;refine hk (QQ.any (wpAny_leaves_madeW (Q:=λ_ lb=>∃h' t,lb={ s with heap:=h'}/\Heap.FlyingW (W.hideAll h<|hc X.stack) cj e ZI (.ref t) h'/\s.heap.UpToSlots h') (E:=λ_ _=>False) fr hf (λb o q=>W.of_hideAll _ q) NK mk λh' t f1 _ _ up=>⟨h',t,rfl,f1,up⟩)) (λ_ lb ⟨⟨h',t,aX,f1,up⟩,hd⟩=>?_) λ_ _ z=>z.1.elim;subst aX;exact fin _ t h' (λb o q aq _=>W.hideAll_get _ q aq) ((Heap.UpToSlots.of_keeps mk.keeps).trans up) f1 λo q=>hd.get qC q
end
def rf(bG:Bool)(X:bI)(B:aJ)(tw:Addr)(S:bE)(n:Nat)(c n':Nat)(O:St)(H:aJ):Prop:=dr X.K B tw S n O H /\
 ∀ae e aN aj s',Exc bG X ae aj s' e aN->eJ H aj->dn tw B aj->df tw n' aj->X.a3 (o8 c)=J ZI->X.cv (.ref e) s'
def kn(bG:Bool)(X:bI)(tw:Addr)(e:Expr)(d:dm):Prop:=∀B S n c n',d S n=J (c,n')->d7 X e (λO H _=>rf bG X B tw S n c n' O H)
def rg(bG:Bool)(X:bI)(tw:Addr)(st:Stmt)(d:dm):Prop:=∀B S n c n',d S n=J (c,n')->oM X st (λ_ O H=>rf bG X B tw S n c n' O H)
def lq(bG:Bool)(X:bI)(tw:Addr)(st:List Stmt)(d:dm):Prop:=∀B S n c n',d S n=J (c,n')->kr X st (λ_ O H=>rf bG X B tw S n c n' O H)
section
variable {bG:Bool}{X:bI}{tw:Addr}
def rf.step{n aM c n':Nat}(h:rf bG X B tw S n c n' O H)(x:eJ H aj)(R:dr X.K B tw S' aM U' aj):rf bG X B tw S' aM c n' U' aj :=
 ⟨R,λae e aN bV s' a b=>h.2 ae e aN bV s' a<|x.trans b⟩
def gX.lift{st:Stmt}{d:bw}(h:gX X.lL tw st d):gX X tw st d:=λB S n f S' n' hd ae s O H D I hw =>
 hk (h B S n f S' n' hd ae s O H D (I.nh _) hw) (λ_ _ q=>q.pK) λ_ _ z=>False.elim z
def SB.lift(h:SB X.lL tw es d):SB X tw es d:=λB S n aA n' hd pos ae s O H Q I hw =>
 hk (h B S n aA n' hd pos ae s O H Q (I.nh _) hw) (λ_ _ ⟨ah,aj,eH,r,q⟩=>⟨ah,aj,eH.pK,r,q⟩) λ_ _ z=>False.elim z
def aiT{st:List Stmt}:lq bG X tw st fR:=λB S n c n' hd=>by exists hd
def akC{st:Stmt}{d:dm}(h:rg bG X tw st d):lq bG X tw [st] d:=λB S n c n' hd=>Oy<|h B S n c n' hd
def QR{st:Stmt}{nR:List Stmt}{cM jy:dm}{a:bw}(af:rg bG X tw st cM)(ak:gX X tw st a)(bc:lq bG X tw nR jy):lq bG X tw (st::nR)<|dy cM a jy:=by
 intro B S n c n' hd ae s O H D I hw;unfold dy at hd;cases e:cM S n with
 |some r =>
  rw[e]at hd;cases hd;exact uW (af B S n c n' e) Dq ae s O H D I hw
 |none =>
  rw[e]at hd;obtain⟨⟨f,S1,aM⟩,az,au⟩:=cn hd;cases f with
  |bD=>exact uW (ak B S n .bD S1 aM az) (bc B S1 aM c n' au) ae s O H D I ⟨hw.1,λU' aj x y=>hw.step x y⟩
  |_=>exists au
def ag9{c:Expr}{a b:List Stmt}{gj:fb}{cM eX:dm}{pos:Pos}(aT:ST X tw c gj)(ba:lq bG X tw a cM)(aq:lq bG X tw b eX):rg bG X tw (.If c a b pos)<|fH gj cM eX:=by
 intro B S n uL n' hd ae s O H D I hw;obtain⟨⟨x,aM⟩,az,au⟩:=cn hd;refine wpAny_If (b2 (aT.run az I hw.1) λy s1 ⟨i9,H1,bf,a1,bt⟩=>?_);subst i9;cases y with
 |true=>exact ba B S aM uL n' au ae s1 O H1 D bf<|hw.step (a1.b0 hw.1.aQ) bt
 |false=>exact aq B S aM uL n' au ae s1 O H1 D bf<|hw.step (a1.b0 hw.1.aQ) bt
def QS{e:Expr}{d:dm}{pos:Pos}(h:kn bG X tw e d)(aP:autoParam (nC e C pos.line X.I=pure Y1) bu):rg bG X tw (.Expr e pos) d:=λB S n c n' hd=>zJ (h B S n c n' hd) aP
def aiU{e:Expr}{d:dm}{pos:Pos}(h:kn bG X tw e d):rg bG X tw (.Return (J e) pos) d:=λB S n c n' hd=>IE<|h B S n c n' hd
def aha{c a b:Expr}{gj:fb}{cM eX:dm}{pos:Pos}(aT:ST X tw c gj)(ba:kn bG X tw a cM)(aq:kn bG X tw b eX):kn bG X tw (.IfExp c a b pos)<|fH gj cM eX:=by
 intro B S n uL n' hd ae s O H Q I hw;obtain⟨⟨x,aM⟩,az,au⟩:=cn hd;refine wpAny_IfExp (b2 (aT.run az I hw.1) λy s1 ⟨i9,H1,bf,a1,bt⟩=>?_);subst i9;cases y with
 |true=>exact ba B S aM uL n' au ae s1 O H1 Q bf<|hw.step (a1.b0 hw.1.aQ) bt
 |false=>exact aq B S aM uL n' au ae s1 O H1 Q bf<|hw.step (a1.b0 hw.1.aQ) bt
def vn(a3:Str->Option mt)(K:W.Frag)(tw:Addr)(dU:Nat)(f:e8):kX:=λah H _ E=>ah.H=dU/\∃aA n c n',Args K tw H aA ah/\df tw n H/\f aA n=J (c,n') /\
 ∀aN aj,a3 (o8 c)=J ZI->dn tw H aj->df tw n' aj->E ZI C aj
def aiV{P:dx}{w:c3}{K:W.Frag}{a3:Str->Option mt}{base:Heap}{x qual:Str}{st:Stmt}{f:Addr}{fd:hC}{N ps:List Str}{lv:Nat}{eX:dm}(F:qo K x qual st f fd)(cc:mG N ps<|er st)
  (kL:∀(c8:mt) (A:dI) (cj:List Env) (s:aR) (H:aJ) (E:iv),eD lv (A.deeper<|i5 qual (er st) s.L f c8)->lq Y1 (jP (my P w) P w K a3 base N qual (er st) f c8 A cj s H E) tw (ih st) eX) :
  i2 P w K a3 base (my P w) (lv+1) f fd ps (vn a3 K tw ps.H<|fnX N.H eX):=by
 obtain⟨ju,hs,eB,doc,pm,an,c8,eE,ql,rfl,fN,g4⟩:=F.ex;refine Uk fN g4 cc (λah H Q E h=>h.1) λA cj s H ah Q E aU h=>?_;obtain⟨aB,aA,n,c,n',a,aQ,e,k⟩:=h;refine⟨_,kL c8 A cj s H E aU H _ n c n' e,Jv a aQ,λae cu aN aj s' x _ cf bY ct=>?_⟩;exact amo (X:=jP (my P w) P w K a3 base N qual (er st) f c8 A cj s H E) rfl rfl rfl rfl x<|k aN aj ct cf bY
def x_run{f:e8}{lv:Nat}{da:Addr}{fd:hC}{ps:List Str}{dU c aM n':Nat}{aA:List<|T×Bool}{ae:List Z1}{O:St}{H1:aJ}{s1:aR}{us:List mt}{ah:List V}{Q:mt->aR->Prop}(F:i2 X.R X.w X.K X.a3 X.V (my X.R X.w) lv da fd ps<|vn X.a3 X.K tw dU f)(aU:eD lv X.A)(aq:Binds X.K fd ps [])
  (bf:aS X ae O H1 s1) (r:cG ah us) (dB:df tw aM H1) (cN:Args X.K tw H1 aA ah) (aB:aA.H=dU) (au:f aA aM=J (c,n')) (k:∀e aN aj s',Exc Y0 X ae aj s' e aN->dn tw H1 aj->df tw n' aj->X.a3 (o8 c)=J ZI->X.cv (.ref e) s') :
  bl Z2 X.A (call (.ref da) us) Q X.cv s1:=by
 have lg:vn X.a3 X.K tw dU f ah H1 (λ_ _=>False) (λcl _ aj=>∃aN,cl=.ref aN/\X.a3 (o8 c)=J ZI/\dn tw H1 aj/\df tw n' aj):=⟨cN.H▸aB,aA,aM,c,n',cN,dB,au,λaN aj aX bb cK=>⟨aN,rfl,aX,bb,cK⟩⟩
 have ej:us.H=ps.H:=by rw[<-r.H];exact F.len _ _ _ _ lg
 have mw:=aq s1 us bf.hK (by simpa using ej);rw[r7]at mw;refine ui (si (F.run X.A X.stack s1 H1 ⟨us,[]⟩ us ah _ _ aU bf.LV mw r lg) λhr s' a7=>?_);cases hr with
 |error ev =>
  obtain⟨cu,aN,bV,qd,t,rfl,os,ft,u,b1,ac1,b8,mV,anE,aX,bb,cK,fW⟩:=a7
  exists aX
  exact k cu aN bV s' ⟨O,H1,s1,s'.D,bf,os,ft,u,b1,.inl ⟨rfl,qd,t,ac1,b8,mV⟩⟩ cK fW bb
 |ok Ey =>
  cases Ey with
  |ret u=>obtain⟨_,_,_,_,_,_,_,q⟩:=a7;exact q.elim
  |next=>exact False.elim a7
  |brk=>exact False.elim a7
  |cont=>exact False.elim a7
def akD{f:e8}{lv:Nat}{da:Addr}{fd:hC}{ps:List Str}{x:Str}{p pos:Pos}{e:Expr}{es:List Expr}{a:iy}{dU:Nat}(F:i2 X.R X.w X.K X.a3 X.V (my X.R X.w) lv da fd ps<|vn X.a3 X.K tw dU f)(aU:eD lv X.A)(hm:X.a3 x=J (.ref da))(aW:W.keepIn X.K (.ref da)=Y0)
  (aq:Binds X.K fd ps []) (ba:SB X tw (e::es) a) (bT:autoParam (fv X x) bu) (fQ:autoParam ZH eM) (he:autoParam ZP bu)
  (eS:autoParam ((ff pos Zm).any (·.1)=Y1) bu):kn bG X tw Zn<|d1 dU f a:=by
 intro B S n c n' hd ae s O H Q I ⟨R,k⟩;obtain⟨⟨aA,aM⟩,az,au⟩:=cn hd;by_cases aB:aA.H=dU
 ·rw[Y2 aB]at au;refine l7<|uV I bT hm ?_ fQ;refine W.callWith_K (h₀:=X.V) I.ok.mod.fl aW (b2 (ba B S n aA aM az pos ae s O H (λah aj=>dn tw H aj/\df tw aM aj/\Args X.K tw aj aA ah) I ⟨R,λah aj x y z=>⟨x,y,z⟩⟩) λus s1 ⟨ah,H1,bf,r,bH,dB,cN⟩=>⟨bf.hK,?_⟩) he eS;exact x_run F aU aq bf r dB cN aB au λe aN aj s' x cK fW bb=>k ae e aN aj s' x.weak ((bH.trans cK).b0 R.aQ) ((R.ext.trans bH).trans cK) fW bb
 ·rw[Y3 aB]at au;exists au
end
def Ws(K:W.Frag)(B:aJ)(tw:Addr)(S:bE)(n n':Nat):TE:=λO H Q=>dr K B tw S n O H/\∀v aj,dn tw H aj->df tw n' aj->Q v aj
def CE(X:bI)(tw:Addr)(e:Expr)(d:uw):Prop:=∀B S n n',d S n=J n'->d7 X e (Ws X.K B tw S n n')
def uM(X:bI)(tw:Addr)(k:Nat)(es:List Expr)(d:uw):Prop:=∀B S n n',d S n=J n'->∀(acc:Str) (ae:List Z1) (s:aR) (O:St) (H:aJ) (Q:V->aJ->Prop),acc.H<=1000*k->aS X ae O H s->dr X.K B tw S n O H->(∀v aj,dn tw H aj->df tw n' aj->Q v aj) ->
 bl Z2 X.A (joinParts acc<|evalEach es X.I) Zl X.cv s
section
variable {bG:Bool}{X:bI}{tw:Addr}
def aiW{j pos}:CE X tw (.Constant (.str x) j pos) mf:=λB S n n' hd ae s O H Q I ⟨R,k⟩=>by
 exists hd
 exact IC ae s O H Q I<|k _ H ZT R.aQ
def aiX{k:Nat}(aW:k<=100):uM X tw k [] mf:=λB S n n' hd acc ae s O H Q ba I R q=>by
 exists hd
 refine joinParts_nil ⟨.str acc,H,I.tok _,⟨_,rfl⟩,q _ H ZT R.aQ⟩<|bP ba ?_;rw[mK];omega
def Ez{a b:Str}{k:Nat}(af:a.H<=1000*k)(ak:b.H<=1000)(aW:k+1<=100):(a++b).H<=1000*(k+1)/\(a++b).H<=dg:=by rw[strLen_append,mK];omega
def aiY{k:Nat}{j pos}(h:uM X tw (k+1) es d)(aW:autoParam (k+1<=100) eM)(av:autoParam (x.H<=1000) eM):uM X tw k (.Constant (.str x) j pos::es) d:=λB S n n' hd acc ae s O H Q ba I R q=>by
 show bl _ _ (joinParts acc<|eval (.Constant (.str x) j pos) X.I::evalEach es X.I) _ _ s;refine joinParts_cons (b2 (IC ae s O H (λv aj=>v=.str x/\aj=H) I ⟨rfl,rfl⟩) λu s1 ⟨v,H1,bf,r,az,au⟩=>?_);subst az au;obtain⟨t,rfl⟩:=(show ∃t,u=.str x t from r)
 exact⟨(Ez ba av aW).2,h B S n n' hd _ ae s1 O _ Q (Ez ba av aW).1 bf R q⟩
def aiZ{k:Nat}(he:bF X tw e ie)(h:uM X tw (k+1) es d)(aW:autoParam (k+1<=100) eM):uM X tw k (.FormattedValue e (-1) C pos::es)<|ux ie d:=λB S n n' hd acc ae s O H Q ba I R q=>by
 obtain⟨⟨t,m,aM⟩,az,au⟩:=cn hd;have⟨i,dR,aP,a6⟩:∃i,t=.int i/\small i=Y0/\d S aM=J n':=by
  cases t with
  |int i =>
   have au:(if small i=Y0 then d S aM else C)=J n':=au;by_cases z:small i=Y0
   ·rw[Y2 z]at au;exact⟨i,rfl,z,au⟩
   ·rw[Y3 z]at au;exists au
  |_=>exists au
 subst dR;show bl _ _ (joinParts acc<|eval (.FormattedValue e (-1) C pos) X.I::evalEach es X.I) _ _ s;refine joinParts_cons<|FormattedValue_plain (b2 (he.run az I R) λu s1 ⟨v,H1,bf,bA,a1,bt,b6⟩=>?_);have aV:=b6.root bt R.aQ;have aV:aI tw H1 (.int i) v:=aV;rw[aI]at aV;subst aV;obtain⟨bx,rfl⟩:=(show ∃t,u=.int i t from bA)
 have aB:i.natAbs.log2<1920:=by
  have af:i.natAbs<2^64:=of_decide_eq_true aP;by_cases z:i.natAbs=0
  ·rw[z];decide
  ·have:=(Nat.log2_lt z).mpr af;exact gT (eA this) Z0
 have ej:(Str.ofString<|toString i).H<=1000:=by have af:i.natAbs<10^20:=d5 (of_decide_eq_true aP) Z0;have ak:=int_text_length_le10 (k:=20) Z0 af;rw[PySem.ofString_length];exact bP ak Z0
 refine formatField_int_small aB ?_;have cS:aS X ae O H1 { s1 with toks:=s1.toks+1+1}:=bf.tok _;exact⟨(Ez ba ej aW).2,h B S aM n' a6 _ ae _ O H1 Q (Ez ba ej aW).1 cS bt λv aj x y=>q v aj (a1.trans x) y⟩
def akE(h:uM X tw 0 (a::b::es) d):CE X tw (.JoinedStr (a::b::es) pos) d:=λB S n n' hd ae s O H Q I ⟨R,k⟩ =>
 JoinedStr_many (h B S n n' hd Str.empty ae s O H Q Z0 I R k)
abbrev excMro:List mt:=[.type "ValueError",.type "Exception",.type "BaseException",.type "object"]
def akF{K:W.Frag}{h:Heap}{aN:Addr}{QT:List mt}{Ep:String}(fl:K.In h)(z:W.excIn K aN QT Ep=Y0) :
  ∃hW N nm uq bs hd sn sub ab col dd k0 k1 k2 k3 k5,h.get? aN=J (excClassObj nm uq aN N bs hW hd sn sub ab col dd k0 k1 k2 k3 k5 Ep)/\(∃mN,h.Ns N mN/\mN "__init__" = C)/\OwnTail h QT hW:=by
 unfold W.excIn at z;cases fN:K.lookup aN with
 |none=>rw[fN]at z;exists z
 |some bJ =>
  rw[fN]at z;obtain⟨ju,dd,hs,cX⟩:=bJ;have key:=fl _ _ fN;split at z
  ·rename_i d8 b6 s1 az
   exists az
   split at z
   ·rename_i HW hW iS a1 a2 k8 ac2 sM cR fh;obtain⟨Wt,NL,anF,cs,Wu,ch,Wv,Ww,ca,co,anG⟩:=b6;simp only[f5,beq_iff_eq,M9]at z;obtain⟨⟨⟨⟨⟨cN,dE⟩,iP⟩,uC⟩,uD⟩,NM⟩:=z;dsimp only at cR iP uD NM;subst cN dE iP cR;have ac3:cX=#[iS,a1,a2,k8,J<|.builtin ac2,sM]:=by
     cases cX with
     |mk l=>exact congrArg Array.mk fh
    subst ac3;exact⟨hW,cs,Wt,Wu,NL,ch,Wv,Ww,ca,co,dd,iS,a1,a2,k8,sM,key,⟨_,.of_isNs<|W.isNs_of_in fl uD,W.nsMap_none_of_in fl uD NM⟩,W.tail_of_in fl uC⟩
   ·exists z
  ·exists z
def EA{c:Nat}{aN:Addr}{e:Expr}{d:uw}{x:Str}{np ec pos:Pos}(aT:X.calm=Y0)(he:CE X tw e d)(hm:X.a3 x=J ZI)(av:x=o8 c)(q:W.excIn X.K aN excMro "ValueError.__new__" = Y0)(bT:autoParam (fv X x) bu)(fQ:autoParam ZH eM)
  (aP:autoParam (b4 [e] X.I=[ZG]) bu):rg Y1 X tw (.Raise (J<|.Call (.Name x np) [e] [] ec) C pos)<|mZ c d:=by
 intro B S n cH n' hd ae s O H D I ⟨R,k⟩;obtain⟨aM,az,au⟩:=dw hd;cases au;obtain⟨hW,N,nm,uq,bs,ac4,sn,sub,ab,col,dd,k0,k1,k2,k3,k5,oU,⟨mN,dK,ac5⟩,T⟩:=akF I.mod.fl q;refine wpAny_Raise_call_subT («C»:=aN) (nm:=nm) (q:=uq) (N:=N) (bs:=bs) (bm:=hW) (hdct:=ac4) (sn:=sn) (sub:=sub) (ab:=ab) (col:=col) (dd:=dd) (k0:=k0) (k1:=k1) (k2:=k2) (k3:=k3) (k5:=k5)
  PySem.F.excBase_ValueError (mN:=mN) (T.hasType PySem.F.excBase_ValueError.hasBase) (I.ok.hd aT) (by rw[aP];rfl) ac5 (uV I bT hm ⟨rfl,?_⟩ fQ)
 rw[aP];refine uc<|ia (b2 (he B S n n' az ae s O H (λv aj=>dn tw H aj/\df tw n' aj) I ⟨R,λv aj x y=>⟨x,y⟩⟩) λu s1 ⟨v,H1,bf,bA,bH,dB⟩=>l6 ?_);refine⟨rfl,(show 1<=dg by rw[mK];decide),bf.gs _ _ oU,dK.keeps bf.gs,T.keeps bf.gs,λh' cu mk=>?_⟩;exact k ae cu aN H1 { s1 with heap:=h'} ⟨O,H1,s1,s1.D,bf,rfl,bf.ft,gf.same,bf.b1,.inr ⟨rfl,_,mk⟩⟩ (bH.b0 R.aQ) (R.ext.trans bH) dB (av▸hm)
def ai0{di iter:Expr}{body:List Stmt}{d:ic}{put:T->bE->Option bE}{b:bw}{eX:dm}{pos:Pos}(aF:yV Z2 X.A X.I X.cv)(aT:X.calm=Y0)(hi:z9 X tw di iter d)(bT:sD X tw di put)(aq:h1 X tw body b)(AP:lq bG X tw body eX)(aP:autoParam Zx sA) :
  rg bG X tw (.For di iter body [] pos) (F2 d put b eX):=by
 intro B S n c n' hd ae s O H D I hw;obtain⟨⟨aA,aM⟩,az,au⟩:=cn hd;have R:=hw.1;have kL:kr X body (λD O H=>(∃S n f S' n',b S n=J (f,S',n')/\wQ X.K B tw S n f S' n' D O H)\/∃S n,eX S n=J (c,n')/\rf bG X B tw S n c n' O H):=λae s O H D I h=>by
  rcases h with⟨S,n,f,S',n',e,h⟩|⟨S,n,e,h⟩
  ·exact aq B S n f S' n' e ae s O H D I h
  ·exact AP B S n c n' e ae s O H D I h
 refine UM aF aT (hi B S n aA aM az) bT kL aP ae s O H D I ⟨R,λcO H1 bH dB it=>?_⟩;have bt:=R.mono bH dB;have ac6:=hw.step (bH.b0 R.aQ) bt;refine⟨λi m U' aj=>m=aA.H-i/\i<=aA.H/\eJ H1 aj/\∃Si k4,dr X.K B tw Si k4 U' aj/\s9 put b eX (aA.drop i) Si k4=J (c,n'),⟨aA.H,by simp,gH _,.refl _,S,aM,bt,by simpa using au⟩,?_⟩;rintro i m U2 bV ⟨rfl,kv,n2,S2,bC,dj,a6⟩;have at2:=it bV bC dj.aQ n2 dj.ext i;by_cases dD:i<aA.H
 ·right;obtain⟨go,uA⟩:=at2.1 aA[i] (by simp[dD]);have za:aA.drop i=aA[i]::aA.drop (i+1):=pL dD;rw[za]at a6;obtain⟨S3,bX,eR⟩:=cn (show(put aA[i] S2).bind _=_ from a6);cases ex:eX S3 bC with
  |some r =>
   rw[ex]at eR
   exists eR
   refine⟨go,λU' aj=>False,λU' aj z=>z.elim,λx aj uB=>?_⟩;obtain⟨cv,mS,jy⟩:=uA x aj uB;have lQ:eJ H1 aj:=n2.trans<|cv.b0 dj.aQ;exact⟨B,S2,bC,aA[i],S3,dj.mono cv<|mS bC dj.aQ,jy,bX,λU3 mh _=>.inr ⟨S3,bC,ex,ac6.step lQ mh⟩⟩
  |none =>
   rw[ex]at eR;obtain⟨⟨f4,S4,hu⟩,fO,gM⟩:=cn eR;refine⟨go,λU' aj=>eJ H1 aj/\dr X.K B tw S4 hu U' aj/\s9 put b eX (aA.drop<|i+1) S4 hu=J (c,n'),λU' aj ⟨cN,dE,iP⟩=>⟨aA.H-(i+1),by omega,rfl,dD,cN,S4,hu,dE,iP⟩,λx aj uB=>?_⟩;obtain⟨cv,mS,jy⟩:=uA x aj uB;have lQ:eJ H1 aj:=n2.trans<|cv.b0 dj.aQ;refine⟨B,S2,bC,aA[i],S3,dj.mono cv<|mS bC dj.aQ,jy,bX,λU3 mh _=>.inl ⟨S3,bC,f4,S4,hu,fO,mh,?_⟩⟩;cases f4 with
   |bD=>exact λU' ee cN dE=>⟨lQ.trans cN,dE,gM⟩
   |eE=>exact λU' ee cN dE=>⟨lQ.trans cN,dE,gM⟩
   |gs=>exists gM
   |aV t km=>exists gM
 ·left;have jI:aA.H<=i:=hS dD;rw[wc jI]at a6
  exists a6
end
noncomputable abbrev vo(X:bI)(e:mt)(p:List Z1):bI:={ X with A:=X.A.mark<|some e,calm:=Y1,cv:=λ_ _=>False,gD:=p}
noncomputable abbrev vp(X:bI)(E:mt->aR->Prop)(p:List Z1):bI:={ X with cv:=E,gD:=p}
section
variable {X:bI}{ae:List Z1}{O:St}{H aj:aJ}{s:aR}{e aN:Addr}{E oX:mt->aR->Prop}{Q:Unit->aR->Prop}
def amq(I:aS X ae O H s)(E:mt->aR->Prop):aS (vp X E<|X.gD++ae) [] O H s :=
 ⟨⟨I.ok.mod,I.ok.kind,I.ok.glob,I.ok.blt,I.ok.above,I.ok.inj,I.ok.has,I.ok.rj,I.ok.hd,I.ok.frames,I.ok.sR,I.ok.sS,I.ok.bs,I.ok.mW,I.ok.rR,I.ok.rS,I.ok.kF,I.ok.o3⟩,I.os,I.ft,I.V,I.loc,I.cell,I.free,I.kK,λp aF=>I.pin p (by simpa using aF),I.b1,I.len⟩
def AQ(I:aS (vp X E<|X.gD++ae) Gd O H s):aS X ae O H s :=
 ⟨⟨I.ok.mod,I.ok.kind,I.ok.glob,I.ok.blt,I.ok.above,I.ok.inj,I.ok.has,I.ok.rj,I.ok.hd,I.ok.frames,I.ok.sR,I.ok.sS,I.ok.bs,I.ok.mW,I.ok.rR,I.ok.rS,I.ok.kF,I.ok.o3⟩,I.os,I.ft,I.V,I.loc,I.cell,I.free,I.kK,λp aF=>I.pin p<|pO _ aF,I.b1,I.len⟩
def QU(I:aS X ae O H s)(v:mt)(a7:∀p∈q,s.heap.get? p.1=J p.2/\H p.1=C/\p.1≠X.I.locals/\p.1∉X.cm/\∀v,p.2.d≠.cell v):aS (vo X v<|X.gD++q) ae O H s :=
 ⟨⟨I.ok.mod,I.ok.kind,I.ok.glob,I.ok.blt,I.ok.above,I.ok.inj,I.ok.has,I.ok.rj,λz=>(nomatch z),I.ok.frames,I.ok.sR,I.ok.sS,I.ok.bs,I.ok.mW,I.ok.rR,I.ok.rS,I.ok.kF,I.ok.o3⟩,I.os,I.ft,I.V,I.loc,I.cell,I.free,I.kK,
  λp aF=>by
   have aF:p∈(X.gD++q)++ae:=aF;rcases hR.mp aF with z|z
   ·rcases hR.mp z with z|z
    ·exact I.pin p<|pO _ z
    ·exact a7 p z
   ·exact I.pin p<|l3 _ z,I.b1,I.len⟩
def ac7(ok:X.Ok)(I:aS (vo X v<|X.gD++q) ae O H s):aS X ae O H s :=
 ⟨ok,I.os,I.ft,I.V,I.loc,I.cell,I.free,I.kK,λp aF=>I.pin p (by
  show p∈(X.gD++q)++ae;rcases hR.mp aF with z|z
  ·exact pO _<|pO _ z
  ·exact l3 _ z),I.b1,I.len⟩
def akG(x:Exc Y0 (vp X E<|X.gD++ae) Gd aj s e aN):Exc Y0 X ae aj s e aN:=by obtain⟨O,lK,sc,h,I,r⟩:=x;exact⟨O,lK,sc,h,AQ I,r⟩
def Exc.inv(x:Exc Y0 X ae aj s e aN):∃O oe,aS X ae O aj s/\s.heap.get? e=J oe/\oe.cls=.ref aN/\aj e=C/\e≠X.I.locals/\e∉X.cm/\(∀v,oe.d≠.cell v)/\oe.dict=C/\∃ah t,oe.d=.fields ah/\ah[0]?=J (.ref t):=by
 obtain⟨O,lK,sc,h,I,os,ft,u,b1,bp⟩:=x;rcases bp with⟨rfl,B,t,bG,b8,mV⟩|⟨z,_⟩
 ·have cO:aS X ae O aj s:=I.Gf os u b1 ft λb z=>absurd z Z7;obtain⟨oe,ah,aX,bb,cK,fW⟩:=bG.first;have nG:e∉hc X.stack:=λz=>by obtain⟨_,o,aZ,hd⟩:=cO.stack.mem z;rw[aX]at aZ;exists aZ;exact hd ah cK
  have zl:e≠X.I.locals:=λz=>by obtain⟨m,⟨o,es,ep,aZ,hd,_⟩,_⟩:=cO.loc;rw[<-z,aX]at aZ;exists aZ;rw[cK]at hd;exists hd
  have ac8:e∉X.cm:=λz=>by obtain⟨_,o,aZ,hd⟩:=cO.kF.mem z;rw[aX]at aZ;exists aZ;exact hd ah cK
  have bz:aj e=C:=by
   cases z:aj e with
   |none=>rfl
   |some y =>
    have:=b8 e oe aX nG (.inl<|by rw[z];simp);rw[bG.2.1]at this;exists this
  exact⟨O,oe,cO,aX,bb,bz,zl,ac8,(λv z=>by rw[cK]at z;exists z),mV oe aX,ah,t,cK,fW⟩
 ·exists z
def amr(qc:X.stack=X.I::cj)(hf:X.I.frame=J X.I.locals)(dt:A.frames=J X.stack)(x:Exc Y0 X ae aj s e aN)(a7:∀s3,Exc Y0 X ae aj s3 e aN->Q () s3) :
  bl Z2 A (noteFrame (.ref e) X.I) (λ_ s2=>bl Z2 A' (setFlight (.ref e) C) Q oX s2) E s:=by
 obtain⟨O,lK,sc,h,I,os,ft,u,b1,bp⟩:=x;rcases bp with⟨rfl,B,t,bG,b8,mV⟩|⟨z,_⟩
 ·have mR:=Kj I u;obtain⟨bJ,qC,_⟩:=bG.there;rw[qc]at dt;have Ey:=bG;rw[qc]at Ey;refine hk (QP.any (wpAny_looks_onW (Q:=λ_ lb=>∃h',lb={ s with heap:=h'}/\Heap.HeldW B (X.I::cj) e ZI (.ref t) X.I.locals h'/\s.heap.UpToSlots h') (E:=λ_ _=>False) dt hf Ey λh' f2 up=>⟨h',rfl,f2,up⟩)) (λ_ lb ⟨⟨h',aX,f2,up⟩,hd⟩=>?_) λ_ _ z=>z.1.elim;subst aX;refine hk (Ki.any (wpAny_landsW (Q:=λ_ s3=>∃eh,s3={ s with heap:=eh}/\Heap.FlyingW B (X.I::cj) e ZI (.ref t) eh/\h'.UpToSlots eh) (E:=λ_ _=>False) f2 λeh en vq=>⟨eh,rfl,en,vq⟩)) (λ_ s3 ⟨⟨eh,aX,en,vq⟩,Kk⟩=>?_) λ_ _ z=>z.1.elim;subst aX;obtain⟨f9,yi,ky⟩:=Mj u b1 b8 en.1 (up.trans vq) mR;refine a7 _ ⟨O,lK,sc,eh,I,os,ft,f9,yi,.inl ⟨rfl,B,t,?_,ky,λo q=>((hd.trans Kk).get qC q).trans (mV bJ qC)⟩⟩;rw[qc];exact en
 ·exists z
def ac9(x:Exc Y0 X ae aj s e aN)(a7:∀s3,Exc Y0 X ae aj s3 e aN->Q () s3):bl Z2 A (setFlight (.ref e) C) Q E s:=by
 obtain⟨O,lK,sc,h,I,os,ft,u,b1,bp⟩:=x;rcases bp with⟨rfl,B,t,bG,b8,mV⟩|⟨z,_⟩
 ·have mR:=Kj I u;obtain⟨bJ,qC,_⟩:=bG.there;refine hk (Ki.any (lands_againW (Q:=λ_ s3=>∃eh,s3={ s with heap:=eh}/\Heap.FlyingW B X.stack e ZI (.ref t) eh/\s.heap.UpToSlots eh) (E:=λ_ _=>False) bG λeh en vq=>⟨eh,rfl,en,vq⟩)) (λ_ s3 ⟨⟨eh,aX,en,vq⟩,Kk⟩=>?_) λ_ _ z=>z.1.elim;subst aX;obtain⟨f9,yi,ky⟩:=Mj u b1 b8 en.1 vq mR;exact a7 _ ⟨O,lK,sc,eh,I,os,ft,f9,yi,.inl ⟨rfl,B,t,en,ky,λo q=>(Kk.get qC q).trans (mV bJ qC)⟩⟩
 ·exists z
end
structure tQ (K:W.Frag) (aN D:Addr):Prop where
 sub:W.subIn K ZI (.ref D)=J Y0
structure Clause (K:W.Frag) (D:Addr):Prop where
 aD:W.instIn K (.ref D) (.type "tuple")=J Y1
 cls:(W.clsIn K D).isSome=Y0
 base:W.subIn K (.ref D) (.type "BaseException")=J Y0
def ada{K:W.Frag}{M:Model}{A:dI}{E:mt->aR->Prop}{s:aR}{Q:Bool->aR->Prop}{e aN D:Addr}{oe:Obj}(fl:K.In s.D)(he:s.heap.get? e=J oe)(aT:oe.cls=.ref aN)(cl:Clause K D)(bx:tQ K aN D)(a7:Q Y0 s):bl M A (excMatches (.ref e)<|.ref D) Q E s:=by
 have HX:=W.looks_instIn (M:=M) fl cl.aD;have bj:=W.looks_subIn (M:=M) fl cl.V;have CF:=W.looks_subIn (M:=M) fl bx.sub;have NN:W.Looks M s.D (isType<|.ref D) Y0:=by
  obtain⟨cd,q⟩:=yI.mp cl.cls;unfold W.clsIn at q;split at q
  ·rename_i aZ;intro A' e9 oX s' k eN;unfold isType loadHead;exact a8<|wpAny_loadPart (k _ _<|fl _ _ aZ)<|bZ eN
  ·exists q
 have Wx:W.Looks M s.D (typeOf<|.ref e) ZI:=aT▸(W.Looks.ld he).andThen .now;have Wy:W.Looks M s.D (isExcClass<|.ref D) Y0:=by unfold isExcClass;refine NN.andThen ?_;simp only[if_true];exact bj
 unfold excMatches
 repeat (first|(with_reducible refine HX.here ?_)|(with_reducible refine Wy.here ?_)|(with_reducible refine Wx.here ?_)|(with_reducible refine CF.here ?_)|wp_step)
 exact a7
section
variable {X:bI}{tw:Addr}{ae:List Z1}{O:St}{H aj:aJ}{s:aR}
def name_goes{i:Nat}(I:aS X ae O H s)(dK:X.N.Nodup)(hi:X.N[i]?=J x)(aW:X.env.scope.names.lookup x=J .local)
  (h:∀s',aS X ae (O.set i C) H s'->Q () s'):bl M A (do bindName X.I x .none;unbindBehindTheSuite X.I x pos) Q E s:=by
 obtain⟨m,bz,aB⟩:=id I.loc;have LP:(X.I.Y.kind==.class||(X.I.Y.kind==.module&&X.I.locals != X.I.globals))=Y1:=by rw[I.ok.kind];rfl
 have o4:=I.o4;refine wpAny_nameGoes_keeps aW bz LP λh' v Iz aP=>?_;obtain⟨Ni,_,_,xb,_⟩:=id bz;have zl:∀b o,X.cD.heap.get? b=J o->b≠X.I.locals:=λb o e=>bv<|d5 (d6 e) I.ok.above;refine h _ ⟨I.ok,I.os,I.ft,⟨λb o e n aq av=>(aP.2 b<|zl b o e).trans (I.base.keep b o e n aq av),λb o e n aq av=>?_,I.V.free,λb o e av=>?_,I.V.pC,I.V.od⟩,⟨_,Iz,λj y hT az au a6=>?_⟩,λy c e=>?_,I.free,I.kK,λp aF=>?_,λb bJ e=>?_,by simpa using I.len⟩
 ·obtain⟨cX,az⟩:=I.base.slot b o e n aq av;exact⟨cX,(aP.2 b<|zl b o e).trans az⟩
 ·obtain⟨dh,az⟩:=I.base.there b o e av;exact⟨dh,(aP.2 b<|zl b o e).trans az⟩
 ·have bU:j≠i:=λz=>by subst z;rw[yt]at au;simp only[if_true]at au;split at au<;>exists au
  rw[GL<|Ne.symm bU]at au;obtain⟨fu,b5,q⟩:=aB j y hT az au a6;refine⟨fu,b5,?_⟩;rcases q with⟨k,e⟩|⟨k,c,e,z⟩
  ·have vk:y≠x:=λe=>bU<|Dn dK az<|e▸hi;exact .inl ⟨k,by simp[vk,e]⟩
  ·exact .inr ⟨k,c,e,z.sameBut aP<|o4 y c e⟩
 ·obtain⟨fT,z⟩:=I.cell y c e;exact⟨fT,z.sameBut aP<|o4 y c e⟩
 ·obtain⟨e,n,ne,nG,d⟩:=I.pin p aF;exact⟨(aP.2 p.1 ne).trans e,n,ne,nG,d⟩
 ·exact(I.b1 b bJ e).pB (λfT q=>(aP.2 b<|by rintro rfl;rw[I.free]at e;cases e).trans q)
def dr.blank{K:W.Frag}{B:aJ}{S:bE}{n n':Nat}{O U':St}{H aj:aJ}(R:dr K B tw S n O H)(aB:U'.H=S.H)(x:dn tw B aj)(y:df tw n' aj):dr K B tw (List.replicate S.H C) n' U' aj:=by
 have no:∀(i:Nat) (p:T×bo),(List.replicate S.H (C:Option ZJ))[i]?≠J (J p):=λi p z=>by rw[BP]at z;split at z<;>exists z
 exact⟨x,y,R.lh,by rw[ow,aB],λi t e=>(no i _ e).elim,λi t e=>(no i _ e).elim,λi t e=>(no i _ e).elim,λi t e=>(no i _ e).elim,λi j t t' a e=>(no i _ e).elim⟩
inductive ni (X:bI) (D:Addr):List Nat->Prop
 |nil:ni X D []
 |cons {c:Nat} {cs:List Nat} {aN:Addr}:X.a3 (o8 c)=J ZI->tQ X.K aN D->ni X D cs->ni X D (c::cs)
theorem ni.at:∀{cs:List Nat},ni X D cs->∀{c:Nat} {aN:Addr},c∈cs->X.a3 (o8 c)=J ZI->tQ X.K aN D
 |_,.cons hm bx r,c,aN,aT,e=>by
  rcases d4.mp aT with rfl|aT
  ·rw[hm]at e;exists e;exact bx
  ·exact ni.at r aT e
def ai1{n:Nat}(jD:X.stack=X.I::cj)(hf:X.I.frame=J X.I.locals)(aq:∀E p,h1 (vp X E p) tw body b)(AP:∀E p,lq Y0 (vp X E p) tw body eX)
  (I:aS X ae O H s) (R:dr X.K B tw S n O H)
  (af:eX S n=C->∃f S' n',b S n=J (f,S',n')/\KF X.K B tw f S' n' D H)
  (ak:∀c aM,eX S n=J (c,aM)->∀e aN aj s3,Exc Y0 X ae aj s3 e aN->eJ H aj->dn tw B aj->df tw aM aj->X.a3 (o8 c)=J ZI->bl Z2 X.A (handleBy (.ref e) X.I [hd]) (oL X ae D) X.cv s3) :
  bl Z2 X.A (exec (.Try body [hd] [] [] pos) X.I) (oL X ae D) X.cv s:=by
 refine wpAny_Try_except ?_;have go:∀w1:mt->aR->Prop,(∀c aM,eX S n=J (c,aM)->∀e aN aj s',Exc Y0 X ae aj s' e aN->eJ H aj->dn tw B aj->df tw aM aj->X.a3 (o8 c)=J ZI->w1 (.ref e) s')->bl Z2 X.A (execs body X.I) (λf dN=>match f with|.next=>bl Z2 X.A (execs [] X.I) (oL X ae D) X.cv dN|f=>oL X ae D f dN) w1 s:=λw1 zk=>by
  have bf:=amq I w1;cases av:eX S n with
  |none =>
   obtain⟨f,S',n',e,k⟩:=af av;refine b2 (aq w1 (X.gD++ae) B S n f S' n' e [] s O H D bf ⟨R,k⟩) λbG s1 q=>?_;cases bG with
   |next=>obtain⟨U',aj,cO,q⟩:=q;exact yS ⟨U',aj,AQ cO,q⟩
   |brk=>obtain⟨U',aj,cO,q⟩:=q;exact⟨U',aj,AQ cO,q⟩
   |cont=>obtain⟨U',aj,cO,q⟩:=q;exact⟨U',aj,AQ cO,q⟩
   |ret u=>obtain⟨v,U',aj,cO,r,q⟩:=q;exact⟨v,U',aj,AQ cO,r,q⟩
  |some r =>
   obtain⟨c,aM⟩:=r;refine b2 (AP w1 (X.gD++ae) B S n c aM av [] s O H { bD:=λ_ _=>False,aV:=λ_ _=>False} bf ⟨R,λGd e aN aj s' x f1 f2 en f4=>zk c aM av e aN aj s' (akG x) f1 f2 en f4⟩) λbG s1 q=>?_;cases bG with
   |next=>obtain⟨U',aj,cO,q⟩:=q;exact q.elim
   |brk=>obtain⟨U',aj,cO,q⟩:=q;exact(show False from q).elim
   |cont=>obtain⟨U',aj,cO,q⟩:=q;exact(show False from q).elim
   |ret u=>obtain⟨v,U',aj,cO,r,q⟩:=q;exact q.elim
 exact go _ λc aM av e aN aj s' x f1 f2 en f4=>amr jD hf I.ok.frames x λs3 bY=>ak c aM av e aN aj s3 bY f1 f2 en f4
def Uy(X:bI)(tw:Addr)(i:Nat)(Gl:List Stmt)(cs:List Nat)(h:Nat->Option T):Prop:=∀c t,c∈cs->h c=J t->∀aN,X.a3 (o8 c)=J ZI->∀(e:Addr) (oe:Obj),oe.cls=.ref aN->oe.dict=C->(∃ah,oe.d=.fields ah) ->
 ∃cE:bw,h1 (vo X (.ref e)<|X.gD++[(e,oe)]) tw Gl cE/\∀n,∃S',cE ((List.replicate X.N.H C).set i (J (.bJ e,.ag))) n=J (.aV t Y1,S',n)
def akH(i:Nat){body Gl:List Stmt}{NO:Stmt}{cs:List Nat}{b:bw}{eX:dm}{h:Nat->Option T}{D nm:Str}{gh:Addr}{q2 aF pos:Pos}{cj:List Env}(jD:X.stack=X.I::cj)(hf:X.I.frame=J X.I.locals)(aq:∀E p,h1 (vp X E p) tw body b)(AP:∀E p,lq Y0 (vp X E p) tw body eX)
  (ak:Uy X tw i (NO::Gl) cs h) (gW:X.a3 D=J (.ref gh)) (cl:Clause X.K gh) (nS:ni X gh cs) (dK:X.N.Nodup) (hi:autoParam (X.N[i]?=J nm) bu) (aW:autoParam (X.env.scope.names.lookup nm=J .local) bu) (bT:autoParam (fv X D) bu) (fQ:autoParam ((D==("__debug__" : Str))=Y1) eM) :
  gX X tw (.Try body [.ExceptHandler (J<|.Name D q2) (J nm) (NO::Gl) aF] [] [] pos) (z0 cs b eX h):=by
 intro B S n f S' n' hd ae s O H CG I ⟨R,k⟩;unfold z0 at hd;refine ai1 jD hf aq AP I R (λe=>?_) λc aM av e aN aj s3 x f1 f2 en f4=>?_
 ·rw[e]at hd;exact⟨f,S',n',hd,k⟩
 ·rw[av]at hd;have hd:(if c∈cs then(h c).map λt=>(hG.aV t Y1,S,aM) else C)=J (f,S',n'):=hd;by_cases aT:c∈cs
  ·rw[Y2 aT]at hd;obtain⟨t,az,au⟩:=dw hd;cases au;obtain⟨U3,oe,fU,aX,bb,cK,fW,hV,Nj,_⟩:=x.inv;have Wz:aS (vo X (.ref e)<|X.gD++[]) ae U3 aj s3:=QU fU _ λp aF=>absurd aF Z7;refine wpAny_handleBy_cons (codeAny_handlers_test<|uV Wz bT gW ?_ fQ) (by intro z;cases z);refine ada (M:=bg X.R X.w) fU.hK aX bb cl (nS.at aT f4) ?_;refine codeAny_handlers_suite_as (ac9 x λs4 ct=>?_);obtain⟨U4,EB,hb,dC,c7,jA,sJ,CI,WA,WB,ah,tt,WC,anH⟩:=ct.inv;obtain⟨cE,g1,g2⟩:=ak c t aT az aN f4 e EB c7 WB ⟨ah,WC⟩;obtain⟨S2,g2⟩:=g2 n'
   have WD:aS (vo X (.ref e)<|X.gD++[(e,EB)]) ae U4 aj s4:=QU hb _ (λp aF=>by
    have:p=(e,EB):=by simpa using aF
    subst this
    exact⟨dC,jA,sJ,CI,WA⟩)
   have aB:U4.H=S.H:=by rw[hb.len,R.len,I.len]
   have vr:X.N.H=S.H:=by rw[R.len,I.len]
   refine IB (X:=vo X (.ref e)<|X.gD++[(e,EB)]) (v:=.ref e) WD dK hi (.inl aW) rfl (λs5 WE=>?_)<|.inr aW;have zc:dr X.K B tw (List.replicate S.H C) n' U4 aj:=R.blank aB f2 en;have HM:=zc.pG (i:=i) (t:=.bJ e) (v:=.ref e) (by rw[aI]);rw[vr]at g2;refine hk (g1 B _ n' (.aV t Y1) S2 n' g2 ae s5 _ aj { bD:=λ_ _=>False,aV:=CG.aV} WE ⟨HM,k.b0 f1⟩) (λbG jw q=>?_) λ_ _ z=>False.elim z;cases bG with
   |next=>obtain⟨U',aj,cO,q⟩:=q;exact q.elim
   |brk=>obtain⟨U',aj,cO,q⟩:=q;exact(show False from q).elim
   |cont=>obtain⟨U',aj,cO,q⟩:=q;exact(show False from q).elim
   |ret u =>
    obtain⟨v,U',ee,cO,r,q⟩:=q;exact name_goes (ac7 I.ok cO) dK hi aW λoP WG=>⟨v,_,ee,WG,r,q⟩
  ·rw[Y3 aT]at hd;exists hd
end
structure lU (K:W.Frag) (aN:Addr):Prop where
 cls:(W.clsIn K aN).isSome=Y0
 ga:W.findIn K ZI "__getattribute__" = J (J<|.builtin "BaseException.__getattribute__")
 gt:W.findIn K ZI "__getattr__" = J C
 cl:W.findIn K ZI "__class__" = J (J<|.builtin "object.__class__")
 get:W.specialIn K (.builtin "object.__class__") "__get__" = J (J<|.builtin "getset_descriptor.__get__")
 bx:W.takesIn K (.builtin "object.__class__")=J Y0
 be:W.subIn K ZI (.type "BaseException")=J Y0
 bJ:W.mroIn K aN (.type "object")=J Y0
section
variable {K:W.Frag}{x aN:Addr}{CJ:Obj}
def ai2(X:lU K aN)(fl:K.In h):W.Looks M h (isType ZI) Y0:=by
 obtain⟨cd,q⟩:=yI.mp X.cls;unfold W.clsIn at q;split at q
 ·rename_i aZ;intro A' e9 oX s' k eN;unfold isType loadHead;exact a8<|wpAny_loadPart (k _ _<|fl _ _ aZ)<|bZ eN
 ·exists q
def QV(X:lU K aN):W.findObj K aN C "__class__" = J (.bind (.builtin "getset_descriptor.__get__")<|.builtin "object.__class__"):=by obtain⟨cd,q⟩:=yI.mp X.cls;unfold W.findObj;rw[q,eO,X.cl,eO];have az:=X.get;have au:=X.bx;show(Option.bind (W.specialIn K (.builtin "object.__class__") "__get__") _)=_;rw[az,eO];show(Option.bind (W.takesIn K<|.builtin "object.__class__") _)=_;rw[au];rfl
def adb(X:lU K aN){prog:dx}{w:c3}{A:dI}{E:mt->aR->Prop}{bp:Heap}{g:Array GenState}{d:Drawn}{t:Nat}{os:OsState}{bx:Tok}{Q:Fin->aR->Prop}(fl:K.In bp)(I:W.InstAt bp x CJ aN C)(a7:Q (.done<|.ret ZI) ⟨bp,g,d,t,os⟩) :
  bl Z9 A (Builtin.«object.__getattribute__» ⟨[.ref x,.str "__class__" bx],[]⟩) Q E ⟨bp,g,d,t,os⟩:=by
 have CK:=I.type (M:=bg prog w);have CF:=W.looks_find (M:=bg prog w) fl I<|QV X;refine a8 (m:=slotArgs "__getattribute__" 1 ⟨[.ref x,.str "__class__" bx],[]⟩)<|bZ<|a8<|bZ<|a8<|CK.at<|a8<|CF.at ?_;show bl _ _ (Builtin.ObjectAttr.bindTo (.builtin "getset_descriptor.__get__") (.builtin "object.__class__") (.ref x) ZI) _ _ _;show bl _ _ (oI [.builtin "object.__class__"] (call (.builtin "getset_descriptor.__get__") [.builtin "object.__class__",.ref x,.ref aN]) >>= ret) _ _ _;exact a8<|jr<|ui<|W.class_get (s:=⟨bp,g,d,t,os⟩) fl I X.bJ<|bZ a7
def ams(X:lU K aN){prog:dx}{w:c3}{A:dI}{bp:Heap}{g:Array GenState}{d:Drawn}{t:Nat}{os:OsState}{bx:Tok}{R:sr->aR->Prop}(fl:K.In bp)(I:W.InstAt bp x CJ aN C)(a7:R (.ok<|.ret ZI) ⟨bp,g,d,t,os⟩) :
  kk Z9 A (.call (.builtin "BaseException.__getattribute__") ⟨[.ref x,.str "__class__" bx],[]⟩) R ⟨bp,g,d,t,os⟩:=by
 have aW:builtinKind "BaseException.__getattribute__" = J .slot:=by decide+kernel
 have aP:splitId "BaseException.__getattribute__" = J ("BaseException","__getattribute__"):=by decide+kernel
 have L:W.Looks Z9 bp (isInstance (.ref x)<|.type "BaseException") Y0:=(I.type (M:=bg prog w)).andThen (W.looks_subIn fl X.be);have bT:qZ "BaseException.__getattribute__" ⟨.ref x::[.str "__class__" bx],[]⟩:=PySem.F.args_bexc_ga (.ref x) _;refine Hi PySem.F.attrBase_ValueError.ga.plain PySem.F.entry_bexc_ga ?_;refine W.check_slot (i:="BaseException.__getattribute__") (owner:="BaseException") (n:="__getattribute__") (self:=.ref x) (rest:=[.str "__class__" bx]) (kw:=[]) aW aP L bT ?_;exact adb X fl I a7
def ade(X:lU K aN)(fl:K.In s.D)(I:W.InstAt s.D x CJ aN C)(a7:Q (J ZI) { s with toks:=s.toks+1}) :
  bl Z9 A (getAttr? (.ref x) "__class__") Q E s:=by
 obtain⟨bp,g,d,t,os⟩:=s;have CK:=I.type (M:=bg prog w);have HX:=W.looks_findIn (M:=bg prog w) fl X.ga;have bj:=W.looks_findIn (M:=bg prog w) fl X.gt;have CF:=W.looks_find (M:=bg prog w) fl I<|QV X;have NN:W.Looks Z9 bp (isInstance (.ref x)<|.type "BaseException") Y0:=CK.andThen<|W.looks_subIn fl X.be;have QD:(Value.builtin "BaseException.__getattribute__" == Value.builtin "object.__getattribute__")=Y1:=by decide+kernel
 unfold getAttr? getAttrBy? getAttrBy;refine a8<|wpAny_mkText<|a8<|wA<|jr<|a8<|CK.at<|a8<|HX.at ?_;dsimp only;rw[QD,wx];simp only[jo,if_false];unfold getAttrByItsOwn hookBefore;refine a8 ?_;rw[Y2 (show onTheHeap (Value.ref aN)=Y0 from rfl)];refine bj.at ?_;refine a8<|wA<|jr ?_;unfold callGetattribute;simp only[sf,jo,if_false];unfold boundAndCalled;have en:=PySem.F.attrBase_ValueError.ga.bind<|.ref x;refine a8 ?_;rw[en];refine bZ ?_;exact ui<|ams X fl I<|W.handed_on rfl<|bZ a7
def akI(X:lU K aN):W.KitX K (.ref x) ZI (λh=>W.InstAt h x CJ aN C) where
 ty:=λ_ _ _ I=>I.type
 it:=λ_ _ fl _=>ai2 X fl
 ne:=λh tp dd a5 n cX fl adf=>by
  obtain⟨cd,q⟩:=yI.mp X.cls;refine Bool.eq_false_iff.mpr λz=>?_;have e:aN=tp:=Value.ref.inj<|beq_iff_eq.mp z;subst e;unfold W.clsIn at q;split at q
  ·rename_i aZ;have z:=(fl _ _ aZ).symm.trans adf
   exists z
  ·exists q
 ca:=λfl I k=>ade X fl I k
end
section
variable {X:bI}{tw:Addr}
def akJ{e n:Nat}{b:Bool}(h:m1 e b n [t]=J r):t=.bJ e/\r=(.aC b,.ag):=by
 cases t with
 |bJ y =>
  have h:(if y=e then J (T.aC b,bo.ag) else C)=J r:=h;by_cases z:y=e
  ·rw[Y2 z]at h;exists h;exact⟨by rw[z],rfl⟩
  ·rw[Y3 z]at h;exists h
 |_=>exists h
def Ve{e aN:Addr}{oe:Obj}{ev:Expr}{b:Bool}{d:bM}{x:Str}{w2:mt}{p gN pos:Pos}(aF:(e,oe)∈X.gD)(aT:oe.cls=.ref aN)(qD:oe.dict=C)(bS:∃ah,oe.d=.fields ah)(iQ:lU X.K aN)(h:bF X tw ev d)(aW:W.kitOne X.K ZI w2=J b)(hm:X.a3 "isinstance" = C)
  (ld:∀{ae:List Z1} {s:aR} {O:St} {H:aJ} {Q:mt->aR->Prop},aS X ae O H s->Q w2 s->bl Z2 X.A (eval (.Name x gN) X.I) Q X.cv s) (bT:fv X "isinstance")
  (he:b4 [ev,.Name x gN] X.I=(Y1,eval ev X.I)::b4 [.Name x gN] X.I) (lk:b4 [.Name x gN] X.I=(Y1,eval (.Name x gN) X.I)::b4 [] X.I) (eS:(ff pos<|b4 [.Name x gN] X.I).any (·.1)=Y1) (aq:l8 "isinstance" = J (.builtin "isinstance")) :
  bF X tw (.Call (.Name "isinstance" p) [ev,.Name x gN] [] pos) (aH (m1 e b)<|aa d ar):=by
 intro B S n t m n' hd ae s O H Q I ⟨R,md⟩;obtain⟨t0,m0,f1,a6⟩:=DJ hd;have⟨dR,hE⟩:=akJ (show m1 e b n' [t0]=J (t,m) from a6)
 exists hE
 subst dR;refine l7<|la I bT hm aq ?_;refine PyProof.Rows.callWith_builtin1 ?_ he eS;rw[he];refine ia (b2 (h.run f1 I R) λu s1 ⟨v,H1,bf,bA,a1,bt,b6⟩=>?_);rw[lk];refine ia<|ld bf ?_;refine l6 ?_;have aV:aI tw H1 (.bJ e) v:=b6.root bt R.aQ;rw[aI]at aV;subst aV;obtain rfl:u=Value.ref e:=bA;have q:=(bf.pin (e,oe)<|pO _ aF).1;obtain⟨ah,bS⟩:=bS;have cO:W.InstAt s1.D e oe aN C:=⟨q,aT,by unfold W.notCls;rw[bS],by rw[qD];trivial⟩
 refine W.kia_one (akI iQ) bf.hK cO aW (λz=>nomatch z) λbx=>?_;exact⟨.aC b,H1,bf.tok bx,rfl,md _ H1 a1 bt.aQ<|by show aI tw H1 (.aC b) _;rw[aI]⟩
def xN{e aN D:Addr}{oe:Obj}{ev:Expr}{b:Bool}{d:bM}{x:Str}{p gN pos:Pos}(aF:(e,oe)∈X.gD)(aT:oe.cls=.ref aN)(qD:oe.dict=C)(bS:∃ah,oe.d=.fields ah)(iQ:lU X.K aN)(h:bF X tw ev d)(aW:W.kitOne X.K ZI (.ref D)=J b)(hm:X.a3 "isinstance" = C)(gW:X.a3 x=J (.ref D))
  (bT:autoParam (fv X "isinstance") bu) (Kl:autoParam (fv X x) bu) (fQ:autoParam ZH eM)
  (he:autoParam (b4 [ev,.Name x gN] X.I=(Y1,eval ev X.I)::b4 [.Name x gN] X.I) bu) (lk:autoParam (b4 [.Name x gN] X.I=(Y1,eval (.Name x gN) X.I)::b4 [] X.I) bu) (eS:autoParam ((ff pos<|b4 [.Name x gN] X.I).any (·.1)=Y1) bu) (aq:autoParam (l8 "isinstance" = J (.builtin "isinstance")) az11._auto_1) :
  bF X tw (.Call (.Name "isinstance" p) [ev,.Name x gN] [] pos) (aH (m1 e b)<|aa d ar) :=
 Ve aF aT qD bS iQ h aW hm (λI q=>uV I Kl gW q fQ) bT he lk eS aq
def ai3{e aN:Addr}{oe:Obj}{ev:Expr}{b:Bool}{d:bM}{x:Str}{TT:String}{p gN pos:Pos}(aF:(e,oe)∈X.gD)(aT:oe.cls=.ref aN)(qD:oe.dict=C)(bS:∃ah,oe.d=.fields ah)(iQ:lU X.K aN)(h:bF X tw ev d)(aW:W.kitOne X.K ZI (.type TT)=J b)(hm:X.a3 "isinstance" = C)(gW:X.a3 x=C)(adg:l8 x=J (.type TT))
  (bT:autoParam (fv X "isinstance") bu) (Kl:autoParam (fv X x) bu) (bz:autoParam (x ≠ "__name__") eM) (fQ:autoParam ZH eM)
  (he:autoParam (b4 [ev,.Name x gN] X.I=(Y1,eval ev X.I)::b4 [.Name x gN] X.I) bu) (lk:autoParam (b4 [.Name x gN] X.I=(Y1,eval (.Name x gN) X.I)::b4 [] X.I) bu) (eS:autoParam ((ff pos<|b4 [.Name x gN] X.I).any (·.1)=Y1) bu) (aq:autoParam (l8 "isinstance" = J (.builtin "isinstance")) az11._auto_1) :
  bF X tw (.Call (.Name "isinstance" p) [ev,.Name x gN] [] pos) (aH (m1 e b)<|aa d ar) :=
 Ve aF aT qD bS iQ h aW hm (λI q=>la I Kl gW adg q bz fQ) bT he lk eS aq
end
structure r2 (k:Nat) (A:dI):Prop where
 q2:A.depth+3*k+5<Hq
 un:A.units+16*k+200<iu
def eD.held{k:Nat}(r:eD k A)(v:Option mt):r2 k<|A.mark v:=⟨r.q2,r.un⟩
def r2.CB{k:Nat}(r:r2 k A):A.units+6<iu:=by have:=r.un;omega
def r2.Gx{k:Nat}(r:r2 k A):A.units<iu:=by have:=r.un;omega
def Holds(cj:List Env)(H:aJ)(h:Heap)(q:List Z1):Prop:=∀p∈q,h.get? p.1=J p.2/\H p.1=C/\p.1∉hc cj/\∀v,p.2.d≠.cell v
structure EC (P:dx) (w:c3) (K:W.Frag) (a3:Str->Option mt) (base:Heap) (k:Nat) (f:Addr) (fd:hC) (ps:List Str) (q:List Z1) (sp:kX):Prop where
 len:∀ah H Q E,sp ah H Q E->ah.H=ps.H
 run:∀(A:dI) (cj:List Env) (s:aR) (H:aJ) (args:PySem.Args) (us:List mt) (ah:List V) (Q:fg),r2 k A->yc P w K a3 base A cj s H->uk s fd args (ps.zip us)->cG ah us->Holds cj H s.D q->sp ah H Q q3 ->
  kk (bg P w) A (.call (.ref f) args) (Nl iB cj P w H s Q q3) s
noncomputable abbrev Vf(q:List Z1)(P:dx)(w:c3)(K:W.Frag)(a3:Str->Option mt)(base:Heap)(N:List Str)(qual:Str)(scope:js)(f:Addr)(cd:mt)(A:dI)(cj:List Env)(s:aR)(H:aJ):bI :=
 { jP iB P w K a3 base N qual scope f cd A cj s H q3 with calm:=Y1,gD:=q,cv:=λ_ _=>False}
def ai4{tw:Addr}{P:dx}{w:c3}{K:W.Frag}{a3:Str->Option mt}{base:Heap}{x qual:Str}{st:Stmt}{f:Addr}{fd:hC}{N ps:List Str}{lv:Nat}{b:bw}{q:List Z1}(F:qo K x qual st f fd)(cc:mG N ps<|er st)
  (kL:∀(c8:mt) (A:dI) (cj:List Env) (s:aR) (H:aJ),r2 lv (A.deeper<|i5 qual (er st) s.L f c8)->h1 (Vf q P w K a3 base N qual (er st) f c8 A cj s H) tw (ih st) b) :
  EC P w K a3 base (lv+1) f fd ps q (nZ K tw ps.H<|c0 N.H b):=by
 obtain⟨ju,hs,eB,doc,pm,an,c8,eE,ql,rfl,fN,g4⟩:=F.ex;refine⟨λah H Q E h=>h.1,λA cj s H args us ah Q aU dF aq r a7 lg=>?_⟩;obtain⟨aB,aA,n,t,m,n',a,aQ,e,k⟩:=lg;obtain⟨⟨bG,S',aM⟩,az,au⟩:=cn e;have fl:K.In s.D:=dF.mod.fl.keeps λb o z=>(dF.bs b o z).1;have nX:s.D.NoLimit:=dF.mod.nolimit.keeps λb o z=>(dF.bs b o z).1;have kinds:∀y∈ps.zip us,(er st).names.lookup y.1=J .local\/((er st).names.lookup y.1=J .cell/\((cellsFrom (s.L+1) (er st).e []).lookup y.1).isSome=Y0):=λ⟨bH,cf⟩ aK=>by
  rcases cc.par bH (BS aK).1 with z|z
  ·exact .inl z
  ·exact .inr ⟨z,W.cellsFrom_some _ _ _<|.inl z⟩
 refine codeAny_call_function (by have:=aU.q2;omega) (fl _ _ fN) rfl cc.co cc.gen rfl (W.codeRec_of fl g4)<|aq _ _ _ _ ?_;refine Nd cc.kind kinds λenv he s1 x=>?_;subst he;refine⟨nX.keeps x.toInCall.keep,codeAny_func ?_⟩;have adh:yc P w K a3 base { A with handled:=C} cj s H:=⟨dF.frames,dF.mod,dF.bs,dF.mW,dF.kF,dF.o3,dF.b1,dF.ft⟩
 have f7:aS (jP iB P w K a3 base N qual (er st) f c8 { A with handled:=C} cj s H q3) [] (start N ah) H s1:=OK cc rfl adh aB r x;have I:aS (Vf q P w K a3 base N qual (er st) f c8 A cj s H) [] (start N ah) H s1 :=
  ⟨⟨f7.ok.mod,f7.ok.kind,f7.ok.glob,f7.ok.blt,f7.ok.above,f7.ok.inj,f7.ok.has,f7.ok.rj,λz=>(nomatch z),Around.frames_deeper dF.frames,f7.ok.sR,f7.ok.sS,f7.ok.bs,f7.ok.mW,f7.ok.rR,f7.ok.rS,f7.ok.kF,f7.ok.o3⟩,f7.os,f7.ft,f7.V,f7.loc,f7.cell,f7.free,f7.kK,λp aF=>by
   obtain⟨af,ak,bc,cL⟩:=a7 p (by simpa using aF)
   exact⟨x.toInCall.keep _ _ af,ak,bv<|d5 (d6 af) f7.ok.above,bc,cL⟩,f7.b1,f7.len⟩
 have n4:r2 lv<|A.deeper<|i5 qual (er st) s.L f c8:=⟨by have:=aU.q2;show A.depth+1+3*lv+5<_;omega,by have:=aU.un;show A.units+3+16*lv+200<_;omega⟩
 have aW:KF K H tw bG S' aM { bD:=λ_ aj=>Q .br aj,aV:=Q} H:=by
  cases bG with
  |aV t0 m0=>exists au;exact λv aj _ x y z=>k v aj x y z
  |bD=>exists au;exact λU' aj _ R=>k .br aj R.ext R.aQ (by show aI tw aj .br _;rw[aI])
  |gs=>exists au
  |eE=>exists au
 refine hk (kL c8 A cj s H n4 H _ n bG S' aM az [] s1 (start N ah) H _ I ⟨Jv a aQ,aW⟩) (λWH s' aP=>?_) λ_ _ z=>False.elim z;cases WH with
 |ret u =>
  obtain⟨v,U',aj,cO,bq,q⟩:=aP;exact⟨v,aj,cO.os,cO.ft,cO.V,cO.b1,bq,q⟩
 |next =>
  obtain⟨U',aj,cO,q⟩:=aP;exact⟨.br,aj,cO.os,cO.ft,cO.V,cO.b1,rfl,q⟩
 |brk=>obtain⟨_,_,_,q⟩:=aP;exact(show False from q).elim
 |cont=>obtain⟨_,_,_,q⟩:=aP;exact(show False from q).elim
section
variable {X:bI}{tw:Addr}
def amt{f:cY}{lv:Nat}{da:Addr}{fd:hC}{ps:List Str}{x:Str}{p pos:Pos}{e:Expr}{es:List Expr}{a:iy}{dU:Nat}{q:List Z1}(F:EC X.R X.w X.K X.a3 X.V lv da fd ps q<|nZ X.K tw dU f)(aU:r2 lv X.A)(a7:∀y∈q,y∈X.gD)(jD:X.stack=X.I::X.cj)(hf:X.I.frame=J X.I.locals)(hm:X.a3 x=J (.ref da))(aW:W.keepIn X.K (.ref da)=Y0)
  (aq:Binds X.K fd ps []) (ba:SB X tw (e::es) a) (bT:autoParam (fv X x) bu) (fQ:autoParam ZH eM) (he:autoParam ZP bu)
  (eS:autoParam ((ff pos Zm).any (·.1)=Y1) bu):bF X tw Zn<|bB dU f a:=by
 intro B S n t m n' hd ae s O H Q I ⟨R,k⟩;obtain⟨⟨aA,aM⟩,az,au⟩:=cn hd;by_cases aB:aA.H=dU
 ·rw[Y2 aB]at au;obtain⟨⟨t1,cR,bC⟩,a6,bX⟩:=dw au;cases bX;refine l7<|uV I bT hm ?_ fQ;refine W.callWith_K (h₀:=X.V) I.ok.mod.fl aW (b2 (ba B S n aA aM az pos ae s O H (λah aj=>dn tw H aj/\df tw aM aj/\Args X.K tw aj aA ah) I ⟨R,λah aj x y z=>⟨x,y,z⟩⟩) λus s1 ⟨ah,H1,bf,r,bH,dB,cN⟩=>⟨bf.hK,?_⟩) he eS;have lg:nZ X.K tw dU f ah H1 Q q3:=⟨cN.H▸aB,aA,aM,t1,cR,bC,cN,dB,a6,λv ee a b c=>k v ee (bH.trans a) b<|c.base.back bH dB⟩
  have ej:us.H=ps.H:=by rw[<-r.H];exact F.len _ _ _ _ lg
  have mw:=aq s1 us bf.hK (by simpa using ej);rw[r7]at mw;have bp:Holds X.stack H1 s1.D q:=λy aK=>by
   obtain⟨af,ak,bc,cL,eh⟩:=bf.pin y<|pO _<|a7 y aK;refine⟨af,ak,λz=>?_,eh⟩;rw[jD]at z;have z:y.1∈(X.I::X.cj).filterMap (·.frame):=z;rw[r5,hf]at z;rcases d4.mp z with z|z
   ·exact bc z
   ·exact cL z
  refine ui (si (F.run X.A X.stack s1 H1 ⟨us,[]⟩ us ah _ aU bf.LV mw r bp lg) λhr s' n5=>?_);cases hr with
  |error ev=>exact False.elim n5
  |ok bG =>
   cases bG with
   |ret u=>exact bf.after n5
   |next=>exact False.elim n5
   |brk=>exact False.elim n5
   |cont=>exact False.elim n5
 ·rw[Y3 aB]at au;exists au
def mz{x:Str}{pos:Pos}{da:Addr}(hm:X.a3 x=J (.ref da))(bT:autoParam (fv X x) bu)(hd:autoParam ZH eM):bF X tw (.Name x pos) (aw<|.bJ da) :=
 yf (Ox bT hm (v:=.ref da) rfl hd) λ_=>by rw[aI]
inductive ou (X:bI) (tw:Addr):List Addr->List (Nat×cY)->Prop
 |nil:ou X tw [] []
 |cons {da:Addr} {AR:List Addr} {dU:Nat} {f:cY} {cm:List<|Nat×cY} {lv:Nat} {fd:hC} {ps:List Str}:i2 X.R X.w X.K X.a3 X.V iB lv da fd ps (nZ X.K tw dU f)->eD lv X.A->W.keepIn X.K (.ref da)=Y0->Binds X.K fd ps []->ou X tw AR cm->ou X tw (da::AR) ((dU,f)::cm)
inductive ov (X:bI) (tw:Addr):List Addr->List (Nat×e8)->Prop
 |nil:ov X tw [] []
 |cons {da:Addr} {AR:List Addr} {dU:Nat} {f:e8} {cm:List<|Nat×e8} {lv:Nat} {fd:hC} {ps:List Str}:i2 X.R X.w X.K X.a3 X.V (my X.R X.w) lv da fd ps (vn X.a3 X.K tw dU f)->eD lv X.A->W.keepIn X.K (.ref da)=Y0->Binds X.K fd ps []->ov X tw AR cm->ov X tw (da::AR) ((dU,f)::cm)
theorem ou.at:∀{as:List Addr} {cm:List (Nat×cY)},ou X tw as cm->∀{i:Nat} {g:Nat×cY},cm[i]?=J g->∃da lv fd ps,as[i]?=J da/\i2 X.R X.w X.K X.a3 X.V iB lv da fd ps (nZ X.K tw g.1 g.2)/\eD lv X.A/\W.keepIn X.K (.ref da)=Y0/\Binds X.K fd ps []
 |_,_,.cons af ak bc cL r,0,_,e=>by exists e;exact⟨_,_,_,_,rfl,af,ak,bc,cL⟩
 |_,_,.cons af ak bc cL r,i+1,_,e=>ou.at r (i:=i) (by simpa using e)
theorem ov.at:∀{as:List Addr} {cm:List (Nat×e8)},ov X tw as cm->∀{i:Nat} {g:Nat×e8},cm[i]?=J g->∃da lv fd ps,as[i]?=J da/\i2 X.R X.w X.K X.a3 X.V (my X.R X.w) lv da fd ps (vn X.a3 X.K tw g.1 g.2)/\eD lv X.A/\W.keepIn X.K (.ref da)=Y0/\Binds X.K fd ps []
 |_,_,.cons af ak bc cL r,0,_,e=>by exists e;exact⟨_,_,_,_,rfl,af,ak,bc,cL⟩
 |_,_,.cons af ak bc cL r,i+1,_,e=>ov.at r (i:=i) (by simpa using e)
theorem QW:ou X tw as cm->as.H=cm.H
 |.nil=>rfl
 |.cons _ _ _ _ r=>by rw[d9,d9,QW r]
theorem QX:ov X tw as cm->as.H=cm.H
 |.nil=>rfl
 |.cons _ _ _ _ r=>by rw[d9,d9,QX r]
theorem QY{α β:Type}{mg:bM}{cm:List<|Nat×α}{F:Nat×α->Nat->Option β}{n:Nat}{q:β}(h:(mg S n).bind (λr=>match r.1 with
  |.int i=>(u0 cm i).bind λf=>F f r.2.2
  |_=>C)=J q):∃i mk mT g,mg S n=J (.int i,mk,mT)/\0<=i/\i<cm.H/\cm[i.M]?=J g/\F g mT=J q:=by
 obtain⟨⟨bx,mk,mT⟩,dF,D1⟩:=cn h;cases bx with
 |int i =>
  obtain⟨g,ED,AS⟩:=cn D1;unfold u0 at ED;split at ED
  ·rename_i z;exact⟨i,mk,mT,g,dF,z.1,z.2,ED,AS⟩
  ·exists ED
 |_=>exists D1
def Vg{as:List Addr}{n aM:Nat}{i:Int}(aB:∀S n,l S n=J (as.map .bJ,n))(hz:as.H<=bh)(aW:mg S n=J (.int i,m,aM))(h0:0<=i)(af:i<as.H)(hf:as[i.M]?=J da) :
  aH dv (aa (dG l)<|aa mg ar) S n=J (.bJ da,.ag,aM):=by
 have az:dG l S n=J (.ao<|as.map .bJ,.aE,n):=by unfold dG;rw[aB,eO,Y2<|by rw[cP];exact hz]
 have au:gF (as.map .bJ) i=J (.bJ da):=by unfold gF;rw[Y2 h0,Y2 (by rw[cP];exact af),kg,hf];rfl
 unfold aH aa;rw[az,eO];show(((Option.bind (mg S n) _).map _).bind _)=_;rw[aW];show((gF (as.map .bJ) i).map _).map _=_;rw[au];rfl
def Vh{sub e:Expr}{es:List Expr}{pos:Pos}{l:gh}{as:List Addr}{mg:bM}{cm:List<|Nat×cY}{a:iy}(aP:bF X tw sub<|aH dv<|aa (dG l)<|aa mg ar)(aB:∀S n,l S n=J (as.map .bJ,n))(hz:as.H<=bh)(ok:ou X tw as cm)(ba:SB X tw (e::es) a)
  (aT:autoParam (eval (.Call sub (e::es) [] pos) X.I=(do callWith pos (<-eval sub X.I) [] (ff pos<|b4 (e::es) X.I) (uj pos<|uh [] X.I))) bu) (he:autoParam ZP bu) (eS:autoParam ((ff pos Zm).any (·.1)=Y1) bu) :
  bF X tw (.Call sub (e::es) [] pos) (ye mg cm a):=by
 intro B S n t m n' hd ae s O H Q I ⟨R,k⟩;obtain⟨i,mk,mT,g,dF,h0,af,bT,AS⟩:=QY (F:=λf mT=>bB f.1 f.2 a S mT) hd;obtain⟨da,lv,fd,ps,AU,F,aU,aW,aq⟩:=ok.at bT;have xO:=Vg aB hz dF h0 (by rw[QW ok];exact af) AU;obtain⟨⟨aA,aM⟩,az,au⟩:=cn AS;have vr:aA.H=g.1:=by
  by_cases z:aA.H=g.1
  ·exact z
  ·rw[Y3 z]at au;exists au
 rw[Y2 vr]at au;obtain⟨⟨t1,cR,bC⟩,a6,bX⟩:=dw au;cases bX;show bl _ _ (eval (.Call sub (e::es) [] pos) X.I) _ _ s;rw[aT];refine a8 (b2 (aP.run xO I R) λu s0 ⟨v,ht,f7,jx,iS,ko,hv⟩=>?_);have aV:aI tw ht (.bJ da) v:=hv;rw[aI]at aV;subst aV;obtain rfl:u=Value.ref da:=jx;refine W.callWith_K (h₀:=X.V) I.ok.mod.fl aW (b2 (ba B S mT aA aM az pos ae s0 O ht (λah aj=>dn tw ht aj/\df tw aM aj/\Args X.K tw aj aA ah) f7 ⟨ko,λah aj x y z=>⟨x,y,z⟩⟩) λus s1 ⟨ah,H1,bf,r,bH,dB,cN⟩=>⟨bf.hK,?_⟩) he eS;refine UP (E:=q3) F aU aq .nil Un bf r ?_;rw[r7];exact⟨cN.H▸vr,aA,aM,t1,cR,bC,cN,dB,a6,λv ee a b c=>k v ee ((iS.trans bH).trans a) b<|c.base.back (iS.trans bH) dB⟩
def Vi{bG:Bool}{sub e:Expr}{es:List Expr}{pos:Pos}{l:gh}{as:List Addr}{mg:bM}{cm:List<|Nat×e8}{a:iy}(aP:bF X tw sub<|aH dv<|aa (dG l)<|aa mg ar)(aB:∀S n,l S n=J (as.map .bJ,n))(hz:as.H<=bh)(ok:ov X tw as cm)(ba:SB X tw (e::es) a)
  (aT:autoParam (eval (.Call sub (e::es) [] pos) X.I=(do callWith pos (<-eval sub X.I) [] (ff pos<|b4 (e::es) X.I) (uj pos<|uh [] X.I))) bu) (he:autoParam ZP bu) (eS:autoParam ((ff pos Zm).any (·.1)=Y1) bu) :
  kn bG X tw (.Call sub (e::es) [] pos) (F3 mg cm a):=by
 intro B S n c n' hd ae s O H Q I ⟨R,k⟩;obtain⟨i,mk,mT,g,dF,h0,af,bT,AS⟩:=QY (F:=λf mT=>d1 f.1 f.2 a S mT) hd;obtain⟨da,lv,fd,ps,AU,F,aU,aW,aq⟩:=ok.at bT;have xO:=Vg aB hz dF h0 (by rw[QX ok];exact af) AU;obtain⟨⟨aA,aM⟩,az,au⟩:=cn AS;have vr:aA.H=g.1:=by
  by_cases z:aA.H=g.1
  ·exact z
  ·rw[Y3 z]at au;exists au
 rw[Y2 vr]at au;show bl _ _ (eval (.Call sub (e::es) [] pos) X.I) _ _ s;rw[aT];refine a8 (b2 (aP.run xO I R) λu s0 ⟨v,ht,f7,jx,iS,ko,hv⟩=>?_);have aV:aI tw ht (.bJ da) v:=hv;rw[aI]at aV;subst aV;obtain rfl:u=Value.ref da:=jx;refine W.callWith_K (h₀:=X.V) I.ok.mod.fl aW (b2 (ba B S mT aA aM az pos ae s0 O ht (λah aj=>dn tw ht aj/\df tw aM aj/\Args X.K tw aj aA ah) f7 ⟨ko,λah aj x y z=>⟨x,y,z⟩⟩) λus s1 ⟨ah,H1,bf,r,bH,dB,cN⟩=>⟨bf.hK,?_⟩) he eS;exact x_run F aU aq bf r dB cN vr au λe aN aj s' x cK fW bb=>k ae e aN aj s' x.weak (((iS.trans bH).trans cK).b0 R.aQ) ((R.ext.trans<|iS.trans bH).trans cK) fW bb
end
def xP(P:dx)(w:c3)(K:W.Frag)(a3:Str->Option mt)(base:Heap)(lv:Nat)(x:Str)(ps:List Str)(f:e8)(tw:Addr):Prop :=
 ∃da fd,i2 P w K a3 base (my P w) lv da fd ps (vn a3 K tw ps.H f)/\Binds K fd ps []/\W.keepIn K (.ref da)=Y0/\a3 x=J (.ref da)
def amu{bG:Bool}{X:bI}{tw:Addr}{f:e8}{lv dU:Nat}{ps:List Str}{x:Str}{p pos:Pos}{e:Expr}{es:List Expr}{a:iy}(G:xP X.R X.w X.K X.a3 X.V lv x ps f tw)(aU:eD lv X.A)(ba:SB X tw (e::es) a)(bz:autoParam (ps.H=dU) bu)(bT:autoParam (fv X x) bu)(fQ:autoParam ZH eM)
  (he:autoParam ZP bu) (eS:autoParam ((ff pos Zm).any (·.1)=Y1) bu):kn bG X tw Zn<|d1 dU f a:=by
 subst bz;obtain⟨da,fd,F,aq,aW,hm⟩:=G;exact akD F aU hm aW aq ba bT fQ he eS
def h1.lift{X:bI}{tw:Addr}{st:List Stmt}{d:bw}(h:h1 X.lL tw st d):h1 X tw st d:=λB S n f S' n' hd ae s O H D I hw =>
 hk (h B S n f S' n' hd ae s O H D (I.nh _) hw) (λ_ _ q=>q.pK) λ_ _ z=>False.elim z
def vs{lv dU:Nat}(G:uK X.R X.w X.K X.a3 X.V lv x ps f tw)(hm:X.a3 x=J (.ref da))(aU:eD lv X.A)(r:ou X tw as cm)(bz:autoParam (ps.H=dU) bu):ou X tw (da::as)<|(dU,f)::cm:=by subst bz;obtain⟨adi,fd,F,aq,aW,tr⟩:=G;rw[hm]at tr;exists tr;exact .cons F aU aW aq r
def vt{lv dU:Nat}(G:xP X.R X.w X.K X.a3 X.V lv x ps f tw)(hm:X.a3 x=J (.ref da))(aU:eD lv X.A)(r:ov X tw as cm)(bz:autoParam (ps.H=dU) bu):ov X tw (da::as)<|(dU,f)::cm:=by subst bz;obtain⟨adi,fd,F,aq,aW,tr⟩:=G;rw[hm]at tr;exists tr;exact .cons F aU aW aq r
structure vu (K:W.Frag) (D:Addr):Prop where
 cls:(W.clsIn K D).isSome=Y0
 ty:W.typeIn K (.ref D)=J (.type "type")
section
variable {K:W.Frag}{aN D:Addr}
def AV:W.kitOne K ZI ZI=J Y0:=by unfold W.kitOne;rw[Y2 Z7]
def hM(self:W.subIn K ZI ZI=J Y0)(d:vu K D)(sub:W.subIn K ZI (.ref D)=J Y1):W.kitOne K ZI (.ref D)=J Y1:=by
 have ne:aN≠D:=λz=>by subst z;rw[self]at sub;exists sub
 unfold W.kitOne;rw[Y3<|by simpa using ne];unfold W.kitCls;simp only[d.cls,d.ty,beq_self_eq_true,Bool.and_self,if_true];exact sub
def AW(sub:W.subIn K ZI (.type "ValueError")=J Y0):W.kitOne K ZI (.type "ValueError")=J Y0:=by unfold W.kitOne;rw[Y3 Z7];show(if W.kitMeta "ValueError" = Y0 then _ else C)=_;rw[Y2 Za];exact sub
end
def QZ(P:dx)(w:c3)(K:W.Frag)(a3:Str->Option mt)(base:Heap)(lv:Nat)(x:Str)(cs:List Nat)(h:Nat->Option T)(tw:Addr):Prop :=
 ∃da,W.keepIn K (.ref da)=Y0/\a3 x=J (.ref da)/\∀c t,c∈cs->h c=J t->∀aN,a3 (o8 c)=J ZI->∀(e:Addr) (oe:Obj),oe.cls=.ref aN->oe.dict=C->(∃ah,oe.d=.fields ah) ->
  ∃(fd:hC) (ps:List Str) (f:cY),EC P w K a3 base lv da fd ps [(e,oe)] (nZ K tw 1 f)/\Binds K fd ps []/\∀n,f [(.bJ e,Y0)] n=J (t,Y1,n)
def amv{X:bI}{tw:Addr}(i:Nat){lv:Nat}{cs:List Nat}{h:Nat->Option T}{x nm:Str}{p WI pos iz:Pos}(G:QZ X.R X.w X.K X.a3 X.V lv x cs h tw)(aU:eD lv X.A)(jD:X.stack=X.I::X.cj)(hf:X.I.frame=J X.I.locals)(hi:autoParam (X.N[i]?=J nm) bu)(bS:autoParam (qj X.I.Y nm) az7._auto_1)(bT:autoParam (fv X x) bu)(fQ:autoParam ZH eM)(D9:autoParam ((nm==("__debug__" : Str))=Y1) eM)(g4:autoParam ((nm==("__classdict__" : Str))=Y1) eM) :
  Uy X tw i [.Return (J<|.Call (.Name x p) [.Name nm WI] [] pos) iz] cs h:=by
 intro c t aT cA aN oU e oe af ak bc;obtain⟨da,aW,hm,G⟩:=G;obtain⟨fd,ps,f,F,aq,agt⟩:=G c t aT cA aN oU e oe af ak bc;have AI:i<X.N.H:=(kM.mp hi).1;refine⟨cT<|bB 1 f<|ax (ai i) a9,?_,λn=>?_⟩
 ·exact DP<|DR<|amt (X:=vo X (.ref e)<|X.gD++[(e,oe)]) F (eD.held aU _) (λy aK=>l3 _ aK) jD hf hm aW aq (Pk (lP i hi bS D9 g4) UT rfl) bT fQ rfl rfl
 ·refine⟨(List.replicate X.N.H C).set i (J (.bJ e,.ag)),?_⟩;have az:ai i ((List.replicate X.N.H C).set i (J (.bJ e,.ag))) n=J (.bJ e,.ag,n):=by unfold ai;rw[yt,Y2 rfl,Y2<|by rw[ow];exact AI];rfl
  unfold cT bB ax;rw[az];show Option.bind ((f [(T.bJ e,Y0)] n).map _) _=_;rw[agt];rfl
section
variable {X:bI}{tw:Addr}{bG:Bool}
def ai5{e:Expr}{d:dm}{j pos pos'}(h:kn bG X tw e d):kn bG X tw (.Compare e [.Is] [.Constant .none j pos'] pos) d:=λB S n c n' hd =>
 UL (ID<|h B S n c n' hd) (by rfl)
def ai6(i:Nat){x:Str}{e:Expr}{d:dm}{pos pos':Pos}(h:kn bG X tw e d)(dK:X.N.Nodup)(hi:autoParam (X.N[i]?=J x) bu)(av:autoParam (Loc X.I.Y x) az4._auto_1)(aP:autoParam (nC e (J<|.Name x pos') pos.line X.I=pure Y1) bu)
  (hf:autoParam Zs pY):rg bG X tw (.Assign [.Name x pos'] e pos) d:=λB S n c n' hd =>
 Ds dK hi av (h B S n c n' hd) aP hf
def akK{a e:Expr}{x:Str}{d:dm}{bH}{pos:Pos}(h0:bF X tw a<|aw<|.str x)(h:kn bG X tw e d)(aP:autoParam (b4 [a,e] X.I=(Y1,eval a X.I)::ZG::[]) bu):kn bG X tw (.Tuple [a,e] bH pos) d:=λB S n c n' hd =>
 UO (t:=λO H _=>rf bG X B tw S n c n' O H) λpos ae s O H Q I q=>by rw[aP];refine ia (b2 (h0.run rfl I q.1) λu s1 ⟨v,H1,bf,bA,a1,bt,b6⟩=>?_);exact ia (b2 (h B S n c n' hd ae s1 O H1 (λ_ _=>False) bf<|q.step (a1.b0 q.1.aQ) bt) λu s2 ⟨_,_,_,_,z⟩=>z.elim)
def ai7{e i:Expr}{es:List Expr}{d:dm}{pos pos':Pos}(h:kn bG X tw e d)(aP:autoParam ZP bu):kn bG X tw (.Subscript (.List (e::es) pos') i pos) d:=λB S n c n' hd ae s O H Q I q =>
 Cm (b2 (IQ (t:=λO H _=>rf bG X B tw S n c n' O H) (λpos ae s O H Q I q=>by
  rw[aP]
  exact ia (b2 (h B S n c n' hd ae s O H (λ_ _=>False) I q) λu s2 ⟨_,_,_,_,z⟩=>z.elim)) ae s O H (λ_ _=>False) I q) λu s1 ⟨_,_,_,_,z⟩=>z.elim)
end
structure Fr where
 f:Addr
 hs:Option Addr
 an:Option Addr
 cX:Array<|Option mt
 ju:mt
 eB:mt
 gj:mt
 pm:mt
 cd:mt
 eE:mt
noncomputable abbrev Fr.fd(r:Fr)(n:Str)(st:Stmt):hC:=W.fnOf n n (nT st) (ih st) (er st) .none r.eB r.gj r.pm r.an r.cd r.eE
def dW(K:W.Frag)(n:Str)(st:Stmt)(r:Fr):Prop :=
 W.nsIn K kS n=J (J<|.ref r.f)/\K.lookup r.f=J ⟨r.ju,r.hs,.func<|r.fd n st,r.cX⟩/\W.codeIn K r.cd n=Y0/\W.keepIn K (.ref r.f)=Y0
def akL{K:W.Frag}{n:Str}{st:Stmt}{f:Addr}{hs an:Option Addr}{cX:Array<|Option mt}{ju eB gj pm cd eE:mt}(a:W.nsIn K kS n=J (J<|.ref f))
  (l:K.lookup f=J ⟨ju,hs,.func<|W.fnOf n n (nT st) (ih st) (er st) .none eB gj pm an cd eE,cX⟩) (c:W.codeIn K cd n=Y0) (k:W.keepIn K (.ref f)=Y0):dW K n st ⟨f,hs,an,cX,ju,eB,gj,pm,cd,eE⟩:=⟨a,l,c,k⟩
section
variable {K:W.Frag}{n:Str}{st:Stmt}{r:Fr}
def dW.fn(h:dW K n st r):qo K n n st r.f<|r.fd n st:=aii h.2.1 h.2.2.1 h.2.2.2
theorem dW.a3{h0:Heap}{a3:Str->Option mt}(h:dW K n st r)(X:K.In h0)(G:h0.Ns kS a3):a3 n=J (.ref r.f):=W.mg_of X G h.1
def some_of{α:Type}{x:Option α}{a:α}(h:x=J a):x.isSome=Y0:=by rw[h];rfl
end
def uR{N P:List Str}{sc:js}(a:autoParam (sc.kind=.function) bu)(b:autoParam (sc.isCoroutine=Y1) bu)(c:autoParam (sc.isGenerator=Y1) bu)(d:autoParam (N.Nodup) az11._auto_1)(e:autoParam (N.take P.H=P) bu)(f:autoParam (∀x∈P,sc.names.lookup x=J .local\/sc.names.lookup x=J .cell) az11._auto_1)(g:autoParam (∀y∈sc.e,y.2≠.free) az11._auto_1):mG N P sc:=⟨a,b,c,d,e,f,g⟩
def oY(n:Str)(st:Stmt)(ps:List Str):Prop:=∀(eB doc pm:mt) (an:Option Addr) (c8 eE:mt) (us:List mt),us.H=ps.H->sl Z04 ⟨us,[]⟩=pure (ps.zip us)
def len0{P:List mt->Prop}(h:P []):∀us:List mt,us.H=0->P us:=λus e=>by
 cases us with
 |nil=>exact h
 |cons a us=>exact Nat.noConfusion e
def l0{P:List mt->Prop}{k:Nat}(h:∀a (us:List mt),us.H=k->P (a::us)):∀us:List mt,us.H=k+1->P us:=λus e=>by
 cases us with
 |nil=>exact Nat.noConfusion e
 |cons a us=>exact h a us<|Nat.succ.inj e
section
variable {n:Str}{st:Stmt}{dC c7 jA sJ CI:Str}
def qh(h:∀(eB doc pm:mt) (an:Option Addr) (c8 eE a:mt),sl Z04 ⟨[a],[]⟩=pure [(dC,a)]):oY n st [dC]:=λk d p an c t=>l0 λa=>len0<|h k d p an c t a
def zD(h:∀(eB doc pm:mt) (an:Option Addr) (c8 eE a b:mt),sl Z04 ⟨[a,b],[]⟩=pure [(dC,a),(c7,b)]):oY n st [dC,c7]:=λk d p an c t=>l0 λa=>l0 λb=>len0<|h k d p an c t a b
def zE(h:∀(eB doc pm:mt) (an:Option Addr) (c8 eE a b c:mt),sl Z04 ⟨[a,b,c],[]⟩=pure [(dC,a),(c7,b),(jA,c)]):oY n st [dC,c7,jA]:=λk d p an c t=>l0 λa=>l0 λb=>l0 λe=>len0<|h k d p an c t a b e
def zF(h:∀(eB doc pm:mt) (an:Option Addr) (c8 eE a b c d:mt),sl Z04 ⟨[a,b,c,d],[]⟩=pure [(dC,a),(c7,b),(jA,c),(sJ,d)]):oY n st [dC,c7,jA,sJ]:=λk d p an c t=>l0 λa=>l0 λb=>l0 λe=>l0 λf=>len0<|h k d p an c t a b e f
def zG(h:∀(eB doc pm:mt) (an:Option Addr) (c8 eE a b c d e:mt),sl Z04 ⟨[a,b,c,d,e],[]⟩=pure [(dC,a),(c7,b),(jA,c),(sJ,d),(CI,e)]):oY n st [dC,c7,jA,sJ,CI]:=λk d p an c t=>l0 λa=>l0 λb=>l0 λe=>l0 λf=>l0 λg=>len0<|h k d p an c t a b e f g
end
section
variable {P:dx}{w:c3}{K:W.Frag}{base:Heap}{tw:Addr}{n:Str}{st:Stmt}{r:Fr}{h0:Heap}{a3:Str->Option mt}{lv:Nat}{N ps:List Str}
def adj(X:K.In h0)(G:h0.Ns kS a3)(h:dW K n st r){b:bw}
  (aq:∀(c8:mt) (A:dI) (cj:List Env) (s:aR) (H:aJ) (E:iv),eD lv Z06->N.Nodup->h1 (jP iB P w K a3 base N n (er st) r.f c8 A cj s H E).lL tw (ih st) b)
  (cc:autoParam (mG N ps<|er st) az10._auto_1) (bi:autoParam (oY n st ps) az12._auto_1):uK P w K a3 base (lv+1) n ps (c0 N.H b) tw :=
 ⟨_,_,ag1 h.fn cc λc A o s H E aU=>aq c A o s H E aU cc.bW,h.fn.binds bi,h.2.2.2,h.a3 X G⟩
def agu(X:K.In h0)(G:h0.Ns kS a3)(h:dW K n st r){b:dm}
  (aq:∀(c8:mt) (A:dI) (cj:List Env) (s:aR) (H:aJ) (E:iv),eD lv Z06->N.Nodup->lq Y1 (jP (my P w) P w K a3 base N n (er st) r.f c8 A cj s H E) tw (ih st) b)
  (cc:autoParam (mG N ps<|er st) az10._auto_1) (bi:autoParam (oY n st ps) az12._auto_1):xP P w K a3 base (lv+1) n ps (fnX N.H b) tw :=
 ⟨_,_,aiV h.fn cc λc A o s H E aU=>aq c A o s H E aU cc.bW,h.fn.binds bi,h.2.2.2,h.a3 X G⟩
end
section
variable {X:bI}{tw:Addr}{lv dU:Nat}{ps:List Str}{x:Str}{p pos:Pos}{e:Expr}{es:List Expr}{a:iy}
def Uz{f:cY}(G:uK X.R X.w X.K X.a3 X.V lv x ps f tw)(ba:SB X tw (e::es) a)(aU:autoParam (eD lv X.A) az9._auto_1)(bz:autoParam (ps.H=dU) bu)(bT:autoParam (fv X x) bu)(fQ:autoParam ZH eM)
  (he:autoParam ZP bu) (eS:autoParam ((ff pos Zm).any (·.1)=Y1) bu):bF X tw Zn<|bB dU f a:=ami G aU ba bz bT fQ he eS
def UA{bG:Bool}{f:e8}(G:xP X.R X.w X.K X.a3 X.V lv x ps f tw)(ba:SB X tw (e::es) a)(aU:autoParam (eD lv X.A) az9._auto_1)(bz:autoParam (ps.H=dU) bu)(bT:autoParam (fv X x) bu)(fQ:autoParam ZH eM)
  (he:autoParam ZP bu) (eS:autoParam ((ff pos Zm).any (·.1)=Y1) bu):kn bG X tw Zn<|d1 dU f a:=amu G aU ba bz bT fQ he eS
end
section
variable {X:bI}{tw:Addr}{lv Q0 dU:Nat}{ps:List Str}{x y:Str}{p pos pos' e5 py vY:Pos}{e elt iter:Expr}{es ifs:List Expr}{a:iy}{bG:Bool}{scope:js}{N':List Str}{fo:List<|Option Nat}{d:ic}{c:fb}{ie:bM}
def Km{i:Nat}{cl:List<|Str×Addr}{aN:Addr}{cD:aR}{dJ:aJ}{fp:List Addr}(bW:N'.Nodup)(dK:N'[i]?=J x)(aB:scope.names.lookup x=J .local):sD ZY tw Zj (cB i) :=
 Pr i bW dK (.inl<|lookup_relabel_local aB) (.inr<|lookup_relabel_local aB)
def amw(hi:ru X tw Zj iter d)(cA:∀{cl aN cD dJ fp},ti (gy X (x::X.N) scope cl aN cD dJ fp) tw ifs c)(he:∀{cl aN cD dJ fp},bF (gy X (x::X.N) scope cl aN cD dJ fp) tw elt ie)
  (aT:autoParam (X.calm=Y0) bu) (aN:l2 X scope (x::X.N) fo:=by exact .of) (bW:(x::X.N).Nodup:=by first|(show List.Nodup (_::(_++_));decide)|(show List.Nodup (_::_::(_++_));decide)) (aB:autoParam (scope.names.lookup x=J .local) bu) (aP:autoParam Zx sA) :
  bF X tw (.ListComp elt [⟨.Name x e5,iter,ifs,0⟩] scope pos) (et d (ck fo) (cB 0) c ie):=Jt aT aN bW hi (λ_ _ _ _ _=>Km bW rfl aB) (λ_ _ _ _ _=>cA) (λ_ _ _ _ _=>he) aP
def amx(i:Nat)(hi:ru X tw Zj iter d)(cA:∀{cl aN cD dJ fp},ti (gy X X.N scope cl aN cD dJ fp) tw ifs c)(he:∀{cl aN cD dJ fp},bF (gy X X.N scope cl aN cD dJ fp) tw elt ie)
  (aT:autoParam (X.calm=Y0) bu) (aN:l2 X scope X.N fo:=by exact .of) (bW:X.N.Nodup:=by first|(show List.Nodup (_++_);decide)|(show List.Nodup (_::(_++_));decide)) (dK:autoParam (X.N[i]?=J x) bu) (aB:autoParam (scope.names.lookup x=J .local) bu) (aP:autoParam Zx sA) :
  bF X tw (.ListComp elt [⟨.Name x e5,iter,ifs,0⟩] scope pos) (et d (ck fo) (cB i) c ie):=Jt aT aN bW hi (λ_ _ _ _ _=>Km bW dK aB) (λ_ _ _ _ _=>cA) (λ_ _ _ _ _=>he) aP
def adk(i:Nat)(bz:X.N.Nodup)(hi:ru X tw Zj iter d)(cA:∀{cl aN cD dJ fp},ti (gy X (x::X.N) scope cl aN cD dJ fp) tw ifs c)(he:∀{cl aN cD dJ fp},bF (gy X (x::X.N) scope cl aN cD dJ fp) tw elt ie)
  (aT:autoParam (X.calm=Y0) bu) (aN:l2 X scope (x::X.N) fo:=by exact .of) (bW:(x::X.N).Nodup:=by first|(show List.Nodup (_::(_++_));decide)|(show List.Nodup (_::_::(_++_));decide)) (aB:autoParam (scope.names.lookup x=J .local) bu)
  (gz:autoParam (X.N[i]?=J y) bu) (aK:autoParam (X.env.scope.names.lookup y=J .local) bu) (z6:autoParam (nC (.ListComp elt [⟨.Name x e5,iter,ifs,0⟩] scope pos) (J<|.Name y py) vY.line X.I=pure Y0) bu) (aP:autoParam Zx sA) :
  gX X tw (.Assign [.Name y py] (.ListComp elt [⟨.Name x e5,iter,ifs,0⟩] scope pos) vY) (dM i<|et d (ck fo) (cB 0) c ie):=abf i aT bz aN bW hi (λ_ _ _ _ _=>Km bW rfl aB) (λ_ _ _ _ _=>cA) (λ_ _ _ _ _=>he) gz aK z6 aP
def amy{f:cY}{g:e8}{nR:List Stmt}{jy:dm}(G:xP X.R X.w X.K X.a3 X.V lv x ps g tw)(WJ:uK X.R X.w X.K X.a3 X.V Q0 x ps f tw)(ba:SB X.lL tw (e::es) a)(bc:lq bG X tw nR jy)
  (aU:autoParam (eD lv X.A) az9._auto_1) (n4:autoParam (eD Q0 X.A) az9._auto_1) (bz:autoParam (ps.H=dU) bu) (bT:autoParam (fv X x) bu) (fQ:autoParam ZH eM)
  (he:autoParam ZP bu) (eS:autoParam ((ff pos Zm).any (·.1)=Y1) bu) (aP:autoParam (nC Zn C pos'.line X.I=pure Y1) bu) :
  lq bG X tw (.Expr Zn pos'::nR) (dy (d1 dU g a) (eT<|bB dU f a) jy) :=
 QR (QS (UA G ba.lift aU bz bT fQ he eS) aP) (gX.lift<|Pm (Uz (X:=X.lL) WJ ba n4 bz bT fQ he eS) aP) bc
def F7:iU X (hq .LtE) (uE λa b=>decide (a<=b)):=Jx λ_ _ _ _ _ _ h=>le_int h
def T4(aU:eD lv X.A):fS X tw (two<|hq .Eq) gn:=ag3 aU.CB<|alX aU.Gx
def agv(aU:eD lv X.A):fS X tw (two<|hq .NotEq) gp:=Ut aU.CB<|PF aU.Gx
end
section
variable {X:bI}{tw:Addr}
def amz(r:ew X.K tw H (.str x) v):v=.str x:=by have r:aI tw H (.str x) v:=r;rw[aI]at r;exact r
def adl{i:Int}(r:ew X.K tw H (.int i) v):v=.int i:=by have r:aI tw H (.int i) v:=r;rw[aI]at r;exact r
def ai8:bh=1000000:=rfl
def akM:fS X tw (λus=>call (.type "str") us) z2:=by
 intro B ae s O H ah us aA n t m Q I bq aV aQ e k
 match aA,e with
 |[.int i],e =>
  have e:(if 0<=i/\i<=1000 then J (T.str<|j8 i,bo.ag) else C)=J (t,m):=e;split at e
  ·rename_i h
   exists e
   obtain⟨v,rfl,r⟩:=iZ aV;obtain rfl:=adl r;refine aap ae s O H _ us Q I bq ⟨i,rfl,?_,k _ H ZT aQ<|by show aI tw H (.str _) _;rw[aI];rfl⟩;have af:i.natAbs<=1000:=by omega
   have:i.natAbs.log2<=Nat.log2 1000:=by
    rcases Nat.eq_zero_or_pos i.natAbs with z|z
    ·rw[z];decide
    ·have:=Nat.log2_self_le (n:=i.natAbs)<|pS z;exact(Nat.le_log2 Z0).mpr (bP this af)
   exact gT this Z0
  ·exists e
theorem Q1:∀{xs:List T} {ws:List Str} {ah:List V} {us:List mt},strsOf xs=J ws->bR tw H xs ah->cG ah us->∃l:List (Str×Tok),strValues l=us/\l.map (·.1)=ws
 |[],ws,ah,us,h,r,v=>by
  exists h
  rw[ji r]at v
  exists v
  exact⟨[],rfl,rfl⟩
 |.str x::xs,ws,ah,us,h,r,v=>by
  obtain⟨Ai,af,ak⟩:=dw (show(strsOf xs).map (x::·)=J ws from h)
  exists ak
  obtain⟨v0,mv,rfl,bA,cp⟩:=hg r;rw[aI]at bA;subst bA;cases v with
  |cons aX bb =>
   obtain⟨l,fh,fF⟩:=Q1 af cp bb;obtain⟨bx,rfl⟩:=aX;exact⟨(x,bx)::l,by rw[<-fh];rfl,by rw[<-fF];rfl⟩
def akN{o e:Expr}{eQ ie:bM}{apos ec:Pos}(aZ:bF X tw o eQ)(he:bF X tw e ie)(m:Cr X o "join" apos e ec):bF X tw (.Call (.Attribute o "join" apos) [e] [] ec)<|aH u1<|aa eQ<|aa ie ar:=by
 intro B S n t km n' hd ae s O H Q I ⟨R,k⟩;obtain⟨⟨aA,aM⟩,az,au⟩:=cn hd;obtain⟨⟨t1,cR⟩,a6,bX⟩:=dw au;cases bX;obtain⟨⟨to,mo,no⟩,f1,f2⟩:=cn az;obtain⟨⟨fh,an2⟩,en,f4⟩:=dw f2;cases f4;obtain⟨⟨te,ze,ne⟩,g1,g2⟩:=cn en;cases g2;have key:∀N to te,u1 N [to,te]=J (t1,cR)->∃x xs,to=.str x/\te=.ao xs:=λN to te e=>by
  induction to using T.casesOn with
  |str x=>induction te using T.casesOn with
   |ao xs=>exact⟨x,xs,rfl,rfl⟩
   |_=>exists e
  |_=>exists e
 obtain⟨x,xs,af,ak⟩:=key _ _ _ a6;clear key;subst af ak;obtain⟨ws,aX,bb⟩:=cn (show(strsOf xs).bind (λws=>if(ws.map (·.H)).sum+ws.H*x.H<=bh then J (T.str<|Str.join x ws,bo.ag) else C)=J (t1,cR) from a6);split at bb
 ·rename_i hz;cases bb;refine yO m.V m.uY m.line PySem.F.plainAttrs_str PySem.F.slot_str_join PySem.F.type_str_join (b2 (aZ.run f1 I R) λu s1 ⟨v,H1,bf,bA,a1,bt,b6⟩=>?_);obtain rfl:=amz<|b6.root bt R.aQ;obtain⟨bx,rfl⟩:=bA;refine⟨typeIs_str _ _ _,(λb e=>nomatch e),?_⟩;rw[m.trees];refine ub rfl<|uc<|ia (b2 (he.run g1 bf bt) λiw s2 ⟨Nu,bV,cS,dX,a2,dj,dA⟩=>l6 ?_);obtain⟨a,fJ,rfl,cu,cM⟩:=dA.root dj bt.aQ;cases dX;obtain⟨a5,lR,cQ,_⟩:=cS.list cu.gi;obtain⟨l,eV,fM⟩:=Q1 aX cM lR;subst eV;have de:=ai8;have aP:=mK;refine SC.join cQ.isList fM ?_ λt' md=>?_
  ·unfold JoinOk Builtin.Str.tooLong;rw[StrLaws.joinTotal];simp only[M9,decide_eq_false_iff_not];omega
  ·exact⟨.str _,bV,cS.tok _,⟨t',by rw[show Txt.join x ws=Str.join x ws from StrLaws.glued_eq_join x ws]⟩,k _ bV (a1.trans a2) dj.aQ<|by show aI tw bV (.str _) _;rw[aI]⟩
 ·exists bb
end
def EE(d e:bM):ic:=λS n=>(aa (aY d) (aa (aY e) ar) S n).bind λr=>match r.1 with
 |[.ao xs,.ao aO]=>J (List.zipWith (λx y=>.aD [x,y]) xs aO,r.2)
 |_=>C
def lV(H:aJ)(a:Addr)(ah:List V):Prop:=∃o,H a=J (.eo o<|.ao ah)
def lV.get{X:bI}{ae:List Z1}{O:St}{H:aJ}{s:aR}(I:aS X ae O H s){a:Addr}{ah:List V}(h:lV H a ah):∃a5:List mt,cG ah a5/\s.heap.IsList a a5.Q:=by
 obtain⟨o,e⟩:=h;obtain⟨_,z,a5,c,bq,cA⟩:=(show gP X.R X.w H s.D a (.eo o<|.ao ah) from I.b1 a _ e)
 exact⟨a5,bq,_,cA,rfl,_,rfl⟩
def T5(a b:Addr)(m:Nat):kW:=⟨λi H=>∃xs aO x y,lV H a xs/\lV H b aO/\xs[i]?=J x/\aO[i]?=J y/\i<m,λi H x aj=>∃p v u,H p=C/\x=.ref p/\aj=c4 H p (.aD [v,u])/\(∀aO,lV H a aO->aO[i]?=J v)/\∀aO,lV H b aO->aO[i]?=J u,λi H=>∃xs aO,lV H a xs/\lV H b aO/\(xs.H=m\/aO.H=m)/\m<=i⟩
def lV.inj(h:lV H a xs)(g:lV H a aO):xs=aO:=by
 obtain⟨o,e⟩:=h;obtain⟨dh,bN⟩:=g;rw[e]at bN
 exists bN
 rfl
def adm{P:dx}{w:c3}{K:W.Frag}{elts:List Expr}{bH}{tp:Pos}(a b z TI lJ jc mi:Addr)(m:Nat)(D:ZipApart z TI lJ jc mi a b) :
  Turn P w K (.Tuple elts bH tp) (T5 a b m) [z,TI,lJ,jc,mi] z (λi h=>i<=m/\IsZip h z TI lJ .none/\IsPair h TI (.ref jc) (.ref mi)/\(∃p q,IsPair h lJ p q)/\h.IsListIter jc a i/\h.IsListIter mi b i) where
 mem:=by simp
 obj:=λi h st c aT=>by
  obtain⟨_,s1,s2,⟨p,q,s3⟩,⟨fs,az,_,d8⟩,⟨ja,au,_,fz⟩⟩:=st;simp only[d4,qR,or_false]at aT;rcases aT with rfl|rfl|rfl|rfl|rfl
  ·exact⟨_,s1,λv z=>by exists z⟩
  ·exact⟨_,s2,λv z=>by exists z⟩
  ·exact⟨_,s3,λv z=>by exists z⟩
  ·exact⟨_,az,λv z=>by rw[d8]at z;exists z⟩
  ·exact⟨_,au,λv z=>by rw[fz]at z;exists z⟩
 keep:=λi h h' st k=>by obtain⟨hi,s1,s2,⟨p,q,s3⟩,⟨fs,az,bA⟩,⟨ja,au,cp⟩⟩:=st;exact⟨hi,k z Z7 _ s1,k TI Z7 _ s2,⟨p,q,k lJ Z7 _ s3⟩,⟨fs,k jc Z7 _ az,bA⟩,⟨ja,k mi Z7 _ au,cp⟩⟩
 item:=by
  intro X e4 hw ib aT i ae s O H E I hf st bT;subst e4 hw ib;obtain⟨xs,aO,x,y,a7,aU,av,aK,adn⟩:=bT;obtain⟨a5,bq,p⟩:=a7.get I;obtain⟨hO,xC,c7⟩:=aU.get I;obtain⟨u,b7,eW⟩:=bq.get av;obtain⟨v,bS,bq⟩:=xC.get aK;obtain⟨hi,s1,s2,⟨pa,pb,s3⟩,t1,eI⟩:=st;refine wpAny_pyNext_zip_item D s1 s2 s3 t1 eI p c7 (x:=u) (y:=v) (by simpa using b7) (by simpa using bS) λh' CL HY HZ H0 gu _ aW=>?_;refine⟨_,rfl,wpAny_letOwnedTupleGo_zip CL λak lk iA=>?_⟩;have iA:Heap.SameBut z h' ak:=iA;have u5:H s.L=C:=I.b1.fresh<|cg _;have dD:∀c∈[z,TI,lJ,jc,mi],c≠s.L:=λc aT=>by
   obtain⟨_,bA,_⟩:=t1;obtain⟨_,cp,_⟩:=eI;simp only[d4,qR,or_false]at aT;rcases aT with rfl|rfl|rfl|rfl|rfl
   ·exact bv<|d6 s1
   ·exact bv<|d6 s2
   ·exact bv<|d6 s3
   ·exact bv<|d6 bA
   ·exact bv<|d6 cp
  have bf:aS X ae O (c4 H s.L<|.aD [x,y]) { s with heap:=s.heap.push { cls:=.type "tuple",data:=.seq #[u,v]},toks:=s.toks} :=
   I.laid (t':=s.toks) (λb o e=>ed _ e) (cg _) ⟨by show 2<=dg;decide,[u,v],.cons eW<|.cons bq .nil,mj.new _ _⟩
  have cS:=bf.VG (fp:=[z,TI,lJ,jc,mi]) (h':=ak) (t':=s.toks) (λb o aq q=>?_) λb aq=>?_
  ·have it:∀{jc l:Addr} {k:Nat},jc≠z->h'.IsListIter jc l k->ak.IsListIter jc l k:=λn ⟨o,e,r⟩=>⟨o,iA.extBut _ _ n e,r⟩
   refine⟨.ref s.L,_,cS,rfl,⟨s.L,x,y,u5,rfl,rfl,λaO aK=>by rw[aK.inj a7];exact av,λaO hz=>by rw[hz.inj aU];exact aK⟩,⟨adn,lk,iA.extBut _ _ D.TIz<|aW _ _ D.TIz D.TITO D.TIi1 D.TIi2 s2,⟨_,_,iA.extBut _ _ D.TOz HY⟩,it D.i1z HZ,it D.i2z H0⟩,λb aq=>?_⟩;rw[e1<|dD b aq];exact(hf b aq).1
  ·have cq:b≠z:=λz=>aq (by simp[z]);have cE:b≠lJ:=λz=>aq (by simp[z]);have fj:b≠jc:=λz=>aq (by simp[z]);have wZ:b≠mi:=λz=>aq (by simp[z]);by_cases z:b=s.L
   ·subst z;rw[gC _ rfl]at q
    exists q
    exact iA.extBut _ _ cq gu
   ·rw[yH _ _ _ z]at q;exact iA.extBut _ _ cq<|aW b o cq cE fj wZ q
  ·obtain⟨f0,f1,f2,en,f4,hU⟩:=hf b aq;exact⟨by rw[e1<|dD b aq];exact f0,f1,f2,en,f4,hU⟩
 done:=by
  intro X e4 hw ib aT i ae s O H E I hf st bT;subst e4 hw ib;obtain⟨xs,aO,a7,aU,aB,bT⟩:=bT;obtain⟨a5,bq,p⟩:=a7.get I;obtain⟨hO,xC,c7⟩:=aU.get I;obtain⟨hi,s1,s2,⟨pa,pb,s3⟩,t1,eI⟩:=st;have aM:=bq.H;have bC:=xC.H;refine wpAny_pyNext_zip_end (I.ok.hd aT) D s1 s2 s3 t1 eI p c7 ?_ λh' aW=>⟨rfl,I.VG (fp:=[z,TI,lJ,jc,mi]) (t':=s.toks) (λb o aq e=>aW b o (λz=>aq<|by simp[z]) (λz=>aq<|by simp[z]) (λz=>aq<|by simp[z]) (λz=>aq<|by simp[z]) e) hf⟩
  rcases aB with aB|aB
  ·exact .inl (by rw[MC,GJ<|by omega])
  ·exact .inr (by rw[MC,GJ<|by omega])
 self:=λ_ _ _ _ _ st h=>wpAny_pyIter_zip st.2.1 h
section
variable {X:bI}{tw:Addr}
def akO(h:lV H a ah)(r:bR tw H xs ah)(ak:lV H b us)(cp:bR tw H aO us) :
  qO tw (T5 a b<|min xs.H aO.H) H (List.zipWith (λx y=>.aD [x,y]) xs aO):=λi=>by
 have aB:=r.H;have DS:=cp.H;refine⟨λt e=>?_,λhi=>⟨ah,us,h,ak,by omega,by rw[MH]at hi;exact hi⟩⟩;have dD:=(kM.mp e).1;rw[MH]at dD;rw[List.getElem?_zipWith]at e;have⟨x,y,av,aK,dR⟩:∃x y,xs[i]?=J x/\aO[i]?=J y/\t=.aD [x,y]:=by
  cases av:xs[i]? with
  |none=>rw[av]at e;exists e
  |some x=>cases aK:aO[i]? with
   |none=>rw[av,aK]at e;exists e
   |some y=>rw[av,aK]at e;exists e;exact⟨x,y,rfl,rfl,rfl⟩
 subst dR;obtain⟨v,bS,bq⟩:=r.get av;obtain⟨u,b7,eW⟩:=cp.get aK;refine⟨⟨ah,us,v,u,h,ak,bS,b7,dD⟩,λx bV q=>?_⟩;obtain⟨p,hT,fu,aF,rfl,rfl,aX,bb⟩:=q;have az:=aX ah h;have au:=bb us ak;rw[bS]at az;rw[b7]at au
 exists az
 exists au
 refine⟨.new aF,λn aQ=>aQ.new aF,?_⟩;rw[aI];exact⟨p,_,rfl,fC,.cons (aI.mono (.new aF) _ _ bq)<|.cons (aI.mono (.new aF) _ _ eW) .nil⟩
def akP{elts:List Expr}{bH}{tp:Pos}{pos p:Pos}{a b:Expr}{d e:bM}(ba:bF X tw a d)(aq:bF X tw b e)(hm:X.a3 "zip" = C)(bT:autoParam (fv X "zip") bu)(aP:autoParam (b4 [a,b] X.I=(Y1,eval a X.I)::b4 [b] X.I) bu)(xu:autoParam (b4 [b] X.I=(Y1,eval b X.I)::b4 [] X.I) bu)(iA:autoParam ((ff pos<|b4 [b] X.I).any (·.1)=Y1) bu) :
  ru X tw (.Tuple elts bH tp) (.Call (.Name "zip" p) [a,b] [] pos) (EE d e):=by
 intro B S n aA n' hd ae s O H R I ⟨jZ,k⟩;obtain⟨⟨us,aM⟩,az,au⟩:=cn hd;have⟨xs,aO,dR,rx,y8⟩:∃xs aO,us=[.ao xs,.ao aO]/\aA=List.zipWith (λx y=>.aD [x,y]) xs aO/\n'=aM:=by
  clear az hd
  induction us using List.casesOn with
  |nil=>exists au
  |cons x r=>induction x using T.casesOn with
   |ao xs=>induction r using List.casesOn with
    |nil=>exists au
    |cons y r=>induction y using T.casesOn with
     |ao aO=>induction r using List.casesOn with
      |nil=>exists au;exact⟨xs,aO,rfl,rfl,rfl⟩
      |cons _ _=>exists au
     |_=>exists au
   |_=>exists au
 subst dR rx y8;refine Call_<|la I bT hm boot_zip<|PyProof.Rows.callWith_type1 (b2 ((g6 ba (g6 aq nY xu) aP) B S n [.ao xs,.ao aO] n' az pos ae s O H (λah aj=>dn tw H aj/\df tw n' aj/\bR tw aj [.ao xs,.ao aO] ah) I ⟨jZ,λah aj x y z=>⟨x,y,z⟩⟩) λus s1 ⟨ah,H1,bf,bA,a1,t1,b6⟩=>?_) aP iA;obtain⟨v,w,rfl,r,b6⟩:=hg b6;obtain⟨v2,w,rfl,cp,dA⟩:=hg b6;cases ji dA;obtain⟨u,f9,rfl,eW,ado⟩:=bA.two;rw[aI]at r cp;obtain⟨ad,bJ,fJ,rfl,cu,cM⟩:=r;obtain⟨bd,an3,sE,rfl,hE,eX⟩:=cp
 exists eW
 exists ado
 have da:lV H1 ad fJ:=⟨_,cu⟩
 have WK:lV H1 bd sE:=⟨_,hE⟩
 obtain⟨a5,bq,cA⟩:=da.get bf;obtain⟨hO,xC,Q2⟩:=WK.get bf;have fh:ad<s1.L:=let ⟨_,q,_⟩:=cA;d6 q
 have fF:bd<s1.L:=let ⟨_,q,_⟩:=Q2;d6 q
 refine call_zip_2 cA Q2 λh' CL HY HZ H0 WL _ aW=>?_;have cS:aS X ae O H1 { s1 with heap:=h'}:=bf.kept (t':=s1.toks) aW;refine wpAny_pyIter_zip CL ?_
 refine⟨s1.L+4,[s1.L+4,s1.L+2,s1.L+3,s1.L,s1.L+1],_,_,H1,rfl,cS,adm ad bd _ _ _ _ _ (min xs.H aO.H)<|zipApart_new fh fF,⟨gH _,CL,HY,⟨_,_,HZ⟩,H0,WL⟩,λb aq=>?_,
  k _ H1 a1 t1 λbV bC eI cf=>akO ⟨_,((cf.b0 t1) ad).2 _ _ cu⟩ (bR.mono (cf.b0 t1) _ _ cM) ⟨_,((cf.b0 t1) bd).2 _ _ hE⟩<|bR.mono (cf.b0 t1) _ _ eX⟩
 have aq:s1.L<=b:=by
  simp only[d4,qR,or_false]at aq;rcases aq with rfl|rfl|rfl|rfl|rfl
  ·exact gd _ _
  ·exact gd _ _
  ·exact gd _ _
  ·exact cg _
  ·exact gd _ _
 exact bf.yb aq<|bf.b1.fresh aq
end
end bj.bO
namespace bj.bO
open PySem
def Q3(ns:List Int)(i:Int)(h0:0<=i)(af:i<ns.H):∃c∈ns,gF (ns.map T.int) i=J (.int c):=by
 have h:i.M<ns.H:=by lia
 refine⟨ns[i.M],oA h,?_⟩;unfold gF;rw[Y2 h0,Y2<|by simpa using af];simp[h]
def Kn(k:Nat)(ns:List Int):(ns.map T.int).all (d0 k)=Y0:=by rw[pR,iM];intro x _;exists k<;>rfl
theorem n6:∀l:List Int,e3 (l.map T.int)=J l
 |[]=>rfl
 |x::xs=>by show(e3<|xs.map T.int).map (x::·)=_;rw[n6 xs];rfl
theorem Ko{α:Type}(f:α->T):∀l:List α,(∀x∈l,f x=.aC Y0)->∃bs,hQ (l.map f)=J bs/\bs.all id=Y0
 |[],_=>⟨[],rfl,rfl⟩
 |x::xs,h=>by
  obtain⟨bs,e,a⟩:=Ko f xs λy aK=>h y<|am _ aK
  exact⟨Y0::bs,by
   rw[cU,h x<|dT ..];show(hQ<|xs.map f).map (Y0::·)=_
   rw[e];rfl,by simpa using a⟩
theorem Kp:∀{ls:List ZA},(∀l∈ls,l≠[])->mq (ls.map aG)=J ls
 |[],_=>rfl
 |l::ls,h=>by
  have a4:=Kp (ls:=ls) λl aB=>h l<|am _ aB;cases l with
  |nil=>exact absurd rfl<|h []<|dT ..
  |cons x xs =>
   have:=n6<|x::xs;rw[cU]at this;show(e3<|.int x::xs.map T.int).bind (λl=>(mq<|ls.map aG).map (l::·))=_;rw[this,a4];rfl
theorem Kq{put:T->bE->Option bE}{c:fb}{R:bE->Prop}{p:T->Bool}{f:T->T}:∀(xs:List T),(∀x∈xs,∀S n,R S->∃S',put x S=J S'/\R S'/\c S' n=J (p x,n)/\(p x=Y0->aY e S' n=J (f x,.ag,n))) ->
  ∀(S:bE) (n:Nat) (acc:List T),R S->acc.H+xs.H<=bh->iV put c e xs S n acc=J (acc++(xs.filter p).map f,n)
 |[],_,S,n,acc,_,_=>by simp[iV]
 |x::xs,h,S,n,acc,gZ,aq=>by
  obtain⟨S',az,bA,au,a6⟩:=h x (dT ..) S n gZ;rw[d9]at aq;unfold iV;rw[az];simp only[eO,au];by_cases aF:p x=Y0
  ·rw[Y2 aF,a6 aF];simp only[eO];rw[Y2<|qT aq,Kq xs (λy aK=>h y<|am _ aK) S' n (acc++[f x]) bA<|by simp;lia];simp[aF]
  ·rw[Y3 aF,Kq xs (λy aK=>h y<|am _ aK) S' n acc bA<|eA aq];simp[aF]
def EF{i:Nat}{n n':Nat}(h:d S n=J (t,.aE,n'))(hi:S[i]?=J (J (u,.aE)))(bT:g u t=J t'):hN i g d S n=J (.bD,S.set i<|some (t',.aE),n'):=by unfold hN aY;simp only[h,eO,eo,kj,hi,bT]
def xQ(lo hi:Int):(ip lo hi).H=(hi-lo).M:=by simp[ip]
end bj.bO
namespace bj.bO
open PySem
def rD{α:Type}{i:Nat}{n:Nat}(aO:List α)(g:α->T)(p:α->Bool)(f:α->T)(hi:it S n=J (aO.map g,n))(aB:aO.H<=bh)
  (h:∀y∈aO,c ((ck l S).set i (J (g y,.ag))) n=J (p y,n)/\(p y=Y0->aY e ((ck l S).set i (J (g y,.ag))) n=J (f y,.ag,n))) :
  et it (ck l) (cB i) c e S n=J (.ao<|(aO.filter p).map f,.aE,n):=by
 have gen:∀(zs:List α) (S0:bE) (acc:List T),(∀y∈zs,y∈aO)->(∀v,S0.set i v=(ck l S).set i v)->acc.H+zs.H<=bh->iV (cB i) c e (zs.map g) S0 n acc=J (acc++(zs.filter p).map f,n):=by
  intro zs
  induction zs with
  |nil=>intro S0 acc _ _ _;simp[iV]
  |cons z zs a4 =>
   intro S0 acc hz zm aq;rw[d9]at aq;obtain⟨af,ak⟩:=h z<|hz z<|dT ..;have AX:∀v,((ck l S).set i (J (g z,.ag))).set i v=(ck l S).set i v:=λv=>by rw[BW]
   rw[cU];unfold iV;simp only[cB,eO,zm,af];cases aF:p z with
   |true =>
    simp only[if_true,ak aF,eO];rw[Y2<|qT aq,a4 _ _ (λy aK=>hz y<|am _ aK) AX<|by simp;lia];simp[aF]
   |false =>
    simp only[jo,if_false];rw[a4 _ _ (λy aK=>hz y<|am _ aK) AX<|eA aq];simp[aF]
 unfold et;rw[hi];simp only[eO];rw[gen aO _ [] (λ_ h=>h) (λ_=>rfl)<|by simpa using aB];rfl
def ik{α:Type}{i:Nat}{n:Nat}(aO:List α)(g:α->T)(f:α->T)(hi:it S n=J (aO.map g,n))(aB:aO.H<=bh)
  (h:∀y∈aO,aY e ((ck l S).set i (J (g y,.ag))) n=J (f y,.ag,n)) :
  et it (ck l) (cB i) yes e S n=J (.ao<|aO.map f,.aE,n):=by
 rw[rD aO g (λ_=>Y0) f hi aB λy aK=>⟨rfl,λ_=>h y aK⟩,yq.mpr λ_ _=>rfl]
def amA{α:Type}{i j:Nat}{n:Nat}(aO:List α)(g g':α->T)(p:α->Bool)(f:α->T)(jH:i≠j)(hi:it S n=J (aO.map λy=>.aD [g y,g' y],n))(aB:aO.H<=bh)
  (h:∀y∈aO,c (((ck l S).set i (J (g y,.ag))).set j (J (g' y,.ag))) n=J (p y,n)/\(p y=Y0->aY e (((ck l S).set i (J (g y,.ag))).set j (J (g' y,.ag))) n=J (f y,.ag,n))) :
  et it (ck l) (zW i j) c e S n=J (.ao<|(aO.filter p).map f,.aE,n):=by
 have gen:∀(zs:List α) (S0:bE) (acc:List T),(∀y∈zs,y∈aO)->(∀v hT,(S0.set i v).set j hT=((ck l S).set i v).set j hT)->acc.H+zs.H<=bh->iV (zW i j) c e (zs.map λy=>.aD [g y,g' y]) S0 n acc=J (acc++(zs.filter p).map f,n):=by
  intro zs
  induction zs with
  |nil=>intro S0 acc _ _ _;simp[iV]
  |cons z zs a4 =>
   intro S0 acc hz zm aq;rw[d9]at aq;obtain⟨af,ak⟩:=h z<|hz z<|dT ..;have AX:∀v hT,((((ck l S).set i (J (g z,.ag))).set j (J (g' z,.ag))).set i v).set j hT=((ck l S).set i v).set j hT:=λv hT=>by rw[List.set_comm (J (g' z,bo.ag)) v<|Ne.symm jH,BW,BW]
   rw[cU];unfold iV;simp only[zW,eO,zm,af];cases aF:p z with
   |true =>
    simp only[if_true,ak aF,eO];rw[Y2<|qT aq,a4 _ _ (λy aK=>hz y<|am _ aK) AX<|by simp;lia];simp[aF]
   |false =>
    simp only[jo,if_false];rw[a4 _ _ (λy aK=>hz y<|am _ aK) AX<|eA aq];simp[aF]
 unfold et;rw[hi];simp only[eO];rw[gen aO _ [] (λ_ h=>h) (λ_ _=>rfl)<|by simpa using aB];rfl
def Q4{it:ic}{l:List<|Option Nat}{i:Nat}{e:bM}{S:bE}{n0 n:Nat}{xs:List T}{P:T->Prop}{K N:Nat}(hi:it S n0=J (xs,n))(h:∀x n,n+K<=N->∃t n',aY e ((ck l S).set i (J (x,.ag))) n=J (t,.ag,n')/\n<=n'/\n'<=n+K/\P t)
  (bz:n+K*xs.H<=N) (aq:xs.H<=bh):∃out n',out.H=xs.H/\(∀t∈out,P t)/\n<=n'/\n'<=n+K*xs.H/\et it (ck l) (cB i) yes e S n0=J (.ao out,.aE,n'):=by
 have gen:∀(zs:List T) (S0:bE) (n:Nat) (acc:List T),(∀v,S0.set i v=(ck l S).set i v)->n+K*zs.H<=N->acc.H+zs.H<=bh->∃out n',out.H=zs.H/\(∀t∈out,P t)/\n<=n'/\n'<=n+K*zs.H/\iV (cB i) yes e zs S0 n acc=J (acc++out,n'):=by
  intro zs
  induction zs with
  |nil=>intro S0 n acc _ _ _;exact⟨[],n,rfl,λt cA=>by simp at cA,cg _,by simp,by simp[iV]⟩
  |cons z zs a4 =>
   intro S0 n acc zm bz aq;have aW:K*(zs.H+1)=K*zs.H+K:=by rw[Nat.mul_succ]
   rw[d9,aW]at bz;rw[d9]at aq;obtain⟨t,aM,az,fh,fF,p⟩:=h z n Z3;obtain⟨out,bC,aX,bb,fc,fP,cK⟩:=a4 ((ck l S).set i (J (z,.ag))) aM (acc++[t]) (λv=>by rw[BW]) Z3 (by simp;lia);refine⟨t::out,bC,by simp[aX],λt' cA=>?_,(bP fh fc),by rw[d9,aW];lia,?_⟩
   ·rcases d4.mp cA with rfl|cA
    ·exact p
    ·exact bb t' cA
   ·unfold iV;simp only[cB,zm,eO,yes,az,if_true];rw[Y2<|qT aq,cK];simp
 obtain⟨out,n',aX,bb,cK,fW,hV⟩:=gen xs (ck l S) n [] (λ_=>rfl) bz (by simpa using aq);refine⟨out,n',aX,bb,cK,fW,?_⟩;unfold et;rw[hi];simp only[eO];rw[hV];rfl
theorem vv{α:Type}(f:α->T)(Q:α->Prop):∀{out:List T},(∀t∈out,∃y,t=f y/\Q y)->∃l:List α,out=l.map f/\∀y∈l,Q y
 |[],_=>⟨[],rfl,by simp⟩
 |t::aA,h=>by
  obtain⟨l,rfl,aB⟩:=vv f Q λt cA=>h t<|am _ cA;obtain⟨y,rfl,aK⟩:=h t<|dT ..
  exact⟨y::l,rfl,λz hz=>by
   rcases d4.mp hz with rfl|hz
   ·exact aK
   ·exact aB z hz⟩
theorem Kr{α O:Type}{put:T->bE->Option bE}{g:α->T}{n:Nat}(R:O->bE->Prop)(step:O->α->O):∀(aO:List α) (s:O) (S:bE),(∀pre y post,aO=pre++y::post->∀S,R (pre.foldl step s) S->∃S1 S2,put (g y) S=J S1/\b S1 n=J (.bD,S2,n)/\R (step (pre.foldl step s) y) S2)->R s S ->
  ∃S',R (aO.foldl step s) S'/\fG put b (aO.map g) S n=J (.bD,S',n)
 |[],s,S,_,gZ=>⟨S,gZ,rfl⟩
 |y::aO,s,S,h,gZ=>by obtain⟨S1,S2,az,au,cp⟩:=h [] y aO rfl S gZ;obtain⟨S',hF,a6⟩:=Kr R step aO (step s y) S2 (λpre z post e S gZ=>h (y::pre) z post (by rw[e];rfl) S gZ) cp;refine⟨S',hF,?_⟩;rw[cU];unfold fG;simp only[az,eO,au];exact a6
def Vj(n:Nat)(af:l.H<100000)(ak:∀x∈l,-10000000000000<=x/\x<=10000000000000):xl n [.ao<|l.map .int]=J (.int<|cI l,.ag):=by
 have:(l.all λx=>decide (x.natAbs<=10000000000000))=Y0:=by rw[iM];intro x av;have:=ak x av;simp;lia
 show(e3<|l.map T.int).bind _=_;rw[n6,eO,Y2 ⟨af,this⟩]
def EG{n n':Nat}{j:Int}(h:a S n=J ([.int j],n'))(b6:-(bh:Int)<=j)(dA:j<=bh):iC a S n=J (ip 0 j,n'):=by unfold iC;rw[h];show(if-(bh:Int)<=j/\j<=bh then J (ip 0 j,n') else C)=_;rw[Y2 ⟨b6,dA⟩]
def akQ{n n':Nat}{i j:Int}(h:a S n=J ([.int i,.int j],n'))(b6:-(bh:Int)<=i)(dA:i<=bh)(j0:-(bh:Int)<=j)(q9:j<=bh):Gh a S n=J (ip i j,n'):=by unfold Gh;rw[h];show(if-(bh:Int)<=i/\i<=bh /\ -(bh:Int)<=j/\j<=bh then J (ip i j,n') else C)=_;rw[Y2 ⟨b6,dA,j0,q9⟩]
def Ks(m:Nat):ip 0 m=(List.range m).map λk=>.int (k:Nat):=by simp[ip]
theorem Kt{k:Nat}(go:∀t:T,d0 k t=Y0->dV t t=Y0):∀a:List T,(a.all<|d0 k)=Y0->iL a a=Y0
 |[],_=>rfl
 |x::a,h=>by rw[jV,f5]at h;show(dV x x&&iL a a)=Y0;rw[go x h.1,Kt go a h.2];rfl
def amB(t:T)(h:d0 0 t=Y0):dV t t=Y0:=by
 cases t with
 |br=>rfl
 |aC b=>show(b==b)=Y0;simp
 |int i=>show(i==i)=Y0;simp
 |str x=>show(x==x)=Y0;simp
 |_=>exists h
theorem Ku:∀(k:Nat) (t:T),d0 k t=Y0->dV t t=Y0
 |0,t,h=>amB t h
 |k+1,t,h=>by
  cases t with
  |aD a=>exact Kt (Ku k) a h
  |ao a=>exact Kt (Ku k) a h
  |br=>rfl
  |aC b=>show(b==b)=Y0;simp
  |int i=>show(i==i)=Y0;simp
  |str x=>show(x==x)=Y0;simp
  |_=>exists h
def AY(h:d0 6 t=Y0):o6 t t=J Y0:=by
 have e:=Ku 6 t h;have q:o6 t t=if(d0 6 t&&d0 6 t)=Y0 then J (dV t t) else C:=by
  cases t with
  |bk a=>exists h
  |_=>rfl
 rw[q,h,e];rfl
def adp{α:Type}{k:Nat}{f:α->T}{l:List α}(h:∀x∈l,d0 k (f x)=Y0):d0 (k+1) (.ao<|l.map f)=Y0:=by show(l.map f).all (d0 k)=Y0;rw[pR,iM];exact h
def at_neg(h:xs≠[])(e:xs.getLast h=t):gF xs (-1)=J t:=by have aB:0<xs.H:=GN.mpr h;unfold gF;rw[Y3 Z0,Y2 Z3,show(-1+(xs.H:Int)).M=xs.H-1 by lia];rw[<-e,List.getLast_eq_getElem];simp[aB]
end bj.bO
namespace bj.bO
variable {α:Type}
noncomputable def L4(b:bw):Option (hG×bE×Nat)->Option (hG×bE×Nat)
 |some (.bD,S,n)=>b S n
 |x=>x
def pl(a b:bw)(S:bE)(n:Nat):bL a b S n=L4 b (a S n):=by
 unfold bL;cases a S n with
 |none=>rfl
 |some r=>obtain⟨f,S1,aM⟩:=r;exists f<;>rfl
def AZ(b:bw)(S:bE)(n:Nat):L4 b (J (.bD,S,n))=b S n:=rfl
def ai9(b:bw)(S:bE)(n:Nat)(t:T)(o:Bool):L4 b (J (.aV t o,S,n))=J (.aV t o,S,n):=rfl
noncomputable def vw(a b:Nat->Option α):Option (Bool×Nat)->Option α
 |some (t,n)=>if t then a n else b n
 |none=>C
def ahb(c:fb)(a b:bw)(S:bE)(n:Nat):eG c a b S n=vw (a S) (b S) (c S n):=by unfold eG;cases c S n<;>rfl
def agw(c:fb)(a b:bM)(S:bE)(n:Nat):s7 c a b S n=vw (a S) (b S) (c S n):=by unfold s7;cases c S n<;>rfl
def jj(a b:Nat->Option α)(t:Bool)(n:Nat):vw a b (J (t,n))=if t then a n else b n:=rfl
def ahc(a b:Nat->Option α)(n:Nat):vw a b (J (Y0,n))=a n:=rfl
def ahd(a b:Nat->Option α)(n:Nat):vw a b (J (Y1,n))=b n:=rfl
noncomputable def L5(i:Nat)(S:bE):Option Zh->Option (hG×bE×Nat)
 |some (t,.aE,n)=>J (.bD,S.set i<|some (t,.aE),n)
 |some (t,.ag,n)=>J (.bD,S.set i Zp,n)
 |_=>C
def Mk(i:Nat)(d:bM)(S:bE)(n:Nat):dM i d S n=L5 i S (d S n):=by
 unfold dM;cases d S n with
 |none=>rfl
 |some r=>obtain⟨t,m,aM⟩:=r;exists m<;>rfl
def aja(i:Nat)(S:bE)(t:T)(n:Nat):L5 i S (J (t,.aE,n))=J (.bD,S.set i<|some (t,.aE),n):=rfl
def ajb(i:Nat)(S:bE)(t:T)(n:Nat):L5 i S (J (t,.ag,n))=J (.bD,S.set i Zp,n):=rfl
noncomputable def BC(S:bE):Option Zh->Option (hG×bE×Nat)
 |some (t,.aE,n)=>J (.aV t Y0,S,n)
 |some (t,.ag,n)=>J (.aV t Y1,S,n)
 |_=>C
def Gm(d:bM)(S:bE)(n:Nat):cT d S n=BC S (d S n):=by
 unfold cT;cases d S n with
 |none=>rfl
 |some r=>obtain⟨t,m,aM⟩:=r;exists m<;>rfl
def ajc(S:bE)(t:T)(n:Nat):BC S (J (t,.aE,n))=J (.aV t Y0,S,n):=rfl
def ajd(S:bE)(t:T)(n:Nat):BC S (J (t,.ag,n))=J (.aV t Y1,S,n):=rfl
def L6(n:Nat):Option (Option ZJ)->Option Zh
 |some (J (t,m))=>J (t,look m t,n)
 |_=>C
def Ml(i:Nat)(S:bE)(n:Nat):ai i S n=L6 n S[i]?:=by unfold ai L6;split<;>simp_all
def ahe(n:Nat)(t:T)(m:bo):L6 n (J<|some (t,m))=J (t,look m t,n):=rfl
noncomputable def yj(n:Nat):Option ZJ->Option Zh
 |some (t,m)=>J (t,m,n)
 |none=>C
noncomputable def Q5(g:eC):Option (List T×Nat)->Option Zh
 |some (aA,n)=>yj n<|g n aA
 |none=>C
def F8(g:eC)(a:gh)(S:bE)(n:Nat):aH g a S n=Q5 g (a S n):=by
 unfold aH;cases a S n with
 |none=>rfl
 |some r=>obtain⟨aA,aM⟩:=r;show(g aM aA).map _=yj aM (g aM aA);cases g aM aA<;>rfl
def agx(g:eC)(aA:List T)(n:Nat):Q5 g (J (aA,n))=yj n (g n aA):=rfl
def ahf(n:Nat)(t:T)(m:bo):yj n (J (t,m))=J (t,m,n):=rfl
noncomputable def EH(t:T):Option (List T×Nat)->Option (List T×Nat)
 |some (aA,n)=>J (t::aA,n)
 |none=>C
noncomputable def UB(r:gh)(S:bE):Option Zh->Option (List T×Nat)
 |some (t,_,n)=>EH t<|r S n
 |none=>C
def EI(d:bM)(r:gh)(S:bE)(n:Nat):aa d r S n=UB r S (d S n):=by
 unfold aa;cases d S n with
 |none=>rfl
 |some x=>obtain⟨t,m,aM⟩:=x;show(r S aM).map _=EH t (r S aM);cases r S aM<;>rfl
def aje(r:gh)(S:bE)(t:T)(m:bo)(n:Nat):UB r S (J (t,m,n))=EH t (r S n):=rfl
def akR(t:T)(aA:List T)(n:Nat):EH t (J (aA,n))=J (t::aA,n):=rfl
noncomputable def EJ(p:T×Bool):Option (List (T×Bool)×Nat)->Option (List (T×Bool)×Nat)
 |some (aA,n)=>J (p::aA,n)
 |none=>C
def NP(r:iy)(S:bE):Option Zh->Option (List (T×Bool)×Nat)
 |some (t,m,n)=>EJ (t,flag m t)<|r S n
 |none=>C
def adq(d:bM)(r:iy)(S:bE)(n:Nat):ax d r S n=NP r S (d S n):=by
 unfold ax;cases d S n with
 |none=>rfl
 |some x=>obtain⟨t,m,aM⟩:=x;show(r S aM).map _=EJ (t,flag m t) (r S aM);cases r S aM<;>rfl
def ads(r:iy)(S:bE)(t:T)(m:bo)(n:Nat):NP r S (J (t,m,n))=EJ (t,flag m t) (r S n):=rfl
def agy(p:T×Bool)(aA:List<|T×Bool)(n:Nat):EJ p (J (aA,n))=J (p::aA,n):=rfl
noncomputable def F9(n:Nat):Option T->Option Zh
 |some t=>J (t,.ag,n)
 |none=>C
def Q6:Option Zh->Option Zh
 |some (t,m,n)=>F9 n<|eo t m
 |none=>C
def agz(d:bM)(S:bE)(n:Nat):aY d S n=Q6 (d S n):=by
 unfold aY;cases d S n with
 |none=>rfl
 |some x=>obtain⟨t,m,aM⟩:=x;show(eo t m).map _=F9 aM (eo t m);cases eo t m<;>rfl
def agA(t:T)(m:bo)(n:Nat):Q6 (J (t,m,n))=F9 n (eo t m):=rfl
def ahg(n:Nat)(t:T):F9 n (J t)=J (t,.ag,n):=rfl
noncomputable def Gn(n:Nat):Option Bool->Option (Bool×Nat)
 |some b=>J (b,n)
 |none=>C
def T6:Option Zh->Option (Bool×Nat)
 |some (t,_,n)=>Gn n<|jF t
 |none=>C
def ahh(d:bM)(S:bE)(n:Nat):bK d S n=T6 (d S n):=by
 unfold bK;cases d S n with
 |none=>rfl
 |some x=>obtain⟨t,m,aM⟩:=x;show(jF t).map _=Gn aM (jF t);cases jF t<;>rfl
def ahi(t:T)(m:bo)(n:Nat):T6 (J (t,m,n))=Gn n (jF t):=rfl
def ajf(n:Nat)(b:Bool):Gn n (J b)=J (b,n):=rfl
noncomputable def T7:Option (Bool×Nat)->Option (Bool×Nat)
 |some (b,n)=>J (!b,n)
 |none=>C
def ahj(c:fb)(S:bE)(n:Nat):eu c S n=T7 (c S n):=by unfold eu;cases c S n<;>rfl
def k_not(b:Bool)(n:Nat):T7 (J (b,n))=J (!b,n):=rfl
def ahk(a b:fb)(S:bE)(n:Nat):pE a b S n=vw (b S) (λn=>J (Y1,n)) (a S n):=by unfold pE;cases a S n<;>rfl
def agB(a b:fb)(S:bE)(n:Nat):hY a b S n=vw (λn=>J (Y0,n)) (b S) (a S n):=by unfold hY;cases a S n<;>rfl
def Ga:Option (T×Bool×Nat)->Option Zh
 |some (t,b,n)=>J (t,eP b,n)
 |none=>C
def UC(dU:Nat)(f:cY):Option (List (T×Bool)×Nat)->Option Zh
 |some (aA,n)=>if aA.H=dU then Ga (f aA n) else C
 |none=>C
def ajg(dU:Nat)(f:cY)(a:iy)(S:bE)(n:Nat):bB dU f a S n=UC dU f (a S n):=by
 unfold bB;cases a S n with
 |none=>rfl
 |some x =>
  obtain⟨aA,aM⟩:=x;show(if aA.H=dU then(f aA aM).map _ else C)=if aA.H=dU then Ga (f aA aM) else C
  cases f aA aM<;>rfl
def akS(dU:Nat)(f:cY)(aA:List<|T×Bool)(n:Nat):UC dU f (J (aA,n))=if aA.H=dU then Ga (f aA n) else C:=rfl
def ahl(t:T)(b:Bool)(n:Nat):Ga (J (t,b,n))=J (t,eP b,n):=rfl
def adt(t:T)(S:bE)(n:Nat):aw t S n=J (t,.ag,n):=rfl
def ahm(S:bE)(n:Nat):ar S n=J ([],n):=rfl
def ajh(S:bE)(n:Nat):a9 S n=J ([],n):=rfl
def aji(S:bE)(n:Nat):e7 S n=J (.bD,S,n):=rfl
def T8:Option (List T×Nat)->Option Zh
 |some (aA,n)=>if aA.H<=bh then J (.aD aA,.ag,n) else C
 |none=>C
def ahn(a:gh)(S:bE)(n:Nat):cw a S n=T8 (a S n):=by unfold cw;cases a S n<;>rfl
def aho(aA:List T)(n:Nat):T8 (J (aA,n))=if aA.H<=bh then J (.aD aA,.ag,n) else C:=rfl
noncomputable def Gp(n:Nat):Option bE->Option (hG×bE×Nat)
 |some S=>J (.bD,S,n)
 |none=>C
noncomputable def T9(put:T->bE->Option bE)(S:bE):Option Zh->Option (hG×bE×Nat)
 |some (t,_,n)=>Gp n<|put t S
 |none=>C
def ahp(put:T->bE->Option bE)(d:bM)(S:bE)(n:Nat):TR put d S n=T9 put S (aY d S n):=by
 unfold TR;cases aY d S n with
 |none=>rfl
 |some x=>obtain⟨t,m,aM⟩:=x;show(put t S).map _=Gp aM (put t S);cases put t S<;>rfl
def k_put(put:T->bE->Option bE)(S:bE)(t:T)(m:bo)(n:Nat):T9 put S (J (t,m,n))=Gp n (put t S):=rfl
def ajj(n:Nat)(S:bE):Gp n (J S)=J (.bD,S,n):=rfl
noncomputable def Mm(b:bM)(S:bE):Option Zh->Option Zh
 |some (.aC Y0,_,n)=>b S n
 |some (.aC Y1,_,n)=>J (.aC Y1,.ag,n)
 |_=>C
def ajk(a b:bM)(S:bE)(n:Nat):rm a b S n=Mm b S (a S n):=by
 unfold rm;cases a S n with
 |none=>rfl
 |some x =>
  obtain⟨t,m,aM⟩:=x;cases t with
  |aC c=>exists c<;>rfl
  |_=>rfl
def akT(b:bM)(S:bE)(m:bo)(n:Nat):Mm b S (J (.aC Y0,m,n))=b S n:=rfl
def akU(b:bM)(S:bE)(m:bo)(n:Nat):Mm b S (J (.aC Y1,m,n))=J (.aC Y1,.ag,n):=rfl
def j9(i:Int):oj .int (.int i)=J Y0:=rfl
def kz(i:Int):oj .bool (.int i)=J Y1:=rfl
def iF(a:List T):oj .tuple (.aD a)=J Y0:=rfl
def jM(a:List T):oj .list (.ao a)=J Y0:=rfl
def kA(a:PySem.Str):oj .str (.str a)=J Y0:=rfl
def pn(n:Nat)(a b:Int):ek n [.int a,.int b]=J (.int<|a+b,.ag):=rfl
def vx(n:Nat)(a b:List T):ek n [.aD a,.aD b]=if a.H+b.H<=bh then J (.aD<|a++b,.ag) else C:=rfl
def EK(n:Nat)(a b:List T):ek n [.ao a,.ao b]=if a.H+b.H<=bh then J (.ao<|a++b,.aE) else C:=rfl
def ts(n:Nat)(a:List T)(i:Int):dv n [.ao a,.int i]=(gF a i).map λt=>(t,.ag):=rfl
def mA(n:Nat)(a:List T)(i:Int):dv n [.aD a,.int i]=(gF a i).map λt=>(t,.ag):=rfl
def Kv(n:Nat)(a:List<|ix×T)(k:T):dv n [.bk a,k]=(ke k).bind λk=>(iX a k).map λt=>(t,.ag):=rfl
def lr(n:Nat)(a:List T):fe n [.ao a]=J (.int a.H,.ag):=rfl
def g7(n:Nat)(a:List T):fe n [.aD a]=J (.int a.H,.ag):=rfl
def pq(n:Nat):fe n [.dq]=J (.int n,.ag):=rfl
def pv(n:Nat)(a:List<|ix×T):fe n [.bk a]=J (.int a.H,.ag):=rfl
def Vk(n:Nat)(a b:Int):kG n [.int a,.int b]=if small a||small b then J (.int<|a*b,.ag) else C:=rfl
def ajl(n:Nat)(a:List T):qq n [.ao a]=J (.aD a,.ag):=rfl
def akV(n:Nat)(a:List T):nV n [.aD a]=J (.ao a,.aE):=rfl
def EL(a b:List T):jQ (.ao a) (.ao b)=if a.H+b.H<=bh then J (.ao<|a++b) else C:=rfl
def n7(n:Nat)(a b:Int):gn n [.int a,.int b]=J (.aC<|a==b,.ag):=rfl
def xR(n:Nat)(a b:T):gn n [a,b]=(o6 a b).map λr=>(.aC r,.ag):=rfl
def xS(n:Nat)(a b:T):gp n [a,b]=(o6 a b).map λr=>(.aC<|!r,.ag):=rfl
def ajm(n:Nat)(a:List<|ix×T)(k x:T):mn n [.bk a,k,x]=if ho x then C else(ke k).map λk=>((iX a k).getD x,.ag):=rfl
def Vl(a:List<|ix×T)(k v:T):qN (.bk a) k v=(ke k).bind λk=>if a.H<bh then J (.bk<|j7 a k v) else C:=rfl
def UD(n:Nat)(a:List T)(y:Int):uZ n [.aD a,.int y]=(e3 a).map λns=>(.int (ns.filter λx=>x==y).H,.ag):=rfl
def xT(n:Nat)(a:List T):jk n [.ao a]=(hQ a).map λbs=>(.aC<|bs.all id,.ag):=rfl
def ajn(b:Bool):jF (.aC b)=J b:=rfl
def ajo(i:Int):jF (.int i)=J (i != 0):=rfl
def ajp(a:List T):jF (.ao a)=J (!a.isEmpty):=rfl
def ajq(a:List T):jF (.aD a)=J (!a.isEmpty):=rfl
def ajr(a:List<|ix×T):jF (.bk a)=J (!a.isEmpty):=rfl
def ajs:jF .br=J Y1:=rfl
def EM(S:bE)(n:Nat):Option (Option ZJ)->Option (hG×bE×Nat)
 |some (J (t,.aE))=>J (.aV t Y0,S,n)
 |some (J (t,.ag))=>J (.aV t Y1,S,n)
 |some (J (t,.cZ))=>if ho t then C else J (.aV t Y1,S,n)
 |_=>C
def agC(i:Nat)(S:bE)(n:Nat):s8 i S n=EM S n S[i]?:=by unfold s8 EM;rfl
def ahq(S:bE)(n:Nat)(t:T):EM S n (J<|some (t,.aE))=J (.aV t Y0,S,n):=rfl
def ahr(S:bE)(n:Nat)(t:T):EM S n (J Zp)=J (.aV t Y1,S,n):=rfl
end bj.bO
local macro_rules|`(tactic| simp![$l,*])=>`(tactic| simp [bj.bO.c0, bj.bO.pl, bj.bO.AZ, bj.bO.ai9, bj.bO.ahb, bj.bO.agw, bj.bO.ahc, bj.bO.ahd, bj.bO.Mk, bj.bO.aja, bj.bO.ajb, bj.bO.Gm, bj.bO.ajc, bj.bO.ajd, bj.bO.Ml, bj.bO.ahe, bj.bO.F8, bj.bO.agx, bj.bO.ahf, bj.bO.EI, bj.bO.aje, bj.bO.akR, bj.bO.adq, bj.bO.ads, bj.bO.agy, bj.bO.agz, bj.bO.agA, bj.bO.ahg, bj.bO.ahh, bj.bO.ahi, bj.bO.ajf, bj.bO.ahj, bj.bO.k_not, bj.bO.ahk, bj.bO.agB, bj.bO.ajg, bj.bO.akS, bj.bO.ahl, bj.bO.adt, bj.bO.ahm, bj.bO.ajh, bj.bO.aji, bj.bO.ahn, bj.bO.aho, bj.bO.ahp, bj.bO.k_put, bj.bO.ajj, bj.bO.ajk, bj.bO.akT, bj.bO.akU, bj.bO.eo, bj.bO.look, bj.bO.ho, bj.bO.flag, bj.bO.eP, bj.bO.ajn, bj.bO.ajo, bj.bO.ajp, bj.bO.ajq, bj.bO.ajr, bj.bO.ajs, bj.bO.agC, bj.bO.ahq, bj.bO.ahr, bj.bO.eT, bj.bO.DD, $l,*])
namespace bQ
open PySem bj bj.bO
def Kw:bw:=(bL (eG (hY (eu<|bK<|aH (dS .int) ZE)<|bK<|aH (dS .bool) ZE) Zb e7)<|cT<|gx fL fL (ai 1) (ai 0)<|ai 2)
def lu:cY:=c0 3<|Kw
def EN:bM:=et (fK<|ai 0) (ck [C,J 0]) (cB 0) yes<|bB 3 lu<|ax (ai 0)<|ax ZD<|ax (aw<|.int 30) a9
def xU:bw:=(bL (eG (hY (eu<|bK<|aH (dS .tuple) ZE)<|eu<|bK<|gx fL fL Z5 (aH fe ZE)<|aw<|.int 8) Zb e7)<|bL (dO 0<|eG (eu<|bK<|aH jk<|aa EN ar) Zb e7)<|cT<|aH gn<|aa (aH nV ZE)<|aa (aH rr ZE) ar)
def kB:cY:=c0 1<|xU
def Kx:bM:=et (fK<|ai 0) (ck [C,J 0]) (cB 0) yes<|bB 1 kB Z8
def A0:bw:=(bL (eG (hY (eu<|bK<|aH (dS .tuple) ZE)<|eu<|bK<|gx fL fL Z5 (aH fe ZE)<|aw<|.int 4) Zb e7)<|dO 0<|cT<|aH jk<|aa Kx ar)
def mB:cY:=c0 1<|A0
def EO:bw:=(bL (eG (hY (eu<|bK<|aH (dS .tuple) ZE)<|bK<|aH gp<|aa (aH fe ZE)<|aa ZC ar) Zb e7)<|cT<|rm (bB 3 lu<|ax (aH dv<|aa (ai 0) ZU)<|ax ZD<|ax (aw<|.int 120) a9)<|bB 3 lu<|ax (aH dv<|aa (ai 0)<|aa Z5 ar)<|ax Z5<|ax (aw<|.int 4096) a9)
def vy:cY:=c0 1<|EO
def EP:bM:=et (fK<|ai 0) (ck [C,J 0,J 1]) (cB 0) yes<|bB 1 vy Z8
def A1:bM:=et (fK<|ai 0) (ck [C,J 0,J 1]) (cB 0) yes<|aH dv<|aa (ai 0) ZU
def Ky:bw:=(bL (eG (hY (eu<|bK<|aH (dS .list) ZE)<|eu<|bK<|ai 0) Zb e7)<|bL (dO 0<|eG (eu<|bK<|aH jk<|aa EP ar) Zb e7)<|bL (dO 0<|dM 1 A1)<|cT<|aH gn<|aa (ai 1)<|aa (aH DH ZO) ar)
def kC:cY:=c0 2<|Ky
def Q7:bw:=(eG (eu<|bK<|bB 3 lu<|ax (ai 0)<|ax (ai 1) Ze) jh e7)
def tu:cY:=c0 3<|Q7
def Kz:dm:=(fH (eu<|bK<|bB 3 lu<|ax (ai 0)<|ax (ai 1) Ze) (mZ 3<|ux (ai 1)<|ux (ai 2) mf) fR)
def jN:e8:=fnX 3 Kz
def Q8:bw:=(eG (eu<|bK<|bB 1 kB Z8) jh e7)
def i1:cY:=c0 1<|Q8
def KA:dm:=(fH (eu<|bK<|bB 1 kB Z8) (mZ 0 mf) fR)
def h2:e8:=fnX 1 KA
def Q9:bw:=(eG (eu<|bK<|bB 1 mB Z8) jh e7)
def g8:cY:=c0 1<|Q9
def KC:dm:=(fH (eu<|bK<|bB 1 mB Z8) (mZ 1 mf) fR)
def h3:e8:=fnX 1 KC
def KD:bw:=(eG (eu<|bK<|bB 1 kC Z8) jh e7)
def lx:cY:=c0 1<|KD
def adu:dm:=(fH (eu<|bK<|bB 1 kC Z8) (mZ 2 mf) fR)
def m8:e8:=fnX 1 adu
def Ra:bw:=(qp 3 qN Zw<|aH ek<|aa (aH mn<|aa (ai 3)<|aa Zw ZU)<|aa (aH dv<|aa (ai 1)<|aa (ai 4) ar) ar)
def Rb:bw:=iK (iJ<|ai 2) (cB 5) Ra
def Rc:bw:=(fD 2 Rb)
def Rd:bw:=iK (iJ<|ai 1) (cB 4) Rc
def A2:bw:=(bL (dM 3 Md)<|bL (fD 1 Rd)<|ro 1 3)
def Rf:bw:=iK (iJ<|ai 0) (cB 2) A2
def Rg:bw:=(bL (dM 1<|Me ZD<|aY Z5)<|bL (fD 0 Rf)<|s8 1)
def n8:cY:=c0 6<|Rg
def Rh:bw:=(bL (eT<|bB 1 g8 Z8)<|cT<|aH DE<|aa (bB 1 n8 Z8) ar)
def rE:cY:=c0 1<|Rh
def amC:dm:=(dy (d1 1 h3 Z8) (eT<|bB 1 g8 Z8) fR)
def A3:e8:=fnX 1 amC
def ajt:dm:=(dy (d1 1 h3 Z8) (eT<|bB 1 g8 Z8)<|dy (d1 3 jN<|ax (ai 1)<|ax ZD<|ax (aw<|.int 120) a9) (eT<|bB 3 tu<|ax (ai 1)<|ax ZD<|ax (aw<|.int 120) a9) fR)
def ER:e8:=fnX 2 ajt
def Ri:bM:=et (fK<|ai 2) (ck Zf) (cB 0) yes Zu
def Rj:bw:=(dO 2<|hN 3 jQ Ri)
def Rk:bw:=iK (iJ<|ai 1) (cB 4) Rj
def Rl:bw:=(bL (dM 3<|dG ar)<|bL (fD 1 Rk)<|ro 1 3)
def KG:bw:=iK (iJ<|ai 0) (cB 2) Rl
def Rm:bw:=(bL (eT<|bB 1 g8 Z8)<|bL (dM 1<|dG<|aa (aY<|cw ar) ar)<|bL (fD 0 KG)<|cT<|aH xg ZO)
def vz:cY:=c0 5<|Rm
def akW:dm:=(dy (d1 1 h3 Z8) (eT<|bB 1 g8 Z8) fR)
def A4:e8:=fnX 5 akW
def Rn:bM:=et (fK<|ai 4) (ck Zf) (cB 0) (bK<|aH gp<|aa (aH mn<|aa (ai 3)<|aa (ai 0) ZU)<|aa (aH mn<|aa (ai 4)<|aa (ai 0) ZU) ar)<|ai 0
def Ro:bw:=(bL (eT<|bB 1 g8 Z8)<|bL (eT<|bB 1 g8 ZR)<|bL (dM 2<|bB 1 n8 Z8)<|bL (dM 3<|bB 1 n8 ZR)<|bL (dM 4<|aH ek<|aa (aH nV ZV)<|aa (aH nV<|aa (ai 3) ar) ar)<|dO 4<|cT<|aH Mi<|aa Rn ar)
def vA:cY:=c0 5<|Ro
def amD:dm:=(dy (d1 1 h3 Z8) (eT<|bB 1 g8 Z8)<|dy (d1 1 h3 ZR) (eT<|bB 1 g8 ZR) fR)
def ES:e8:=fnX 5 amD
def Rp:bw:=(cT<|aH oh<|aa (bB 2 vA<|ax (ai 0) ZR) ar)
def xV:cY:=c0 2<|Rp
def akX:dm:=(d1 2 ES<|ax (ai 0) ZR)
def ET:e8:=fnX 2 akX
def Rq:bM:=et (fK<|ai 0) (ck [C,J 0,J 1]) (cB 0) (bK<|aH eF<|aa (ai 0) ZV)<|ai 0
def Rr:bw:=(dO 0<|cT<|aH fe<|aa Rq ar)
def EU:cY:=c0 2<|Rr
def Rt:bM:=et (fK<|ai 0) (ck [C,J 0,J 1,J 2,J 3]) (cB 0) yes<|bB 2 EU<|ax (ai 2) Z8
def Ru:bM:=et (fK<|ai 0) (ck [C,J 0,J 1,J 2,J 3]) (cB 0) yes<|aH uZ<|aa (ai 2) ZE
def Vm:bw:=(bL (eT<|bB 1 i1 Z8)<|bL (eT<|bB 1 i1 ZR)<|bL (dO 0<|dM 2<|aH xl<|aa Rt ar)<|bL (dO 0<|dM 3<|aH xl<|aa Ru ar)<|cT<|cw<|aa (aY<|ai 2)<|aa (aY<|ai 3)<|aa (aY<|aH kc<|aa (aH kc<|aa (aH kG<|aa (aH fe ZE)<|aa (aH fe ZO) ar) ZV)<|aa (ai 3) ar) ar)
def m9:cY:=c0 4<|Vm
def aju:dm:=(dy (d1 1 h2 Z8) (eT<|bB 1 i1 Z8)<|dy (d1 1 h2 ZR) (eT<|bB 1 i1 ZR) fR)
def nc:e8:=fnX 4 aju
def Rv:bw:=(bL (dM 2<|bB 2 m9<|ax (ai 0) ZR)<|cT<|aH rn<|aa (aH dv<|aa (ai 2) ZU)<|aa (aH dv<|aa (ai 2)<|aa ZC ar) ar)
def qE:cY:=c0 3<|Rv
def akY:dm:=(dy (d1 2 nc<|ax (ai 0) ZR) (dM 2<|bB 2 m9<|ax (ai 0) ZR) fR)
def tv:e8:=fnX 3 akY
def Rw:bM:=et (Gh<|aa (aH ek<|aa (aH dv<|aa (ai 1) ZU)<|aa Z5 ar)<|aa (aH fe ZE) ar) (ck [C,J 0,J 1,J 2]) (cB 0) (bK<|aH Kc<|aa (ai 0) ZV)<|ai 0
def Rx:bM:=et (fK<|ai 2) (ck [C,J 0,J 1,J 2]) (cB 0) (bK<|aH dv<|aa (aH dv<|aa (ai 1)<|aa (aH dv<|aa (ai 2)<|aa (aH pF<|aa Z5 ar) ar) ar) ZE)<|aH ek<|aa (ai 2)<|aa (cw<|aa (aY<|ai 0) ar) ar
def Ry:bw:=(bL (dM 2 Rw)<|dO 2<|cT Rx)
def A5:cY:=c0 3<|Ry
def Rz:bM:=et (iC<|aa (aH fe ZO) ar) (ck [C,J 0,J 1]) (cB 0) yes<|aH dv<|aa (aH dv<|aa (ai 1)<|aa (aH dv<|aa (ai 2)<|aa (aH kc<|aa (ai 0)<|aa Z5 ar) ar) ar)<|aa (aH dv<|aa (ai 2) ZE) ar
def RA:bw:=(cT<|aH jk<|aa Rz ar)
def xW:cY:=c0 2<|RA
def KH:bM:=et (iC<|aa (aH fe ZE) ar) (ck Zf) (cB 0) yes<|cw<|aa (aY<|ai 0) ar
def KI:bw:=(hN 3 jQ<|bB 2 A5<|ax (ai 0)<|ax (ai 4) a9)
def KJ:bw:=iK (iJ<|ai 2) (cB 4) KI
def KL:bM:=et (fK<|ai 3) (ck [J 0,J 1,J 2,J 3,C]) (cB 4) (bK<|bB 2 xW<|ax (ai 0)<|ax (ai 4) a9)<|ai 4
def A6:bw:=(bL (dM 3<|dG ar)<|bL (fD 2 KJ)<|bL (dO 3<|hN 1 jQ KL)<|ro 2 3)
def KN:bw:=DC (bK<|ai 2) A6
def RB:bw:=(bL (dM 1<|dG ar)<|bL (dM 2 KH)<|bL KN<|cT<|aH rt ZO)
def EV:cY:=c0 5<|RB
def KP:bM:=et (fK<|ai 0) (ck [C,J 0,J 1,J 2]) (cB 0) yes<|bB 2 qE<|ax (ai 3) Z8
def RC:bw:=(dO 0<|hN 1 rT KP)
def KQ:bw:=iK (iJ<|ai 0) (cB 2) RC
def RD:bw:=(bL (dM 1<|dG ar)<|bL (fD 0 KQ)<|s8 1)
def xX:cY:=c0 3<|RD
def RE:bw:=(bL (eT<|bB 1 g8 Z8)<|cT<|bB 1 EV<|ax (bB 1 xX Z8) a9)
def vB:cY:=c0 1<|RE
def adv:dm:=(dy (d1 1 h3 Z8) (eT<|bB 1 g8 Z8) fR)
def A7:e8:=fnX 1 adv
def adw:bM:=et (fK<|ai 0) (ck [C,J 0,J 1]) (cB 0) yes<|bB 3 lu<|ax (ai 0)<|ax ZD<|ax (aH kc<|aa (ai 2)<|aa Z5 ar) a9
def adx:bw:=(bL (eG (hY (eu<|bK<|aH (dS .tuple) ZE)<|bK<|aH eF<|aa (aH fe ZE)<|aa ZC ar) Zb e7)<|bL (dO 0<|eG (eu<|bK<|aH jk<|aa adw ar) Zb e7)<|cT<|aH gn<|aa (aH Pe ZE)<|aa (aH fe ZE) ar)
def KR:cY:=c0 2<|adx
def RF:bw:=(bL (eT<|bB 1 g8 Z8)<|cT<|rm (bB 2 KR<|ax (ai 1)<|ax (aH fe ZE) a9)<|bB 2 xW<|ax (bB 1 xX Z8) ZR)
def EW:cY:=c0 2<|RF
def ady:dm:=(dy (d1 1 h3 Z8) (eT<|bB 1 g8 Z8) fR)
def KS:e8:=fnX 2 ady
def KU:bM:=et (fK<|ai 1) (ck [C,J 0,J 1,J 2]) (cB 0) yes<|aH dv<|aa (aH dv<|aa (ai 1) ZE)<|aa (ai 3) ar
def RG:bw:=(dO 1<|cT<|xf<|bK<|aH L0<|aa KU ar)
def EX:cY:=c0 3<|RG
def EY:bM:=et (fK<|ai 3) (ck Zf) (cB 0) (bK<|bB 3 EX<|ax (ai 2)<|ax (ai 4) Z8)<|ai 0
def KV:bM:=et (fK<|ai 3) (ck Zf) (cB 0) (bK<|aH gp<|aa (ai 0)<|aa (aH dv<|aa (ai 5) ZU) ar)<|ai 0
def tx:bw:=(bL (dO 3<|dM 4 EY)<|bL (eG (eu<|bK<|ai 4) (cT<|aw .br) e7)<|bL (hN 2 rT<|aH dv<|aa (ai 4) ZU)<|dO 3<|dM 3 KV)
def EZ:bw:=DC (bK<|ai 3) tx
def RH:bw:=(bL (eT<|bB 1 g8 Z8)<|bL (dM 1<|bB 1 xX Z8)<|bL (dM 2<|dG ar)<|bL (dM 3<|z1<|aa (aH fe ZE) ar)<|bL EZ<|s8 2)
def vC:cY:=c0 5<|RH
def akZ:dm:=(dy (d1 1 h3 Z8) (eT<|bB 1 g8 Z8) fR)
def A8:e8:=fnX 5 akZ
def amE:dm:=(dy (d1 1 h3 Z8) (eT<|bB 1 g8 Z8)<|dy (d1 3 jN<|ax (ai 1)<|ax ZD<|ax (aw<|.int 999) a9) (eT<|bB 3 tu<|ax (ai 1)<|ax ZD<|ax (aw<|.int 999) a9) fR)
def E0:e8:=fnX 2 amE
def tB:bw:=(eT<|bB 3 tu Z02)
def E1:bw:=iK (iJ<|ai 1) (cB 4) tB
def adz:bw:=(bL (eT<|bB 1 lx Z8)<|bL (eG (hY (eu<|bK<|aH (dS .tuple) ZO)<|bK<|aH gp<|aa (aH fe ZO) ZV) jh e7)<|bL (fD 1 E1)<|eT<|bB 3 tu<|ax (ai 3)<|ax ZD<|ax (aw<|.int 30) a9)
def KW:cY:=c0 5<|adz
def adA:dm:=(dy (d1 1 m8 Z8) (eT<|bB 1 lx Z8)<|dy (fH (hY (eu<|bK<|aH (dS .tuple) ZO)<|bK<|aH gp<|aa (aH fe ZO) ZV) (mZ 3<|ux (ai 2) mf) fR) (eG (hY (eu<|bK<|aH (dS .tuple) ZO)<|bK<|aH gp<|aa (aH fe ZO) ZV) jh e7)<|dy (F2 (iJ<|ai 1) (cB 4) tB<|d1 3 jN Z02) (fD 1 E1)<|d1 3 jN<|ax (ai 3)<|ax ZD<|ax (aw<|.int 30) a9)
def E2:e8:=fnX 5 adA
def rF:bw:=(bL (qp 2 qN (ai 3)<|aH kc<|aa (aH mn<|aa (ai 2)<|aa (ai 3) ZU)<|aa (aH dv<|aa (ai 1)<|aa (ai 3) ar) ar)<|eG (bK<|aH eF<|aa (aH dv<|aa (ai 2)<|aa (ai 3) ar) ZU) (cT<|aw .br) e7)
def vD:bw:=iK (iJ<|ai 1) (cB 3) rF
def KX:bM:=et (fK<|ai 2) (ck [J 0,J 1,J 2,C]) (cB 3) (bK<|aH rn<|aa (aH dv<|aa (ai 2)<|aa (ai 3) ar) ZU)<|cw<|aa (aY<|ai 3)<|aa (aY<|aH dv<|aa (ai 2)<|aa (ai 3) ar) ar
def KY:bw:=(bL (dM 2<|aH xh ZE)<|bL (fD 1 vD)<|dO 2<|cT<|aH xh<|aa KX ar)
def vE:cY:=c0 4<|KY
def adB:dm:=(dy (d1 4 E2<|ax (ai 0)<|ax (ai 1)<|ax ZC Ze) (eT<|bB 4 KW<|ax (ai 0)<|ax (ai 1)<|ax ZC Ze) fR)
def E3:e8:=fnX 3 adB
def adC:bw:=(bL (dM 4<|aH vX ZV)<|bL (dM 5<|aH kc<|aa (ai 4)<|aa (aH dv<|aa (ai 1) ZU) ar)<|bL (dM 6<|aH F1<|aa (aH dv<|aa (ai 2)<|aa (ai 4) ar)<|aa (aH uZ<|aa (ai 1)<|aa (aH dv<|aa (ai 1) ZU) ar) ar)<|bL (eG (hY (bK<|aH eF<|aa (ai 5) ZU)<|bK<|aH gn<|aa (ai 6) ZU) (cT<|aw .br) e7)<|bL (dM 7<|aH kG<|aa (cw<|aa (aY<|ai 5) ar)<|aa (ai 6) ar)<|bL (dM 2<|bB 2 vE<|ax (ai 2)<|ax (bB 1 n8<|ax (cw<|aa (aY<|ai 7)<|aa (aY<|ai 1) ar) a9) a9)<|bL (eG (bK<|aH oh ZV) (cT<|aw .br) e7)<|hN 3 jQ<|ai 7)
def A9:bw:=DC (bK<|ai 2) adC
def RI:bw:=(bL (eT<|bB 1 lx Z8)<|bL (eT<|bB 1 i1 ZR)<|bL (dM 2<|aH xh ZE)<|bL (dM 3<|dG ar)<|bL A9<|cT<|aH qq<|aa (ai 3) ar)
def Ba:cY:=c0 8<|RI
def adD:dm:=(dy (d1 1 m8 Z8) (eT<|bB 1 lx Z8)<|dy (d1 1 h2 ZR) (eT<|bB 1 i1 ZR) fR)
def Bb:e8:=fnX 8 adD
def adE:dm:=(dy (d1 1 h2 Z8) (eT<|bB 1 i1 Z8)<|dy (d1 1 h2 ZR) (eT<|bB 1 i1 ZR)<|dy (d1 3 jN<|ax (ai 2)<|ax ZD<|ax (aw<|.int 30) a9) (eT<|bB 3 tu<|ax (ai 2)<|ax ZD<|ax (aw<|.int 30) a9) fR)
def vF:e8:=fnX 5 adE
def RJ:bw:=(bL (eG (bK<|aH eF<|aa (ai 1)<|aa (aH fe ZE) ar) (cT<|aH dv<|aa (ai 0) ZO) e7)<|bL (eG (bK<|aH gn<|aa (ai 0)<|aa (dG ar) ar) (cT ZD) e7)<|cT<|aH ek<|aa (aH kG<|aa (aH dv<|aa (ai 0)<|aa (aH og<|aa (ai 1)<|aa (aH fe ZE) ar) ar)<|aa (aw<|.int 31) ar) ZO)
def E4:cY:=c0 2<|RJ
def RK:bw:=(bL (dM 3<|aH og<|aa (aH kG<|aa (aH ek<|aa (aH ek<|aa (bB 2 E4<|ax (ai 0) ZR)<|aa (aH kG<|aa (aw<|.int 7919) ZO) ar)<|aa Z5 ar)<|aa (aw<|.int 48271) ar)<|aa (aw<|.int 2147483647) ar)<|cT<|aH og<|aa (aH og<|aa (aH ek<|aa (aH ek<|aa (aH kG<|aa (ai 3)<|aa (ai 3) ar)<|aa (aH kG<|aa (aw<|.int 7)<|aa (ai 3) ar) ar) ZO)<|aa (aw<|.int 2147483629) ar) ZV)
def E5:cY:=c0 4<|RK
def RL:bw:=(bL (DD 1)<|cT<|bB 3 E5<|ax (ai 0)<|ax (aH fe ZO) Ze)
def ka:cY:=c0 3<|RL
def RM:bw:=(cT<|aH dv<|aa (ai 2)<|aa (bB 3 ka<|ax (ai 0)<|ax (ai 1)<|ax (aH fe ZV) a9) ar)
def qF:cY:=c0 3<|RM
def RN:bM:=et (iC ZV) (ck [C,J 0,J 1,J 2,J 3,J 4,J 5,J 6]) (cB 0) yes<|aH vX<|aa (ai 4)<|aa (aH ek<|aa (ai 5)<|aa (bB 3 ka<|ax (ai 1)<|ax (ai 2)<|ax (ai 6) a9) ar) ar
def RO:bw:=(bL (dM 4<|bB 3 qF<|ax (ai 0)<|ax (ai 1)<|ax (dG<|aa (aY ZD)<|aa (aY ZD)<|aa (aY Z5)<|aa (aY Z5)<|aa (aY<|bB 3 ka<|ax (ai 0)<|ax (ai 1)<|ax (aw<|.int 20) a9) ar) a9)<|bL (dM 5<|bB 3 qF<|ax (ai 0)<|ax (ai 1)<|ax (dG<|aa (aY Z5)<|aa (aY Zg)<|aa (aY<|aw<|.int 6)<|aa (aY<|aw<|.int 12) ar) a9)<|bL (dM 6 RN)<|cT<|aH qq<|aa (aH rr<|aa (ai 6) ar) ar)
def tC:cY:=c0 7<|RO
def RQ:bM:=et (iC ZV) (ck [C,J 0,J 1,J 2,J 3]) (cB 0) yes<|bB 4 tC<|ax (ai 1)<|ax (ai 2)<|ax (aH ek<|aa Z5<|aa (bB 3 ka<|ax (ai 1)<|ax (ai 2)<|ax (ai 4) a9) ar)<|ax (aw<|.int 30) a9
def RS:bw:=(cT<|aH qq<|aa RQ ar)
def vG:cY:=c0 4<|RS
def RT(e:Nat)(bG:Nat->Bool):bw:=(bL (dM 1<|dG<|aa (aY<|aH (m1 e<|bG 0) ZE)<|aa (aY<|aH (m1 e<|bG 1) ZE)<|aa (aY<|aH (m1 e<|bG 2) ZE)<|aa (aY<|aH (m1 e<|bG 3) ZE) ar)<|bL (hN 1 jQ<|dG<|aa (aY<|aH (m1 e<|bG 4) ZE)<|aa (aY<|aH (m1 e<|bG 5) ZE) ar)<|bL (eG (hY (bK<|aH gp<|aa (aH I6<|aa (ai 1)<|aa (aw<|.aC Y0) ar)<|aa Z5 ar)<|eu<|bK<|aH (m1 e<|bG 11) ZE) (cT<|cw<|aa ZL<|aa (aY<|aH pF<|aa Z5 ar) ar) e7)<|cT<|cw<|aa ZL<|aa (aY<|aH Ew<|aa (ai 1)<|aa (aw<|.aC Y0) ar) ar)
def rG(e:Nat)(bG:Nat->Bool):cY:=c0 2<|RT e bG
noncomputable def RU:Nat->Option T:=λc=>if c<6 then J (.aD [.str "refused",.int c]) else C
def KZ:cY:=c0 5 jh
def nd:bw:=(bL (dM 4<|aH vX ZV)<|bL (dM 5<|aH kc<|aa (ai 4)<|aa (aH dv<|aa (ai 1) ZU) ar)<|bL (dM 6<|aH F1<|aa (aH dv<|aa (ai 2)<|aa (ai 4) ar)<|aa (aH uZ<|aa (ai 1)<|aa (aH dv<|aa (ai 1) ZU) ar) ar)<|bL (eG (hY (bK<|aH eF<|aa (ai 5) ZU)<|bK<|aH gn<|aa (ai 6) ZU) (cT<|aw .br) e7)<|bL (dM 7<|aH kG<|aa (cw<|aa (aY<|ai 5) ar)<|aa (ai 6) ar)<|bL (dM 2<|bB 2 vE<|ax (ai 2)<|ax (bB 1 n8<|ax (cw<|aa (aY<|ai 7)<|aa (aY<|ai 1) ar) a9) a9)<|bL (eG (bK<|aH oh ZV) (cT<|aw .br) e7)<|hN 3 jQ<|ai 7)
end bQ
namespace je
open PySem bj bj.bO
def adF(e n:Nat)(bG:Nat->Bool)(i:Int)(af:I6 n [.ao [.aC<|bG 0,.aC<|bG 1,.aC<|bG 2,.aC<|bG 3,.aC<|bG 4,.aC<|bG 5],.aC Y0]=J (.int 1,.ag))(ak:bG 11=Y0)(bc:Ew n [.ao [.aC<|bG 0,.aC<|bG 1,.aC<|bG 2,.aC<|bG 3,.aC<|bG 4,.aC<|bG 5],.aC Y0]=J (.int i,.ag)):bQ.rG e bG [(.bJ e,Y0)] n=J (.aD [.str "refused",.int i],Y1,n):=by have q:∀b,m1 e b n [.bJ e]=J (.aC b,.ag):=λb=>Y2 rfl;have aX:gp n [.int 1,.int 1]=J (.aC Y1,.ag):=rfl;unfold bQ.rG bQ.RT;simp![dG,q,hN,EL,bh,af,ak,bc,aX]
def Bc(e n c:Nat)(h:c<6):bQ.rG e (λj=>j==c||j==11) [(.bJ e,Y0)] n=J (.aD [.str "refused",.int c],Y1,n):=by
 have:c=0\/c=1\/c=2\/c=3\/c=4\/c=5:=by omega
 rcases this with rfl|rfl|rfl|rfl|rfl|rfl<;>exact adF e n _ _ rfl rfl rfl
end je
namespace je
open PySem bj bj.bO bQ
def ak0(ns:List Int)(k:Int)(aW:0<=k)(n:Nat):∃c,E4 [ZQ,(.int k,Y0)] n=J (.int c,Y1,n):=by
 unfold E4 RJ;by_cases h:k<ns.H
 ·obtain⟨c,_,e⟩:=Q3 ns k aW h;refine⟨c,?_⟩;simp![jj,eF,dZ,lr,g7,pq,pv,ts,mA,Kv,h,e]
 ·cases rl:ns with
  |nil =>
   refine⟨0,?_⟩;subst rl;have:¬k<0:=h;have he:gn n [.ao [],.ao []]=J Zk:=rfl;simp![jj,eF,dZ,lr,he,dG,this]
  |cons x xs =>
   rw[<-rl];have m5:0<ns.H:=by rw[rl];simp
   have aB:(0:Int)<ns.H:=by lia
   have m0:=He k (b:=ns.H)<|B8 aB;have cR:=Hd k aB;obtain⟨c,_,e⟩:=Q3 ns (k%ns.H) m0 cR;have a7:o6 (.ao<|ns.map T.int) (.ao [])=J Y1:=by have aF:=Kn 5 ns;show(if(d0 6 (.ao<|ns.map T.int)&&d0 6 (.ao []))=Y0 then J (dV (.ao<|ns.map T.int)<|.ao []) else C)=_;rw[show d0 6 (.ao<|ns.map T.int)=Y0 from aF];subst rl;rfl
   refine⟨c*31+k,?_⟩;simp![jj,eF,dZ,lr,g7,pq,pv,ts,mA,Kv,h,e,xR,a7,dG,og,m5,Vk,pn,vx,EK,small]
structure kb (most:Nat) (d:List Int):Prop where
 one:1<=d.H
 most:d.H<=most
 hJ:∀x∈d,0<=x/\x<=30
 up:d.Pairwise (·<=·)
structure iq (most ahs:Nat) (ds:List ZA):Prop where
 one:1<=ds.H
 most:ds.H<=most
 aL:∀d∈ds,kb ahs d
def xY(i lo hi:Int)(n:Nat)(af:lo<=i)(ak:i<=hi):lu [(.int i,Y0),(.int lo,Y0),(.int hi,Y0)] n=J (.aC Y0,Y1,n):=by unfold lu Kw;simp![jj,dS,j9,kz,iF,jM,kA,gx,fL,dZ,af,ak]
def rH{F:Nat}(h:kb F d)(cx:F<=8)(n:Nat):kB [(aG d,Y0)] n=J (.aC Y0,Y1,n):=by
 have de:bh=1000000:=rfl;have fh:=h.one;have fF:=h.most;have au:EN [J (.aD<|d.map .int,.ag)] n=J (.ao (d.map λ_=>T.aC Y0),.aE,n) :=
  ik d T.int (λ_=>.aC Y0) rfl Z3 λy aK=>by have hi:=h.hJ y aK;simp![jj,ck,xY y 0 30 n hi.1 hi.2]
 obtain⟨bs,cq,cE⟩:=Ko (λ_:Int=>T.aC Y0) d λ_ _=>rfl;simp at cE;have a6:sortI d=d:=(zX (.refl d) h.up).symm;unfold kB xU;have fc:(1:Int)<=d.H:=by lia
 have fP:(d.H:Int)<=8:=by lia
 have adG:d.H<64:=(gT fF<|gT cx Z0)
 have bX:rr n [.aD<|d.map T.int]=J (.ao<|d.map .int,.aE):=by simp[rr,n6,a6,adG]
 have eR:o6 (.ao<|d.map T.int) (.ao<|d.map T.int)=J Y0:=AY<|Kn 5 d;generalize d.map (λ_=>T.aC Y0)=aA at au cq;unfold aG;simp![jj,dO,dS,j9,kz,iF,jM,kA,gx,fL,dZ,lr,g7,pq,pv,fh,fc,fP,au,bX,eR,akV,xR,xT,cq,cE]
def E6{M F:Nat}(h:iq M F ds)(ei:M<=4)(cx:F<=8)(n:Nat):mB [Zc] n=J (.aC Y0,Y1,n):=by
 have de:bh=1000000:=rfl;have fh:=h.one;have fF:=h.most;have au:Kx [J (.aD ZB,.ag)] n=J (.ao (ds.map λ_=>T.aC Y0),.aE,n) :=
  ik ds aG (λ_=>.aC Y0) rfl Z3 λd hd=>by simp![jj,ck,rH (h.aL d hd) cx n]
 obtain⟨bs,cq,cE⟩:=Ko (λ_:List Int=>T.aC Y0) ds λ_ _=>rfl;have fc:(1:Int)<=ds.H:=by lia
 have fP:(ds.H:Int)<=4:=by lia
 simp at cE;generalize ds.map (λ_=>T.aC Y0)=aA at au cq;unfold mB A0;simp![jj,dS,j9,kz,iF,jM,kA,gx,fL,dZ,lr,g7,pq,pv,fh,fc,fP,dO,au,xT,cq,cE]
def rI{F:Nat}(h:kb F d)(cx:F<=8)(n:Nat):i1 [(aG d,Y0)] n=J Zd:=by unfold i1 Q8;simp![jj,rH h cx n]
def pw{M F:Nat}(h:iq M F ds)(ei:M<=4)(cx:F<=8)(n:Nat):g8 [Zc] n=J Zd:=by unfold g8 Q9;simp![jj,E6 h ei cx n]
noncomputable def more(rows:List ZA)(d:List Int):List ZA:=rows.flatMap λr=>d.map λf=>r++[f]
noncomputable def il(ds:List ZA):List ZA:=ds.foldl more [[]]
theorem E7(d:List Int):∀rows:List ZA,(more rows d).H=rows.H*d.H
 |[]=>by simp[more]
 |r::rows=>by have:=E7 d rows;unfold more at this |-;rw[nr,gr,this,cP,d9,se,yF]
def adH(r d:List Int)(x0 bH bY:Option ZJ)(n:Nat)(aU:r.H<=10)(hd:d.H<=8) :
  et (fK<|ai 2) (ck Zf) (cB 0) yes Zu [x0,bH,J (aG d,.ag),bY,J (aG r,.ag)] n=J (.ao<|(d.map λf=>r++[f]).map aG,.aE,n):=by
 have de:bh=1000000:=rfl;have az:iV (cB 0) yes Zu (d.map T.int) [C,x0,bH,J (aG d,.ag),bY,J (aG r,.ag)] n []
   = J ([]++((d.map T.int).filter λ_=>Y0).map (λt=>T.aD<|r.map .int++[t]),n):=by
  refine Kq (R:=λS=>∃a,S=[a,x0,bH,J (aG d,.ag),bY,J (aG r,.ag)]) (p:=λ_=>Y0) (f:=λt=>T.aD<|r.map .int++[t]) (d.map T.int) (λx av S n gZ=>?_) _ n [] ⟨C,rfl⟩ (by simp;lia);obtain⟨a,rfl⟩:=gZ;obtain⟨i,hi,rfl⟩:=ez.mp av;refine⟨_,rfl,⟨_,rfl⟩,rfl,λ_=>?_⟩;have af:r.H+1<=bh:=by lia
  have ak:1<=bh:=by decide
  simp![pn,vx,EK,aG,cw,af,ak]
 have au:((d.map T.int).filter λ_=>Y0).map (λt=>T.aD<|r.map .int++[t])=(d.map λf=>r++[f]).map aG:=by rw[yq.mpr (λ_ _=>rfl),ci,ci];refine mH λf _=>?_;simp[aG]
 rw[au,pQ]at az;generalize (d.map λf=>r++[f]).map aG=out at az |-;have aP:ck Zf [x0,bH,J (aG d,.ag),bY,J (aG r,.ag)]=[C,x0,bH,J (aG d,.ag),bY,J (aG r,.ag)]:=rfl;unfold et;rw[show fK (ai 2) [x0,bH,J (aG d,.ag),bY,J (aG r,.ag)] n=J (d.map T.int,n) from rfl];simp only[eO];rw[aP,az];rfl
theorem inner(d:List Int)(hd:d.H<=8)(x0 bH:Option ZJ)(n:Nat):∀(rows longer:List ZA) (c:Option ZJ),(∀r∈rows,r.H<=10)->longer.H+rows.H*d.H<=100000 ->
  ∃cH,fG (cB 4) (dO 2<|hN 3 jQ<|et (fK<|ai 2) (ck Zf) (cB 0) yes Zu) (rows.map aG) [x0,bH,J (aG d,.ag),J (.ao<|longer.map aG,.aE),c] n
   = J (.bD,[x0,bH,J (aG d,.ag),J (.ao<|(longer++more rows d).map aG,.aE),cH],n)
 |[],longer,c,_,_=>⟨c,by simp[fG,more]⟩
 |r::rows,longer,c,aU,aB=>by
  have de:bh=1000000:=rfl;rw[d9,se]at aB;obtain⟨cH,e⟩:=inner d hd x0 bH n rows (longer++d.map λf=>r++[f]) (J (aG r,.ag)) (λb5 n4=>aU b5<|am _ n4) (by simp;lia);refine⟨cH,?_⟩;have az:=adH r d x0 bH (J (.ao<|longer.map aG,.aE)) n (aU r<|dT ..) hd;have hz:longer.H+d.H<=bh:=by lia
  rw[cU];unfold fG;have au:dO 2 (hN 3 jQ<|et (fK<|ai 2) (ck Zf) (cB 0) yes Zu) [x0,bH,J (aG d,.ag),J (.ao<|longer.map aG,.aE),J (aG r,.ag)] n
    = J (.bD,[x0,bH,J (aG d,.ag),J (.ao<|(longer++d.map λf=>r++[f]).map aG,.aE),J (aG r,.ag)],n):=by
   have:dO 2 (hN 3 jQ<|et (fK<|ai 2) (ck Zf) (cB 0) yes Zu) [x0,bH,J (aG d,.ag),J (.ao<|longer.map aG,.aE),J (aG r,.ag)] n=hN 3 jQ (et (fK<|ai 2) (ck Zf) (cB 0) yes Zu) [x0,bH,J (aG d,.ag),J (.ao<|longer.map aG,.aE),J (aG r,.ag)] n:=rfl;rw[this,EF (u:=.ao<|longer.map aG) (t':=.ao<|(longer++d.map λf=>r++[f]).map aG) az rfl<|by simp[EL,hz]];rfl
  simp only[bj.bO.cB,kN,kO,eO,au];rw[e];simp[more,h7]
noncomputable def v5(ds:List ZA):Nat:=ds.foldl (λm d=>m*d.H) 1
theorem cj:∀(ds:List ZA) (rows:List ZA) (x0 a b c:Option ZJ) (n k:Nat),(∀d∈ds,d.H<=8)->k+ds.H<=10->(∀r∈rows,r.H=k)->rows.H*(8^ds.H)<=100000 ->
  ∃gK gV cH,fG (cB 2) (bL (dM 3<|dG ar)<|bL (fD 1<|iK (iJ<|ai 1) (cB 4)<|dO 2<|hN 3 jQ<|et (fK<|ai 2) (ck Zf) (cB 0) yes Zu)<|ro 1 3) ZB [x0,J (.ao<|rows.map aG,.aE),a,b,c] n
   = J (.bD,[x0,J (.ao<|(ds.foldl more rows).map aG,.aE),gK,gV,cH],n)/\(∀r∈ds.foldl more rows,r.H=k+ds.H)
 |[],rows,x0,a,b,c,n,k,_,_,h,_=>⟨a,b,c,by simp[fG],λr aU=>by simpa using h r aU⟩
 |d::ds,rows,x0,a,b,c,n,k,hd,aW,h,hz=>by
  have de:bh=1000000:=rfl;rw[d9]at aW hz;have qD:=hd d<|dT ..;have Kd:=E7 d rows;have K0:1<=8^ds.H:=kh Z7;have Bd:rows.H*d.H*8^ds.H<=100000:=by refine bP ?_ hz;rw[wq,qV (8^ds.H) 8,<-G7];exact yD _<|G2 _ qD
  have vg:rows.H*d.H<=100000:=bP (MV _ K0) Bd;have Ke:∀r∈more rows d,r.H=k+1:=λr aU=>by unfold more at aU;obtain⟨jx,h0,af⟩:=GS.mp aU;obtain⟨f,_,rfl⟩:=ez.mp af;simp[h jx h0]
  obtain⟨gK,gV,cH,e,aU⟩:=cj ds (more rows d) x0 (J (aG d,.ag)) C ((inner d qD x0 (J (.ao<|rows.map aG,.ag)) n rows [] c (λr aU=>by have:=h r aU;exact bP (d2 this)<|l4 aW)<|by simp;exact vg).choose) n (k+1) (λd' mX=>hd d'<|am _ mX) Z3 Ke (by rw[Kd];exact Bd);have dF:=(inner d qD x0 (J (.ao<|rows.map aG,.ag)) n rows [] c (λr aU=>by have:=h r aU;exact bP (d2 this)<|l4 aW)<|by simp;exact vg).choose_spec;refine⟨gK,gV,cH,?_,λr n4=>by rw[aU r n4,d9];exact Nat.add_right_comm _ _ _⟩;rw[cU];unfold fG;generalize (inner d qD x0 (J (.ao<|rows.map aG,.ag)) n rows [] c (λr aU=>by have:=h r aU;exact bP (d2 this)<|l4 aW)<|by simp;exact vg).choose=uL at e dF;simp only[pQ,qS]at dF;have au:bL (dM 3<|dG ar) (bL (fD 1<|iK (iJ<|ai 1) (cB 4)<|dO 2<|hN 3 jQ<|et (fK<|ai 2) (ck Zf) (cB 0) yes Zu)<|ro 1 3) [x0,J (.ao<|rows.map aG,.aE),J (aG d,.ag),b,c] n
    = J (.bD,[x0,J (.ao<|(more rows d).map aG,.aE),J (aG d,.ag),C,uL],n):=by
   simp only[bL,dM,dG,ar,eO,tY,gH,if_true,kN,kO,fD,GF,BQ,iK,iJ,ai,look,walked,kj,dF,ro]
  simp only[bj.bO.cB,kN,kO,eO];rw[au];exact e
def UE{M F:Nat}(h:iq M F ds)(ei:M<=4)(cx:F<=8)(n:Nat):vz [Zc] n=J (.ao<|(hL<|il ds).map aG,Y0,n)/\∀r∈il ds,r.H=ds.H:=by
 have fh:=h.one;have fF:=h.most;have aF:8^ds.H<=8^4:=wi Z0<|bP fF ei;have dF:(8:Nat)^4=4096:=by decide
 obtain⟨gK,gV,cH,e,aU⟩:=cj ds [[]] (J (.aD ZB,.ag)) C C C n 0 (λd hd=>bP (h.aL d hd).most cx) Z3 Z7 (by simp;lia);have n4:∀r∈il ds,r.H=ds.H:=λr n4=>by have:=aU r n4;lia
 refine⟨?_,n4⟩;have az:(ds.foldl more [[]])=il ds:=rfl;rw[az]at e;have vk:il ds≠[]:=by
  have pos:∀(ds:List ZA) (rows:List ZA),(∀d∈ds,d≠[])->rows≠[]->ds.foldl more rows≠[]:=by
   intro ds
   induction ds with
   |nil=>intro rows _ h;exact h
   |cons d ds a4 =>
    intro rows hd h;refine a4 _ (λd' mX=>hd d'<|am _ mX) λz=>?_;have:=E7 d rows;rw[z]at this;have af:0<rows.H:=GN.mpr h;have ak:0<d.H:=GN.mpr<|hd d<|dT ..;have:=Nat.mul_pos af ak
    simp_all
  exact pos ds [[]] (λd hd z=>by have:=(h.aL d hd).one;rw[z]at this;simp at this) Z7
 have au:e3 ((il ds).map aG)=C:=by
  cases a7:il ds with
  |nil=>exact absurd a7 vk
  |cons r rs=>simp[aG,e3]
 have a6:mq ((il ds).map aG)=J (il ds):=Kp λr aU z=>by have:=n4 r aU;rw[z]at this;simp at this;lia
 have bX:xg n [.ao<|(il ds).map aG]=J (.ao<|(hL<|il ds).map aG,.aE):=by simp[xg,au,a6]
 have aq:1<=bh:=by decide
 have eR:fD 0 KG [J (.aD ZB,.ag),J (.ao [aG []],.aE),C,C,C] n
   = J (.bD,[J (.aD ZB,.ag),J (.ao<|(il ds).map aG,.aE),gK,gV,cH],n):=by
  unfold KG Rl Rk Rj Ri;simp only[fD,BQ,iK,iJ,ai,look,ho,walked,eO,kj];exact e
 unfold vz Rm;have fO:cw ar [J (T.aD ZB,bo.ag),C,C,C,C] n=J (aG [],.ag,n):=rfl;simp only[c0,bL,eT,bB,ax,a9,ai,cU,qS,d9,tY,GR,pQ,Nat.reduceAdd,Nat.reduceSub,if_true,List.replicate,BQ,look,eO,kj,flag,pw h ei cx n,eP,dM,dG,aa,aY,fO,eo,ar,aq,kN,kO];rw[eR];simp![bX]
def kt(least:Bool)(many:Nat)(r:List Int):Int:=if least then cI ((sortI r).take many) else cI ((sortI r).drop (r.H-many))
noncomputable def ay(d:List Z6):List<|ix×T:=d.map λp=>(Sum.inl p.1,T.int p.2)
noncomputable def c5(d:List Z6)(k:Int):Int:=((d.find? λp=>decide (p.1=k)).map (·.2)).getD 0
def Ax(d:List Z6)(k:Int):(iX (ay d)<|.inl k).getD (.int 0)=.int (c5 d k):=by
 unfold iX ay c5
 induction d with
 |nil=>rfl
 |cons p d a4 =>
  rw[cU,ii,ii];by_cases h:p.1=k
  ·simp[h]
  ·simp[h]at a4 |-;exact a4
def Vn(d:List Z6)(k:Int):((ay d).any λc9=>decide (c9.1=(Sum.inl k:ix)))=d.any λp=>decide (p.1=k):=by unfold ay;rw[GW];congr 1;funext p;simp
def cnt_none{k:Int}(h:(d.any λp=>decide (p.1=k))=Y1):c5 d k=0:=by
 unfold c5;have:d.find? (λp=>decide (p.1=k))=C:=by rw[List.find?_eq_none];intro p aF;have:=MM.mp h p aF;simpa using this
 rw[this];rfl
def jn(d:List Z6)(p:Int->Bool):Int:=cI<|(d.filter λq=>p q.1).map (·.2)
theorem K1:∀a b:List Int,cI (a++b)=cI a+cI b
 |[],b=>by simp[cI]
 |x::a,b=>by simp[cI,K1 a b,Int.add_assoc]
def rJ(q:Int×Int)(d:List Z6)(p:Int->Bool):jn (q::d) p=(if p q.1 then q.2 else 0)+jn d p:=by
 unfold jn;rw[tX];by_cases h:p q.1=Y0
 ·simp[h,cI]
 ·simp[h]
def adI(a b:List Z6)(p:Int->Bool):jn (a++b) p=jn a p+jn b p:=by unfold jn;rw[List.filter_append,lD,K1]
def amF{d:List Z6}{k v:Int}(h:k∉d.map (·.1)):d.map (λp=>if p.1=k then(p.1,v) else p)=d:=by
 conv=>rhs;rw[<-r9 d]
 refine mH λp aF=>?_;rw[Y3 λe=>h<|by rw[<-e];exact kf aF];rfl
def vH(d:List Z6)(k:Int):(d.any λp=>decide (p.1=k))=Y0↔k∈d.map (·.1):=by
 rw[List.any_eq_true,ez];constructor
 ·rintro⟨q,af,ak⟩;exact⟨q,af,by simpa using ak⟩
 ·rintro⟨q,af,ak⟩;exact⟨q,af,by simpa using ak⟩
noncomputable def agW(q:Int×Int):T:=.aD [.int q.1,.int q.2]
theorem RV:∀d:List Z6,itemsOf (ay d)=J d
 |[]=>rfl
 |q::d=>by have:=RV d;unfold ay at this |-;rw[cU];show(itemsOf<|d.map _).map (q::·)=_;rw[this];rfl
structure Told (items:List Z6) (dc:List Int):Prop where
 tD:∀p:Int->Bool,jn items p=(dc.countP p:Nat)
 len:items.H<=dc.H
 hJ:∀q∈items,0<=q.2/\q.2<=dc.H
def adJ(h:∀d∈ds,∀x∈d,0<=x/\x<=30)(aU:r∈il ds):∀x∈r,0<=x/\x<=30:=by
 have gen:∀(ds rows:List ZA),(∀d∈ds,∀x∈d,0<=x/\x<=30)->(∀r∈rows,∀x∈r,0<=x/\x<=30)->∀r∈ds.foldl more rows,∀x∈r,0<=x/\x<=30:=by
  intro ds
  induction ds with
  |nil=>intro rows _ h;exact h
  |cons d ds a4 =>
   intro rows hd aht;refine a4 _ (λd' mX=>hd d'<|am _ mX) λr aU x av=>?_;obtain⟨jx,h0,af⟩:=GS.mp aU;obtain⟨f,hf,rfl⟩:=ez.mp af;rcases hR.mp av with av|av
   ·exact aht jx h0 x av
   ·simp at av;subst av;exact hd d (dT ..) x hf
 exact gen ds [[]] h Z7 r aU
def RW(ds:List ZA):(il ds).H=v5 ds:=by
 have gen:∀(ds rows:List ZA),(ds.foldl more rows).H=ds.foldl (λm d=>m*d.H) rows.H:=by
  intro ds
  induction ds with
  |nil=>intro rows;rfl
  |cons d ds a4=>intro rows;rw[mI,mI,a4,E7]
 exact gen ds [[]]
def RX{F:Nat}(h:∀d∈ds,d.H<=F):v5 ds<=F^ds.H:=by
 have gen:∀(ds:List ZA) (m:Nat),(∀d∈ds,d.H<=F)->ds.foldl (λm d=>m*d.H) m<=m*F^ds.H:=by
  intro ds
  induction ds with
  |nil=>intro m _;simp
  |cons d ds a4 =>
   intro m h;refine bP (a4 _ λd' mX=>h d'<|am _ mX) ?_;rw[d9,wq,qV (F^ds.H) F,<-G7];exact yD _<|G2 _<|h d<|dT ..
 have:=gen ds 1 h;simpa[v5]using this
noncomputable def gB(d:List Z6)(k w:Int):List Z6:=if(d.any λp=>decide (p.1=k))=Y0 then d.map (λp=>if p.1=k then(p.1,c5 d k+w) else p) else d++[(k,w)]
def RY(d:List Z6)(k w:Int):j7 (ay d) (.inl k) (.int<|c5 d k+w)=ay (gB d k w):=by
 unfold j7 gB;rw[Vn];cases h:d.any λp=>decide (p.1=k) with
 |true =>
  simp only[if_true];unfold ay;rw[ci,ci];refine mH λp _=>?_;by_cases e:p.1=k<;>simp[e]
 |false=>simp[ay,cnt_none h]
theorem RZ{k w:Int}(p:Int->Bool):∀{d:List Z6},(d.map (·.1)).Nodup->k∈d.map (·.1)->jn (d.map λq=>if q.1=k then(q.1,c5 d k+w) else q) p=jn d p+if p k then w else 0
 |[],_,h=>by simp at h
 |(a,b)::d,bW,h=>by
  rw[cU]at bW h;obtain⟨aM,bC⟩:=nt.mp bW;by_cases e:a=k
  ·subst e;have H2:c5 ((a,b)::d) a=b:=by simp[c5]
   rw[cU,amF (by simpa using aM),rJ,rJ,H2];simp only[if_true];split<;>lia
  ·have aW:k∈d.map (·.1):=by
    rcases d4.mp h with z|z
    ·exact absurd z.symm e
    ·exact z
   have H2:c5 ((a,b)::d) k=c5 d k:=by simp[c5,e]
   rw[cU,rJ,rJ,H2,RZ p bC aW];simp only[e,if_false];lia
structure iT (d:List Z6) (f:(Int->Bool)->Int):Prop where
 bW:(d.map (·.1)).Nodup
 pos:∀q∈d,1<=q.2
 tD:∀p:Int->Bool,jn d p=f p
def iT.nil:iT [] λ_=>0:=⟨by simp,by simp,λp=>by simp[jn,cI]⟩
def GB{k:Int}(h:∀q∈d,1<=q.2):0<=c5 d k:=by
 unfold c5;cases e:d.find? λp=>decide (p.1=k) with
 |none=>simp
 |some q=>have:=h q<|List.mem_of_find?_eq_some e;simp;exact kQ this
def iT.add(B:iT d f)(k w:Int)(hw:1<=w):iT (gB d k w) λp=>f p+if p k then w else 0:=by
 have aT:=GB (k:=k) B.pos;unfold gB;cases h:d.any λp=>decide (p.1=k) with
 |true =>
  have aW:=(vH d k).mp h;simp only[if_true];refine⟨?_,λq a7=>?_,λp=>?_⟩
  ·rw[ci,show(λx:Int×Int=>x.1)∘(λp:Int×Int=>if p.1=k then(p.1,c5 d k+w) else p)=λx=>x.1 from by funext p;simp only[Function.comp];split<;>rfl];exact B.bW
  ·obtain⟨NQ,h0,rfl⟩:=ez.mp a7;have:=B.pos NQ h0;split
   ·simp only;lia
   ·exact this
  ·rw[RZ p B.bW aW,B.tD p]
 |false =>
  have aW:k∉d.map (·.1):=λz=>by rw[(vH d k).mpr z]at h;exists h
  simp only[jo,if_false];refine⟨?_,λq a7=>?_,λp=>?_⟩
  ·rw[lD,wh];refine⟨B.bW,by simp,λx av y aK z=>?_⟩;simp at aK;subst aK z;exact aW av
  ·rcases hR.mp a7 with a7|a7
   ·exact B.pos q a7
   ·simp at a7;subst a7;exact hw
  ·rw[adI,B.tD p,rJ];simp[jn,cI]
def iT.congr(B:iT d f)(h:∀p,f p=g p):iT d g:=⟨B.bW,B.pos,λp=>(B.tD p).trans (h p)⟩
def R0(d:List Z6)(k w:Int):(gB d k w).H<=d.H+1:=by unfold gB;split<;>simp
def R1{k:Int}(h:k∉d.map (·.1)):jn d (λx=>x==k)=0:=by
 induction d with
 |nil=>simp[jn,cI]
 |cons q d a4 =>
  rw[cU]at h;have af:¬q.1=k:=λz=>h (by rw[<-z];exact dT ..);rw[rJ,a4 λz=>h<|am _ z];simp[af]
theorem R2:∀{d:List Z6} {k v:Int},(d.map (·.1)).Nodup->(k,v)∈d->jn d (λx=>x==k)=v
 |[],_,_,_,h=>by simp at h
 |q::d,k,v,bW,h=>by
  rw[cU]at bW;obtain⟨aM,bC⟩:=nt.mp bW;rcases d4.mp h with e|h
  ·subst e;rw[rJ,R1 aM];simp
  ·have af:¬q.1=k:=λz=>aM (by rw[z];exact kf (f:=(·.1)) h);rw[rJ,R2 bC h];simp[af]
noncomputable def spread(dc:List Int)(d:List Int):List Int:=dc.flatMap λk=>d.map λf=>k+f
def rW(eQ:List Z6)(aL:List Int)(p:Int->Bool):Int:=cI (eQ.map λq=>q.2*((aL.countP λf=>p (q.1+f):Nat):Int))
theorem R3(eQ:List Z6)(x0 cf:Option ZJ)(t v:Int)(bS:1<=v)(xO:iX (ay eQ) (.inl t)=J (.int v))(n:Nat):∀(aL:List Int) (d:List Z6) (f:(Int->Bool)->Int) (a:Option ZJ),iT d f->d.H+aL.H<=100000 ->
  ∃d' gK,iT d' (λp=>f p+v*((aL.countP λg=>p (t+g):Nat):Int))/\d'.H<=d.H+aL.H/\fG (cB 5) (qp 3 qN Zw<|aH ek<|aa (aH mn<|aa (ai 3)<|aa Zw ZU)<|aa (aH dv<|aa (ai 1)<|aa (ai 4) ar) ar) (aL.map T.int)
   [x0,J (.bk<|ay eQ,.ag),cf,J Zi,J (.int t,.ag),a] n=J (.bD,[x0,J (.bk<|ay eQ,.ag),cf,J (.bk<|ay d',.aE),J (.int t,.ag),gK],n)
 |[],d,f,a,B,_=>⟨d,a,B.congr λp=>by simp,by simp,by simp[fG]⟩
 |g::aL,d,f,a,B,hz=>by
  have de:bh=1000000:=rfl;rw[d9]at hz;have an4:=R0 d (t+g) v;obtain⟨d',gK,uz,m5,e⟩:=R3 eQ x0 cf t v bS xO n aL (gB d (t+g) v) _ (J (.int g,.ag)) (B.add (t+g) v bS) Z3;refine⟨d',gK,uz.congr λp=>?_,by rw[d9];lia,?_⟩
  ·rw[oz];by_cases aF:p (t+g)=Y0
   ·simp[aF,Int.mul_add];lia
   ·simp[aF]
  ·rw[cU];unfold fG;have aB:(ay d).H<bh:=by unfold ay;rw[cP];lia
   have au:qp 3 qN Zw (aH ek<|aa (aH mn<|aa (ai 3)<|aa Zw ZU)<|aa (aH dv<|aa (ai 1)<|aa (ai 4) ar) ar)
     [x0,J (.bk<|ay eQ,.ag),cf,J Zi,J (.int t,.ag),J (.int g,.ag)] n=J (.bD,[x0,J (.bk<|ay eQ,.ag),cf,J (.bk<|ay<|gB d (t+g) v,.aE),J (.int t,.ag),J (.int g,.ag)],n):=by
    rw[<-RY];have c:=Ax d<|t+g;simp![qp,pn,vx,EK,ajm,ts,mA,Kv,ke,c,xO,Vl,aB]
   simp only[bj.bO.cB,kN,kO,eO];rw[au];exact e
def E8{k v:Int}(bW:(d.map (·.1)).Nodup)(h:(k,v)∈d):iX (ay d) (.inl k)=J (.int v):=by
 unfold iX ay
 induction d with
 |nil=>simp at h
 |cons q d a4 =>
  rw[cU]at bW;obtain⟨aM,bC⟩:=nt.mp bW;rw[cU,ii];rcases d4.mp h with e|h
  ·subst e;simp
  ·have af:¬q.1=k:=λz=>aM (by rw[z];exact kf (f:=(·.1)) h);simp[af];simpa using a4 bC h
theorem R4(eQ:List Z6)(bW:(eQ.map (·.1)).Nodup)(ps:∀q∈eQ,1<=q.2)(aL:List Int)(x0:Option ZJ)(n:Nat):∀(l:List Z6) (d:List Z6) (f:(Int->Bool)->Int) (a b:Option ZJ),(∀q∈l,q∈eQ)->iT d f->d.H+l.H*aL.H<=100000 ->
  ∃d' gK gV,iT d' (λp=>f p+rW l aL p)/\d'.H<=d.H+l.H*aL.H/\fG (cB 4) (fD 2<|iK (iJ<|ai 2) (cB 5)<|qp 3 qN Zw<|aH ek<|aa (aH mn<|aa (ai 3)<|aa Zw ZU)<|aa (aH dv<|aa (ai 1)<|aa (ai 4) ar) ar) (l.map λq=>T.int q.1)
   [x0,J (.bk<|ay eQ,.ag),J (aG aL,.ag),J Zi,a,b] n=J (.bD,[x0,J (.bk<|ay eQ,.ag),J (aG aL,.ag),J (.bk<|ay d',.aE),gK,gV],n)
 |[],d,f,a,b,_,B,_=>⟨d,a,b,B.congr λp=>by simp[rW,cI],by simp,by simp[fG]⟩
 |q::l,d,f,a,b,aB,B,hz=>by
  rw[d9,se]at hz;have a7:=aB q<|dT ..;obtain⟨d8,cq,uN,fh,az⟩:=R3 eQ x0 (J (aG aL,.ag)) q.1 q.2 (ps q a7) (E8 bW a7) n aL d f b B Z3;obtain⟨d',gK,gV,uz,fF,e⟩:=R4 eQ bW ps aL x0 n l d8 _ (J (.int q.1,.ag)) cq (λeN n5=>aB eN<|am _ n5) uN Z3;refine⟨d',gK,gV,uz.congr λp=>?_,by rw[d9,se];lia,?_⟩
  ·simp[rW,cI];lia
  ·rw[cU];unfold fG;generalize (qp 3 qN Zw<|aH ek<|aa (aH mn<|aa (ai 3)<|aa Zw ZU)<|aa (aH dv<|aa (ai 1)<|aa (ai 4) ar) ar)=qd at az e |-;have au:fD 2 (iK (iJ<|ai 2) (cB 5) qd) [x0,J (.bk<|ay eQ,.ag),J (aG aL,.ag),J Zi,J (.int q.1,.ag),b] n=J (.bD,[x0,J (.bk<|ay eQ,.ag),J (aG aL,.ag),J (.bk<|ay d8,.aE),J (.int q.1,.ag),cq],n):=az;simp only[bj.bO.cB,kN,kO,eO];rw[au];exact e
theorem R5(B:iT eQ λp=>(dc.countP p:Nat))(p:Int->Bool):∀aL:List Int,rW eQ aL p=((spread dc aL).countP p:Nat)
 |[]=>by
  have af:∀d:List Z6,rW d [] p=0:=by
   intro d
   induction d with
   |nil=>rfl
   |cons q d a4=>unfold rW at a4 |-;rw[cU,cI,a4];simp
  have ak:spread dc []=[]:=by unfold spread;simp
  rw[af,ak];rfl
 |g::aL=>by
  have af:∀d:List Z6,rW d (g::aL) p=jn d (λk=>p<|k+g)+rW d aL p:=by
   intro d
   induction d with
   |nil=>rfl
   |cons q d a4 =>
    unfold rW at a4 |-;rw[cU,cU,cI,cI,a4,rJ,oz];by_cases aF:p (q.1+g)=Y0
    ·simp[aF,Int.mul_add];lia
    ·simp[aF];lia
  have ak:∀dc:List Int,(spread dc<|g::aL).countP p=dc.countP (λk=>p<|k+g)+(spread dc aL).countP p:=by
   intro dc
   induction dc with
   |nil=>rfl
   |cons k dc a4 =>
    unfold spread at a4 |-;rw[nr,nr,GQ,GQ,a4,cU,oz,oz];lia
  rw[af,B.tD,R5 B p aL,ak];simp
theorem R6(x0:Option ZJ)(n:Nat):∀(ds:List ZA) (d:List Z6) (dc:List Int) (a b c dF:Option ZJ),iT d (λp=>(dc.countP p:Nat))->d.H*(ds.map λx=>max 1 x.H).foldr (·*·) 1<=100000 ->
  ∃d' gK gV cH bN,iT d' (λp=>((ds.foldl spread dc).countP p:Nat))/\fG (cB 2) A2 ZB
   [x0,J Zi,a,b,c,dF] n=J (.bD,[x0,J (.bk<|ay d',.aE),gK,gV,cH,bN],n)
 |[],d,dc,a,b,c,dF,B,_=>⟨d,a,b,c,dF,B,by simp[fG]⟩
 |aL::ds,d,dc,a,b,c,dF,B,hz=>by
  rw[cU,BU,<-G7]at hz;have Bd:d.H*aL.H*(ds.map λx=>max 1 x.H).foldr (·*·) 1<=100000:=bP (yD _<|G2 _<|G5 _ _) hz;have K0:∀ds:List ZA,1<=(ds.map λx=>max 1 x.H).foldr (·*·) 1:=λds=>by
   induction ds with
   |nil=>exact cg _
   |cons x ds a4=>exact wm (Nat.le_max_left 1 x.H) a4
  have vg:d.H*aL.H<=100000:=bP (MV _<|K0 ds) Bd;obtain⟨d8,a1,cq,uN,fh,az⟩:=R4 d B.bW B.pos aL x0 n d [] _ c dF (λ_ h=>h) iT.nil (by simp;exact vg);have zo:iT d8 (λp=>((spread dc aL).countP p:Nat)):=uN.congr λp=>by rw[R5 B p aL];simp
  rw[tY,t6]at fh;obtain⟨d',gK,gV,cH,bN,uz,e⟩:=R6 x0 n ds d8 (spread dc aL) (J (aG aL,.ag)) C a1 cq zo<|bP (yD _ fh) Bd;refine⟨d',gK,gV,cH,bN,uz,?_⟩;rw[cU];unfold fG;have aW:(ay d).map (λc9=>iI c9.1)=d.map λq=>T.int q.1:=by unfold ay;rw[ci];rfl
  have au:A2 [x0,J Zi,J (aG aL,.ag),b,c,dF] n=J (.bD,[x0,J (.bk<|ay d8,.aE),J (aG aL,.ag),C,a1,cq],n):=by unfold A2 Rd Rc Rb Ra;simp only[bL,dM,Md,eO,kN,kO,fD,GF,BQ,iK,iJ,ai,look,walked,aW,kj];rw[show(ay []:List<|ix×T)=[] from rfl]at az;rw[az];rfl
  simp only[bj.bO.cB,kN,kO,eO];rw[au];exact e
def ahu{ds:List ZA}(rh:∀d∈ds,d.H<=8):(ds.map λx=>max 1 x.H).foldr (·*·) 1<=8^ds.H:=by
 induction ds with
 |nil=>exact cg _
 |cons x ds a4 =>
  rw[cU,BU,d9,wq,qV<|8^_];exact wm (Nat.max_le.mpr ⟨by decide,rh x<|dT ..⟩) (a4 λd hd=>rh d<|am _ hd)
theorem R7(d:List Int):∀rows:List ZA,(more rows d).map cI=spread (rows.map cI) d
 |[]=>rfl
 |r::rows=>by have a4:=R7 d rows;unfold more spread at a4 |-;rw[cU,nr,nr,lD,a4,ci];congr 1;refine mH λf _=>?_;simp[K1,cI]
def adK(ds:List ZA):(il ds).map cI=ds.foldl spread [0]:=by
 have gen:∀(ds rows:List ZA),(ds.foldl more rows).map cI=ds.foldl spread (rows.map cI):=by
  intro ds
  induction ds with
  |nil=>intro rows;rfl
  |cons d ds a4=>intro rows;rw[mI,mI,a4,R7]
 exact gen ds [[]]
def R8(hz:(ds.map λx=>max 1 x.H).foldr (·*·) 1<=100000)(n:Nat) :
  ∃d,iT d (λp=>(((il ds).map cI).countP p:Nat))/\n8 [Zc] n=J (.bk<|ay d,Y0,n):=by
 obtain⟨d',gK,gV,cH,bN,B,e⟩:=R6 (J (.aD ZB,.ag)) n ds [(0,1)] [0] C C C C ⟨by simp,by simp,λp=>by simp[jn,cI];by_cases z:p 0=Y0<;>simp[z,cI]⟩ (by simp;exact hz);rw[<-adK]at B;refine⟨d',B,?_⟩;unfold n8 Rg Rf;generalize A2=qd at e |-;rw[show(ay [(0,1)]:List<|ix×T)=[(Sum.inl 0,.int 1)] from rfl]at e;simp![Me,ke,fD,iK,iJ,walked,e]
def R9(rh:∀d∈ds,d.H<=8)(cL:ds.H<=4)(n:Nat) :
  ∃d,iT d (λp=>(((il ds).map cI).countP p:Nat))/\n8 [Zc] n=J (.bk<|ay d,Y0,n) :=
 R8 (bP (ahu rh)<|bP (wi Z0 cL) Z0) n
def Vo{M F:Nat}(h:iq M F ds)(ei:M<=4)(cx:F<=8)(n:Nat) :
  ∃d,iT d (λp=>(((il ds).map cI).countP p:Nat))/\rE [Zc] n=J (.ao<|(hL<|d.map jG).map aG,Y0,n):=by
 have fF:=h.most;obtain⟨d',B,bX⟩:=R9 (ds:=ds) (λx av=>bP (h.aL x av).most cx) (bP fF ei) n;refine⟨d',B,?_⟩;have au:DE n [.bk<|ay d']=J (.ao<|(hL<|d'.map jG).map aG,.aE):=by simp only[DE,RV,kj]
 have a6:=pw h ei cx n;generalize (hL<|d'.map jG).map aG=out at au |-;unfold rE Rh;simp![a6,bX,au]
noncomputable def fr(a b:Nat):T:=.aD [.int ((a / Nat.gcd a b:Nat):Int),.int ((b / Nat.gcd a b:Nat):Int)]
noncomputable def Mn(ms:List Nat):Nat:=ms.foldr (·*·) 1
def amG{i:Int}(af:-1000000000000000000<=i)(ak:i<=1000000000000000000):small i=Y0:=by unfold small;simp only[decide_eq_true_eq];lia
def adL{k:Nat}(h:k<=1000000000000000000):small (k:Int)=Y0:=amG (ir _) Z3
def ajv{a b:Int}(h:small a=Y0\/small b=Y0)(n:Nat):kG n [.int a,.int b]=J (.int<|a*b,.ag):=by show(if(small a||small b)=Y0 then J (T.int<|a*b,bo.ag) else C)=_;rw[Y2<|by rcases h with h|h<;>rw[h]<;>simp]
def ajw(hd:d.H<=1000)(x:Int)(n:Nat):EU [(aG d,Y0),(.int x,Y0)] n=J (.int ((d.countP λf=>decide (f<x):Nat):Int),Y1,n):=by
 have de:bh=1000000:=rfl;have az:Rq [J (aG d,.ag),J (.int x,.ag)] n=J (.ao<|(d.filter λf=>decide (f<x)).map .int,.aE,n) :=
  rD d T.int (λf=>decide (f<x)) .int rfl Z3 λy aK=>by by_cases h:y<x<;>simp![ck,eF,dZ,h]
 unfold EU Rr;unfold aG at az |-;simp![dO,az,lr,g7,pq,pv];rw[BL]
noncomputable def vI:List ZA->List ZA
 |[]=>[[]]
 |d::ds=>d.flatMap λf=>(vI ds).map (f::·)
def K2(ds:List ZA):il ds=vI ds:=by
 have gen:∀(ds rows:List ZA),ds.foldl more rows=rows.flatMap λr=>(vI ds).map (r++·):=by
  intro ds
  induction ds with
  |nil=>intro rows;simp[vI]
  |cons d ds a4 =>
   intro rows;rw[mI,a4];unfold more;rw[List.flatMap_assoc];congr 1;funext r;simp only[vI,List.flatMap_map,MR,ci];congr 1;funext f;congr 1;funext x;simp
 unfold il;rw[gen];simp
def amH{α:Type}(l:List α):(l.map λ_=>0).sum=0:=by
 induction l with
 |nil=>rfl
 |cons x l a4=>simp[a4]
theorem E9{α:Type}(f g:α->Nat):∀l:List α,(l.map λx=>f x+g x).sum=(l.map f).sum+(l.map g).sum
 |[]=>rfl
 |x::l=>by simp[E9 f g l];lia
theorem Sa{α β:Type}(f:α->β->Nat):∀(l:List α) (m:List β),(l.map λx=>(m.map λy=>f x y).sum).sum=(m.map λy=>(l.map λx=>f x y).sum).sum
 |[],m=>by simp[amH]
 |x::l,m=>by rw[cU,tZ,Sa f l m];simp only[cU,tZ];rw[E9]
theorem Sb{α:Type}(p:α->Bool):∀l:List α,l.countP p=(l.map λx=>if p x=Y0 then 1 else 0).sum
 |[]=>rfl
 |x::l=>by rw[oz,cU,tZ,Sb p l,yF]
noncomputable def below(x:Int)(ds:List ZA):Nat:=Mn (ds.map λd=>d.countP λf=>decide (f<x))
def Sd{M:Nat}{F:Nat}(h:iq M F ds)(ei:M<=4)(cx:F<=8):v5 ds<=4096:=by have fF:=h.most;refine bP (RX (F:=8) λd hd=>bP (h.aL d hd).most cx) ?_;exact bP (wi Z0 (show ds.H<=4 from(bP fF ei))) Z0
def amI{M F:Nat}(h:iq M F ds):1<=v5 ds:=by
 have pos:∀(ds:List ZA) (m:Nat),0<m->(∀d∈ds,1<=d.H)->0<ds.foldl (λm d=>m*d.H) m:=by
  intro ds
  induction ds with
  |nil=>intro m h _;exact h
  |cons d ds a4=>intro m h hd;exact a4 _ (Nat.mul_pos h<|hd d<|dT ..) λd' mX=>hd d'<|am _ mX
 exact pos ds 1 Z0 λd hd=>(h.aL d hd).one
theorem K3{α:Type}(f:α->Nat):∀l:List α,cI (l.map λx=>(f x:Int))=((l.map f).sum:Nat)
 |[]=>rfl
 |x::l=>by rw[cU,cI,K3 f l,cU,tZ];lia
def Se(xs:List T)(k:Nat):jl xs C (J (k:Int))=xs.take k:=by
 unfold jl bj.bO.bound;simp only[yy,yG];rw[Y3<|yK<|ir _];by_cases h:k<=xs.H
 ·rw[show min (k:Int).M xs.H=k by lia]
 ·rw[show min (k:Int).M xs.H=xs.length by lia,yx,wd<|eA<|sd h]
def Fb(xs:List T)(k:Nat):jl xs (J (k:Int)) C=xs.drop k:=by
 unfold jl bj.bO.bound;simp only;rw[Y3<|yK<|ir _];by_cases h:k<=xs.H
 ·rw[show min (k:Int).M xs.H=k by lia];exact wd (by rw[gc];exact cg _)
 ·rw[show min (k:Int).M xs.H=xs.length by lia,List.drop_of_length_le (by exact eA (sd h):xs.H<=k)];simp
def n9(a b:List Int):Nat:=(a.map λg=>b.countP λf=>decide (f<g)).sum
def Be(a b:List Int):Nat:=(a.map λg=>b.countP λf=>f==g).sum
def adM(a b:List Int):n9 a b+Be a b+n9 b a=a.H*b.H:=by
 have s1:n9 b a=(a.map λg=>b.countP λf=>decide (g<f)).sum:=by unfold n9;simp only[Sb];rw[Sa]
 rw[s1];unfold n9 Be;rw[<-E9,<-E9];clear s1;have:∀g,(b.countP λf=>decide (f<g))+(b.countP λf=>f==g)+(b.countP λf=>decide (g<f))=b.H:=λg=>by
  induction b with
  |nil=>rfl
  |cons f b a4 =>
   simp only[oz,d9];by_cases af:f<g
   ·have ak:¬f=g:=(yL af)
    have bc:¬g<f:=(yK<|kQ af)
    simp[af,ak,bc];lia
   ·by_cases ak:f=g
    ·have bc:¬g<f:=(yK<|Hg ak)
     simp[ak];lia
    ·have bc:g<f:=by lia
     simp[af,ak,bc];lia
 simp only[this]
 induction a with
 |nil=>simp
 |cons x a a4=>rw[cU,tZ,a4,d9,Nat.add_mul];lia
def L7{F G:Nat}(ba:kb F a)(aq:kb G b)(cx:F<=8)(iR:G<=8)(n:Nat):m9 [(aG a,Y0),(aG b,Y0)] n=J (.aD [.int ((n9 a b:Nat):Int),.int ((Be a b:Nat):Int),.int ((n9 b a:Nat):Int)],Y1,n):=by
 have de:bh=1000000:=rfl;have cy:=ba.most;have e0:=aq.most;have az:Rt [J (aG a,.ag),J (aG b,.ag),C,C] n=J (.ao (a.map λg=>.int ((b.countP λf=>decide (f<g):Nat):Int)),.aE,n) :=
  ik a T.int (λg=>.int ((b.countP λf=>decide (f<g):Nat):Int)) rfl Z3 λg _=>by have e:=ajw (d:=b) (bP e0<|bP iR Z0) g n;simp![ck,e]
 have au:∀x,Ru [J (aG a,.ag),J (aG b,.ag),x,C] n=J (.ao (a.map λg=>.int ((b.countP λf=>f==g:Nat):Int)),.aE,n):=λx =>
  ik a T.int (λg=>.int ((b.countP λf=>f==g:Nat):Int)) rfl Z3 λg _=>by simp![ck,UD,aG,n6,BL]
 have s1:=Vj (l:=a.map λg=>((b.countP λf=>decide (f<g):Nat):Int)) n (by rw[cP];lia) λx av=>by obtain⟨g,_,rfl⟩:=ez.mp av;have:=GK (p:=λf=>decide (f<g)) (l:=b);lia
 have s2:=Vj (l:=a.map λg=>((b.countP λf=>f==g:Nat):Int)) n (by rw[cP];lia) λx av=>by obtain⟨g,_,rfl⟩:=ez.mp av;have:=GK (p:=λf=>f==g) (l:=b);lia
 rw[K3 (λg=>b.countP λf=>decide (f<g)),ci]at s1;rw[K3 (λg=>b.countP λf=>f==g),ci]at s2;change xl n [.ao (a.map λg=>.int ((b.countP λf=>decide (f<g):Nat):Int))]=J (.int ((n9 a b:Nat):Int),.ag) at s1;change xl n [.ao (a.map λg=>.int ((b.countP λf=>f==g:Nat):Int))]=J (.int ((Be a b:Nat):Int),.ag) at s2;generalize a.map (λg=>T.int ((b.countP λf=>decide (f<g):Nat):Int))=fs at az s1;generalize a.map (λg=>T.int ((b.countP λf=>f==g:Nat):Int))=ja at au s2;have bc:=adM a b;have a6:=rI ba cx n;have bX:=rI aq iR n;have hm:=ajv (a:=(a.H:Int)) (b:=(b.H:Int)) (.inl<|adL Z3) n;have hd:(a.H:Int)*(b.H:Int)-((n9 a b:Nat):Int)-((Be a b:Nat):Int)=((n9 b a:Nat):Int):=by rw[<-Hf];lia
 have fj:3<=bh:=by decide
 unfold aG at az au a6 bX |-;unfold m9 Vm;generalize kG=gm at*;simp![a6,bX,dO,az,s1,au,s2,cw,lr,g7,pq,pv,hm,kc,dZ,hd,fj]
abbrev k9(d:List Z6)(s:List Int):Prop:=iT d λp=>(s.countP p:Nat)
def k9.val(B:k9 d s){q:Int×Int}(h:q∈d):q.2=((s.countP λx=>x==q.1:Nat):Int):=by have:=B.tD λx=>x==q.1;rw[R2 B.bW (show(q.1,q.2)∈d from h)]at this;exact this
def k9.key(B:k9 d s){q:Int×Int}(h:q∈d):q.1∈s:=by
 have af:=B.val h;have ak:=B.pos q h;have:0<s.countP λx=>x==q.1:=by lia
 obtain⟨x,av,e⟩:=MI.mp this;have e:x=q.1:=by simpa using e
 exact e▸av
def k9.has(B:k9 d s){x:Int}(h:x∈s):∃v,(x,v)∈d:=by
 by_cases aW:x∈d.map (·.1)
 ·obtain⟨q,a7,rfl⟩:=ez.mp aW;exact⟨q.2,a7⟩
 ·have af:=B.tD λy=>y==x;rw[R1 aW]at af;have:0<s.countP λy=>y==x:=MI.mpr ⟨x,h,by simp⟩;lia
theorem Ua:∀(d:List Z6) (s:List Int) (h:Int->Int),(d.map (·.1)).Nodup->(∀q∈d,q.2=((s.countP λx=>x==q.1:Nat):Int))->(∀x∈s,x∈d.map (·.1))->cI (d.map λq=>q.2*h q.1)=cI (s.map h)
 |[],s,h,_,_,aP=>by
  cases s with
  |nil=>rfl
  |cons x s=>have:=aP x<|dT ..;simp at this
 |q::d,s,h,bW,bS,aP=>by
  rw[cU]at bW;obtain⟨aM,bC⟩:=nt.mp bW;have split:∀s:List Int,cI (s.map h)=((s.countP λx=>x==q.1:Nat):Int)*h q.1+cI ((s.filter λx=>!(x==q.1)).map h):=by
   intro s
   induction s with
   |nil=>simp[cI]
   |cons x s a4 =>
    rw[cU,cI,a4,oz,tX];by_cases e:x=q.1
    ·subst e;simp only[beq_self_eq_true,if_true,Bool.not_true,jo,if_false];rw[show(((s.countP λx=>x==q.1)+1:Nat):Int)=((s.countP λx=>x==q.1:Nat):Int)+1 from rfl,yM];lia
    ·have bN:(x==q.1)=Y1:=by simpa using e
     simp only[bN,Bool.not_false,if_true,jo,if_false,cU,cI,G8];lia
  rw[split s,cU,cI,bS q<|dT ..];congr 1;refine Ua d (s.filter λx=>!(x==q.1)) h bC (λeN n5=>?_) λx av=>?_
  ·rw[bS eN<|am _ n5,List.countP_filter];congr 1;refine MP λx _=>?_;have ne:eN.1≠q.1:=λz=>aM (by rw[<-z];exact kf (f:=(·.1)) n5);constructor
   ·intro z;have z:x=eN.1:=by simpa using z
    subst z;simp[ne]
   ·intro z;simp at z |-;exact z.1
  ·obtain⟨af,ak⟩:=lC.mp av;have ak:x≠q.1:=by simpa using ak
   rcases d4.mp (aP x af) with z|z
   ·exact absurd z ak
   ·exact z
def k9.sum(B:k9 d s)(h:Int->Int):cI (d.map λq=>q.2*h q.1)=cI (s.map h) :=
 Ua d s h B.bW (λq a7=>B.val a7) λx av=>by obtain⟨v,bS⟩:=B.has av;exact kf (f:=(·.1)) bS
def k9.L8(B:k9 d s):d.H<=s.H:=by
 have af:=B.sum λ_=>1;have ak:∀d:List Z6,(∀q∈d,1<=q.2)->(d.H:Int)<=cI (d.map λq=>q.2*1):=by
  intro d
  induction d with
  |nil=>intro _;simp[cI]
  |cons q d a4 =>
   intro h;have:=a4 λeN n5=>h eN<|am _ n5;have:=h q<|dT ..;rw[cU,cI,d9];lia
 have bc:∀s:List Int,cI (s.map λ_=>1)=(s.H:Int):=by
  intro s
  induction s with
  |nil=>rfl
  |cons x s a4=>rw[cU,cI,a4,d9];exact Int.add_comm _ _
 have:=ak d B.pos;rw[af,bc]at this;lia
def K4(d:List Z6):(ay d).map (λc9=>iI c9.1)=d.map λq=>T.int q.1:=by unfold ay;rw[ci];rfl
def jR(ds:List ZA):List Int:=(il ds).map cI
def Sf(ds:List ZA):(jR ds).H=v5 ds:=by unfold jR;rw[cP,RW]
theorem Sg:∀(r:List Int),(∀x∈r,0<=x/\x<=30)->0<=cI r/\cI r<=30*r.H
 |[],_=>by simp[cI]
 |x::r,h=>by have:=Sg r λy aK=>h y<|am _ aK;have:=h x<|dT ..;simp only[cI,d9];lia
def Sh{M F:Nat}(h:iq M F ds)(ei:M<=4)(cx:F<=8):∀x∈jR ds,0<=x/\x<=120:=λx av=>by obtain⟨r,aU,rfl⟩:=ez.mp av;have af:=Sg r<|adJ (λd hd=>(h.aL d hd).hJ) aU;have ak:=(UE h ei cx 0).2 r aU;have bc:=h.most;lia
def Sj{M F:Nat}(h:iq M F ds)(ei:M<=4)(cx:F<=8)(n:Nat):∃d,k9 d (jR ds)/\n8 [Zc] n=J (.bk<|ay d,Y0,n):=by have fF:=h.most;exact R9 (λd hd=>bP (h.aL d hd).most cx) (bP fF ei) n
end je
namespace je
open bj bj.bO bQ
def Vp{i:Nat}{n:Nat}(h:S[i]?=J Zp):fD i d S n=d S n:=by unfold fD;rw[h]
abbrev fU:=Int×Int×Int
def Sk(a:List Int):jR [a]=a:=by
 unfold jR;rw[K2];simp only[vI,cU,qS]
 induction a with
 |nil=>rfl
 |cons x a a4 =>
  rw[nr,lD,a4];simp[cI]
def Sl(d:List Int)(ds:List ZA):jR (d::ds)=d.flatMap λf=>(jR ds).map (f+·):=by unfold jR;rw[K2,K2];show(d.flatMap λf=>(vI ds).map (f::·)).map cI=_;rw[MR];congr 1;funext f;rw[ci,ci];rfl
noncomputable def tE(a b:List Int):List Int:=a.flatMap λx=>b.map (x+·)
theorem Sm(b:List Int):∀a:List Int,(tE a b).H=a.H*b.H
 |[]=>by simp[tE]
 |x::r=>by have:=Sm b r;unfold tE at*;rw[nr,gr,this,cP,d9,se,yF]
def Ub(B:k9 d s)(x:Int)(n:Nat):mn n [.bk<|ay d,.int x,.int 0]=J (.int ((s.countP λy=>y==x:Nat):Int),.ag):=by
 have h:=Ax d x;have aT:c5 d x=((s.countP λy=>y==x:Nat):Int):=by
  by_cases av:x∈s
  ·obtain⟨v,bS⟩:=B.has av;rw[E8 B.bW bS]at h;have h:T.int v=T.int (c5 d x):=h
   exists h
   exact B.val bS
  ·rw[cnt_none (by
    rw[<-Hb,vH];intro z;obtain⟨q,a7,rfl⟩:=ez.mp z
    exact av<|B.key a7),GO.mpr λy aK z=>av<|by rw[<-eq_of_beq z];exact aK]
   rfl
 have e:mn n [.bk<|ay d,.int x,.int 0]=J ((iX (ay d)<|.inl x).getD (.int 0),.ag):=rfl;rw[e,h,aT]
end je
namespace je
open PySem bj bj.bO bQ
def Sn{b:Bool}{n:Nat}(h:kB [Z4] n=J Zr)(aq:b=Y0\/ho t=Y1):h2 [(t,b)] n=J (0,n):=by
 have hf:flag (look (if b then .ag else .cZ) t) t=Y0:=by
  cases b with
  |true=>rfl
  |false=>rcases aq with aq|aq;exists aq;simp[look,aq,flag]
 unfold h2 fnX KA fH eu bK bB ax a9 ai;simp[hf,h,eP,jF,mZ,mf]
def xZ{n:Nat}(h:kB [Z4] n=J (.aC Y0,Y1,n)):h2 [Z4] n=C:=by unfold h2 fnX KA fH eu bK bB ax a9 ai;simp[look,flag,h,eP,jF,fR]
def Bf{lo hi:Int}{n:Nat}(h:lu [Z4,(.int lo,Y0),(.int hi,Y0)] n=J Zr)(af:small lo=Y0)(ak:small hi=Y0):jN [Z4,(.int lo,Y0),(.int hi,Y0)] n=J (3,n):=by unfold jN fnX Kz fH eu bK bB ax a9 ai;simp[look,flag,h,eP,jF,mZ,ux,mf,af,ak,ai]
def adN{lo hi:Int}{n:Nat}(h:lu [Z4,(.int lo,Y0),(.int hi,Y0)] n=J (.aC Y0,Y1,n)):jN [Z4,(.int lo,Y0),(.int hi,Y0)] n=C:=by unfold jN fnX Kz fH eu bK bB ax a9 ai;simp[look,flag,h,eP,jF,fR]
def So(i lo hi:Int)(n:Nat)(h:¬ (lo<=i/\i<=hi)):lu [(.int i,Y0),(.int lo,Y0),(.int hi,Y0)] n=J Zr:=by
 unfold lu Kw;by_cases af:lo<=i
 ·have ak:¬i<=hi:=λz=>h ⟨af,z⟩;simp![jj,dS,j9,kz,iF,jM,kA,gx,fL,dZ,af,ak]
 ·simp![jj,dS,j9,kz,iF,jM,kA,gx,fL,dZ,af]
def adO(h:oj .tuple t=J Y1)(n:Nat):kB [Z4] n=J Zr:=by unfold kB xU;simp![dS,h]
def adP(g:T->Bool)(af:1<=aA.H)(ak:aA.H<=8)(bT:∀t∈aA,∀n,lu [Z4,(.int 0,Y0),(.int 30,Y0)] n=J (.aC<|g t,Y1,n))(ba:aA.all g=Y1)(n:Nat):kB [(.aD aA,Y0)] n=J Zr:=by
 have de:bh=1000000:=rfl;have au:EN [J (.aD aA,.ag)] n=J (.ao (aA.map λt=>T.aC<|g t),.aE,n) :=
  ik aA id (λt=>.aC<|g t) (by rw[r9];rfl) Z3 λy aK=>by simp![ck,bT y aK n]
 have a6:∀l:List T,hQ (l.map λt=>T.aC<|g t)=J (l.map g):=λl=>by
  induction l with
  |nil=>rfl
  |cons x r a4=>simp[hQ,a4]
 have bX:jk n [.ao (aA.map λt=>T.aC<|g t)]=J (.aC Y1,.ag):=by simp only[jk,a6,kj,pR];rw[show(aA.all<|id∘g)=aA.all g from rfl,ba]
 have fc:(1:Int)<=aA.H:=by lia
 have fP:(aA.H:Int)<=8:=by lia
 generalize aA.map (λt=>T.aC<|g t)=bs at*;unfold kB xU;simp![jj,dO,dS,j9,kz,iF,jM,kA,gx,fL,dZ,lr,g7,pq,pv,fc,fP,au,bX]
def adQ(h:oj .tuple t=J Y1)(n:Nat):mB [Z4] n=J Zr:=by unfold mB A0;simp![dS,h]
def adR(h:¬ (1<=aA.H/\aA.H<=4))(n:Nat):mB [(.aD aA,Y0)] n=J Zr:=by
 unfold mB A0;by_cases af:1<=aA.H
 ·have fc:(1:Int)<=aA.H:=by lia
  have fP:¬ (aA.H:Int)<=4:=by lia
  simp![jj,dS,j9,kz,iF,jM,kA,gx,fL,dZ,lr,g7,pq,pv,fc,fP]
 ·have fc:¬ (1:Int)<=aA.H:=by lia
  simp![jj,dS,j9,kz,iF,jM,kA,gx,fL,dZ,lr,g7,pq,pv,fc]
def adS(g:T->Bool)(af:1<=aA.H)(ak:aA.H<=4)(bT:∀t∈aA,∀n,kB [Z4] n=J (.aC<|g t,Y1,n))(ba:aA.all g=Y1)(n:Nat):mB [(.aD aA,Y0)] n=J Zr:=by
 have de:bh=1000000:=rfl;have au:Kx [J (.aD aA,.ag)] n=J (.ao (aA.map λt=>T.aC<|g t),.aE,n) :=
  ik aA id (λt=>.aC<|g t) (by rw[r9];rfl) Z3 λy aK=>by simp![ck,bT y aK n]
 have a6:∀l:List T,hQ (l.map λt=>T.aC<|g t)=J (l.map g):=λl=>by
  induction l with
  |nil=>rfl
  |cons x r a4=>simp[hQ,a4]
 have bX:jk n [.ao (aA.map λt=>T.aC<|g t)]=J (.aC Y1,.ag):=by simp only[jk,a6,kj,pR];rw[show(aA.all<|id∘g)=aA.all g from rfl,ba]
 have fc:(1:Int)<=aA.H:=by lia
 have fP:(aA.H:Int)<=4:=by lia
 generalize aA.map (λt=>T.aC<|g t)=bs at*;unfold mB A0;simp![jj,dO,dS,j9,kz,iF,jM,kA,gx,fL,dZ,lr,g7,pq,pv,fc,fP,au,bX]
def adT{n:Nat}(h:mB [Z4] n=J Zr):h3 [Z4] n=J (1,n):=by unfold h3 fnX KC fH eu bK bB ax a9 ai;simp[look,flag,h,eP,jF,mZ,mf]
def K5{n:Nat}(h:mB [Z4] n=J (.aC Y0,Y1,n)):h3 [Z4] n=C:=by unfold h3 fnX KC fH eu bK bB ax a9 ai;simp[look,flag,h,eP,jF,fR]
def ak1(ns:List Int)(k m:Int)(aW:0<=k)(hm:1<=m)(n:Nat):∃r,0<=r/\r<m/\E5 [ZQ,(.int k,Y0),(.int m,Y0)] n=J (.int r,Y1,n):=by
 obtain⟨c,e⟩:=ak0 ns k aW n;have x0:=He ((c+7919*k+1)*48271) (b:=2147483647) Z0;have bH:=Hd ((c+7919*k+1)*48271) (b:=2147483647) Z0;have cf:small ((c+7919*k+1)*48271%2147483647)=Y0:=by unfold small;simp only[decide_eq_true_eq];lia
 have s1:small 48271=Y0:=rfl;have s2:small 7919=Y0:=rfl;have s3:small 7=Y0:=rfl;have m0:0<m:=hm;refine⟨_,He (((c+7919*k+1)*48271%2147483647*((c+7919*k+1)*48271%2147483647)+7*((c+7919*k+1)*48271%2147483647)+k)%2147483629) (by exact B8 m0:m≠0),Hd _ m0,?_⟩;unfold E5 RK;simp![e,og,dZ,Vk,pn,cf,s1,s2,s3,m0]
def qG(ns:List Int)(n:Nat)(m:Int)(hm:1<=m)(bz:n<bh):∃r,0<=r/\r<m/\ka [ZQ,(.dq,Y0),(.int m,Y0)] n=J (.int r,Y1,n+1):=by obtain⟨r,h0,af,e⟩:=ak1 ns (n+1) m (ir _) hm<|n+1;refine⟨r,h0,af,?_⟩;unfold ka RL;simp![jj,lr,g7,pq,pv,bz,e]
def Bg(ns:List Int)(l:List T)(b:Bool)(n:Nat)(aB:l≠[])(bz:n<bh):∃v∈l,qF [ZQ,(.dq,Y0),(.ao l,b)] n=J (v,Y1,n+1):=by
 have:1<=l.H:=by cases l with
  |nil=>exact absurd rfl aB
  |cons _ _=>simp
 obtain⟨r,h0,af,e⟩:=qG ns n l.H Z3 bz;have aU:r.M<l.H:=by lia
 have au:gF l r=J l[r.M]:=by unfold gF;rw[Y2 h0,Y2 af,hj aU]
 refine⟨l[r.M],oA aU,?_⟩;generalize l[r.M]=v at au;unfold qF RM
 exists b<;>simp![jj,lr,ts,e,au]
def Vq(ns l:List Int)(n:Nat)(aB:l≠[])(bz:n<bh):∃v∈l,qF [ZQ,(.dq,Y0),(.ao<|l.map .int,Y0)] n=J (.int v,Y1,n+1):=by obtain⟨t,cA,e⟩:=Bg ns (l.map .int) Y0 n (by simpa using aB) bz;obtain⟨v,bS,rfl⟩:=ez.mp cA;exact⟨v,bS,e⟩
def kX(d:List Int):Prop:=∃lo:Int,∀x∈d,lo<=x/\x<=lo+11
def Vr(ns:List Int)(F:Nat)(n:Nat)(cx:1<=F)(adU:F<=8)(bz:n+20<=bh):∃d n',(kb F d/\kX d)/\n<=n'/\n'<=n+11/\tC [ZQ,(.dq,Y0),(.int F,Y0),(.int 30,Y0)] n=J (aG d,Y1,n'):=by
 have de:bh=1000000:=rfl;obtain⟨r,h0,af,az⟩:=qG ns n 20 Z0<|qT bz;obtain⟨lo,O5,au⟩:=Vq ns [0,0,1,1,r] (n+1) Z7 Z3;have NR:0<=lo/\lo<20:=by simp at O5;lia
 obtain⟨uJ,adV,a6⟩:=Vq ns [1,3,6,12] (n+1+1) Z7 Z3;have q1:1<=uJ/\uJ<=12:=by simp at adV;lia
 rw[show([0,0,1,1,r]:List Int).map T.int=[.int 0,.int 0,.int 1,.int 1,.int r] from rfl]at au;rw[show([1,3,6,12]:List Int).map T.int=[.int 1,.int 3,.int 6,.int 12] from rfl]at a6;have b6:-(bh:Int)<=F:=(ir _)
 have dA:(F:Int)<=(bh:Int):=by lia
 have eR:∃(l:List Int) (bC:Nat),l.H=F/\(∀x∈l,lo<=x/\x<=lo+11)/\n+3<=bC/\bC<=n+3+F/\RN [J (.ao<|ns.map .int,.cZ),J (.dq,.ag),J (.int F,.ag),J (.int 30,.ag),J (.int lo,.ag),J (.int uJ,.ag),C] (n+1+1+1)=J (.ao<|l.map T.int,.aE,bC):=by
  obtain⟨out,bC,aX,bb,cK,fW,hV⟩:=Q4 (K:=1) (N:=bh) (P:=λt=>∃x:Int,t=.int x/\lo<=x/\x<=lo+11) (it:=iC ZV)
   (l:=[C,J 0,J 1,J 2,J 3,J 4,J 5,J 6]) (i:=0) (e:=aH vX<|aa (ai 4)<|aa (aH ek<|aa (ai 5)<|aa (bB 3 ka<|ax (ai 1)<|ax (ai 2)<|ax (ai 6) a9) ar) ar) (S:=[J (.ao<|ns.map .int,.cZ),J (.dq,.ag),J (.int F,.ag),J (.int 30,.ag),J (.int lo,.ag),J (.int uJ,.ag),C]) (n0:=n+1+1+1) (n:=n+1+1+1) (xs:=ip 0 F)
   (by unfold iC;simp![b6,dA]) (λx n bz=>by
    obtain⟨r,h0,af,e⟩:=qG ns n uJ (q1.1)<|bz;have em:vX (n+1) [.int 30,.int<|lo+r]=J (.int (if lo+r<30 then lo+r else 30),.ag):=rfl;refine⟨.int (if lo+r<30 then lo+r else 30),n+1,?_,(gd _ _),(cg _),_,rfl,by split<;>lia,by split<;>lia⟩;generalize (if lo+r<30 then lo+r else 30)=z at em
    simp![e,pn,ck,em]) (by rw[xQ];lia) (by rw[xQ];lia)
  obtain⟨l,rfl,aB⟩:=vv T.int (λx=>lo<=x/\x<=lo+11) bb;rw[xQ]at aX fW;rw[cP]at aX;exact⟨l,bC,aX,aB,cK,by lia,hV⟩
 obtain⟨l,bC,aX,aB,cK,fW,eR⟩:=eR;have cQ:=(sortI_perm l).length_eq;refine⟨sortI l,bC,⟨⟨by lia,(bP (d2 cQ)<|d2 aX),λx av=>by have:=aB x<|(sortI_perm l).mem_iff.mp av;lia,rp l⟩,lo,λx av=>aB x<|(sortI_perm l).mem_iff.mp av⟩,(l4 cK),by lia,?_⟩;have K6:l.H<64:=by lia
 have fO:rr bC [.ao<|l.map .int]=J (.ao<|(sortI l).map .int,.aE):=by simp[rr,n6,K6]
 have gM:qq bC [.ao<|(sortI l).map .int]=J (aG<|sortI l,.ag):=rfl;have k5:5<=bh:=by decide
 have zh:4<=bh:=by decide
 generalize aG (sortI l)=o at*;generalize (sortI l).map T.int=cX at*;generalize l.map T.int=zp at*;unfold tC RO;simp![dG,az,au,a6,eR,fO,gM,zh,k5]
def Sp(ns:List Int)(M F n:Nat)(ei:1<=M)(an5:M<=4)(cx:1<=F)(adU:F<=8)(bz:n+100<=bh):∃ds n',ds.H=M/\(iq M F ds/\∀d∈ds,kX d)/\n<=n'/\n'<=n+48/\vG [ZQ,(.dq,Y0),(.int M,Y0),(.int F,Y0)] n=J (.aD ZB,Y1,n'):=by
 have de:bh=1000000:=rfl;have b6:-(bh:Int)<=M:=(ir _)
 have dA:(M:Int)<=(bh:Int):=by lia
 obtain⟨out,bC,aX,bb,cK,fW,hV⟩:=Q4 (K:=12) (N:=bh-19) (P:=λt=>∃d:List Int,t=aG d/\kb F d/\kX d) (it:=iC ZV)
  (l:=[C,J 0,J 1,J 2,J 3]) (i:=0) (e:=bB 4 tC<|ax (ai 1)<|ax (ai 2)<|ax (aH ek<|aa Z5<|aa (bB 3 ka<|ax (ai 1)<|ax (ai 2)<|ax (ai 4) a9) ar)<|ax (aw<|.int 30) a9) (S:=[J (.ao<|ns.map .int,.cZ),J (.dq,.ag),J (.int M,.ag),J (.int F,.ag)]) (n0:=n) (n:=n) (xs:=ip 0 M)
  (by unfold iC;simp![b6,dA]) (λx n bz=>by
   obtain⟨r,h0,af,e⟩:=qG ns n F Z3 Z3;obtain⟨k,rfl⟩:∃k:Nat,r=k:=⟨r.M,by lia⟩
   obtain⟨d,n',⟨g,WM⟩,fh,fF,au⟩:=Vr ns (1+k) (n+1) (gd _ _) Z3 Z3;have au:tC [ZQ,(.dq,Y0),(.int<|1+(k:Int),Y0),(.int 30,Y0)] (n+1)=J (aG d,Y1,n'):=au;refine⟨aG d,n',?_,(eA fh),fF,d,rfl,⟨g.one,by have:=g.most;lia,g.hJ,g.up⟩,WM⟩;have qe:ho (aG d)=Y1:=rfl;generalize aG d=oR at *
   simp![e,au,pn,ck]) (by rw[xQ];lia) (by rw[xQ];lia)
 obtain⟨l,rfl,aB⟩:=vv aG (λd=>kb F d/\kX d) bb;rw[xQ]at aX fW;rw[cP]at aX;refine⟨l,bC,aX,⟨⟨(bP ei<|d2 aX.symm),(d2 aX),λd h=>(aB d h).1⟩,λd h=>(aB d h).2⟩,cK,by lia,?_⟩;have eR:RQ [J (.ao<|ns.map .int,.cZ),J (.dq,.ag),J (.int M,.ag),J (.int F,.ag)] n=J (.ao<|l.map aG,.aE,bC):=hV;unfold vG RS;simp![eR,ajl]
end je
namespace je
open bj bj.bO bQ
def kI(r:List Bool):T:=.ao<|r.map .aC
def dp(tb:List<|List Bool):T:=.ao<|tb.map kI
def jS(tb:List<|List Bool)(i j:Int):Bool:=(tb.getD i.M []).getD j.M Y1
def nf(tb:List<|List Bool):Prop:=tb.H<=4/\∀r∈tb,r.H=tb.H
def vJ{α:Type}(f:α->T)(l:List α)(d:α){i:Int}(h0:0<=i)(af:i<l.H):gF (l.map f) i=J (f<|l.getD i.M d):=by
 unfold gF;rw[Y2 h0,cP,Y2 af,kg];have:i.M<l.H:=by lia
 rw[hj this,nq,hj this];rfl
def K7{i:Int}(h0:0<=i)(af:i<tb.H)(n:Nat):dv n [dp tb,.int i]=J (kI<|tb.getD i.M [],.ag):=by unfold dp;rw[ts,vJ kI tb [] h0 af];rfl
def ak2(cc:nf tb){i:Int}(h0:0<=i)(af:i<tb.H):(tb.getD i.M []).H=tb.H:=by
 have:i.M<tb.H:=by lia
 rw[nq,hj this];exact cc.2 _<|oA _
def K8(cc:nf tb){i j:Int}(h0:0<=i)(af:i<tb.H)(fk:0<=j)(g1:j<tb.H)(n:Nat):dv n [kI<|tb.getD i.M [],.int j]=J (.aC<|jS tb i j,.ag):=by unfold kI;rw[ts,vJ T.aC _ Y1 fk<|by rw[ak2 cc h0 af];exact g1];rfl
structure Path (m:Nat) (p:List Int):Prop where
 one:1<=p.H
 hJ:∀x∈p,0<=x/\x<m
 bW:p.Nodup
 up:∀x∈p.tail,p.headD 0<x
theorem K9:∀(m:Nat) (p:List Int),(∀x∈p,0<=x/\x<m)->p.Nodup->p.H<=m
 |0,p,h,_=>by
  cases p with
  |nil=>simp
  |cons x p=>have:=h x<|dT ..;lia
 |m+1,p,h,bW=>by
  have a4:=K9 m (p.filter λx=>!decide (x=m)) (λx av=>by
   obtain⟨af,ak⟩:=lC.mp av;have:=h x af;simp at ak
   lia) (bW.filter _)
  have c:p.count (m:Int)<=1:=List.nodup_iff_count.mp bW _;have e:=List.length_eq_countP_add_countP (λx=>decide (x=(m:Int))) (l:=p);have au:p.countP (λx=>decide (x=(m:Int)))=p.count (m:Int):=by unfold List.count;congr 1
  have a6:p.countP (λa=>!decide (a=(m:Int)))=(p.filter λx=>!decide (x=(m:Int))).H:=BL ..;have bX:p.countP (λa=>decide ¬decide (a=(m:Int))=Y0)=p.countP (λa=>!decide (a=(m:Int))):=by congr 1;funext x;simp
  rw[bX]at e;lia
def Path.le{m:Nat}(h:Path m p):p.H<=m:=K9 m p h.hJ h.bW
def lW(m:Nat)(p:List Int):List Int:=List.map (λ(k:Nat)=>p.headD 0+1+(k:Int)) ((List.range ((m:Int)-(p.headD 0+1)).M).filter λ(k:Nat)=>!p.contains (p.headD 0+1+(k:Int)))
def eZ(tb:List<|List Bool)(p:List Int):List ZA:=((lW tb.H p).filter λx=>jS tb (p.getLastD 0) x).map λx=>p++[x]
def Sq{m:Nat}{x:Int}(h:x∈lW m p):p.headD 0<x:=by obtain⟨k,aW,rfl⟩:=ez.mp h;lia
def Fc{m:Nat}(aF:Path m p){x:Int}(h:x∈lW m p):0<=x/\x<m/\x∉p:=by
 obtain⟨k,aW,rfl⟩:=ez.mp h;obtain⟨af,ak⟩:=lC.mp aW;rw[nu]at af;have h0:0<=p.headD 0:=by
  cases p with
  |nil=>simp
  |cons y p=>exact(aF.hJ y<|dT ..).1
 refine⟨(Int.add_nonneg (Int.add_nonneg h0 Z0)<|ir _),by lia,?_⟩;simpa using ak
def Sr{m:Nat}(aF:Path m p):(lW m p).H<=m:=by
 unfold lW;rw[cP];refine bP (r4 ..) ?_;rw[tW];have h0:0<=p.headD 0:=by
  cases p with
  |nil=>simp
  |cons y p=>exact(aF.hJ y<|dT ..).1
 lia
def adW(aF:Path tb.H p)(h:q∈eZ tb p):Path tb.H q/\q.H=p.H+1:=by
 obtain⟨x,av,rfl⟩:=ez.mp h;obtain⟨af,_⟩:=lC.mp av;obtain⟨a,b,c⟩:=Fc aF af;refine⟨⟨by simp,λy aK=>?_,?_,?_⟩,by simp⟩
 ·rcases hR.mp aK with aK|aK
  ·exact aF.hJ y aK
  ·have:=oy.mp aK;subst this;exact⟨a,b⟩
 ·rw[wh];refine⟨aF.bW,by simp,λy aK z hz=>?_⟩;have:=oy.mp hz;subst this;exact λe=>c<|e▸aK
 ·have af:=aF.one;have u:=Sq ‹x∈lW _ p›;have v:=aF.up;cases p with
  |nil=>simp at af
  |cons y r =>
   intro z hz;rcases hR.mp hz with hz|hz
   ·exact v z hz
   ·have:=oy.mp hz;subst this;exact u
def Ss(aF:Path tb.H p):(eZ tb p).H<=tb.H:=by unfold eZ;rw[cP];exact bP (r4 ..)<|Sr aF
def Su{a b:Int}{p:List Int}(h:∀x∈p,a<=x/\x<b)(bW:p.Nodup):p.H<=(b-a).M:=by
 have:=K9 (b-a).M (p.map λx=>x-a) (λy aK=>by
  obtain⟨x,av,rfl⟩:=ez.mp aK;have:=h x av
  lia) (yw.mpr (bW.imp λ{x y} e z=>e Z3))
 rwa [cP]at this
def adX(aF:Path tb.H p):(((eZ tb p).H:Int))<=((((tb.H:Int)-p.headD 0-p.H).M:Nat):Int):=by
 have fh:(eZ tb p).H<=(lW tb.H p).H:=by unfold eZ;rw[cP];exact r4 ..
 have bW:(lW tb.H p).Nodup:=by unfold lW;refine yw.mpr (((List.nodup_range (n:=_)).filter _).imp λ{x y} e z=>e Z3)
 have af:=aF.one
 have:=Su (a:=p.headD 0+1) (b:=tb.H) (p:=lW tb.H p++p.tail) (λx av=>by
  rcases hR.mp av with av|av
  ·have:=Sq av;have:=(Fc aF av).2.1;lia
  ·have:=aF.up x av;have:=(aF.hJ x<|MF av).2;lia) (by
  rw[wh];refine⟨bW,aF.bW.sublist<|List.tail_sublist _,λx av y aK e=>(Fc aF av).2.2 ?_⟩;subst e
  exact MF aK)
 rw[gr,List.length_tail]at this;lia
def agD(p:List Int)(x:Int):((p.map T.int).any λy=>dV y<|.int x)=p.contains x:=by
 induction p with
 |nil=>rfl
 |cons y p a4 =>
  rw[cU,oB,a4,List.contains_cons];congr 1;show(y==x)=(x==y)
  rw[Hc,beq_iff_eq,beq_iff_eq];exact eq_comm
def adY(p:List Int):(p.map T.int).all g5=Y0:=by rw[iM];intro t cA;obtain⟨x,_,rfl⟩:=ez.mp cA;rfl
def steps(cc:nf tb)(aF:Path tb.H p)(b:Bool)(n:Nat):A5 [(dp tb,b),(aG p,Y0)] n=J (.ao<|(eZ tb p).map aG,Y0,n):=by
 have de:bh=1000000:=rfl;obtain⟨jB,WN⟩:=cc;have af:=aF.one;have cQ:=aF.le;obtain⟨x,r,rfl⟩:∃x r,p=x::r:=by
  cases p with
  |nil=>simp at af
  |cons x r=>exact⟨x,r,rfl⟩
 have av:=aF.hJ x<|dT ..;have ahv:(x::r).getLastD 0∈x::r:=by rw[BO,BK Z7];exact MS _
 have aB:=aF.hJ _ ahv;have qb:gF ((x::r).map T.int) (-1)=J (.int<|(x::r).getLastD 0):=by refine at_neg Z7 ?_;rw[MT];rw[BO,BK Z7];rfl
 have WO:gF ((x::r).map T.int) 0=J (.int x):=by rw[vJ T.int _ 0 Z0 Z7];rfl
 have adZ:∀m:bo,(m=.ag\/m=.cZ)->Rw [J (dp tb,m),J (aG<|x::r,.ag),C] n=J (.ao<|(lW tb.H<|x::r).map T.int,.aE,n):=by
  intro m hm;unfold lW;rw[ci];refine rD (List.range ((tb.H:Int)-(x+1)).M) (λk=>.int<|x+1+(k:Int)) (λk=>!(x::r).contains (x+1+(k:Int))) (λk=>.int<|x+1+(k:Int)) ?_ (by rw[tW];lia) λk aW=>?_
  ·refine akQ (i:=x+1) (j:=(tb.H:Int)) ?_ Z3 Z3 (ir _) Z3;have dF:dv n [aG<|x::r,.int 0]=J (.int x,.ag):=by unfold aG;rw[mA,WO];rfl
   generalize aG (x::r)=tp at*;rcases hm with rfl|rfl<;>simp![dp,dF,pn,lr]
  ·constructor
   ·have:=agD (x::r)<|x+1+(k:Int);have f:=adY<|x::r;have e:Kc n [.int<|x+1+(k:Int),aG<|x::r]=J (.aC<|!(x::r).contains (x+1+(k:Int)),.ag):=by
     show((AN _<|.aD _).map _)=_;have i:AN (.int<|x+1+(k:Int)) (.aD<|(x::r).map T.int)=if(Y0&&((x::r).map T.int).all g5)=Y0 then J (((x::r).map T.int).any λy=>dV y<|.int<|x+1+(k:Int)) else C:=rfl
     rw[i,f,this];rfl
    generalize (x::r).contains (x+1+(k:Int))=c at*;generalize aG (x::r)=tp at*;simp![ck,e]
   ·intro _;simp![ck]
 have b6:∀m:bo,(m=.ag\/m=.cZ)->Rx [J (dp tb,m),J (aG<|x::r,.ag),J (.ao<|(lW tb.H<|x::r).map T.int,.aE)] n=J (.ao<|(eZ tb<|x::r).map aG,.aE,n):=by
  intro m hm;unfold eZ;rw[ci];refine rD (lW tb.H<|x::r) T.int (λy=>jS tb ((x::r).getLastD 0) y) (λy=>aG<|(x::r)++[y]) rfl (by have:=Sr aF;lia) λy aK=>?_;obtain⟨NS,dB,iO⟩:=Fc aF aK;constructor
  ·have g1:=K7 (tb:=tb) aB.1 aB.2 n;have g2:=K8 ⟨jB,WN⟩ aB.1 aB.2 NS dB n;generalize (x::r).getLastD 0=cy at*;generalize jS tb cy y=v at*;generalize kI _=ks at*;have a6:pF n [.int 1]=J (.int<|-1,.ag):=rfl;have bX:dv n [aG<|x::r,.int<|-1]=J (.int cy,.ag):=by unfold aG;rw[mA,qb];rfl
   generalize aG (x::r)=tp at*;unfold dp at g1;rcases hm with rfl|rfl<;>simp![dp,ck,a6,bX,g1,g2]
  ·intro _;have hz:((x::r).map T.int).H+1<=bh:=by rw[cP];lia
   unfold aG;rw[lD];generalize (x::r).map T.int=L at*;have cq:1<=bh:=by decide
   rcases hm with rfl|rfl<;>simp![ck,vx,hz,cq]
 unfold A5 Ry;have m0:=adZ (if b then .ag else .cZ) (by exists b<;>simp);have cR:=b6 (if b then .ag else .cZ) (by exists b<;>simp);generalize aG (x::r)=tp at*;generalize (lW tb.H<|x::r).map T.int=cs at*;generalize (eZ tb<|x::r).map aG=ss at *
 exists b
 ·simp only[jo,if_false]at m0 cR;generalize dp tb=tt at*;simp![m0,dO,cR]
 ·simp only[if_true]at m0 cR;generalize dp tb=tt at*;simp![m0,dO,cR]
def ahead(p:List Int)(k:Nat):Int:=if k=0 then p.getLastD 0 else p.getD (k-1) 0
def jO(tb:List<|List Bool)(p:List Int):Bool:=(List.range p.H).all λk=>jS tb (ahead p k)<|p.getD k 0
def Sv{p:List Int}{k:Nat}(h:k<p.H):p.getD k 0∈p:=by rw[nq,hj h];exact oA _
def amJ{p:List Int}(h:1<=p.H):p.getLastD 0∈p:=by
 have:p≠[]:=by intro e;subst e;simp at h
 rw[BO,BK this];exact MS _
def ad0(h:1<=p.H){k:Nat}(aW:k<p.H):ahead p k∈p:=by
 unfold ahead;split
 ·exact amJ h
 ·exact Sv<|B1 aW
def amK(h:1<=p.H){k:Nat}(aW:k<p.H):gF (p.map T.int) ((k:Int)-1)=J (.int<|ahead p k):=by
 unfold ahead;by_cases h0:k=0
 ·subst h0;have aF:p≠[]:=by intro e;subst e;simp at h
  rw[Y2 rfl];refine at_neg (by simpa using aF) ?_;rw[MT,BO,BK aF];rfl
 ·rw[Y3 h0,vJ T.int p 0 Z3 Z3];rw[show((k:Int)-1).M=k-1 by lia]
def bools(l:List Bool):hQ (l.map T.aC)=J l:=by
 induction l with
 |nil=>rfl
 |cons b l a4=>rw[cU];unfold hQ;rw[a4];rfl
def ad1(cc:nf tb)(aF:Path tb.H p)(b:Bool)(n:Nat):xW [(dp tb,b),(aG p,Y0)] n=J (.aC<|jO tb p,Y1,n):=by
 have de:bh=1000000:=rfl;have jB:=cc.1;have af:=aF.one;have cQ:=aF.le;have hv:∀m:bo,(m=.ag\/m=.cZ)->Rz [J (dp tb,m),J (aG p,.ag)] n=J (.ao<|((List.range p.H).map λk=>jS tb (ahead p k)<|p.getD k 0).map T.aC,.aE,n):=by
  intro m hm;rw[ci];refine ik (List.range p.H) (λk=>.int ((k:Nat):Int)) (λk=>.aC<|jS tb (ahead p k)<|p.getD k 0) ?_ (by rw[tW];lia) λk aW=>?_
  ·rw[<-Ks];refine EG (j:=(p.H:Int)) ?_ (ir _) Z3;rcases hm with rfl|rfl<;>simp![dp,aG,g7]
  ·rw[nu]at aW;have iS:=aF.hJ _<|ad0 af aW;have k0:=aF.hJ _<|Sv aW;have g1:=K7 (tb:=tb) iS.1 iS.2 n;have g2:=K8 cc iS.1 iS.2 k0.1 k0.2 n;have az:dv n [aG p,.int<|(k:Int)-1]=J (.int<|ahead p k,.ag):=by unfold aG;rw[mA,amK af aW];rfl
   have au:dv n [aG p,.int (k:Int)]=J (.int<|p.getD k 0,.ag):=by unfold aG;rw[mA,vJ T.int p 0 (ir _) Z3];rfl
   generalize ahead p k=x at*;generalize p.getD k 0=y at*;generalize jS tb x y=v at*;generalize kI _=ks at*;generalize aG p=tp at*;unfold dp at g1;rcases hm with rfl|rfl<;>simp![dp,ck,kc,dZ,az,au,g1,g2]
 have m0:=hv (if b then .ag else .cZ) (by exists b<;>simp);have a6:jk n [.ao<|((List.range p.H).map λk=>jS tb (ahead p k)<|p.getD k 0).map T.aC]=J (.aC<|jO tb p,.ag):=by rw[xT,bools];unfold jO;rw[kj,pR];rfl
 unfold xW RA;generalize ((List.range p.H).map λk=>jS tb (ahead p k)<|p.getD k 0).map T.aC=l at*;generalize aG p=tp at*;generalize jO tb p=r at *
 exists b
 ·simp only[jo,if_false]at m0;generalize dp tb=tt at*;simp![m0,a6]
 ·simp only[if_true]at m0;generalize dp tb=tt at*;simp![m0,a6]
def ly(tb:List<|List Bool):Nat->List ZA->List ZA->List ZA
 |0,found,_=>found
 |k+1,found,dH=>if dH.isEmpty then found else ly tb k (found++(dH.flatMap<|eZ tb).filter (jO tb)) (dH.flatMap<|eZ tb)
def ones(m:Nat):List ZA:=List.map (λ(k:Nat)=>[(k:Int)])<|List.range m
def Fd(tb:List<|List Bool):List ZA:=hL<|ly tb 5 []<|ones tb.H
def At(tb:List<|List Bool)(k:Nat)(dH:List ZA):Prop:=∀p∈dH,Path tb.H p/\p.H=k+1
def At.next{k:Nat}(h:At tb k dH):At tb (k+1)<|dH.flatMap<|eZ tb:=λq a7=>by obtain⟨p,aF,a7⟩:=GS.mp a7;obtain⟨af,ak⟩:=h p aF;obtain⟨bc,cL⟩:=adW af a7;exact⟨bc,by lia⟩
def Sw(cc:nf tb){k:Nat}(h:At tb k dH):(dH.flatMap<|eZ tb).H<=4*dH.H:=by
 induction dH with
 |nil=>simp
 |cons p ps a4 =>
  have:=a4 λq a7=>h q<|am _ a7;have l:=Ss (h p<|dT ..).1;have:=cc.1;rw[nr,gr,d9];lia
def La(tb:List<|List Bool):At tb 0<|ones tb.H:=λp aF=>by obtain⟨k,aW,rfl⟩:=ez.mp aF;rw[nu]at aW;exact⟨⟨by simp,λx av=>by have:=oy.mp av;subst this;lia,by simp,by simp⟩,rfl⟩
structure Ring (tb:List<|List Bool) (p:List Int):Prop where
 path:Path tb.H p
 two:2<=p.H
 round:jO tb p=Y0
theorem Sx:∀(j k:Nat) (found dH:List ZA),At tb k dH->(∀p∈found,Ring tb p)->∀p∈ly tb j found dH,Ring tb p
 |0,_,_,_,_,hf=>hf
 |j+1,k,found,dH,h,hf=>by
  unfold ly;split
  ·exact hf
  ·refine Sx j (k+1) _ _ h.next λp aF=>?_;rcases hR.mp aF with aF|aF
   ·exact hf p aF
   ·obtain⟨af,ak⟩:=lC.mp aF;obtain⟨bc,cL⟩:=h.next p af;exact⟨bc,(qU<|d2 cL.symm),ak⟩
def ng:Nat->Nat
 |0=>0
 |m+1=>(m+1)*(1+ng m)
def mC(tb:List<|List Bool)(p:List Int):Nat:=((tb.H:Int)-p.headD 0-p.H).M
theorem Sy:∀(j k:Nat) (found dH:List ZA),At tb k dH->(ly tb j found dH).H<=found.H+(dH.map λp=>ng<|mC tb p).sum
 |0,_,_,_,_=>by unfold ly;exact gd _ _
 |j+1,k,found,dH,h=>by
  unfold ly;split
  ·exact gd _ _
  ·have a4:=Sy j (k+1) (found++(dH.flatMap<|eZ tb).filter (jO tb)) _ h.next;have fF:=r4 (jO tb)<|dH.flatMap<|eZ tb;rw[gr]at a4;have key:∀ps:List ZA,At tb k ps->(ps.flatMap<|eZ tb).H+((ps.flatMap<|eZ tb).map λp=>ng<|mC tb p).sum<=(ps.map λp=>ng<|mC tb p).sum:=by
    intro ps
    induction ps with
    |nil=>intro _;simp
    |cons p ps ad2 =>
     intro aF;have anI:=ad2 λq a7=>aF q<|am _ a7;obtain⟨P,cQ⟩:=aF p<|dT ..;have uY:=adX P;rw[nr,gr,lD,List.sum_append,cU,tZ];have e:∀q∈eZ tb p,mC tb q=mC tb p-1:=λq a7=>by
      obtain⟨x,av,rfl⟩:=ez.mp a7;unfold mC;have af:=P.one;have hd:(p++[x]).headD 0=p.headD 0:=by
       cases p with
       |nil=>simp at af
       |cons y r=>rfl
      rw[hd,gr,pM];lia
     have WQ:((eZ tb p).map λp=>ng<|mC tb p).sum=(eZ tb p).H*ng (mC tb p-1):=by rw[mH (g:=λ_=>ng<|mC tb p-1) λq a7=>by rw[e q a7]];rw[List.map_const',MA]
     have bd:(eZ tb p).H+(eZ tb p).H*ng (mC tb p-1)<=ng (mC tb p):=by
      have NT:(eZ tb p).H<=mC tb p:=by unfold mC;lia
      generalize mC tb p=m at*;cases m with
      |zero =>
       have:(eZ tb p).H=0:=(h9 NT<|gH _)
       rw[this];simp
      |succ m =>
       show _<=(m+1)*(1+ng m);rw[MX];have:=yD (1+ng m) NT;rw[Nat.mul_add,Nat.mul_one]at this;exact this
     rw[WQ];lia
   have:=key dH h;lia
def ad3(cc:nf tb):(ly tb 5 []<|ones tb.H).H<64:=by
 have h:=Sy 5 0 [] (ones tb.H)<|La tb;have s4:=cc.1;have e:∀n:Nat,n<=4->((ones n).map λp=>ng<|((n:Int)-p.headD 0-p.H).M).sum<=20:=by
  intro n bz;have:n=0\/n=1\/n=2\/n=3\/n=4:=by lia
  rcases this with rfl|rfl|rfl|rfl|rfl<;>decide
 have:=e tb.H s4;have h':(ly tb 5 []<|ones tb.H).H<=((ones tb.H).map λp=>ng<|((tb.H:Int)-p.headD 0-p.H).M).sum:=by rw[tY,t6]at h;exact h
 exact gT h'<|gT this Z0
theorem Fe{α β:Type}(f:α->List β):∀(l:List α) (acc:List β),l.foldl (λa x=>a++f x) acc=acc++l.flatMap f
 |[],acc=>by simp
 |x::l,acc=>by rw[mI,Fe f l,nr,h7]
def ad4(cc:nf tb)(hm:m=.ag\/m=.cZ){k:Nat}(h:At tb k dH)(aB:dH.H<=10000)(f:T×bo)(ct:Option ZJ)(n:Nat) :
  ∃x1,KJ [J (dp tb,m),J f,J (.ao<|dH.map aG,.ag),J (.ao [],.aE),ct] n=J (.bD,[J (dp tb,m),J f,J (.ao<|dH.map aG,.ag),J (.ao<|(dH.flatMap<|eZ tb).map aG,.aE),x1],n):=by
 have de:bh=1000000:=rfl;obtain⟨S',⟨x1,gZ⟩,e⟩:=Kr (put:=cB 4) (b:=KI) (g:=aG) (n:=n) (R:=λ(s:List (List Int)) S=>∃ct,S=[J (dp tb,m),J f,J (.ao<|dH.map aG,.ag),J (.ao<|s.map aG,.aE),ct]) (step:=λs p=>s++eZ tb p) dH []
  [J (dp tb,m),J f,J (.ao<|dH.map aG,.ag),J (.ao [],.aE),ct] (λpre p post he S gZ=>by
   obtain⟨nN,rfl⟩:=gZ;rw[Fe,pQ];have aF:p∈dH:=by rw[he];simp
   have yd:At tb k pre:=λq a7=>h q (by rw[he];simp[a7]);have fh:=Sw cc yd;have fF:=Ss (h p aF).1;have fc:pre.H<=dH.H:=by rw[he];simp
   have:=cc.1;have st:∀b,A5 [(dp tb,b),(aG p,Y0)] n=J (.ao<|(eZ tb p).map aG,Y0,n):=λb=>steps cc (h p aF).1 b n;have ex:jQ (.ao<|(pre.flatMap<|eZ tb).map aG) (.ao<|(eZ tb p).map aG)=J (.ao<|(pre.flatMap (eZ tb)++eZ tb p).map aG):=by rw[EL,Y2 (by rw[cP,cP];lia),lD]
   refine⟨_,_,rfl,?_,J (aG p,.ag),rfl⟩;unfold KI;refine(EF (t:=.ao<|(eZ tb p).map aG) (u:=.ao<|(pre.flatMap<|eZ tb).map aG) (n':=n) ?_ rfl ex).trans rfl;generalize aG p=tp at*;generalize (eZ tb p).map aG=sp at*;unfold dp at st |-
   rcases hm with rfl|rfl<;>simp![st]) ⟨ct,rfl⟩
 rw[Fe,pQ]at gZ;subst gZ;exact⟨x1,e⟩
def ad5(cc:nf tb)(hm:m=.ag\/m=.cZ){k:Nat}(h:At tb k dH)(aB:dH.H<=10000)(f g:T×bo)(ct:Option ZJ)(n:Nat) :
  KL [J (dp tb,m),J f,J g,J (.ao<|dH.map aG,.aE),ct] n=J (.ao<|(dH.filter<|jO tb).map aG,.aE,n):=by
 have de:bh=1000000:=rfl;refine rD dH aG (jO tb) aG rfl Z3 λp aF=>?_;have e:∀b,xW [(dp tb,b),(aG p,Y0)] n=J (.aC<|jO tb p,Y1,n):=λb=>ad1 cc (h p aF).1 b n;constructor
 ·generalize aG p=tp at*;generalize jO tb p=r at*;unfold dp at e |-;rcases hm with rfl|rfl<;>simp![ck,e]
 ·intro _;unfold aG;simp![ck]
def ad6(cc:nf tb)(hm:m=.ag\/m=.cZ)(n:Nat):∀(j k F:Nat) (found dH:List ZA) (bY ct:Option ZJ),k+j=5->j<F->At tb k dH->dH.H<=4^(k+1)->found.H<=4^(k+2) ->
  ∃S',iW (bK<|ai 2) A6 F [J (dp tb,m),J (.ao<|found.map aG,.aE),J (.ao<|dH.map aG,.aE),bY,ct] n=J (.bD,S',n)/\S'[1]?=J (J (.ao<|(ly tb j found dH).map aG,.aE)):=by
 have de:bh=1000000:=rfl;have stop:∀(F:Nat) (found:List ZA) (bY ct:Option ZJ),0<F->iW (bK<|ai 2) A6 F [J (dp tb,m),J (.ao<|found.map aG,.aE),J (.ao [],.aE),bY,ct] n=J (.bD,[J (dp tb,m),J (.ao<|found.map aG,.aE),J (.ao [],.aE),bY,ct],n):=λF found bY ct cx=>by
  obtain⟨F,rfl⟩:∃G,F=G+1:=⟨F-1,by lia⟩
  unfold iW;rfl
 intro j
 induction j with
 |zero =>
  intro k F found dH bY ct aW cx h aF hf;have e:dH=[]:=by
   cases dH with
   |nil=>rfl
   |cons p ps =>
    obtain⟨af,ak⟩:=h p<|dT ..;have:=af.le;have:=cc.1;lia
  subst e;exact⟨_,stop F found bY ct<|cx,rfl⟩
 |succ j a4 =>
  intro k F found dH bY ct aW cx h aF hf;cases a7:dH with
  |nil=>exact⟨_,stop F found bY ct<|qU<|eA cx,rfl⟩
  |cons NU ps =>
   rw[<-a7];have vk:dH.isEmpty=Y1:=by rw[a7];rfl
   have Sz:k<=4:=(ki<|qT<|d2 aW)
   have dC:4^(k+1)<=4^5:=wi Z0<|t5 Sz;have c7:4^(k+2)<=4^6:=wi Z0<|Nat.add_le_add_right Sz _;have aX:(4:Nat)^5=1024:=by decide
   have bb:(4:Nat)^6=4096:=by decide
   have bA:4^(k+1+1)=4*4^(k+1):=by rw[wq,qV]
   have cp:4^(k+1+2)=4*4^(k+2):=by rw[wq,qV]
   have hF:4^(k+2)=4*4^(k+1):=by rw[wq,qV]
   have fh:=Sw cc h;have fF:=r4 (jO tb)<|dH.flatMap<|eZ tb;obtain⟨G,rfl⟩:∃G,F=G+1:=⟨F-1,by lia⟩
   obtain⟨nN,az⟩:=ad4 cc hm h (bP aF<|bP dC Z0) (.ao<|found.map aG,.aE) ct n;have au:=ad5 cc hm h.next Z3 (.ao<|found.map aG,.aE) (.ao<|dH.map aG,.ag) nN n;have ex:jQ (.ao<|found.map aG) (.ao<|((dH.flatMap<|eZ tb).filter (jO tb)).map aG)=J (.ao<|(found++(dH.flatMap<|eZ tb).filter (jO tb)).map aG):=by rw[EL,Y2 (by rw[cP,cP];lia),lD]
   have a6:=EF (i:=1) (g:=jQ) au rfl ex;obtain⟨S',eV,fM⟩:=a4 (k+1) G (found++(dH.flatMap<|eZ tb).filter (jO tb)) (dH.flatMap<|eZ tb) C nN Z3 (ki cx) h.next Z3 (by rw[gr];lia);have body:A6 [J (dp tb,m),J (.ao<|found.map aG,.aE),J (.ao<|dH.map aG,.aE),bY,ct] n=J (.bD,[J (dp tb,m),J (.ao<|(found++(dH.flatMap<|eZ tb).filter (jO tb)).map aG,.aE),J (.ao<|(dH.flatMap<|eZ tb).map aG,.aE),C,nN],n):=by
    unfold A6;generalize (dH.flatMap<|eZ tb).map aG=lo at*;generalize dH.map aG=ps at*;generalize found.map aG=mR at*;generalize (found++(dH.flatMap<|eZ tb).filter (jO tb)).map aG=fo' at*;generalize KJ=LL at*;generalize hN 1 jQ KL=CC at*;have hn:0<=bh:=by decide
    simp![dG,hn,fD,dO,az,a6,ro]
   refine⟨S',?_,?_⟩
   ·unfold iW;have t:bK (ai 2) [J (dp tb,m),J (.ao<|found.map aG,.aE),J (.ao<|dH.map aG,.aE),bY,ct] n=J (Y0,n):=by
     have:(dH.map aG).isEmpty=Y1:=by rw[a7];rfl
     simp![this]
    rw[t];simp only[eO,if_true];rw[body];exact eV
   ·rw[fM];congr 3;rw[show ly tb (j+1) found dH=if dH.isEmpty then found else ly tb j (found++(dH.flatMap<|eZ tb).filter (jO tb)) (dH.flatMap<|eZ tb) from rfl,vk];rfl
def ad7(h:∀l∈ls,1<=l.H)(ad8:ls.H<64)(n:Nat):rt n [.ao<|ls.map aG]=J (.ao<|(hL ls).map aG,.aE):=by
 have e:mq (ls.map aG)=J ls:=Kp λl aB e=>by have:=h l aB;rw[e]at this;simp at this
 show((mq<|ls.map aG).bind λls=>if ls.H<64 then J (T.ao<|(hL ls).map aG,bo.aE) else C)=_;rw[e,eO,Y2 ad8]
def rings(cc:nf tb)(b:Bool)(n:Nat):EV [(dp tb,b)] n=J (.ao<|(Fd tb).map aG,Y0,n):=by
 have de:bh=1000000:=rfl;have jB:=cc.1;have hv:∀m:bo,(m=.ag\/m=.cZ)->KH [J (dp tb,m),J (.ao [],.aE),C,C,C] n=J (.ao<|(ones tb.H).map aG,.aE,n):=by
  intro m hm;unfold ones;rw[ci];refine ik (List.range tb.H) (λk=>.int ((k:Nat):Int)) (λ(k:Nat)=>aG [(k:Int)]) ?_ (by rw[tW];lia) λk aW=>?_
  ·rw[<-Ks];refine EG (j:=(tb.H:Int)) ?_ (ir _) Z3;rcases hm with rfl|rfl<;>simp![dp,lr]
  ·have cq:1<=bh:=by decide
   simp![ck,aG,cq]
 have hm:(if b then bo.ag else bo.cZ)=.ag\/(if b then bo.ag else bo.cZ)=.cZ:=by exists b<;>simp
 have m0:=hv _ hm;obtain⟨S',eV,fM⟩:=ad6 cc hm n 5 0 100000 [] (ones tb.H) C C rfl Z0 (La tb) (by unfold ones;rw[cP,tW];exact jB) Z7;have a6:=ad7 (ls:=ly tb 5 []<|ones tb.H) (λl aB=>by have:=(Sx 5 0 _ _ (La tb) Z7 l aB).two;exact kP this) (ad3 cc) n;have v:ai 1 S' n=J (.ao<|(ly tb 5 []<|ones tb.H).map aG,.i3,n):=by rw[Ml,fM];rfl
 have lw:KN [J (dp tb,if b then bo.ag else bo.cZ),J (.ao [],.aE),J (.ao<|(ones tb.H).map aG,.aE),C,C] n=J (.bD,S',n):=eV;unfold Fd;unfold EV RB;generalize (ones tb.H).map aG=on at*;generalize (ly tb 5 []<|ones tb.H).map aG=wX at*;generalize (hL<|ly tb 5 []<|ones tb.H).map aG=w3 at*;generalize KN=LL at*;generalize KH=CC at*;have hn:0<=bh:=by decide
 exists b
 ·simp only[jo,if_false]at m0 lw;generalize dp tb=tt at*;have e:cT (aH rt ZO) S' n=J (.aV (.ao w3) Y0,S',n):=by rw[Gm,F8,EI,v];show BC S' (yj n<|rt n [.ao wX])=_;rw[a6];rfl
  generalize cT (aH rt ZO)=RR at*;simp![dG,hn,m0,lw,e]
 ·simp only[if_true]at m0 lw;generalize dp tb=tt at*;have e:cT (aH rt ZO) S' n=J (.aV (.ao w3) Y0,S',n):=by rw[Gm,F8,EI,v];show BC S' (yj n<|rt n [.ao wX])=_;rw[a6];rfl
  generalize cT (aH rt ZO)=RR at*;simp![dG,hn,m0,lw,e]
def px(a b:List Int):Bool:=decide (n9 b a<n9 a b)
def Mo{F G:Nat}(ba:kb F a)(aq:kb G b)(cx:F<=8)(iR:G<=8)(n:Nat):qE [(aG a,Y0),(aG b,Y0)] n=J (.aC<|px a b,Y1,n):=by have e:=L7 ba aq cx iR n;unfold qE Rv px;generalize aG a=ta at*;generalize aG b=tb at*;simp![e,mA,gF,rn,dZ]
def tabOf(ss:List ZA):List<|List Bool:=ss.map λa=>ss.map λb=>px a b
def SA(h:ss.H<=4):nf<|tabOf ss:=by unfold tabOf;refine⟨by rw[cP];exact h,λr aU=>?_⟩;obtain⟨a,_,rfl⟩:=ez.mp aU;rw[cP,cP]
def SD(ss:List ZA):(tabOf ss).H=ss.H:=by unfold tabOf;rw[cP]
def SE{α β:Type}(f:α->β)(l:List α):l.foldl (λa x=>a++[f x]) []=l.map f:=by
 rw[Fe,pQ]
 induction l with
 |nil=>rfl
 |cons x l a4=>rw[nr,a4];rfl
def Vs{M F:Nat}(h:iq M F ds)(ei:M<=4)(cx:F<=8)(n:Nat):xX [Zc] n=J (dp<|tabOf ds,Y0,n):=by
 have de:bh=1000000:=rfl;have fP:=h.most;have row:∀a∈ds,∀bH:Option ZJ,KP [J (.aD ZB,.ag),bH,J (aG a,.ag)] n=J (kI (ds.map λb=>px a b),.aE,n):=λa ba bH=>by unfold kI;rw[ci];refine ik ds aG (λb=>.aC<|px a b) rfl Z3 λb aq=>?_;have e:=Mo (h.aL a ba) (h.aL b aq) cx cx n;generalize aG a=ta at*;generalize aG b=tb at*;simp![ck,e]
 obtain⟨S',⟨cf,gZ⟩,e⟩:=Kr (put:=cB 2) (b:=RC) (g:=aG) (n:=n) (R:=λ(s:List (List Bool)) S=>∃cf,S=[J (.aD ZB,.ag),J (.ao<|s.map kI,.aE),cf]) (step:=λs a=>s++[ds.map λb=>px a b]) ds [] [J (.aD ZB,.ag),J (.ao [],.aE),C] (λpre a post he S gZ=>by
   obtain⟨cf,rfl⟩:=gZ;have ba:a∈ds:=by rw[he];simp
   have l:(pre.foldl (λs a=>s++[ds.map λb=>px a b]) []).H=pre.H:=by rw[SE];simp
   have fF:pre.H<ds.H:=by rw[he];simp
   have ap:rT (.ao<|(pre.foldl (λs a=>s++[ds.map λb=>px a b]) []).map kI) (kI (ds.map λb=>px a b))=J (.ao<|(pre.foldl (λs a=>s++[ds.map λb=>px a b]) []++[ds.map λb=>px a b]).map kI):=by rw[lD];show(if _ then _ else _)=_;rw[Y2<|by rw[cP,l];lia];rfl
   exact⟨_,_,rfl,EF (i:=1) (g:=rT) (d:=KP) (row a ba _) rfl ap,J (aG a,.ag),rfl⟩) ⟨C,rfl⟩
 rw[SE]at gZ;have gZ:S'=[J (.aD ZB,.ag),J (dp<|tabOf ds,.aE),cf]:=gZ;subst gZ;have jf:fD 0 KQ [J (.aD ZB,.ag),J (.ao [],.aE),C] n=J (.bD,[J (.aD ZB,.ag),J (dp<|tabOf ds,.aE),cf],n):=e;unfold xX RD;generalize dp (tabOf ds)=tt at*;generalize ds.map aG=dd at*;generalize fD 0 KQ=LL at*;have hn:0<=bh:=by decide
 simp![dG,hn,jf]
def ad9{M F:Nat}(h:iq M F ds)(ei:M<=4)(cx:F<=8)(n:Nat):vB [Zc] n=J (.ao<|(Fd<|tabOf ds).map aG,Y0,n):=by have fP:=h.most;have az:=pw h ei cx n;have au:=Vs h ei cx n;have a6:=rings (SA (ss:=ds)<|bP fP ei) Y0 n;unfold vB RE;unfold dp at au a6;generalize (Fd<|tabOf ds).map aG=hr at*;generalize (tabOf ds).map kI=tt at*;generalize ds.map aG=dd at*;simp![az,au,a6]
structure hx (d:List Z6):Prop where
 bW:(d.map (·.1)).Nodup
 pos:∀q∈d,1<=q.2
def cnt_cons(p:Int×Int)(d:List Z6)(k:Int):c5 (p::d) k=if p.1=k then p.2 else c5 d k:=by unfold c5;rw[ii];by_cases h:p.1=k<;>simp[h]
theorem kD:∀{d:List Z6} {q:Int×Int},(d.map (·.1)).Nodup->q∈d->c5 d q.1=q.2
 |[],q,_,h=>by simp at h
 |p::d,q,bW,h=>by
  rw[cU]at bW;obtain⟨aM,bC⟩:=nt.mp bW;rw[cnt_cons];rcases d4.mp h with rfl|h
  ·simp
  ·have:¬p.1=q.1:=λz=>aM (by rw[z];exact kf (f:=(·.1)) h);rw[Y3 this];exact kD bC h
def rK{k:Int}(h:k∉d.map (·.1)):c5 d k=0:=by
 induction d with
 |nil=>rfl
 |cons p d a4 =>
  rw[cU]at h;rw[cnt_cons,Y3 λz=>h<|by rw[<-z];exact dT ..];exact a4 λz=>h<|am _ z
def hx.mem(B:hx d){k:Int}(h:1<=c5 d k):k∈d.map (·.1):=by
 by_cases z:k∈d.map (·.1)
 ·exact z
 ·rw[rK z]at h;lia
def hx.GB(B:hx d){k:Int}(h:k∈d.map (·.1)):1<=c5 d k:=by obtain⟨q,a7,rfl⟩:=ez.mp h;rw[kD B.bW a7];exact B.pos q a7
def hx.nonneg(B:hx d)(k:Int):0<=c5 d k:=by
 by_cases z:k∈d.map (·.1)
 ·have:=B.GB z;exact kQ this
 ·rw[rK z];decide
noncomputable def subs(d:List Z6)(g:Int->Int):List Z6:=(d.map λp=>(p.1,p.2-g p.1)).filter λp=>decide (0<p.2)
def SF(d:List Z6)(g:Int->Int):((subs d g).map (·.1)).Sublist (d.map (·.1)):=by unfold subs;have h:=(List.filter_sublist (p:=λp:Int×Int=>decide (0<p.2)) (l:=d.map λp=>(p.1,p.2-g p.1))).map (λp:Int×Int=>p.1);rw[ci]at h;exact h
theorem hx.subs(B:hx d)(g:Int->Int):hx<|subs d g:=by refine⟨B.bW.sublist<|SF d g,λq a7=>?_⟩;have:=(lC.mp a7).2;simp at this;exact this
def SG(B:hx d){g:Int->Int}(h:∀k,0<=g k/\g k<=c5 d k)(k:Int):c5 (subs d g) k=c5 d k-g k:=by
 by_cases z:k∈(subs d g).map (·.1)
 ·obtain⟨q,a7,rfl⟩:=ez.mp z;rw[kD (B.subs g).bW a7];obtain⟨af,_⟩:=lC.mp a7;obtain⟨p,aF,rfl⟩:=ez.mp af;rw[kD B.bW aF]
 ·rw[rK z];obtain⟨af,ak⟩:=h k;by_cases y:k∈d.map (·.1)
  ·obtain⟨q,a7,rfl⟩:=ez.mp y;rw[kD B.bW a7]at ak |-;by_cases w:0<q.2-g q.1
   ·exfalso;refine z<|ez.mpr ⟨(q.1,q.2-g q.1),lC.mpr ⟨ez.mpr ⟨q,a7,rfl⟩,by simpa using w⟩,rfl⟩
   ·exact Int.le_antisymm (Int.sub_nonneg_of_le ak)<|Hh.mp w
  ·rw[rK y]at ak |-;lia
theorem SH(g h:Int->Int)(bT:∀k,0<=h k):∀d:List Z6,subs (subs d g) h=subs d λk=>g k+h k
 |[]=>rfl
 |p::d=>by
  have a4:=SH g h bT d;unfold subs at a4 |-;have:=bT p.1;rw[cU,tX,cU,tX];by_cases w:0<p.2-g p.1
  ·simp only[w,decide_true,if_true];rw[cU,tX,a4];simp only[Int.sub_sub]
  ·have fM:¬0<p.2-(g p.1+h p.1):=by lia
   simp only[w,fM,decide_false,jo,if_false];exact a4
def aea(B:hx d):subs d (λ_=>0)=d:=by
 unfold subs;have e:(d.map λp=>(p.1,p.2-0))=d:=by refine(mH (g:=id) λp _=>?_).trans (r9 _);simp
 rw[e,yq];intro p aF;have:=B.pos p aF;simp;exact this
def low(d:List Z6):Int:=(least<|d.map (·.1)).getD 0
theorem SI:∀{l:List Int},l≠[]->∃x,least l=J x/\x∈l/\∀y∈l,x<=y
 |[],h=>absurd rfl h
 |a::l,_=>by
  have gen:∀(l:List Int) (a:Int),(l.foldl (λa b=>if b<a then b else a) a=a\/l.foldl (λa b=>if b<a then b else a) a∈l)/\l.foldl (λa b=>if b<a then b else a) a<=a/\∀y∈l,l.foldl (λa b=>if b<a then b else a) a<=y:=by
   intro l
   induction l with
   |nil=>intro a;exact⟨.inl rfl,Int.le_refl _,by simp⟩
   |cons b l a4 =>
    intro a;rw[mI];obtain⟨af,ak,bc⟩:=a4 (if b<a then b else a);refine⟨?_,?_,λy aK=>?_⟩
    ·rcases af with af|af
     ·rw[af];by_cases c:b<a
      ·rw[Y2 c];exact .inr<|dT ..
      ·rw[Y3 c];exact .inl rfl
     ·exact .inr<|am _ af
    ·refine jq ak ?_;split<;>lia
    ·rcases d4.mp aK with rfl|aK
     ·refine jq ak ?_;split<;>lia
     ·exact bc y aK
  obtain⟨af,ak,bc⟩:=gen l a;refine⟨_,rfl,?_,λy aK=>?_⟩
  ·rcases af with af|af
   ·rw[af];exact dT ..
   ·exact am _ af
  ·rcases d4.mp aK with rfl|aK
   ·exact ak
   ·exact bc y aK
def Bh(h:d≠[]):least (d.map (·.1))=J (low d)/\low d∈d.map (·.1)/\∀y∈d.map (·.1),low d<=y:=by
 obtain⟨x,e,af,ak⟩:=SI (l:=d.map (·.1)) (by simpa using h);have:low d=x:=by unfold low;rw[e];rfl
 rw[this];exact⟨e,af,ak⟩
def ajx(h:d≠[]){m:Int}(af:m∈d.map (·.1))(ak:∀y∈d.map (·.1),m<=y):low d=m:=by obtain⟨_,a,b⟩:=Bh h;have:=b m af;have:=ak _ a;lia
noncomputable def d3(aL:List Int)(hP:Int)(j:Nat)(x:Int):Int:=(j:Int)*((aL.countP λy=>y==x-hP:Nat):Int)
def tF(aL:List Int)(hP:Int)(j:Nat)(x:Int):0<=d3 aL hP j x:=Int.mul_nonneg (ir _)<|ir _
def Lb(aL:List Int)(hP:Int)(i j:Nat)(x:Int):d3 aL hP (i+j) x=d3 aL hP i x+d3 aL hP j x:=by unfold d3;rw[Int.natCast_add,yM]
def aeb(aL:List Int)(hP:Int){i j:Nat}(h:i<=j)(x:Int):d3 aL hP i x<=d3 aL hP j x:=Na Z3<|ir _
def Fits(d:List Z6)(g:Int->Int):Prop:=∀k,g k<=c5 d k
def dk(aL:List Int)(d:List Z6):Int:=low d-aL.headD 0
def Ok(aL:List Int)(d:List Z6):Prop:=0<=dk aL d/\Fits d (d3 aL ZF 1)
inductive nj (aL:List Int):List Z6->Option ZA->Prop
 |nil:nj aL []<|some []
 |bad {d:List Z6}:d≠[]->¬Ok aL d->nj aL d C
 |good {d:List Z6} {r:Option ZA}:d≠[]->Ok aL d->nj aL (subs d<|d3 aL ZF 1) r->nj aL d (r.map (dk aL d::·))
noncomputable def gG(aL:List Int):Nat:=aL.countP λy=>y==aL.headD 0
def Ff(h:1<=aL.H):1<=gG aL:=by
 cases aL with
 |nil=>simp at h
 |cons x r=>unfold gG;rw[oz];simp
def Fg(aL:List Int)(d:List Z6)(j:Nat):d3 aL ZF j (low d)=(j:Int)*(gG aL:Int):=by unfold d3 dk gG;rw[show low d-(low d-aL.headD 0)=aL.headD 0 by lia]
def ak3{hP:Int}{i j:Nat}(h:i<=j)(f:Fits d<|d3 aL hP j):Fits d<|d3 aL hP i:=λk=>jq (aeb aL hP h k)<|f k
def SJ(af:1<=aL.H)(B:hx d)(hd:d≠[]){j:Nat}(bU:((j:Int)+1)*(gG aL:Int)<=c5 d (low d))(hf:Fits d<|d3 aL ZF j) :
  subs d (d3 aL ZF j)≠[]/\dk aL (subs d<|d3 aL ZF j)=dk aL d:=by
 have c:=SG B (g:=d3 aL ZF j) (λk=>⟨tF aL _ j k,hf k⟩)<|low d;rw[Fg]at c;have p:=Ff af;rw[yM]at bU;have m:=(B.subs<|d3 aL ZF j).mem (k:=low d) Z3;have ne:subs d (d3 aL ZF j)≠[]:=by intro e;rw[e]at m;simp at m
 refine⟨ne,?_⟩;have e:=ajx ne m λy aK=>(Bh hd).2.2 y ((SF d _).subset aK);show low _-_=low d-_;rw[e]
def SK(B:hx d){hP:Int}{j:Nat}(hf:Fits d<|d3 aL hP j):Fits (subs d<|d3 aL hP j) (d3 aL hP 1)↔Fits d (d3 aL hP<|j+1):=by
 have c:=SG B (g:=d3 aL hP j) λk=>⟨tF aL _ j k,hf k⟩;constructor
 ·intro h k;have:=h k;rw[c k]at this;rw[Lb];lia
 ·intro h k;have:=h k;rw[Lb]at this;rw[c k];lia
def amL{hP:Int}(j:Nat):subs (subs d<|d3 aL hP j) (d3 aL hP 1)=subs d (d3 aL hP<|j+1):=by rw[SH _ _<|tF aL hP 1];congr 1;funext k;rw[Lb]
theorem Lc(af:1<=aL.H)(B:hx d)(hd:d≠[])(h0:0<=dk aL d)(M:nj aL d r):∀j:Nat,(j:Int)*(gG aL:Int)<=c5 d (low d)->Fits d (d3 aL ZF j) ->
  ∃b5,r=b5.map (List.replicate j ZF++·)/\nj aL (subs d<|d3 aL ZF j) b5
 |0,_,_=>by
  refine⟨r,by exists r<;>rfl,?_⟩;have e:d3 aL ZF 0=λ_=>0:=by funext k;unfold d3;simp
  rw[e,aea B];exact M
 |j+1,bU,hf=>by
  have Ld:=ak3 (t7 j) hf;have rA:((j:Int)+1)*(gG aL:Int)<=c5 d (low d):=by simpa using bU
  obtain⟨WR,e,H3⟩:=Lc af B hd h0 M j (by rw[yM]at rA;lia) Ld;obtain⟨ne,w4⟩:=SJ af B hd rA Ld;have ok:Ok aL<|subs d<|d3 aL ZF j:=⟨by rw[w4];exact h0,by rw[w4];exact(SK B Ld).mpr hf⟩
  generalize qc:subs d (d3 aL ZF j)=X at*;cases H3 with
  |nil=>exact absurd rfl ne
  |bad _ Le=>exact absurd ok Le
  |@good _ b5 _ _ NW =>
   rw[w4,<-qc,amL]at NW;refine⟨b5,?_,NW⟩;rw[e,w4];cases b5 with
   |none=>rfl
   |some l =>
    simp only[kj];congr 1;rw[ME,h7];rfl
def aec(af:1<=aL.H)(B:hx d)(hd:d≠[])(h0:0<=dk aL d)(M:nj aL d r){q:Nat}(a7:(q:Int)*(gG aL:Int)<=c5 d (low d))(hf:¬Fits d (d3 aL ZF q)):r=C:=by
 have z:Fits d<|d3 aL ZF 0:=λk=>by have:=B.nonneg k;unfold d3;simpa using this
 have ex:∃j,j<q/\Fits d (d3 aL ZF j)/\¬Fits d (d3 aL ZF<|j+1):=by
  clear a7
  induction q with
  |zero=>exact absurd z hf
  |succ q a4 =>
   by_cases c:Fits d<|d3 aL ZF q
   ·exact⟨q,oE _,c,hf⟩
   ·obtain⟨j,a,b⟩:=a4 c;exact⟨j,(oC a),b⟩
 obtain⟨j,bU,f1,f2⟩:=ex;have p:=Ff af;have rA:((j:Int)+1)*(gG aL:Int)<=c5 d (low d):=jq (Na Z3<|ir _) a7;obtain⟨WR,e,H3⟩:=Lc af B hd h0 M j (by rw[yM]at rA;lia) f1;obtain⟨ne,w4⟩:=SJ af B hd rA f1;have Le:¬Ok aL (subs d<|d3 aL ZF j):=λo=>f2<|(SK B f1).mp (by have:=o.2;rw[w4]at this;exact this);generalize subs d (d3 aL ZF j)=X at*;cases H3 with
 |nil=>exact absurd rfl ne
 |bad _ _=>rw[e];rfl
 |good _ ok _=>exact absurd ok Le
def SM(hd:d≠[])(M:nj aL d r)(h:dk aL d<0\/c5 d (low d)<(gG aL:Int)):r=C:=by
 cases M with
 |nil=>exact absurd rfl hd
 |bad _ _=>rfl
 |good _ ok _ =>
  exfalso;rcases h with h|h
  ·have:=ok.1;lia
  ·have:=ok.2<|low d;rw[Fg]at this;lia
def h4(d:List Z6):Int:=cI<|d.map (·.2)
theorem Lf{g:Int->Int}(bT:∀k,0<=g k):∀{d:List Z6},(∀q∈d,g q.1<=q.2)->h4 (subs d g)+(cI (d.map λq=>g q.1))=h4 d
 |[],_=>rfl
 |p::d,h=>by
  have a4:=Lf bT (d:=d) λq a7=>h q<|am _ a7;have aF:=h p<|dT ..;unfold h4 subs at a4 |-;rw[cU,tX,cU,cU,cI,cI];by_cases w:0<p.2-g p.1
  ·simp only[w,decide_true,if_true];rw[cU,cI];show p.2-g p.1+_+_=_;lia
  ·simp only[w,decide_false,jo,if_false];lia
def Fh(h:∀x∈l,0<=x){y:Int}(aK:y∈l):y<=cI l:=by
 have nn:∀l:List Int,(∀x∈l,0<=x)->0<=cI l:=by
  intro l
  induction l with
  |nil=>intro _;simp[cI]
  |cons x l a4=>intro h;rw[cI];have:=h x<|dT ..;have:=a4 λz hz=>h z<|am _ hz;lia
 induction l with
 |nil=>simp at aK
 |cons x l a4 =>
  rw[cI];have h0:=h x<|dT ..;have aB:=nn l λz hz=>h z<|am _ hz;rcases d4.mp aK with rfl|aK
  ·lia
  ·have:=a4 (λz hz=>h z<|am _ hz) aK;lia
def SN(B:hx d){g:Int->Int}(f:Fits d g):∀q∈d,g q.1<=q.2:=λq a7=>by have:=f q.1;rw[kD B.bW a7]at this;exact this
def amM(af:1<=aL.H)(B:hx d)(hd:d≠[]){j:Nat}(bU:1<=j)(f:Fits d<|d3 aL ZF j):h4 (subs d<|d3 aL ZF j)+1<=h4 d:=by
 have e:=Lf (tF aL ZF j)<|SN B f;obtain⟨_,m,_⟩:=Bh hd;obtain⟨q,a7,hm⟩:=ez.mp m;have:=Fh (l:=d.map λq=>d3 aL ZF j q.1) (λx av=>by obtain⟨q,_,rfl⟩:=ez.mp av;exact tF ..)<|kf (f:=λq:Int×Int=>d3 aL ZF j q.1) a7;rw[hm,Fg]at this;have p:=Ff af;have:1<=(j:Int)*(gG aL:Int):=by have:=wm bU p;rw[<-Hf];lia
 lia
def SO(B:hx d):0<=h4 d:=by
 unfold h4;have:∀l:List Int,(∀x∈l,0<=x)->0<=cI l:=by
  intro l
  induction l with
  |nil=>intro _;simp[cI]
  |cons x l a4=>intro h;rw[cI];have:=h x<|dT ..;have:=a4 λz hz=>h z<|am _ hz;lia
 refine this _ λx av=>?_;obtain⟨q,a7,rfl⟩:=ez.mp av;have:=B.pos q a7;exact kQ this
def ak4(af:1<=aL.H):∀(N:Nat) (d:List Z6),hx d->h4 d<=N->∃r,nj aL d r:=by
 intro N
 induction N with
 |zero =>
  intro d B h;cases hd:d with
  |nil=>exact⟨_,.nil⟩
  |cons p r =>
   exfalso;have:=Fh (l:=d.map (·.2)) (λx av=>by obtain⟨q,a7,rfl⟩:=ez.mp av;have:=B.pos q a7;exact kQ this)<|kf (f:=(·.2)) (show p∈d by rw[hd];exact dT ..);have:=B.pos p (by rw[hd];exact dT ..);unfold h4 at h;lia
 |succ N a4 =>
  intro d B h;by_cases hd:d=[]
  ·subst hd;exact⟨_,.nil⟩
  ·by_cases ok:Ok aL d
   ·obtain⟨r,M⟩:=a4 _ (B.subs<|d3 aL ZF 1) (by have:=amM af B hd (j:=1) (cg _) ok.2;exact Int.le_of_lt_add_one<|B7 this h);exact⟨_,.good hd ok M⟩
   ·exact⟨_,.bad hd ok⟩
def WS(d:List Z6)(s:List Int):Prop:=∀k,c5 d k=((s.countP λx=>x==k:Nat):Int)
def k9.c5(B:k9 d s):WS d s:=λx=>by
 by_cases av:x∈s
 ·obtain⟨v,bS⟩:=B.has av;rw[kD B.bW bS];exact B.val bS
 ·rw[rK (λz=>by
   obtain⟨q,a7,rfl⟩:=ez.mp z
   exact av<|B.key a7),GO.mpr λy aK z=>av<|by rw[<-eq_of_beq z];exact aK]
  rfl
def amN(af:∀d∈ds,1<=d.H)(hz:Mn (ds.map List.H)<=100000)(n:Nat) :
  ∃d,k9 d (jR ds)/\n8 [Zc] n=J (.bk<|ay d,Y0,n) :=
 R8 (by rw[show(ds.map λx=>max 1 x.H)=ds.map List.H from mH λx av=>Nat.max_eq_right<|af x av];exact hz) n
noncomputable def e2(L:List Z6):List T:=L.map λp=>.aD [.int p.1,.int p.2]
theorem SP:∀L:List Z6,qQ (e2 L)=J (ay L)
 |[]=>rfl
 |p::L=>by have a4:=SP L;unfold e2 at a4 |-;rw[cU];unfold qQ;show(Option.bind (J (Sum.inl p.1:ix)) λk=>(qQ _).map ((k,T.int p.2)::·))=_;rw[a4];rfl
theorem SQ:∀(L A:List Z6),((A++L).map (·.1)).Nodup->(ay L).foldl (λd p=>j7 d p.1 p.2) (ay A)=ay (A++L)
 |[],A,_=>by simp[ay]
 |p::L,A,h=>by
  have bz:(A.any λq=>decide (q.1=p.1))=Y1:=by rw[<-Hb,vH];intro z;rw[lD,wh]at h;exact h.2.2 _ z _ Z7 rfl
  have e:j7 (ay A) (.inl p.1) (.int p.2)=ay (A++[p]):=by unfold j7;rw[Vn,bz];simp[ay]
  have a4:=SQ L (A++[p]) (by simpa using h);show(ay L).foldl (λd p=>j7 d p.1 p.2) (j7 (ay A) (.inl p.1)<|.int p.2)=_;rw[e,a4,h7];rfl
def UG(bW:(L.map (·.1)).Nodup)(aB:L.H<bh)(n:Nat):xh n [.ao<|e2 L]=J (.bk<|ay L,.aE):=by show((qQ<|e2 L).bind λps=>if ps.H<bh then J (T.bk<|ps.foldl (λd p=>j7 d p.1 p.2) [],bo.aE) else C)=_;rw[SP];have:=SQ L [] (by simpa using bW);rw[show(ay ([]:List Z6))=[] from rfl]at this;show(if(ay L).H<bh then J (T.bk<|(ay L).foldl (λd p=>j7 d p.1 p.2) [],bo.aE) else C)=_;rw[Y2 (by unfold ay;rw[cP];exact aB),this];rfl
def SR(bW:(d.map (·.1)).Nodup){k:Int}(h:k∈d.map (·.1))(w:Int):gB d k w=d.map λp=>(p.1,p.2+if p.1=k then w else 0):=by
 unfold gB;rw[Y2<|(vH d k).mpr h];refine mH λp aF=>?_;by_cases e:p.1=k
 ·rw[Y2 e,Y2 e,<-e,kD bW aF]
 ·rw[Y3 e,Y3 e];simp
def Lg{k:Int}(h:k∈d.map (·.1))(w:Int):(gB d k w).map (·.1)=d.map (·.1):=by unfold gB;rw[Y2<|(vH d k).mpr h,ci];refine mH λp _=>?_;show(if p.1=k then _ else p).1=p.1;split<;>rfl
def Fi{k:Int}(h:k∉d.map (·.1))(w:Int):gB d k w=d++[(k,w)]:=by unfold gB;rw[Y3 λz=>h<|(vH d k).mp z]
def Bi(bW:(d.map (·.1)).Nodup)(k w:Int):((gB d k w).map (·.1)).Nodup:=by
 by_cases h:k∈d.map (·.1)
 ·rw[Lg h];exact bW
 ·rw[Fi h,lD,wh];exact⟨bW,by simp,λx av y aK=>by simp at aK;subst aK;exact λe=>h<|e▸av⟩
def SS(a b:List Z6)(k:Int)(h:k∉a.map (·.1)):c5 (a++b) k=c5 b k:=by
 induction a with
 |nil=>rfl
 |cons p a a4 =>
  rw[cU]at h;rw[GR,cnt_cons,Y3 λz=>h<|by rw[<-z];exact dT ..];exact a4 λz=>h<|am _ z
def Kb{d:List Z6}(g:Int->Int)(k:Int):c5 (d.map λp=>(p.1,p.2+g p.1)) k=c5 d k+if k∈d.map (·.1) then g k else 0:=by
 induction d with
 |nil=>rfl
 |cons p d a4 =>
  rw[cU,cnt_cons,cnt_cons,a4,cU];by_cases e:p.1=k
  ·simp[e]
  ·have:(k∈p.1::d.map (·.1))↔k∈d.map (·.1):=by rw[d4];exact⟨λz=>z.elim (λz=>absurd z.symm e) id,.inr⟩
   simp only[e,if_false,this]
def SU(bW:(d.map (·.1)).Nodup)(k w x:Int):c5 (gB d k w) x=c5 d x+if x=k then w else 0:=by
 by_cases h:k∈d.map (·.1)
 ·rw[SR bW h,Kb λx=>if x=k then w else 0];by_cases e:x=k
  ·subst e;simp[h]
  ·simp[e]
 ·rw[Fi h];by_cases e:x=k
  ·subst e;rw[SS _ _ _ h,rK h,cnt_cons];simp
  ·rw[Y3 e];by_cases av:x∈d.map (·.1)
   ·obtain⟨q,a7,rfl⟩:=ez.mp av;have bC:((d++[(k,w)]).map (·.1)).Nodup:=by rw[<-Fi h];exact Bi bW k w
    rw[kD bC<|pO _ a7,kD bW a7];lia
   ·rw[SS _ _ _ av,rK av,cnt_cons,Y3 λz=>e z.symm];rfl
def ak5(bW:(d.map (·.1)).Nodup)(k w:Int):iX (ay<|gB d k w) (.inl k)=J (.int<|c5 d k+w):=by
 have aW:∃v,(k,v)∈gB d k w:=by
  by_cases h:k∈d.map (·.1)
  ·have:k∈(gB d k w).map (·.1):=by rw[Lg h];exact h
   obtain⟨q,a7,rfl⟩:=ez.mp this;exact⟨q.2,a7⟩
  ·rw[Fi h];exact⟨w,by simp⟩
 obtain⟨v,bS⟩:=aW;rw[E8 (Bi bW k w) bS];have:=kD (Bi bW k w) bS;rw[SU bW]at this;simp at this;rw[<-this]
def Lh(bW:(d.map (·.1)).Nodup){k:Int}(h:k∈d.map (·.1))(n:Nat):dv n [.bk<|ay d,.int k]=J (.int<|c5 d k,.ag):=by obtain⟨q,a7,rfl⟩:=ez.mp h;have:=E8 bW (show(q.1,q.2)∈d from a7);rw[kD bW a7];show((iX (ay d)<|.inl q.1).map λt=>(t,bo.ag))=_;rw[this];rfl
theorem SV(Li:(t.map (·.1)).Nodup)(pt:∀q∈t,1<=q.2)(x0:Option ZJ)(n:Nat):∀(l:List Z6) (e:List Z6) (bY:Option ZJ),(∀q∈l,q∈t)->(l.map (·.1)).Nodup->hx e\/(e.map (·.1)).Nodup->(e.map (·.1)).Nodup->e.H+l.H<=100000 ->
  ∃Fj,((∀q∈l,q.2<=c5 e q.1)->fG (cB 3) rF (l.map λq=>T.int q.1) [x0,J Zo,J (.bk<|ay e,.aE),bY] n=J (.bD,[x0,J Zo,J (.bk<|ay<|l.foldl (λe q=>gB e q.1<|-q.2) e,.aE),Fj],n)) /\
   ((¬ ∀q∈l,q.2<=c5 e q.1)->∃S,fG (cB 3) rF (l.map λq=>T.int q.1) [x0,J Zo,J (.bk<|ay e,.aE),bY] n=J (.aV .br Y1,S,n))
 |[],e,bY,_,_,_,_,_=>⟨bY,λ_=>by simp[fG],λh=>absurd Z7 h⟩
 |q::l,e,bY,aB,ndl,_,nde,hz=>by
  have de:bh=1000000:=rfl;rw[d9]at hz;rw[cU]at ndl;obtain⟨aM,bC⟩:=nt.mp ndl;have a7:=aB q<|dT ..;have SW:=Bi nde q.1<|-q.2;have fh:=R0 e q.1<|-q.2;obtain⟨Fj,aed,aee⟩:=SV Li pt x0 n l (gB e q.1<|-q.2) (J (.int q.1,.ag)) (λq a7=>aB q<|am _ a7) bC (.inr SW) SW Z3;have aT:∀p∈l,c5 (gB e q.1<|-q.2) p.1=c5 e p.1:=λp aF=>by rw[SU nde,Y3 λz=>aM<|by rw[<-z];exact kf (f:=(·.1)) aF];exact Int.add_zero _
  have g1:dv n [.bk<|ay t,.int q.1]=J (.int q.2,.ag):=by rw[Lh Li<|kf (f:=(·.1)) a7,kD Li a7]
  have fk:mn n [.bk<|ay e,.int q.1,.int 0]=J (.int<|c5 e q.1,.ag):=by have h:=Ax e q.1;have bN:mn n [.bk<|ay e,.int q.1,.int 0]=J ((iX (ay e)<|.inl q.1).getD (.int 0),.ag):=rfl;rw[bN,h]
  have st:qN (.bk<|ay e) (.int q.1) (.int<|c5 e q.1-q.2)=J (.bk<|ay<|gB e q.1<|-q.2):=by rw[Vl];show(if(ay e).H<bh then J (T.bk<|j7 (ay e) (.inl q.1)<|.int<|c5 e q.1-q.2) else C)=_;rw[Y2 (by unfold ay;rw[cP];lia),Nc,RY]
  have g2:dv n [.bk<|ay<|gB e q.1<|-q.2,.int q.1]=J (.int<|c5 e q.1-q.2,.ag):=by show((iX (ay<|gB e q.1<|-q.2)<|.inl q.1).map λt=>(t,bo.ag))=_;rw[ak5 nde,Nc];rfl
  by_cases c:c5 e q.1-q.2<0
  ·refine⟨Fj,λh=>?_,λ_=>?_⟩
   ·have:=h q<|dT ..;lia
   ·have one:rF [x0,J Zo,J (.bk<|ay e,.aE),J (.int q.1,.ag)] n=J (.aV .br Y1,[x0,J Zo,J (.bk<|ay<|gB e q.1<|-q.2,.aE),J (.int q.1,.ag)],n):=by unfold rF;generalize ay (gB e q.1<|-q.2)=ke' at*;generalize ay e=nM at*;generalize ay t=kt at*;simp![qp,fk,g1,kc,dZ,st,g2,eF,c]
    refine⟨[x0,J Zo,J (.bk<|ay<|gB e q.1<|-q.2,.aE),J (.int q.1,.ag)],?_⟩;rw[cU];unfold fG;simp only[bj.bO.cB,kN,kO,eO];rw[one];rfl
  ·have one:rF [x0,J Zo,J (.bk<|ay e,.aE),J (.int q.1,.ag)] n=J (.bD,[x0,J Zo,J (.bk<|ay<|gB e q.1<|-q.2,.aE),J (.int q.1,.ag)],n):=by unfold rF;generalize ay (gB e q.1<|-q.2)=ke' at*;generalize ay e=nM at*;generalize ay t=kt at*;simp![qp,fk,g1,kc,dZ,st,g2,eF,c]
   have turn:∀x,fG (cB 3) rF ((q::l).map λq=>T.int q.1) [x0,J Zo,J (.bk<|ay e,.aE),x] n=fG (cB 3) rF (l.map λq=>T.int q.1) [x0,J Zo,J (.bk<|ay<|gB e q.1<|-q.2,.aE),J (.int q.1,.ag)] n:=λx=>by rw[cU];show(Option.bind _ _)=_;simp only[bj.bO.cB,kN,kO,eO];rw[one];rfl
   refine⟨Fj,λh=>?_,λh=>?_⟩
   ·rw[turn,aed λp aF=>by rw[aT p aF];exact h p<|am _ aF];rfl
   ·rw[turn];refine aee λz=>h λp aF=>?_;rcases d4.mp aF with rfl|aF
    ·lia
    ·rw[<-aT p aF];exact z p aF
theorem fold_add:∀(l e:List Z6),(e.map (·.1)).Nodup->(l.map (·.1)).Nodup->(∀q∈l,q.1∈e.map (·.1))->l.foldl (λe q=>gB e q.1<|-q.2) e=e.map λp=>(p.1,p.2-c5 l p.1)
 |[],e,_,_,_=>by refine((mH (g:=id) λp _=>?_).trans (r9 _)).symm;show(p.1,p.2-0)=p;simp
 |q::l,e,bW,ndl,h=>by
  rw[cU]at ndl;obtain⟨aM,bC⟩:=nt.mp ndl;have aW:=h q<|dT ..;rw[mI,fold_add l _ (Bi bW _ _) bC (λp aF=>by rw[Lg aW];exact h p<|am _ aF),SR bW aW,ci];refine mH λp _=>?_;show(p.1,p.2+(if p.1=q.1 then-q.2 else 0)-c5 l p.1)=(p.1,p.2-c5 (q::l) p.1)
  rw[cnt_cons];by_cases e:p.1=q.1
  ·rw[Y2 e,Y2 e.symm,e,rK aM];congr 1;exact Int.add_zero _
  ·rw[Y3 e,Y3 λz=>e z.symm];congr 1;lia
def rest(B:hx d)(nP:hx t)(aB:d.H+t.H<=100000)(b:Bool)(n:Nat) :
  (Fits d (c5 t)->vE [(.bk<|ay d,b),(.bk<|ay t,Y0)] n=J (.bk<|ay<|subs d<|c5 t,Y0,n)) /\
  (¬Fits d (c5 t)->vE [(.bk<|ay d,b),(.bk<|ay t,Y0)] n=J Zd):=by
 have de:bh=1000000:=rfl;have fit:(∀q∈t,q.2<=c5 d q.1)↔Fits d (c5 t):=by
  constructor
  ·intro h k;by_cases z:k∈t.map (·.1)
   ·obtain⟨q,a7,rfl⟩:=ez.mp z;rw[kD nP.bW a7];exact h q a7
   ·rw[rK z];exact B.nonneg k
  ·intro h q a7;rw[<-kD nP.bW a7];exact h q.1
 have m0:(if b then bo.ag else bo.cZ)=.ag\/(if b then bo.ag else bo.cZ)=.cZ:=by exists b<;>simp
 obtain⟨bY,af,ak⟩:=SV nP.bW nP.pos (J Z00) n t d C (λ_ h=>h) nP.bW (.inl B) B.bW aB;have it:iJ (ai 1) [J Z00,J Zo,J Zi,C] n=J (t.map λq=>T.int q.1,n):=by rw[<-K4];rfl
 have CM:xh n [.bk<|ay d]=J Zi:=rfl;constructor
 ·intro f;have e:=af<|fit.mpr f;rw[fold_add t d B.bW nP.bW λq a7=>B.mem<|jq (nP.pos q a7)<|fit.mpr f q a7]at e;have jf:fD 1 vD [J Z00,J Zo,J Zi,C] n=J (.bD,[J Z00,J Zo,J (.bk<|ay (d.map λp=>(p.1,p.2-c5 t p.1)),.aE),bY],n):=by rw[Vp (t:=.bk<|ay t) rfl];unfold vD iK;rw[it];exact e
  have SX:((d.map λp=>(p.1,p.2-c5 t p.1)).map (·.1)).Nodup:=by rw[ci];exact B.bW
  have len:(d.map λp=>(p.1,p.2-c5 t p.1)).H=d.H:=cP ..;have cV:subs d (c5 t)=(d.map λp=>(p.1,p.2-c5 t p.1)).filter λp=>decide (0<p.2):=rfl;have SY:=(B.subs<|c5 t).bW;rw[cV]at SY |-;generalize (d.map λp=>(p.1,p.2-c5 t p.1))=bN at*;have hv:KX [J Z00,J Zo,J (.bk<|ay bN,.ag),bY] n=J (.ao<|e2 (bN.filter λp=>decide (0<p.2)),.aE,n):=by
   unfold e2;refine rD bN (λq=>T.int q.1) (λp=>decide (0<p.2)) (λp=>.aD [.int p.1,.int p.2]) ?_ Z3 λp aF=>?_
   ·rw[<-K4];rfl
   ·have g:=Lh SX (kf (f:=(·.1)) aF) n;rw[kD SX aF]at g;generalize ay bN=nM at*;constructor
    ·simp![ck,g,rn,dZ]
    ·intro _;have cE:2<=bh:=by decide
     simp![ck,g,cE]
  have c7:=UG SY (by have:=r4 (λp:Int×Int=>decide (0<p.2)) bN;lia) n;have fr:∀dd:bw,dO 2 dd [J Z00,J Zo,J (.bk<|ay bN,.aE),bY] n=dd [J Z00,J Zo,J (.bk<|ay bN,.ag),bY] n:=λ_=>rfl;unfold vE KY;generalize e2 (bN.filter λp=>decide (0<p.2))=pr at*;generalize ay (bN.filter λp=>decide (0<p.2))=dc at*;generalize ay bN=nM at*;generalize ay d=p4 at*;generalize ay t=kt at*;generalize fD 1 vD=LL at*;generalize KX=CC at*;generalize dO 2=FF at *
  exists b
  ·simp only[jo,if_false]at*;simp![CM,jf,fr,hv,c7]
  ·simp only[if_true]at*;simp![CM,jf,fr,hv,c7]
 ·intro f;obtain⟨S,e⟩:=ak λz=>f<|fit.mp z;have jf:fD 1 vD [J Z00,J Zo,J Zi,C] n=J (.aV .br Y1,S,n):=by rw[Vp (t:=.bk<|ay t) rfl];unfold vD iK;rw[it];exact e
  unfold vE KY;generalize ay d=p4 at*;generalize ay t=kt at*;generalize fD 1 vD=LL at *
  exists b
  ·simp only[jo,if_false]at*;simp![CM,jf]
  ·simp only[if_true]at*;simp![CM,jf]
structure tO (L:List Z6):Prop where
 ne:L≠[]
 up:(L.map (·.1)).Pairwise (·<·)
 hJ:∀q∈L,0<=q.1/\q.1<=120/\1<=q.2/\q.2<=4096
def tO.gs(h:tO L):hx L:=⟨h.up.imp λ{a b} e=>(yL e),λq a7=>(h.hJ q a7).2.2.1⟩
def tO.len(h:tO L):L.H<=121:=by
 have:=Su (a:=0) (b:=121) (p:=L.map (·.1)) (λx av=>by
  obtain⟨q,a7,rfl⟩:=ez.mp av;have:=h.hJ q a7
  exact And.intro this.1<|nA this.2.1 Z0) h.gs.bW
 rw[cP]at this;exact this
def aef{k v:Int}(af:0<=k)(ak:k<=120)(bc:1<=v)(cL:v<=4096)(n:Nat):vy [(.aD [.int k,.int v],Y0)] n=J (.aC Y0,Y1,n):=by have az:=xY k 0 120 n af ak;have au:=xY v 1 4096 n bc cL;have a6:gp n [.int 2,.int 2]=J (.aC Y1,.ag):=rfl;unfold vy EO;simp![dS,iF,g7,a6,mA,gF,az,au]
theorem Ta:∀{l:List Int},l.Pairwise (·<·)->hZ l=l
 |[],_=>rfl
 |x::l,h=>by
  obtain⟨af,ak⟩:=jT.mp h;have a4:=Ta ak;have e:hZ (x::l)=if x∈hZ l then hZ l else x::hZ l:=rfl
  rw[e,a4,Y3 λz=>by have:=af x z;omega]
def aeg(h:tO L)(b:Bool)(n:Nat):lx [(.ao<|e2 L,b)] n=J Zd:=by
 have de:bh=1000000:=rfl;have aB:=h.len;have rows:∀m:bo,EP [J (.ao<|e2 L,m),C] n=J (.ao (L.map λ_=>.aC Y0),.aE,n):=by
  intro m;refine ik L (λp=>.aD [.int p.1,.int p.2]) (λ_=>.aC Y0) ?_ (by omega) λq a7=>?_
  ·unfold fK
   exists m<;>rfl
  ·obtain⟨a,b,c,d⟩:=h.hJ q a7;have e:=aef a b c d n;simp![ck,e]
 have heads:∀m:bo,A1 [J (.ao<|e2 L,m),C] n=J (.ao<|(L.map (·.1)).map T.int,.aE,n):=by
  intro m;rw[ci];refine ik L (λp=>.aD [.int p.1,.int p.2]) (T.int∘(·.1)) ?_ (by omega) λq a7=>?_
  ·unfold fK
   exists m<;>rfl
  ·simp![ck,mA,gF]
 have all:jk n [.ao (L.map λ_=>.aC Y0)]=J Zk:=by
  have e:(L.map λ_=>T.aC Y0)=(L.map λ_=>Y0).map T.aC:=by rw[ci];rfl
  have bools:∀l:List Bool,hQ (l.map T.aC)=J l:=by
   intro l
   induction l with
   |nil=>rfl
   |cons b l a4=>rw[cU];unfold hQ;rw[a4];rfl
  rw[xT,e,bools];simp
 have lS:DH n [.ao<|(L.map (·.1)).map T.int]=J (.ao<|(L.map (·.1)).map T.int,.aE):=by
  show(rq n [.ao<|(L.map (·.1)).map T.int]).map _=_;have e:rq n [.ao<|(L.map (·.1)).map T.int]=(e3<|(L.map (·.1)).map T.int).bind λns=>if ns.H+1<4096 then J ns else C:=rfl
  rw[e,n6,eO,Y2 (by rw[cP];exact Nat.succ_lt_succ<|gT aB Z0),kj,Ta h.up];have es:sortI (L.map (·.1))=L.map (·.1):=(zX (.refl _) (h.up.imp λ{a b} z=>(kQ z))).symm;rw[es]
 have eq:gn n [.ao<|(L.map (·.1)).map T.int,.ao<|(L.map (·.1)).map T.int]=J Zk:=by rw[xR,AY<|by show((L.map (·.1)).map T.int).all (d0 5)=Y0;exact Kn 5 _];rfl
 have ne:(e2 L).isEmpty=Y1:=by
  have:=h.ne;cases L with
  |nil=>exact absurd rfl this
  |cons q L=>rfl
 have it:kC [(.ao<|e2 L,b)] n=J (.aC Y0,Y1,n):=by
  unfold kC Ky;have r:=rows (if b then .ag else .cZ);have hd:=heads (if b then .ag else .cZ);generalize (L.map λ_=>T.aC Y0)=ks at*;generalize (L.map (·.1)).map T.int=bp at*;generalize e2 L=cQ at*;generalize EP=C0 at*;generalize A1=HW at *
  exists b
  ·simp only[jo,if_false]at r hd;simp![dS,jM,ne,dO,r,all,hd,lS,eq]
  ·simp only[if_true]at r hd;simp![dS,jM,ne,dO,r,all,hd,lS,eq]
 unfold lx KD;generalize e2 L=cQ at *
 exists b<;>simp![it]
def Mp:Option ZA->T
 |none=>.br
 |some l=>aG l
def aeh(af:1<=aL.H)(n:Nat):dv n [aG aL,.int 0]=J (.int<|aL.headD 0,.ag)/\uZ n [aG aL,.int<|aL.headD 0]=J (.int (gG aL:Int),.ag):=by
 constructor
 ·cases aL with
  |nil=>simp at af
  |cons x r=>unfold aG;rw[mA,vJ T.int _ 0 Z0 Z7];rfl
 ·unfold aG;rw[UD,n6,kj,<-BL];rfl
def amO(d:List Z6):tS (ay d)=J (d.map (·.1)):=by
 induction d with
 |nil=>rfl
 |cons p d a4 =>
  show((tS<|ay d).map (p.1::·))=_;rw[a4];rfl
def ak6(h:d≠[])(n:Nat):vX n [.bk<|ay d]=J (.int<|low d,.ag):=by show((tS<|ay d).bind λns=>(least ns).map λi=>(T.int i,bo.ag))=_;rw[amO,eO,(Bh h).1];rfl
def amP(x:Int)(q:Nat):(List.replicate q [T.int x]).flatten=(List.replicate q x).map T.int:=by
 induction q with
 |zero=>rfl
 |succ q a4=>rw[ox,tV,a4,ox];rfl
theorem Tb(x:Int)(b:List Int)(k:Int):∀q:Nat,(tE (List.replicate q x) b).countP (λy=>y==k)=q*b.countP λy=>y==k-x
 |0=>by simp[tE]
 |q+1=>by have a4:=Tb x b k q;unfold tE at a4 |-;rw[ox,nr,GQ,a4,List.countP_map,se,yF];congr 1;refine MP λy _=>?_;show(x+y==k)=Y0↔(y==k-x)=Y0;rw[beq_iff_eq,beq_iff_eq];omega
def aei{F:Nat}(D:kb F aL)(cx:F<=8)(B:hx d)(hd:d≠[])(ej:d.H<=121)(bS:∀q∈d,q.2<=4096)(AO:(cm.H:Int)+h4 d<=600000)(M:nj aL d r)
  (x0 ct fY eK fa:Option ZJ) (n:Nat) :
  (∃q b5,1<=q/\Fits d (d3 aL ZF q)/\r=b5.map (List.replicate q ZF++·)/\nj aL (subs d<|d3 aL ZF q) b5/\(q:Int)<=h4 d/\h4 (subs d<|d3 aL ZF q)+q<=h4 d /\
   ∃nN ur H4 y5,nd Zz n=J (.bD,[x0,J (aG aL,.ag),J (.bk<|ay<|subs d<|d3 aL ZF q,.aE),J (.ao<|(cm++List.replicate q ZF).map .int,.aE),nN,ur,H4,y5],n)) \/
  (r=C/\∃S,nd Zz n=J (.aV .br Y1,S,n)):=by
 have de:bh=1000000:=rfl;have af:=D.one;have hm:=D.most;have fp:=Ff af;have f8:gG aL<=8:=bP GK<|bP hm cx;obtain⟨fk,g1⟩:=aeh af n;have az:=ak6 hd n;obtain⟨_,lm,_⟩:=Bh hd;have au:=Lh B.bW lm n;have WT:=B.GB lm;have NL:c5 d (low d)<=4096:=by obtain⟨p,aF,e⟩:=ez.mp lm;rw[<-e,kD B.bW aF];exact bS p aF
 obtain⟨q,a7⟩:∃q:Nat,c5 d (low d) / (gG aL:Int)=(q:Int):=⟨(c5 d (low d) / (gG aL:Int)).M,by have:0<=c5 d (low d) / (gG aL:Int):=Int.ediv_nonneg (kQ WT)<|ir _;omega⟩
 have n3:(q:Int)*(gG aL:Int)<=c5 d (low d):=by rw[<-a7];exact Int.ediv_mul_le _ (by omega)
 have vi:(q:Int)<=4096:=by have:(q:Int)*1<=(q:Int)*(gG aL:Int):=Nb (by omega)<|ir _;omega
 have a6:F1 n [.int<|c5 d<|low d,.int (gG aL:Int)]=J (.int (q:Int),.ag):=by show(if(decide (0<(gG aL:Int))&&decide ((gG aL:Int).natAbs<1073741824))=Y0 then J (T.int<|c5 d (low d) / (gG aL:Int),bo.ag) else C)=_;rw[a7,Y2<|by simp;omega]
 have Gq:low d-aL.headD 0=dk aL d:=rfl;by_cases b6:dk aL d<0
 ·refine .inr ⟨SM hd M<|.inl b6,[x0,J (aG aL,.ag),J Zi,J (.ao<|cm.map .int,.aE),J (.int<|low d,.ag),J (.int ZF,.ag),J (.int (q:Int),.ag),fa],?_⟩;rw[<-Gq]at b6 |-;unfold nd;generalize ay d=p4 at*;generalize low d=lo at*;generalize aL.headD 0=eQ at*;generalize aG aL=oR at*;generalize c5 d lo=w2 at*;generalize (gG aL:Int)=fi at*;simp![az,fk,kc,dZ,au,g1,a6,eF,b6]
 ·by_cases dA:q=0
  ·subst dA;refine .inr ⟨SM hd M<|.inr ?_,[x0,J (aG aL,.ag),J Zi,J (.ao<|cm.map .int,.aE),J (.int<|low d,.ag),J (.int ZF,.ag),J (.int ((0:Nat):Int),.ag),fa],?_⟩
   ·have:=Int.lt_ediv_add_one_mul_self (c5 d<|low d) (b:=(gG aL:Int)) (by omega);rw[a7]at this;simpa using this
   ·rw[<-Gq]at b6 |-;unfold nd;generalize ay d=p4 at*;generalize low d=lo at*;generalize aL.headD 0=eQ at*;generalize aG aL=oR at*;generalize c5 d lo=w2 at*;generalize (gG aL:Int)=fi at*;simp![az,fk,kc,dZ,au,g1,a6,eF,b6,n7]
  ·have aX:1<=q:=(kh dA)
   have Tc:((q:Int)==0)=Y1:=by simp;exact dA
   have dl:([List.replicate q ZF,aL].map List.H)=[q,aL.H]:=by simp
   have WU:Mn [q,aL.H]<=100000:=by show q*(aL.H*1)<=100000;have:=wm (show q<=4096 by omega) (show aL.H*1<=8 from(yC (bP hm cx)<|gH _));omega
   obtain⟨t,nP,dR⟩:=amN (ds:=[List.replicate q ZF,aL]) (λx av=>by
    simp only[d4,qR,or_false]at av;rcases av with rfl|rfl
    ·rw[ow];exact aX
    ·exact af) (by rw[dl];exact WU) n
   have nJ:∀k,c5 t k=d3 aL ZF q k:=λk=>by rw[nP.c5 k,Sl,Sk];show(((tE (List.replicate q ZF) aL).countP λx=>x==k:Nat):Int)=_;rw[Tb];unfold d3;rw[Hf]
   have aej:c5 t=d3 aL ZF q:=funext nJ;have tb:hx t:=⟨nP.bW,nP.pos⟩
   have hW:t.H<=32768:=by refine bP nP.L8 ?_;rw[Sl,Sk];show(tE (List.replicate q ZF) aL).H<=_;rw[Sm,ow];exact bP (wm (show q<=4096 by omega) (show aL.H<=8 from(bP hm cx))) Z0
   obtain⟨Td,Te⟩:=rest B tb (by omega) Y1 n;rw[aej]at Td Te;have hmul:kG n [.aD [.int ZF],.int (q:Int)]=J (aG<|List.replicate q ZF,.ag):=by show(if[T.int ZF].H<=1000 /\ -1000<=(q:Int)/\(q:Int)<=10000/\[T.int ZF].H*(q:Int).M<=bh then J (T.aD (List.replicate (q:Int).M [T.int ZF]).flatten,bo.ag) else C)=_;rw[Y2 ⟨by simp,(ir _),(jq vi Z0),by rw[pM,ua];omega⟩,ua,amP];rfl
   have cE:2<=bh:=by decide
   have cq:1<=bh:=by decide
   have dR:n8 [(.aD [aG<|List.replicate q ZF,aG aL],Y0)] n=J (.bk<|ay t,Y0,n):=dR;by_cases uO:Fits d<|d3 aL ZF q
   ·obtain⟨b5,hH,H5⟩:=Lc af B hd (Hh.mp b6) M q n3 uO;have aek:h4 (subs d<|d3 aL ZF q)+q<=h4 d:=by have e:=Lf (tF aL ZF q)<|SN B uO;obtain⟨p,aF,rC⟩:=ez.mp lm;have:=Fh (l:=d.map λeN=>d3 aL ZF q eN.1) (λx av=>by obtain⟨eN,_,rfl⟩:=ez.mp av;exact tF ..)<|kf (f:=λeN:Int×Int=>d3 aL ZF q eN.1) aF;rw[rC,Fg]at this;have:(q:Int)*1<=(q:Int)*(gG aL:Int):=Nb (by omega)<|ir _;omega
    have aQ:=SO<|B.subs<|d3 aL ZF q;refine .inl ⟨q,b5,aX,uO,hH,H5,by omega,aek,J (.int<|low d,.ag),J (.int ZF,.ag),J (.int (q:Int),.ag),J (aG<|List.replicate q ZF,.ag),?_⟩;have rs:=Td uO;have ex:jQ (.ao<|cm.map .int) (aG<|List.replicate q ZF)=J (.ao<|(cm++List.replicate q ZF).map .int):=by unfold aG;show(if(cm.map T.int).H+((List.replicate q ZF).map T.int).H<=bh then J (T.ao<|cm.map T.int++(List.replicate q ZF).map T.int) else C)=_;rw[Y2 (by rw[cP,cP,ow];omega),lD]
    have qe:ho (aG<|List.replicate q ZF)=Y1:=rfl;rw[<-Gq]at b6 hmul dR ex rs qe |-;unfold nd;generalize ay (subs d<|d3 aL (low d-aL.headD 0) q)=dc at*;generalize (cm++List.replicate q (low d-aL.headD 0)).map T.int=mR at*;generalize aG (List.replicate q<|low d-aL.headD 0)=aA at*;generalize ay d=p4 at*;generalize ay t=kt at*;generalize cm.map T.int=fi' at*;generalize low d=lo at*;generalize aL.headD 0=eQ at*;generalize aG aL=oR at*;generalize c5 d lo=w2 at*;generalize (gG aL:Int)=fi at*;generalize kG=gm at*;simp![jj,az,fk,kc,dZ,au,g1,a6,eF,b6,n7,Tc,hmul,cq,cE,dR,rs,oh,nU,hN,ex,qe]
   ·have rs:=Te uO;refine .inr ⟨aec af B hd (Hh.mp b6) M n3 uO,[x0,J (aG aL,.ag),J (.br,.ag),J (.ao<|cm.map .int,.aE),J (.int<|low d,.ag),J (.int ZF,.ag),J (.int (q:Int),.ag),J (aG<|List.replicate q ZF,.ag)],?_⟩;have qe:ho (aG<|List.replicate q ZF)=Y1:=rfl;rw[<-Gq]at b6 hmul dR qe |-;unfold nd;generalize aG (List.replicate q<|low d-aL.headD 0)=aA at*;generalize ay d=p4 at*;generalize ay t=kt at*;generalize cm.map T.int=fi' at*;generalize low d=lo at*;generalize aL.headD 0=eQ at*;generalize aG aL=oR at*;generalize c5 d lo=w2 at*;generalize (gG aL:Int)=fi at*;generalize kG=gm at*;simp![jj,az,fk,kc,dZ,au,g1,a6,eF,b6,n7,Tc,hmul,cq,cE,dR,rs,oh,nU,qe]
def amQ(d:List Z6)(g:Int->Int):(subs d g).H<=d.H:=by unfold subs;have:=r4 (λp:Int×Int=>decide (0<p.2)) (d.map λp=>(p.1,p.2-g p.1));rw[cP]at this;exact this
def ael{g:Int->Int}(bT:∀k,0<=g k){c:Int}(h:∀q∈d,q.2<=c):∀q∈subs d g,q.2<=c:=λq a7=>by obtain⟨af,_⟩:=lC.mp a7;obtain⟨p,aF,rfl⟩:=ez.mp af;have:=h p aF;have:=bT p.1;show p.2-g p.1<=c;omega
def aem{F:Nat}(D:kb F aL)(cx:F<=8)(x0:Option ZJ)(n:Nat):∀(N W:Nat) (d:List Z6) (cm:List Int) (r:Option ZA) (ct fY eK fa:Option ZJ),h4 d<=N->N<W->hx d->d.H<=121->(∀q∈d,q.2<=4096)->(cm.H:Int)+h4 d<=600000->nj aL d r ->
  (∀l,r=J l->∃S,iW (bK<|ai 2) nd W Zz n=J (.bD,S,n)/\S[3]?=J (J (.ao<|(cm++l).map .int,.aE))) /\
  (r=C->∃S,iW (bK<|ai 2) nd W Zz n=J (.aV .br Y1,S,n)):=by
 intro N
 induction N with
 |zero =>
  intro W d cm r ct fY eK fa cA jC B aB bS AO M;obtain⟨V,rfl⟩:∃V,W=V+1:=⟨W-1,by omega⟩
  have hd:d=[]:=by
   cases hd:d with
   |nil=>rfl
   |cons p hr =>
    exfalso;have:=Fh (l:=d.map (·.2)) (λx av=>by obtain⟨q,a7,rfl⟩:=ez.mp av;have:=B.pos q a7;exact kQ this)<|kf (f:=(·.2)) (show p∈d by rw[hd];exact dT ..);have:=B.pos p (by rw[hd];exact dT ..);unfold h4 at cA;omega
  subst hd;cases M with
  |nil=>exact⟨λl e=>⟨_,rfl,by exists e;simp⟩,λe=>by exists e⟩
  |bad h _=>exact absurd rfl h
  |good h _ _=>exact absurd rfl h
 |succ N a4 =>
  intro W d cm r ct fY eK fa cA jC B aB bS AO M;obtain⟨V,rfl⟩:∃V,W=V+1:=⟨W-1,by omega⟩
  by_cases hd:d=[]
  ·subst hd;cases M with
   |nil=>exact⟨λl e=>⟨_,rfl,by exists e;simp⟩,λe=>by exists e⟩
   |bad h _=>exact absurd rfl h
   |good h _ _=>exact absurd rfl h
  ·have p3:bK (ai 2) Zz n=J (Y0,n):=by
    have:(ay d).isEmpty=Y1:=by
     cases d with
     |nil=>exact absurd rfl hd
     |cons p d=>rfl
    generalize ay d=p4 at*;simp![this]
   have Tf:∀x,nd Zz n=x->iW (bK<|ai 2) nd (V+1) Zz n=x.bind λr=>match r.1 with
     |.bD=>iW (bK<|ai 2) nd V r.2.1 r.2.2
     |.eE=>iW (bK<|ai 2) nd V r.2.1 r.2.2
     |.gs=>J (.bD,r.2.1,r.2.2)
     |.aV t m=>J (.aV t m,r.2.1,r.2.2):=λx av=>by
    show(bK (ai 2) _ n).bind _=_;rw[p3];show(nd _ n).bind _=_;rw[av]
    try rfl
   rcases aei D cx B hd aB bS AO M x0 ct fY eK fa n with⟨q,b5,aX,uO,hH,H5,anJ,hW,nN,ur,H4,y5,e⟩|⟨aU,S,e⟩
   ·obtain⟨jc,mi⟩:=a4 V _ (cm++List.replicate q ZF) b5 nN ur H4 y5 (by omega) (ki jC) (B.subs<|d3 aL ZF q) (bP (amQ ..) aB) (ael (tF aL ZF q) bS) (by rw[gr,ow];omega) H5;rw[Tf _ e];refine⟨λl m5=>?_,λaU=>?_⟩
    ·cases b5 with
     |none=>rw[hH]at m5;exists m5
     |some y7 =>
      rw[hH]at m5
      exists m5
      obtain⟨S,a,b⟩:=jc y7 rfl;exact⟨S,a,by rw[b,h7]⟩
    ·cases b5 with
     |none=>exact mi rfl
     |some y7=>rw[hH]at aU;exists aU
   ·rw[Tf _ e];exact⟨λl m5=>(by rw[aU]at m5;exists m5),λ_=>⟨S,rfl⟩⟩
def ig(ds:List ZA)(k:Int):Int:=(((jR ds).countP λx=>x==k:Nat):Int)
def lz(as bs:List ZA):List Int:=((List.range 121).map λ(k:Nat)=>(k:Int)).filter λt=>!(ig as t==ig bs t)
def v7:Option Int->T
 |none=>.br
 |some i=>.int i
def Vt{t:Int}(h:ig ds t≠0):t∈jR ds:=by
 unfold ig at h;have h:(jR ds).countP (λx=>x==t)≠0:=by omega
 rw[Ne,GO]at h;simp only[Classical.not_forall,Classical.not_not]at h;obtain⟨x,av,e⟩:=h;have:x=t:=by simpa using e
 exact this▸av
def aen{r:List Int}(up:r.Pairwise (·<·))(h:∀x,x∈l↔x∈r):qA C l=r.head?:=by
 cases r with
 |nil =>
  cases l with
  |nil=>rfl
  |cons x l=>exact absurd ((h x).mp (dT ..)) Z7
 |cons y r =>
  have aK:=(h y).mpr (dT ..);have aB:l≠[]:=by rintro rfl;exists aK
  obtain⟨x,e,av,hm⟩:=SI aB;rw[acP e];have af:=(h x).mp av;have ak:=hm y aK;rcases d4.mp af with rfl|af
  ·rfl
  ·have:=List.rel_of_pairwise_cons up af;omega
def amR(m:Nat):((List.range m).map λ(k:Nat)=>(k:Int)).Pairwise (·<·):=by rw[yw];exact Mz.imp λh=>by omega
def parted{M F N G:Nat}(ba:iq M F as)(aq:iq N G bs)(ei:M<=4)(cx:F<=8)(dK:N<=4)(iR:G<=8)(n:Nat) :
  vA [(.aD<|as.map aG,Y0),(.aD<|bs.map aG,Y0)] n=J (v7 (lz as bs).head?,Y1,n):=by
 have de:bh=1000000:=rfl;obtain⟨d8,uN,az⟩:=Sj ba ei cx n;obtain⟨fz,zo,au⟩:=Sj aq dK iR n;have aM:=pw ba ei cx n;have bC:=pw aq dK iR n;have cN:=uN.L8;have dE:=zo.L8;have dB:(jR as).H<=4096:=by have:=Sd ba ei cx;rw[Sf];exact this
 have iO:(jR bs).H<=4096:=by have:=Sd aq dK iR;rw[Sf];exact this
 have aW:∀d:List Z6,((ay d).map λc9=>iI c9.1)=(d.map (·.1)).map T.int:=λd=>by rw[K4,ci];rfl
 have hv:∀x0 bH,Rn [x0,bH,J (.bk<|ay d8,.aE),J (.bk<|ay fz,.aE),J (.ao<|(d8.map (·.1)++fz.map (·.1)).map .int,.aE)] n=J (.ao<|((d8.map (·.1)++fz.map (·.1)).filter λt=>!(ig as t==ig bs t)).map .int,.aE,n):=λx0 bH=>by
  refine rD (d8.map (·.1)++fz.map (·.1)) T.int (λt=>!(ig as t==ig bs t)) T.int rfl (by simp;omega) λx av=>?_;have g1:=Ub uN x n;have g2:=Ub zo x n;have q:∀i j:Int,gp n [.int i,.int j]=J (.aC<|!(i==j),.ag):=λ_ _=>rfl;have b6:(((jR as).countP λy=>y==x:Nat):Int)=ig as x:=rfl;have dA:(((jR bs).countP λy=>y==x:Nat):Int)=ig bs x:=rfl;rw[b6]at g1;rw[dA]at g2;generalize ay d8=k1 at*;generalize ay fz=k2 at*;generalize ig as x=v1 at*;generalize ig bs x=v2 at*;constructor
  ·simp![ck,g1,g2,q]
  ·intro _;simp![ck]
 have fh:nV n [.bk<|ay d8]=J (.ao<|(d8.map (·.1)).map .int,.aE):=by rw[<-aW];rfl
 have fF:nV n [.bk<|ay fz]=J (.ao<|(fz.map (·.1)).map .int,.aE):=by rw[<-aW];rfl
 have zz:(d8.map (·.1)).H+(fz.map (·.1)).H<=bh:=by simp;omega
 have pa:ek n [.ao<|(d8.map (·.1)).map .int,.ao<|(fz.map (·.1)).map .int]=J (.ao<|(d8.map (·.1)++fz.map (·.1)).map .int,.aE):=by rw[EK,Y2 (by rw[cP,cP (f:=T.int)];exact zz),lD]
 have keys:∀{d:List Z6} {ds:List ZA},k9 d (jR ds)->∀x,x∈d.map (·.1)↔x∈jR ds:=λ{d ds} B x=>⟨λh=>by
   obtain⟨q,a7,rfl⟩:=ez.mp h;exact B.key a7,λh=>by
   obtain⟨v,bS⟩:=B.has h;exact ez.mpr ⟨_,bS,rfl⟩⟩
 have WV:Mi n [.ao<|((d8.map (·.1)++fz.map (·.1)).filter λt=>!(ig as t==ig bs t)).map .int]=J (v7 (lz as bs).head?,.ag):=by
  have mR:=aen (l:=(d8.map (·.1)++fz.map (·.1)).filter λt=>!(ig as t==ig bs t)) (r:=lz as bs) ((amR 121).filter _) λx=>by
   unfold lz;rw[lC,lC,hR,keys uN,keys zo];refine⟨λ⟨af,ak⟩=>⟨?_,ak⟩,λ⟨af,ak⟩=>⟨?_,ak⟩⟩
   ·have:0<=x/\x<=120:=by
     rcases af with af|af
     ·exact Sh ba ei cx x af
     ·exact Sh aq dK iR x af
    exact ez.mpr ⟨x.M,nu.mpr (by omega),(Int.toNat_of_nonneg this.1)⟩
   ·by_cases z:ig as x=0
    ·by_cases kT:ig bs x=0
     ·rw[z,kT]at ak;simp at ak
     ·exact .inr<|Vt kT
    ·exact .inl<|Vt z
  show(e3 _).map _=_;rw[n6,kj,mR];cases (lz as bs).head?<;>rfl
 generalize v7 (lz as bs).head?=out at*;generalize (((d8.map (·.1)++fz.map (·.1)).filter λt=>!(ig as t==ig bs t)).map T.int)=bG at*;generalize (d8.map (·.1)++fz.map (·.1)).map T.int=Ny at*;generalize (d8.map (·.1)).map T.int=k3 at*;generalize (fz.map (·.1)).map T.int=zh at*;generalize ay d8=k1 at*;generalize ay fz=k2 at*;generalize as.map aG=ta at*;generalize bs.map aG=tb at*;unfold vA Ro;simp![aM,bC,az,au,fh,fF,pa,dO,hv,WV]
def aeo{M F N G:Nat}(ba:iq M F as)(aq:iq N G bs)(ei:M<=4)(cx:F<=8)(dK:N<=4)(iR:G<=8)(n:Nat) :
  xV [(.aD<|as.map aG,Y0),(.aD<|bs.map aG,Y0)] n=J (.aC (lz as bs).isEmpty,Y1,n):=by
 have p:=parted ba aq ei cx dK iR n;have q:oh n [v7 (lz as bs).head?]=J (.aC (lz as bs).isEmpty,.ag):=by cases lz as bs<;>rfl
 generalize (lz as bs).isEmpty=e at*;generalize v7 (lz as bs).head?=out at*;generalize as.map aG=ta at*;generalize bs.map aG=tb at*;unfold xV Rp;simp![p,q]
end je
namespace vK
open PySem bj bj.bO
def amS:dm:=(dy (d1 4 bQ.E2<|ax (ai 0)<|ax (ai 1)<|ax Zg Ze) (eT<|bB 4 bQ.KW<|ax (ai 0)<|ax (ai 1)<|ax Zg Ze) fR)
def Fl:e8:=fnX 5 amS
def Fm:bM:=et (fK<|ai 0) (ck [C,J 0]) (cB 0) yes<|aH z2 ZE
def Fn:bw:=(dO 0<|cT<|aH u1<|aa (aw<|.str ",")<|aa Fm ar)
def vL:cY:=c0 1<|Fn
def Fo:bM:=et (fK<|ai 0) (ck [C,J 0]) (cB 0) yes<|bB 1 vL Z8
def Fp:bw:=(bL (eT<|bB 1 bQ.g8 Z8)<|dO 0<|cT<|aH u1<|aa (aw<|.str " ")<|aa Fo ar)
def rL:cY:=c0 1<|Fp
def ak7:dm:=(dy (d1 1 bQ.h3 Z8) (eT<|bB 1 bQ.g8 Z8) fR)
def Bj:e8:=fnX 1 ak7
def ko:bw:=eG (bK<|aH eF<|aa (ai 0)<|aa (aw<|.int 5) ar) (cT<|ye (ai 0) [(1,bQ.rE),(1,bQ.vz),(1,bQ.vB),(1,bQ.vC),(1,rL)] ZR) e7
def w5:dm:=fH (bK<|aH eF<|aa (ai 0)<|aa (aw<|.int 5) ar) (F3 (ai 0) [(1,bQ.A3),(1,bQ.A4),(1,bQ.A7),(1,bQ.A8),(1,Bj)] ZR) fR
def bt:bw:=eG (bK<|aH eF<|aa (ai 0)<|aa (aw<|.int 9) ar) (cT<|s7 (bK<|aH eF<|aa (ai 0)<|aa (aw<|.int 7) ar) (aH dv<|aa (dG<|aa (aY<|bB 2 bQ.xV<|ax (ai 1)<|ax (cw<|aa (aY<|cw<|aa (aY Z5) ar) ar) a9)<|aa (aY<|bB 2 bQ.vA<|ax (cw<|aa (aY<|cw<|aa (aY Z5) ar) ar) ZR) ar)<|aa (aH kc<|aa (ai 0)<|aa (aw<|.int 5) ar) ar)<|bB 2 bQ.EW<|ax (ai 1)<|ax (aw .br) a9) e7
def nQ:dm:=fH (bK<|aH eF<|aa (ai 0)<|aa (aw<|.int 9) ar) (fH (bK<|aH eF<|aa (ai 0)<|aa (aw<|.int 7) ar) (d1 2 bQ.ET<|ax (ai 1)<|ax (cw<|aa (aY<|cw<|aa (aY Z5) ar) ar) a9)<|d1 2 bQ.KS<|ax (ai 1)<|ax (aw .br) a9) fR
def dj:bw:=cT<|s7 (bK<|aH gn<|aa (ai 0)<|aa (aw<|.int 9) ar) (bB 2 (c0 2 jh)<|ax (ai 1) Ze)<|bB 2 (c0 2 jh)<|ax (ai 1) Ze
def uP:dm:=fH (bK<|aH gn<|aa (ai 0)<|aa (aw<|.int 9) ar) (d1 2 bQ.ER<|ax (ai 1) Ze)<|d1 2 bQ.E0<|ax (ai 1) Ze
def aep:bw:=(bL ko<|bL bt dj)
def x2:cY:=c0 3<|aep
def aeq:dm:=(dy w5 ko<|dy nQ bt uP)
def rM:e8:=fnX 3 aeq
def pz:bw:=eG (bK<|aH eF<|aa (ai 0)<|aa (aw<|.int 4) ar) (cT<|s7 (bK<|aH eF<|aa (ai 0)<|aa ZC ar) (ye (aH og<|aa (ai 0)<|aa ZC ar) [(2,bQ.m9),(2,bQ.qE)]<|ax (ai 1)<|ax (cw ZK) a9)<|ye (aH og<|aa (ai 0)<|aa ZC ar) [(2,bQ.m9),(2,bQ.qE)]<|ax (cw ZK) ZR) e7
def oa:dm:=fH (bK<|aH eF<|aa (ai 0)<|aa (aw<|.int 4) ar) (fH (bK<|aH eF<|aa (ai 0)<|aa ZC ar) (F3 (aH og<|aa (ai 0)<|aa ZC ar) [(2,bQ.nc),(2,bQ.tv)]<|ax (ai 1)<|ax (cw ZK) a9)<|F3 (aH og<|aa (ai 0)<|aa ZC ar) [(2,bQ.nc),(2,bQ.tv)]<|ax (cw ZK) ZR) fR
def Tg:bw:=cT<|s7 (bK<|aH gn<|aa (ai 0)<|aa (aw<|.int 4) ar) (bB 3 (c0 5 jh)<|ax (ai 1)<|ax (cw ZK) Ze)<|bB 3 (c0 5 jh)<|ax (cw ZK)<|ax (ai 1) Ze
def vM:dm:=fH (bK<|aH gn<|aa (ai 0)<|aa (aw<|.int 4) ar) (d1 3 bQ.vF<|ax (ai 1)<|ax (cw ZK) Ze)<|d1 3 bQ.vF<|ax (cw ZK)<|ax (ai 1) Ze
def aer:bw:=(bL pz Tg)
def Bk:cY:=c0 3<|aer
def aes:dm:=(dy oa pz vM)
def tG:e8:=fnX 3 aes
def qH:bw:=eG (bK<|aH gn<|aa (ai 0)<|aa ZC ar) (cT<|bB 2 bQ.Ba<|ax (ai 1) Ze) e7
def vN:dm:=fH (bK<|aH gn<|aa (ai 0)<|aa ZC ar) (d1 2 bQ.Bb<|ax (ai 1) Ze) fR
def Th:bw:=cT<|s7 (bK<|aH gn<|aa (ai 0) ZU) (bB 3 (c0 3 jh) Z01)<|bB 3 (c0 5 jh) Z01
def x3:dm:=fH (bK<|aH gn<|aa (ai 0) ZU) (d1 3 bQ.E3 Z01)<|d1 3 Fl Z01
def aet:bw:=(bL qH Th)
def Fq:cY:=c0 4<|aet
def aeu:dm:=(dy vN qH x3)
def tH:e8:=fnX 4 aeu
def qI:bw:=eG (bK<|aH gn<|aa (ai 0) ZU) (cT<|cw<|aa (aY<|aw<|.str "told")<|aa (aY<|aH oh<|aa (bB 3 x2 Z01) ar) ar) e7
def vO:dm:=fH (bK<|aH gn<|aa (ai 0) ZU) (d1 3 rM Z01) fR
def vP:bw:=eG (bK<|aH gn<|aa (ai 0)<|aa Z5 ar) (cT<|cw<|aa (aY<|aw<|.str "told")<|aa (aY<|aH oh<|aa (bB 3 Bk Z01) ar) ar) e7
def Bl:dm:=fH (bK<|aH gn<|aa (ai 0)<|aa Z5 ar) (d1 3 tG Z01) fR
def Lj:bw:=cT<|cw<|aa (aY<|aw<|.str "told")<|aa (aY<|aH oh<|aa (bB 4 Fq<|ax (ai 1)<|ax (ai 2)<|ax (ai 3)<|ax (ai 4) a9) ar) ar
def Lk:dm:=d1 4 tH<|ax (ai 1)<|ax (ai 2)<|ax (ai 3)<|ax (ai 4) a9
def BD:bw:=(bL qI<|bL vP Lj)
def L9:dm:=(dy vO qI<|dy Bl vP Lk)
def vQ:bw:=z0 [0,1,2,3,4] BD L9 bQ.RU
def gQ:cY:=c0 6<|vQ
def Ti:bw:=(cT<|rm (aH (dS .int) ZE)<|rm (xf<|bK<|aH (dS .bool) ZE)<|gx fL fL (ai 1) (ai 0)<|ai 2)
def x4:cY:=c0 3<|Ti
def Tj:bM:=et (fK<|ai 0) (ck [C,J 0]) (cB 0) yes<|bB 3 x4<|ax (ai 0)<|ax ZD<|ax (aw<|.int 30) a9
def Tn:bw:=(bL (dO 0<|eG (hY (eu<|bK<|aH (dS .tuple) ZE)<|hY (eu<|bK<|gx fL fL Z5 (aH fe ZE)<|aw<|.int 8)<|eu<|bK<|aH jk<|aa Tj ar) Zb e7)<|cT<|aH gn<|aa (aH nV ZE)<|aa (aH xg ZE) ar)
def vR:cY:=c0 1<|Tn
def Bm:bw:=(bL (eG (hY (eu<|bK<|aH (dS .tuple) ZO)<|bK<|aH gp<|aa (aH fe ZO)<|aa ZC ar) Zb e7)<|eG (hY (eu<|bK<|bB 3 x4<|ax (aH dv<|aa (ai 1) ZU)<|ax ZD<|ax (aw<|.int 120) a9)<|eu<|bK<|bB 3 x4<|ax (aH dv<|aa (ai 1)<|aa Z5 ar)<|ax Z5<|ax (aw<|.int 4096) a9) Zb e7)
def Fs:bw:=iK (iJ<|ai 0) (cB 1) Bm
def Ll:bM:=et (EE (ai 0)<|lY (ai 0) (lN Z5) lM) (ck [C,J 0,C]) (zW 2 0) yes<|aH eF<|aa (aH dv<|aa (ai 2) ZU)<|aa (aH dv<|aa (ai 0) ZU) ar
def To:bw:=(bL (eG (hY (eu<|bK<|aH (dS .list) ZE)<|bK<|aH gn<|aa (ai 0)<|aa (dG ar) ar) Zb e7)<|bL (fD 0 Fs)<|cT<|aH jk<|aa Ll ar)
def Bn:cY:=c0 2<|To
def Lm:bM:=dG<|aa (aY<|aw .br)<|aa (aY<|aw<|.aC Y0)<|aa (aY<|aw<|.str "1")<|aa (aY ZD)<|aa (aY Z5)<|aa (aY<|aw<|.int 5)<|aa (aY<|aw<|.int 30)<|aa (aY<|aw<|.int 31)<|aa (aY<|aH pF<|aa Z5 ar)<|aa (aY<|cw ar)<|aa (aY<|cw<|aa (aY ZD) ar)<|aa (aY<|cw ZK)<|aa (aY<|dG<|aa (aY Z5) ar)<|aa (aY<|aw<|.int 4096)<|aa (aY<|aw<|.int 4097)<|aa (aY<|aw<|.int 120)<|aa (aY<|aw<|.int 121) ar
def iG(g:cY):bw:=(bL (dM 3<|bB 3 bQ.ka<|ax (ai 0)<|ax (ai 1)<|ax (aw<|.int 8) a9)<|bL (eG (pE (bK<|aH (dS .tuple) ZV)<|pE (bK<|aH gp<|aa (ai 2)<|aa (cw ar) ar)<|bK<|aH rn<|aa (ai 3)<|aa Z5 ar) (bL (dM 4<|bB 3 bQ.ka<|ax (ai 0)<|ax (ai 1)<|ax (aH fe ZV) a9)<|cT<|aH ek<|aa (aH ek<|aa (lY (ai 2) lM<|lN<|ai 4)<|aa (cw<|aa (aY<|bB 3 g<|ax (ai 0)<|ax (ai 1)<|ax (aH dv<|aa (ai 2)<|aa (ai 4) ar) a9) ar) ar)<|aa (lY (ai 2) (lN<|aH ek<|aa (ai 4)<|aa Z5 ar) lM) ar) e7)<|bL (eG (pE (bK<|aH (dS .tuple) ZV)<|bK<|aH gn<|aa (ai 3)<|aa Z5 ar) (cT<|bB 3 bQ.qF<|ax (ai 0)<|ax (ai 1)<|ax (dG<|aa (aY<|aH nV ZV)<|aa (aY<|aH kG<|aa (ai 2)<|aa (aw<|.int 5) ar)<|aa (aY<|lY (ai 2) (lN Z5) lM)<|aa (aY<|BA<|ai 2)<|aa (aY<|aH ek<|aa (ai 2)<|aa (lY (ai 2) (lN<|aH pF<|aa Z5 ar) lM) ar) ar) a9) e7)<|cT<|bB 3 bQ.qF<|ax (ai 0)<|ax (ai 1)<|ax Lm a9)
def Ft:cY:=c0 5<|iG bQ.KZ
def Ln:cY:=c0 5<|iG Ft
def Lo:cY:=c0 5<|iG Ln
def Lp:cY:=c0 5<|iG Lo
def pA:cY:=c0 5<|iG Lp
def Bo:bw:=(dM 2<|bB 3 pA<|ax (ai 0)<|ax (ai 1) Ze)
def Lq:bw:=iK (iC<|aa (aH ek<|aa Z5<|aa (bB 3 bQ.ka<|ax (ai 0)<|ax (ai 1)<|ax ZC a9) ar) ar) (cB 3) Bo
def Lr:bM:=et (fK<|ai 2) (ck [J 0,J 1,J 2,J 3,J 4,J 5,J 6,C,J 8,J 9,J 10]) (cB 7) yes<|bB 1 vR<|ax (ai 7) a9
def Vu:bM:=et (iC<|aa (aw<|.int 11) ar) (ck [C,J 0,J 1,J 2,J 3,J 4,J 5,J 6,J 7,J 8,J 9,J 10]) (cB 0) yes<|bB 5 gQ<|ax ZD<|ax (ai 0)<|ax (ai 3)<|ax (ai 6)<|ax (aw .br) a9
def Vv:bM:=et (iC<|aa (aw<|.int 6) ar) (ck [C,J 0,J 1,J 2,J 3,J 4,J 5,J 6,J 7,J 8,J 9,J 10]) (cB 0) yes<|bB 5 gQ<|ax Z5<|ax (ai 0)<|ax (ai 8)<|ax (ai 6)<|ax (aw .br) a9
def Ls:bM:=et (iC<|aa Zg ar) (ck [C,J 0,J 1,J 2,J 3,J 4,J 5,J 6,J 7,J 8,J 9,J 10]) (cB 0) yes<|bB 5 gQ<|ax ZC<|ax (ai 0)<|ax (ai 9)<|ax (ai 11)<|ax (ai 6) a9
def Lu:bM:=et (iC<|aa ZC ar) (ck [C,J 0,J 1,J 2,J 3,J 4,J 5,J 6,J 7,J 8,J 9,J 10]) (cB 0) yes<|bB 5 gQ<|ax ZC<|ax (ai 0)<|ax (ai 9)<|ax (ai 11)<|ax (ai 6) a9
def zq:bw:=dM 2<|bB 4 bQ.vG<|ax (ai 0)<|ax (ai 1)<|ax (aH ek<|aa Z5<|aa (bB 3 bQ.ka<|ax (ai 0)<|ax (ai 1)<|ax (aw<|.int 4) a9) ar)<|ax Zg a9
def H6:bw:=dO 2<|dM 4<|rm (aH (dS .tuple) ZV)<|rm (gx fL fL Z5 (aH fe ZV)<|aw<|.int 4)<|aH jk<|aa Lr ar
def CN:bw:=dM 5<|bB 3 bQ.qF<|ax (ai 0)<|ax (ai 1)<|ax (dG<|aa (aY<|aw .br)<|aa (aY<|aw<|.aC Y0)<|aa (aY<|aH pF<|aa Z5 ar)<|aa (aY<|aw<|.int 1000)<|aa (aY<|aw<|.str "1") ar) a9
def CO:bw:=dM 6 Vu
def w6:bw:=eG (pE (eu<|bK<|ai 4)<|bK<|aH gp<|aa (ai 6)<|aa (lA (dG<|aa (aY<|cw<|aa ZL<|aa (aY Z5) ar) ar)<|aw<|.int 11) ar) Zb e7
def w7:bw:=eG (pE (bK<|ai 4)<|bK<|aH gp<|aa (aH dv<|aa (ai 6)<|aa (aw<|.int 10) ar)<|aa (cw<|aa ZL<|aa (aY Zg) ar) ar) Zb e7
def CP:bw:=dM 7<|bB 3 pA<|ax (ai 0)<|ax (ai 1)<|ax (bB 4 bQ.tC<|ax (ai 0)<|ax (ai 1)<|ax ZC<|ax (aw<|.int 30) a9) a9
def CQ:bw:=dM 6 Vv
def w8:bw:=eG (pE (eu<|bK<|bB 1 vR<|ax (ai 7) a9)<|bK<|aH gp<|aa (ai 6)<|aa (lA (dG<|aa (aY<|cw<|aa ZL<|aa (aY ZD) ar) ar)<|aw<|.int 6) ar) Zb e7
def x5:bw:=eG (pE (bK<|bB 1 vR<|ax (ai 7) a9)<|bK<|aH gp<|aa (lY (ai 6) (lN<|aw<|.int 4) lM)<|aa (lA (dG<|aa (aY<|cw<|aa ZL<|aa (aY Zg) ar) ar) ZC) ar) Zb e7
def Fu:bw:=dM 8<|bB 1 bQ.rE<|ax (bB 4 bQ.vG<|ax (ai 0)<|ax (ai 1)<|ax ZC<|ax Zg a9) a9
def Fv:bw:=dM 9<|bB 3 bQ.ka<|ax (ai 0)<|ax (ai 1)<|ax (aH fe<|aa (ai 8) ar) a9
def Fw:bw:=dM 8<|aH ek<|aa (aH ek<|aa (lY (ai 8) lM<|lN<|ai 9)<|aa (dG<|aa (aY<|bB 3 pA<|ax (ai 0)<|ax (ai 1)<|ax (aH dv<|aa (ai 8)<|aa (ai 9) ar) a9) ar) ar)<|aa (lY (ai 8) (lN<|aH ek<|aa (ai 9)<|aa Z5 ar) lM) ar
def Lv:bw:=fD 8<|dM 8<|bB 3 bQ.qF<|ax (ai 0)<|ax (ai 1)<|ax (dG<|aa (aY<|ai 8)<|aa (aY<|ai 8)<|aa (aY<|ai 8)<|aa (aY<|aH qq<|aa (ai 8) ar)<|aa (aY<|dG ar)<|aa (aY<|BA<|ai 8) ar) a9
def Fx:bw:=dM 10<|bB 3 pA<|ax (ai 0)<|ax (ai 1)<|ax (cw<|aa (aY ZC)<|aa (aY Zg) ar) a9
def Fy:bw:=eG (eu<|bK<|bB 1 Bn<|ax (ai 8) a9) (cT<|aH gn<|aa Ls<|aa (lA (dG<|aa (aY<|cw<|aa ZL<|aa (aY ZC) ar) ar) Zg) ar) e7
def Lw:bw:=eG (pE (bK<|aH gp<|aa (bB 5 gQ<|ax ZC<|ax ZC<|ax (ai 8)<|ax (ai 7)<|ax (aw .br) a9)<|aa (cw<|aa ZL<|aa (aY ZD) ar) ar)<|eu<|bK<|bB 1 vR<|ax (ai 7) a9) Zb e7
def Tp:bw:=cT<|aH gn<|aa Lu<|aa (lA (dG<|aa (aY<|cw<|aa ZL<|aa (aY Zg) ar) ar) ZC) ar
def Gr:bw:=(bL zq<|bL Lq<|bL H6<|bL CN<|bL CO<|bL w6<|bL w7<|bL CP<|bL CQ<|bL w8<|bL x5<|bL Fu<|bL Fv<|bL Fw<|bL Lv<|bL Fx<|bL Fy<|bL Lw Tp)
end vK
namespace vK
open PySem PySem.Spec PyProof.Rows bj bj.bO
noncomputable def top(i:Nat):Stmt:=PySem.Challenge.pw_dicesums_k10_whole_refused_anywhere.main.body.getD i<|.Pass ⟨0,0,0,0⟩
abbrev aev:Stmt:=top 15
abbrev aew:Stmt:=top 16
abbrev aex:Stmt:=top 17
abbrev aey:Stmt:=top 18
abbrev aez:Stmt:=top 19
abbrev aeA:Stmt:=top 20
abbrev aeB:Stmt:=top 21
abbrev aeC:Stmt:=top 22
abbrev aeD:Stmt:=top 23
abbrev aeE:Stmt:=top 24
abbrev aeF:Stmt:=top 30
abbrev ak8:Stmt:=top 31
abbrev amT:Stmt:=top 32
abbrev aeG:Stmt:=top 34
abbrev amU:Stmt:=top 33
abbrev aeH:Stmt:=top 42
abbrev ak9:Stmt:=top 36
abbrev amV:Stmt:=top 37
abbrev amW:Stmt:=top 45
abbrev aeI:Stmt:=top 46
abbrev amX:Stmt:=top 44
abbrev aeJ:Stmt:=top 43
abbrev aeK:Stmt:=top 38
abbrev aeL:Stmt:=top 47
abbrev aeM:Stmt:=top 39
abbrev aeN:Stmt:=top 48
abbrev amY:Stmt:=top 40
abbrev aeO:Stmt:=top 41
abbrev aeP:Stmt:=top 57
abbrev ala:Stmt:=top 58
abbrev amZ:Stmt:=top 53
abbrev aeQ:Stmt:=top 54
abbrev aeR:Stmt:=top 55
abbrev aeS:Stmt:=top 56
abbrev aeT:Stmt:=top 68
abbrev am0:Stmt:=top 67
abbrev aeU:Stmt:=top 70
abbrev aeV:Stmt:=top 71
abbrev aeW:Stmt:=top 72
abbrev aeX:Stmt:=top 73
abbrev aeY:Stmt:=top 74
abbrev aeZ:Stmt:=top 75
abbrev Tq:Stmt:=top 77
abbrev ae0:Stmt:=top 78
abbrev ae1:Stmt:=top 79
abbrev ae2:Stmt:=top 80
abbrev ae3:Stmt:=top 81
abbrev ae4:Stmt:=top 82
abbrev ae5:Stmt:=top 83
abbrev ae6:Stmt:=top 84
abbrev ae7:Stmt:=top 76
abbrev Lx:Stmt:=top 85
set_option genInjectivity false in
set_option genSizeOf false in
structure Zq (K:W.Frag) (a3:Str->Option mt) where
 h0:Heap
 X:K.In h0
 G:h0.Ns kS a3
 WW:Fr
 WX:Fr
 WY:Fr
 WZ:Fr
 W0:Fr
 W2:Fr
 W3:Fr
 W4:Fr
 W5:Fr
 W6:Fr
 CR:Fr
 W7:Fr
 CS:Fr
 aw:Fr
 dL:Fr
 W8:Fr
 CT:Fr
 CU:Fr
 W9:Fr
 Xa:Fr
 Xb:Fr
 Xc:Fr
 CV:Fr
 Xd:Fr
 Xe:Fr
 Xf:Fr
 CW:Fr
 Xg:Fr
 wK:Fr
 Xh:Fr
 Xi:Fr
 Xj:Fr
 Xk:Fr
 H7:Fr
 H8:Fr
 CY:Fr
 H9:Fr
 Ia:Fr
 Xl:Fr
 Xm:Fr
 Xn:Fr
 HC:Fr
 CZ:Fr
 Xo:Fr
 Xp:Fr
 Xq:Fr
 w0:Fr
 Xr:Fr
 Xs:Fr
 Xt:Fr
 Xu:Fr
 C1:Fr
 Xv:Tok
 Xw:Tok
 Xx:Tok
 Xy:Tok
 Xz:Tok
 XA:Tok
 uQ:Addr
 j2:Addr
 j3:Addr
 j4:Addr
 sN:Addr
 j5:Addr
 kp:Addr
 XB:dW K "is_number" aev WW
 XC:dW K "is_die" aew WX
 XD:dW K "is_dice" aex WY
 XE:dW K "is_total_row" aey WZ
 XF:dW K "is_totals" aez W0
 NX:dW K "need_number" aeA W2
 NY:dW K "need_die" aeB W3
 NZ:dW K "need_dice" aeC W4
 N0:dW K "need_totals" aeD W5
 XG:dW K "counted" aeE W6
 Ib:dW K "totals" aeF CR
 wW:dW K "ways" ak8 W7
 Ic:dW K "rolls" amT CS
 N1:dW K "parted" aeG aw
 N2:dW K "alike" amU dL
 XH:dW K "lesser" aeH W8
 Ie:dW K "wins" ak9 CT
 Ig:dW K "beats" amV CU
 XI:dW K "steps" amW W9
 XJ:dW K "goes_round" aeI Xa
 XK:dW K "rings" amX Xb
 XM:dW K "beaten" aeJ Xc
 Ih:dW K "all_rings" aeK CV
 XN:dW K "are_places" aeL Xd
 N3:dW K "is_ring" aeM Xe
 XO:dW K "is_unbeaten" aeN Xf
 Ii:dW K "order" amY CW
 Cv:dW K "chance" aeO Xg
 N4:dW K "need_asked" aeP wK
 XP:dW K "rest" ala Xh
 N5:dW K "pairs" amZ Xi
 N6:dW K "threes" aeQ Xj
 N7:dW K "missing" aeR Xk
 N8:dW K "others" aeS H7
 XQ:dW K "shown_die" aeT H8
 Ij:dW K "shown" am0 CY
 XR:dW K "_law_cell_at" aeU H9
 XS:dW K "_law_mixed" aeV Ia
 XT:dW K "_law_draw" aeW Xl
 XU:dW K "_law_pick" aeX Xm
 XW:dW K "_law_die" aeY Xn
 XX:dW K "_law_dice" aeZ HC
 sO:dW K "_law_which" Tq CZ
 N9:dW K "_law_of_dice" ae0 Xo
 Oa:dW K "_law_of_die" ae1 Xp
 Ob:dW K "_law_of_totals" ae2 Xq
 XY:dW K "_law_ask" ae3 w0
 XZ:dW K "_law_whole" ae4 Xr
 X0:dW K "_law_is_die" ae5 Xs
 X1:dW K "_law_are_totals" ae6 Xt
 Oc:dW K "_law_spoilt" ae7 Xu
 ig:dW K "law" Lx C1
 X2:a3 "ValueError" = C
 X3:a3 "all" = C
 X4:a3 "any" = C
 zb:a3 "bool" = C
 X5:a3 "dict" = C
 X6:a3 "int" = C
 oZ:a3 "isinstance" = C
 Od:a3 "len" = C
 Ik:a3 "list" = C
 Oe:a3 "min" = C
 Il:a3 "range" = C
 Of:a3 "set" = C
 zr:a3 "sorted" = C
 X7:a3 "str" = C
 X8:a3 "sum" = C
 Og:a3 "tuple" = C
 X9:a3 "zip" = C
 Ya:a3 "GREATEST_ASKED" = J (.int 999 Xv)
 Yb:a3 "GREATEST_FACE" = J (.int 30 Xw)
 Yc:a3 "GREATEST_TOTAL" = J (.int 120 Xx)
 Yd:a3 "MOST_DICE" = J (.int 4 Xy)
 Ye:a3 "MOST_FACES" = J (.int 8 Xz)
 Yf:a3 "MOST_WAYS" = J (.int 4096 XA)
 Yg:a3 "DiceError" = J (.ref uQ)
 C2:a3 "NoDice" = J (.ref j2)
 C5:a3 "NoDie" = J (.ref j3)
 C6:a3 "NoNumber" = J (.ref j4)
 Yh:a3 "NoText" = J (.ref sN)
 C7:a3 "NoTotals" = J (.ref j5)
 Im:a3 "TooMany" = J (.ref kp)
 Yi:W.excIn K j2 excMro "ValueError.__new__" = Y0
 Yj:W.excIn K j3 excMro "ValueError.__new__" = Y0
 Yk:W.excIn K j4 excMro "ValueError.__new__" = Y0
 Yl:W.excIn K j5 excMro "ValueError.__new__" = Y0
 Ym:Clause K uQ
 Yn:tQ K j2 uQ
 Yo:tQ K j3 uQ
 Yp:tQ K j4 uQ
 Yq:tQ K j5 uQ
 Yr:tQ K kp uQ
 C8:vu K j3
 C9:vu K j2
 Dc:vu K j5
 Dd:vu K j4
 De:vu K kp
 zt:vu K sN
 Ys:lU K j3
 Yt:W.subIn K (.ref j3) (.type "ValueError")=J Y0
 zu:W.subIn K (.ref j3) (.ref j3)=J Y0
 Yu:W.subIn K (.ref j3) (.ref j2)=J Y1
 Yv:W.subIn K (.ref j3) (.ref j5)=J Y1
 Yw:W.subIn K (.ref j3) (.ref j4)=J Y1
 Yx:W.subIn K (.ref j3) (.ref kp)=J Y1
 Yy:W.subIn K (.ref j3) (.ref sN)=J Y1
 Yz:lU K j2
 YA:W.subIn K (.ref j2) (.type "ValueError")=J Y0
 YB:W.subIn K (.ref j2) (.ref j3)=J Y1
 zv:W.subIn K (.ref j2) (.ref j2)=J Y0
 YC:W.subIn K (.ref j2) (.ref j5)=J Y1
 YD:W.subIn K (.ref j2) (.ref j4)=J Y1
 HQ:W.subIn K (.ref j2) (.ref kp)=J Y1
 YE:W.subIn K (.ref j2) (.ref sN)=J Y1
 dt:lU K j5
 de:W.subIn K (.ref j5) (.type "ValueError")=J Y0
 gW:W.subIn K (.ref j5) (.ref j3)=J Y1
 zk:W.subIn K (.ref j5) (.ref j2)=J Y1
 zw:W.subIn K (.ref j5) (.ref j5)=J Y0
 cx:W.subIn K (.ref j5) (.ref j4)=J Y1
 iR:W.subIn K (.ref j5) (.ref kp)=J Y1
 mP:W.subIn K (.ref j5) (.ref sN)=J Y1
 p5:lU K j4
 y9:W.subIn K (.ref j4) (.type "ValueError")=J Y0
 ib:W.subIn K (.ref j4) (.ref j3)=J Y1
 el:W.subIn K (.ref j4) (.ref j2)=J Y1
 ei:W.subIn K (.ref j4) (.ref j5)=J Y1
 zx:W.subIn K (.ref j4) (.ref j4)=J Y0
 dK:W.subIn K (.ref j4) (.ref kp)=J Y1
 wO:W.subIn K (.ref j4) (.ref sN)=J Y1
 e4:lU K kp
 hD:W.subIn K (.ref kp) (.type "ValueError")=J Y0
 gZ:W.subIn K (.ref kp) (.ref j3)=J Y1
 fw:W.subIn K (.ref kp) (.ref j2)=J Y1
 gu:W.subIn K (.ref kp) (.ref j5)=J Y1
 YF:W.subIn K (.ref kp) (.ref j4)=J Y1
 zy:W.subIn K (.ref kp) (.ref kp)=J Y0
 YG:W.subIn K (.ref kp) (.ref sN)=J Y1
abbrev zA(_:dx)(_:c3)(K:W.Frag)(a3:Str->Option mt)(_:Heap)(_:Addr):=Zq K a3
section
variable {P:dx}{w:c3}{K:W.Frag}{a3:Str->Option mt}{base:Heap}{tw:Addr}
abbrev Io(_:zA P w K a3 base tw)(lv:Nat)(n:Str)(ps:List Str)(f:cY):Prop:=uK P w K a3 base lv n ps f tw
abbrev lI(_:zA P w K a3 base tw)(lv:Nat)(n:Str)(ps:List Str)(f:e8):Prop:=xP P w K a3 base lv n ps f tw
variable (Y:zA P w K a3 base tw)
include Y
def Oh{n:Str}{st:Stmt}{r:Fr}{lv:Nat}{ps:List Str}{b:bw}(h:dW K n st r)(ls:List Str)
  (aq:∀{c8:mt} {A:dI} {cj:List Env} {s:aR} {H:aJ} {E:iv},eD lv Z06->(ps++ls).Nodup->h1 (jP iB P w K a3 base (ps++ls) n (er st) r.f c8 A cj s H E).lL tw (ih st) b)
  (cc:mG (ps++ls) ps<|er st:=by exact uR) (bi:oY n st ps:=by first|exact qh λ_ _ _ _ _ _ _=>rfl|exact zD λ_ _ _ _ _ _ _ _=>rfl|exact zE λ_ _ _ _ _ _ _ _ _=>rfl|exact zF λ_ _ _ _ _ _ _ _ _ _=>rfl|exact zG λ_ _ _ _ _ _ _ _ _ _ _=>rfl):Io Y (lv+1) n ps<|c0 (ps++ls).H b:=adj Y.X Y.G h (λ_ _ _ _ _ _ aU bW=>aq aU bW) cc bi
def YH{n:Str}{st:Stmt}{r:Fr}{lv:Nat}{ps:List Str}{b:dm}(h:dW K n st r)(ls:List Str)
  (aq:∀{c8:mt} {A:dI} {cj:List Env} {s:aR} {H:aJ} {E:iv},eD lv Z06->(ps++ls).Nodup->lq Y1 (jP (my P w) P w K a3 base (ps++ls) n (er st) r.f c8 A cj s H E) tw (ih st) b)
  (cc:mG (ps++ls) ps<|er st:=by exact uR) (bi:oY n st ps:=by first|exact qh λ_ _ _ _ _ _ _=>rfl|exact zD λ_ _ _ _ _ _ _ _=>rfl|exact zE λ_ _ _ _ _ _ _ _ _=>rfl|exact zF λ_ _ _ _ _ _ _ _ _ _=>rfl|exact zG λ_ _ _ _ _ _ _ _ _ _ _=>rfl):lI Y (lv+1) n ps<|fnX (ps++ls).H b:=agu Y.X Y.G h (λ_ _ _ _ _ _ aU bW=>aq aU bW) cc bi
def eL{G:Prop}{n:Str}{st:Stmt}{r:Fr}{l:Nat}{b:bw}(lv:Nat)(ps ls:List Str)(f:cY)(g:Io Y lv n ps f->G)(h:dW K n st r)
  (aq:∀{c8:mt} {A:dI} {cj:List Env} {s:aR} {H:aJ} {E:iv},eD l Z06->(ps++ls).Nodup->h1 (jP iB P w K a3 base (ps++ls) n (er st) r.f c8 A cj s H E).lL tw (ih st) b)
  (cc:mG (ps++ls) ps<|er st:=by exact uR) (bi:oY n st ps:=by first|exact qh λ_ _ _ _ _ _ _=>rfl|exact zD λ_ _ _ _ _ _ _ _=>rfl|exact zE λ_ _ _ _ _ _ _ _ _=>rfl|exact zF λ_ _ _ _ _ _ _ _ _ _=>rfl|exact zG λ_ _ _ _ _ _ _ _ _ _ _=>rfl) (aB:lv=l+1:=by rfl) (hf:f=c0 (ps++ls).H b:=by rfl):G:=by
 subst aB hf;exact g<|Oh Y h ls aq cc bi
def h5{G:Prop}{n:Str}{st:Stmt}{r:Fr}{l:Nat}{b:dm}(lv:Nat)(ps ls:List Str)(f:e8)(g:lI Y lv n ps f->G)(h:dW K n st r)
  (aq:∀{c8:mt} {A:dI} {cj:List Env} {s:aR} {H:aJ} {E:iv},eD l Z06->(ps++ls).Nodup->lq Y1 (jP (my P w) P w K a3 base (ps++ls) n (er st) r.f c8 A cj s H E) tw (ih st) b)
  (cc:mG (ps++ls) ps<|er st:=by exact uR) (bi:oY n st ps:=by first|exact qh λ_ _ _ _ _ _ _=>rfl|exact zD λ_ _ _ _ _ _ _ _=>rfl|exact zE λ_ _ _ _ _ _ _ _ _=>rfl|exact zF λ_ _ _ _ _ _ _ _ _ _=>rfl|exact zG λ_ _ _ _ _ _ _ _ _ _ _=>rfl) (aB:lv=l+1:=by rfl) (hf:f=fnX (ps++ls).H b:=by rfl):G:=by
 subst aB hf;exact g<|YH Y h ls aq cc bi
def Fz:a3 "all_rings" = J (.ref Y.CV.f):=Y.Ih.a3 Y.X Y.G
def FA:a3 "beats" = J (.ref Y.CU.f):=Y.Ig.a3 Y.X Y.G
def ae8:a3 "_law_which" = J (.ref Y.CZ.f):=Y.sO.a3 Y.X Y.G
def FC:a3 "order" = J (.ref Y.CW.f):=Y.Ii.a3 Y.X Y.G
def FD:a3 "rolls" = J (.ref Y.CS.f):=Y.Ic.a3 Y.X Y.G
def FE:a3 "shown" = J (.ref Y.CY.f):=Y.Ij.a3 Y.X Y.G
def FG:a3 "totals" = J (.ref Y.CR.f):=Y.Ib.a3 Y.X Y.G
def FH:a3 "wins" = J (.ref Y.CT.f):=Y.Ie.a3 Y.X Y.G
def Bp(aT:oe.cls=.ref aN)(hd:oe.dict=C)(bS:∃ah,oe.d=.fields ah)(iQ:lU K aN)(bG:Nat->Bool)(YI:W.kitOne K ZI (.ref Y.j3)=J (bG 0))(YJ:W.kitOne K ZI (.ref Y.j2)=J (bG 1))(YK:W.kitOne K ZI (.ref Y.j5)=J (bG 2))(YL:W.kitOne K ZI (.ref Y.j4)=J (bG 3))(YM:W.kitOne K ZI (.ref Y.kp)=J (bG 4))(YN:W.kitOne K ZI (.ref Y.sN)=J (bG 5))(YO:W.kitOne K ZI (.type "ValueError")=J (bG 11)):EC P w K a3 base 1 Y.CZ.f (Y.CZ.fd "_law_which" Tq) ["_law_e"] [(e,oe)] (nZ K tw 1<|bQ.rG e bG) :=
 ai4 (lv:=0) Y.sO.fn (uR (N:=["_law_e","_law_own"])) (λc8 A cj s H aU =>
  (DQ (UU 1 (u7<|g6 (xN (e:=e) (oe:=oe) (aN:=aN) (.head _) aT hd bS iQ (lP 0) YI Y.oZ Y.C5)<|g6 (xN (e:=e) (oe:=oe) (aN:=aN) (.head _) aT hd bS iQ (lP 0) YJ Y.oZ Y.C2)<|g6 (xN (e:=e) (oe:=oe) (aN:=aN) (.head _) aT hd bS iQ (lP 0) YK Y.oZ Y.C7)<|g6 (xN (e:=e) (oe:=oe) (aN:=aN) (.head _) aT hd bS iQ (lP 0) YL Y.oZ Y.C6) nY) (show(["_law_e","_law_own"]:List Str).Nodup by decide))<|DQ (UW 1<|u7<|g6 (xN (e:=e) (oe:=oe) (aN:=aN) (.head _) aT hd bS iQ (lP 0) YM Y.oZ Y.Im)<|g6 (xN (e:=e) (oe:=oe) (aN:=aN) (.head _) aT hd bS iQ (lP 0) YN Y.oZ Y.Yh) nY)<|DQ (Up (oS.st<|Uo (xr (Ut aU.CB<|PF aU.Gx) (acG (lP 1) Mf ⟨rfl,rfl,rfl,rfl⟩) z3)<|US<|UR<|UQ<|ai3 (e:=e) (oe:=oe) (aN:=aN) (.head _) aT hd bS iQ (lP 0) YO Y.oZ Y.X2 PyProof.Rows.Boot.«ValueError») (DP<|DR<|Jg<|g6 I7<|g6 (QJ z3) nY) Pl)<|DP<|DR<|Jg<|g6 I7<|g6 (amm (lP 1) Mf ⟨rfl,rfl,rfl,rfl⟩) nY))
def ae9:QZ P w K a3 base 1 "_law_which" [0,1,2,3,4] bQ.RU tw:=⟨_,Y.sO.2.2.2,ae8 Y,λc t nS cA aN oU e oe af ak bc=>by
  simp only[d4,qR,or_false]at nS;rcases nS with rfl|rfl|rfl|rfl|rfl
  ·have z:=Y.C5.symm.trans oU
   exists z
   exists cA
   exact⟨_,_,bQ.rG e λj=>j==0||j==11,Bp Y af ak bc Y.Ys _ AV (hM Y.zu Y.C9 Y.Yu) (hM Y.zu Y.Dc Y.Yv) (hM Y.zu Y.Dd Y.Yw) (hM Y.zu Y.De Y.Yx) (hM Y.zu Y.zt Y.Yy)<|AW Y.Yt,(Y.sO.fn.binds (qh λ_ _ _ _ _ _ _=>rfl)),λn=>je.Bc e n 0 Z0⟩
  ·have z:=Y.C2.symm.trans oU
   exists z
   exists cA
   exact⟨_,_,bQ.rG e λj=>j==1||j==11,Bp Y af ak bc Y.Yz _ (hM Y.zv Y.C8 Y.YB) AV (hM Y.zv Y.Dc Y.YC) (hM Y.zv Y.Dd Y.YD) (hM Y.zv Y.De Y.HQ) (hM Y.zv Y.zt Y.YE)<|AW Y.YA,(Y.sO.fn.binds (qh λ_ _ _ _ _ _ _=>rfl)),λn=>je.Bc e n 1 Z0⟩
  ·have z:=Y.C7.symm.trans oU
   exists z
   exists cA
   exact⟨_,_,bQ.rG e λj=>j==2||j==11,Bp Y af ak bc Y.dt _ (hM Y.zw Y.C8 Y.gW) (hM Y.zw Y.C9 Y.zk) AV (hM Y.zw Y.Dd Y.cx) (hM Y.zw Y.De Y.iR) (hM Y.zw Y.zt Y.mP)<|AW Y.de,(Y.sO.fn.binds (qh λ_ _ _ _ _ _ _=>rfl)),λn=>je.Bc e n 2 Z0⟩
  ·have z:=Y.C6.symm.trans oU
   exists z
   exists cA
   exact⟨_,_,bQ.rG e λj=>j==3||j==11,Bp Y af ak bc Y.p5 _ (hM Y.zx Y.C8 Y.ib) (hM Y.zx Y.C9 Y.el) (hM Y.zx Y.Dc Y.ei) AV (hM Y.zx Y.De Y.dK) (hM Y.zx Y.zt Y.wO)<|AW Y.y9,(Y.sO.fn.binds (qh λ_ _ _ _ _ _ _=>rfl)),λn=>je.Bc e n 3 Z0⟩
  ·have z:=Y.Im.symm.trans oU
   exists z
   exists cA
   exact⟨_,_,bQ.rG e λj=>j==4||j==11,Bp Y af ak bc Y.e4 _ (hM Y.zy Y.C8 Y.gZ) (hM Y.zy Y.C9 Y.fw) (hM Y.zy Y.Dc Y.gu) (hM Y.zy Y.Dd Y.YF) AV (hM Y.zy Y.zt Y.YG)<|AW Y.hD,(Y.sO.fn.binds (qh λ_ _ _ _ _ _ _=>rfl)),λn=>je.Bc e n 4 Z0⟩
  ⟩
def ahw(run:∀ns:List Int,ns.H<=63->∃S' n',Gr (o7 ns 11) 0=J (.aV (.aC Y0) Y1,S',n')):i2 P w K a3 base iB 10 Y.C1.f (Y.C1.fd "law" Lx) ["_law_script"]<|AG K:=by
 refine aiM (lv:=9) Y.ig.fn (uR (N:=(["_law_script"]:List Str)++(["_law_town","_law_dice_here","_law_k","_law_good","_law_odd","_law_found","_law_die_here","_law_some","_law_at","_law_sizes"]:List Str))) rfl rfl Z0 (by first|exact Or.inl rfl|exact Or.inr rfl) (λ_ _ _ _ _ _=>rfl) (λtw c8 A cj s H E aU=>?_) run;have Y:zA P w K a3 base tw:=Y;refine eL Y 1 ["thing","low","high"] [] bQ.lu (λaoN=>?_) Y.XB ?_;refine eL Y 2 ["thing"] [] bQ.kB (λaoo=>?_) Y.XC ?_;refine eL Y 3 ["thing"] [] bQ.mB (λaox=>?_) Y.XD ?_;refine eL Y 2 ["thing"] [] bQ.vy (λao7=>?_) Y.XE ?_;refine eL Y 3 ["thing"] ["heads"] bQ.kC (λaoO=>?_) Y.XF ?_;refine eL Y 2 ["thing","low","high"] [] bQ.tu (λao0=>?_) Y.NX ?_;refine h5 Y 2 ["thing","low","high"] [] bQ.jN (λao8=>?_) Y.NX ?_;refine eL Y 3 ["thing"] [] bQ.i1 (λaoH=>?_) Y.NY ?_;refine h5 Y 3 ["thing"] [] bQ.h2 (λaoP=>?_) Y.NY ?_;refine eL Y 4 ["thing"] [] bQ.g8 (λaoQ=>?_) Y.NZ ?_;refine h5 Y 4 ["thing"] [] bQ.h3 (λaoU=>?_) Y.NZ ?_;refine eL Y 4 ["thing"] [] bQ.lx (λao1=>?_) Y.N0 ?_;refine h5 Y 4 ["thing"] [] bQ.m8 (λao9=>?_) Y.N0 ?_;refine eL Y 1 ["dice"] ["counts","die","larger","total","face"] bQ.n8 (λaoy=>?_) Y.XG ?_;refine eL Y 5 ["dice"] [] bQ.rE (λam1=>?_) Y.Ib ?_;refine h5 Y 5 ["dice"] [] bQ.A3 (λani=>?_) Y.Ib ?_;refine eL Y 1 ["dice","total"] [] (c0 2 jh) (λaoi=>?_) Y.wW ?_;refine h5 Y 5 ["dice","total"] [] bQ.ER (λaok=>?_) Y.wW ?_;refine eL Y 5 ["dice"] ["found","die","longer","roll"] bQ.vz (λalb=>?_) Y.Ic ?_;refine h5 Y 5 ["dice"] ["found","die","longer","roll"] bQ.A4 (λam2=>?_) Y.Ic ?_;refine eL Y 5 ["one","other"] ["first","second","either"] bQ.vA (λaop=>?_) Y.N1 ?_;refine h5 Y 5 ["one","other"] ["first","second","either"] bQ.ES (λaoz=>?_) Y.N1 ?_;refine eL Y 6 ["one","other"] [] bQ.xV (λaol=>?_) Y.N2 ?_;refine h5 Y 6 ["one","other"] [] bQ.ET (λaoq=>?_) Y.N2 ?_;refine eL Y 1 ["die","than"] [] bQ.EU (λaor=>?_) Y.XH ?_;refine eL Y 4 ["one","other"] ["won","drawn"] bQ.m9 (λajy=>?_) Y.Ie ?_;refine h5 Y 4 ["one","other"] ["won","drawn"] bQ.nc (λalc=>?_) Y.Ie ?_;refine eL Y 5 ["one","other"] ["counts"] bQ.qE (λald=>?_) Y.Ig ?_;refine h5 Y 5 ["one","other"] ["counts"] bQ.tv (λam3=>?_) Y.Ig ?_;refine eL Y 1 ["table","path"] ["greater"] bQ.A5 (λk_steps=>?_) Y.XI ?_;refine eL Y 1 ["table","path"] [] bQ.xW (λaoV=>?_) Y.XJ ?_;refine eL Y 2 ["table"] ["found","paths","longer","path"] bQ.EV (λaom=>?_) Y.XK ?_;refine eL Y 6 ["dice"] ["table","one"] bQ.xX (λaos=>?_) Y.XM ?_;refine eL Y 7 ["dice"] [] bQ.vB (λank=>?_) Y.Ih ?_;refine h5 Y 5 ["dice"] [] bQ.A7 (λanl=>?_) Y.Ih ?_;refine eL Y 2 ["thing","many"] [] bQ.KR (λaoW=>?_) Y.XN ?_;refine eL Y 7 ["dice","thing"] [] bQ.EW (λaoA=>?_) Y.N3 ?_;refine h5 Y 5 ["dice","thing"] [] bQ.KS (λaoI=>?_) Y.N3 ?_;refine eL Y 1 ["table","left","place"] [] bQ.EX (λao2=>?_) Y.XO ?_;refine eL Y 7 ["dice"] ["table","row","left","free"] bQ.vC (λale=>?_) Y.Ii ?_;refine h5 Y 5 ["dice"] ["table","row","left","free"] bQ.A8 (λam4=>?_) Y.Ii ?_;refine eL Y 1 ["dice","total"] [] (c0 2 jh) (λaot=>?_) Y.Cv ?_;refine h5 Y 5 ["dice","total"] [] bQ.E0 (λaoB=>?_) Y.Cv ?_;refine eL Y 5 ["totals","sizes","many","least"] ["size"] bQ.KW (λaoX=>?_) Y.N4 ?_;refine h5 Y 5 ["totals","sizes","many","least"] ["size"] bQ.E2 (λao3=>?_) Y.N4 ?_;refine eL Y 1 ["counts","taken"] ["left","total"] bQ.vE (λaoj=>?_) Y.XP ?_;refine eL Y 1 ["totals","sizes","least"] [] (c0 3 jh) (λaon=>?_) Y.N5 ?_;refine h5 Y 6 ["totals","sizes","least"] [] bQ.E3 (λaou=>?_) Y.N5 ?_;refine eL Y 1 ["totals","sizes","least"] ["bare","lows"] (c0 5 jh) (λaov=>?_) Y.N6 ?_;refine h5 Y 6 ["totals","sizes","least"] ["bare","lows"] Fl (λaoC=>?_) Y.N6 ?_;refine eL Y 5 ["totals","die"] ["left","faces","lowest","face","times","same"] bQ.Ba (λaoD=>?_) Y.N7 ?_;refine h5 Y 5 ["totals","die"] ["left","faces","lowest","face","times","same"] bQ.Bb (λaoJ=>?_) Y.N7 ?_;refine eL Y 1 ["one","other","least"] ["same","found"] (c0 5 jh) (λaow=>?_) Y.N8 ?_;refine h5 Y 4 ["one","other","least"] ["same","found"] bQ.vF (λaoE=>?_) Y.N8 ?_;refine eL Y 1 ["die"] [] vL (λaoR=>?_) Y.XQ ?_;refine eL Y 5 ["dice"] [] rL (λalf=>?_) Y.Ij ?_;refine h5 Y 5 ["dice"] [] Bj (λam5=>?_) Y.Ij ?_;refine eL Y 1 ["_law_script","_law_k"] [] bQ.E4 (λao4=>?_) Y.XR ?_;refine eL Y 2 ["_law_script","_law_k","_law_many"] ["_law_drawn"] bQ.E5 (λaoS=>?_) Y.XS ?_;refine eL Y 3 ["_law_script","_law_town","_law_many"] [] bQ.ka (λaoK=>?_) Y.XT ?_;refine eL Y 4 ["_law_script","_law_town","_law_some"] [] bQ.qF (λaoL=>?_) Y.XU ?_;refine eL Y 5 ["_law_script","_law_town","_law_faces","_law_most"] ["_law_low","_law_wide","_law_made"] bQ.tC (λaoF=>?_) Y.XW ?_;refine eL Y 6 ["_law_script","_law_town","_law_many","_law_faces"] [] bQ.vG (λaoM=>?_) Y.XX ?_;refine eL Y 8 ["_law_what","_law_dice_here","_law_asked_for"] [] x2 (λao5=>?_) Y.N9 ?_;refine h5 Y 8 ["_law_what","_law_dice_here","_law_asked_for"] [] rM (λapa=>?_) Y.N9 ?_;refine eL Y 6 ["_law_what","_law_die_here","_law_other"] [] Bk (λaoY=>?_) Y.Oa ?_;refine h5 Y 6 ["_law_what","_law_die_here","_law_other"] [] tG (λao6=>?_) Y.Oa ?_;refine eL Y 6 ["_law_what","_law_some","_law_sizes","_law_least"] [] Fq (λapb=>?_) Y.Ob ?_;refine h5 Y 7 ["_law_what","_law_some","_law_sizes","_law_least"] [] tH (λapc=>?_) Y.Ob ?_;refine eL Y 9 ["_law_group","_law_what","_law_one","_law_other","_law_third"] ["_law_e"] gQ (λaoG=>?_) Y.XY ?_;refine eL Y 1 ["_law_thing","_law_low","_law_most"] [] x4 (λaoT=>?_) Y.XZ ?_;refine eL Y 2 ["_law_thing"] [] vR (λaoZ=>?_) Y.X0 ?_;refine eL Y 2 ["_law_thing"] ["_law_one"] Bn (λapd=>?_) Y.X1 ?_;refine eL Y 1 ["_law_script","_law_town","_law_thing"] ["_law_kind","_law_at"] bQ.KZ (λanm=>?_) Y.Oc ?_;have BI {g:cY} {Oi lv:Nat} (bT:Oi<=lv) (bS:4<=lv) (anK:uK P w K a3 base Oi "_law_spoilt" ["_law_script","_law_town","_law_thing"] g tw):Io Y (lv+1) "_law_spoilt" ["_law_script","_law_town","_law_thing"]<|c0 5<|iG g:=Oh Y Y.Oc ["_law_kind","_law_at"] ?_;have YP:=BI (lv:=4) Z0 Z0<|anm;have YQ:=BI (lv:=5) Z0 Z0<|YP;have YR:=BI (lv:=6) Z0 Z0<|YQ;have YS:=BI (lv:=7) Z0 Z0<|YR;have anL:=BI (lv:=8) Z0 Z0<|YS;have bW:((["_law_script"]:List Str)++(["_law_town","_law_dice_here","_law_k","_law_good","_law_odd","_law_found","_law_die_here","_law_some","_law_at","_law_sizes"]:List Str)).Nodup:=by decide
 all_goals repeat' first
   |(with_reducible intro _ _ _ _ _ _ aU bW)
   |(with_reducible intro)
   |(with_reducible show bF _ _ _ _);first
     |(with_reducible show bF _ _ (.Name ..) _);first|exact lP _|exact xn Y.Ye|exact xn Y.Yb|exact xn Y.Yc|exact xn Y.Yd|exact xn Y.Yf|exact xn Y.Ya
     |(with_reducible show bF _ _ (.Constant ..) _);first|exact z3|exact Mf|exact I7|exact aij
     |(with_reducible show bF _ _ (.Tuple ..) _);refine Jg ?_
     |(with_reducible show bF _ _ (.Subscript ..) _);first|refine z7 (Ag aU.fX) ?_ ?_ (λ_ _=>rfl)|refine aiP ?_ ?_ ?_
     |(with_reducible show bF _ _ (.Call (.Name "len" _) ..) _);first|refine td aiC Y.Od boot_len ?_|refine acD aU.hd ?_ Y.Od Y.Of
     |(with_reducible show bF _ _ (.List ..) _);refine u7 ?_
     |(with_reducible show bF _ _ (.ListComp ..) _);first|refine amw ?_ ?_ ?_|refine amx _ ?_ ?_ ?_|refine Jt rfl (N':=["_law_other","_law_thing","_law_one"]) (l2.of) (by decide) ?_ (λ_ _ _ _ _=>(aiw 2 0 rfl (show(["_law_other","_law_thing","_law_one"]:List Str).Nodup by decide))) (λ_ _ _ _ _=>?_) λ_ _ _ _ _=>?_
     |(with_reducible show bF _ _ (.BinOp _ .Add ..) _);refine u6 aiB ?_ ?_
     |(with_reducible show bF _ _ (.Call (.Name "isinstance" _) ..) _);first|refine D6 (k:=.tuple) ?_ Y.oZ Y.Og boot_tuple|refine D6 (k:=.int) ?_ Y.oZ Y.X6 boot_int|refine D6 (k:=.bool) ?_ Y.oZ Y.zb boot_bool|refine D6 (k:=.list) ?_ Y.oZ Y.Ik boot_list
     |(with_reducible show bF _ _ (.Call (.Name "all" _) ..) _);refine td (aiE rfl) Y.X3 boot_all ?_
     |(with_reducible show bF _ _ (.BinOp _ .Mult ..) _);refine u6 aiG ?_ ?_
     |(with_reducible show bF _ _ (.BinOp _ .Sub ..) _);refine u6 aiy ?_ ?_
     |(with_reducible show bF _ _ (.Call (.Name "sorted" _) ..) _);first|refine td (ama aU.hd) Y.zr yX ?_|refine td (JU aU.hd) Y.zr yX ?_|refine acE aU.hd ?_ Y.zr Y.Of|refine ab7 aU.hd ?_ Y.zr|refine td (amb aU.hd) Y.zr yX ?_
     |(with_reducible show bF _ _ (.Compare _ [.Eq] ..) _);refine Je (T4 aU) ?_ ?_
     |(with_reducible show bF _ _ (.Compare _ [.Is] ..) _);refine aiA ?_
     |(with_reducible show bF _ _ (.Call (.Name "list" _) ..) _);first|refine DK (akj aU.hd) Y.Ik boot_list ?_|refine acV aU.hd ?_ Y.Ik Y.Il
     |(with_reducible show bF _ _ (.BinOp ..) _);refine aiQ ?_ ?_
     |(with_reducible show bF _ _ (.Call (.Name "tuple" _) ..) _);refine DK alV Y.Og boot_tuple ?_
     |(with_reducible show bF _ _ (.BinOp _ .Mod ..) _);refine u6 Jw ?_ ?_
     |(with_reducible show bF _ _ (.Compare _ [_,_] ..) _);refine alS F7 F7 ?_ ?_ ?_
     |(with_reducible show bF _ _ (.Call (.Name "dict" _) ..) _);refine DK (akk aU.hd) Y.X5 boot_dict ?_
     |(with_reducible show bF _ _ (.Call (.Name "min" _) ..) _);first|refine td (aiD rfl) Y.Oe boot_min ?_|refine akz rfl ?_ Y.Oe boot_min
     |(with_reducible show bF _ _ (.Call (.Name "sum" _) ..) _);refine td (akx rfl) Y.X8 boot_sum ?_
     |(with_reducible show bF _ _ (.Compare _ [.Gt] ..) _);refine Je Ur ?_ ?_
     |(with_reducible show bF _ _ (.Call (.Name "any" _) ..) _);refine td (aiO rfl) Y.X4 boot_any ?_
     |(with_reducible show bF _ _ (.BinOp _ .FloorDiv ..) _);refine u6 aiz ?_ ?_
     |(with_reducible show bF _ _ (.Call (.Name "str" _) ..) _);refine DK akM Y.X7 boot_str ?_
     |(with_reducible show bF _ _ (.Compare _ [.Lt] ..) _);refine Je Uq ?_ ?_
     |(with_reducible show bF _ _ (.Call ..) _);first|refine Uz (by assumption) ?_|refine akg aU.fX ?_ ?_ ?_ ⟨rfl,rfl,rfl,rfl⟩|refine Vh (as:=[Y.CT.f,Y.CU.f]) (z7 (Ag aU.fX) (u7 (g6 (mz (FH Y)) (g6 (mz (FA Y)) nY))) (u6 Jw (lP 0) z3) (λ_ _=>rfl)) (λ_ _=>rfl) (BY rfl) (vs (ajy) (FH Y) (aU.mono Z0)<|vs (ald) (FA Y) (aU.mono Z0) ou.nil) ?_|refine al0 ?_ ?_ ⟨rfl,rfl,rfl,rfl⟩|refine akN ?_ ?_ ⟨rfl,rfl,rfl,rfl⟩|refine Vh (as:=[Y.CR.f,Y.CS.f,Y.CV.f,Y.CW.f,Y.CY.f]) (z7 (Ag aU.fX) (u7 (g6 (mz (FG Y)) (g6 (mz (FD Y)) (g6 (mz (Fz Y)) (g6 (mz (FC Y)) (g6 (mz (FE Y)) nY)))))) (lP 0) (λ_ _=>rfl)) (λ_ _=>rfl) (BY rfl) (vs (am1) (FG Y) (aU.mono Z0)<|vs (alb) (FD Y) (aU.mono Z0)<|vs (ank) (Fz Y) (aU.mono Z0)<|vs (ale) (FC Y) (aU.mono Z0)<|vs (alf) (FE Y) (aU.mono Z0) ou.nil) ?_
     |refine agY ?_ ?_ ?_
     |refine aiq ?_ ?_
     |refine aip ?_
     |refine QJ ?_
     |refine aio ?_
     |refine aiR ?_
     |refine aki ?_
     |exact akh
   |(with_reducible show SB _ _ _ _);first
     |refine Pk ?_ ?_
     |exact UT
   |(with_reducible show h1 _ _ _ _);first
     |refine DP ?_
     |refine DQ ?_ ?_
     |exact Pl
     |exact al9
   |(with_reducible show gX _ _ _ _);first
     |refine DR ?_
     |refine Up ?_ ?_ ?_
     |refine UU _ ?_ bW
     |refine akc _ ?_
     |refine Pm ?_
     |refine aix rfl rfl ?_ ?_ ?_
     |refine UX _ ?_
     |refine adk _ bW ?_ ?_ ?_
     |refine UW _ ?_
     |exact aa7 _ _ bW
     |exact aa6 _
     |refine alR rfl ?_ ?_
     |refine alP _ aU.fX ?_ ?_
     |refine ais _ ?_
     |exact aj5 _
     |refine akH 5 rfl rfl (λ_ _=>?_) (λ_ _=>?_) (amv 5 (ae9 Y) (aU.mono Z0) rfl rfl) Y.Yg Y.Ym (ni.cons Y.C5 Y.Yo<|ni.cons Y.C2 Y.Yn<|ni.cons Y.C7 Y.Yq<|ni.cons Y.C6 Y.Yp<|ni.cons Y.Im Y.Yr ni.nil) bW
     |exact alN
   |(with_reducible show sC _ _ _ _);first
     |refine g6 ?_ ?_
     |exact nY
   |(with_reducible show ST _ _ _ _);first
     |(with_reducible show ST _ _ (.Compare _ [.Lt] ..) _);refine xr Uq ?_ ?_
     |(with_reducible show ST _ _ (.Compare _ [.Eq] ..) _);refine xr (T4 aU) ?_ ?_
     |(with_reducible show ST _ _ (.Compare _ [.NotEq] ..) _);refine xr (agv aU) ?_ ?_
     |(with_reducible show ST _ _ (.Compare _ [_,_] ..) _);refine alT F7 F7 ?_ ?_ ?_
     |(with_reducible show ST _ _ (.Compare _ [.Gt] ..) _);refine xr Ur ?_ ?_
     |(with_reducible show ST _ _ (.Compare _ [.NotIn] ..) _);refine xr acS ?_ ?_
     |(with_reducible show ST _ _ (.Compare _ [.Is] ..) _);refine aiS ?_
     |refine UR ?_
     |refine UQ ?_
     |refine oS.st ?_
   |(with_reducible show nL _ _ _ _);first
     |refine aj1 ?_ ?_
     |exact aim
   |(with_reducible show lq _ _ _ _ _);first
     |exact aiT
     |refine amy (by assumption) (by assumption) ?_ ?_
     |refine QR ?_ (gX.lift ?_) ?_
     |refine akC ?_
   |(with_reducible show oS _ _ _ _);first
     |refine Uo ?_ ?_
     |refine US ?_
     |refine ain ?_ ?_
     |refine aj2 ?_
   |(with_reducible show kn _ _ _ _ _);first
     |refine UA (by assumption) ?_
     |refine aha ?_ ?_ ?_
     |refine ai5 ?_
     |refine' akK ?_ ?_
     |refine Vi (as:=[Y.CT.f,Y.CU.f]) (z7 (Ag aU.fX) (u7 (g6 (mz (FH Y)) (g6 (mz (FA Y)) nY))) (u6 Jw (lP 0) z3) (λ_ _=>rfl)) (λ_ _=>rfl) (BY rfl) (vt (alc) (FH Y) (aU.mono Z0)<|vt (am3) (FA Y) (aU.mono Z0) ov.nil) ?_
     |refine Vi (as:=[Y.CR.f,Y.CS.f,Y.CV.f,Y.CW.f,Y.CY.f]) (z7 (Ag aU.fX) (u7 (g6 (mz (FG Y)) (g6 (mz (FD Y)) (g6 (mz (Fz Y)) (g6 (mz (FC Y)) (g6 (mz (FE Y)) nY)))))) (lP 0) (λ_ _=>rfl)) (λ_ _=>rfl) (BY rfl) (vt (ani) (FG Y) (aU.mono Z0)<|vt (am2) (FD Y) (aU.mono Z0)<|vt (anl) (Fz Y) (aU.mono Z0)<|vt (am4) (FC Y) (aU.mono Z0)<|vt (am5) (FE Y) (aU.mono Z0) ov.nil) ?_
     |refine ai7 ?_
   |(with_reducible show ti _ _ _ _);first
     |exact aka
     |refine akb ?_
   |(with_reducible show ru _ _ _ _ _);first
     |refine age ?_
     |refine akP ?_ ?_ Y.X9
     |refine rv.c ?_
   |(with_reducible show rg _ _ _ _ _);first
     |refine ag9 ?_ ?_ ?_
     |refine aiU ?_
     |refine EA rfl ?_ Y.C6 rfl Y.Yk
     |refine QS ?_
     |refine EA rfl ?_ Y.C5 rfl Y.Yj
     |refine EA rfl ?_ Y.C2 rfl Y.Yi
     |refine EA rfl ?_ Y.C7 rfl Y.Yl
     |refine ai6 2 ?_ bW
     |refine ai0 PassesOwn.leaving rfl ?_ ?_ (h1.lift ?_) ?_
   |(with_reducible show zd _ _ _ _);first
     |refine akf ?_
     |exact ake
   |(with_reducible show sD _ _ _ _);first
     |exact Pr _ bW
   |(with_reducible show z9 _ _ _ _ _);first
     |refine agf ?_
     |refine rv.s ?_
   |(with_reducible show rv _ _ _ _ _);first
     |refine aj8 ?_ Y.Il
     |refine aj9 ?_ Y.Il
   |(with_reducible show uM _ _ _ _ _);first
     |refine aiY ?_
     |refine aiZ ?_ ?_
     |exact aiX Z0
   |(with_reducible show CE _ _ _ _);first
     |exact aiW
     |refine akE ?_
   |rfl
end
def all_mk{w:c3}{K:W.Frag}{a3:Str->Option mt}(Y:Zq K a3){l:W.OpenLaw}{da:Addr}(AU:a3 "law" = J (.ref da))(run:∀ns:List Int,ns.H<=63->∃S' n',Gr (o7 ns 11) 0=J (.aV (.aC Y0) Y1,S',n')):∃fd:hC,(∀(s:aR) (v:mt),uk s fd ⟨[v],[]⟩ [("_law_script",v)])/\∀base:Heap,K.In base->base.Ns kS a3->i2 l.R w K a3 base iB 10 da fd ["_law_script"] (AG K):=by
 have e:=AU.symm.trans<|Y.ig.a3 Y.X Y.G
 exists e
 exact⟨Y.C1.fd "law" Lx,λs v=>.of_eq rfl,λbase _ _=>ahw (show zA l.R w K a3 base (0:Addr) from Y) run⟩
end vK
namespace Tr
open PySem bj bj.bO bQ je
def placesOf(m:Nat):List Int:=(List.range m).map λ(k:Nat)=>(k:Int)
def Au(p:List Int):Bool:=p.head?==least p
def tI(tb:List<|List Bool)(left:List Int)(p:Int):Bool:=!left.any λo=>jS tb o p
def Bq(tb:List<|List Bool):Nat->List Int->List Int->Option ZA
 |0,row,_=>J row
 |f+1,row,left=>match left with
  |[]=>J row
  |_::_=>match left.filter (tI tb left) with
   |[]=>C
   |x::_=>Bq tb f (row++[x]) (left.filter λy=>!(y==x))
def Gs(tb:List<|List Bool):Option ZA:=Bq tb 5 []<|placesOf tb.H
def bs:List Bool:=[Y1,Y0]
def am6(cc:nf tb)(aB:left.H<=4)(aU:∀x∈left,0<=x/\x<(tb.H:Int)){p:Int}(NU:0<=p)(dC:p<(tb.H:Int))(b gV:Bool)(n:Nat) :
  EX [(dp tb,b),(dz left,gV),(.int p,Y0)] n=J (.aC<|tI tb left p,Y1,n):=by
 have de:bh=1000000:=rfl;have hv:∀m gg:bo,(m=.ag\/m=.cZ)->(gg=.ag\/gg=.cZ)->KU [J (dp tb,m),J (dz left,gg),J (.int p,.ag)] n=J (.ao<|(left.map λo=>jS tb o p).map T.aC,.aE,n):=by
  intro m gg hm tr;rw[ci];refine ik left T.int (T.aC∘λo=>jS tb o p) ?_ Z3 λo aZ=>?_
  ·unfold dz fK;rcases tr with rfl|rfl<;>simp![walked]
  ·obtain⟨o0,fs⟩:=aU o aZ;have g1:=K7 (tb:=tb) o0 fs n;have g2:=K8 cc o0 fs NU dC n;show _=J (T.aC<|jS tb o p,bo.ag,n);generalize jS tb o p=v at*;generalize kI _=ks at*;unfold dp at g1;unfold dz;rcases hm with rfl|rfl<;>rcases tr with rfl|rfl<;>simp![dp,ck,g1,g2]
 have a6:L0 n [.ao<|(left.map λo=>jS tb o p).map T.aC]=J (.aC (left.any λo=>jS tb o p),.ag):=by show(hQ _).map _=_;rw[bools,kj,GW];rfl
 have m0:=hv (if b then .ag else .cZ) (if gV then .ag else .cZ) (by exists b<;>simp) (by exists gV<;>simp);unfold EX RG tI;generalize (left.map λo=>jS tb o p).map T.aC=l at*;generalize (left.any λo=>jS tb o p)=r at*;generalize KU=CC at*;unfold dp dz at *
 exists b<;>exists gV<;>simp only[jo,if_false,if_true]at m0<;>simp![dO,xf,m0,a6]
def Gb:Option ZA->T×Bool
 |some row=>(dz row,Y0)
 |none=>(.br,Y1)
def alg{i:Nat}{n n':Nat}(h:d S n=J (t,.ag,n'))(hi:S[i]?=J (J (u,.aE)))(bT:g u t=J t'):hN i g d S n=J (.bD,S.set i<|some (t',.aE),n'):=by unfold hN aY;rw[h];simp[eo,hi,bT]
def afa{α:Type}(q:α->Bool){l:List α}{x:α}(av:x∈l)(a7:q x=Y1):(l.filter q).H<l.H:=by
 rcases l5 (l.filter q).H l.H with h|h
 ·exact h
 ·have:=r4 q l;have ak:=(List.length_filter_eq_length_iff (p:=q)).mp (h9 this h) x av;rw[a7]at ak
  exists ak
def afb(cc:nf tb)(x0:Option ZJ)(n:Nat):∀(j F:Nat) (row left:List Int) (ct:Option ZJ),left.H<=j->j<F->row.H+left.H<=4->(∀x∈left,0<=x/\x<(tb.H:Int)) ->
  ∃S',(match Bq tb (j+1) row left with
   |some r=>iW (bK<|ai 3) tx F Z05 n=J (.bD,S',n)/\S'[2]?=J (J (dz r,.aE))
   |none=>iW (bK<|ai 3) tx F Z05 n=J (.aV .br Y1,S',n)):=by
 have de:bh=1000000:=rfl;have stop:∀(F:Nat) (row:List Int) (ct:Option ZJ),0<F->iW (bK<|ai 3) tx F [x0,J (dp tb,.aE),J (dz row,.aE),J (dz [],.aE),ct] n=J (.bD,[x0,J (dp tb,.aE),J (dz row,.aE),J (dz [],.aE),ct],n):=λF row ct cx=>by
  obtain⟨F,rfl⟩:∃G,F=G+1:=⟨F-1,by lia⟩
  unfold iW;rfl
 intro j
 induction j with
 |zero =>
  intro F row left ct aB cx cA aU;obtain rfl:left=[]:=GG.mp<|h9 aB<|gH _;exact⟨_,stop F row ct<|cx,rfl⟩
 |succ j a4 =>
  intro F row left ct aB cx cA aU;cases a7:left with
  |nil=>exact⟨_,stop F row ct<|qU<|eA cx,rfl⟩
  |cons NS aO =>
   rw[<-a7];obtain⟨G,rfl⟩:∃G,F=G+1:=⟨F-1,by lia⟩
   have hv:EY Z05 n=J (dz<|left.filter<|tI tb left,.aE,n):=by
    refine rD left T.int (tI tb left) T.int rfl Z3 λx av=>⟨?_,λ_=>by unfold dz dp;simp![ck]⟩
    obtain⟨h0,af⟩:=aU x av;have e:=am6 cc (left:=left) (qU cA) aU h0 af Y1 Y1 n;generalize tI tb left x=v at*;unfold dz dp at*;simp![ck,e]
   have t:bK (ai 3) Z05 n=J (Y0,n):=by
    have:(left.map T.int).isEmpty=Y1:=by rw[a7];rfl
    unfold dz;simp![this]
   have mU:Bq tb (j+1+1) row left=match left.filter (tI tb left) with
     |[]=>C
     |x::_=>Bq tb (j+1) (row++[x]) (left.filter λy=>!(y==x)):=by rw[a7];rfl
   rw[mU];cases hf:left.filter (tI tb left) with
   |nil =>
    rw[hf]at hv;refine⟨[x0,J (dp tb,.aE),J (dz row,.aE),J (dz left,.aE),J (dz [],.aE)],?_⟩;show iW _ _ _ _ _=_;unfold iW;rw[t];simp only[eO,if_true];have body:tx Z05 n=J (.aV .br Y1,[x0,J (dp tb,.aE),J (dz row,.aE),J (dz left,.aE),J (dz [],.aE)],n):=by unfold tx;generalize EY=CC at*;unfold dz dp at*;simp![dO,hv]
    rw[body];rfl
   |cons x xs =>
    rw[hf]at hv;have av:x∈left:=(lC.mp<|by rw[hf];exact dT ..).1;have dD:=afa (λy=>!(y==x)) av Z7;obtain⟨S',h⟩:=a4 G (row++[x]) (left.filter λy=>!(y==x)) (J (dz<|x::xs,.aE)) (ki<|d5 dD aB) (ki cx) (by rw[gr,pM];lia) λy aK=>aU y (lC.mp aK).1;have g:dv n [dz<|x::xs,.int 0]=J (.int x,.ag):=by unfold dz;rw[ts,vJ T.int (x::xs) 0 Z0<|by rw[d9];lia];rfl
    have b6:KV [x0,J (dp tb,.aE),J (dz<|row++[x],.aE),J (dz left,.aE),J (dz<|x::xs,.aE)] n=J (dz (left.filter λy=>!(y==x)),.aE,n):=by
     refine rD left T.int (λy=>!(y==x)) T.int rfl Z3 λy aK=>⟨?_,λ_=>by unfold dz dp;simp![ck]⟩
     have ne:gp n [.int y,.int x]=J (.aC<|!(y==x),.ag):=rfl;generalize (!(y==x))=v at*;unfold dz dp at*;generalize (x::xs).map T.int=xx at*;generalize (row++[x]).map T.int=hr at*;simp![ck,g,ne]
    have ap:rT (dz row) (.int x)=J (dz<|row++[x]):=by unfold dz;show(if _ then _ else _)=_;rw[Y2 (by rw[cP];lia),lD];rfl
    have ch:hN 2 rT (aH dv<|aa (ai 4) ZU) [x0,J (dp tb,.aE),J (dz row,.aE),J (dz left,.aE),J (dz<|x::xs,.aE)] n=J (.bD,[x0,J (dp tb,.aE),J (dz<|row++[x],.aE),J (dz left,.aE),J (dz<|x::xs,.aE)],n):=alg (g:=rT) (t:=.int x) (u:=dz row) (by
     unfold dz dp at*;generalize (x::xs).map T.int=xx at *
     simp![g]) rfl ap
    have body:tx Z05 n=J (.bD,[x0,J (dp tb,.aE),J (dz<|row++[x],.aE),J (dz (left.filter λy=>!(y==x)),.aE),J (dz<|x::xs,.aE)],n):=by have te:((x::xs).map T.int).isEmpty=Y1:=rfl;unfold tx;generalize EY=CC at*;generalize KV=HW at*;generalize hN 2 rT (aH dv<|aa (ai 4) ZU)=CH at*;unfold dz dp at*;generalize (x::xs).map T.int=xx at*;generalize (row++[x]).map T.int=hr at*;simp![dO,hv,te,ch,b6]
    refine⟨S',?_⟩;unfold iW;rw[t];simp only[eO,if_true];rw[body];exact h
def order{M F:Nat}(D:iq M F ds)(ei:M<=4)(cx:F<=8)(n:Nat) :
  vC [Zc] n=J ((Gb<|Gs<|tabOf ds).1,(Gb<|Gs<|tabOf ds).2,n):=by
 have de:bh=1000000:=rfl;have fP:ds.H<=4:=bP D.most ei;have az:=pw D ei cx n;have au:=Vs D ei cx n;have eR:fe n [.aD ZB]=J (.int (ds.H:Int),.ag):=by rw[g7,cP]
 have cc:=SA (ss:=ds) fP;have cQ:(placesOf (tabOf ds).H).H=ds.H:=by unfold placesOf;rw[cP,tW,SD]
 obtain⟨S',h⟩:=afb cc (J (.aD ZB,.ag)) n 4 100000 [] (placesOf (tabOf ds).H) C (bP (d2 cQ) fP) Z0 (by rw[tY];lia) (λx av=>by
  unfold placesOf at av;obtain⟨k,aW,rfl⟩:=ez.mp av;have:=nu.mp aW
  lia)
 have fO:z1 (aa (aH fe ZE) ar) [J (.aD ZB,.ag),J (dp<|tabOf ds,.aE),J (dz [],.aE),C,C] n=J (dz<|placesOf (tabOf ds).H,.aE,n):=by
  unfold z1;have h:iC (aa (aH fe ZE) ar) [J (.aD ZB,.ag),J (dp<|tabOf ds,.aE),J (dz [],.aE),C,C] n=J (ip 0 (ds.H:Int),n):=by refine EG ?_ (ir _) Z3;generalize ds.map aG=dd at*;simp![eR]
  rw[h,Ks,SD];show J _=J _;unfold dz placesOf;rw[ci];rfl
 have h:(match Gs (tabOf ds) with
   |some r=>EZ [J (.aD ZB,.ag),J (dp<|tabOf ds,.aE),J (dz [],.aE),J (dz<|placesOf (tabOf ds).H,.aE),C] n=J (.bD,S',n)/\S'[2]?=J (J (dz r,.aE))
   |none=>EZ [J (.aD ZB,.ag),J (dp<|tabOf ds,.aE),J (dz [],.aE),J (dz<|placesOf (tabOf ds).H,.aE),C] n=J (.aV .br Y1,S',n)):=h
 unfold vC RH;generalize z1 (aa (aH fe ZE) ar)=LR at*;generalize EZ=LL at*;generalize placesOf (tabOf ds).H=pp at*;have hn:0<=bh:=by decide
 have NR:dz []=.ao []:=rfl;rw[NR]at fO h;cases aZ:Gs (tabOf ds) with
 |none =>
  rw[aZ]at h;unfold dp at*;generalize (tabOf ds).map kI=tt at*;generalize ds.map aG=dd at*;generalize dz pp=jf at*;simp![az,au,dG,hn,fO,h,Gb]
 |some r =>
  rw[aZ]at h;obtain⟨h,h'⟩:=h;unfold dp at*;generalize (tabOf ds).map kI=tt at*;generalize ds.map aG=dd at*;generalize dz pp=jf at*;simp![az,au,dG,hn,fO,h,Gb,s8,h']
end Tr
namespace FI
open PySem bj bj.bO
def Fm:bM:=et (fK<|ai 0) (ck [C,J 0]) (cB 0) yes<|aH z2 ZE
def Fn:bw:=(dO 0<|cT<|aH u1<|aa (aw<|.str ",")<|aa Fm ar)
def vL:cY:=c0 1<|Fn
def Fo:bM:=et (fK<|ai 0) (ck [C,J 0]) (cB 0) yes<|bB 1 vL Z8
def Fp:bw:=(bL (eT<|bB 1 bQ.g8 Z8)<|dO 0<|cT<|aH u1<|aa (aw<|.str " ")<|aa Fo ar)
def rL:cY:=c0 1<|Fp
end FI
namespace FI
open PySem bj bj.bO bQ je
def alh:∀k:Nat,k<31->(j8 (k:Int)).H<=2/\44∉(j8 (k:Int)).cps.B/\32∉(j8 (k:Int)).cps.B/\aga (j8 (k:Int))=J k:=by decide+kernel
def am7{x:Int}(h:0<=x/\x<=30):∃k:Nat,k<31/\x=k:=⟨x.M,by lia,by lia⟩
def ali{x:Int}(h:0<=x/\x<=30):(j8 x).H<=2:=by obtain⟨k,aW,rfl⟩:=am7 h;exact(alh k aW).1
def nk(l:List Int):Str:=Str.join ","<|l.map j8
def Gu(ds:List ZA):Str:=Str.join " "<|ds.map nk
def FJ:(",": Str).H=1/\(" ": Str).H=1:=by decide+kernel
theorem Ly{B:Nat}:∀(l:List Nat),(∀x∈l,x<=B)->l.sum<=l.H*B
 |[],_=>by simp
 |x::l,h=>by have af:=h x<|dT ..;have ak:=Ly l λy aK=>h y<|am _ aK;simp only[tZ,d9,se];lia
def Ts{l:List Int}(h:∀x∈l,0<=x/\x<=30):((l.map j8).map (·.H)).sum<=l.H*2:=by
 have:=Ly (B:=2) ((l.map j8).map (·.H)) λy aK=>by rw[ci]at aK;obtain⟨x,av,rfl⟩:=ez.mp aK;exact ali<|h x av
 simpa using this
def am8(h:∀x∈l,0<=x/\x<=30)(rh:l.H<=8):(nk l).H<=24:=by have af:=StrLaws.join_length_le ","<|l.map j8;have ak:=Ts h;rw[cP,FJ.1]at af;unfold nk;lia
def afc(h:∀l∈ds,(∀x∈l,0<=x/\x<=30)/\l.H<=8)(cL:ds.H<=4):(Gu ds).H<=100/\((ds.map nk).map (·.H)).sum<=96:=by
 have af:=StrLaws.join_length_le " "<|ds.map nk;have ak:=Ly (B:=24) ((ds.map nk).map (·.H)) λy aK=>by rw[ci]at aK;obtain⟨x,av,rfl⟩:=ez.mp aK;exact am8 (h x av).1 (h x av).2
 rw[cP,FJ.2]at af;simp only[cP]at ak;unfold Gu;lia
theorem Tt:∀ws:List Str,strsOf (ws.map T.str)=J ws
 |[]=>rfl
 |w::ws=>by rw[cU,strsOf,Tt ws];rfl
def agE{x:Int}(h:0<=x/\x<=30)(n:Nat):z2 n [.int x]=J (.str<|j8 x,.ag):=Y2 ⟨h.1,(jq h.2 Z0)⟩
def Tu(sep:Str)(ws:List Str)(n:Nat)(h:(ws.map (·.H)).sum+ws.H*sep.H<=bh):u1 n [.str sep,.ao<|ws.map T.str]=J (.str<|Str.join sep ws,.ag):=by show(strsOf<|ws.map T.str).bind _=_;rw[Tt,eO];exact Y2 h
def afd(h:∀x∈l,0<=x/\x<=30)(rh:l.H<=8)(n:Nat):vL [(aG l,Y0)] n=J (.str<|nk l,Y1,n):=by
 have de:bh=1000000:=rfl;have az:Fm [J (aG l,.ag)] n=J (.ao<|(l.map j8).map T.str,.aE,n):=by
  have:=ik (it:=fK<|ai 0) (l:=[C,J 0]) (i:=0) (e:=aH z2 ZE) (S:=[J (aG l,.ag)]) (n:=n) l T.int (λx=>T.str<|j8 x) rfl Z3 λy aK=>by simp![ck,agE<|h y aK]
  rw[ci];exact this
 have au:=Tu "," (l.map j8) n (by have:=Ts h;rw[cP,FJ.1];lia);unfold vL Fn;have a6:∀d:bw,dO 0 d [J (aG l,.ag)] n=d [J (aG l,.ag)] n:=λ_=>rfl;unfold nk;generalize (l.map j8).map T.str=ws at*;generalize Str.join "," (l.map j8)=j at*;generalize aG l=hW at*;generalize dO 0=FF at*;simp![a6,az,au]
def shown{M F:Nat}(h:iq M F ds)(ei:M<=4)(cx:F<=8)(n:Nat):rL [Zc] n=J (.str<|Gu ds,Y1,n):=by
 have de:bh=1000000:=rfl;have hm:=h.most;have hd:∀l∈ds,(∀x∈l,0<=x/\x<=30)/\l.H<=8:=λl aB=>⟨(h.aL l aB).hJ,bP (h.aL l aB).most cx⟩
 have az:Fo [J (.aD ZB,.ag)] n=J (.ao<|(ds.map nk).map T.str,.aE,n):=by
  have:=ik (it:=fK<|ai 0) (l:=[C,J 0]) (i:=0) (e:=bB 1 vL Z8) (S:=[J (.aD ZB,.ag)]) (n:=n) ds aG (λx=>T.str<|nk x) rfl Z3 λy aK=>by simp![ck,afd (hd y aK).1 (hd y aK).2 n]
  rw[ci];exact this
 have aP:=afc hd<|bP hm ei;have au:=Tu " " (ds.map nk) n (by rw[cP,FJ.2];lia);have bX:=pw h ei cx n;unfold rL Fp;have a6:∀d:bw,dO 0 d [J (.aD ZB,.ag)] n=d [J (.aD ZB,.ag)] n:=λ_=>rfl;unfold Gu;generalize (ds.map nk).map T.str=ws at*;generalize Str.join " " (ds.map nk)=j at*;generalize T.aD ZB=hW at*;generalize dO 0=FF at*;simp![a6,az,au,bX]
end FI
namespace CG
open PySem bj bj.bO bQ je
def eb(W:Nat):Nat->T->Bool
 |_,.br=>Y0
 |_,.aC _=>Y0
 |_,.int _=>Y0
 |_,.str _=>Y0
 |k+1,.aD xs=>decide (xs.H<=W)&&xs.all (eb W k)
 |k+1,.ao xs=>decide (xs.H<=W)&&xs.all (eb W k)
 |_,_=>Y1
def rN{W k:Nat}(h:eb W (k+1) (.aD xs)=Y0):xs.H<=W/\∀x∈xs,eb W k x=Y0:=by rw[eb,f5,decide_eq_true_eq,iM]at h;exact h
def tJ{W k:Nat}(af:xs.H<=W)(ak:∀x∈xs,eb W k x=Y0):eb W (k+1) (.aD xs)=Y0:=by rw[eb,f5,decide_eq_true_eq,iM];exact⟨af,ak⟩
def vS{W Oj:Nat}(hw:W<=Oj):∀(k fI:Nat) (t:T),k<=fI->eb W k t=Y0->eb Oj fI t=Y0:=by
 intro k
 induction k with
 |zero =>
  intro fI t _ h
  exists t<;>first|(exists h;done)|(exists fI<;>rfl)
 |succ k a4 =>
  intro fI t aW h;obtain⟨fI,rfl⟩:∃j,fI=j+1:=⟨fI-1,by omega⟩
  cases t with
  |aD xs =>
   rw[eb,f5,decide_eq_true_eq,iM]at h |-;exact⟨bP h.1 hw,λx av=>a4 fI x (ki aW)<|h.2 x av⟩
  |ao xs =>
   rw[eb,f5,decide_eq_true_eq,iM]at h |-;exact⟨bP h.1 hw,λx av=>a4 fI x (ki aW)<|h.2 x av⟩
  |bk _=>exists h
  |dq=>exists h
  |bJ _=>exists h
  |_=>rfl
def Tv{W:Nat}:∀(k:Nat) (t:T),eb W k t=Y0->d0 k t=Y0:=by
 intro k
 induction k with
 |zero=>intro t h;exists t<;>first|rfl|(exists h;done)
 |succ k a4 =>
  intro t h;cases t with
  |aD xs =>
   rw[eb,f5,iM]at h;show xs.all (d0 k)=Y0;exact iM.mpr λx av=>a4 x<|h.2 x av
  |ao xs =>
   rw[eb,f5,iM]at h;show xs.all (d0 k)=Y0;exact iM.mpr λx av=>a4 x<|h.2 x av
  |bk _=>exists h
  |dq=>exists h
  |bJ _=>exists h
  |_=>rfl
def lB:T->Bool
 |.int i=>decide (0<=i/\i<=30)
 |_=>Y1
def rO:T->Bool
 |.bk _=>Y1
 |.dq=>Y1
 |.bJ _=>Y1
 |_=>Y0
def vT{W k:Nat}(h:eb W k t=Y0):rO t=Y0:=by
 exists t<;>first|rfl|(exists k<;>exists h;done)
def num(h:rO t=Y0)(n:Nat):lu [Z4,(.int 0,Y0),(.int 30,Y0)] n=J (.aC<|lB t,Y1,n):=by
 cases t with
 |int i =>
  by_cases hi:0<=i/\i<=30
  ·rw[xY i 0 _ n hi.1 hi.2];simp[lB,hi]
  ·rw[So i 0 _ n hi];simp only[lB,hi,decide_false]
 |br=>rfl
 |aC b=>exists b<;>rfl
 |str x=>rfl
 |aD xs=>rfl
 |ao xs=>rfl
 |_=>exists h
def afe:T->T->Bool
 |.int a,.int b=>decide (a<=b)
 |_,_=>Y0
def ob(xs:List T):Bool:=(List.zip xs<|xs.drop 1).all λp=>afe p.1 p.2
def gq:T->Bool
 |.aD xs=>decide (1<=xs.H/\xs.H<=8)&&xs.all lB&&ob xs
 |_=>Y1
def gR:T->Bool
 |.aD xs=>decide (1<=xs.H/\xs.H<=4)&&xs.all gq
 |_=>Y1
theorem FK:∀{xs:List T},xs.all lB=Y0->∃l:List Int,xs=l.map T.int/\∀x∈l,0<=x/\x<=30
 |[],_=>⟨[],rfl,by simp⟩
 |x::xs,h=>by
  rw[jV,f5]at h;obtain⟨l,rfl,aB⟩:=FK h.2;cases x with
  |int i =>
   refine⟨i::l,rfl,λy aK=>?_⟩;rcases d4.mp aK with rfl|aK
   ·exact of_decide_eq_true h.1
   ·exact aB y aK
  |_=>cases h.1
theorem Br:∀l:List Int,ob (l.map T.int)=Y0↔l.Pairwise (·<=·)
 |[]=>by simp[ob]
 |[x]=>by simp[ob]
 |x::y::r=>by
  have a4:=Br<|y::r;have e:ob ((x::y::r).map T.int)=(decide (x<=y)&&ob ((y::r).map T.int)):=rfl;rw[e,f5,a4,decide_eq_true_eq];constructor
  ·rintro⟨af,ak⟩;refine jT.mpr ⟨λz hz=>?_,ak⟩;rcases d4.mp hz with rfl|hz
   ·exact af
   ·exact jq af<|(jT.mp ak).1 z hz
  ·intro h;obtain⟨af,ak⟩:=jT.mp h;exact⟨af y<|dT ..,ak⟩
theorem Tw:∀a b:List Int,iL (a.map T.int) (b.map T.int)=decide (a=b)
 |[],[]=>by simp[iL]
 |[],_::_=>by simp[iL]
 |_::_,[]=>by simp[iL]
 |x::a,y::b=>by rw[cU,cU,iL,Tw a b,dV];by_cases av:x=y<;>by_cases ba:a=b<;>simp[av,ba]
def Lz(a b:List Int)(n:Nat):gn n [.ao<|a.map T.int,.ao<|b.map T.int]=J (.aC<|decide (a=b),.ag):=by have cQ:∀l:List Int,d0 6 (.ao<|l.map T.int)=Y0:=λl=>adp λ_ _=>rfl;rw[xR];show((if d0 6 (.ao<|a.map T.int)&&d0 6 (.ao<|b.map T.int) then J (dV (.ao<|a.map T.int)<|.ao<|b.map T.int) else C).map _)=_;rw[cQ,cQ,Bool.and_self,Y2 rfl,dV,Tw];rfl
def aff(af:1<=l.H)(rh:l.H<=8)(aU:∀x∈l,0<=x/\x<=30)(n:Nat):kB [(aG l,Y0)] n=J (.aC<|ob<|l.map T.int,Y1,n):=by
 by_cases up:l.Pairwise (·<=·)
 ·rw[rH (F:=8) ⟨af,rh,aU,up⟩ Z0 n,(Br l).mpr up]
 ·have ne:l≠sortI l:=λe=>up (by rw[e];exact rp l);have dF:ob (l.map T.int)=Y1:=by rw[<-Hb];exact λh=>up ((Br l).mp h)
  have de:bh=1000000:=rfl;have au:EN [J (aG l,.ag)] n=J (.ao (l.map λ_=>.aC Y0),.aE,n) :=
   ik l T.int (λ_=>.aC Y0) rfl (by omega) λy aK=>by have hi:=aU y aK;simp![ck,xY y 0 30 n hi.1 hi.2]
  have gM:jk n [.ao (l.map λ_=>.aC Y0)]=J Zk:=by
   have e:(l.map λ_=>T.aC Y0)=(l.map λ_=>Y0).map T.aC:=by rw[ci];rfl
   rw[xT,e];have:∀bs:List Bool,hQ (bs.map T.aC)=J bs:=λbs=>by
    induction bs with
    |nil=>rfl
    |cons x r a4=>simp[hQ,a4]
   rw[this];simp
  have K6:l.H<64:=(gT rh Z0)
  have bX:rr n [aG l]=J (.ao<|(sortI l).map T.int,.aE):=by unfold aG;simp[rr,n6,K6]
  have eR:nV n [aG l]=J (.ao<|l.map T.int,.aE):=rfl;have fO:=Lz l (sortI l) n;rw[decide_eq_false ne]at fO;have q8:fe n [aG l]=J (.int (l.H:Int),.ag):=by unfold aG;rw[g7,cP]
  have p6:dS .tuple n [aG l]=J Zk:=rfl;have fc:(1:Int)<=l.H:=by omega
  have fP:(l.H:Int)<=8:=by omega
  rw[dF];unfold kB xU;have mu:∀d:bw,dO 0 d [J (aG l,.ag)] n=d [J (aG l,.ag)] n:=λ_=>rfl;generalize (l.map λ_=>T.aC Y0)=bs at*;generalize (sortI l).map T.int=cX at*;generalize l.map T.int=zp at*;generalize aG l=hW at*;generalize (l.H:Int)=L at*;generalize dO 0=FF at*;simp![p6,gx,fL,dZ,q8,fc,fP,mu,au,gM,bX,eR,fO]
def LA{W k:Nat}(h:eb W k t=Y0)(n:Nat):kB [Z4] n=J (.aC<|gq t,Y1,n):=by
 cases t with
 |aD xs =>
  cases k with
  |zero=>exists h
  |succ k =>
   obtain⟨_,av⟩:=rN h;by_cases aB:1<=xs.H/\xs.H<=8
   ·cases ba:xs.all lB with
    |true =>
     obtain⟨l,rfl,aU⟩:=FK ba;rw[cP]at aB;have:=aff aB.1 aB.2 aU n;simp only[gq,ba,cP,aB,and_self,decide_true,yJ];exact this
    |false =>
     rw[adP lB aB.1 aB.2 (λt cA n=>num (vT<|av t cA) n) ba n];simp only[gq,ba,wx,sf]
   ·have e:gq (.aD xs)=Y1:=by simp only[gq,aB,decide_false,sf]
    rw[e];unfold kB xU;by_cases af:1<=xs.H
    ·have fc:(1:Int)<=xs.H:=by omega
     have fP:¬ (xs.H:Int)<=8:=by omega
     simp![dS,j9,kz,iF,jM,kA,gx,fL,dZ,g7,fc,fP]
    ·have fc:¬ (1:Int)<=xs.H:=by omega
     simp![dS,j9,kz,iF,jM,kA,gx,fL,dZ,g7,fc]
 |bk _=>exists k<;>exists h
 |dq=>exists k<;>exists h
 |bJ _=>exists k<;>exists h
 |_=>exact adO rfl n
def afg{W k:Nat}(h:eb W k t=Y0)(hd:gR t=Y1)(n:Nat):mB [Z4] n=J Zr:=by
 cases t with
 |aD xs =>
  cases k with
  |zero=>exists h
  |succ k =>
   obtain⟨_,av⟩:=rN h;by_cases aB:1<=xs.H/\xs.H<=4
   ·refine adS gq aB.1 aB.2 (λt cA n=>LA (av t cA) n) ?_ n;simpa only[gR,aB,and_self,decide_true,yJ]using hd
   ·exact adR aB n
 |bk _=>exists k<;>exists h
 |dq=>exists k<;>exists h
 |bJ _=>exists k<;>exists h
 |_=>exact adQ rfl n
end CG
namespace vK
open PySem bj bj.bO bQ je CG
def ahx:Ft=c0 5 (iG bQ.KZ):=rfl
def ahy:Ln=c0 5 (iG Ft):=rfl
def ahz:Lo=c0 5 (iG Ln):=rfl
def ahA:Lp=c0 5 (iG Lo):=rfl
def ahB:pA=c0 5 (iG Lp):=rfl
noncomputable def yk:List T:=[.br,.aC Y0,.str "1",.int 0,.int 1,.int 5,.int 30,.int 31,.int<|-1,.aD [],.aD [.int 0],.aD [.int 1,.int 2],.ao [.int 1],.int 4096,.int 4097,.int 120,.int 121]
def ahC(S:bE)(n:Nat):Lm S n=J (.ao yk,.aE,n):=rfl
def alj{W k:Nat}(jC:2<=W):∀t∈yk,eb W (k+1) t=Y0:=by intro t cA;refine vS jC 1 (k+1) t (wk _ _) ?_;simp only[yk,d4,qR,or_false]at cA;rcases cA with rfl|rfl|rfl|rfl|rfl|rfl|rfl|rfl|rfl|rfl|rfl|rfl|rfl|rfl|rfl|rfl|rfl<;>rfl
def Good(ns:List Int)(fp:cY)(k:Nat):Prop:=∀(W:Nat) (x:T) (n:Nat),2<=W->W<=1000->eb W k x=Y0->n+2*(k+1)<=bh ->
 ∃fA n',fp [ZQ,(.dq,Y0),(x,Y0)] n=J (fA,Y1,n')/\eb (9*W) (k+1) fA=Y0/\n<=n'/\n'<=n+2*(k+1)
def LB(h:d0 6 (.aD xs)=Y0)(n:Nat):gp n [.aD xs,.aD []]=J (.aC<|!xs.isEmpty,.ag):=by
 rw[xS];show((if d0 6 (.aD xs)&&d0 6 (.aD []) then J (dV (.aD xs)<|.aD []) else C).map _)=_;rw[h];cases xs with
 |nil=>rfl
 |cons x r=>simp[dV,iL,d0]
def FL(ns:List Int)(fp:cY){W k:Nat}{n:Nat}(jC:2<=W)(bz:n+2<=bh)(r:Int)(az:ka [ZQ,(.dq,Y0),(.int 8,Y0)] n=J (.int r,Y1,n+1))(b6:oj .tuple t=J Y1\/∃xs,t=.aD xs/\d0 6 (.aD xs)=Y0/\(xs=[]\/¬1<r)/\r≠1) :
  ∃fA n',c0 5 (iG fp) [ZQ,(.dq,Y0),Z4] n=J (fA,Y1,n')/\eb (9*W) (k+1) fA=Y0/\n<=n'/\n'<=n+2:=by
 obtain⟨v,bS,au⟩:=Bg ns yk Y0 (n+1) (by simp[yk])<|bz;refine⟨v,n+1+1,?_,alj (bP jC<|t2 _ Z0) v bS,(oC<|gd _ _),(cg _)⟩;have FN:=ahC;unfold iG;generalize yk=oo at*;generalize Lm=KO at*;rcases b6 with h|⟨xs,rfl,aF,h,af⟩
 ·have hi:∀n,dS .tuple n [t]=J (.aC Y1,.ag):=λn=>by simp[dS,h]
  simp![az,hi,FN,au]
 ·have ku:(r==1)=Y1:=by simpa using af
  have hi:∀n,dS .tuple n [.aD xs]=J Zk:=λn=>rfl;have hn:0<=bh:=by decide
  have ne:=LB aF;rcases h with rfl|h
  ·simp![az,hi,cw,hn,ne,n7,ku,FN,au]
  ·cases av:xs.isEmpty with
   |true =>
    rw[av]at ne;simp![az,hi,cw,hn,ne,n7,ku,FN,au]
   |false =>
    rw[av]at ne;simp![az,hi,cw,hn,ne,rn,dZ,h,n7,ku,FN,au]
def am9(ns:List Int)(fp:cY){W k:Nat}{n:Nat}(jC:2<=W)(vU:W<=1000)(aP:eb W (k+1) (.aD xs)=Y0)(aF:d0 6 (.aD xs)=Y0)(bz:n+2<=bh)(az:ka [ZQ,(.dq,Y0),(.int 8,Y0)] n=J (.int 1,Y1,n+1)) :
  ∃fA n',c0 5 (iG fp) [ZQ,(.dq,Y0),(.aD xs,Y0)] n=J (fA,Y1,n')/\eb (9*W) (k+1+1) fA=Y0/\n<=n'/\n'<=n+2:=by
 have de:bh=1000000:=rfl;obtain⟨aB,av⟩:=rN aP;have mul:∀n,kG n [.aD xs,.int 5]=J (.aD (List.replicate 5 xs).flatten,.ag):=λn=>by show(if xs.H<=1000 /\ -1000<=(5:Int)/\(5:Int)<=10000/\xs.H*(5:Int).M<=bh then J (T.aD (List.replicate (5:Int).M xs).flatten,bo.ag) else C)=_;rw[Y2 ⟨(bP aB vU),by decide,by decide,by show xs.H*5<=bh;lia⟩];rfl
 have s1:jl xs (J 1) C=xs.drop 1:=Fb xs 1;have last:∃aO:List T,jl xs (J<|-1) C=aO/\aO.H<=1/\∀y∈aO,y∈xs:=by
  refine⟨_,rfl,?_,?_⟩
  ·unfold jl;rw[jU,gc];unfold bj.bO.bound;simp;lia
  ·intro y aK;unfold jl at aK;exact we<|tU aK
 obtain⟨aO,s2,uA,YT⟩:=last;have ad:∀n,ek n [.aD xs,.aD aO]=J (.aD<|xs++aO,.ag):=λn=>by rw[vx,Y2 Z3]
 have li:∀n,nV n [.aD xs]=J (.ao xs,.aE):=λn=>rfl;obtain⟨v,bS,au⟩:=Bg ns [.ao xs,.aD (List.replicate 5 xs).flatten,.aD<|xs.drop 1,.aD xs.reverse,.aD<|xs++aO] Y0 (n+1) Z7<|bz;refine⟨v,n+1+1,?_,?_,(oC<|gd _ _),(cg _)⟩
 ·have hi:∀n,dS .tuple n [.aD xs]=J Zk:=λn=>rfl;have hn:0<=bh:=by decide
  have sL:5<=bh:=by decide
  have ne:=LB aF;have Ol:∀n,pF n [.int 1]=J (.int<|-1,.ag):=λn=>rfl;have af:¬ (1:Int)<1:=by decide
  have ak:((1:Int)==1)=Y0:=rfl;unfold iG;generalize (List.replicate 5 xs).flatten=fX at*;generalize xs.drop 1=f9 at*;generalize aU:xs.reverse=u3 at*;generalize xs++aO=u4 at*;unfold lY lM lN BA;cases av:xs.isEmpty with
  |true =>
   rw[av]at ne;simp![az,hi,cw,hn,ne,n7,ak,dG,sL,li,mul,s1,aU,Ol,s2,ad,au]
  |false =>
   rw[av]at ne;simp![az,hi,cw,hn,ne,rn,dZ,af,n7,ak,dG,sL,li,mul,s1,aU,Ol,s2,ad,au]
 ·have up:∀x∈xs,eb (9*W) (k+1) x=Y0:=λx h=>vS (t2 _ Z0) k (k+1) x (gd _ _)<|av x h;have bG:∀(m:Nat) (x:T),x∈(List.replicate m xs).flatten->x∈xs:=λm x h=>by obtain⟨l,vl,DS⟩:=List.mem_flatten.mp h;rw[(MK.mp vl).2]at DS;exact DS
  simp only[d4,qR,or_false]at bS;rcases bS with rfl|rfl|rfl|rfl|rfl
  ·rw[eb,f5,decide_eq_true_eq,iM];exact⟨(bP aB<|t2 _ Z0),up⟩
  ·exact tJ (by rw[List.length_flatten,List.map_replicate,MA];exact wm Z0 aB) λx h=>up x<|bG 5 x h
  ·exact tJ (by rw[gc];lia) λx h=>up x<|we h
  ·exact tJ (by rw[yp];exact bP aB<|t2 _ Z0) λx h=>up x<|MU.mp h
  ·refine tJ (by rw[gr];lia) λx h=>?_;rcases hR.mp h with h|h
   ·exact up x h
   ·exact up x<|YT x h
def ahD(ns:List Int)(fp:cY){W k:Nat}(iR:Good ns fp k){n:Nat}(jC:2<=W)(vU:W<=1000)(aP:eb W (k+1) (.aD xs)=Y0)(aF:d0 6 (.aD xs)=Y0)(JO:xs.isEmpty=Y1)(bz:n+2*(k+2)<=bh)(r:Int)(aU:1<r)(az:ka [ZQ,(.dq,Y0),(.int 8,Y0)] n=J (.int r,Y1,n+1)) :
  ∃fA n',c0 5 (iG fp) [ZQ,(.dq,Y0),(.aD xs,Y0)] n=J (fA,Y1,n')/\eb (9*W) (k+1+1) fA=Y0/\n<=n'/\n'<=n+2*(k+2):=by
 have de:bh=1000000:=rfl;obtain⟨aB,av⟩:=rN aP;have fh:1<=xs.H:=by
  cases xs with
  |nil=>exists JO
  |cons _ _=>simp
 obtain⟨a,iS,a1,au⟩:=qG ns (n+1) xs.H Z3 Z3;obtain⟨j,rfl⟩:∃j:Nat,a=j:=⟨a.M,by lia⟩
 have bU:j<xs.H:=by lia
 have g:gF xs (j:Int)=J xs[j]:=by unfold gF;rw[Y2<|iS,Y2<|a1,ua,hj bU]
 have hm:=oA bU;obtain⟨fA,n',a6,cN,dE,iP⟩:=iR W xs[j] (n+1+1) jC vU (av _ hm) Z3;have s1:jl xs C (J (j:Int))=xs.take j:=Se xs j;have s2:jl xs (J<|(j:Int)+1) C=xs.drop (j+1):=by rw[show((j:Int)+1)=((j+1:Nat):Int) from rfl];exact Fb xs<|j+1
 have LC:∀n,ek n [.aD<|xs.take j,.aD [fA]]=J (.aD<|xs.take j++[fA],.ag):=λn=>by rw[vx,Y2];rw[jU,pM];lia
 have LD:∀n,ek n [.aD<|xs.take j++[fA],.aD<|xs.drop<|j+1]=J (.aD<|xs.take j++[fA]++xs.drop (j+1),.ag):=λn=>by rw[vx,Y2];rw[gr,jU,pM,gc];lia
 refine⟨.aD<|xs.take j++[fA]++xs.drop (j+1),n',?_,?_,(eA<|kP dE),by lia⟩
 ·have hi:∀n,dS .tuple n [.aD xs]=J Zk:=λn=>rfl;have hn:0<=bh:=by decide
  have cq:1<=bh:=by decide
  have ne:=LB aF;rw[JO]at ne;unfold iG;generalize xs[j]=xj at*;generalize xs.take j++[fA]++xs.drop (j+1)=u3 at*;generalize xs.take j++[fA]=f9 at*;generalize xs.take j=fX at*;generalize xs.drop (j+1)=u4 at*;unfold lY lM lN;simp![az,hi,cw,hn,cq,ne,rn,dZ,aU,g7,au,s1,mA,g,a6,pn,s2,LC,LD]
 ·refine tJ ?_ λx h=>?_
  ·rw[gr,gr,jU,pM,gc];lia
  ·have up:∀x∈xs,eb (9*W) (k+1) x=Y0:=λx h=>vS (t2 _ Z0) k (k+1) x (gd _ _)<|av x h;rcases hR.mp h with h|h
   ·rcases hR.mp h with h|h
    ·exact up x<|tU h
    ·rw[oy.mp h];exact cN
   ·exact up x<|we h
def Vw(ns:List Int)(fp:cY):Good ns (c0 5<|iG fp) 0:=by
 intro W x n jC vU aP bz;obtain⟨r,jx,bA,az⟩:=qG ns n 8 Z0<|kP bz;refine FL ns fp jC (bz) r az<|.inl ?_
 exists x<;>first|rfl|(exists aP;done)
def ajz(ns:List Int)(fp:cY){k:Nat}(aW:k+1<=6)(iR:Good ns fp k):Good ns (c0 5<|iG fp)<|k+1:=by
 intro W x n jC vU aP bz;obtain⟨r,jx,bA,az⟩:=qG ns n 8 Z0<|qT bz;have aF:d0 6 x=Y0:=Tv 6 x<|vS (cg W) (k+1) 6 x aW aP;have weak:∀{m:Nat},(∃fA n',c0 5 (iG fp) [ZQ,(.dq,Y0),(x,Y0)] n=J (fA,Y1,n')/\eb (9*W) (k+1+1) fA=Y0/\n<=n'/\n'<=n+2) ->
   ∃fA n',c0 5 (iG fp) [ZQ,(.dq,Y0),(x,Y0)] n=J (fA,Y1,n')/\eb (9*W) (k+1+1) fA=Y0/\n<=n'/\n'<=n+2*(k+1+1):=λ{m} ⟨fA,n',af,ak,bc,cL⟩=>⟨fA,n',af,ak,bc,by lia⟩
 cases x with
 |aD xs =>
  by_cases af:r=1
  ·subst af;exact weak (m:=0)<|am9 ns fp jC vU aP aF Z3 az
  ·cases av:xs.isEmpty with
   |true=>exact weak (m:=0)<|FL ns fp jC Z3 r az<|.inr ⟨xs,rfl,aF,.inl<|List.isEmpty_iff.mp av,af⟩
   |false =>
    by_cases ak:1<r
    ·exact ahD ns fp iR jC vU aP aF av (bz) r ak az
    ·exact weak (m:=0)<|FL ns fp jC Z3 r az<|.inr ⟨xs,rfl,aF,.inr ak,af⟩
 |bk _=>exists aP
 |dq=>exists aP
 |bJ _=>exists aP
 |_=>exact weak (m:=0)<|FL ns fp jC Z3 r az<|.inl rfl
def Bs(ns:List Int):∀k,k<=4->Good ns pA k:=by
 have af:∀k,k<=0->Good ns Ft k:=λk aW=>by
  obtain rfl:k=0:=(h9 aW<|gH _)
  rw[ahx];exact Vw ns _
 have FO:∀(j:Nat) (f g:cY),j<=4->g=c0 5 (iG f)->(∀k,k<=j->Good ns f k)->∀k,k<=j+1->Good ns g k:=λj f g bU e h k aW=>by
  rw[e];cases k with
  |zero=>exact Vw ns f
  |succ k=>exact ajz ns f Z3<|h k<|ki aW
 have ak:=FO 0 _ _ Z0 ahy af;have bc:=FO 1 _ _ Z0 ahz ak;have cL:=FO 2 _ _ Z0 ahA bc;exact FO 3 _ _ Z0 ahB cL
def gS(lo hi:Int):T->Bool
 |.int i=>decide (lo<=i)&&decide (i<=hi)
 |_=>Y1
def whole(h:rO t=Y0)(lo hi:Int)(n:Nat):x4 [Z4,(.int lo,Y0),(.int hi,Y0)] n=J (.aC<|gS lo hi t,Y1,n):=by
 cases t with
 |int i =>
  have az:xf (bK<|aH (dS .bool) ZE) [J (.int i,.ag),J (.int lo,.ag),J (.int hi,.ag)] n=J (.aC Y0,.ag,n):=rfl;have au:gx fL fL (ai 1) (ai 0) (ai 2) [J (.int i,.ag),J (.int lo,.ag),J (.int hi,.ag)] n=J (.aC<|decide (lo<=i)&&decide (i<=hi),.ag,n):=by
   by_cases a:lo<=i
   ·by_cases b:i<=hi<;>simp![gx,fL,dZ,a,b]
   ·simp![gx,fL,dZ,a]
  unfold x4 Ti gS;generalize gx fL fL (ai 1) (ai 0) (ai 2)=CH at*;generalize xf (bK<|aH (dS .bool) ZE)=NV at*;simp![dS,j9,az,au]
 |aC b=>exists b<;>rfl
 |br=>rfl
 |str x=>rfl
 |aD xs=>rfl
 |ao xs=>rfl
 |_=>exists h
def ajA(t:T):gS 0 30 t=lB t:=by
 exists t<;>first|rfl|simp[gS,lB]
def bools(g:T->Bool)(l:List T):hQ (l.map λt=>T.aC<|g t)=J (l.map g):=by
 induction l with
 |nil=>rfl
 |cons x r a4=>simp[hQ,a4]
def vv(g:T->Bool)(l:List T)(n:Nat):jk n [.ao (l.map λt=>T.aC<|g t)]=J (.aC<|l.all g,.ag):=by simp only[jk,bools,kj,pR];rfl
def LF{W k:Nat}{t:T}(h:eb W k t=Y0)(n:Nat):vR [Z4] n=J (.aC<|gq t,Y1,n):=by
 cases t with
 |aD xs =>
  cases k with
  |zero=>exists h
  |succ k =>
   obtain⟨_,av⟩:=rN h;unfold vR Tn;by_cases aB:1<=xs.H/\xs.H<=8
   ·have fc:(1:Int)<=xs.H:=by lia
    have fP:(xs.H:Int)<=8:=by lia
    have de:bh=1000000:=rfl;have au:Tj [J (.aD xs,.ag)] n=J (.ao (xs.map λt=>T.aC<|lB t),.aE,n) :=
     ik xs id (λt=>.aC<|lB t) (by rw[r9];rfl) Z3 λy aK=>by simp![ck,whole<|vT<|av y aK,ajA]
    have bX:=vv lB xs n;have mu:∀d:bw,dO 0 d [J (.aD xs,.ag)] n=d [J (.aD xs,.ag)] n:=λ_=>rfl;cases ba:xs.all lB with
    |false =>
     rw[ba]at bX;simp only[gq,ba,wx,sf];generalize xs.map (λt=>T.aC<|lB t)=bs at*;generalize dO 0=FF at*;simp![mu,dS,j9,kz,iF,jM,kA,gx,fL,dZ,g7,fc,fP,au,bX]
    |true =>
     rw[ba]at bX;obtain⟨l,rfl,aU⟩:=FK ba;have es:xg n [aG l]=J (.ao<|(sortI l).map T.int,.aE):=by show(e3<|l.map T.int).map _=_;rw[n6];rfl
     have qb:nV n [aG l]=J (.ao<|l.map T.int,.aE):=rfl;have eq:=Lz l (sortI l) n;have up:decide (l=sortI l)=ob (l.map T.int):=by rw[Hc,decide_eq_true_iff,Br];exact⟨λe=>by rw[e];exact rp l,λp=>zX (.refl _) p⟩
     rw[up]at eq;have cq:gq (.aD<|l.map T.int)=ob (l.map T.int):=by simp only[gq,ba,aB,and_self,decide_true,yJ]
     rw[cq];have p6:dS .tuple n [aG l]=J Zk:=rfl;have q8:fe n [aG l]=J (.int (l.map T.int).H,.ag):=rfl;show(c0 1 _) [(aG l,Y0)] n=_;generalize (l.map T.int).map (λt=>T.aC<|lB t)=bs at*;generalize (sortI l).map T.int=cX at*;generalize ob (l.map T.int)=uu at*;generalize ((l.map T.int).H:Int)=LL at*;generalize dO 0=FF at*;unfold aG at*;generalize l.map T.int=zp at*;simp![mu,p6,gx,fL,dZ,q8,fc,fP,au,bX,qb,es,eq]
   ·have e:gq (.aD xs)=Y1:=by simp only[gq,aB,decide_false,sf]
    rw[e];by_cases af:1<=xs.H
    ·have fc:(1:Int)<=xs.H:=by lia
     have fP:¬ (xs.H:Int)<=8:=by lia
     simp![dO,dS,j9,kz,iF,jM,kA,gx,fL,dZ,g7,fc,fP]
    ·have fc:¬ (1:Int)<=xs.H:=by lia
     simp![dO,dS,j9,kz,iF,jM,kA,gx,fL,dZ,g7,fc]
 |bk _=>exists k<;>exists h
 |dq=>exists k<;>exists h
 |bJ _=>exists k<;>exists h
 |_=>rfl
def number(h:rO t=Y0)(lo hi:Int)(n:Nat):lu [Z4,(.int lo,Y0),(.int hi,Y0)] n=J (.aC<|gS lo hi t,Y1,n):=by
 cases t with
 |int i =>
  by_cases c:lo<=i/\i<=hi
  ·rw[xY i lo hi n c.1 c.2];simp[gS,c]
  ·rw[So i lo hi n c];simp only[gS,<-Bool.decide_and,c,decide_false]
 |aC b=>exists b<;>rfl
 |br=>rfl
 |str x=>rfl
 |aD xs=>rfl
 |ao xs=>rfl
 |_=>exists h
def kJ:T->Bool
 |.aD [a,b]=>gS 0 120 a&&gS 1 4096 b
 |_=>Y1
def Vx{k:Nat}(h:k≠2)(n:Nat):gp n [.int (k:Nat),.int 2]=J Zk:=by rw[xS];show J (T.aC<|!decide ((k:Int)=2),bo.ag)=_;rw[decide_eq_false Z3];rfl
def Vy(h:xs.H≠2):kJ (.aD xs)=Y1:=by
 match xs with
 |[]=>rfl
 |[_]=>rfl
 |[_,_]=>exact absurd rfl h
 |_::_::_::_=>rfl
def alk{W k:Nat}(h:eb W k x=Y0)(n:Nat):vy [(x,Y0)] n=J (.aC<|kJ x,Y1,n):=by
 cases x with
 |aD xs =>
  cases k with
  |zero=>exists h
  |succ k =>
   obtain⟨_,av⟩:=rN h;by_cases aB:xs.H=2
   ·match xs,aB with
    |[a,b],_ =>
     have ba:=number (vT<|av a Z7) 0 120 n;have aq:=number (vT<|av b Z7) 1 4096 n;have fk:dv n [.aD [a,b],.int 0]=J (a,.ag):=rfl;have g1:dv n [.aD [a,b],.int 1]=J (b,.ag):=rfl;have ne:gp n [.int 2,.int 2]=J (.aC Y1,.ag):=rfl;have ln:fe n [.aD [a,b]]=J (.int 2,.ag):=rfl;have ty:dS .tuple n [.aD [a,b]]=J Zk:=rfl;rw[show kJ (.aD [a,b])=(gS 0 120 a&&gS 1 4096 b) from rfl];unfold vy EO;generalize T.aD [a,b]=tt at*;generalize gS 0 120 a=u at*;generalize gS 1 4096 b=v at *
     exists u<;>simp![ty,ln,ne,fk,g1,ba,aq]
   ·have ne:=Vx aB n;rw[Vy aB];unfold vy EO;simp![dS,iF,g7,ne]
 |bk _=>exists k<;>exists h
 |dq=>exists k<;>exists h
 |bJ _=>exists k<;>exists h
 |_=>rfl
def alm{W k:Nat}{x:T}(h:eb W k x=Y0)(x0:Option ZJ)(n:Nat):Bm [x0,J (x,.ag)] n=J ((if kJ x then .bD else .aV (.aC Y1) Y1),[x0,J (x,.ag)],n):=by
 cases x with
 |aD xs =>
  cases k with
  |zero=>exists h
  |succ k =>
   obtain⟨_,av⟩:=rN h;by_cases aB:xs.H=2
   ·match xs,aB with
    |[a,b],_ =>
     have ba:=whole (vT<|av a Z7) 0 120 n;have aq:=whole (vT<|av b Z7) 1 4096 n;have fk:dv n [.aD [a,b],.int 0]=J (a,.ag):=rfl;have g1:dv n [.aD [a,b],.int 1]=J (b,.ag):=rfl;have ne:gp n [.int 2,.int 2]=J (.aC Y1,.ag):=rfl;have ln:fe n [.aD [a,b]]=J (.int 2,.ag):=rfl;have ty:dS .tuple n [.aD [a,b]]=J Zk:=rfl;rw[show kJ (.aD [a,b])=(gS 0 120 a&&gS 1 4096 b) from rfl];unfold Bm;generalize T.aD [a,b]=tt at*;generalize gS 0 120 a=u at*;generalize gS 1 4096 b=v at *
     exists u<;>exists v<;>simp![ty,ln,ne,fk,g1,ba,aq]
   ·have ne:=Vx aB n;rw[Vy aB];unfold Bm;simp![dS,iF,g7,ne]
 |bk _=>exists k<;>exists h
 |dq=>exists k<;>exists h
 |bJ _=>exists k<;>exists h
 |_=>rfl
theorem Tx{W k:Nat}(x0:Option ZJ)(n:Nat):∀(xs:List T) (bH:Option ZJ),(∀x∈xs,eb W k x=Y0) ->
  ∃vV,fG (cB 1) Bm xs [x0,bH] n=J ((if xs.all kJ then .bD else .aV (.aC Y1) Y1),[x0,vV],n)
 |[],bH,_=>⟨bH,rfl⟩
 |x::xs,bH,h=>by
  have body:=alm (h x<|dT ..) x0 n;cases bz:kJ x with
  |true =>
   rw[bz]at body;obtain⟨vV,az⟩:=Tx x0 n xs (J (x,.ag)) λy aK=>h y<|am _ aK;refine⟨vV,?_⟩;unfold fG;simp only[bj.bO.cB,kN,kO,eO,body,if_true];rw[az,jV,bz,yJ]
  |false =>
   rw[bz]at body;refine⟨J (x,.ag),?_⟩;unfold fG;simp only[bj.bO.cB,kN,kO,eO,body,jV,bz,sf];rfl
theorem FP:∀{xs:List T},xs.all kJ=Y0->∃L:List Z6,xs=e2 L/\∀q∈L,0<=q.1/\q.1<=120/\1<=q.2/\q.2<=4096
 |[],_=>⟨[],rfl,λ_ h=>by exists h⟩
 |x::xs,h=>by
  rw[jV,f5]at h;obtain⟨L,rfl,el⟩:=FP h.2;have inv:∀{t:T} {lo hi:Int},gS lo hi t=Y0->∃i,t=.int i/\lo<=i/\i<=hi:=λ{t lo hi} e=>by
   cases t with
   |int i=>exact⟨i,rfl,by simpa[gS]using e⟩
   |_=>exists e
  match x,h.1 with
  |.aD [a,b],e =>
   have e:(gS 0 120 a&&gS 1 4096 b)=Y0:=e;rw[f5]at e;obtain⟨i,rfl,jc⟩:=inv e.1;obtain⟨j,rfl,nO⟩:=inv e.2
   exact⟨(i,j)::L,rfl,λq a7=>by
    rcases d4.mp a7 with rfl|a7
    ·exact⟨jc.1,jc.2,nO.1,nO.2⟩
    ·exact el q a7⟩
def aln(aP:List Int):decide (aP=sortI (hZ aP))=(List.zip aP<|aP.drop 1).all λp=>decide (p.1<p.2):=by
 have up:∀l:List Int,((List.zip l<|l.drop 1).all λp=>decide (p.1<p.2))=Y0↔l.Pairwise (·<·):=by
  intro l
  induction l with
  |nil=>simp
  |cons a l a4 =>
   cases l with
   |nil=>simp
   |cons b l =>
    have a4:((List.zip (b::l) l).all λp=>decide (p.1<p.2))=Y0↔(b::l).Pairwise (·<·):=a4;show((List.zip (a::b::l)<|b::l).all λp=>decide (p.1<p.2))=Y0↔_;rw[ML,jV,f5,a4,decide_eq_true_iff,show(a::b::l).Pairwise (·<·)↔(∀x∈b::l,a<x)/\(b::l).Pairwise (·<·) from jT];constructor
    ·rintro⟨h,p⟩;refine⟨λx av=>?_,p⟩;rcases d4.mp av with rfl|av
     ·exact h
     ·exact Int.lt_trans h<|(jT.mp p).1 x av
    ·rintro⟨h,p⟩;exact⟨h b<|dT ..,p⟩
 rw[Hc,decide_eq_true_iff,up];constructor
 ·intro e;have bW:aP.Nodup:=by rw[e];exact(sortI_perm _).nodup_iff.mpr (AJ _)
  have w3:aP.Pairwise (·<=·):=by rw[e];exact rp _
  exact(w3.and bW).imp λh=>by lia
 ·intro p;have bW:aP.Nodup:=p.imp λh=>(yL h)
  exact zX ((Mw bW<|AJ aP).mpr λx=>(Er x aP).symm) (p.imp λh=>(kQ h))
def Bt:List T->List Int
 |.aD [.int a,_]::r=>a::Bt r
 |_=>[]
theorem FQ:∀L:List Z6,Bt (e2 L)=L.map (·.1)
 |[]=>rfl
 |q::L=>by show q.1::Bt (e2 L)=_;rw[FQ L];rfl
def x6(xs:List T):Bool:=decide (Bt xs=sortI (hZ<|Bt xs))
def yl(xs:List T):Bool:=!xs.isEmpty&&(xs.all kJ&&x6 xs)
theorem zip_rows:∀p q:List Z6,List.zipWith (λx y=>T.aD [x,y]) (e2 p) (e2 q)=(List.zip p q).map λy=>T.aD [.aD [.int y.1.1,.int y.1.2],.aD [.int y.2.1,.int y.2.2]]
 |[],_=>rfl
 |_::_,[]=>rfl
 |x::p,y::q=>by have:=zip_rows p q;simp only[e2,cU,List.zipWith_cons_cons,ML]at this |-;rw[this]
def afh{W k:Nat}(h:∀x∈xs,eb W k x=Y0)(aB:xs.H<=60)(n:Nat):kC [(.ao xs,Y0)] n=J (.aC<|yl xs,Y1,n):=by
 have de:bh=1000000:=rfl;cases xs with
 |nil=>rfl
 |cons x0 afi =>
  generalize av:x0::afi=xs at*;have ne:xs.isEmpty=Y1:=by rw[<-av];rfl
  have au:EP [J (.ao xs,.ag),C] n=J (.ao (xs.map λt=>T.aC<|kJ t),.aE,n) :=
   ik xs id (λt=>.aC<|kJ t) (by rw[r9];rfl) Z3 λy aK=>by have e:=alk (h y aK) n;simp![ck,e]
  have bX:=vv kJ xs n;have mu:∀d:bw,dO 0 d [J (.ao xs,.ag),C] n=d [J (.ao xs,.ag),C] n:=λ_=>rfl;have ty:dS .list n [.ao xs]=J Zk:=rfl;unfold kC Ky yl;rw[ne];cases ba:xs.all kJ with
  |false =>
   rw[ba]at bX;generalize xs.map (λt=>T.aC<|kJ t)=bs at*;generalize dO 0=FF at*;simp![mu,ty,ne,au,bX]
  |true =>
   rw[ba]at bX;obtain⟨L,rfl,el⟩:=FP ba;have zp:(e2 L).H=L.H:=cP ..;have b6:A1 [J (.ao<|e2 L,.ag),C] n=J (.ao<|(L.map (·.1)).map T.int,.aE,n):=by rw[ci];refine ik L (λp=>.aD [.int p.1,.int p.2]) (T.int∘(·.1)) rfl Z3 λq a7=>?_;simp![ck,mA,gF]
   have lS:DH n [.ao<|(L.map (·.1)).map T.int]=J (.ao<|(sortI<|hZ<|L.map (·.1)).map T.int,.aE):=by
    have e:rq n [.ao<|(L.map (·.1)).map T.int]=J (L.map (·.1)):=by show(e3 _).bind _=_;rw[n6,eO,Y2<|by rw[cP];lia]
    show(rq n _).map _=_;rw[e];rfl
   have eq:=Lz (L.map (·.1)) (sortI<|hZ<|L.map (·.1)) n;unfold x6;rw[FQ];generalize decide (L.map (·.1)=sortI (hZ<|L.map (·.1)))=res at*;generalize (sortI<|hZ<|L.map (·.1)).map T.int=ss at*;generalize (L.map (·.1)).map T.int=bp at*;generalize (e2 L).map (λt=>T.aC<|kJ t)=bs at*;generalize e2 L=cQ at*;generalize dO 0=FF at*;generalize A1=HW at*;simp![mu,ty,ne,au,bX,b6,lS,eq]
def afj{W k:Nat}{xs:List T}(h:∀x∈xs,eb W k x=Y0)(aW:k<=4)(aB:xs.H<=60)(n:Nat):Bn [(.ao xs,Y0)] n=J (.aC<|yl xs,Y1,n):=by
 have de:bh=1000000:=rfl;have hn:0<=bh:=by decide
 have gD:d0 6 (.ao xs)=Y0:=by show xs.all (d0 5)=Y0;rw[iM];exact λx av=>Tv 5 x<|vS (cg W) k 5 x (MZ aW)<|h x av
 have eq:gn n [.ao xs,.ao []]=J (.aC xs.isEmpty,.ag):=by
  rw[xR];show(if(d0 6 (.ao xs)&&d0 6 (.ao []))=Y0 then J (iL xs []) else C).map _=_;rw[gD]
  exists xs<;>rfl
 have ty:dS .list n [.ao xs]=J Zk:=rfl;unfold Bn To yl;cases he:xs.isEmpty with
 |true =>
  rw[he]at eq;simp![ty,dG,hn,eq]
 |false =>
  rw[he]at eq;obtain⟨vV,jf⟩:=Tx (J (.ao xs,.ag)) n xs C h;have jf:fD 0 Fs [J (.ao xs,.ag),C] n=J ((if xs.all kJ then .bD else .aV (.aC Y1) Y1),[J (.ao xs,.ag),vV],n):=jf;cases ba:xs.all kJ with
  |false =>
   rw[ba]at jf;generalize fD 0 Fs=LL at*;simp![ty,dG,hn,eq,jf]
  |true =>
   rw[ba]at jf;obtain⟨L,rfl,el⟩:=FP ba;have zp:(e2 L).H=L.H:=cP ..;have hv:Ll [J (.ao<|e2 L,.ag),vV] n=J (.ao<|((List.zip L<|L.drop 1).map λp=>decide (p.1.1<p.2.1)).map T.aC,.aE,n):=by
    have:=amA (it:=EE (ai 0)<|lY (ai 0) (lN Z5) lM) (l:=[C,J 0,C]) (i:=2) (j:=0) (c:=yes) (e:=aH eF<|aa (aH dv<|aa (ai 2) ZU)<|aa (aH dv<|aa (ai 0) ZU) ar) (S:=[J (.ao<|e2 L,.ag),vV]) (n:=n)
     (List.zip L<|L.drop 1) (λy=>.aD [.int y.1.1,.int y.1.2]) (λy=>.aD [.int y.2.1,.int y.2.2]) (λ_=>Y0) (λy=>.aC<|decide (y.1.1<y.2.1)) Z0 (by
      rw[<-zip_rows];have s1:jl (e2 L) (J 1) C=e2 (L.drop 1):=(Fb (e2 L) 1).trans (by unfold e2;rw[List.map_drop]);generalize e2 (L.drop 1)=fX at*;generalize e2 L=pp at*;unfold EE lY lM lN
      simp![s1]) (by rw[List.length_zip,gc];lia) (λy aK=>⟨rfl,λ_=>by
       simp![ck,mA,gF,eF,dZ]⟩)
    rw[yq.mpr λ_ _=>rfl]at this;rw[ci];exact this
   have all:jk n [.ao<|((List.zip L<|L.drop 1).map λp=>decide (p.1.1<p.2.1)).map T.aC]=J (.aC<|x6<|e2 L,.ag):=by
    have hE:∀bs:List Bool,hQ (bs.map T.aC)=J bs:=λbs=>by
     induction bs with
     |nil=>rfl
     |cons x r a4=>simp[hQ,a4]
    rw[xT,hE,kj,pR];unfold x6;rw[FQ,aln];have:∀p q:List Z6,(List.zip p q).all (id∘λp=>decide (p.1.1<p.2.1))=(List.zip (p.map (·.1))<|q.map (·.1)).all λp=>decide (p.1<p.2):=λp q=>by rw[List.zip_map,pR];rfl
    rw[this,List.map_drop]
   generalize x6 (e2 L)=res at*;generalize ((List.zip L<|L.drop 1).map λp=>decide (p.1.1<p.2.1)).map T.aC=bs at*;generalize fD 0 Fs=LL at*;generalize e2 L=cQ at*;generalize Ll=C0 at*;simp![ty,dG,hn,eq,jf,hv,all]
def ey(c:Nat):T:=.aD [.str "refused",.int c]
def g9{n:Nat}{r:Nat×Nat}(h:cM S n=J r):dy cM a jy S n=J r:=by unfold dy;rw[h]
def kE{n:Nat}(h0:cM S n=C)(af:a S n=J (.bD,S,n)):dy cM a jy S n=jy S n:=by unfold dy;rw[h0,af];rfl
def x7{n n':Nat}{b:Bool}(h0:cM S n=C)(af:a S n=J (.aV v b,S',n')):dy cM a jy S n=C:=by unfold dy;rw[h0,af];rfl
abbrev Q(g w:Int)(a b c:T):bE:=[J (.int g,.ag),J (.int w,.ag),J (a,.ag),J (b,.ag),J (c,.ag),C]
def LG{g w:Int}{n k:Nat}(h:L9 (Q g w a b c) n=J (k,n))(aW:k=0\/k=1\/k=2\/k=3):gQ [(.int g,Y0),(.int w,Y0),(a,Y0),(b,Y0),(c,Y0)] n=J (ey k,Y1,n):=by
 show Option.bind (vQ (Q g w a b c) n) _=_;have:vQ (Q g w a b c) n=J (.aV (ey k) Y1,Q g w a b c,n):=by unfold vQ z0;rw[h];rcases aW with rfl|rfl|rfl|rfl<;>rfl
 rw[this];rfl
def LH{g w:Int}{n:Nat}(h0:L9 (Q g w a b c) n=C)(h:BD (Q g w a b c) n=J (.aV v Y1,Q g w a b c,n)):gQ [(.int g,Y0),(.int w,Y0),(a,Y0),(b,Y0),(c,Y0)] n=J (v,Y1,n):=by
 show Option.bind (vQ (Q g w a b c) n) _=_;have:vQ (Q g w a b c) n=J (.aV v Y1,Q g w a b c,n):=by unfold vQ z0;rw[h0];exact h
 rw[this];rfl
def LI(n:Nat)(v:T):oh n [v]=J (.aC<|nU v,.ag):=rfl
def Told(f:cY)(b0:e8)(aA:List<|T×Bool)(n:Nat):Prop:=∃v b,f aA n=J (v,b,n)/\b0 aA n=C
def Tz{w:Int}{n k:Nat}(h:rM [(.int w,Y0),(a,Y0),(b,Y0)] n=J (k,n))(aW:k=0\/k=1\/k=2\/k=3):gQ [(.int 0,Y0),(.int w,Y0),(a,Y0),(b,Y0),(c,Y0)] n=J (ey k,Y1,n) :=
 LG (g9 (show vO (Q 0 w a b c) n=J (k,n) from h)) aW
def TA{w:Int}{n k:Nat}(h:tG [(.int w,Y0),(a,Y0),(b,Y0)] n=J (k,n))(aW:k=0\/k=1\/k=2\/k=3):gQ [(.int 1,Y0),(.int w,Y0),(a,Y0),(b,Y0),(c,Y0)] n=J (ey k,Y1,n) :=
 LG ((kE (show vO (Q 1 w a b c) n=C from rfl) (show qI (Q 1 w a b c) n=J (.bD,Q 1 w a b c,n) from rfl)).trans (g9 (show Bl (Q 1 w a b c) n=J (k,n) from h))) aW
def LJ{w:Int}{n k:Nat}(h:tH [(.int w,Y0),(a,Y0),(b,Y0),(c,Y0)] n=J (k,n))(aW:k=0\/k=1\/k=2\/k=3):gQ [(.int 2,Y0),(.int w,Y0),(a,Y0),(b,Y0),(c,Y0)] n=J (ey k,Y1,n) :=
 LG ((kE (show vO (Q 2 w a b c) n=C from rfl) (show qI (Q 2 w a b c) n=J (.bD,Q 2 w a b c,n) from rfl)).trans ((kE (show Bl (Q 2 w a b c) n=C from rfl) (show vP (Q 2 w a b c) n=J (.bD,Q 2 w a b c,n) from rfl)).trans (show Lk (Q 2 w a b c) n=J (k,n) from h))) aW
def alo{w:Int}{n:Nat}(h:Told x2 rM [(.int w,Y0),(a,Y0),(b,Y0)] n):∃v,gQ [(.int 0,Y0),(.int w,Y0),(a,Y0),(b,Y0),(c,Y0)] n=J (.aD [.str "told",.aC v],Y1,n):=by
 obtain⟨v,o,az,au⟩:=h;have cE:2<=bh:=by decide
 have q:(0:Int)==0:=rfl;have r:qI (Q 0 w a b c) n=J (.aV (.aD [.str "told",.aC<|nU v]) Y1,Q 0 w a b c,n):=by
  unfold qI
  exists o<;>simp![n7,az,eP,LI,cw,cE]
 refine⟨nU v,LH (x7 (show vO (Q 0 w a b c) n=C from au) r) ?_⟩;unfold BD;rw[pl,r];rfl
def alp{w:Int}{n:Nat}(h:Told Bk tG [(.int w,Y0),(a,Y0),(b,Y0)] n):∃v,gQ [(.int 1,Y0),(.int w,Y0),(a,Y0),(b,Y0),(c,Y0)] n=J (.aD [.str "told",.aC v],Y1,n):=by
 obtain⟨v,o,az,au⟩:=h;have cE:2<=bh:=by decide
 have r:vP (Q 1 w a b c) n=J (.aV (.aD [.str "told",.aC<|nU v]) Y1,Q 1 w a b c,n):=by
  unfold vP
  exists o<;>simp![n7,az,eP,LI,cw,cE]
 refine⟨nU v,LH ((kE (show vO (Q 1 w a b c) n=C from rfl) (show qI (Q 1 w a b c) n=J (.bD,Q 1 w a b c,n) from rfl)).trans (x7 (show Bl (Q 1 w a b c) n=C from au) r)) ?_⟩;unfold BD;rw[pl,show qI (Q 1 w a b c) n=J (.bD,Q 1 w a b c,n) from rfl,AZ,pl,r];rfl
def alq{w:Int}{n:Nat}(h:Told Fq tH [(.int w,Y0),(a,Y0),(b,Y0),(c,Y0)] n):∃v,gQ [(.int 2,Y0),(.int w,Y0),(a,Y0),(b,Y0),(c,Y0)] n=J (.aD [.str "told",.aC v],Y1,n):=by
 obtain⟨v,o,az,au⟩:=h;have cE:2<=bh:=by decide
 have r:Lj (Q 2 w a b c) n=J (.aV (.aD [.str "told",.aC<|nU v]) Y1,Q 2 w a b c,n):=by
  unfold Lj
  exists o<;>simp![az,eP,LI,cw,cE]
 refine⟨nU v,LH ((kE (show vO (Q 2 w a b c) n=C from rfl) (show qI (Q 2 w a b c) n=J (.bD,Q 2 w a b c,n) from rfl)).trans ((kE (show Bl (Q 2 w a b c) n=C from rfl) (show vP (Q 2 w a b c) n=J (.bD,Q 2 w a b c,n) from rfl)).trans (show Lk (Q 2 w a b c) n=C from au))) ?_⟩;unfold BD;rw[pl,show qI (Q 2 w a b c) n=J (.bD,Q 2 w a b c,n) from rfl,AZ,pl,show vP (Q 2 w a b c) n=J (.bD,Q 2 w a b c,n) from rfl,AZ];exact r
abbrev Ip:dm:=d1 1 h3 Z8
abbrev Om:bw:=eT<|bB 1 g8 Z8
def rP{n m:Nat}(h:h3 [Z4] n=J (1,n))(a:bw)(r:dm)(l:List<|T×Bool):fnX m (dy Ip a r) (Z4::l) n=J (1,n):=g9 h
def FR{n m:Nat}(h:h3 [Z4] n=C)(e:g8 [Z4] n=J Zd)(r:dm)(l:List<|T×Bool):fnX m (dy Ip Om r) (Z4::l) n=fnX m r (Z4::l) n:=kE h (by
 show eT (bB 1 g8 Z8) (J (t,.ag)::_) n=J (.bD,J (t,.ag)::_,n)
 simp![e])
noncomputable abbrev ea(w:Int)(t o:T):bE:=[J (.int w,.ag),J (t,.ag),J (o,.ag)]
def Mq{w:Int}{n:Nat}(h:¬w<5):dy w5 ko (dy nQ bt uP) (ea w t o) n=dy nQ bt uP (ea w t o) n:=by
 have c:bK (aH eF<|aa (ai 0)<|aa (aw<|.int 5) ar) (ea w t o) n=J (Y1,n):=by simp![eF,dZ,h]
 exact kE (by unfold w5 fH;rw[c];rfl) (by unfold ko eG;rw[c];rfl)
def UH{w:Int}{n:Nat}(h:¬w<9):dy nQ bt uP (ea w t o) n=uP (ea w t o) n:=by
 have c:bK (aH eF<|aa (ai 0)<|aa (aw<|.int 9) ar) (ea w t o) n=J (Y1,n):=by simp![eF,dZ,h]
 exact kE (by unfold nQ fH;rw[c];rfl) (by unfold bt eG;rw[c];rfl)
def rX:T:=.aD [.aD [.int 1]]
def UI(S:bE)(n:Nat):cw (aa (aY<|cw<|aa (aY Z5) ar) ar) S n=J (rX,.ag,n):=rfl
def TB{w:Int}{n:Nat}(h:¬w<5)(w9:w<7):nQ (ea w t o) n=ET [Z4,(rX,Y0)] n:=by
 have ri:w<9:=(nA (kQ w9) Z0)
 have c:bK (aH eF<|aa (ai 0)<|aa (aw<|.int 9) ar) (ea w t o) n=J (Y0,n):=by simp![eF,dZ,ri]
 have o1:bK (aH eF<|aa (ai 0)<|aa (aw<|.int 7) ar) (ea w t o) n=J (Y0,n):=by simp![eF,dZ,w9]
 have e:ax (ai 1) (ax (cw<|aa (aY<|cw<|aa (aY Z5) ar) ar) a9) (ea w t o) n=J ([Z4,(rX,Y0)],n):=by have a:=UI;have f:flag .ag rX=Y0:=rfl;generalize cw (aa (aY<|cw<|aa (aY Z5) ar) ar)=AA at*;generalize rX=u at*;simp![a,f]
 unfold nQ fH;rw[c,eO,Y2 rfl,o1,eO,Y2 rfl];unfold d1;rw[e];rfl
def TC{w:Int}{n:Nat}(h:¬w<7)(ri:w<9):nQ (ea w t o) n=KS [Z4,(.br,Y0)] n:=by
 have c:bK (aH eF<|aa (ai 0)<|aa (aw<|.int 9) ar) (ea w t o) n=J (Y0,n):=by simp![eF,dZ,ri]
 have o1:bK (aH eF<|aa (ai 0)<|aa (aw<|.int 7) ar) (ea w t o) n=J (Y1,n):=by simp![eF,dZ,h]
 unfold nQ fH;rw[c,eO,Y2 rfl,o1];rfl
def ana{n:Nat}(h:h3 [Z4] n=J (1,n)):∀w:Nat,w<11->rM [ZX,Z4,ZM] n=J (1,n):=λw hw=>by
 show dy w5 ko (dy nQ bt uP) (ea (w:Nat) t o) n=_;by_cases eh:w<5
 ·refine g9 ?_
  match w,eh with
  |0,_=>exact(rP h _ _ []:A3 [Z4] n=_)
  |1,_=>exact(rP h _ _ []:A4 [Z4] n=_)
  |2,_=>exact(rP h _ _ []:A7 [Z4] n=_)
  |3,_=>exact(rP h _ _ []:A8 [Z4] n=_)
  |4,_=>exact(rP h _ _ []:Bj [Z4] n=_)
 rw[Mq Z3];by_cases w9:w<7
 ·refine g9<|(TB Z3 Z3).trans ?_;exact(rP h _ _ [(rX,Y0)]:ES [Z4,(rX,Y0)] n=_)
 by_cases ri:w<9
 ·exact g9<|(TC Z3 Z3).trans (rP h _ _ [(.br,Y0)])
 rw[UH Z3];obtain rfl|rfl:w=9\/w=10:=by lia
 ·exact(rP h _ _ [ZM]:ER [Z4,ZM] n=_)
 ·exact(rP h _ _ [ZM]:E0 [Z4,ZM] n=_)
def agF{w:Nat}{n:Nat}{b:Bool}(h:w<5)(aW:u0 [(1,bQ.rE),(1,bQ.vz),(1,bQ.vB),(1,bQ.vC),(1,rL)] (w:Nat)=J (1,f))(e:f [Z4] n=J (v,b,n)):ko (ea (w:Nat) t o) n=J (.aV v b,ea (w:Nat) t o,n):=by
 have zB:(w:Int)<5:=by lia
 unfold ko ye;generalize [(1,bQ.rE),(1,bQ.vz),(1,bQ.vB),(1,bQ.vC),(1,rL)]=FS at *
 exists b<;>simp![eF,dZ,zB,aW,e,eP]
def FT:iq 1 1 [[1]]:=⟨by decide,by decide,λd hd=>by
 rw[oy.mp hd]
 exact⟨by decide,by decide,by decide,by decide⟩⟩
def afk{n:Nat}(bH:h3 [Z4] n=C)(d8:g8 [Z4] n=J Zd)(Iq:h3 [ZS] n=C)(mU:g8 [ZS] n=J Zd):ET [Z4,ZS] n=C :=
 (show ES [Z4,ZS] n=C from(FR bH d8 _ [ZS]).trans (kE Iq (by
  show eT (bB 1 g8 ZR) (J (t,.ag)::J (u,.ag)::_) n=J (.bD,J (t,.ag)::J (u,.ag)::_,n)
  simp![mU])))
def ajB{w:Nat}{cq:Bool}{n:Nat}(b7:rX=u)(eh:5<=w)(w9:w<7)(al:xV [Z4,ZS] n=J (.aC cq,Y1,n))(pa:vA [ZS,Z4] n=J (q,Y1,n))(Ir:ho q=Y1) :
  ∃v,bt (ea (w:Nat) t o) n=J (.aV v Y1,ea (w:Nat) t o,n):=by
 have o1:(w:Int)<7:=by lia
 have Df:(w:Int)<9:=(nA (kQ o1) Z0)
 have cE:2<=bh:=by decide
 have a1:=UI;rw[b7]at a1;have f1:flag .ag u=Y0:=rfl;have sub:kc n [.int (w:Int),.int 5]=J (.int<|(w:Int)-5,.ag):=rfl;have gt:∃v,dv n [.ao [.aC cq,q],.int<|(w:Int)-5]=J (v,.ag):=by
  obtain rfl|rfl:w=5\/w=6:=by lia
  ·exact⟨_,rfl⟩
  ·exact⟨_,rfl⟩
 obtain⟨v,gt⟩:=gt;refine⟨v,?_⟩;unfold bt;generalize cw (aa (aY<|cw<|aa (aY Z5) ar) ar)=AA at*;simp![eF,dZ,Df,o1,a1,f1,al,pa,eP,Ir,dG,cE,sub,gt]
section
variable {M F:Nat}{ds:List ZA}
def afl(D:iq M F ds)(ei:M<=4)(cx:F<=8)(n:Nat):EW [Zc,(.br,Y0)] n=J Zr:=by
 have az:=pw D ei cx n;have au:∀k:Int,KR [(.br,Y0),(.int k,Y0)] n=J Zr:=λ_=>rfl;have a6:fe n [.aD ZB]=J (.int (ds.H:Int),.ag):=by rw[g7,cP]
 unfold EW RF;generalize T.aD ZB=tt at*;simp![az,au,a6]
def afm(D:iq M F ds)(ei:M<=4)(cx:F<=8)(o:T)(n:Nat):∀w:Nat,w<9->Told x2 rM [ZX,Zc,ZM] n:=λw hw=>by
 have bH:h3 [Zc] n=C:=K5<|E6 D ei cx n;have d8:=pw D ei cx n;have X:∀(m:Nat) (l:List (T×Bool)),fnX m (dy Ip Om fR) (Zc::l) n=C:=λm l=>FR bH d8 fR l;have BE:∀{f:cY} {b0:e8} {v:T} {b:Bool},w<5->u0 [(1,bQ.rE),(1,bQ.vz),(1,bQ.vB),(1,bQ.vC),(1,rL)] (w:Nat)=J (1,f)->f [Zc] n=J (v,b,n)->w5 (ea (w:Nat) (.aD ZB) o) n=C->Told x2 rM [ZX,Zc,ZM] n:=λ{f b0 v b} h aW e x=>by have r:=agF (o:=o) h aW e;refine⟨v,b,?_,x7 x r⟩;show Option.bind (bL ko (bL bt dj) (ea (w:Nat) (.aD ZB) o) n) _=_;rw[pl,r];rfl
 by_cases eh:w<5
 ·match w,eh with
  |0,eh =>
   obtain⟨_,_,e⟩:=je.Vo D ei cx n;exact BE (b0:=A3) eh rfl e (X _ []:A3 [(_,Y0)] n=C)
  |1,eh=>exact BE (b0:=A4) eh rfl (UE D ei cx n).1 (X _ []:A4 [(_,Y0)] n=C)
  |2,eh=>exact BE (b0:=A7) eh rfl (ad9 D ei cx n) (X _ []:A7 [(_,Y0)] n=C)
  |3,eh=>exact BE (b0:=A8) eh rfl (Tr.order D ei cx n) (X _ []:A8 [(_,Y0)] n=C)
  |4,eh=>exact BE (b0:=Bj) eh rfl (show rL [(_,Y0)] n=_ from FI.shown D ei cx n) (X _ []:Bj [(_,Y0)] n=C)
 have zB:¬ (w:Int)<5:=by lia
 have Df:(w:Int)<9:=by lia
 have go:∀{v:T},bt (ea (w:Nat) (.aD ZB) o) n=J (.aV v Y1,ea (w:Nat) (.aD ZB) o,n)->nQ (ea (w:Nat) (.aD ZB) o) n=C->Told x2 rM [ZX,Zc,ZM] n:=λ{v} r x=>by
  refine⟨v,Y1,?_,(Mq zB).trans (x7 x r)⟩;show Option.bind (bL ko (bL bt dj) (ea (w:Nat) (.aD ZB) o) n) _=_;have jx:ko (ea (w:Nat) (.aD ZB) o) n=J (.bD,ea (w:Nat) (.aD ZB) o,n):=by
   have c:bK (aH eF<|aa (ai 0)<|aa (aw<|.int 5) ar) (ea (w:Nat) (.aD ZB) o) n=J (Y1,n):=by simp![eF,dZ,zB]
   unfold ko eG;rw[c];rfl
  rw[pl,jx,AZ,pl,r];rfl
 by_cases w9:w<7
 ·have o1:(w:Int)<7:=by lia
  obtain⟨u,b7⟩:∃u,rX=u:=⟨_,rfl⟩
  have fs:u=.aD ([[1]].map aG):=b7.symm;have al:xV [Zc,ZS] n=J (.aC (lz ds [[1]]).isEmpty,Y1,n):=by rw[fs];exact aeo D FT ei cx Z0 Z0 n
  have pa:vA [ZS,Zc] n=J (v7 (lz [[1]] ds).head?,Y1,n):=by rw[fs];exact parted FT D Z0 Z0 ei cx n
  have Iq:h3 [ZS] n=C:=by rw[fs];exact K5<|E6 FT Z0 Z0 n
  have mU:g8 [ZS] n=J Zd:=by rw[fs];exact pw FT Z0 Z0 n
  have Ir:ho (v7 (lz [[1]] ds).head?)=Y1:=by cases (lz [[1]] ds).head?<;>rfl
  obtain⟨v,r⟩:=ajB (o:=o) b7 (hS eh) w9 al pa Ir;exact go r<|(TB zB o1).trans (by rw[b7];exact afk bH d8 Iq mU)
 ·have o1:¬ (w:Int)<7:=by lia
  have e:=afl D ei cx n;refine go (v:=.aC Y1) ?_<|(TC o1 Df).trans (X _ [(.br,Y0)]);unfold bt;generalize T.aD ZB=tt at*;simp![eF,dZ,Df,o1,e,eP]
def anb(D:iq M F ds)(ei:M<=4)(cx:F<=8)(aZ:rO o=Y0)(aM:gS 0 120 o=Y1)(bC:gS 0 999 o=Y1)(n:Nat):∀w:Nat,9<=w->w<11->rM [ZX,Zc,ZM] n=J (3,n):=λw ri hw=>by
 have bH:h3 [Zc] n=C:=K5<|E6 D ei cx n;have d8:=pw D ei cx n;have az:jN [ZM,(.int 0,Y0),(.int 120,Y0)] n=J (3,n):=Bf (by rw[number aZ,aM]) rfl rfl;have au:jN [ZM,(.int 0,Y0),(.int 999,Y0)] n=J (3,n):=Bf (by rw[number aZ,bC]) rfl rfl;show dy w5 ko (dy nQ bt uP) (ea (w:Nat) (.aD ZB) o) n=_;rw[Mq Z3,UH Z3];obtain rfl|rfl:w=9\/w=10:=by lia
 ·exact((FR bH d8 _ [ZM]).trans (g9 az):ER [(_,Y0),ZM] n=_)
 ·exact((FR bH d8 _ [ZM]).trans (g9 au):E0 [(_,Y0),ZM] n=_)
end
abbrev FU(i:Nat):dm:=d1 1 h2<|ax (ai i) a9
abbrev FV(i:Nat):bw:=eT<|bB 1 i1<|ax (ai i) a9
section
variable {t o u:T}{n:Nat}
def afn(e:i1 [Z4] n=J Zd)(l:bE):FV 0 (J (t,.ag)::l) n=J (.bD,J (t,.ag)::l,n):=by simp![e]
def TF(e:i1 [ZS] n=J Zd)(l:bE):FV 1 (J (t,.ag)::J (u,.ag)::l) n=J (.bD,J (t,.ag)::J (u,.ag)::l,n):=by simp![e]
def UJ{m k:Nat}(h:h2 [Z4] n=J (k,n)):fnX m (dy (FU 0) a r) (Z4::ZS::l) n=J (k,n):=g9 h
def x8{m:Nat}(h:h2 [Z4] n=C)(e:i1 [Z4] n=J Zd):fnX m (dy (FU 0) (FV 0) r) (Z4::ZS::l) n=fnX m r (Z4::ZS::l) n:=kE h<|afn e _
def UK{m k:Nat}(h:h2 [ZS] n=J (k,n)):fnX m (dy (FU 1) a r) (Z4::ZS::l) n=J (k,n):=g9 h
def Gv{m:Nat}(h:h2 [ZS] n=C)(e:i1 [ZS] n=J Zd):fnX m (dy (FU 1) (FV 1) r) (Z4::ZS::l) n=fnX m r (Z4::ZS::l) n:=kE h<|TF e _
def oc:T:=.aD [.int 1,.int 2]
def Mr(S:bE):cw ZK S n=J (oc,.ag,n):=rfl
def Vz(b7:oc=u)(w:Int):ax (ai 1) (ax (cw ZK) a9) (ea w t o) n=J ([Z4,ZS],n):=by have a:=Mr (n:=n);rw[b7]at a;generalize cw ZK=AA at*;simp![a]
def VA(b7:oc=u)(w:Int):ax (cw ZK) ZR (ea w t o) n=J ([ZS,Z4],n):=by have a:=Mr (n:=n);rw[b7]at a;generalize cw ZK=AA at*;simp![a]
def x9(h:a S n=J (aA,n)){k:Nat}(aB:aA.H=k):d1 k f a S n=f aA n:=by unfold d1;rw[h,eO,Y2 aB]
def Uc(b7:oc=u):oa (ea 0 t o) n=nc [Z4,ZS] n/\oa (ea 1 t o) n=tv [Z4,ZS] n/\oa (ea 2 t o) n=nc [ZS,Z4] n/\oa (ea 3 t o) n=tv [ZS,Z4] n:=by have a:=λw=>Vz (t:=t) (o:=o) (n:=n) b7 w;have b:=λw=>VA (t:=t) (o:=o) (n:=n) b7 w;unfold oa;generalize ax (ai 1) (ax (cw ZK) a9)=AA at*;generalize ax (cw ZK) ZR=qd at*;exact⟨(show d1 2 nc AA (ea 0 t o) n=_ from x9 (a 0) rfl),(show d1 2 tv AA (ea 1 t o) n=_ from x9 (a 1) rfl),(show d1 2 nc qd (ea 2 t o) n=_ from x9 (b 2) rfl),(show d1 2 tv qd (ea 3 t o) n=_ from x9 (b 3) rfl)⟩
def VB(b7:oc=u)(w:Int):ax (ai 1) (ax (cw ZK) Ze) (ea w t o) n=J ([Z4,ZS,ZM],n)/\ax (cw ZK) (ax (ai 1) Ze) (ea w t o) n=J ([ZS,Z4,ZM],n):=by have a:=Mr (n:=n);rw[b7]at a;generalize cw ZK=AA at*;constructor<;>simp![a]
def Ud(b7:oc=u):dy oa pz vM (ea 4 t o) n=vF [Z4,ZS,ZM] n/\dy oa pz vM (ea 5 t o) n=vF [ZS,Z4,ZM] n:=by
 obtain⟨a,_⟩:=VB (t:=t) (o:=o) (n:=n) b7 4;obtain⟨_,b⟩:=VB (t:=t) (o:=o) (n:=n) b7 5;have k:∀w:Int,¬w<4->dy oa pz vM (ea w t o) n=vM (ea w t o) n:=λw h=>by
  have c:bK (aH eF<|aa (ai 0)<|aa (aw<|.int 4) ar) (ea w t o) n=J (Y1,n):=by simp![eF,dZ,h]
  exact kE (by unfold oa fH;rw[c];rfl) (by unfold pz eG;rw[c];rfl)
 rw[k 4 Z0,k 5 Z0];unfold vM;generalize ax (ai 1) (ax (cw ZK) Ze)=AA at*;generalize ax (cw ZK) (ax (ai 1) Ze)=qd at*;exact⟨(show d1 3 vF AA (ea 4 t o) n=_ from x9 a rfl),(show d1 3 vF qd (ea 5 t o) n=_ from x9 b rfl)⟩
def alr(b7:oc=u)(qf:h2 [ZS] n=C)(qg:i1 [ZS] n=J Zd)(h:h2 [Z4] n=J (0,n)):∀w:Nat,w<6->tG [ZX,Z4,ZM] n=J (0,n):=λw hw=>by
 show dy oa pz vM (ea (w:Nat) t o) n=_;obtain⟨iS,a1,a2,k8⟩:=Uc (t:=t) (o:=o) (n:=n) b7;obtain⟨zj,sM⟩:=Ud (t:=t) (o:=o) (n:=n) b7;have eV:nc [Z4,ZS] n=J (0,n):=UJ h;have fM:nc [ZS,Z4] n=J (0,n):=(x8 qf qg).trans (UK h)
 match w,hw with
 |0,_=>exact g9<|iS.trans eV
 |1,_=>exact g9<|a1.trans<|g9 eV
 |2,_=>exact g9<|a2.trans fM
 |3,_=>exact g9<|k8.trans<|g9 fM
 |4,_=>exact zj.trans<|UJ h
 |5,_=>exact sM.trans<|(x8 qf qg).trans (UK h)
end
def afo{n:Nat}(h0:cM S n=C)(af:∃S',a S n=J (.bD,S',n)):dy cM a fR S n=C:=by obtain⟨S',af⟩:=af;unfold dy;rw[h0,af];rfl
section
variable {t o u:T}{n:Nat}
def FW(b7:oc=u){w m:Int}(q9:w<4)(hm:og n [.int w,.int 2]=J (.int m,.ag))(aW:u0 [(2,bQ.m9),(2,bQ.qE)] m=J (2,f))(az:w<2->f [Z4,ZS] n=J (v,Y1,n))(au:¬w<2->f [ZS,Z4] n=J (v,Y1,n)):pz (ea w t o) n=J (.aV v Y1,ea w t o,n):=by
 have a:=Vz (t:=t) (o:=o) (n:=n) b7 w;have b:=VA (t:=t) (o:=o) (n:=n) b7 w;unfold pz ye;generalize ax (ai 1) (ax (cw ZK) a9)=AA at*;generalize ax (cw ZK) ZR=qd at*;generalize [(2,bQ.m9),(2,bQ.qE)]=FS at*;by_cases dA:w<2
 ·have e:=az dA;simp![eF,dZ,q9,dA,hm,aW,a,e,eP]
 ·have e:=au dA;simp![eF,dZ,q9,dA,hm,aW,b,e,eP]
def TG(h:nc [(x,Y0),(y,Y0)] n=C)(e:m9 [(x,Y0),(y,Y0)] n=J (v,Y1,n)):tv [(x,Y0),(y,Y0)] n=C:=afo h ⟨[J (x,.ag),J (y,.ag),J (v,.ag)],by
 show dM 2 (bB 2 m9<|ax (ai 0) ZR) [J (x,.ag),J (y,.ag),C] n=_
 simp![e,eP]⟩
def qJ:kb 2 [1,2]:=⟨by decide,by decide,by decide,by decide⟩
def anc{F:Nat}(D:kb F l)(cx:F<=8)(o:T)(n:Nat){w:Int}(hw:w=0\/w=1\/w=2\/w=3):Told Bk tG [(.int w,Y0),(aG l,Y0),ZM] n:=by
 obtain⟨u,b7⟩:∃u,oc=u:=⟨_,rfl⟩
 have sP:u=aG [1,2]:=b7.symm;have qf:h2 [ZS] n=C:=by rw[sP];exact xZ<|rH qJ Z0 n
 have qg:i1 [ZS] n=J Zd:=by rw[sP];exact rI qJ Z0 n
 have mS:h2 [(aG l,Y0)] n=C:=xZ<|rH D cx n;have dR:=rI D cx n;have eV:=L7 D qJ cx Z0 n;have fM:=L7 qJ D Z0 cx n;have cq:=Mo D qJ cx Z0 n;have cE:=Mo qJ D Z0 cx n;rw[<-sP]at eV fM cq cE;obtain⟨iS,a1,a2,k8⟩:=Uc (t:=aG l) (o:=o) (n:=n) b7;have aM:nc [(aG l,Y0),ZS] n=C:=(x8 mS dR).trans (Gv qf qg);have bC:nc [ZS,(aG l,Y0)] n=C:=(x8 qf qg).trans (Gv mS dR);have cR:=TG aM eV;have gv:=TG bC fM;have fin:∀{v:T},oa (ea w (aG l) o) n=C->pz (ea w (aG l) o) n=J (.aV v Y1,ea w (aG l) o,n)->Told Bk tG [(.int w,Y0),(aG l,Y0),ZM] n:=λ{v} x r=>by refine⟨v,Y1,?_,x7 x r⟩;show Option.bind (bL pz Tg (ea w (aG l) o) n) _=_;rw[pl,r];rfl
 rcases hw with rfl|rfl|rfl|rfl
 ·exact fin (iS.trans aM) (FW b7 (f:=bQ.m9) (m:=0) Z0 rfl rfl (λ_=>eV) λh=>absurd Z0 h)
 ·exact fin (a1.trans cR) (FW b7 (f:=bQ.qE) (m:=1) Z0 rfl rfl (λ_=>cq) λh=>absurd Z0 h)
 ·exact fin (a2.trans bC) (FW b7 (f:=bQ.m9) (m:=0) Z0 rfl rfl (λh=>absurd h Z0) λ_=>fM)
 ·exact fin (k8.trans gv) (FW b7 (f:=bQ.qE) (m:=1) Z0 rfl rfl (λh=>absurd h Z0) λ_=>cE)
def als{F:Nat}(D:kb F l)(cx:F<=8)(aZ:rO o=Y0)(aM:gS 0 30 o=Y1)(n:Nat):∀w:Nat,4<=w->w<6->tG [ZX,(aG l,Y0),ZM] n=J (3,n):=λw cL hw=>by
 obtain⟨u,b7⟩:∃u,oc=u:=⟨_,rfl⟩
 have sP:u=aG [1,2]:=b7.symm;have qf:h2 [ZS] n=C:=by rw[sP];exact xZ<|rH qJ Z0 n
 have qg:i1 [ZS] n=J Zd:=by rw[sP];exact rI qJ Z0 n
 have mS:h2 [(aG l,Y0)] n=C:=xZ<|rH D cx n;have dR:=rI D cx n;have az:jN [ZM,(.int 0,Y0),(.int 30,Y0)] n=J (3,n):=Bf (by rw[number aZ,aM]) rfl rfl;obtain⟨zj,sM⟩:=Ud (t:=aG l) (o:=o) (n:=n) b7;obtain rfl|rfl:w=4\/w=5:=by lia
 ·exact zj.trans<|(x8 mS dR).trans ((Gv qf qg).trans (g9 az))
 ·exact sM.trans<|(x8 qf qg).trans ((Gv mS dR).trans (g9 az))
end
section
variable {t o:T}{n:Nat}
def afp(h:kC [Z4] n=J Zr):m8 [Z4] n=J (2,n):=by
 show fH (eu<|bK<|bB 1 kC Z8) (mZ 2 mf) fR [J (t,.ag)] n=_;have c:eu (bK<|bB 1 kC Z8) [J (t,.ag)] n=J (Y0,n):=by simp![h]
 unfold fH;rw[c];rfl
def TH(h:kC [Z4] n=J (.aC Y0,Y1,n)):m8 [Z4] n=C/\lx [Z4] n=J Zd:=by
 have c:eu (bK<|bB 1 kC Z8) [J (t,.ag)] n=J (Y1,n):=by simp![h]
 constructor
 ·show fH (eu<|bK<|bB 1 kC Z8) (mZ 2 mf) fR [J (t,.ag)] n=_;unfold fH;rw[c];rfl
 ·unfold lx KD;simp![h]
abbrev Oo:dm:=d1 1 m8 Z8
abbrev afq:bw:=eT<|bB 1 lx Z8
def LK{m:Nat}(h:m8 [Z4] n=J (2,n))(a:bw)(r:dm)(l:List<|T×Bool):fnX m (dy Oo a r) (Z4::l) n=J (2,n):=g9 h
def LM{m:Nat}(h:m8 [Z4] n=C)(e:lx [Z4] n=J Zd)(r:dm)(l:List<|T×Bool):fnX m (dy Oo afq r) (Z4::l) n=fnX m r (Z4::l) n:=kE h (by
 show eT (bB 1 lx Z8) (J (t,.ag)::_) n=J (.bD,J (t,.ag)::_,n)
 simp![e])
abbrev jB(w:Int)(t z o:T):bE:=[J (.int w,.ag),J (t,.ag),J (z,.ag),J (o,.ag)]
def Gw{w:Int}(h:(w==2)=Y1):dy vN qH x3 (jB w t z o) n=x3 (jB w t z o) n:=by
 have c:bK (aH gn<|aa (ai 0)<|aa ZC ar) (jB w t z o) n=J (Y1,n):=by simp![n7,h]
 exact kE (by unfold vN fH;rw[c];rfl) (by unfold qH eG;rw[c];rfl)
def alu(h:m8 [Z4] n=J (2,n)){w:Int}(hw:w=0\/w=1\/w=2):tH [(.int w,Y0),Z4,(z,Y0),ZM] n=J (2,n):=by
 show dy vN qH x3 (jB w t z o) n=_;rcases hw with rfl|rfl|rfl
 ·rw[Gw rfl];exact(g9 (LK h _ _ [(z,Y0),(.int 2,Y0),ZM]):E3 [Z4,(z,Y0),ZM] n=_)
 ·rw[Gw rfl];exact(g9 (LK h _ _ [(z,Y0),(.int 3,Y0),ZM]):Fl [Z4,(z,Y0),ZM] n=_)
 ·exact g9 (LK h _ _ [(z,Y0)]:Bb [Z4,(z,Y0)] n=_)
theorem TJ{W k:Nat}(x0 bH cf bY:Option ZJ)(n:Nat):∀(xs:List T) (ct:Option ZJ),(∀x∈xs,eb W k x=Y0) ->
  s9 (cB 4) tB (d1 3 jN Z02) xs [x0,bH,cf,bY,ct] n=J (3,n) \/
  (s9 (cB 4) tB (d1 3 jN Z02) xs [x0,bH,cf,bY,ct] n=C/\∃x1,fG (cB 4) tB xs [x0,bH,cf,bY,ct] n=J (.bD,[x0,bH,cf,bY,x1],n))
 |[],ct,_=>.inr ⟨rfl,ct,rfl⟩
 |x::xs,ct,h=>by
  have av:=vT<|h x<|dT ..;have zC:=number av 1 8 n;unfold s9 fG;simp only[bj.bO.cB,kN,kO,eO];cases bz:gS 1 8 x with
  |false =>
   rw[bz]at zC;left;have e:d1 3 jN Z02 [x0,bH,cf,bY,J (x,.ag)] n=J (3,n):=Bf zC rfl rfl;rw[e]
  |true =>
   rw[bz]at zC;have e:d1 3 jN Z02 [x0,bH,cf,bY,J (x,.ag)] n=C:=adN zC;have b:tB [x0,bH,cf,bY,J (x,.ag)] n=J (.bD,[x0,bH,cf,bY,J (x,.ag)],n):=by
    have ok:tu [(x,Y0),(.int 1,Y0),(.int 8,Y0)] n=J Zd:=by unfold tu Q7;simp![zC]
    unfold tB;simp![ok]
   rw[e,b];exact TJ x0 bH cf bY n xs (J (x,.ag)) λy aK=>h y<|am _ aK
def TK{W k:Nat}(x:m8 [Z4] n=C)(e:lx [Z4] n=J Zd)(hz:eb W k z=Y0)(aZ:rO o=Y0)(aM:gS 0 30 o=Y1)(m:Int)(hm:small m=Y0):E2 [Z4,(z,Y0),(.int m,Y0),ZM] n=J (3,n):=by
 refine(LM x e _ [(z,Y0),(.int m,Y0),ZM]).trans ?_;have az:jN [ZM,(.int 0,Y0),(.int 30,Y0)] n=J (3,n):=Bf (by rw[number aZ,aM]) rfl rfl;show dy (fH (hY (eu<|bK<|aH (dS .tuple) ZO)<|bK<|aH gp<|aa (aH fe ZO) ZV) (mZ 3<|ux (ai 2) mf) fR) _ _ [J (t,.ag),J (z,.ag),J (.int m,.ag),J (o,.ag),C] n=_;have oT:mZ 3 (ux (ai 2) mf) [J (t,.ag),J (z,.ag),J (.int m,.ag),J (o,.ag),C] n=J (3,n):=by show((if small m=Y0 then J n else C).map λn'=>(3,n'))=_;rw[Y2 hm];rfl
 by_cases c:oj .tuple z=J Y1
 ·have t1:hY (eu<|bK<|aH (dS .tuple) ZO) (bK<|aH gp<|aa (aH fe ZO) ZV) [J (t,.ag),J (z,.ag),J (.int m,.ag),J (o,.ag),C] n=J (Y0,n):=by simp![dS,c]
  refine g9 ?_;unfold fH;rw[t1];exact oT
 ·obtain⟨xs,rfl⟩:∃xs,z=.aD xs:=by
   cases z with
   |aD xs=>exact⟨xs,rfl⟩
   |bk _=>exists k<;>exists hz
   |dq=>exists k<;>exists hz
   |bJ _=>exists k<;>exists hz
   |_=>exact absurd rfl c
  have ne:gp n [.int (xs.H:Nat),.int m]=J (.aC<|!decide ((xs.H:Int)=m),.ag):=by rw[xS];rfl
  by_cases cl:(xs.H:Int)=m
  ·rw[decide_eq_true cl]at ne;have t1:hY (eu<|bK<|aH (dS .tuple) ZO) (bK<|aH gp<|aa (aH fe ZO) ZV) [J (t,.ag),J (.aD xs,.ag),J (.int m,.ag),J (o,.ag),C] n=J (Y1,n):=by simp![dS,iF,g7,ne]
   rw[kE (by unfold fH;rw[t1];rfl)<|by unfold eG;rw[t1];rfl];cases k with
   |zero=>exists hz
   |succ k =>
    rcases TJ Zp (J (.aD xs,.ag)) (J (.int m,.ag)) (J (o,.ag)) n xs C (rN hz).2 with s|⟨s,x1,f⟩
    ·exact g9 s
    ·show dy (F2 _ _ _ _) (fD 1 E1) _ _ n=_;unfold dy;rw[show F2 (iJ<|ai 1) (cB 4) tB (d1 3 jN Z02) [J (t,.ag),J (.aD xs,.ag),J (.int m,.ag),J (o,.ag),C] n=C from s];rw[show fD 1 E1 [J (t,.ag),J (.aD xs,.ag),J (.int m,.ag),J (o,.ag),C] n=_ from f];exact az
  ·rw[decide_eq_false cl]at ne;have t1:hY (eu<|bK<|aH (dS .tuple) ZO) (bK<|aH gp<|aa (aH fe ZO) ZV) [J (t,.ag),J (.aD xs,.ag),J (.int m,.ag),J (o,.ag),C] n=J (Y0,n):=by simp![dS,iF,g7,ne]
   refine g9 ?_;unfold fH;rw[t1];exact oT
def alv{W k:Nat}(x:m8 [Z4] n=C)(e:lx [Z4] n=J Zd)(hz:eb W k z=Y0)(aZ:rO o=Y0)(aM:gS 0 30 o=Y1){w:Int}(hw:w=0\/w=1):tH [(.int w,Y0),Z4,(z,Y0),ZM] n=J (3,n):=by
 show dy vN qH x3 (jB w t z o) n=_;rcases hw with rfl|rfl
 ·rw[Gw rfl];exact(g9 (TK x e hz aZ aM 2 rfl):E3 [Z4,(z,Y0),ZM] n=_)
 ·rw[Gw rfl];exact(g9 (TK x e hz aZ aM 3 rfl):Fl [Z4,(z,Y0),ZM] n=_)
end
def missing{F:Nat}(D:kb F aL)(cx:F<=8)(h:tO L)(aP:h4 L<=90000)(M:nj aL L r)(n:Nat):Ba [(.ao<|e2 L,Y0),(aG aL,Y0)] n=J (Mp r,Y1,n):=by
 have de:bh=1000000:=rfl;have aB:=h.len;have az:=aeg h Y0 n;have au:=rI D cx n;have a6:=UG h.gs.bW Z3 n;have aQ:=SO h.gs;obtain⟨eV,fM⟩:=aem D cx (J (.ao<|e2 L,.ag)) n (h4 L).M 100000 L [] r C C C C Z3 Z3 h.gs aB (λq a7=>(h.hJ q a7).2.2.2) (by simp;exact jq aP Z0) M;unfold Ba RI;have hn:0<=bh:=by decide
 cases r with
 |none =>
  obtain⟨S,e⟩:=fM rfl;have jf:A9 [J (.ao<|e2 L,.ag),J (aG aL,.ag),J (.bk<|ay L,.aE),J (.ao [],.aE),C,C,C,C] n=J (.aV .br Y1,S,n):=e;generalize A9=LL at*;generalize e2 L=cQ at*;generalize ay L=kl at*;generalize aG aL=oR at*;simp![az,au,a6,dG,hn,jf,Mp]
 |some l =>
  obtain⟨S,e,g⟩:=eV l rfl;rw[pQ]at g;have jf:A9 [J (.ao<|e2 L,.ag),J (aG aL,.ag),J (.bk<|ay L,.aE),J (.ao [],.aE),C,C,C,C] n=J (.bD,S,n):=e;have v:cT (aH qq<|aa (ai 3) ar) S n=J (.aV (aG l) Y1,S,n):=by rw[Gm,F8,EI,Ml,g];rfl
  generalize cT (aH qq<|aa (ai 3) ar)=RR at*;generalize A9=LL at*;generalize e2 L=cQ at*;generalize ay L=kl at*;generalize aG aL=oR at*;simp![az,au,a6,dG,hn,jf,v,Mp]
section
variable {t z o:T}{n:Nat}
def ane(x:m8 [Z4] n=C)(e:lx [Z4] n=J Zd)(h:h2 [(z,Y0)] n=J (0,n)):tH [(.int 2,Y0),Z4,(z,Y0),ZM] n=J (0,n):=by show dy vN qH x3 (jB 2 t z o) n=_;exact g9 ((LM x e _ [(z,Y0)]).trans (g9 h):Bb [Z4,(z,Y0)] n=_)
def afr(x:m8 [Z4] n=C)(e:lx [Z4] n=J Zd)(bH:h2 [(z,Y0)] n=C)(az:i1 [(z,Y0)] n=J Zd)(m:Ba [Z4,(z,Y0)] n=J (v,Y1,n)):Told Fq tH [(.int 2,Y0),Z4,(z,Y0),ZM] n:=by
 have YU:Bb [Z4,(z,Y0)] n=C:=(LM x e _ [(z,Y0)]).trans (kE bH<|TF az _);have r:qH (jB 2 t z o) n=J (.aV v Y1,jB 2 t z o,n):=by unfold qH;simp![n7,m,eP]
 refine⟨v,Y1,?_,x7 (show vN (jB 2 t z o) n=C from YU) r⟩;show Option.bind (bL qH Th (jB 2 t z o) n) _=_;rw[pl,r];rfl
end
abbrev SC(ns:List Int):Option ZJ:=J (.ao<|ns.map .int,.cZ)
abbrev TW:Option ZJ:=J (.dq,.ag)
def h6{n n':Nat}(h:a S n=J (.bD,S',n')):bL a b S n=b S' n':=by unfold bL;rw[h];rfl
def alw{i:Nat}{n:Nat}(h:S[i]?=J Zp):dO i d S n=d S n:=by
 unfold dO;rw[h]
 exists t<;>rfl
def ahE(ns:List Int):∃t n' bY,eb 648 4 t=Y0/\n'<=100/\∀K:bw,bL zq (bL Lq K) (o7 ns 11) 0=K [SC ns,TW,J (t,.ag),bY,C,C,C,C,C,C,C] n':=by
 have de:bh=1000000:=rfl;obtain⟨r,jx,bA,az⟩:=qG ns 0 4 Z0 Z0;obtain⟨k,rfl⟩:∃k:Nat,r=k:=⟨r.M,by lia⟩
 obtain⟨ds,aM,dl,⟨D,_⟩,g1,g2,au⟩:=Sp ns (1+k) 3 1 (gd _ _) Z3 Z0 Z0 Z0;have au:vG [ZQ,(.dq,Y0),(.int<|1+(k:Int),Y0),(.int 3,Y0)] (0+1)=J (.aD ZB,Y1,aM):=au;have bA:zq (o7 ns 11) 0=J (.bD,[SC ns,TW,J (.aD ZB,.ag),C,C,C,C,C,C,C,C],aM):=by show zq [SC ns,TW,C,C,C,C,C,C,C,C,C] 0=_;unfold zq SC TW;generalize T.aD ZB=tt at*;generalize ns.map T.int=sc at*;simp![az,au,pn,eP]
 have fP:ds.H<=4:=by lia
 have s0:eb 8 2 (.aD ZB)=Y0:=by refine tJ (by rw[cP];exact bP fP Z0) λx av=>?_;obtain⟨d,hd,rfl⟩:=ez.mp av;have It:=(D.aL d hd).most;refine tJ (by rw[cP];exact bP It Z0) λy aK=>?_;obtain⟨z,_,rfl⟩:=ez.mp aK;rfl
 generalize T.aD ZB=t0 at*;obtain⟨q,NQ,aX,a6⟩:=qG ns aM 2 Z0 Z3;obtain⟨t1,bC,f1,cN,g3,gL⟩:=Bs ns 2 Z0 8 _ (aM+1) Z0 Z0 s0 Z3;obtain⟨eI,fV,f2,dE,mQ,sG⟩:=Bs ns 3 Z0 72 _ bC Z0 Z0 cN Z3;have turn:∀(t t':T) (m gg:Nat) (bY:Option ZJ),pA [ZQ,(.dq,Y0),Z4] m=J (t',Y1,gg)->Bo [SC ns,TW,J (t,.ag),bY,C,C,C,C,C,C,C] m=J (.bD,[SC ns,TW,J (t',.ag),bY,C,C,C,C,C,C,C],gg):=λt t' m gg bY h=>by unfold Bo SC TW;have bG:flag .ag t=Y0:=rfl;have fN:look .ag t=.ag:=rfl;generalize pA=FF at*;generalize ns.map T.int=sc at*;simp![bG,fN,h,eP]
 have it:iC (aa (aH ek<|aa Z5<|aa (bB 3 bQ.ka<|ax (ai 0)<|ax (ai 1)<|ax ZC a9) ar) ar) [SC ns,TW,J (t0,.ag),C,C,C,C,C,C,C,C] aM=J (ip 0<|1+q,aM+1):=by refine EG ?_ Z3 Z3;unfold SC TW;generalize ns.map T.int=sc at*;simp![a6,eP,pn]
 have go:∀xs:List T,ip 0 (1+q)=xs->Lq [SC ns,TW,J (t0,.ag),C,C,C,C,C,C,C,C] aM=fG (cB 3) Bo xs [SC ns,TW,J (t0,.ag),C,C,C,C,C,C,C,C] (aM+1):=λxs av=>by show(iC _ _ aM).bind _=_;rw[it,av];rfl
 rcases(show q=0\/q=1 by lia) with rfl|rfl
 ·refine⟨t1,bC,J (.int 0,.ag),vS Z0 3 4 t1 Z0 cN,by lia,λK=>?_⟩;rw[h6 bA];refine h6 ?_;rw[go [.int 0] rfl];unfold fG;simp only[bj.bO.cB,kN,kO,eO];rw[turn _ t1 (aM+1) bC _ f1];rfl
 ·refine⟨eI,fV,J (.int 1,.ag),dE,by lia,λK=>?_⟩;rw[h6 bA];refine h6 ?_;rw[go [.int 0,.int 1] rfl];unfold fG;simp only[bj.bO.cB,kN,kO,eO];rw[turn _ t1 (aM+1) bC _ f1];show fG (cB 3) Bo [.int 1] _ bC=_;unfold fG;simp only[bj.bO.cB,kN,kO,eO];rw[turn _ eI bC fV _ f2];rfl
def Al(h:eb 648 4 t=Y0)(n:Nat)(x0 bH bY fY eK fa o2 gO mD:Option ZJ) :
  H6 [x0,bH,J (t,.ag),bY,C,fY,eK,fa,o2,gO,mD] n=J (.bD,[x0,bH,J (t,.ag),bY,J (.aC<|gR t,.ag),fY,eK,fa,o2,gO,mD],n):=by
 have de:bh=1000000:=rfl;unfold H6;rw[alw (t:=t) rfl];cases t with
 |aD xs =>
  obtain⟨aB,av⟩:=rN h;by_cases TL:1<=xs.H/\xs.H<=4
  ·have hv:Lr [x0,bH,J (.aD xs,.ag),bY,C,fY,eK,fa,o2,gO,mD] n=J (.ao (xs.map λx=>.aC<|gq x),.aE,n) :=
    ik xs id (λx=>.aC<|gq x) (by rw[r9];rfl) Z3 λx afs=>by have e:=LF (av x afs) n;show _=J (T.aC<|gq x,bo.ag,n);generalize gq x=v at*;have bG:flag .ag x=Y0:=rfl;have fN:look .ag x=.ag:=rfl;simp![ck,id,bG,fN,e,eP]
   have a6:=vv gq xs n;have Iu:gR (.aD xs)=xs.all gq:=by simp only[gR,TL,and_self,decide_true,yJ]
   rw[Iu];have fc:(1:Int)<=xs.H:=by lia
   have fP:(xs.H:Int)<=4:=by lia
   generalize xs.map (λx=>T.aC<|gq x)=bs at*;generalize xs.all gq=r at*;generalize Lr=CC at*;simp![dS,j9,kz,iF,jM,kA,gx,fL,dZ,g7,fc,fP,hv,a6]
  ·have Iu:gR (.aD xs)=Y1:=by simp only[gR,TL,decide_false,sf]
   rw[Iu];by_cases af:1<=xs.H
   ·have fc:(1:Int)<=xs.H:=by lia
    have fP:¬ (xs.H:Int)<=4:=by lia
    simp![dS,j9,kz,iF,jM,kA,gx,fL,dZ,g7,fc,fP]
   ·have fc:¬ (1:Int)<=xs.H:=by lia
    simp![dS,j9,kz,iF,jM,kA,gx,fL,dZ,g7,fc]
 |bk _=>exists h
 |dq=>exists h
 |bJ _=>exists h
 |_=>rfl
def five:List T:=[.br,.aC Y0,.int<|-1,.int 1000,.str "1"]
def LN:∀o∈five,rO o=Y0/\gS 0 120 o=Y1/\gS 0 999 o=Y1/\gS 0 30 o=Y1:=λo aZ=>by simp only[five,d4,qR,or_false]at aZ;rcases aZ with rfl|rfl|rfl|rfl|rfl<;>exact⟨rfl,rfl,rfl,rfl⟩
def qP(r:Option<|T×Bool×Nat):T:=match r with
 |some (v,_,_)=>v
 |none=>.br
def LO(hd:gq t=Y0):∃l:List Int,t=aG l/\kb 8 l:=by
 cases t with
 |aD xs =>
  have hd:(decide (1<=xs.H/\xs.H<=8)&&xs.all lB&&ob xs)=Y0:=hd;rw[f5,f5,decide_eq_true_iff]at hd;obtain⟨⟨aB,ba⟩,b7⟩:=hd;obtain⟨l,rfl,aU⟩:=FK ba;rw[cP]at aB;exact⟨l,rfl,aB.1,aB.2,aU,(Br l).mp b7⟩
 |_=>exists hd
def alx(hd:gR t=Y0):∃ds:List ZA,t=.aD ZB/\iq 4 8 ds:=by
 cases t with
 |aD xs =>
  have hd:(decide (1<=xs.H/\xs.H<=4)&&xs.all gq)=Y0:=hd;rw[f5,decide_eq_true_iff]at hd;obtain⟨aB,ba⟩:=hd;have:∀aO:List T,aO.all gq=Y0->∃ds:List ZA,aO=ds.map aG/\∀d∈ds,kb 8 d:=λaO=>by
   induction aO with
   |nil=>exact λ_=>⟨[],rfl,λ_ h=>by exists h⟩
   |cons y aO a4 =>
    intro h;rw[jV,f5]at h;obtain⟨ds,rfl,ml⟩:=a4 h.2;obtain⟨d,rfl,hd⟩:=LO h.1
    exact⟨d::ds,rfl,λx av=>by
     rcases d4.mp av with rfl|av
     ·exact hd
     ·exact ml x av⟩
  obtain⟨ds,rfl,ml⟩:=this xs ba;rw[cP]at aB;exact⟨ds,rfl,aB.1,aB.2,ml⟩
 |_=>exists hd
def ahF(h:eb 648 4 t=Y0)(aZ:o∈five)(n:Nat)(w:Nat)(hw:w<11):∃xs,gQ [(.int 0,Y0),ZX,Z4,ZM,(.br,Y0)] n=J (.aD xs,Y1,n)/\(gR t=Y1->xs=[.str "refused",.int 1])/\(gR t=Y0->9<=w->xs=[.str "refused",.int 3]):=by
 obtain⟨fs,ja,Iv,Dg⟩:=LN o aZ;cases hd:gR t with
 |false=>exact⟨_,Tz (ana (adT<|afg h hd n) w hw)<|.inr<|.inl rfl,λ_=>rfl,nofun⟩
 |true =>
  obtain⟨ds,rfl,D⟩:=alx hd;by_cases ri:9<=w
  ·exact⟨_,Tz (anb D Z0 Z0 fs ja Iv n w ri hw)<|.inr<|.inr<|.inr rfl,nofun,λ_ _=>rfl⟩
  ·obtain⟨v,e⟩:=alo (c:=.br)<|afm D Z0 Z0 o n w<|sd ri;exact⟨_,e,nofun,λ_ h=>absurd h ri⟩
def ahG(h:eb 648 4 t=Y0)(aZ:o∈five)(n:Nat)(x0 bH bY ct fa o2 gO mD:Option ZJ) :
  ∃L:List T,CO [x0,bH,J (t,.ag),bY,ct,J (o,.ag),C,fa,o2,gO,mD] n=J (.bD,[x0,bH,J (t,.ag),bY,ct,J (o,.ag),J (.ao L,.aE),fa,o2,gO,mD],n)/\(gR t=Y1->L=List.replicate 11 (ey 1))/\(gR t=Y0->dv n [.ao L,.int 10]=J (ey 3,.ag)):=by
 have de:bh=1000000:=rfl;have V:∀w:Nat,w<11->∃xs,gQ [(.int 0,Y0),ZX,Z4,ZM,(.br,Y0)] n=J (.aD xs,Y1,n)/\(gR t=Y1->xs=[.str "refused",.int 1])/\(gR t=Y0->9<=w->xs=[.str "refused",.int 3]):=λw hw=>ahF h aZ n w hw;have b6:Vu [x0,bH,J (t,.ag),bY,ct,J (o,.ag),C,fa,o2,gO,mD] n=J (.ao ((List.range 11).map λ(w:Nat)=>qP<|gQ [(.int 0,Y0),ZX,Z4,ZM,(.br,Y0)] n),.aE,n):=by
  refine ik (List.range 11) (λ(w:Nat)=>T.int (w:Nat)) _ rfl (by simp;decide) λw hw=>?_;obtain⟨xs,e,_⟩:=V w<|nu.mp hw;have a:qP (gQ [(.int 0,Y0),ZX,Z4,ZM,(.br,Y0)] n)=.aD xs:=by rw[e];rfl
  have bG:∀t,flag .ag t=Y0:=λ_=>rfl;have fN:∀t,look .ag t=.ag:=λ_=>rfl;rw[a];simp![ck,bG,fN,e,eP]
 refine⟨(List.range 11).map λ(w:Nat)=>qP<|gQ [(.int 0,Y0),ZX,Z4,ZM,(.br,Y0)] n,?_,λhd=>?_,λhd=>?_⟩
 ·unfold CO;rw[Mk,b6];rfl
 ·have:∀w∈List.range 11,qP (gQ [(.int 0,Y0),ZX,Z4,ZM,(.br,Y0)] n)=ey 1:=λw hw=>by obtain⟨xs,e,z,_⟩:=V w<|nu.mp hw;rw[e,z hd];rfl
  rw[mH this];rfl
 ·obtain⟨xs,e,_,z⟩:=V 10 Z0;have a:qP (gQ [(.int 0,Y0),(.int ((10:Nat):Nat),Y0),Z4,ZM,(.br,Y0)] n)=ey 3:=by rw[e,z hd Z0];rfl
  rw[<-a];rfl
def VC(c n:Nat):gp n [ey c,ey c]=J (.aC Y1,.ag):=by rw[xS,AY rfl];rfl
def Bu(m:Nat)(c n:Nat):gp n [.ao<|List.replicate m<|ey c,.ao<|List.replicate m<|ey c]=J (.aC Y1,.ag)/\gn n [.ao<|List.replicate m<|ey c,.ao<|List.replicate m<|ey c]=J Zk:=by
 have p:d0 6 (.ao<|List.replicate m<|ey c)=Y0:=by show(List.replicate m<|ey c).all (d0 5)=Y0;rw[iM];intro x av;rw[(MK.mp av).2];rfl
 constructor
 ·rw[xS,AY p];rfl
 ·rw[xR,AY p];rfl
def ahH(ns:List Int)(h:eb 648 4 t=Y0)(n:Nat)(bz:n<=1000)(bY:Option ZJ):∃o eK,o∈five/\∀K:bw,bL CN (bL CO<|bL w6<|bL w7 K) [SC ns,TW,J (t,.ag),bY,J (.aC<|gR t,.ag),C,C,C,C,C,C] n=K [SC ns,TW,J (t,.ag),bY,J (.aC<|gR t,.ag),J (o,.ag),eK,C,C,C,C] (n+1):=by
 have de:bh=1000000:=rfl;obtain⟨o,aZ,az⟩:=Bg ns five Y0 n (by simp[five]) Z3;obtain⟨L,bX,HK,cN⟩:=ahG h aZ (n+1) (SC ns) TW bY (J (.aC<|gR t,.ag)) C C C C;refine⟨o,J (.ao L,.aE),aZ,λK=>?_⟩;have hs:∀S m,dG (aa (aY<|aw .br)<|aa (aY<|aw<|.aC Y0)<|aa (aY<|aH pF<|aa Z5 ar)<|aa (aY<|aw<|.int 1000)<|aa (aY<|aw<|.str "1") ar) S m=J (.ao five,.aE,m):=λ_ _=>rfl;have s3:CN [SC ns,TW,J (t,.ag),bY,J (.aC<|gR t,.ag),C,C,C,C,C,C] n=J (.bD,[SC ns,TW,J (t,.ag),bY,J (.aC<|gR t,.ag),J (o,.ag),C,C,C,C,C],n+1):=by have fN:look .ag o=.ag:=rfl;unfold CN SC TW;generalize dG (aa (aY<|aw .br)<|aa (aY<|aw<|.aC Y0)<|aa (aY<|aH pF<|aa Z5 ar)<|aa (aY<|aw<|.int 1000)<|aa (aY<|aw<|.str "1") ar)=OD at*;generalize five=NK at*;generalize ns.map T.int=sc at*;simp![hs,az,eP]
 rw[h6 s3,h6 bX];have iz:∀S m,lA (dG<|aa (aY<|cw<|aa ZL<|aa (aY Z5) ar) ar) (aw<|.int 11) S m=J (.ao<|List.replicate 11<|ey 1,.aE,m):=λ_ _=>rfl;have hF:∀S m,cw (aa ZL<|aa (aY Zg) ar) S m=J (ey 3,.ag,m):=λ_ _=>rfl;have aM:=(Bu 11 1<|n+1).1;have fV:=VC 3<|n+1;unfold SC TW;generalize ns.map T.int=sc at*;cases hd:gR t with
 |false =>
  rw[HK hd];have s5:w6 [J (.ao sc,.cZ),J (.dq,.ag),J (t,.ag),bY,J (.aC Y1,.ag),J (o,.ag),J (.ao<|List.replicate 11<|ey 1,.aE),C,C,C,C] (n+1)=J (.bD,[J (.ao sc,.cZ),J (.dq,.ag),J (t,.ag),bY,J (.aC Y1,.ag),J (o,.ag),J (.ao<|List.replicate 11<|ey 1,.aE),C,C,C,C],n+1):=by unfold w6;generalize lA (dG<|aa (aY<|cw<|aa ZL<|aa (aY Z5) ar) ar) (aw<|.int 11)=RP at*;generalize List.replicate 11 (ey 1)=hr at*;simp![iz,aM]
  have jw:w7 [J (.ao sc,.cZ),J (.dq,.ag),J (t,.ag),bY,J (.aC Y1,.ag),J (o,.ag),J (.ao<|List.replicate 11<|ey 1,.aE),C,C,C,C] (n+1)=J (.bD,[J (.ao sc,.cZ),J (.dq,.ag),J (t,.ag),bY,J (.aC Y1,.ag),J (o,.ag),J (.ao<|List.replicate 11<|ey 1,.aE),C,C,C,C],n+1):=by unfold w7;simp![]
  rw[h6 s5,h6 jw]
 |true =>
  have g:=cN hd;have s5:w6 [J (.ao sc,.cZ),J (.dq,.ag),J (t,.ag),bY,J Zk,J (o,.ag),J (.ao L,.aE),C,C,C,C] (n+1)=J (.bD,[J (.ao sc,.cZ),J (.dq,.ag),J (t,.ag),bY,J Zk,J (o,.ag),J (.ao L,.aE),C,C,C,C],n+1):=by unfold w6;simp![]
  have jw:w7 [J (.ao sc,.cZ),J (.dq,.ag),J (t,.ag),bY,J Zk,J (o,.ag),J (.ao L,.aE),C,C,C,C] (n+1)=J (.bD,[J (.ao sc,.cZ),J (.dq,.ag),J (t,.ag),bY,J Zk,J (o,.ag),J (.ao L,.aE),C,C,C,C],n+1):=by unfold w7;generalize cw (aa ZL<|aa (aY Zg) ar)=mh at*;generalize ey 3=u at*;simp![g,hF,fV]
  rw[h6 s5,h6 jw]
def aft(b7:oc=u)(n:Nat):h2 [ZS] n=C/\i1 [ZS] n=J Zd:=by have sP:u=aG [1,2]:=b7.symm;rw[sP];exact⟨xZ<|rH qJ Z0 n,rI qJ Z0 n⟩
def ahI(h:eb 72 2 t=Y0)(aZ:o∈five)(n:Nat)(w:Nat)(hw:w<6):∃xs,gQ [(.int 1,Y0),ZX,Z4,ZM,(.br,Y0)] n=J (.aD xs,Y1,n)/\(gq t=Y1->xs=[.str "refused",.int 0])/\(gq t=Y0->4<=w->xs=[.str "refused",.int 3]):=by
 obtain⟨fs,ja,Iv,Dg⟩:=LN o aZ;cases hd:gq t with
 |false =>
  have e:=LA h n;rw[hd]at e;obtain⟨u,b7⟩:∃u,oc=u:=⟨_,rfl⟩
  obtain⟨qf,qg⟩:=aft b7 n;exact⟨_,TA (alr b7 qf qg (Sn e<|.inl rfl) w hw)<|.inl rfl,λ_=>rfl,nofun⟩
 |true =>
  obtain⟨l,rfl,D⟩:=LO hd;by_cases cL:4<=w
  ·exact⟨_,TA (als D Z0 fs Dg n w cL hw)<|.inr<|.inr<|.inr rfl,nofun,λ_ _=>rfl⟩
  ·obtain⟨v,e⟩:=alp (c:=.br)<|anc D Z0 o n (w:=(w:Nat)) Z3;exact⟨_,e,nofun,λ_ h=>absurd h cL⟩
def ahJ(h:eb 72 2 t=Y0)(aZ:o∈five)(n:Nat)(x0 bH cf bY ct eK o2 gO mD:Option ZJ) :
  ∃L:List T,CQ [x0,bH,cf,bY,ct,J (o,.ag),eK,J (t,.ag),o2,gO,mD] n=J (.bD,[x0,bH,cf,bY,ct,J (o,.ag),J (.ao L,.aE),J (t,.ag),o2,gO,mD],n)/\(gq t=Y1->L=List.replicate 6 (ey 0))/\(gq t=Y0->jl L (J 4) C=List.replicate 2 (ey 3)):=by
 have de:bh=1000000:=rfl;have V:∀w:Nat,w<6->∃xs,gQ [(.int 1,Y0),ZX,Z4,ZM,(.br,Y0)] n=J (.aD xs,Y1,n)/\(gq t=Y1->xs=[.str "refused",.int 0])/\(gq t=Y0->4<=w->xs=[.str "refused",.int 3]):=λw hw=>ahI h aZ n w hw;have dA:Vv [x0,bH,cf,bY,ct,J (o,.ag),eK,J (t,.ag),o2,gO,mD] n=J (.ao ((List.range 6).map λ(w:Nat)=>qP<|gQ [(.int 1,Y0),ZX,Z4,ZM,(.br,Y0)] n),.aE,n):=by
  refine ik (List.range 6) (λ(w:Nat)=>T.int (w:Nat)) _ rfl (by simp;decide) λw hw=>?_;obtain⟨xs,e,_⟩:=V w<|nu.mp hw;have a:qP (gQ [(.int 1,Y0),ZX,Z4,ZM,(.br,Y0)] n)=.aD xs:=by rw[e];rfl
  have bG:∀t,flag .ag t=Y0:=λ_=>rfl;have fN:∀t,look .ag t=.ag:=λ_=>rfl;rw[a];simp![ck,bG,fN,e,eP]
 refine⟨(List.range 6).map λ(w:Nat)=>qP<|gQ [(.int 1,Y0),ZX,Z4,ZM,(.br,Y0)] n,?_,λhd=>?_,λhd=>?_⟩
 ·unfold CQ;rw[Mk,dA];rfl
 ·have:∀w∈List.range 6,qP (gQ [(.int 1,Y0),ZX,Z4,ZM,(.br,Y0)] n)=ey 0:=λw hw=>by obtain⟨xs,e,z,_⟩:=V w<|nu.mp hw;rw[e,z hd];rfl
  rw[mH this];rfl
 ·have:∀w:Nat,4<=w->w<6->qP (gQ [(.int 1,Y0),ZX,Z4,ZM,(.br,Y0)] n)=ey 3:=λw cL hw=>by obtain⟨xs,e,_,z⟩:=V w hw;rw[e,z hd cL];rfl
  have cut:∀V:Nat->T,jl ((List.range 6).map V) (J 4) C=[V 4,V 5]:=λ_=>rfl;rw[cut,this 4 Z0 Z0,this 5 Z0 Z0];rfl
def ahK(ns:List Int)(aZ:o∈five)(n:Nat)(bz:n<=1000)(cf bY ct eK:Option ZJ):∃t qK n',eb 72 2 t=Y0/\n'<=n+20/\∀K:bw,bL CP (bL CQ<|bL w8<|bL x5 K) [SC ns,TW,cf,bY,ct,J (o,.ag),eK,C,C,C,C] n=K [SC ns,TW,cf,bY,ct,J (o,.ag),qK,J (t,.ag),C,C,C] n':=by
 have de:bh=1000000:=rfl;obtain⟨d,aM,⟨D,_⟩,g1,g2,az⟩:=Vr ns 2 n Z0 Z0 Z3;have It:=D.most;have s0:eb 8 1 (aG d)=Y0:=by refine tJ (by rw[cP];exact bP It Z0) λy aK=>?_;obtain⟨z,_,rfl⟩:=ez.mp aK;rfl
 have az:tC [ZQ,(.dq,Y0),(.int 2,Y0),(.int 30,Y0)] n=J (aG d,Y1,aM):=az;generalize aG d=t0 at*;obtain⟨t,bC,f1,cN,g3,gL⟩:=Bs ns 1 Z0 8 _ aM Z0 Z0 s0 Z3;obtain⟨L,q8,q1,eV⟩:=ahJ cN aZ bC (SC ns) TW cf bY ct eK C C C;refine⟨t,J (.ao L,.aE),bC,cN,by lia,λK=>?_⟩;have oP:CP [SC ns,TW,cf,bY,ct,J (o,.ag),eK,C,C,C,C] n=J (.bD,[SC ns,TW,cf,bY,ct,J (o,.ag),eK,J (t,.ag),C,C,C],bC):=by have bG:flag .ag t0=Y0:=rfl;unfold CP SC TW;generalize pA=FF at*;generalize ns.map T.int=sc at*;simp![az,eP,bG,f1]
 rw[h6 oP,h6 q8];have iz:∀S m,lA (dG<|aa (aY<|cw<|aa ZL<|aa (aY ZD) ar) ar) (aw<|.int 6) S m=J (.ao<|List.replicate 6<|ey 0,.aE,m):=λ_ _=>rfl;have YV:∀S m,lA (dG<|aa (aY<|cw<|aa ZL<|aa (aY Zg) ar) ar) ZC S m=J (.ao<|List.replicate 2<|ey 3,.aE,m):=λ_ _=>rfl;have aX:=(Bu 6 0 bC).1;have cK:=(Bu 2 3 bC).1;have ld:=LF cN bC;have fN:look .ag t=.ag:=rfl;have bG:flag .ag t=Y0:=rfl;cases hd:gq t with
 |false =>
  rw[q1 hd];rw[hd]at ld;have y6:w8 [SC ns,TW,cf,bY,ct,J (o,.ag),J (.ao<|List.replicate 6<|ey 0,.aE),J (t,.ag),C,C,C] bC=J (.bD,[SC ns,TW,cf,bY,ct,J (o,.ag),J (.ao<|List.replicate 6<|ey 0,.aE),J (t,.ag),C,C,C],bC):=by unfold w8;generalize lA (dG<|aa (aY<|cw<|aa ZL<|aa (aY ZD) ar) ar) (aw<|.int 6)=RP at*;generalize List.replicate 6 (ey 0)=hr at*;simp![ld,eP,bG,iz,aX]
  have z5:x5 [SC ns,TW,cf,bY,ct,J (o,.ag),J (.ao<|List.replicate 6<|ey 0,.aE),J (t,.ag),C,C,C] bC=J (.bD,[SC ns,TW,cf,bY,ct,J (o,.ag),J (.ao<|List.replicate 6<|ey 0,.aE),J (t,.ag),C,C,C],bC):=by unfold x5;simp![ld,eP,bG]
  rw[h6 y6,h6 z5]
 |true =>
  rw[hd]at ld;have c:=eV hd;have y6:w8 [SC ns,TW,cf,bY,ct,J (o,.ag),J (.ao L,.aE),J (t,.ag),C,C,C] bC=J (.bD,[SC ns,TW,cf,bY,ct,J (o,.ag),J (.ao L,.aE),J (t,.ag),C,C,C],bC):=by unfold w8;simp![ld,eP,bG]
  have z5:x5 [SC ns,TW,cf,bY,ct,J (o,.ag),J (.ao L,.aE),J (t,.ag),C,C,C] bC=J (.bD,[SC ns,TW,cf,bY,ct,J (o,.ag),J (.ao L,.aE),J (t,.ag),C,C,C],bC):=by unfold x5;generalize lA (dG<|aa (aY<|cw<|aa ZL<|aa (aY Zg) ar) ar) ZC=RP at*;generalize List.replicate 2 (ey 3)=hr at*;unfold lY lN lM;simp![ld,eP,bG,YV,c,cK]
  rw[h6 y6,h6 z5]
theorem VD:∀d:List Z6,(∀q∈d,1<=q.2)->(d.H:Int)<=cI (d.map (·.2))
 |[],_=>by simp[cI]
 |q::d,h=>by have a:=h q<|dT ..;have b:=VD d λx av=>h x<|am _ av;rw[cU,d9];show _<=q.2+cI _;lia
def anf(D:iq 2 3 ds)(n:Nat):∃xs,rE [Zc] n=J (.ao xs,Y0,n)/\1<=xs.H/\xs.H<=9/\∀x∈xs,eb 8 1 x=Y0:=by
 obtain⟨d,W,e⟩:=je.Vo D Z0 Z0 n;have hW:=W.tD λ_=>Y0;have t1:jn d (λ_=>Y0)=cI (d.map (·.2)):=by unfold jn;rw[yq.mpr λ_ _=>rfl]
 have eI:((il ds).map cI).countP (λ_=>Y0)=(il ds).H:=by rw[List.countP_eq_length.mpr λ_ _=>rfl,cP]
 have ge:=VD d W.pos;have le:v5 ds<=9:=by refine bP (RX (F:=3) λx av=>(D.aL x av).most) ?_;exact bP (wi Z0 D.most) Z0
 have po:=amI D;rw[t1,eI,RW]at hW;have fh:((hL<|d.map jG).map aG).H=d.H:=by rw[cP,(DG _).length_eq,cP]
 have d8:1<=d.H:=by
  cases d with
  |nil =>
   have:cI ([]:List Int)=0:=rfl;rw[qS,this]at hW;lia
  |cons _ _=>simp
 refine⟨_,e,(bP d8<|d2 fh.symm),by lia,λx av=>?_⟩;obtain⟨l,aB,rfl⟩:=ez.mp av;obtain⟨q,_,rfl⟩:=ez.mp<|(DG _).mem_iff.mp aB;rfl
def Ue(v:T):Prop:=(∃aO,v=.ao aO/\(∀y∈aO,eb 72 2 y=Y0)/\aO.H<=20)\/∃aO,v=.aD aO
def ahL(ns:List Int)(n:Nat)(bz:n<=1000)(cf bY ct fY eK fa:Option ZJ):∃v z gO n',Ue v/\eb 72 2 z=Y0/\n'<=n+200/\∀K:bw,bL Fu (bL Fv<|bL Fw<|bL Lv<|bL Fx K) [SC ns,TW,cf,bY,ct,fY,eK,fa,C,C,C] n=K [SC ns,TW,cf,bY,ct,fY,eK,fa,J (v,.ag),gO,J (z,.ag)] n':=by
 have de:bh=1000000:=rfl;obtain⟨ds,aM,dl,⟨D,_⟩,g1,g2,az⟩:=Sp ns 2 3 n Z0 Z0 Z0 Z0 Z3;have az:vG [ZQ,(.dq,Y0),(.int 2,Y0),(.int 3,Y0)] n=J (.aD ZB,Y1,aM):=az;obtain⟨xs,au,fh,anM,av⟩:=anf D aM;have Pj:Fu [SC ns,TW,cf,bY,ct,fY,eK,fa,C,C,C] n=J (.bD,[SC ns,TW,cf,bY,ct,fY,eK,fa,J (.ao xs,.aE),C,C],aM):=by unfold Fu SC TW;generalize T.aD ZB=tt at*;generalize ns.map T.int=sc at*;simp![az,eP,au]
 obtain⟨a,iS,a1,a6⟩:=qG ns aM xs.H Z3 Z3;obtain⟨j,rfl⟩:∃j:Nat,a=j:=⟨a.M,by lia⟩
 have bU:j<xs.H:=by lia
 have afu:Fv [SC ns,TW,cf,bY,ct,fY,eK,fa,J (.ao xs,.aE),C,C] aM=J (.bD,[SC ns,TW,cf,bY,ct,fY,eK,fa,J (.ao xs,.aE),J (.int j,.ag),C],aM+1):=by unfold Fv SC TW;generalize ns.map T.int=sc at*;simp![lr,a6,eP]
 have g:gF xs (j:Int)=J xs[j]:=by unfold gF;rw[Y2<|iS,Y2<|a1,ua,hj bU]
 have hm:=oA bU;obtain⟨fA,bC,bX,cN,g3,gL⟩:=Bs ns 1 Z0 8 _ (aM+1) Z0 Z0 (av _ hm) Z3;have b6:jl xs C (J (j:Int))=xs.take j:=Se xs j;have dA:jl xs (J<|(j:Int)+1) C=xs.drop (j+1):=by rw[show((j:Int)+1)=((j+1:Nat):Int) from rfl];exact Fb xs<|j+1
 have ad:∀(p q:List T) (n:Nat),p.H+q.H<=bh->ek n [.ao p,.ao q]=J (.ao<|p++q,.aE):=λp q n h=>by show(if p.H+q.H<=bh then J (T.ao<|p++q,bo.aE) else C)=_;rw[Y2 h]
 have LC:=ad (xs.take j) [fA] bC (by rw[jU,pM];lia);have LD:=ad (xs.take j++[fA]) (xs.drop<|j+1) bC (by rw[gr,jU,pM,gc];lia);have Dh:(xs.take j++[fA]++xs.drop (j+1)).H<=9:=by rw[gr,gr,jU,pM,gc];lia
 have Di:∀y∈xs.take j++[fA]++xs.drop (j+1),eb 72 2 y=Y0:=λy aK=>by
  have up:∀x∈xs,eb 72 2 x=Y0:=λx h=>vS Z0 1 2 x Z0<|av x h;rcases hR.mp aK with h|h
  ·rcases hR.mp h with h|h
   ·exact up y<|tU h
   ·rw[oy.mp h];exact cN
  ·exact up y<|we h
 have afv:Fw [SC ns,TW,cf,bY,ct,fY,eK,fa,J (.ao xs,.aE),J (.int j,.ag),C] (aM+1)=J (.bD,[SC ns,TW,cf,bY,ct,fY,eK,fa,J (.ao<|xs.take j++[fA]++xs.drop (j+1),.aE),J (.int j,.ag),C],bC):=by
  have cq:1<=bh:=by decide
  have bG:∀t,flag .ag t=Y0:=λ_=>rfl;have fN:∀t,look .ag t=.ag:=λ_=>rfl;unfold Fw SC TW;generalize xs[j]=xj at*;generalize xs.take j++[fA]++xs.drop (j+1)=u3 at*;generalize xs.take j++[fA]=f9 at*;generalize xs.take j=fX at*;generalize xs.drop (j+1)=u4 at*;generalize pA=FF at*;generalize ns.map T.int=sc at*;unfold lY lM lN;simp![b6,ts,g,bG,fN,bX,eP,dG,cq,LC,pn,dA,LD]
 generalize xs.take j++[fA]++xs.drop (j+1)=aO at*;obtain⟨v,bS,eR⟩:=Bg ns [.ao aO,.ao aO,.ao aO,.aD aO,.ao [],.ao aO.reverse] Y0 bC Z7 Z3;have afw:Lv [SC ns,TW,cf,bY,ct,fY,eK,fa,J (.ao aO,.aE),J (.int j,.ag),C] bC=J (.bD,[SC ns,TW,cf,bY,ct,fY,eK,fa,J (v,.ag),J (.int j,.ag),C],bC+1):=by
  have hn:0<=bh:=by decide
  have YW:6<=bh:=by decide
  have tp:qq bC [.ao aO]=J (.aD aO,.ag):=rfl;show dM 8 _ [SC ns,TW,cf,bY,ct,fY,eK,fa,J (.ao aO,.ag),J (.int j,.ag),C] bC=_;unfold SC TW;generalize aU:aO.reverse=yr at*;generalize ns.map T.int=sc at*;unfold BA;simp![dG,hn,YW,tp,aU,eR,eP]
 obtain⟨z,fV,fO,dE,mQ,sG⟩:=Bs ns 1 Z0 8 (.aD [.int 2,.int 3]) (bC+1) Z0 Z0 rfl Z3;have afx:Fx [SC ns,TW,cf,bY,ct,fY,eK,fa,J (v,.ag),J (.int j,.ag),C] (bC+1)=J (.bD,[SC ns,TW,cf,bY,ct,fY,eK,fa,J (v,.ag),J (.int j,.ag),J (z,.ag)],fV):=by have Nw:∀S m,cw (aa (aY ZC)<|aa (aY Zg) ar) S m=J (.aD [.int 2,.int 3],.ag,m):=λ_ _=>rfl;have fN:∀t,look .ag t=.ag:=λ_=>rfl;have bG:flag .ag (.aD [.int 2,.int 3])=Y0:=rfl;unfold Fx SC TW;generalize cw (aa (aY ZC)<|aa (aY Zg) ar)=fb at*;generalize T.aD [.int 2,.int 3]=t23 at*;generalize pA=FF at*;generalize ns.map T.int=sc at*;simp![Nw,bG,fO,fN,eP]
 refine⟨v,z,J (.int j,.ag),fV,?_,dE,by lia,λK=>by rw[h6 Pj,h6 afu,h6 afv,h6 afw,h6 afx]⟩;simp only[d4,qR,or_false]at bS;rcases bS with rfl|rfl|rfl|rfl|rfl|rfl
 ·exact .inl ⟨_,rfl,Di,(bP Dh Z0)⟩
 ·exact .inl ⟨_,rfl,Di,(bP Dh Z0)⟩
 ·exact .inl ⟨_,rfl,Di,(bP Dh Z0)⟩
 ·exact .inr ⟨_,rfl⟩
 ·exact .inl ⟨[],rfl,nofun,by decide⟩
 ·exact .inl ⟨_,rfl,λy aK=>Di y<|MU.mp aK,by rw[yp];exact bP Dh Z0⟩
theorem TM:∀L:List Z6,(∀q∈L,q.2<=4096)->cI (L.map (·.2))<=4096*(L.H:Int)
 |[],_=>by simp[cI]
 |q::L,h=>by have a:=h q<|dT ..;have b:=TM L λx av=>h x<|am _ av;rw[cU,d9];show q.2+cI _<=_;lia
def afy(h:Ue v)(n:Nat):∃b,kC [(v,Y0)] n=J (.aC b,Y1,n)/\Bn [(v,Y0)] n=J (.aC b,Y1,n)/\(b=Y0->∃L,v=.ao (e2 L)/\tO L/\h4 L<=90000):=by
 rcases h with⟨aO,rfl,aK,aB⟩|⟨aO,rfl⟩
 ·refine⟨yl aO,afh aK (bP aB Z0) n,afj aK Z0 (bP aB Z0) n,λe=>?_⟩;unfold yl at e;rw[f5,f5]at e;obtain⟨az,au,a6⟩:=e;obtain⟨L,rfl,el⟩:=FP au;have zp:(e2 L).H=L.H:=cP ..;unfold x6 at a6;rw[FQ,decide_eq_true_iff]at a6;have bW:(L.map (·.1)).Nodup:=by rw[a6];exact(sortI_perm _).nodup_iff.mpr (AJ _)
  have w3:(L.map (·.1)).Pairwise (·<=·):=by rw[a6];exact rp _
  refine⟨L,rfl,⟨(λz=>by subst z;exists az),(w3.and bW).imp λh=>by lia,el⟩,?_⟩;have:=TM L λq a7=>(el q a7).2.2.2;unfold h4;lia
 ·exact⟨Y1,rfl,rfl,nofun⟩
def bG(t:T):flag .ag t=Y0:=rfl
def fN(t:T):look .ag t=.ag:=rfl
def ajC{n:Nat}(h:kC [(v,Y0)] n=J Zr)(x0 bH cf bY ct eK fa gO:Option ZJ) :
  Ls [x0,bH,cf,bY,ct,J (o,.ag),eK,fa,J (v,.ag),gO,J (z,.ag)] n=J (.ao<|List.replicate 3<|ey 2,.aE,n):=by
 have de:bh=1000000:=rfl;have x:=afp h;have:=ik (it:=iC<|aa Zg ar) (l:=[C,J 0,J 1,J 2,J 3,J 4,J 5,J 6,J 7,J 8,J 9,J 10]) (i:=0) (e:=bB 5 gQ<|ax ZC<|ax (ai 0)<|ax (ai 9)<|ax (ai 11)<|ax (ai 6) a9)
  (S:=[x0,bH,cf,bY,ct,J (o,.ag),eK,fa,J (v,.ag),gO,J (z,.ag)]) (n:=n) [(0:Int),1,2] T.int (λ_=>ey 2) rfl (by show 3<=bh;decide) λw hw=>by have e:=LJ (c:=o) (alu (z:=z) (o:=o) x (w:=w)<|by simpa using hw)<|.inr<|.inr<|.inl rfl;have qe:ho (ey 2)=Y1:=rfl;generalize ey 2=u at*;simp![ck,bG,fN,e,eP,qe]
 exact this
def ajD{W k:Nat}{n:Nat}(h:kC [(v,Y0)] n=J (.aC Y0,Y1,n))(hz:eb W k z=Y0)(aZ:o∈five)(x0 bH cf bY ct eK fa gO:Option ZJ) :
  Lu [x0,bH,cf,bY,ct,J (o,.ag),eK,fa,J (v,.ag),gO,J (z,.ag)] n=J (.ao<|List.replicate 2<|ey 3,.aE,n):=by
 have de:bh=1000000:=rfl;obtain⟨fs,ja,Iv,Dg⟩:=LN o aZ;obtain⟨x,dF⟩:=TH h;have:=ik (it:=iC<|aa ZC ar) (l:=[C,J 0,J 1,J 2,J 3,J 4,J 5,J 6,J 7,J 8,J 9,J 10]) (i:=0) (e:=bB 5 gQ<|ax ZC<|ax (ai 0)<|ax (ai 9)<|ax (ai 11)<|ax (ai 6) a9)
  (S:=[x0,bH,cf,bY,ct,J (o,.ag),eK,fa,J (v,.ag),gO,J (z,.ag)]) (n:=n) [(0:Int),1] T.int (λ_=>ey 3) rfl (by show 2<=bh;decide) λw hw=>by have e:=LJ (c:=o) (alv (z:=z) (o:=o) x dF hz fs Dg (w:=w)<|by simpa using hw)<|.inr<|.inr<|.inr rfl;have qe:ho (ey 3)=Y1:=rfl;generalize ey 3=u at*;simp![ck,bG,fN,e,eP,qe]
 exact this
def ajE{n:Nat}(bS:v=.ao (e2 L))(Dj:tO L)(hW:h4 L<=90000)(h:kC [(v,Y0)] n=J (.aC Y0,Y1,n))(cA:eb 72 2 t=Y0)(x0 bH cf bY ct fY eK gO mD:Option ZJ) :
  Lw [x0,bH,cf,bY,ct,fY,eK,J (t,.ag),J (v,.ag),gO,mD] n=J (.bD,[x0,bH,cf,bY,ct,fY,eK,J (t,.ag),J (v,.ag),gO,mD],n):=by
 obtain⟨x,dF⟩:=TH h;have ld:=LF cA n;have jx:∀S m,cw (aa ZL<|aa (aY ZD) ar) S m=J (ey 0,.ag,m):=λ_ _=>rfl;unfold Lw;generalize cw (aa ZL<|aa (aY ZD) ar)=ko at*;cases hd:gq t with
 |false =>
  have e:=LA cA n;rw[hd]at e ld;have a:=LJ (c:=.br) (ane (o:=.br) x dF<|Sn e<|.inl rfl)<|.inl rfl;have ne:=VC 0 n;generalize ey 0=u at*;simp![bG,fN,a,eP,jx,ne]
 |true =>
  rw[hd]at ld;obtain⟨l,rfl,D⟩:=LO hd;obtain⟨r,M⟩:=ak4 D.one (h4 L).M L Dj.gs Z3;have m:=missing D Z0 Dj hW M n;rw[<-bS]at m;obtain⟨u,a⟩:=alq (c:=.br)<|afr (o:=.br) x dF (xZ<|rH D Z0 n) (rI D Z0 n) m;have ne:gp n [.aD [.str "told",.aC u],ey 0]=J Zk:=by rw[xS];rfl
  have f1:flag .ag (aG l)=Y0:=rfl;have f2:look .ag (aG l)=.ag:=rfl;generalize T.aD [.str "told",.aC u]=uu at*;generalize ey 0=u at*;generalize aG l=tt at*;simp![bG,fN,a,eP,jx,ne,ld]
def run:∀ns:List Int,ns.H<=63->∃S' n',Gr (o7 ns 11) 0=J (.aV (.aC Y0) Y1,S',n'):=by
 intro ns _;have de:bh=1000000:=rfl;obtain⟨t,aM,bY,af,fh,H7⟩:=ahE ns;obtain⟨o,eK,aZ,H8⟩:=ahH ns af aM (bP fh Z0) bY;obtain⟨d,qK,bC,hd,fF,H9⟩:=ahK ns aZ (aM+1) (Nat.succ_le_of_lt<|gT fh Z0) Zp bY (J (.aC<|gR t,.ag)) eK;obtain⟨v,z,gO,fV,bS,hz,fc,Ia⟩:=ahL ns bC Z3 Zp bY (J (.aC<|gR t,.ag)) (J (o,.ag)) qK<|some (d,.ag);unfold Gr;rw[H7,h6<|Al af aM (SC ns) TW bY C C C C C C,H8,H9,Ia];obtain⟨b,eV,fM,uo⟩:=afy bS fV;cases b with
 |false =>
  have j0:=ajC (z:=z) (o:=o) eV (SC ns) TW Zp bY (J (.aC<|gR t,.ag)) qK (J (d,.ag)) gO;have iz:∀S m,lA (dG<|aa (aY<|cw<|aa ZL<|aa (aY ZC) ar) ar) Zg S m=J (.ao<|List.replicate 3<|ey 2,.aE,m):=λ_ _=>rfl;have eq:=(Bu 3 2 fV).2;refine⟨[SC ns,TW,J (t,.ag),bY,J (.aC<|gR t,.ag),J (o,.ag),qK,J (d,.ag),J (v,.ag),gO,J (z,.ag)],fV,?_⟩;unfold Fy;generalize lA (dG<|aa (aY<|cw<|aa ZL<|aa (aY ZC) ar) ar) Zg=RP at*;generalize List.replicate 3 (ey 2)=hr at*;generalize Ls=C3 at*;simp![bG,fN,fM,eP,j0,iz,eq]
 |true =>
  obtain⟨L,el,Dj,hW⟩:=uo rfl;have q9:=ajD eV hz aZ (SC ns) TW Zp bY (J (.aC<|gR t,.ag)) qK (J (d,.ag)) gO;have iz:∀S m,lA (dG<|aa (aY<|cw<|aa ZL<|aa (aY Zg) ar) ar) ZC S m=J (.ao<|List.replicate 2<|ey 3,.aE,m):=λ_ _=>rfl;have eq:=(Bu 2 3 fV).2;have afz:Fy [SC ns,TW,J (t,.ag),bY,J (.aC<|gR t,.ag),J (o,.ag),qK,J (d,.ag),J (v,.ag),gO,J (z,.ag)] fV=J (.bD,[SC ns,TW,J (t,.ag),bY,J (.aC<|gR t,.ag),J (o,.ag),qK,J (d,.ag),J (v,.ag),gO,J (z,.ag)],fV):=by unfold Fy;simp![bG,fN,fM,eP]
  rw[h6 afz,h6<|ajE el Dj hW eV hd (SC ns) TW Zp bY (J (.aC<|gR t,.ag)) (J (o,.ag)) qK gO<|some (z,.ag)];refine⟨[SC ns,TW,J (t,.ag),bY,J (.aC<|gR t,.ag),J (o,.ag),qK,J (d,.ag),J (v,.ag),gO,J (z,.ag)],fV,?_⟩;unfold Tp;generalize lA (dG<|aa (aY<|cw<|aa ZL<|aa (aY Zg) ar) ar) ZC=RP at*;generalize List.replicate 2 (ey 3)=hr at*;generalize Lu=C4 at*;simp![q9,iz,eq]
end vK
section
namespace PySem.W.Fast
def tw12327172234283379649:=Nat
def tw6126471874903412461:=Nat
def tw502460200870532032:=Nat
def tw9376327499245557010:=Nat
def tw3992295924816529805:=Nat
def tw3834945924190839400:=Nat
def tw14556922858155906059:=Nat
def tw249168760021602073:=Nat
def tw17842851215384356138:=Nat
def tw3871210743905056128:=Nat
def tw287683335596748671:=Nat
def tw336782282441620257:=Nat
def tw3032839583783498208:=Nat
def tw13971601724555996169:=Nat
def tw6361147146359356431:=Nat
def tw13519730840647999123:=Nat
def tw9037658481461304729:=Nat
def tw8758154573996138933:=Nat
def tw9730369903375722487:=Nat
def tw8667959842113568827:=Nat
def tw12554888226953024866:=Nat
def tw14103418596703471567:=Nat
def tw8195973937810026281:=Nat
def tw13322807678304825790:=Nat
def tw972193130439514229:=Nat
def tw2645835791019189926:=Nat
def tw7098589679870186598:=Nat
def tw18233495306947737572:=Nat
def tw17460969631850468065:=Nat
def tw9468600863245794703:=Nat
def tw18417235731026944809:=Nat
def tw18245931354186619773:=Nat
def tw18366838910223749054:=Nat
def tw13017558139284112170:=Nat
def tw13884406200199308829:=Nat
def tw15168098064255141063:=Nat
def tw2463650311342434579:=Nat
def tw8410125230002603049:=Nat
def tw1758121430725629181:=Nat
def tw2205435258846116595:=Nat
def tw17588502159705599984:=Nat
def tw10143425701891128801:=Nat
def tw3188836136037642254:=Nat
def tw16030359195008451163:=Nat
def tw16580976541732849279:=Nat
def tw11734560783384800533:=Nat
def tw8764172897296913146:=Nat
def tw9700933538485156753:=Nat
def tw8329654105315113306:=Nat
def tw5986497143955755296:=Nat
def tw16453996277386829597:=Nat
def tw12305319542103133017:=Nat
def tw4704561456666683294:=Nat
def tw4846616277789166700:=Nat
def tw7987308429505008586:=Nat
def tw1954360302721039494:=Nat
def tw10460552546877316489:=Nat
def tw354170889171435263:=Nat
def tw18398035435228453066:=Nat
def tw6061851146757648038:=Nat
def tw9929593403132771367:=Nat
def tw18234670702549702956:=Nat
def tw16553043626315368939:=Nat
def tw13631670900177120347:=Nat
def tw16283848900370337666:=Nat
def tw2474991517312649350:=Nat
def tw3537325796662158488:=Nat
def tw14697709250670812051:=Nat
def tw1288810959016858412:=Nat
def tw13739992096091213094:=Nat
def tw13874257040609619816:=Nat
def tw1809648669532827434:=Nat
def tw6510485551749125343:=Nat
def tw1485252164312988971:=Nat
def tw13427155804747922262:=Nat
def tw4164635537269010584:=Nat
def tw2608919504751743072:=Nat
def tw13660164784617389951:=Nat
def tw12469165517804870763:=Nat
def tw10362349469881801610:=Nat
def tw11068326963678023544:=Nat
def tw12424806165354272864:=Nat
def tw2081233463498809872:=Nat
def tw13241637173563651307:=Nat
def tw18370554106776453556:=Nat
def tw10358311036906810772:=Nat
def tw11913259029543202522:=Nat
def tw12153381138956559664:=Nat
def tw17663396993319788886:=Nat
def tw18134305169135381720:=Nat
def tw5995876182584479134:=Nat
def tw3796212778463134982:=Nat
def tw3103051286897252461:=Nat
def tw11806336801009855597:=Nat
def tw5416361869182755398:=Nat
def tw15410679548966580461:=Nat
def tw15355596566950249518:=Nat
def tw6615054223398971947:=Nat
def tw18430187291177341510:=Nat
def tw16669450576058994232:=Nat
def tw9999649601014889085:=Nat
def tw4996338577797702205:=Nat
def tw3579500252657185734:=Nat
def tw2498430433146719451:=Nat
def tw5401183495080046100:=Nat
def tw16680036407313180870:=Nat
def tw8857148693921496879:=Nat
def tw5467991267059847931:=Nat
def tw15156587226535690344:=Nat
def tw5201393775647940108:=Nat
def tw1496047883154763814:=Nat
def tw9335373182683823542:=Nat
def tw16366033802568050023:=Nat
def tw14090486921959633969:=Nat
def tw7651385938398109140:=Nat
def tw2586452120888811633:=Nat
def tw2115956290992277698:=Nat
def tw13881597267108713253:=Nat
def tw1730182601050524981:=Nat
def tw2694453216653430203:=Nat
def tw13840255767930810052:=Nat
def tw3560053181547711113:=Nat
def tw11305943089497203937:=Nat
def tw18123564285991556857:=Nat
def tw100740752298419749:=Nat
def tw2247888813437123768:=Nat
def tw17009585527168347226:=Nat
def tw12413116036710463899:=Nat
def tw9221252680902183985:=Nat
def tw16328495628193743785:=Nat
def tw9670273809404431184:=Nat
def tw8016411965307183960:=Nat
def tw18001762070967181101:=Nat
def tw5774132095343143531:=Nat
def tw12816395122433610056:=Nat
def tw6517263452712884771:=Nat
def tw11000272448239783951:=Nat
def tw5839966324646218281:=Nat
def tw1194314835446371027:=Nat
def tw11583923192590828051:=Nat
def tw2486800698400042211:=Nat
def tw14245890875995828747:=Nat
def tw15100523096144585183:=Nat
def tw18030721741714811992:=Nat
def tw11692070644250949580:=Nat
def tw12065079114008627595:=Nat
def tw4272550568035369131:=Nat
def tw4881228654699714881:=Nat
def tw2347848130765628883:=Nat
def tw13909941549879419138:=Nat
def tw7714106782002746590:=Nat
def tw10161013865398945588:=Nat
def tw7876547594210714848:=Nat
def tw2688889753714182411:=Nat
def tw2186725031416656602:=Nat
def tw9800988813609568162:=Nat
def tw10220153693715570329:=Nat
def tw15724745503628249549:=Nat
def tw17058024361289668144:=Nat
def tw3611865091629235083:=Nat
def tw5926261476083666128:=Nat
def tw4069917537879219208:=Nat
def tw3957062061844869686:=Nat
def tw9010614954582417000:=Nat
def tw9664331305067563868:=Nat
def tw322840561897178717:=Nat
def tw7321876537534045368:=Nat
def tw4252565358203321049:=Nat
def tw2325948004026829341:=Nat
def tw12824902094261570168:=Nat
def tw17989469602056849904:=Nat
def tw14216611979886767155:=Nat
def tw8064007462131355473:=Nat
def tw17829411809851261117:=Nat
def tw660935564963667615:=Nat
def tw14046219963370767702:=Nat
def tw2495548295376096426:=Nat
def tw15461368445264885125:=Nat
def tw8488202611839337436:=Nat
def tw13091071039207349185:=Nat
def tw14172474116277300441:=Nat
def tw17408537269085577878:=Nat
def tw16359283552722967622:=Nat
def tw17387864366650264582:=Nat
def tw11875938558761073689:=Nat
def tw954900464949974388:=Nat
def tw8251390562880192644:=Nat
def tw2550637802574101835:=Nat
def tw1403837087594272818:=Nat
def tw17969312434510831867:=Nat
def tw5082573994179997510:=Nat
def tw17413201435095883261:=Nat
def tw12256801248185727864:=Nat
def tw6558506790346478968:=Nat
def tw6404249809065448340:=Nat
end PySem.W.Fast
open PySem PySem.W PyProof.Rows
set_option maxRecDepth 100000 in
set_option maxHeartbeats 0 in
theorem PySem.Challenge.cw_dicesums_k10_whole_refused_anywhere_holds : PySem.Challenge.rw_dicesums_k10_whole_refused_anywhere.Holds := by
  w_on; o_law; k_head; (case hw=>w_witness2)
  k_fill
  refine bj.bO.ag5 (l:=PySem.Challenge.rw_dicesums_k10_whole_refused_anywhere) 10 rfl rfl ⟨rfl, by decide, by decide⟩ (λw h Y=>W.kIn_of Y) ?F
  case F =>
    intro w a3 da h lI G zV;refine' vK.all_mk ?Y zV vK.run;constructor;exact lI;exact G
    all_goals first
      |(apply bj.bO.akL; k_is; k_is; k_is; k_is)
      |(refine W.mg_none_of lI G ?_; k_is)
      |(refine W.mg_of lI G ?_; k_is)
      |k_exc
      |k_is
      |(constructor<;>first|k_is|(apply bj.bO.some_of; k_is))
end