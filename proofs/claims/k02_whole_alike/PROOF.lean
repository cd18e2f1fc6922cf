import PyProof.Rows.All
import Wide.All
import OpenK.AllK
import Wide.FinOn
import PyProof.EqAt
import PyProof.EqKinds
import PyProof.TupleCall
import Lean
import PySem.Challenge.RW_dicesums_k02_whole_alike
set_option autoImplicit true
local macro_rules | `(tactic| fail) => `(tactic| (extract_lets +onlyGivenNames -underBinder zz; subst zz))
set_option Elab.async false
set_option linter.all false
set_option maxRecDepth 100000
set_option maxHeartbeats 0
set_option bootstrap.genMatcherCode false
set_option compiler.extract_closed false
set_option genSizeOfSpec false
noncomputable section
open List renaming length_map->a5,mem_cons_of_mem->a6,mem_cons_self->a7,map_cons->a8,length_cons->aa,mem_cons->ae,size_toArray->ah,getElem?_eq_getElem->ai,getD_eq_getElem?_getD->az,map_map->b6,mem_map->b7,mem_singleton->b8,getElem?_eq_some_iff->b9,append_assoc->be,length_append->bf,set_cons_succ->bg,set_cons_zero->bh,getElem?_map->bo,all_eq_true->br,mem_map_of_mem->bw,map_append->c5,length_take->c7,map_congr_left->c8,mem_append_right->cf,drop_eq_getElem_cons->cg,mem_append->ci,foldl_cons->cj,pairwise_cons->ck,pairwise_append->cq,getElem_mem->cv,take_append_drop->dO,flatMap_cons->dQ,replicate_succ->dW,mem_filter->dX,nodup_cons->dY,length_set->d4,eq_nil_of_length_eq_zero->d5,length_drop->d8,perm_append_comm->d9,length_nil->di,nil_append->dj,take_of_length_le->dq,all_cons->dr,length_replicate->dv,find?_cons->dw,map_nil->eD,getElem?_cons_zero->eE,getElem?_append_left->eG,countP_cons->eI,cons_append->eJ,lookup_cons->eK,mem_append_left->eQ,mem_of_mem_take->eS,flatten_cons->eV,pairwise_map->eX,filterMap_cons->eY,drop_eq_nil_of_le->eh,mem_range->ej,getElem?_append_right->eu,append_nil->fA,any_cons->fB,drop_sublist->fC,extract_eq_take_drop->fD,pairwise_iff_getElem->fE,mem_of_getElem?->fH,mem_iff_getElem->fI,take_length->fJ,length_reverse->fK,map_flatMap->fL,getElem?_replicate->fM,getElem?_cons_succ->fP,take_sublist->fS,reverse_cons->fT,length_singleton->fU,getElem_drop->fV,getElem_take->fW,length_filter_le->fZ,mem_flatMap->fj,flatMap_map->fk,not_mem_nil->fq,countP_eq_zero->fu,mem_or_eq_of_mem_set->fw,drop_zero->gB,getElem?_set->gC,length_range->gD,findIdx?_eq_some_iff_getElem->gF,nodup_append->gG,set_eq_take_append_cons_drop->gH,getElem?_set_self->gJ,getElem?_eq_none->gM,all_map->gQ,filter_eq_self->gU,length_pos_iff->gV,drop_drop->gZ,countP_append->gg,length_eraseIdx_of_lt->gi,foldl_append->gj,findIdx?_eq_none_iff->gn,rel_of_pairwise_cons->gq,getElem?_take_of_lt->gu,any_eq_true->gz,length_eq_zero_iff->hV,set_set->h7,pairwise_singleton->h9,of_mem_zip->iB,range_succ_eq_map->iC,pairwise_lt_range->iD,countP_map->iH,countP_mono_left->iI,getElem?_toArray->iJ,take_succ->iM,getElem?_set_ne->iQ,mem_of_mem_drop->iT,take_succ_cons->iW,take_add->iX,sum_cons->i0,countP_pos_iff->i3,countP_flatMap->i4,map_take->i5,mem_filterMap->i7,filterMap_map->i8,length_zipIdx->ie,zip_cons_cons->ig,flatMap_assoc->ip,mem_replicate->ir,any_eq_false->iz,take_add_one->jB,ext_getElem?->jD,getElem_inj->jF,zipIdx_cons->jH,map_snd_zip->jI,filter_cons->jL,map_id->jM
open Nat renaming le_refl->a9,le_trans->ao,ne_of_lt->au,lt_of_lt_of_le->bz,lt_succ_of_lt->c6,le_of_lt->c9,lt_or_ge->dP,zero_le->dm,mul_le_mul_right->dy,pow_le_pow_right->dz,lt_irrefl->eF,lt_succ_self->eN,zero_add->ez,mul_assoc->fG,succ_mul->fO,le_mul_of_pos_right->fQ,ne_of_gt->f9,add_assoc->gN,lt_trans->gO,le_of_eq->gP,mul_comm->gR,mul_le_mul_left->gW,le_of_not_lt->gx,one_mul->iK,add_sub_cancel->i9,pos_of_ne_zero->io,add_comm->iu,sub_zero->iw,pow_succ->iy,le_succ_of_le->jC,le_succ->jK,not_lt->jO
open PySem.Heap renaming get?_push_of_some->a0,get?_push_size->af,lt_size->aj,size_push->cp,get?_update_self->dN,get?_update_other->dZ,get?_push_ne->dg,size_update->eO,get?_update_ne->iY
open Option renaming bind_some->aq,map_some->d7,isSome_map->jE,getD_none->jG
open Array renaming length_toList->aw,getElem?_toList->bj,getElem_mem->bv,getElem?_eq_getElem->d6,toArray_toList->eR,toList_append->eZ,toList_extract->fg,perm_iff_toList_perm->fh,toList_push->gE,getElem?_eq_none->gK,size_map->gc,toList_setIfInBounds->gh,toList_reverse->iU,getElem_toList->iV,forIn_toList->ii,size_append->jA,toList_map->jJ
open Bool renaming and_eq_true->bq,false_eq_true->bu,false_ne_true->dU,eq_iff_iff->gA,and_false->gX,not_true->iZ,not_eq_true->jN
open Int renaming toNat_natCast->du,le_trans->fc,emod_lt_of_pos->gf,emod_nonneg->iG,le_refl->iL,sub_eq_add_neg->iq
open PySem.Calls renaming spliced_cons->dS,spliced_nil->eU,callWith_builtin->fR,call_function_entry->ft,evalArgs_plain->iR
open PySem renaming wpAny_bind->jP,wpAny_pure->jQ,Shared->jR,sizeLine->jU,starEach->jV,Program->jW,Around->jY,wpAny_newObj_type->jZ,wpAny_call_entry->j3,wpAny_holding->j5,compareOp->j6,wpAny_mono->j8,intKind->j9,rawInt->jc,wpAny_callSpecial?_slot->je,wpAny_rule->jf,backTo->jg,mainGlobals->ji,wpAny_Call_Name_kw->jj,assignEach->jk,codeAny_builtin->jl,plainId_quiet->jn,wpAny_setField->jo,sysModules->jq,FuncData->jr,boot_len->ju,foldedSetIterable->jw,wpAny_truthy_bool->jx,wpAny_isInstance->jy,sizeLine_eq->jz,wpAny_field->kA,bootBuiltins->kD,wpAny_typeOf->kE,codeAny->kF,wpAny_updateSeq->kG,attributeBase->kH,scanBound->kI,wpAny_seqItems->kJ,pyIter->kK,holding->kL,assign->kM,pyNext->kN,wpAny_typeNameOfWhole_keyiter->kP,wpAny_setState_of->kQ,fits_of_scanBound->kR,getItem->kT,builtinLookup_eq_fast->kU,binaryOp->kX,SetTable->kZ,wpAny_askSetting->k6,wpAny_attempt->k8,sliceBounds->k9,wpAny_passesOwn->kc,swapsWith->kg,codeAny_mono->kh,pickOrder->km,call_meets->ko,isSubtype_type->kq,wpAny_pyIter_list->kr,wpAny_pyIter_enum->kx,wpAny_of_eq->lA,behindInMarks->lB,wpAny_newList->lC,NameKind->lD,wpAny_notOrdered_dict->lE,letOwnedTupleGo->lG,wpAny_loadPart'->lH,typeLookup_type->lI,wpAny_specialOf->lK,IsTupleKey->lL,wpAny_setEntries_of->lN,wpAny_tryCatch->lO,firstArgMember->lP,wpAny_pyIter_tuple->lR,wpAny_tupleItemsOf->lS,wpAny_letOwnedTupleGo_enum->lU,wpAny_sequenceKey->lV,wpAny_pyIter_slot->lW,wpAny_setEpoch_of->lX,wpAny_getItem_list_slice->lY
open PyProof.Rows renaming wpS_bind->jS,wpS_pure->jT,pendingOf->jX,SortSt->j4,seqObj->j7,IntsAre->jb,wpS_forRange->jd,kindOf->jh,wpS_mono->jm,setArr->jt,boot_tuple->kC,failedOf->kO,wpS_get->kW,gallopOf->kY,listUpdate_at->k7,slot_tupleiter_next->ka,wpS_lift->kj,boot_sorted->kz,boot_dict->lF,wpS_modify->lJ,entry_tuple_getitem->lM,args_tuple_getitem->lQ
theorem az0 (h : True := by rfl) : True := trivial
theorem az0.x:True:=trivial
open az0 renaming _auto_1->lZ
theorem az1 (h : True := by decide) : True := trivial
theorem az1.x:True:=trivial
open az1 renaming _auto_1->l5
theorem az2 (h : True := by first |exact .inl rfl |exact .inr rfl |assumption) : True := trivial
theorem az2.x:True:=trivial
open az2 renaming _auto_1->l6
theorem az3 (h : True := by intro _; rfl) : True := trivial
theorem az3.x:True:=trivial
open az3 renaming _auto_1->l7
theorem az4 (h : True := by first |exact Or.inl rfl |exact Or.inr rfl) : True := trivial
theorem az5 (h : True := by with_unfolding_all rfl) : True := trivial
theorem az6 (h : True := by intros; rfl) : True := trivial
theorem az7 (h : True := by first |exact Or.inl rfl |exact Or.inr (Or.inl rfl) |exact Or.inr (Or.inr rfl)) : True := trivial
theorem az8 (h : True := by first |exact nobehind _ (by decide) (by decide) |rfl) : True := trivial
set_option hygiene false
open Lean in
def Zt0(n:Nat):MacroM Term:=match n with
|10=>`(by lia)
|11=>`(List Int)
|12=>`(model X.prog X.w)
|13=>`(aCj 3 setL (dPr pAdd (aAa (dVar 4) (aAa (dVar 5) dNil))) (dPr pAdd (aAa (dPr aC4 (aAa (dVar 3) (aAa (dPr pAdd (aAa (dVar 4) (aAa (dVar 5) dNil))) (aAa (dK (.int 0)) dNil)))) (aAa (dPr pGet (aAa (dVar 1) (aAa (dVar 4) dNil))) dNil))))
|14=>`(by decide)
|15=>`((.tup ((a::b::r).map tupT),.fz))
|16=>`(model prog w)
|17=>`(Int × Int)
|18=>`(aBl (dIt (dVar 2)) (srcOf [none,some 0,some 1,some 2,some 3,some 4]) (putAt 0) yes (dPr pAdd (aAa (dVar 5) (aAa (dTup (aAa (dFz (dVar 0)) dNil)) dNil))))
|19=>`(by simp)
|20=>`((.tup ((a::b::r).map tupT).reverse,.fz))
|21=>`(Addr × Obj)
|22=>`(by omega)
|23=>`((.lst (ns.map .int),.bor))
|24=>`((x==("__debug__" : Str))=false)
|_=>Macro.throwUnsupported
open Lean in
def Ztab(n:Nat):MacroM Term:=match n/32 with
|0=>Zt0 (n%32)
|_=>Macro.throwUnsupported
open Lean in
def Zval(c:Char):Nat:=let n:=c.toNat;if n<58 then n-48 else if n<90 then n-55 else n-62
open Lean in
local macro_rules
|`($x:ident)=>do
 let s:=x.getId.toString
 if s.front != 'Z' then Macro.throwUnsupported
 match (s.toList.drop 1).map Zval with
 |[a]=>Ztab a
 |[a,b]=>Ztab (61+a*61+b)
 |_=>Macro.throwUnsupported
section
namespace L2
open PySem PySem.Spec PyProof.Rows
abbrev Key:=Sum Int Str
def aT2:Key->Value->Bool
 |.inl k,v=>Value.isInt k v
 |.inr x,v=>Value.isStrOf x v
def keyH(w:World):Key->Int
 |.inl k=>hashInt k
 |.inr x=>hashStr w x
theorem aBj:∀ {k:Key} {v:Value},aT2 k v=true->(∃i t,k=Sum.inl i/\v=Value.int i t)\/(∃x t,k=Sum.inr x/\v=Value.str x t)
 |.inl i,v,h=>by obtain⟨t,e⟩:=Value.isInt_shape (k:=i) (v:=v) h;exact .inl ⟨i,t,rfl,e⟩
 |.inr x,v,h=>by obtain⟨t,e⟩:=Value.isStrOf_shape (x:=x) (v:=v) h;exact .inr ⟨x,t,rfl,e⟩
theorem bBo(i:Int)(t:Tok):aT2 (.inl i) (.int i t)=true:=by simp[aT2,Value.isInt]
theorem bA0(x:Str)(t:Tok):aT2 (.inr x) (.str x t)=true:=by simp[aT2,Value.isStrOf]
theorem key_ll(a b:Int):decide ((Sum.inl a:Key)=Sum.inl b)=(a==b):=by
 by_cases e:a=b
 ·subst e;simp
 ·have h:¬ (Sum.inl a:Key)=Sum.inl b:=fun q=>e (Sum.inl.inj q);rw[decide_eq_false h];exact(beq_eq_false_iff_ne.mpr e).symm
theorem key_rr(a b:Str):decide ((Sum.inr a:Key)=Sum.inr b)=decide (a=b):=by
 by_cases e:a=b
 ·subst e;simp
 ·have h:¬ (Sum.inr a:Key)=Sum.inr b:=fun q=>e (Sum.inr.inj q);rw[decide_eq_false h,decide_eq_false e]
theorem key_lr(a:Int)(b:Str):decide ((Sum.inl a:Key)=Sum.inr b)=false:=decide_eq_false (fun q=>nomatch q)
theorem key_rl(a:Str)(b:Int):decide ((Sum.inr a:Key)=Sum.inl b)=false:=decide_eq_false (fun q=>nomatch q)
def aAz(prog:jW)(w:World):PySem.KeyKind prog w Key where
 is:=aT2
 hash:=keyH w
 inj:=fun v a b ha hb=>by
  rcases aBj ha with ⟨i,t,rfl,rfl⟩ |⟨x,t,rfl,rfl⟩
  ·rcases aBj hb with ⟨j,u,rfl,e⟩ |⟨y,u,rfl,e⟩
   ·injection e with e1 _;rw[e1]
   ·exact nomatch e
  ·rcases aBj hb with ⟨j,u,rfl,e⟩ |⟨y,u,rfl,e⟩
   ·exact nomatch e
   ·injection e with e1 _;rw[e1]
 byValue:=fun k v h=>by rcases aBj h with ⟨i,t,rfl,rfl⟩ |⟨x,t,rfl,rfl⟩<;>rfl
 pyHash:=fun hv h=>by
  rcases aBj hv with ⟨i,t,rfl,rfl⟩ |⟨x,t,rfl,rfl⟩
  ·exact wpAny_pyHash_int h
  ·exact wpAny_pyHash_str h
 eqBool:=fun hu hv h=>by
  rcases aBj hu with ⟨i,t,rfl,rfl⟩ |⟨x,t,rfl,rfl⟩
  ·rcases aBj hv with ⟨j,u,rfl,rfl⟩ |⟨y,u,rfl,rfl⟩
   ·rw[key_ll] at h;exact wpAny_eqBool_int h
   ·rw[key_lr] at h;exact SeqAt.EqAt.int_str i t y u _ _ _ _ h
  ·rcases aBj hv with ⟨j,u,rfl,rfl⟩ |⟨y,u,rfl,rfl⟩
   ·rw[key_rl] at h;exact SeqAt.EqAt.str_int x t j u _ _ _ _ h
   ·rw[key_rr] at h;exact wpAny_eqBool_str h
 «strs»:=fun k x t v h=>by
  rcases aBj h with ⟨i,u,rfl,e⟩ |⟨y,u,rfl,e⟩
  ·exact nomatch e
  ·injection e with e1 _;subst e1;cases v<;>rfl
theorem aTa(prog:jW)(w:World)(i:Int)(t:Tok):(aAz prog w).is (.inl i) (.int i t)=true:=bBo i t
theorem aUf(prog:jW)(w:World)(x:Str)(t:Tok):(aAz prog w).is (.inr x) (.str x t)=true:=bA0 x t
inductive V where
 |non |bl (b:Bool) |int (i:Int) |str (x:Str) |byt (b:Array UInt8) |flt (b:UInt64) |ref (a:Addr) |ty (n:String)
 deriving DecidableEq
def RelV:V->Value->Prop
 |.non,u=>u=Value.none
 |.bl b,u=>u=Value.bool b
 |.int i,u=>∃t,u=Value.int i t
 |.str x,u=>∃t,u=Value.str x t
 |.byt b,u=>∃t,u=Value.bytes b t
 |.flt b,u=>∃t,u=Value.float b t
 |.ref a,u=>u=Value.ref a
 |.ty n,u=>u=Value.type n
abbrev Vals:List V->List Value->Prop:=Paired RelV
theorem Vals.length(r:Vals xs us):xs.length=us.length:=Paired.length r
theorem Vals.get:∀ {xs:List V} {us:List Value} {i:Nat} {x:V},Vals xs us->xs[i]?=some x->∃u,us[i]?=some u/\RelV x u
 |_,_,_,_,.nil,e=>by simp at e
 |_,_,0,_,.cons r _,e=>by simp at e;subst e;exact⟨_,rfl,r⟩
 |_,_,i+1,x,.cons _ t,e=>by obtain⟨u,h1,h2⟩:=Vals.get (i:=i) (x:=x) t (by simpa using e);exact⟨u,by simpa using h1,h2⟩
theorem Vals.set(r:RelV x u):∀ {xs:List V} {us:List Value} (i:Nat),Vals xs us->Vals (xs.set i x) (us.set i u)
 |_,_,_,.nil=>.nil
 |_,_,0,.cons _ t=>.cons r t
 |_,_,i+1,.cons q t=>.cons q (Vals.set r i t)
theorem Vals.append:∀ {xs ys:List V} {us ws:List Value},Vals xs us->Vals ys ws->Vals (xs++ys) (us++ws)
 |_,_,_,_,.nil,s=>s
 |_,_,_,_,.cons r t,s=>.cons r (Vals.append t s)
theorem Vals.take:∀ {xs:List V} {us:List Value} (n:Nat),Vals xs us->Vals (xs.take n) (us.take n)
 |_,_,0,_=>.nil
 |_,_,_+1,.nil=>.nil
 |_,_,n+1,.cons r t=>.cons r (Vals.take n t)
theorem Vals.drop:∀ {xs:List V} {us:List Value} (n:Nat),Vals xs us->Vals (xs.drop n) (us.drop n)
 |_,_,0,r=>r
 |_,_,_+1,.nil=>.nil
 |_,_,n+1,.cons _ t=>Vals.drop n t
def RelO:Option V->Option Value->Prop
 |some v,some u=>RelV v u
 |none,none=>True
 |_,_=>False
def KV{κ:Type}:List (κ × V)->List (κ × Value)->Prop:=Paired fun (p:κ × V) (q:κ × Value)=>p.1=q.1/\RelV p.2 q.2
def kV:Key->V
 |.inl i=>.int i
 |.inr x=>.str x
inductive HO where
 |lst (xs:List V)
 |tol (xs:List V)
 |tup (xs:List V)
 |dK (kvs:List (Key × V))
 |dR (ks:List (List ZB × Addr))
 |set (S:Int->Bool) (n:Nat)
 |rng (lo hi:Int)
 |frz (o:Obj) (u:HO)
 |ext (φ:Heap->Prop)
abbrev Hp:=Addr->Option HO
def upd(H:Hp)(a:Addr)(o:HO):Hp:=fun b=>if b=a then some o else H b
theorem aAj:upd H a o a=some o:=by unfold upd;rw[if_pos rfl]
theorem aAk(h:b≠a):upd H a o b=H b:=by unfold upd;rw[if_neg h]
theorem aCm{H:Hp}{a b:Addr}{o u:HO}(h:H a=some o)(h':H b=some u)(d:o≠u):a≠b:=by intro e;subst e;rw[h] at h';exact d (Option.some.inj h')
theorem aBo{H:Hp}{a b:Addr}{o:HO}(h:H a=some o)(h':H b=none):a≠b:=by intro e;subst e;rw[h] at h';cases h'
def aDm(h:Heap)(a:Addr)(items:Array Value):Prop:=∃o,h.get? a=some o/\o.cls = .type "tuple" /\ o.dict=none/\∃n,o.data = .seq items n
theorem aDm.tup{h:Heap}{a:Addr}{items:Array Value}(x:aDm h a items):IsTup h a items:=let ⟨o,ho,hc,_,r⟩:=x;⟨o,ho,hc,r⟩
theorem aDm.new(h:Heap)(items:Array Value):aDm (h.push { cls:=.type "tuple",data:=.seq items }) h.objs.size items:=⟨_,af _ rfl,rfl,rfl,_,rfl⟩
theorem aDm.lt(x:aDm h a items):a<h.objs.size:=x.tup.lt
def aJe(prog:jW)(w:World)(ls:List ZB):Int:=reduceHash (Builtin.Tuple.tupleHashOf (ls.map (tupleKeyHash (j9 prog w))))
inductive RowsIn (H:Hp):List ZB->List V->Prop
 |nil:RowsIn H [] []
 |cons {l:List Int} {b:Addr} {ls:List ZB} {vs:List V} (q:H b=some (.tup (l.map V.int))) (r:RowsIn H ls vs):RowsIn H (l::ls) (.ref b::vs)
theorem RowsIn.mono(ht:∀b xs,H b=some (.tup xs)->H' b=some (.tup xs))(r:RowsIn H ls vs):RowsIn H' ls vs:=by
 induction r with
 |nil=>exact .nil
 |cons q _ ih=>exact .cons (ht _ _ q) ih
def aR8(H:Hp)(ls:List ZB)(b:Addr):Prop:=∃vs,H b=some (.tup vs)/\RowsIn H ls vs
section
variable (P:jW)(w:World)
def aBz(H:Hp)(h:Heap)(a:Addr):HO->Prop
 |.lst xs=>xs.length<=jU/\∃ (its:List Value) (n:Nat),Vals xs its/\h.get? a=some { cls:=.type "list",data:=.seq its.toArray n }
 |.tol xs=>xs.length<=jU/\∃ (its:List Value) (n:Nat),Vals xs its/\h.get? a=some { cls:=.type "list",data:=.seq its.toArray n }
 |.tup xs=>xs.length<=jU/\∃its:List Value,Vals xs its/\aDm h a its.toArray
 |.dK kvs=>kvs.length<=jU/\(a==jq)=false/\∃vs,KV kvs vs/\h.DictOf (aAz P w) a vs
 |.dR ks=>ks.length<=jU/\(a==jq)=false/\(∀k∈ks,aR8 H k.1 k.2)/\(ks.map (·.1)).Nodup/\∃o es ep,h.get? a=some o/\o.ExactDict/\o.data = .dict es ep/\es.toList=ks.map fun k=>⟨aJe P w k.1,.ref k.2,.bool true⟩
 |.set S n=>h.SetOf (j9 P w) a S n
 |.rng lo hi=>∃t u v,h.get? a=some { cls:=.type "range",data:=.fields #[.int lo t,.int hi u,.int 1 v] }
 |.frz o u=>h.get? a=some o/\aBz H h a u
 |.ext φ=>φ h/\(∃o,h.get? a=some o)/\∀h1 h2:Heap,φ h1->(∀o,h1.get? a=some o->h2.get? a=some o)->φ h2
def HOk(H:Hp)(h:Heap):Prop:=∀a o,H a=some o->aBz P w H h a o
end
section
variable {P:jW}{w:World}{H H':Hp}{h h':Heap}{a:Addr}{o:HO}
theorem aBz.lt(x:aBz P w H h a o):a<h.objs.size:=by
 cases o with
 |lst xs=>obtain⟨_,_,_,_,e⟩:=x;exact aj e
 |tol xs=>obtain⟨_,_,_,_,e⟩:=x;exact aj e
 |tup xs=>obtain⟨_,_,_,p⟩:=x;exact p.lt
 |dK kvs=>obtain⟨_,_,_,_,o,_,_,e,_⟩:=x;exact aj e
 |dR ks=>obtain⟨_,_,_,_,o,_,_,e,_⟩:=x;exact aj e
 |set S n=>obtain⟨o,_,_,_,e,_⟩:=x;exact aj e
 |rng lo hi=>obtain⟨_,_,_,e⟩:=x;exact aj e
 |frz ob u=>obtain⟨e,_⟩:=x;exact aj e
 |ext φ=>obtain⟨_,⟨_,e⟩,_⟩:=x;exact aj e
theorem aBz.stay(x:aBz P w H h a o)(k:∀u,h.get? a=some u->h'.get? a=some u)(ht:∀b xs,H b=some (.tup xs)->H' b=some (.tup xs)):aBz P w H' h' a o:=by
 induction o with
 |lst xs=>obtain⟨z,its,n,r,e⟩:=x;exact⟨z,its,n,r,k _ e⟩
 |tol xs=>obtain⟨z,its,n,r,e⟩:=x;exact⟨z,its,n,r,k _ e⟩
 |tup xs=>obtain⟨z,its,r,ob,e,c⟩:=x;exact⟨z,its,r,ob,k _ e,c⟩
 |dK kvs=>obtain⟨z,y,vs,r,ob,es,ep,e,c⟩:=x;exact⟨z,y,vs,r,ob,es,ep,k _ e,c⟩
 | dR ks =>
  obtain⟨z,y,r,nd,ob,es,ep,e,c⟩:=x;exact⟨z,y,fun q hq=>let ⟨vs,h1,h2⟩:=r q hq;⟨vs,ht _ _ h1,h2.mono ht⟩,nd,ob,es,ep,k _ e,c⟩
 |set S n=>obtain⟨ob,es,ep,t,e,c⟩:=x;exact⟨ob,es,ep,t,k _ e,c⟩
 |rng lo hi=>obtain⟨t,u,v,e⟩:=x;exact⟨t,u,v,k _ e⟩
 |frz ob u ih=>obtain⟨e,q⟩:=x;exact⟨k _ e,ih q⟩
 |ext φ=>obtain⟨p,⟨o,e⟩,st⟩:=x;exact⟨st _ _ p fun o q=>k _ q,⟨o,k _ e⟩,st⟩
theorem HOk.lt(x:HOk P w H h)(e:H a=some o):a<h.objs.size:=(x a o e).lt
theorem HOk.fresh(x:HOk P w H h)(e:h.objs.size<=a):H a=none:=by
 cases q:H a with
 |none=>rfl
 |some u=>exact absurd (bz (x.lt q) e) (eF _)
theorem HOk.kept(x:HOk P w H h)(k:∀b u,h.get? b=some u->h'.get? b=some u):HOk P w H h':=fun a o e =>
 (x a o e).stay (k a) fun _ _ q=>q
theorem HOk.laid(x:HOk P w H h)(k:∀b u,h.get? b=some u->h'.get? b=some u)(hp:h.objs.size<=a)(new:aBz P w (upd H a o) h' a o):HOk P w (upd H a o) h':=fun b u e=>by
 have hn:=x.fresh hp;by_cases hb:b=a
 ·subst hb;rw[aAj] at e;cases e;exact new
 ·rw[aAk hb] at e;exact(x b u e).stay (k b) fun c xs q=>by rw[aAk (aBo q hn)];exact q
end
def Rd(H:Hp)(a:Addr)(u:HO):Prop:=H a=some u\/∃o,H a=some (.frz o u)
theorem Rd.ok(r:Rd H a u)(x:HOk P w H h):aBz P w H h a u:=by
 rcases r with r |⟨o,r⟩
 ·exact x a u r
 ·obtain⟨_,q⟩:=x a _ r;exact q
def Mut:Option HO->Prop
 |some (.lst _)=>True
 |some (.dK _)=>True
 |some (.dR _)=>True
 |some (.set _ _)=>True
 |some (.ext _)=>True
 |_=>False
section
variable {P:jW}{w:World}{H:Hp}{h h':Heap}{x e:Addr}{o':HO}
theorem HOk.write(ok:HOk P w H h)(mu:Mut (H x))(k:∀b u,b≠x->h.get? b=some u->h'.get? b=some u)(new:aBz P w (upd H x o') h' x o'):HOk P w (upd H x o') h':=fun b u q=>by
 by_cases hb:b=x
 ·subst hb;rw[aAj] at q;cases q;exact new
 ·rw[aAk hb] at q;exact(ok b u q).stay (fun v r=>k b v hb r) fun c xs r=>by rw[aAk (fun z=>by subst z;rw[r] at mu;exact mu)];exact r
end
structure Un (fs ex:List Addr) (H H':Hp) (h h':Heap):Prop where
 keep:∀b o,h.get? b=some o->H b=none->b∉fs->b∉ex->h'.get? b=some o
 slot:∀b o,h.get? b=some o->H b=none->b∈fs->b∉ex->∃sl,h'.get? b=some { o with slots:=sl }
 free:∀b o,h.get? b=some o->H b=none->b∉ex->H' b=none
 there:∀b o,h.get? b=some o->b∉ex->∃o',h'.get? b=some o'
 tups:∀b xs,H b=some (.tup xs)->H' b=some (.tup xs)
 frzs:∀b o u,H b=some (.frz o u)->H' b=some (.frz o u)
section
variable {fs fs' ex ex':List Addr}{H H1 H2:Hp}{h h1 h2 h':Heap}{a x e:Addr}{o:HO}
theorem Un.any(u:Un fs ex H H1 h h1)(q:h.get? b=some ob)(n:H b=none)(hx:b∉ex):∃sl,h1.get? b=some { ob with slots:=sl }:=by
 by_cases hb:b∈fs
 ·exact u.slot b ob q n hb hx
 ·exact⟨ob.slots,u.keep b ob q n hb hx⟩
theorem Un.kept(k:∀b u,h.get? b=some u->h'.get? b=some u):Un fs ex H H h h' :=
 ⟨fun b ob q _ _ _=>k b ob q,fun b ob q _ _ _=>⟨ob.slots,k b ob q⟩,fun _ _ _ n _=>n,fun b ob q _=>⟨ob,k b ob q⟩,fun _ _ q=>q,fun _ _ _ q=>q⟩
theorem Un.refl:Un fs ex H H h h:=Un.kept fun _ _ q=>q
theorem Un.laid(k:∀b u,h.get? b=some u->h'.get? b=some u)(hp:h.objs.size<=a)(hn:H a=none):Un fs ex H (upd H a o) h h' where
 keep:=fun b u q _ _ _=>k b u q
 slot:=fun b u q _ _ _=>⟨u.slots,k b u q⟩
 free:=fun b u q n _=>by rw[aAk (au (bz (aj q) hp))];exact n
 there:=fun b u q _=>⟨u,k b u q⟩
 tups:=fun b xs q=>by rw[aAk (aBo q hn)];exact q
 frzs:=fun b u xs q=>by rw[aAk (aBo q hn)];exact q
theorem Un.write(mu:Mut (H x))(k:∀b u,b≠x->h.get? b=some u->h'.get? b=some u)(heo:∃u,h'.get? x=some u):Un fs ex H (upd H x o) h h':=by
 have hm:∀b u,H b=u->¬Mut u->b≠x:=fun b u q nm z=>by subst z;rw[q] at mu;exact nm mu
 refine⟨fun b u q n _ _=>k b u (hm b _ n id) q,fun b u q n _ _=>⟨u.slots,k b u (hm b _ n id) q⟩,fun b u q n _=>by rw[aAk (hm b _ n id)];exact n,fun b u q _=>?_,fun b xs q=>by rw[aAk (hm b _ q id)];exact q,fun b u xs q=>by rw[aAk (hm b _ q id)];exact q⟩;by_cases hb:b=x
 ·subst hb;exact heo
 ·exact⟨u,k b u hb q⟩
end
def trk(h:Heap)(H:Hp):List Addr:=(List.range h.objs.size).filter fun a=>(H a).isSome
def hidT(h:Heap)(H:Hp):Heap:=W.hideAll h (trk h H)
theorem aYu(h:Heap)(H:Hp):(hidT h H).objs.size=h.objs.size:=W.hideAll_size _ _
theorem hidT_get(e:h.get? b=some o)(n:H b=none):(hidT h H).get? b=some o :=
 W.hideAll_get _ e fun hm=>by have q:(H b).isSome=true:=(dX.mp hm).2;rw[n] at q;simp at q
theorem of_hidT(e:(hidT h H).get? b=some o):h.get? b=some o/\H b=none:=by
 have e':h.get? b=some o:=W.of_hideAll (trk h H) e;refine⟨e',?_⟩;cases q:H b with
 |none=>rfl
 | some x =>
  have hm:b∈trk h H:=dX.mpr ⟨ej.mpr (aj e'),by simp[q]⟩;have z:(hidT h H).get? b=none:=W.hideAll_none (trk h H) hm;rw[z] at e;cases e
def allNews(g h:Heap)(L:Addr):List ZL:=(List.range h.objs.size).filterMap fun a=>if a=L\/(g.get? a).isSome=true then none else (h.get? a).map fun o=>(a,o)
def rest(g h:Heap)(L d:Addr):List ZL:=(allNews g h L).filter fun p=>decide (p.1≠d)
structure Mod (K:W.Frag) (mg:Str->Option Value) (base:Heap):Prop where
 kin:K.In base
 glob:base.Ns ji mg
 blt:∃mb,base.Ns builtinsNs mb/\∀x:Str,x ≠ "__name__" -> mb x=kD x
 nolimit:base.NoLimit
structure Cx where
 prog:jW
 w:World
 K:W.Frag
 mg:Str->Option Value
 base:Heap
 A:jY
 N:List Str
 s₀:jR
 H₀:Hp
 env:Env
 outer:List Env
 stack:List Env
 ex:List Addr
 fn:Str->Bool
 calm:Bool
 pn:List ZL
 xe:Value->jR->Prop
def frs(l:List Env):List Addr:=l.filterMap (·.frame)
abbrev Cx.fs(X:Cx):List Addr:=frs X.outer
def Vis(sc:Scope)(x:Str):Prop:=sc.names.lookup x=some .local\/sc.names.lookup x=some .cell\/sc.names.lookup x=some .free
def Loc(sc:Scope)(x:Str):Prop:=sc.names.lookup x=some .local\/sc.names.lookup x=some .cell
def Look(env:Env)(h:Heap)(m:Str->Option Value)(x:Str)(u:Value):Prop :=
 (env.kindOf x=some .local/\m x=some u)\/((env.kindOf x=some .cell\/env.kindOf x=some .free)/\∃c,env.cells.lookup x=some c/\h.IsCell c (some u))
structure Cx.Ok (X:Cx):Prop where
 mod:Mod X.K X.mg X.base
 kind:X.env.scope.kind = .function
 glob:X.env.globals=ji
 blt:X.env.builtins=builtinsNs
 above:X.s₀.heap.objs.size<=X.env.locals
 inj:∀x y c,X.env.cells.lookup x=some c->X.env.cells.lookup y=some c->x=y
 has:∀x,(X.env.kindOf x=some .cell\/X.env.kindOf x=some .free)->∃c,X.env.cells.lookup x=some c
 cab:∀x c,X.fn x=true->X.env.cells.lookup x=some c->X.s₀.heap.objs.size<=c
 hd:X.calm=true->X.A.handled=none
 frames:X.A.frames=some X.stack
 stk:X.stack=X.outer\/(X.stack=X.env::X.outer/\X.env.frame=some X.env.locals)
 exf:∀b∈X.ex,b≠X.env.locals/\∀x c,X.env.cells.lookup x=some c->c≠b
 bs:∀b o,X.base.get? b=some o->X.s₀.heap.get? b=some o/\X.H₀ b=none
 bsz:X.base.objs.size<=X.s₀.heap.objs.size
 noex:∀b o,X.base.get? b=some o->b∉X.ex
 exfs:∀b∈X.ex,b∉X.fs
 funs:X.s₀.heap.FunFrames X.base X.outer
 frf:∀b∈X.fs,X.H₀ b=none
structure Inv (X:Cx) (pins:List ZL) (O:List (Option V)) (H:Hp) (s:jR):Prop where
 ok:X.Ok
 os:s.os=X.s₀.os
 bare:AllBare s.gens
 base:Un X.fs X.ex X.H₀ H X.s₀.heap s.heap
 loc:∃m,s.heap.Ns X.env.locals m/\∀ (i:Nat) (x:Str) (v:V),X.N[i]?=some x->O[i]?=some (some v)->Vis X.env.scope x->∃u,RelV v u/\Look X.env s.heap m x u
 cell:∀x c,X.env.cells.lookup x=some c->∃v,s.heap.IsCell c v
 free:H X.env.locals=none
 freeC:∀x c,X.env.cells.lookup x=some c->H c=none
 pin:∀p∈X.pn++pins,s.heap.get? p.1=some p.2/\H p.1=none/\p.1≠X.env.locals/\p.1∉X.fs/\∀v,p.2.data ≠ .cell v
 hok:HOk X.prog X.w H s.heap
 len:O.length=X.N.length
section
variable {X:Cx}{pins:List ZL}{O:List (Option V)}{H H':Hp}{s:jR}{h':Heap}
theorem Cx.Ok.nofr(ok:X.Ok)(e:X.base.get? b=some o):b∉X.fs:=fun hb=>by have:=(ok.funs.mem hb).1;rw[e] at this;cases this
theorem Inv.bs(I:Inv X pins O H s):∀b o,X.base.get? b=some o->s.heap.get? b=some o/\H b=none:=fun b o e =>
 ⟨I.base.keep b o (I.ok.bs b o e).1 (I.ok.bs b o e).2 (I.ok.nofr e) (I.ok.noex b o e),I.base.free b o (I.ok.bs b o e).1 (I.ok.bs b o e).2 (I.ok.noex b o e)⟩
theorem Inv.bk(I:Inv X pins O H s):∀b o,X.base.get? b=some o->s.heap.get? b=some o:=fun b o e=>(I.bs b o e).1
theorem Inv.mod(I:Inv X pins O H s):Mod X.K X.mg X.base:=I.ok.mod
theorem Inv.kIn(I:Inv X pins O H s):X.K.In s.heap:=I.ok.mod.kin.keeps I.bk
theorem Inv.lt(I:Inv X pins O H s):X.env.locals<s.heap.objs.size:=let ⟨_,hn,_⟩:=I.loc;hn.lt
theorem Inv.sz(I:Inv X pins O H s):X.s₀.heap.objs.size<=s.heap.objs.size:=ao I.ok.above (c9 I.lt)
theorem Inv.nofs(I:Inv X pins O H s)(h:s.heap.objs.size<=a):a∉X.fs:=fun hb=>by obtain⟨_,o,ho,_⟩:=I.ok.funs.mem hb;exact absurd (bz (aj ho) (ao I.sz h)) (eF _)
theorem Inv.cne(I:Inv X pins O H s):∀x c,X.env.cells.lookup x=some c->c≠X.env.locals:=fun x c e z=>by obtain⟨v,o,ho,hd⟩:=I.cell x c e;obtain⟨m,⟨o',es,ep,ho',hd',_⟩,_⟩:=I.loc;rw[z,ho'] at ho;cases ho;rw[hd'] at hd;cases hd
theorem Inv.funs(I:Inv X pins O H s):s.heap.FunFrames X.base X.outer:=by
 have all:∀ (l:List Env),(∀b∈frs l,b∈X.fs)->X.s₀.heap.FunFrames X.base l->s.heap.FunFrames X.base l:=by
  intro l
  induction l with
  |nil=>intro _ _;trivial
  | cons env r ih =>
   intro hs hl;obtain⟨hk,⟨L,o,hf,hn,ho,hd⟩,hr⟩:=hl;have hL:L∈X.fs:=hs L (by unfold frs;rw[eY,hf];exact a7);obtain⟨sl,e⟩:=I.base.slot L o ho (I.ok.frf L hL) hL fun z=>I.ok.exfs L z hL;exact⟨hk,⟨L,_,hf,hn,e,hd⟩,ih (fun b hb=>hs b (by unfold frs;rw[eY,hf];exact a6 _ hb)) hr⟩
 exact all X.outer (fun _ hb=>hb) I.ok.funs
theorem Inv.stack(I:Inv X pins O H s):s.heap.FunFrames X.base X.stack:=by
 rcases I.ok.stk with e |⟨e,hf⟩
 ·rw[e];exact I.funs
 ·rw[e];obtain⟨m,hn,_⟩:=I.loc;refine .cons (by rw[I.ok.kind];decide) hf hn ?_ I.funs;exact Heap.get?_none_of_le (ao I.ok.bsz I.ok.above)
theorem Inv.stkSub(I:Inv X pins O H s):∀b∈frs X.stack,b∈X.env.locals::X.fs:=fun b hb=>by
 rcases I.ok.stk with e |⟨e,hf⟩
 ·rw[e] at hb;exact a6 _ hb
 ·rw[e] at hb;unfold frs at hb;rw[eY,hf] at hb;exact hb
theorem Inv.stkFree(I:Inv X pins O H s):∀b∈frs X.stack,H b=none:=fun b hb=>by
 rcases ae.mp (I.stkSub b hb) with e |hb
 ·rw[e];exact I.free
 ·obtain⟨_,o,ho,_⟩:=I.ok.funs.mem hb;exact I.base.free b o ho (I.ok.frf b hb) fun z=>I.ok.exfs b z hb
theorem Inv.step{g':Array GenState}{t':Nat}{d':Drawn}{ch:List Addr}(I:Inv X pins O H s)
  (hch:∀b∈ch,(b∈X.ex\/X.s₀.heap.objs.size<=b)/\b≠X.env.locals/\(∀x c,X.env.cells.lookup x=some c->c≠b)/\∀p∈X.pn++pins,p.1≠b)
  (keep:∀b o,b≠X.env.locals->b∉X.fs->b∉ch->s.heap.get? b=some o->H b=none->h'.get? b=some o)
  (slot:∀b o,b≠X.env.locals->b∈X.fs->b∉ch->s.heap.get? b=some o->H b=none->∃sl,h'.get? b=some { o with slots:=sl }) (free:∀b o,b∉ch->s.heap.get? b=some o->H b=none->H' b=none)
  (there:∀b o,b∉ch->s.heap.get? b=some o->∃o',h'.get? b=some o')
  (tups:∀b xs,H b=some (.tup xs)->H' b=some (.tup xs)) (frzs:∀b o u,H b=some (.frz o u)->H' b=some (.frz o u))
  (ns:∀m,s.heap.Ns X.env.locals m->h'.Ns X.env.locals m) (hok:HOk X.prog X.w H' h') (hg:AllBare g') :
  Inv X pins O H' { s with heap:=h',gens:=g',drawn:=d',toks:=t' }:=by
 have neL:∀b o,X.s₀.heap.get? b=some o->b≠X.env.locals:=fun b o e=>au (bz (aj e) I.ok.above);have neC:∀b o,X.s₀.heap.get? b=some o->b∉X.ex->b∉ch:=fun b o e hx hb=>by
  rcases(hch b hb).1 with z |z
  ·exact hx z
  ·exact absurd (bz (aj e) z) (eF _)
 have cellK:∀x c,X.env.cells.lookup x=some c->∀v,s.heap.IsCell c v->h'.IsCell c v:=fun x c e v ⟨o,ho,hd⟩=>by
  have nch:c∉ch:=fun z=>(hch c z).2.2.1 x c e rfl;by_cases hc:c∈X.fs
  ·obtain⟨sl,q⟩:=slot c o (I.cne x c e) hc nch ho (I.freeC x c e);exact⟨_,q,hd⟩
  ·exact⟨o,keep c o (I.cne x c e) hc nch ho (I.freeC x c e),hd⟩
 refine⟨I.ok,I.os,hg,⟨fun b o e n hb hx=>?_,fun b o e n hb hx=>?_,fun b o e n hx=>?_,fun b o e hx=>?_,fun b xs e=>tups b xs (I.base.tups b xs e),fun b o xs e=>frzs b o xs (I.base.frzs b o xs e)⟩,?_,fun x c e=>?_,?_,fun x c e=>?_,fun p hp=>?_,hok,I.len⟩
 ·exact keep b o (neL b o e) hb (neC b o e hx) (I.base.keep b o e n hb hx) (I.base.free b o e n hx)
 ·obtain⟨sl,e1⟩:=I.base.slot b o e n hb hx;obtain⟨sl',e2⟩:=slot b _ (neL b o e) hb (neC b o e hx) e1 (I.base.free b o e n hx);exact⟨sl',e2⟩
 ·obtain⟨o',e1⟩:=I.base.there b o e hx;exact free b o' (neC b o e hx) e1 (I.base.free b o e n hx)
 ·obtain⟨o',e1⟩:=I.base.there b o e hx;exact there b o' (neC b o e hx) e1
 ·obtain⟨m,hn,hl⟩:=I.loc;refine⟨m,ns m hn,fun i x v e1 e2 e3=>?_⟩;obtain⟨u,r,l⟩:=hl i x v e1 e2 e3;refine⟨u,r,?_⟩;rcases l with l |⟨k,c,e,z⟩
  ·exact .inl l
  ·exact .inr ⟨k,c,e,cellK x c e _ z⟩
 ·obtain⟨v,z⟩:=I.cell x c e;exact⟨v,cellK x c e v z⟩
 ·obtain⟨m,⟨o,_,_,ho,_⟩,_⟩:=I.loc;exact free _ o (fun z=>(hch _ z).2.1 rfl) ho I.free
 ·obtain⟨v,o,ho,hd⟩:=I.cell x c e;exact free c o (fun z=>(hch c z).2.2.1 x c e rfl) ho (I.freeC x c e)
 ·obtain⟨e,n,ne,nf,d⟩:=I.pin p hp;have nch:p.1∉ch:=fun z=>(hch p.1 z).2.2.2 p hp rfl;exact⟨keep p.1 p.2 ne nf nch e n,free p.1 p.2 nch e n,ne,nf,d⟩
theorem Inv.un{t':Nat}(I:Inv X pins O H s)(u:Un X.fs [] H H' s.heap h')(hok:HOk X.prog X.w H' h'):Inv X pins O H' { s with heap:=h',toks:=t' }:=by
 obtain⟨m,⟨o,es,ep,ho,r⟩,_⟩:=id I.loc;obtain⟨sl,hL⟩:=u.any ho I.free ZJ
 exact I.step (g':=s.gens) (d':=s.drawn) (ch:=[]) (fun _ z=>nomatch z) (fun b o _ hb _ e n=>u.keep b o e n hb ZJ) (fun b o _ hb _ e n=>u.slot b o e n hb ZJ) (fun b o _ e n=>u.free b o e n ZJ) (fun b o _ e=>u.there b o e ZJ) u.tups u.frzs (fun m' hm=>by
  obtain⟨o',es',ep',ho',r'⟩:=hm;rw[ho] at ho';cases ho'
  exact⟨_,es',ep',hL,r'⟩) hok I.bare
theorem Inv.call{t':Nat}(I:Inv X pins O H s)(u:Un (frs X.stack) ch H H' s.heap h')(hok:HOk X.prog X.w H' h')(hg:AllBare g')
  (hch:∀b∈ch,(b∈X.ex\/X.s₀.heap.objs.size<=b)/\b≠X.env.locals/\(∀x c,X.env.cells.lookup x=some c->c≠b)/\∀p∈X.pn++pins,p.1≠b) :
  Inv X pins O H' { s with heap:=h',gens:=g',drawn:=d',toks:=t' }:=by
 obtain⟨m,⟨o,es,ep,ho,r⟩,_⟩:=id I.loc;obtain⟨sl,hL⟩:=u.any ho I.free fun z=>(hch _ z).2.1 rfl
 exact I.step (ch:=ch) hch (fun b o hL hb hc e n=>u.keep b o e n (fun z=>(ae.mp (I.stkSub b z)).elim hL hb) hc) (fun b o _ _ hc e n=>u.any e n hc) (fun b o hc e n=>u.free b o e n hc) (fun b o hc e=>u.there b o e hc) u.tups u.frzs (fun m' hm=>by
  obtain⟨o',es',ep',ho',r'⟩:=hm;rw[ho] at ho';cases ho'
  exact⟨_,es',ep',hL,r'⟩) hok hg
theorem Inv.turned{t':Nat}(I:Inv X pins O H s)(k:∀b o,b≠it->s.heap.get? b=some o->h'.get? b=some o)(hn:H it=none)(hL:it≠X.env.locals)
  (h1:it∈X.ex\/X.s₀.heap.objs.size<=it) (h2:∀x c,X.env.cells.lookup x=some c->c≠it) (h3:∀p∈X.pn++pins,p.1≠it):Inv X pins O H { s with heap:=h',toks:=t' }:=by
 have nit:∀b u,H b=some u->b≠it:=fun b u e z=>by rw[z,hn] at e;cases e
 refine I.step (g':=s.gens) (d':=s.drawn) (ch:=[it]) (fun b hb=>?_) (fun b o _ _ hc e _=>k b o (fun z=>hc (by simp[z])) e) (fun b o _ _ hc e _=>⟨o.slots,k b o (fun z=>hc (by simp[z])) e⟩) (fun _ _ _ _ n=>n)
  (fun b o hc e=>⟨o,k b o (fun z=>hc (by simp[z])) e⟩) (fun _ _ e=>e) (fun _ _ _ e=>e) (fun m hm=>?_) (fun b u e=>?_) I.bare
 ·have e:b=it:=by simpa using hb
  subst e;exact⟨h1,hL,h2,h3⟩
 ·obtain⟨o,es,ep,ho,r⟩:=hm;exact⟨o,es,ep,k _ o (Ne.symm hL) ho,r⟩
 ·exact(I.hok b u e).stay (fun v q=>k b v (nit b u e) q) fun _ _ q=>q
theorem Inv.tok(I:Inv X pins O H s)(t:Nat):Inv X pins O H { s with toks:=t }:=I.un (h':=s.heap) (t':=t) Un.refl I.hok
theorem Inv.kept{t':Nat}(I:Inv X pins O H s)(k:∀b u,s.heap.get? b=some u->h'.get? b=some u):Inv X pins O H { s with heap:=h',toks:=t' }:=I.un (Un.kept k) (I.hok.kept k)
theorem Inv.laid{t':Nat}(I:Inv X pins O H s)(k:∀b u,s.heap.get? b=some u->h'.get? b=some u)(hp:s.heap.objs.size<=a)(new:aBz X.prog X.w (upd H a o) h' a o) :
  Inv X pins O (upd H a o) { s with heap:=h',toks:=t' }:=I.un (Un.laid k hp (I.hok.fresh hp)) (I.hok.laid k hp new)
theorem Inv.write{t':Nat}(I:Inv X pins O H s)(mu:Mut (H x))(k:∀b u,b≠x->s.heap.get? b=some u->h'.get? b=some u)(heo:∃u,h'.get? x=some u)
  (new:aBz X.prog X.w (upd H x o) h' x o):Inv X pins O (upd H x o) { s with heap:=h',toks:=t' }:=I.un (Un.write mu k heo) (I.hok.write mu k new)
theorem Inv.pins_of(I:Inv X pins O H s)(h:∀p∈pins',s.heap.get? p.1=some p.2/\H p.1=none/\p.1≠X.env.locals/\p.1∉X.fs/\∀v,p.2.data ≠ .cell v):Inv X pins' O H s :=
 ⟨I.ok,I.os,I.bare,I.base,I.loc,I.cell,I.free,I.freeC,fun p hp=>(ci.mp hp).elim (fun z=>I.pin p (eQ _ z)) (h p),I.hok,I.len⟩
theorem aMr{N:List Str}(hN:N.Nodup){i j:Nat}(a:N[i]?=some x)(b:N[j]?=some x):i=j:=by obtain⟨h1,e1⟩:=b9.mp a;obtain⟨h2,e2⟩:=b9.mp b;exact(jF hN).mp (e1.trans e2.symm)
theorem aQl{i:Nat}(I:Inv X pins O H s)(hN:X.N.Nodup)(hi:X.N[i]?=some x)(hx:Loc X.env.scope x)(r:RelV v u)
  (h:∀s',Inv X pins (O.set i (some v)) H s'->(∃a,Heap.SameBut a s.heap s'.heap/\(a=X.env.locals\/X.env.cells.lookup x=some a))->Q () s') (hf:autoParam (X.fn x=true\/X.env.scope.names.lookup x=some .local) l6):wpAny M A (storeName X.env x u) Q E s:=by
 obtain⟨m,hn,hl⟩:=id I.loc;have hcls:(X.env.scope.kind == .class||(X.env.scope.kind == .module&&X.env.locals != X.env.globals))=false:=by rw[I.ok.kind];rfl
 have hiσ:i<O.length:=by rw[I.len];exact(b9.mp hi).1
 have cne:=I.cne;have tracked:∀ {a:Addr} {h':Heap},(∃o,s.heap.get? a=some o/\H a=none)->Heap.SameBut a s.heap h'->HOk X.prog X.w H h':=fun {a h'} ha hs b ob e=>by obtain⟨_,_,hfree⟩:=ha;exact(I.hok b ob e).stay (fun w' q=>(hs.2 b (by rintro rfl;rw[hfree] at e;cases e)).trans q) fun _ _ q=>q
 rcases hx with hk |hk
 ·refine wpAny_storeName_local hk hn (fun h' hn' hs=>?_) hcls;obtain⟨oL,_,_,hoL,_⟩:=id hn;refine h _ ⟨I.ok,I.os,I.bare,⟨fun b o e n hb hx=>?_,fun b o e n hb hx=>?_,I.base.free,fun b o e hx=>?_,I.base.tups,I.base.frzs⟩,⟨_,hn',fun j y v' e1 e2 e3=>?_⟩,fun y c e=>?_,I.free,I.freeC,fun p hp=>?_,tracked ⟨oL,hoL,I.free⟩ hs,by simpa using I.len⟩ ⟨_,hs,.inl rfl⟩
  ·exact(hs.2 b (au (bz (aj e) I.ok.above))).trans (I.base.keep b o e n hb hx)
  ·obtain⟨sl,e1⟩:=I.base.slot b o e n hb hx;exact⟨sl,(hs.2 b (au (bz (aj e) I.ok.above))).trans e1⟩
  ·obtain⟨o',e1⟩:=I.base.there b o e hx;exact⟨o',(hs.2 b (au (bz (aj e) I.ok.above))).trans e1⟩
  ·by_cases hj:j=i
   ·subst hj;rw[hi] at e1;cases e1;rw[gJ hiσ] at e2;cases e2;exact⟨u,r,.inl ⟨hk,by simp⟩⟩
   ·rw[iQ (Ne.symm hj)] at e2;obtain⟨u',r',q⟩:=hl j y v' e1 e2 e3;refine⟨u',r',?_⟩;rcases q with ⟨k,e⟩ |⟨k,c,e,z⟩
    ·refine .inl ⟨k,?_⟩;have:y≠x:=fun e=>hj (aMr hN e1 (e▸hi));simp[this,e]
    ·exact .inr ⟨k,c,e,z.sameBut hs (cne y c e)⟩
  ·obtain⟨w',z⟩:=I.cell y c e;exact⟨w',z.sameBut hs (cne y c e)⟩
  ·obtain⟨e,n,ne,nf,d⟩:=I.pin p hp;exact⟨(hs.2 p.1 ne).trans e,n,ne,nf,d⟩
 ·have hfn:X.fn x=true:=by
   rcases hf with z |z
   ·exact z
   ·rw[z] at hk;cases hk
  obtain⟨c,hc⟩:=I.ok.has x (.inl hk);obtain⟨w',z⟩:=I.cell x c hc;refine wpAny_storeName_cell I.ok.kind hk hc z (fun h' hc' hs=>?_);obtain⟨oc,hoc,hocd⟩:=id z;refine h { s with heap:=h' } ⟨I.ok,I.os,I.bare,⟨fun b o e n hb hx=>?_,fun b o e n hb hx=>?_,I.base.free,fun b o e hx=>?_,I.base.tups,I.base.frzs⟩,⟨m,hn.sameBut hs (Ne.symm (cne x c hc)),fun j y v' e1 e2 e3=>?_⟩,fun y c' e=>?_,I.free,I.freeC,fun p hp=>?_,tracked ⟨oc,hoc,I.freeC x c hc⟩ hs,by simpa using I.len⟩ ⟨c,hs,.inr hc⟩
  ·exact(hs.2 b (au (bz (aj e) (I.ok.cab x c hfn hc)))).trans (I.base.keep b o e n hb hx)
  ·obtain⟨sl,e1⟩:=I.base.slot b o e n hb hx;exact⟨sl,(hs.2 b (au (bz (aj e) (I.ok.cab x c hfn hc)))).trans e1⟩
  ·obtain⟨o',e1⟩:=I.base.there b o e hx;exact⟨o',(hs.2 b (au (bz (aj e) (I.ok.cab x c hfn hc)))).trans e1⟩
  ·by_cases hj:j=i
   ·subst hj;rw[hi] at e1;cases e1;rw[gJ hiσ] at e2;cases e2;exact⟨u,r,.inr ⟨.inl hk,c,hc,hc'⟩⟩
   ·rw[iQ (Ne.symm hj)] at e2;obtain⟨u',r',q⟩:=hl j y v' e1 e2 e3;refine⟨u',r',?_⟩;rcases q with q |⟨k,c',e,z'⟩
    ·exact .inl q
    ·refine .inr ⟨k,c',e,z'.sameBut hs ?_⟩;rintro rfl;exact hj (aMr hN e1 (I.ok.inj _ _ _ e hc▸hi))
  ·by_cases hcc:c'=c
   ·subst hcc;exact⟨_,hc'⟩
   ·obtain⟨w2,z2⟩:=I.cell y c' e;exact⟨w2,z2.sameBut hs hcc⟩
  ·obtain⟨e,n,ne,nf,d⟩:=I.pin p hp;refine⟨(hs.2 p.1 ?_).trans e,n,ne,nf,d⟩;intro q;rw[q,hoc] at e;have q':oc=p.2:=Option.some.inj e;exact d w' (by rw[<-q'];exact hocd)
theorem aVx{i:Nat}(I:Inv X pins O H s)(hN:X.N.Nodup)(hi:X.N[i]?=some x)(hx:Loc X.env.scope x)(r:RelV v u)
  (h:∀s',Inv X pins (O.set i (some v)) H s'->Q () s') (hf:autoParam (X.fn x=true\/X.env.scope.names.lookup x=some .local) l6):wpAny M A (storeName X.env x u) Q E s :=
 aQl I hN hi hx r (fun s' I' _=>h s' I') hf
theorem Inv.call'(I:Inv X pins O H s)(ho:s'.os=s.os)(u:Un (frs X.stack) ch H H' s.heap s'.heap)(hok:HOk X.prog X.w H' s'.heap)(hg:AllBare s'.gens)
  (hch:∀b∈ch,(b∈X.ex\/X.s₀.heap.objs.size<=b)/\b≠X.env.locals/\(∀x c,X.env.cells.lookup x=some c->c≠b)/\∀p∈X.pn++pins,p.1≠b):Inv X pins O H' s':=by
 obtain⟨h',g',d',t',o'⟩:=s';have e:o'=s.os:=ho;subst e;exact I.call (g':=g') (t':=t') (d':=d') u hok hg hch
end
abbrev XK:=Value->Option Addr->Hp->Prop
abbrev St:=List (Option V)
abbrev VK:=V->Hp->Prop
abbrev TE:=St->Hp->VK->Prop
abbrev TT:=St->Hp->(Bool->Hp->Prop)->Prop
abbrev TA:=St->Hp->(List V->Hp->Prop)->Prop
structure Ends where
 nx:St->Hp->Prop
 rt:VK
 bk:St->Hp->Prop:=fun _ _=>False
 ct:St->Hp->Prop:=fun _ _=>False
abbrev TS:=Ends->St->Hp->Prop
def EP(X:Cx)(pins:List ZL)(O:St)(Q:VK)(u:Value)(s':jR):Prop:=∃v H',Inv X pins O H' s'/\RelV v u/\Q v H'
def TP(X:Cx)(pins:List ZL)(O:St)(Q:Bool->Hp->Prop)(b:Bool)(s':jR):Prop:=∃H',Inv X pins O H' s'/\Q b H'
def AP(X:Cx)(pins:List ZL)(O:St)(Q:List V->Hp->Prop)(us:List Value)(s':jR):Prop:=∃vs H',Inv X pins O H' s'/\Vals vs us/\Q vs H'
def SP(X:Cx)(pins:List ZL)(D:Ends)(f:Flow)(s':jR):Prop :=
 match f with
 |.next=>∃σ' H',Inv X pins σ' H' s'/\D.nx σ' H'
 |.brk=>∃σ' H',Inv X pins σ' H' s'/\D.bk σ' H'
 |.cont=>∃σ' H',Inv X pins σ' H' s'/\D.ct σ' H'
 |.ret u=>∃v σ' H',Inv X pins σ' H' s'/\RelV v u/\D.rt v H'
def PE(X:Cx)(e:Expr)(t:TE):Prop :=
 ∀ (pins:List ZL) (s:jR) (O:St) (H:Hp) (Q:VK),Inv X pins O H s->t O H Q->wpAny ZC X.A (eval e X.env) (EP X pins O Q) X.xe s
def PT(X:Cx)(e:Expr)(t:TT):Prop :=
 ∀ (pins:List ZL) (s:jR) (O:St) (H:Hp) (Q:Bool->Hp->Prop),Inv X pins O H s->t O H Q->wpAny ZC X.A (isTrue e X.env (eval e X.env)) (TP X pins O Q) X.xe s
def PW(X:Cx)(e:Expr)(t:TT):Prop :=
 ∀ (whole:Sem Value) (pins:List ZL) (s:jR) (O:St) (H:Hp) (Q:Bool->Hp->Prop),Inv X pins O H s->t O H Q->wpAny ZC X.A (isTrue e X.env whole) (TP X pins O Q) X.xe s
theorem PW.pt(h:PW X e t):PT X e t:=h _
def PA(X:Cx)(es:List Expr)(t:TA):Prop :=
 ∀ (pos:Pos) (pins:List ZL) (s:jR) (O:St) (H:Hp) (Q:List V->Hp->Prop),Inv X pins O H s->t O H Q->wpAny ZC X.A (spliced (jg pos (jV es X.env))) (AP X pins O Q) X.xe s
def PS(X:Cx)(st:Stmt)(t:TS):Prop :=
 ∀ (pins:List ZL) (s:jR) (O:St) (H:Hp) (D:Ends),Inv X pins O H s->t D O H->wpAny ZC X.A (exec st X.env) (SP X pins D) X.xe s
def PSs(X:Cx)(st:List Stmt)(t:TS):Prop :=
 ∀ (pins:List ZL) (s:jR) (O:St) (H:Hp) (D:Ends),Inv X pins O H s->t D O H->wpAny ZC X.A (execs st X.env) (SP X pins D) X.xe s
theorem thn{α:Type}{t:Sem α}{Q Q':α->jR->Prop}{M:Model}(h:wpAny M A t Q E s)(hQ:∀a s,Q a s->Q' a s):wpAny M A t Q' E s:=j8 h hQ fun _ _ x=>x
section
variable {X:Cx}
def tVar(i:Nat):TE:=fun O H Q=>∃v,O[i]?=some (some v)/\Q v H
def tC(v:V):TE:=fun _ H Q=>Q v H
theorem aIl{i:Nat}(hN:X.N[i]?=some x)(hv:Vis X.env.scope x)(hd:autoParam ZO l5)(hcd:autoParam ((x==("__classdict__" : Str))=false) l5):PE X (.Name x pos) (tVar i):=by
 intro pins s O H Q I h;obtain⟨v,e,h⟩:=h;obtain⟨m,hn,hl⟩:=I.loc;obtain⟨u,r,l⟩:=hl i x v hN e hv;have fin:EP X pins O Q u s:=⟨v,H,I,r,h⟩
 rcases l with ⟨hk,hm⟩ |⟨hk,c,hc,hcell⟩
 ·exact wpAny_Name (wpAny_loadName_local I.ok.kind hk hn hm fin) hd
 ·rcases hk with hk |hk
  ·exact wpAny_Name (wpAny_loadName_cell I.ok.kind hk hc hcell fin) hd
  ·exact wpAny_Name (wpAny_loadName_free I.ok.kind hk hc hcell fin hcd) hd
theorem aU6{i j pos}:PE X (.Constant (.int i) j pos) (tC (.int i)):=fun _ _ _ H _ I h=>wpAny_Constant_int ⟨.int i,H,I.tok _,⟨_,rfl⟩,h⟩
theorem pe_bl{b j pos}:PE X (.Constant (.bool b) j pos) (tC (.bl b)):=fun _ _ _ H _ I h=>Constant_bool ⟨.bl b,H,I,rfl,h⟩
theorem pe_non{j pos}:PE X (.Constant .none j pos) (tC .non):=fun _ _ _ H _ I h=>Constant_none ⟨.non,H,I,rfl,h⟩
def Gl(X:Cx)(x:Str):Prop:=X.env.kindOf x=some .globalImplicit
theorem bAx(I:Inv X pins O H s)(hg:Gl X x)(hm:X.mg x=some u)(h:Q u s)
  (hd:autoParam ZO l5):wpAny ZC X.A (eval (.Name x pos) X.env) Q E s :=
 Calls.Name_function_global I.ok.kind hg (Calls.loadGlobal_global (by rw[I.ok.glob];exact I.mod.glob.keeps I.bk) hm h) hd
theorem aEe(I:Inv X pins O H s)(hg:Gl X x)(hm:X.mg x=none)(hv:kD x=some u)(h:Q u s)
  (hn:autoParam (x ≠ "__name__") l5) (hd:autoParam ZO l5):wpAny ZC X.A (eval (.Name x pos) X.env) Q E s:=by
 obtain⟨mb,h1,h2⟩:=I.mod.blt;exact Calls.Name_function_global I.ok.kind hg (Calls.loadGlobal_builtin (by rw[I.ok.glob];exact I.mod.glob.keeps I.bk) hm (by rw[I.ok.blt];exact h1.keeps I.bk) ((h2 x hn).trans hv) h) hd
theorem pe_glob(hg:Gl X x)(hm:X.mg x=some u)(r:RelV v u)(hd:autoParam ZO l5):PE X (.Name x pos) (tC v) :=
 fun _ _ _ H _ I h=>bAx I hg hm ⟨v,H,I,r,h⟩ hd
variable {a b:Expr}{ta tb:TE}{pos:Pos}
def PC(X:Cx)(op:CmpOp)(a b:Expr)(t:TE):Prop :=
 ∀ (pins:List ZL) (s:jR) (O:St) (H:Hp) (Q:VK),Inv X pins O H s->t O H Q ->
  wpAny ZC X.A (eval a X.env) (fun v s₁=>wpAny ZC X.A (eval b X.env) (fun u s₂=>wpAny ZC X.A (j6 op v u) (EP X pins O Q) X.xe s₂) X.xe s₁) X.xe s
theorem nobehind(b:Expr)(h:op ≠ .In)(h2:op ≠ .NotIn):lB op b=false:=by
 have e1:(op==CmpOp.In)=false:=by cases op<;>first |rfl |exact absurd rfl h
 have e2:(op==CmpOp.NotIn)=false:=by cases op<;>first |rfl |exact absurd rfl h2
 cases b<;>simp[lB,e1,e2]
def tIsN(ta:TE):TE:=fun O H Q=>ta O H fun x H1=>Q (.bl (decide (x = .non))) H1
theorem RelV.none_iff(r:RelV x v):(v==Value.none)=decide (x = .non):=by
 cases x with
 |non=>cases r;rfl
 |bl _=>cases r;rfl
 |int _=>obtain⟨t,rfl⟩:=r;rfl
 |str _=>obtain⟨t,rfl⟩:=r;rfl
 |byt _=>obtain⟨t,rfl⟩:=r;rfl
 |flt _=>obtain⟨t,rfl⟩:=r;rfl
 |ref _=>cases r;rfl
 |ty _=>cases r;rfl
theorem pc_isN{j pos'}(ha:PE X a ta):PC X .Is a (.Constant .none j pos') (tIsN ta):=by intro pins s O H Q I h;refine thn (ha pins s O H _ I h) fun v s1 ⟨x,H1,I1,r1,q1⟩=>?_;exact Constant_none (is_none_gen ⟨.bl _,H1,I1,by rw[r1.none_iff];rfl,q1⟩)
theorem pe_cmp(h:PC X op a b t)(h1:autoParam (lB op b=false) az8._auto_1):PE X (.Compare a [op] [b] pos) t:=fun pins s O H Q I hw=>wpAny_Compare1 (h pins s O H Q I hw) h1
variable {tA tB':TT}{rest:List Expr}
def tNot(t:TT):TT:=fun O H Q=>t O H fun c H1=>Q (!c) H1
theorem pw_and1(ha:PT X a tA):PW X (.BoolOp .And [a] pos) tA:=by
 intro wh pins s O H Q I h;refine isTrue_and (thn (ha pins s O H Q I h) fun c s1 e=>?_);cases c with
 |true=>exact isTrue_and_nil e
 |false=>exact e
theorem pw_or1(ha:PT X a tA):PW X (.BoolOp .Or [a] pos) tA:=by
 intro wh pins s O H Q I h;refine isTrue_or (thn (ha pins s O H Q I h) fun c s1 e=>?_);cases c with
 |false=>exact isTrue_or_nil e
 |true=>exact e
theorem pt_not(ha:PT X a tA):PT X (.UnaryOp .Not a pos) (tNot tA):=by intro pins s O H Q I h;exact isTrue_not (ha pins s O H (fun c H1=>Q (!c) H1) I h)
theorem pe_one{op}(h:PE X a t):PE X (.BoolOp op [a] pos) t:=fun pins s O H Q I hw=>BoolOp_one (h pins s O H Q I hw)
def tIf(t:TT)(ta tb:TE):TE:=fun O H Q=>t O H fun c H1=>if c=true then ta O H1 Q else tb O H1 Q
theorem pe_ifExp(hc:PT X c tA)(ha:PE X a ta)(hb:PE X b tb):PE X (.IfExp c a b pos) (tIf tA ta tb):=by
 intro pins s O H Q I h;refine wpAny_IfExp (thn (hc pins s O H _ I h) fun d s1 ⟨H1,I1,q1⟩=>?_);cases d with
 |true=>exact ha pins s1 O H1 Q I1 q1
 |false=>exact hb pins s1 O H1 Q I1 q1
end
def SqL(K:W.Frag)(H:Hp)(a:Addr)(xs:List V):Prop :=
 Rd H a (.lst xs) \/
  (∃ (o:Obj) (its:Array Value) (n:Nat),K.lookup a=some o/\o.cls = .type "list" /\ o.dict=none/\o.data = .seq its n/\its.size<=jU/\Vals xs its.toList)\/H a=some (.tol xs)
def SqT(K:W.Frag)(H:Hp)(a:Addr)(xs:List V):Prop :=
 Rd H a (.tup xs) \/
  ∃ (o:Obj) (its:Array Value) (n:Nat),K.lookup a=some o/\o.cls = .type "tuple" /\ o.data = .seq its n/\its.size<=jU/\Vals xs its.toList
def absV:Value->Option V
 |.none=>some .non
 |.bool b=>some (.bl b)
 |.int i _=>some (.int i)
 |.str x _=>some (.str x)
 |.bytes b _=>some (.byt b)
 |.float b _=>some (.flt b)
 |.ref a=>some (.ref a)
 |.type n=>some (.ty n)
 |_=>none
theorem RelV.abs(r:RelV x u):absV u=some x:=by
 cases x with
 |non=>cases r;rfl
 |bl _=>cases r;rfl
 |int _=>obtain⟨t,rfl⟩:=r;rfl
 |str _=>obtain⟨t,rfl⟩:=r;rfl
 |byt _=>obtain⟨t,rfl⟩:=r;rfl
 |flt _=>obtain⟨t,rfl⟩:=r;rfl
 |ref _=>cases r;rfl
 |ty _=>cases r;rfl
theorem RelV.inj(r:RelV x u)(q:RelV y u):x=y:=Option.some.inj (r.abs.symm.trans q.abs)
theorem Vals.inj:∀ {xs ys:List V} {us:List Value},Vals xs us->Vals ys us->xs=ys
 |_,_,_,.nil,.nil=>rfl
 |_,_,_,.cons r t,.cons r' t'=>by rw[r.inj r',Vals.inj t t']
section
variable {X:Cx}{pins:List ZL}{O:St}{H:Hp}{s:jR}{a:Addr}{xs ys:List V}
theorem SqL.of{K:W.Frag}(h:H a=some (.lst xs)):SqL K H a xs:=.inl (.inl h)
theorem SqT.of{K:W.Frag}(h:H a=some (.tup xs)):SqT K H a xs:=.inl (.inl h)
theorem Inv.list(I:Inv X pins O H s)(h:SqL X.K H a xs):∃its:List Value,Vals xs its/\PlainL s.heap a its.toArray/\xs.length<=jU:=by
 rcases h with h |⟨o,its,n,hk,hc,hd,hs,hz,r⟩ |h
 ·obtain⟨z,its,n,r,e⟩:=h.ok I.hok;exact⟨its,r,⟨_,n,e,rfl,rfl,rfl⟩,z⟩
 ·refine⟨its.toList,r,⟨o,n,I.kIn a o hk,hc,hd,by simpa using hs⟩,?_⟩;have e:=r.length;simp only[aw] at e;lia
 ·obtain⟨z,its,n,r,e⟩:=I.hok a _ h;exact⟨its,r,⟨_,n,e,rfl,rfl,rfl⟩,z⟩
theorem Inv.tuple(I:Inv X pins O H s)(h:SqT X.K H a xs):∃its:List Value,Vals xs its/\IsTup s.heap a its.toArray/\xs.length<=jU:=by
 rcases h with h |⟨o,its,n,hk,hc,hs,hz,r⟩
 ·obtain⟨z,its,r,p⟩:=h.ok I.hok;exact⟨its,r,p.tup,z⟩
 ·refine⟨its.toList,r,⟨o,I.kIn a o hk,hc,n,by simpa using hs⟩,?_⟩;have e:=r.length;simp only[aw] at e;lia
theorem Inv.list_inj(I:Inv X pins O H s)(h:SqL X.K H a xs)(h':SqL X.K H a ys):xs=ys:=by
 obtain⟨its,r,⟨o,n,e,_,_,d⟩,_⟩:=I.list h;obtain⟨its',r',⟨o',n',e',_,_,d'⟩,_⟩:=I.list h';rw[e] at e';cases e';rw[d] at d';injection d' with d1 _;have:its=its':=by simpa using congrArg Array.toList d1
 subst this;exact r.inj r'
theorem Inv.tuple_inj(I:Inv X pins O H s)(h:SqT X.K H a xs)(h':SqT X.K H a ys):xs=ys:=by
 obtain⟨its,r,⟨o,e,_,n,d⟩,_⟩:=I.tuple h;obtain⟨its',r',⟨o',e',_,n',d'⟩,_⟩:=I.tuple h';rw[e] at e';cases e';rw[d] at d';injection d' with d1 _;have:its=its':=by simpa using congrArg Array.toList d1
 subst this;exact r.inj r'
end
abbrev Cx.wish(X:Cx)(E:Value->jR->Prop):Cx:={ X with xe:=E }
abbrev Cx.nox(X:Cx):Cx:=X.wish fun _ _=>False
theorem Cx.Ok.wish{X:Cx}(ok:X.Ok)(E:Value->jR->Prop):(X.wish E).Ok :=
 ⟨ok.mod,ok.kind,ok.glob,ok.blt,ok.above,ok.inj,ok.has,ok.cab,ok.hd,ok.frames,ok.stk,ok.exf,ok.bs,ok.bsz,ok.noex,ok.exfs,ok.funs,ok.frf⟩
theorem Cx.Ok.unwish{X:Cx}(ok:(X.wish E).Ok):X.Ok :=
 ⟨ok.mod,ok.kind,ok.glob,ok.blt,ok.above,ok.inj,ok.has,ok.cab,ok.hd,ok.frames,ok.stk,ok.exf,ok.bs,ok.bsz,ok.noex,ok.exfs,ok.funs,ok.frf⟩
section
variable {X:Cx}{pins:List ZL}{O:St}{H:Hp}{s:jR}{E:Value->jR->Prop}
theorem Inv.wish(I:Inv X pins O H s)(E:Value->jR->Prop):Inv (X.wish E) pins O H s:=⟨I.ok.wish E,I.os,I.bare,I.base,I.loc,I.cell,I.free,I.freeC,I.pin,I.hok,I.len⟩
theorem Inv.unwish(I:Inv (X.wish E) pins O H s):Inv X pins O H s:=⟨I.ok.unwish,I.os,I.bare,I.base,I.loc,I.cell,I.free,I.freeC,I.pin,I.hok,I.len⟩
theorem SP.unwish(h:SP (X.wish E) pins D f s'):SP X pins D f s':=by
 cases f with
 |next=>obtain⟨σ',H',I,q⟩:=h;exact⟨σ',H',I.unwish,q⟩
 |brk=>obtain⟨σ',H',I,q⟩:=h;exact⟨σ',H',I.unwish,q⟩
 |cont=>obtain⟨σ',H',I,q⟩:=h;exact⟨σ',H',I.unwish,q⟩
 |ret u=>obtain⟨v,σ',H',I,r,q⟩:=h;exact⟨v,σ',H',I.unwish,r,q⟩
theorem PSs.nox{st:List Stmt}{t:TS}(h:PSs X.nox st t):PSs X st t:=fun pins s O H D I hw =>
 j8 (h pins s O H D (I.wish _) hw) (fun _ _ q=>q.unwish) fun _ _ z=>False.elim z
end
section
variable {X:Cx}{st:Stmt}{rest:List Stmt}{t u:TS}{e:Expr}{te:TE}{pos:Pos}
def tNext:TS:=fun D O H=>D.nx O H
def tSeq(t u:TS):TS:=fun D O H=>t { D with nx:=u D } O H
theorem pss_nil:PSs X [] tNext:=fun _ _ O H _ I h=>wpAny_execs_nil ⟨O,H,I,h⟩
theorem aG0(h1:PS X st t)(h2:PSs X rest u):PSs X (st::rest) (tSeq t u):=by
 intro pins s O H D I h;refine wpAny_execs_cons (thn (h1 pins s O H { D with nx:=u D } I h) fun f s1 q=>?_);cases f with
 | next =>
  obtain⟨σ',H',I',q⟩:=q;exact h2 pins s1 σ' H' D I' q
 |ret v=>exact q
 |brk=>exact q
 |cont=>exact q
theorem pss_one(h1:PS X st t):PSs X [st] t:=by
 intro pins s O H D I h;refine wpAny_execs_cons (thn (h1 pins s O H D I h) fun f s1 q=>?_);cases f with
 |next=>exact wpAny_execs_nil q
 |ret v=>exact q
 |brk=>exact q
 |cont=>exact q
theorem Inv.quiet(I:Inv X pins O H s):interactive X.env=false:=by simp[interactive,I.ok.kind]
def tDrop(te:TE):TS:=fun D O H=>te O H fun _ H1=>D.nx O H1
theorem aMw(he:PE X e te)(hs:autoParam (kg e none pos.line X.env=pure false) lZ):PS X (.Expr e pos) (tDrop te):=by intro pins s O H D I h;exact wpAny_Expr_any (thn (he pins s O H _ I h) fun v s1 ⟨x,H1,I1,r1,q1⟩=>⟨O,H1,I1,q1⟩) I.quiet hs
def tRet(te:TE):TS:=fun D O H=>te O H D.rt
theorem ps_ret(he:PE X e te):PS X (.Return (some e) pos) (tRet te):=by intro pins s O H D I h;exact wpAny_Return_some (thn (he pins s O H _ I h) fun v s1 ⟨x,H1,I1,r1,q1⟩=>⟨x,O,H1,I1,r1,q1⟩)
def tNever:TS:=fun _ _ _=>False
theorem aKh{sts:List Stmt}:PSs X sts tNever:=fun _ _ _ _ _ _ h=>h.elim
end
abbrev TG:=V->St->Hp->(St->Hp->Prop)->Prop
abbrev TGs:=List V->St->Hp->(St->Hp->Prop)->Prop
def PG(X:Cx)(target:Expr)(t:TG):Prop :=
 ∀ (pins:List ZL) (s:jR) (O:St) (H:Hp) (v:V) (u:Value) (Q:St->Hp->Prop),Inv X pins O H s->RelV v u->t v O H Q ->
  wpAny ZC X.A (kM target X.env u) (fun _ s'=>∃σ' H',Inv X pins σ' H' s'/\Q σ' H') X.xe s
def PGs(X:Cx)(ts:List Expr)(t:TGs):Prop :=
 ∀ (pins:List ZL) (s:jR) (O:St) (H:Hp) (vs:List V) (us:List Value) (Q:St->Hp->Prop),Inv X pins O H s->Vals vs us->t vs O H Q ->
  wpAny ZC X.A (assignInOrder ((jk ts X.env).map (·.2)) us) (fun _ s'=>∃σ' H',Inv X pins σ' H' s'/\Q σ' H') X.xe s
abbrev TSet:=V->V->V->Hp->(Hp->Prop)->Prop
def PSet(X:Cx)(t:TSet):Prop :=
 ∀ (pins:List ZL) (s:jR) (O:St) (H:Hp) (o i v:V) (ov iv u:Value) (Q:Hp->Prop),Inv X pins O H s->RelV o ov->RelV i iv->RelV v u->t o i v H Q ->
  wpAny ZC X.A (setItem ov iv u) (fun _ s'=>∃H',Inv X pins O H' s'/\Q H') X.xe s
section
variable {X:Cx}{pos:Pos}
def gName(i:Nat):TG:=fun v O H Q=>Q (O.set i (some v)) H
theorem aTo{i:Nat}(hN:X.N.Nodup)(hi:X.N[i]?=some x)(hx:Loc X.env.scope x)(hf:autoParam (X.fn x=true\/X.env.scope.names.lookup x=some .local) l6):PG X (.Name x pos) (gName i):=by intro pins s O H v u Q I r h;exact wpAny_assign_Name (aVx I hN hi hx r (fun s' I'=>⟨_,H,I',h⟩) hf)
def gNil:TGs:=fun vs O H Q=>vs = []/\Q O H
def gCons(t:TG)(u:TGs):TGs:=fun vs O H Q=>∃v r,vs=v::r/\t v O H fun σ' H'=>u r σ' H' Q
theorem pgs_nil:PGs X [] gNil:=by intro pins s O H vs us Q I r h;obtain⟨e,h⟩:=h;subst e;cases r;exact assignInOrder_nil ⟨O,H,I,h⟩
theorem aU1(h1:PG X e t)(h2:PGs X es u)
  (hs:autoParam ((jk (e::es) X.env).map (·.2)=kM e X.env::(jk es X.env).map (·.2)) lZ):PGs X (e::es) (gCons t u):=by
 intro pins s O H vs us Q I r h;obtain⟨v,vr,e1,h⟩:=h;subst e1;cases r with
 | cons r rr =>
  rw[hs];refine assignInOrder_cons (thn (h1 pins s O H _ _ _ I r h) fun _ s1 ⟨σ1,H1,I1,q1⟩=>?_);exact h2 pins s1 σ1 H1 _ _ Q I1 rr q1
def gTup(K:W.Frag)(n:Nat)(t:TGs):TG:=fun v O H Q=>∃a xs,v = .ref a/\SqT K H a xs/\xs.length=n/\t xs O H Q
theorem pg_tup{k:Nat}{n:Nat}(hc:X.calm=true)(h:PGs X es t)
  (hn:autoParam ((jk es X.env).length=n) lZ) (hst:autoParam ((jk es X.env).findIdx? (·.1)=none) lZ):PG X (.Tuple es k pos) (gTup X.K n t):=by
 intro pins s O H v u Q I r hw;obtain⟨a,xs,e1,hq,hl,hw⟩:=hw;subst e1;cases r;obtain⟨its,rv,ht,hz⟩:=I.tuple hq;refine assign_Tuple_tuple (I.ok.hd hc) ht (by simp[hn,<-hl,rv.length]) hst fun h' hx=>?_;have I1:Inv X pins O H { s with heap:=h' }:=I.kept (t':=s.toks) fun b o e=>hx b o (au (aj e)) e;exact h pins _ O H xs _ Q I1 (by simpa using rv) hw
def gSub(to ti:TE)(t:TSet):TG:=fun v O H Q=>to O H fun o H1=>ti O H1 fun i H2=>t o i v H2 fun H3=>Q O H3
theorem pg_sub(ho:PE X o to)(hi:PE X i ti)(hs:PSet X t)
  (ha:autoParam (∀v,kM (.Subscript o i pos) X.env v=(do
   let ov <-kL [v] (eval o X.env)
   let iv <-kL [v,ov] (eval i X.env)
   standAt pos
   kL [v,ov,iv] (setItem ov iv v)
   release [v,ov,iv] [])) l7):PG X (.Subscript o i pos) (gSub to ti t):=by
 intro pins s O H v u Q I r h;rw[ha];refine jP (j5 (thn (ho pins s O H _ I h) fun ov s1 ⟨x,H1,I1,r1,q1⟩=>?_));refine jP (j5 (thn (hi pins s1 O H1 _ I1 q1) fun iv s2 ⟨y,H2,I2,r2,q2⟩=>?_));refine jP (wpAny_standAt (jP (j5 (thn (hs pins s2 O H2 x y v ov iv u _ I2 r1 r2 r q2) fun _ s3 ⟨H3,I3,q3⟩=>?_))));exact wpAny_release ⟨O,H3,I3,q3⟩
def tAsg(te:TE)(g:TG):TS:=fun D O H=>te O H fun x H1=>g x O H1 D.nx
theorem aYs(he:PE X e te)(hg:PG X tg g)(hs:autoParam (swapsWithSole [tg] e pos.line X.env=pure false) lZ)(hw:autoParam (swappedStores [tg] e X.env=pure none) lZ)
  (h1:autoParam ((jk [tg] X.env).map (·.2) = [kM tg X.env]) lZ):PS X (.Assign [tg] e pos) (tAsg te g):=by
 intro pins s O H D I h;refine wpAny_Assign_stores (thn (he pins s O H _ I h) fun v s1 ⟨x,H1,I1,r1,q1⟩=>?_) hs hw;rw[h1];exact thn (hg pins s1 O H1 x v _ I1 r1 q1) fun _ s2 q=>q
theorem aYf{i:Nat}(hN:X.N.Nodup)(hi:X.N[i]?=some x)(hx:Loc X.env.scope x)(he:PE X e te)(hs:autoParam (kg e (some (.Name x pos')) pos.line X.env=pure false) lZ)(hf:autoParam (X.fn x=true\/X.env.scope.names.lookup x=some .local) l6) :
  PS X (.Assign [.Name x pos'] e pos) (tAsg te (gName i)):=by
 intro pins s O H D I h;refine wpAny_Assign_Name (thn (he pins s O H _ I h) fun v s1 ⟨y,H1,I1,r1,q1⟩=>?_) hs;exact aVx I1 hN hi hx r1 (fun s2 I2=>⟨_,H1,I2,q1⟩) hf
end
structure It where
 go:Nat->Hp->Prop
 yld:Nat->Hp->V->Hp->Prop
 stop:Nat->Hp->Prop
def FpOk(X:Cx)(pins:List ZL)(H:Hp)(b:Addr):Prop :=
 H b=none/\b≠X.env.locals/\b∉X.fs/\(b∈X.ex\/X.s₀.heap.objs.size<=b)/\(∀x c,X.env.cells.lookup x=some c->c≠b)/\∀p∈X.pn++pins,p.1≠b
theorem Inv.fpOk(I:Inv X pins O H s)(hb:s.heap.objs.size<=b)(hn:H' b=none):FpOk X pins H' b:=by
 refine⟨hn,f9 (bz I.lt hb),I.nofs hb,.inr (ao I.sz hb),fun x c e z=>?_,fun p hp z=>?_⟩
 ·obtain⟨v,q⟩:=I.cell x c e;exact absurd (bz q.lt (by rw[z];exact hb)) (eF _)
 ·exact absurd (bz (aj (I.pin p hp).1) (by rw[z];exact hb)) (eF _)
structure Turn (P:jW) (w:World) (K:W.Frag) (tg:Expr) (J:It) (fp:List Addr) (it:Addr) (tn:Nat->Heap->Prop):Prop where
 mem:it∈fp
 obj:∀i h,tn i h->∀b∈fp,∃o,h.get? b=some o/\∀v,o.data ≠ .cell v
 keep:∀i h h',tn i h->(∀b∈fp,∀o,h.get? b=some o->h'.get? b=some o)->tn i h'
 item:∀ (X:Cx),X.prog=P->X.w=w->X.K=K->X.calm=true->∀ (i:Nat) (pins:List ZL) (s:jR) (O:St) (H:Hp) (E:Value->jR->Prop),Inv X pins O H s->(∀b∈fp,FpOk X pins H b)->tn i s.heap->J.go i H ->
  wpAny (model P w) X.A (kN (.ref it)) (fun r s1=>∃u,r=some u /\
   wpAny (model P w) X.A (lG tg (.ref it) u) (fun _ s2=>∃x H',Inv X pins O H' s2/\RelV x u/\J.yld i H x H'/\tn (i+1) s2.heap/\∀b∈fp,H' b=none) E s1) E s
 done:∀ (X:Cx),X.prog=P->X.w=w->X.K=K->X.calm=true->∀ (i:Nat) (pins:List ZL) (s:jR) (O:St) (H:Hp) (E:Value->jR->Prop),Inv X pins O H s->(∀b∈fp,FpOk X pins H b)->tn i s.heap->J.stop i H ->
  wpAny (model P w) X.A (kN (.ref it)) (fun r s1=>r=none/\Inv X pins O H s1) E s
 self:∀ (A:jY) (i:Nat) (s:jR) (Q:Value->jR->Prop) (E:Value->jR->Prop),tn i s.heap->Q (.ref it) s->wpAny (model P w) A (kK (.ref it)) Q E s
abbrev TI:=St->Hp->(It->Hp->Prop)->Prop
def PIE(X:Cx)(pins:List ZL)(O:St)(tg:Expr)(R:It->Hp->Prop)(itv:Value)(s2:jR):Prop :=
 ∃ (it:Addr) (fp:List Addr) (tn:Nat->Heap->Prop) (J:It) (H':Hp),itv = .ref it/\Inv X pins O H' s2/\Turn X.prog X.w X.K tg J fp it tn/\tn 0 s2.heap/\(∀b∈fp,FpOk X pins H' b)/\R J H'
def PI(X:Cx)(tg iter:Expr)(wi:TI):Prop :=
 ∀ (pins:List ZL) (s:jR) (O:St) (H:Hp) (R:It->Hp->Prop),Inv X pins O H s->wi O H R ->
  wpAny ZC X.A (eval iter X.env) (fun v s1=>wpAny ZC X.A (kK v) (PIE X pins O tg R) X.xe s1) X.xe s
theorem go_of(ho:s.heap.get? it=some o)(hc:o.cls = .type n)(hd:o.data = .fields vs)
  (hn:["enumerate","zip","dict_itemiterator","dict_reverseitemiterator","odict_iterator","itertools.zip_longest","itertools.pairwise"].contains n=false) (hQ:Q () s):wpAny M A (lG tg (.ref it) u) Q E s:=by
 unfold lG;cases tg<;>first
  |exact jQ hQ
  | (cases u<;>first
    |exact jQ hQ
    | (refine jP (wpAny_load ho ?_)
       rw[hc,hd];show wpAny M A (if (["enumerate","zip","dict_itemiterator","dict_reverseitemiterator","odict_iterator","itertools.zip_longest","itertools.pairwise"].contains n&&vs[0]?==some (jc _))=true then _ else _) Q E s;rw[if_neg (by intro h;rw[hn,Bool.false_and] at h;cases h)]
       exact jQ hQ))
def Itl(K:W.Frag)(a:Addr):It :=
 ⟨fun i H=>∃xs x,SqL K H a xs/\xs[i]?=some x,fun i H x H'=>H'=H/\∀xs,SqL K H a xs->xs[i]?=some x,fun i H=>∃xs,SqL K H a xs/\xs.length<=i⟩
def Itt(K:W.Frag)(a:Addr):It :=
 ⟨fun i H=>∃xs x,SqT K H a xs/\xs[i]?=some x,fun i H x H'=>H'=H/\∀xs,SqT K H a xs->xs[i]?=some x,fun i H=>∃xs,SqT K H a xs/\xs.length<=i⟩
def Itr(lo:Int)(n:Nat):It:=⟨fun i _=>i<n,fun i H x H'=>H'=H/\x = .int (lo+i),fun i _=>n<=i⟩
theorem aY0{P:jW}{w:World}{K:W.Frag}{tg:Expr}(a it:Addr):Turn P w K tg (Itl K a) [it] it (fun i h=>h.IsListIter it a i) where
 mem:=by simp
 obj:=fun i h st b hb=>by
  have e:b=it:=by simpa using hb
  subst e;obtain⟨o,e,c,d⟩:=st;exact⟨o,e,fun v z=>by rw[d] at z;cases z⟩
 keep:=fun i h h' st k=>st.at fun o e=>k it ZJ o e
 item:=by intro X hP hw hK hc i pins s O H E I hf st hg;subst hP hw hK;obtain⟨xs,x,hq,hx⟩:=hg;obtain⟨its,rv,p,hz⟩:=I.list hq;obtain⟨u,hu,ru⟩:=rv.get hx;obtain⟨f0,f1,f2,f3,f4,f5⟩:=hf it ZJ;refine wpAny_pyNext_list_item st p.isList (x:=u) (by simpa using hu) fun h' st' sb=>?_;have I1:Inv X pins O H { s with heap:=h' }:=I.turned (t':=s.toks) (fun b o hb e=>(sb.2 b hb).trans e) f0 f1 f3 f4 f5;obtain⟨o,e,c,d⟩:=id st';exact⟨u,rfl,go_of (s:={ s with heap:=h' }) e c d ZE ⟨x,H,I1,ru,⟨rfl,fun ys hy=>by rw[I.list_inj hy hq];exact hx⟩,st',fun b hb=>(hf b hb).1⟩⟩
 done:=by intro X hP hw hK hc i pins s O H E I hf st hg;subst hP hw hK;obtain⟨xs,hq,hx⟩:=hg;obtain⟨its,rv,p,hz⟩:=I.list hq;obtain⟨f0,f1,f2,f3,f4,f5⟩:=hf it ZJ;have hl:=rv.length;exact wpAny_pyNext_list_end (I.ok.hd hc) st p.isList (by simp;lia) fun h' eb=>⟨rfl,I.turned (t':=s.toks) (fun b o hb e=>eb b o hb e) f0 f1 f3 f4 f5⟩
 self:=fun _ _ _ _ _ st h=>wpAny_pyIter_listiter st h
theorem aXq{P:jW}{w:World}{K:W.Frag}{tg:Expr}(a it:Addr):Turn P w K tg (Itt K a) [it] it (fun i h=>h.IsTupleIter it a i) where
 mem:=by simp
 obj:=fun i h st b hb=>by
  have e:b=it:=by simpa using hb
  subst e;obtain⟨o,e,c,d⟩:=st;exact⟨o,e,fun v z=>by rw[d] at z;cases z⟩
 keep:=fun i h h' st k=>st.at fun o e=>k it ZJ o e
 item:=by intro X hP hw hK hc i pins s O H E I hf st hg;subst hP hw hK;obtain⟨xs,x,hq,hx⟩:=hg;obtain⟨its,rv,p,hz⟩:=I.tuple hq;obtain⟨u,hu,ru⟩:=rv.get hx;obtain⟨f0,f1,f2,f3,f4,f5⟩:=hf it ZJ;refine wpAny_pyNext_tuple_item st (show s.heap.IsTuple a its.toArray from p) (x:=u) (by simpa using hu) fun h' st' sb=>?_;have I1:Inv X pins O H { s with heap:=h' }:=I.turned (t':=s.toks) (fun b o hb e=>(sb.2 b hb).trans e) f0 f1 f3 f4 f5;obtain⟨o,e,c,d⟩:=id st';exact⟨u,rfl,go_of (s:={ s with heap:=h' }) e c d ZE ⟨x,H,I1,ru,⟨rfl,fun ys hy=>by rw[I.tuple_inj hy hq];exact hx⟩,st',fun b hb=>(hf b hb).1⟩⟩
 done:=by intro X hP hw hK hc i pins s O H E I hf st hg;subst hP hw hK;obtain⟨xs,hq,hx⟩:=hg;obtain⟨its,rv,p,hz⟩:=I.tuple hq;obtain⟨f0,f1,f2,f3,f4,f5⟩:=hf it ZJ;have hl:=rv.length;exact wpAny_pyNext_tuple_end (I.ok.hd hc) st (show s.heap.IsTuple a its.toArray from p) (by simp;lia) fun h' eb=>⟨rfl,I.turned (t':=s.toks) (fun b o hb e=>eb b o hb e) f0 f1 f3 f4 f5⟩
 self:=fun _ _ _ _ _ st h=>wpAny_pyIter_tupleiter st h
theorem aWu{P:jW}{w:World}{K:PySem.W.Frag}{tg:Expr}(it:Addr)(lo:Int)(n:Nat):Turn P w K tg (Itr lo n) [it] it (fun i h=>IsRangeIter h it (lo+(i:Nat)*1) ((n:Int) - (i:Nat)) 1) where
 mem:=by simp
 obj:=fun i h st b hb=>by
  have e:b=it:=by simpa using hb
  subst e
  exact⟨_,st,fun v z=>by
   have z':Data.fields _=Data.cell v:=z
   cases z'⟩
 keep:=fun i h h' st k=>k it ZJ _ st
 item:=by intro X hP hw hK hc i pins s O H E I hf st hg;subst hP hw hK;obtain⟨f0,f1,f2,f3,f4,f5⟩:=hf it ZJ;have W:=Walks.range (prog:=X.prog) (w:=X.w) (I.ok.hd hc) it lo 1 n;refine W.item i s _ _ hg st fun v h' tk hv st' kk=>?_;obtain⟨t,rfl⟩:=hv;have I1:Inv X pins O H { s with heap:=h',toks:=tk }:=I.turned (fun b o hb e=>kk b o (by simpa using hb) e) f0 f1 f3 f4 f5;refine⟨_,rfl,go_of (s:={ s with heap:=h',toks:=tk }) (n:="range_iterator") st' rfl rfl ZE ⟨.int (lo+i),H,I1,⟨t,?_⟩,⟨rfl,rfl⟩,st',fun b hb=>(hf b hb).1⟩⟩;rw[Int.mul_one]
 done:=by intro X hP hw hK hc i pins s O H E I hf st hg;subst hP hw hK;obtain⟨f0,f1,f2,f3,f4,f5⟩:=hf it ZJ;exact wpAny_pyNext_range_end (I.ok.hd hc) st (by have:n<=i:=hg;lia) fun h' eb=>⟨rfl,I.turned (t':=s.toks) (fun b o hb e=>eb b o hb e) f0 f1 f3 f4 f5⟩
 self:=fun _ _ _ _ _ st h=>wpAny_pyIter_rangeiter st h
section
variable {X:Cx}{tg:Expr}
theorem aUr{lo hi:Int}{tk:Nat}(I:Inv X pins O H s)(h1:-(2^62)<=lo)(h2:lo<2^62)(h3:-(2^62)<=hi)(h4:hi<2^62)
  (q:R (Itr lo (hi - lo).toNat) H):wpAny ZC X.A (kK (.ref s.heap.objs.size)) (PIE X pins O tg R) E { s with heap:=s.heap.push { cls:=.type "range",data:=.fields #[.int lo t,.int hi u,.int 1 v] },toks:=tk }:=by
 refine wpAny_pyIter_range (IsRange.new ..) (small_one h1 h2 h3 h4) ?_;have I1:Inv X pins O H { s with heap:=s.heap.push { cls:=.type "range",data:=.fields #[.int lo t,.int hi u,.int 1 v] },toks:=tk }:=I.kept fun b o e=>a0 _ e
 refine⟨(s.heap.push { cls:=.type "range",data:=.fields #[.int lo t,.int hi u,.int 1 v] }).objs.size,[(s.heap.push { cls:=.type "range",data:=.fields #[.int lo t,.int hi u,.int 1 v] }).objs.size],_,_,H,rfl,
  I1.kept (t':=tk) fun b o e=>a0 _ e,aWu _ lo (hi - lo).toNat,?_,fun b hb=>?_,q⟩
 ·have e1:lo+((0:Nat):Int)*1=lo:=by simp
  have e2:(((hi - lo).toNat:Nat):Int) - ((0:Nat):Int)=Builtin.Range.rangeSize lo hi 1:=by rw[rangeSize_one];split<;>lia
  show IsRangeIter _ _ (lo+((0:Nat):Int)*1) ((((hi - lo).toNat:Nat):Int) - ((0:Nat):Int)) 1;rw[e1,e2];exact af _ rfl
 ·have e:b=(s.heap.push { cls:=.type "range",data:=.fields #[.int lo t,.int hi u,.int 1 v] }).objs.size:=by simpa using hb
  subst e;exact I1.fpOk (a9 _) (I1.hok.fresh (a9 _))
def iRng1(ta:TA):TI:=fun O H R=>ta O H fun vs H1=>∃j:Int,vs = [.int j] /\ -(2^62)<=j/\j<2^62/\R (Itr 0 j.toNat) H1
def iRng2(ta:TA):TI:=fun O H R=>ta O H fun vs H1=>∃i j:Int,vs = [.int i,.int j]/\(-(2^62)<=i/\i<2^62 /\ -(2^62)<=j/\j<2^62)/\R (Itr i (j - i).toNat) H1
theorem aZ9(hg:Gl X "range")(hm:X.mg "range" = none)(ha:PA X [a] ta)(hs:autoParam (jV [a] X.env = [(false,eval a X.env)]) lZ):PI X tg (.Call (.Name "range" p) [a] [] pos) (iRng1 ta):=by
 intro pins s O H R I h;refine Call_ (aEe I hg hm boot_range (PyProof.Rows.callWith_type1 (thn (ha pos pins s O H _ I h) fun us s1 ⟨vs,H1,I1,r1,q1⟩=>?_) hs rfl));obtain⟨j,e,q1,q2,q⟩:=q1;subst e;cases r1 with
 | cons r rr =>
  cases rr;obtain⟨t,rfl⟩:=r;exact call_range_1 (aUr I1 ZA ZA q1 q2 (by simpa using q))
theorem bBz(hg:Gl X "range")(hm:X.mg "range" = none)(ha:PA X [a,b] ta)(hs:autoParam (jV [a,b] X.env = [(false,eval a X.env),(false,eval b X.env)]) lZ)(hs2:autoParam (jV [b] X.env = [(false,eval b X.env)]) lZ) :
  PI X tg (.Call (.Name "range" p) [a,b] [] pos) (iRng2 ta):=by
 intro pins s O H R I h;refine Call_ (aEe I hg hm boot_range (PyProof.Rows.callWith_type1 (thn (ha pos pins s O H _ I h) fun us s1 ⟨vs,H1,I1,r1,q1⟩=>?_) (by rw[hs,hs2]) (by rw[hs2];rfl)));obtain⟨i,j,e,⟨q1,q2,q3,q4⟩,q⟩:=q1;subst e;cases r1 with
 | cons r rr =>
  cases rr with
  | cons r' rr =>
   cases rr;obtain⟨t,rfl⟩:=r;obtain⟨t',rfl⟩:=r';exact call_range_2 (aUr I1 q1 q2 q3 q4 q)
def tFor(wi:TI)(g:TG)(tb:TS):TS:=fun D O H=>wi O H fun J H1=>∃W:Nat->Nat->St->Hp->Prop,(∃m,W 0 m O H1)/\∀i m O H,W i m O H ->
 (J.stop i H/\D.nx O H)\/(J.go i H/\∃N:St->Hp->Prop,(∀σ' H',N σ' H'->∃m',m'<m/\W (i+1) m' σ' H')/\∀x H',J.yld i H x H'->g x O H' fun σ2 H2=>tb { D with nx:=N,ct:=N,bk:=D.nx } σ2 H2)
def aSp(fp:List Addr)(h:Heap):List ZL:=fp.filterMap fun b=>(h.get? b).map fun o=>(b,o)
theorem aFq(hb:b∈fp)(e:h.get? b=some o):(b,o)∈aSp fp h:=i7.mpr ⟨b,hb,by rw[e];rfl⟩
theorem aY5(hp:p∈aSp fp h):p.1∈fp/\h.get? p.1=some p.2:=by
 obtain⟨b,hb,e⟩:=i7.mp hp;cases q:h.get? b with
 |none=>rw[q] at e;cases e
 | some o =>
  rw[q] at e;have e':(b,o)=p:=Option.some.inj e;subst e';exact⟨hb,q⟩
theorem Inv.pinned(I:Inv X pins O H s)(hf:∀b∈fp,FpOk X pins H b)(ho:∀b∈fp,∃o,s.heap.get? b=some o/\∀v,o.data ≠ .cell v):Inv X (pins++aSp fp s.heap) O H s :=
 I.pins_of fun p hp=>(ci.mp hp).elim (fun z=>I.pin p (cf _ z)) fun z=>by obtain⟨hb,e⟩:=aY5 z;obtain⟨f0,f1,f2,_⟩:=hf p.1 hb;obtain⟨o,e',d⟩:=ho p.1 hb;rw[e] at e';cases e';exact⟨e,f0,f1,f2,d⟩
theorem Inv.unpinned(I:Inv X (pins++pl) O H s):Inv X pins O H s:=I.pins_of fun p hp=>I.pin p (cf _ (eQ _ hp))
theorem ps_for(hp:PassesOwn ZC X.A X.env X.xe)(hc:X.calm=true)(hi:PI X tg iter wi)(hg:PG X tg g)(hb:PSs X body tb)
  (hs:autoParam (∀x,jw iter X.env x=pure x) l7):PS X (.For tg iter body [] pos) (tFor wi g tb):=by
 intro pins s O H D I h;refine wpAny_For (thn (hi pins s O H _ I h) fun v s1 h1=>thn h1 fun itv s2 h2=>?_) hs;obtain⟨it,fp,tn,J,H2,e,I2,T,st2,f2,W,⟨m0,w0⟩,turn⟩:=h2;subst e;have stat:∀ {H':Hp},(∀b∈fp,H' b=none)->∀b∈fp,FpOk X pins H' b:=fun hn b hb=>⟨hn b hb,(f2 b hb).2⟩
 refine codeAny_forLoop_any (fun n s'=>∃i σ' H',Inv X pins σ' H' s'/\tn i s'.heap/\(∀b∈fp,H' b=none)/\W i n σ' H') ?_ m0 ⟨0,O,H2,I2,st2,fun b hb=>(f2 b hb).1,w0⟩;rintro n s3 ⟨i,σ3,H3,I3,st3,fr3,w3⟩;rcases turn i n σ3 H3 w3 with ⟨stop,qn⟩ |⟨go,N,hN,step⟩
 ·refine kc hp (thn (T.done X rfl rfl rfl hc i pins s3 σ3 H3 X.xe I3 (stat fr3) st3 stop) fun r s4 ⟨hr,I4⟩=>?_);subst hr;exact wpAny_execs_nil ⟨σ3,H3,I4,qn⟩
 ·refine kc hp (thn (T.item X rfl rfl rfl hc i pins s3 σ3 H3 X.xe I3 (stat fr3) st3 go) fun r s4 ⟨u,hr,h4⟩=>?_);subst hr;refine kc hp (thn h4 fun _ s5 ⟨x,H5,I5,r5,y5,st5,fr5⟩=>?_);have I5':=I5.pinned (stat fr5) (T.obj _ _ st5);refine kc hp (thn (hg _ s5 σ3 H5 x u _ I5' r5 (step x H5 y5)) fun _ s6 ⟨σ6,H6,I6,q6⟩=>?_);refine kc hp (thn (hb _ s6 σ6 H6 _ I6 q6) fun f s7 q7=>?_);have again:∀ {σ7:St} {H7:Hp},Inv X (pins++aSp fp s5.heap) σ7 H7 s7->N σ7 H7->∃m,m<n/\∃i σ' H',Inv X pins σ' H' s7/\tn i s7.heap/\(∀b∈fp,H' b=none)/\W i m σ' H':=fun {σ7 H7} I7 n7=>by obtain⟨m',hm,w7⟩:=hN σ7 H7 n7;refine⟨m',hm,i+1,σ7,H7,I7.unpinned,T.keep _ _ _ st5 fun b hb o e=>(I7.pin (b,o) (cf _ (cf _ (aFq hb e)))).1,fun b hb=>?_,w7⟩;obtain⟨o,e,d⟩:=T.obj _ _ st5 b hb;exact(I7.pin (b,o) (cf _ (cf _ (aFq hb e)))).2.1
  cases f with
  |next=>obtain⟨σ7,H7,I7,n7⟩:=q7;exact again I7 n7
  |cont=>obtain⟨σ7,H7,I7,n7⟩:=q7;exact again I7 n7
  |brk=>obtain⟨σ7,H7,I7,q7⟩:=q7;exact⟨σ7,H7,I7.unpinned,q7⟩
  |ret v=>obtain⟨x7,σ7,H7,I7,r7,q7⟩:=q7;exact⟨x7,σ7,H7,I7.unpinned,r7,q7⟩
end
abbrev R2:=V->V->Hp->VK->Prop
def OpR(X:Cx)(f:Value->Value->Sem Value)(r:R2):Prop :=
 ∀ (pins:List ZL) (s:jR) (O:St) (H:Hp) (x y:V) (v u:Value) (Q:VK),Inv X pins O H s->RelV x v->RelV y u->r x y H Q ->
  wpAny ZC X.A (f v u) (EP X pins O Q) X.xe s
def UnR(X:Cx)(f:Value->Sem Value)(r:V->Hp->VK->Prop):Prop :=
 ∀ (pins:List ZL) (s:jR) (O:St) (H:Hp) (x:V) (v:Value) (Q:VK),Inv X pins O H s->RelV x v->r x H Q ->
  wpAny ZC X.A (f v) (EP X pins O Q) X.xe s
def aXz(X:Cx)(f:Value)(r:List V->Hp->VK->Prop):Prop :=
 ∀ (pins:List ZL) (s:jR) (O:St) (H:Hp) (xs:List V) (us:List Value) (Q:VK),Inv X pins O H s->Vals xs us->r xs H Q ->
  wpAny ZC X.A (call f us) (EP X pins O Q) X.xe s
def TruR(X:Cx)(r:V->Hp->(Bool->Hp->Prop)->Prop):Prop :=
 ∀ (pins:List ZL) (s:jR) (O:St) (H:Hp) (x:V) (v:Value) (Q:Bool->Hp->Prop),Inv X pins O H s->RelV x v->r x H Q ->
  wpAny ZC X.A (truthy v) (TP X pins O Q) X.xe s
def tUn(r:V->Hp->VK->Prop)(ta:TE):TE:=fun O H Q=>ta O H fun x H1=>r x H1 Q
def rI(C:Int->Int->Prop)(g:Int->Int->V):R2:=fun x y H Q=>∃i j,x = .int i/\y = .int j/\C i j/\Q (g i j) H
def rI0(g:Int->Int->V):R2:=fun x y H Q=>∃i j,x = .int i/\y = .int j/\Q (g i j) H
def rU(g:Int->V):V->Hp->VK->Prop:=fun x H Q=>∃i,x = .int i/\Q (g i) H
section
variable {X:Cx}{a b c:Expr}{ta tb tc:TE}{pos:Pos}
theorem pe_un(ho:UnR X (unaryOp op) r)(ha:PE X a ta):PE X (.UnaryOp op a pos) (tUn r ta):=by intro pins s O H Q I h;exact UnaryOp_ (thn (ha pins s O H _ I h) fun v s1 ⟨x,H1,I1,r1,q1⟩=>ho pins s1 O H1 x v Q I1 r1 q1)
theorem opI{C:Int->Int->Prop}{g:Int->Int->Int}
  (rule:∀ (i j:Int) (t u:Tok) (s:jR) (Q:Value->jR->Prop) (E:Value->jR->Prop),C i j->Q (.int (g i j) s.toks) { s with toks:=s.toks+1 }->wpAny (model X.prog X.w) X.A (f (.int i t) (.int j u)) Q E s) :
  OpR X f (rI C fun i j=>.int (g i j)):=by
 intro pins s O H x y v u Q I rx ry h;obtain⟨i,j,rfl,rfl,hc,q⟩:=h;obtain⟨t,rfl⟩:=rx;obtain⟨t',rfl⟩:=ry;exact rule i j t t' s _ _ hc ⟨.int (g i j),H,I.tok _,⟨_,rfl⟩,q⟩
theorem opI0{g:Int->Int->Int}
  (rule:∀ (i j:Int) (t u:Tok) (s:jR) (Q:Value->jR->Prop) (E:Value->jR->Prop),Q (.int (g i j) s.toks) { s with toks:=s.toks+1 }->wpAny (model X.prog X.w) X.A (f (.int i t) (.int j u)) Q E s) :
  OpR X f (rI0 fun i j=>.int (g i j)):=by
 intro pins s O H x y v u Q I rx ry h;obtain⟨i,j,rfl,rfl,q⟩:=h;obtain⟨t,rfl⟩:=rx;obtain⟨t',rfl⟩:=ry;exact rule i j t t' s _ _ ⟨.int (g i j),H,I.tok _,⟨_,rfl⟩,q⟩
def CMul(i j:Int):Prop:=(-(2^64)<i/\i<2^64)\/(-(2^64)<j/\j<2^64)
theorem CMul.ok{i j:Int}(h:CMul i j):IntMulOk i j:=by
 rcases h with ⟨h1,h2⟩ |⟨h1,h2⟩
 ·exact .of_left (intBits_le_64 h1 h2)
 ·exact .of_right (intBits_le_64 h1 h2)
theorem op_add:OpR X (kX .Add) (rI0 fun i j=>.int (i+j)):=opI0 fun _ _ _ _ _ _ _ q=>add_int q
theorem op_sub:OpR X (kX .Sub) (rI0 fun i j=>.int (i - j)):=opI0 fun _ _ _ _ _ _ _ q=>sub_int q
theorem op_mul:OpR X (kX .Mult) (rI CMul fun i j=>.int (i*j)):=opI fun _ _ _ _ _ _ _ hc q=>mul_int q hc.ok
theorem op_mod:OpR X (kX .Mod) (rI (fun _ j=>0<j) fun i j=>.int (i%j)):=opI fun i j _ _ _ _ _ hc q=>by have h1:(0:Int)<j:=hc;exact mod_int' ZA (by rw[Int.fmod_eq_emod_of_nonneg i ZA];exact q)
theorem unI{g:Int->Int}
  (rule:∀ (i:Int) (t:Tok) (s:jR) (Q:Value->jR->Prop) (E:Value->jR->Prop),Q (.int (g i) s.toks) { s with toks:=s.toks+1 }->wpAny (model X.prog X.w) X.A (f (.int i t)) Q E s) :
  UnR X f (rU fun i=>.int (g i)):=by
 intro pins s O H x v Q I rx h;obtain⟨i,rfl,q⟩:=h;obtain⟨t,rfl⟩:=rx;exact rule i t s _ _ ⟨.int (g i),H,I.tok _,⟨_,rfl⟩,q⟩
theorem un_neg:UnR X (unaryOp .USub) (rU fun i=>.int (-i)):=unI fun _ _ _ _ _ q=>neg_int q
def tTest(t:TE):TT:=fun O H Q=>t O H fun x H'=>∃k,x = .bl k/\Q k H'
def bAj(r r':R2)(ta tb tc:TE):TE:=fun O H Q=>ta O H fun x H1=>tb O H1 fun y H2=>r x y H2 fun z H3=>∃k,z = .bl k /\
 (if k=true then tc O H3 fun w' H4=>r' y w' H4 Q else Q (.bl false) H3)
theorem pe_chain(ho:OpR X (j6 op) r)(ho':OpR X (j6 op') r')(ha:PE X a ta)(hb:PE X b tb)(hc:PE X c tc)
  (hm:autoParam (lastMarks [op,op'] [b,c]=false) az5._auto_1):PE X (.Compare a [op,op'] [b,c] pos) (bAj r r' ta tb tc):=by
 intro pins s O H Q I h
 refine Compare_chain (thn (ha pins s O H _ I h) fun v s1 ⟨x,H1,I1,r1,q1⟩=>chain_link (thn (hb pins s1 O H1 _ I1 q1) fun u s2 ⟨y,H2,I2,r2,q2⟩ =>
  thn (ho pins s2 O H2 x y v u _ I2 r1 r2 q2) fun d s3 ⟨z,H3,I3,r3,k,e,q3⟩=>?_)) hm
 subst e;cases r3;refine jx ?_;cases k with
 |false=>exact ite_ff ⟨.bl false,H3,I3,rfl,q3⟩
 |true=>exact ite_tt (chain_last (thn (hc pins s3 O H3 _ I3 q3) fun w' s4 ⟨z',H4,I4,r4,q4⟩=>ho' pins s4 O H4 y z' u w' Q I4 r2 r4 q4))
theorem pt_chain(ho:OpR X (j6 op) r)(ho':OpR X (j6 op') r')(ha:PE X a ta)(hb:PE X b tb)(hc:PE X c tc)
  (hm:autoParam (lastMarks [op,op'] [b,c]=false) az5._auto_1):PT X (.Compare a [op,op'] [b,c] pos) (tTest (bAj r r' ta tb tc)):=by
 intro pins s O H Q I h
 refine isTrue_chain (thn (ha pins s O H _ I h) fun v s1 ⟨x,H1,I1,r1,q1⟩=>test_link (thn (hb pins s1 O H1 _ I1 q1) fun u s2 ⟨y,H2,I2,r2,q2⟩ =>
  thn (ho pins s2 O H2 x y v u _ I2 r1 r2 q2) fun d s3 ⟨z,H3,I3,r3,k,e,q3⟩=>?_)) hm
 subst e;cases r3;refine jx ?_;cases k with
 | false =>
  obtain⟨k',e',q'⟩:=q3;cases e';exact ite_ff ⟨H3,I3,q'⟩
 | true =>
  refine ite_tt (test_last (thn (hc pins s3 O H3 _ I3 q3) fun w' s4 ⟨z',H4,I4,r4,q4⟩=>thn (ho' pins s4 O H4 y z' u w' _ I4 r2 r4 q4) fun d' s5 ⟨z2,H5,I5,r5,k2,e2,q5⟩=>?_));subst e2;cases r5;exact jx ⟨H5,I5,q5⟩
def TruV(K:W.Frag)(x:V)(H:Hp)(k:Bool):Prop :=
 match x with
 |.non=>k=false
 |.bl b=>k=b
 |.int i=>k=(i != 0)
 |.str y=>y.length<=jU/\k=((y.length:Int) != 0)
 |.byt y=>y.size<=jU/\k=((y.size:Int) != 0)
 |.ref p=>(∃xs,SqL K H p xs/\k = !xs.isEmpty)\/(∃xs,SqT K H p xs/\k = !xs.isEmpty)\/∃kvs,H p=some (.dK kvs)/\k = !kvs.isEmpty
 |_=>False
theorem aWm{κ:Type}{kvs:List (κ × V)}{vs:List (κ × Value)}(r:KV kvs vs):(!vs.isEmpty) = !kvs.isEmpty:=by cases r<;>rfl
theorem aLy(r:Vals xs its):(!its.toArray.isEmpty) = !xs.isEmpty:=by cases r<;>simp
theorem aSj:(jU:Nat)<2^63:=by rw[jz];decide
theorem tru_ok:TruR X (fun x H Q=>∃k,TruV X.K x H k/\Q k H):=by
 intro pins s O H x v Q I rx h;obtain⟨k,e,q⟩:=h;have hl:=aSj;have hs:jU=16777216:=jz;cases x with
 | non =>
  cases rx;have e':k=false:=e;subst e';exact truthy_none ⟨H,I,q⟩
 | bl b =>
  cases rx;have e':k=b:=e;subst e';exact jx ⟨H,I,q⟩
 | int i =>
  obtain⟨t,rfl⟩:=rx;have e':k=(i != 0):=e;subst e';exact PySem.P.truthy_int ⟨H,I,q⟩
 | str y =>
  obtain⟨t,rfl⟩:=rx;obtain⟨hy,e'⟩:y.length<=jU/\k=((y.length:Int) != 0):=e;subst e';exact PySem.P.truthy_str ZA ⟨H,I.tok _,q⟩
 | byt y =>
  obtain⟨t,rfl⟩:=rx;obtain⟨hy,e'⟩:y.size<=jU/\k=((y.size:Int) != 0):=e;subst e';exact W.truthy_bytes ZA ⟨H,I.tok _,q⟩
 | ref p =>
  cases rx;have e':(∃xs,SqL X.K H p xs/\k = !xs.isEmpty)\/(∃xs,SqT X.K H p xs/\k = !xs.isEmpty)\/∃kvs,H p=some (.dK kvs)/\k = !kvs.isEmpty:=e;rcases e' with ⟨xs,hx,e'⟩ |⟨xs,hx,e'⟩ |⟨kvs,hx,e'⟩
  ·subst e';obtain⟨its,r,pl,hz⟩:=I.list hx;have hlen:=r.length;exact wpAny_truthy_list pl.isList (by simp only[ah];lia) ⟨H,I.tok _,by rw[aLy r];exact q⟩
  ·subst e';obtain⟨its,r,pl,hz⟩:=I.tuple hx;have hlen:=r.length;exact truthy_tuple pl (by simp only[ah];lia) ⟨H,I.tok _,by rw[aLy r];exact q⟩
  ·subst e';obtain⟨hz,hS,vs,r,m⟩:kvs.length<=jU/\(p==jq)=false/\∃vs,KV kvs vs/\s.heap.DictOf (aAz X.prog X.w) p vs:=I.hok p _ hx;have hlen:kvs.length=vs.length:=Paired.length r;exact wpAny_truthy_dict hS m ZA ⟨H,I.tok _,by rw[aWm r];exact q⟩
 |_=>exact(show False from e).elim
theorem vals1(r:Vals [x] us):∃u,us = [u]/\RelV x u:=by
 cases r with
 |cons r1 r2=>cases r2;exact⟨_,rfl,r1⟩
theorem vals2(r:Vals [x,y] us):∃u w',us = [u,w']/\RelV x u/\RelV y w':=by
 cases r with
 | cons r1 r2 =>
  cases r2 with
  |cons r3 r4=>cases r4;exact⟨_,_,rfl,r1,r3⟩
theorem bBf(hc:X.calm=true):aXz X (.builtin "max") (fun xs H Q=>∃i j,xs = [.int i,.int j]/\Q (.int (if j > i then j else i)) H):=by
 intro pins s O H xs us Q I r h;obtain⟨i,j,rfl,q⟩:=h;obtain⟨u,w',rfl,⟨t,rfl⟩,⟨t',rfl⟩⟩:=vals2 r;refine max_two_ints (I.ok.hd hc) fun h' tk k=>⟨_,H,I.kept k,?_,q⟩
 by_cases hj:j > i
 ·rw[if_pos hj,if_pos hj];exact⟨_,rfl⟩
 ·rw[if_neg hj,if_neg hj];exact⟨_,rfl⟩
theorem aZs(hc:X.calm=true):aXz X (.builtin "min") (fun xs H Q=>∃i j,xs = [.int i,.int j]/\Q (.int (if j<i then j else i)) H):=by
 intro pins s O H xs us Q I r h;obtain⟨i,j,rfl,q⟩:=h;obtain⟨u,w',rfl,⟨t,rfl⟩,⟨t',rfl⟩⟩:=vals2 r;refine min_two_ints (I.ok.hd hc) fun h' tk k=>⟨_,H,I.kept k,?_,q⟩
 by_cases hj:j<i
 ·rw[if_pos hj,if_pos hj];exact⟨_,rfl⟩
 ·rw[if_neg hj,if_neg hj];exact⟨_,rfl⟩
def LenV(K:W.Frag)(x:V)(H:Hp)(n:Nat):Prop :=
 match x with
 |.str y=>y.length<=jU/\n=y.length
 |.byt y=>y.size<=jU/\n=y.size
 |.ref p=>(∃xs,SqL K H p xs/\n=xs.length)\/∃xs,SqT K H p xs/\n=xs.length
 |_=>False
theorem aMj:aXz X (.builtin "len") (fun xs H Q=>∃x n,xs = [x]/\LenV X.K x H n/\Q (.int n) H):=by
 intro pins s O H xs us Q I r h;obtain⟨x,n,rfl,e,q⟩:=h;obtain⟨u,rfl,rx⟩:=vals1 r;have hl:=aSj;have hs:jU=16777216:=jz;cases x with
 | str y =>
  obtain⟨t,rfl⟩:=rx;obtain⟨hy,e'⟩:y.length<=jU/\n=y.length:=e;subst e';exact len_str ZA ⟨.int _,H,I.tok _,⟨_,rfl⟩,q⟩
 | byt y =>
  obtain⟨t,rfl⟩:=rx;obtain⟨hy,e'⟩:y.size<=jU/\n=y.size:=e;subst e';exact W.len_bytes ZA ⟨.int _,H,I.tok _,⟨_,rfl⟩,q⟩
 | ref p =>
  cases rx;have e':(∃xs,SqL X.K H p xs/\n=xs.length)\/∃xs,SqT X.K H p xs/\n=xs.length:=e;rcases e' with ⟨xs,hx,e'⟩ |⟨xs,hx,e'⟩
  ·subst e';obtain⟨its,r',pl,hz⟩:=I.list hx;have hlen:=r'.length;exact Calls.call_len_list pl.isList (by simp only[ah];lia) ⟨.int xs.length,H,I.tok _,⟨_,by simp only[ah];rw[hlen]⟩,q⟩
  ·subst e';obtain⟨its,r',pl,hz⟩:=I.tuple hx;have hlen:=r'.length;exact len_tuple pl (by simp only[ah];lia) ⟨.int xs.length,H,I.tok _,⟨_,by simp only[ah];rw[hlen]⟩,q⟩
 |_=>exact(show False from e).elim
end
structure ObjM (h:Heap) (x dx C:Addr) (mA:Str->Option Value):Prop where
 obj:h.get? x=some (W.instObj C dx)
 ns:h.Ns1 dx mA
 ne:dx≠x
theorem bCb{h:Heap}(n:h.Ns1 dx mA):∃od,h.get? dx=some od/\∀name,W.lookIn name od=some (mA name):=by
 obtain⟨o,es,ep,ho,hd,hk,_,hm⟩:=n;refine⟨o,ho,fun name=>?_⟩;have e:=hm name;unfold nsFind findBy at e;rw[<-Array.find?_toList] at e;unfold W.lookIn;rw[hd];dsimp only;split
 ·rename_i y q;rw[q] at e;exact congrArg some e
 ·rename_i q;rw[q] at e;have a:es.toList.any (·.refKey)=false:=by rw[iz];intro y hy;obtain⟨z,t,hkey⟩:=hk y (Array.mem_toList_iff.mp hy);simp[DictEntry.refKey,hkey]
  have a':¬es.toList.any (·.refKey)=true:=by rw[a];exact dU
  rw[if_neg a'];exact congrArg some e
theorem ObjM.look(I:ObjM h x dx C mA):∃od,W.InstAt h x (W.instObj C dx) C (some od)/\∀name,W.lookIn name od=some (mA name) :=
 let ⟨od,ho,hl⟩:=bCb I.ns
 ⟨od,⟨I.obj,rfl,rfl,ho⟩,hl⟩
theorem RelO.some_of(r:RelO (some v) o):∃u,o=some u/\RelV v u:=by
 cases o with
 |none=>exact(show False from r).elim
 |some u=>exact⟨u,rfl,r⟩
structure Cls (K:W.Frag) (C:Addr):Prop where
 pg:W.plainGet K C Str.empty=true
 hd:W.hasDictIn K C=true
 po:W.plainOver K C=true
 sa:W.findIn K (.ref C) "__setattr__" = some (some (.builtin "object.__setattr__"))
theorem Cls.get{K:W.Frag}{C:Addr}(c:Cls K C)(f:Str):W.plainGet K C f=true:=c.pg
section
variable {X:Cx}{pins:List ZL}{O:St}{H:Hp}{s:jR}{A:jY}{E:Value->jR->Prop}{Q:Value->jR->Prop}{c:Value}{b:Bool}
inductive TyOf (K:W.Frag) (H:Hp):V->Value->Prop where
 |non:TyOf K H .non (.type "NoneType")
 |bl (x:Bool):TyOf K H (.bl x) (.type "bool")
 |int (i:Int):TyOf K H (.int i) (.type "int")
 |str (x:Str):TyOf K H (.str x) (.type "str")
 |flt (x:UInt64):TyOf K H (.flt x) (.type "float")
 |lst {a:Addr} {xs:List V} (e:H a=some (.lst xs)):TyOf K H (.ref a) (.type "list")
 |frz {a:Addr} {o:Obj} {xs:List V} (e:H a=some (.frz o (.lst xs))):TyOf K H (.ref a) (.type "list")
 |tup {a:Addr} {xs:List V} (e:H a=some (.tup xs)):TyOf K H (.ref a) (.type "tuple")
 |dK {a:Addr} {kvs:List (Key × V)} (e:H a=some (.dK kvs)):TyOf K H (.ref a) (.type "dict")
theorem aFh(I:Inv X pins O H s)(rx:RelV x u)(ty:TyOf X.K H x t)(e:W.kitOne X.K t c=some b)(h:∀tk,Q (.bool b) { s with toks:=tk }) :
  wpAny ZC A (call (.builtin "isinstance") [u,c]) Q E s:=by
 cases ty with
 |non=>cases (show u=Value.none from rx);exact W.kia_one W.kitx_none I.kIn True.intro e (fun z=>nomatch z) h
 |bl y=>cases (show u=Value.bool y from rx);exact W.kia_one W.kitx_bool I.kIn True.intro e (fun z=>nomatch z) h
 |int i=>obtain⟨t,q⟩:=(show ∃t,u=Value.int i t from rx);cases q;exact W.kia_one W.kitx_int I.kIn True.intro e (fun z=>nomatch z) h
 |str y=>obtain⟨t,q⟩:=(show ∃t,u=Value.str y t from rx);cases q;exact W.kia_one W.kitx_str I.kIn True.intro e (fun z=>nomatch z) h
 |flt y=>obtain⟨t,q⟩:=(show ∃t,u=Value.float y t from rx);cases q;exact W.kia_one W.kitx_float I.kIn True.intro e (fun z=>nomatch z) h
 | @lst a xs ea =>
  cases (show u=Value.ref a from rx);obtain⟨_,_,n,_,h1⟩:=(show aBz X.prog X.w H s.heap a (.lst xs) from I.hok a _ ea)
  exact W.kia_one W.kitx_list I.kIn ⟨_,h1,rfl⟩ e (fun z=>nomatch z) h
 | @frz a ob xs ea =>
  cases (show u=Value.ref a from rx);obtain⟨_,_,_,n,_,h1⟩:=(show aBz X.prog X.w H s.heap a (.frz ob (.lst xs)) from I.hok a _ ea)
  exact W.kia_one W.kitx_list I.kIn ⟨_,h1,rfl⟩ e (fun z=>nomatch z) h
 | @tup a xs ea =>
  cases (show u=Value.ref a from rx);obtain⟨_,_,_,p⟩:=(show aBz X.prog X.w H s.heap a (.tup xs) from I.hok a _ ea)
  obtain⟨o,h1,h2,_⟩:=p;exact W.kia_one W.kitx_tuple I.kIn ⟨o,h1,h2⟩ e (fun z=>nomatch z) h
 | @dK a kvs ea =>
  cases (show u=Value.ref a from rx);obtain⟨_,_,vs,_,p⟩:=(show aBz X.prog X.w H s.heap a (.dK kvs) from I.hok a _ ea)
  obtain⟨o,es,ep,h1,h2,_⟩:=p;exact W.kia_one W.kitx_dict I.kIn ⟨o,h1,h2.1⟩ e (fun z=>nomatch z) h
end
structure Room (k:Nat) (A:jY):Prop where
 hd:A.handled=none
 dp:A.depth+3*k+5<recursionLimit
 un:A.units+16*k+200<cLine
theorem Room.mono{j k:Nat}(r:Room k A)(h:j<=k):Room j A:=⟨r.hd,by have:=r.dp;lia,by have:=r.un;lia⟩
theorem Room.deeper{k:Nat}(r:Room (k+1) A)(env:Env):Room k (A.deeper env) :=
 ⟨r.hd,by have:=r.dp;show A.depth+1+3*k+5<_;lia,by have:=r.un;show A.units+3+16*k+200<_;lia⟩
theorem Room.depth{k:Nat}(r:Room k A):A.depth<recursionLimit:=by have:=r.dp;lia
theorem Room.units0{k:Nat}(r:Room k A):A.units<cLine:=by have:=r.un;lia
def tNil:TA:=fun _ H Q=>Q [] H
def tCons(ta:TE)(tr:TA):TA:=fun O H Q=>ta O H fun x H1=>tr O H1 fun xs H2=>Q (x::xs) H2
section
variable {X:Cx}{e:Expr}{es:List Expr}{te:TE}{t:TA}{pos:Pos}
theorem aP3:PA X [] tNil:=fun _ _ _ _ H Q I h=>eU ⟨[],H,I,.nil,h⟩
theorem pa_cons(ha:PE X e te)(hr:PA X es t)(hs:autoParam (jV (e::es) X.env=(false,eval e X.env)::jV es X.env) lZ):PA X (e::es) (tCons te t):=by intro pos pins s O H Q I h;rw[hs];show wpAny _ _ (spliced ((false,eval e X.env)::jg pos (jV es X.env))) _ _ s;refine dS (thn (ha pins s O H _ I h) fun u s1 ⟨x,H1,I1,r1,q1⟩=>?_);exact thn (hr pos pins s1 O H1 _ I1 q1) fun us s2 ⟨xs,H2,I2,r2,q2⟩=>⟨x::xs,H2,I2,.cons r1 r2,q2⟩
def tTup(t:TA):TE:=fun O H Q=>t O H fun xs H1=>xs.length<=jU/\∀p,H1 p=none->Q (.ref p) (upd H1 p (.tup xs))
def tLst(t:TA):TE:=fun O H Q=>t O H fun xs H1=>xs.length<=jU/\∀p,H1 p=none->Q (.ref p) (upd H1 p (.lst xs))
theorem pe_tup{x1}(h:PA X es t):PE X (.Tuple es x1 pos) (tTup t):=by intro pins s O H Q I hq;refine wpAny_Tuple_spliced (thn (h pos pins s O H _ I hq) fun us s1 ⟨xs,H1,I1,r,z,q⟩=>⟨by rw[<-r.length];exact z,?_⟩);have hf:H1 s1.heap.objs.size=none:=I1.hok.fresh (a9 _);refine⟨.ref s1.heap.objs.size,upd H1 s1.heap.objs.size (.tup xs),I1.laid (t':=s1.toks) (fun b u e=>a0 _ e) (a9 _) ?_,rfl,q _ hf⟩;exact⟨z,us,r,⟨_,af _ rfl,rfl,rfl,_,rfl⟩⟩
theorem pe_lst(h:PA X es t):PE X (.List es pos) (tLst t):=by intro pins s O H Q I hq;refine wpAny_List_spliced (thn (h pos pins s O H _ I hq) fun us s1 ⟨xs,H1,I1,r,z,q⟩=>⟨by rw[<-r.length];exact z,?_⟩);have hf:H1 s1.heap.objs.size=none:=I1.hok.fresh (a9 _);refine⟨.ref s1.heap.objs.size,upd H1 s1.heap.objs.size (.lst xs),I1.laid (t':=s1.toks) (fun b u e=>a0 _ e) (a9 _) ?_,rfl,q _ hf⟩;exact⟨z,us,0,r,af _ rfl⟩
end
abbrev Sp:=List V->Hp->VK->XK->Prop
abbrev CXT:=List Env->Hp->jR->XK->Value->jR->Prop
structure Env0 (P:jW) (w:World) (K:W.Frag) (mg:Str->Option Value) (base:Heap) (A:jY) (outer:List Env) (s:jR) (H:Hp):Prop where
 frames:A.frames=some outer
 mod:Mod K mg base
 bs:∀b o,base.get? b=some o->s.heap.get? b=some o/\H b=none
 bsz:base.objs.size<=s.heap.objs.size
 funs:s.heap.FunFrames base outer
 frf:∀b∈frs outer,H b=none
 hok:HOk P w H s.heap
 bare:AllBare s.gens
def CE(outer:List Env)(P:jW)(w:World)(H:Hp)(s:jR)(Q:VK)(u:Value)(s':jR):Prop :=
 ∃v H',s'.os=s.os/\AllBare s'.gens/\Un (frs outer) [] H H' s.heap s'.heap/\HOk P w H' s'.heap/\RelV v u/\Q v H'
def CR(CX:CXT)(outer:List Env)(P:jW)(w:World)(H:Hp)(s:jR)(Q:VK)(E:XK)(r:Result)(s':jR):Prop :=
 match r with
 |.ok (.ret u)=>CE outer P w H s Q u s'
 |.ok _=>False
 |.error e=>CX outer H s E e s'
structure FnOk (P:jW) (w:World) (K:W.Frag) (mg:Str->Option Value) (base:Heap) (CX:CXT) (k:Nat) (f:Addr) (fd:jr) (ps:List Str) (sp:Sp):Prop where
 len:∀vs H Q E,sp vs H Q E->vs.length=ps.length
 run:∀ (A:jY) (outer:List Env) (s:jR) (H:Hp) (args:Args) (us:List Value) (vs:List V) (Q:VK) (E:XK),Room k A->Env0 P w K mg base A outer s H->BindsTo s fd args (ps.zip us)->Vals vs us->sp vs H Q E ->
  kF (model P w) A (.call (.ref f) args) (CR CX outer P w H s Q E) s
section
variable {X:Cx}{pins:List ZL}{O:St}{H:Hp}{s s':jR}
theorem Inv.env0(I:Inv X pins O H s):Env0 X.prog X.w X.K X.mg X.base X.A X.stack s H :=
 ⟨I.ok.frames,I.ok.mod,I.bs,ao I.ok.bsz I.sz,I.stack,I.stkFree,I.hok,I.bare⟩
theorem Inv.after(I:Inv X pins O H s)(h:CE X.stack X.prog X.w H s Q u s'):EP X pins O Q u s':=by obtain⟨v,H',os,bare,un,hok,r,q⟩:=h;obtain⟨hh,g,d,t,os'⟩:=s';obtain rfl:os'=s.os:=os;exact⟨v,H',I.call (h':=hh) (g':=g) (d':=d) (t':=t) (ch:=[]) un hok bare (fun b z=>absurd z ZJ),r,q⟩
end
def tCall(sp:Sp)(dvs:List V)(E:XK)(t:TA):TE:=fun O H Q=>t O H fun vs H1=>sp (vs++dvs) H1 Q E
def Binds(K:W.Frag)(fd:jr)(ps:List Str)(ds:List Value):Prop :=
 ∀ (s:jR) (us:List Value),K.In s.heap->(us++ds).length=ps.length->BindsTo s fd ⟨us,[]⟩ (ps.zip (us++ds))
theorem Binds.all{K:W.Frag}{fd:jr}{ps:List Str}(h:∀us:List Value,us.length=ps.length->bindArgs fd ⟨us,[]⟩=pure (ps.zip us)):Binds K fd ps []:=fun s us _ hl=>by rw[fA] at hl |-;exact .of_eq (h us hl)
def aZl(CX:CXT)(X:Cx)(E:XK):Prop:=∀ (pins:List ZL) (O:St) (H:Hp) (s:jR) (e:Value) (s':jR),Inv X pins O H s->CX X.stack H s E e s'->X.xe e s'
section
variable {X:Cx}{CX:CXT}{k:Nat}{f C:Addr}{fd:jr}{ps:List Str}{sp:Sp}{dvs:List V}{ds:List Value}{E:XK}{x m:Str}{p pos apos:Pos}{e o:Expr}{es:List Expr}{ta:TE}{t:TA}
theorem run_fn(F:FnOk X.prog X.w X.K X.mg X.base CX k f fd ps sp)(hr:Room k X.A)(hb:Binds X.K fd ps ds)(hd:Vals dvs ds)(hx:aZl CX X E)
  (I:Inv X pins O H s) (r:Vals vs us) (h:sp (vs++dvs) H Q E):wpAny ZC X.A (call (.ref f) us) (EP X pins O Q) X.xe s:=by
 have r2:Vals (vs++dvs) (us++ds):=r.append hd;have hl:(us++ds).length=ps.length:=by rw[<-r2.length];exact F.len _ _ _ _ h
 refine wpAny_call (kh (F.run X.A X.stack s H ⟨us,[]⟩ (us++ds) (vs++dvs) Q E hr I.env0 (hb s us I.kIn hl) r2 h) fun r s' hq=>?_);cases r with
 |error e=>exact hx pins O H s e s' I hq
 | ok fl =>
  cases fl with
  |ret u=>exact I.after hq
  |next=>exact False.elim hq
  |brk=>exact False.elim hq
  |cont=>exact False.elim hq
theorem pe_call(F:FnOk X.prog X.w X.K X.mg X.base CX k f fd ps sp)(hr:Room k X.A)(hg:Gl X x)(hm:X.mg x=some (.ref f))(hk:W.keepIn X.K (.ref f)=true)(hb:Binds X.K fd ps ds)(hd:Vals dvs ds)(hx:aZl CX X E)
  (ha:PA X (e::es) t) (hdb:autoParam ZO l5) (he:autoParam (jV (e::es) X.env=(false,eval e X.env)::jV es X.env) lZ) (hpl:autoParam ((jg pos (jV es X.env)).any (·.1)=false) lZ) :
  PE X (.Call (.Name x p) (e::es) [] pos) (tCall sp dvs E t):=by
 intro pins s O H Q I h;refine jj (bAx I hg hm ?_ hdb);refine W.callWith_K (h₀:=X.base) I.ok.mod.kin hk (thn (ha pos pins s O H _ I h) fun us s1 ⟨vs,H1,I1,r,q⟩=>⟨I1.kIn,?_⟩) he hpl;exact run_fn F hr hb hd hx I1 r q
structure Mk (K:W.Frag) (C f:Addr):Prop where
 makes:W.makesIn K C=true
 init:W.findIn K (.ref C) "__init__" = some (some (.ref f))
 fn:W.isFn K (.ref f)=true
 kp:W.keepIn K (.ref C)=true
end
structure FnScope (N P:List Str) (sc:Scope):Prop where
 kind:sc.kind = .function
 co:sc.isCoroutine=false
 gen:sc.isGenerator=false
 nd:N.Nodup
 pre:N.take P.length=P
 par:∀x∈P,sc.names.lookup x=some .local\/sc.names.lookup x=some .cell
 nofree:∀y∈sc.names,y.2 ≠ .free
theorem aPm{jh:Str->Option lD}:∀ {binds:List (Str × Value)} {m:Str->Option Value},(∀v,(x,v)∉binds)->bindL jh binds m x=m x
 |[],_,_=>rfl
 | (n,v)::r,m,h=>by
  unfold bindL;rw[aPm fun w hw=>h w (a6 _ hw)];split
  ·have:x≠n:=by rintro rfl;exact h v a7
   simp[this]
  ·rfl
theorem aPe{jh:Str->Option lD}:∀ {binds:List (Str × Value)} {m:Str->Option Value},(∀v,(x,v)∉binds)->bindC jh binds m x=m x
 |[],_,_=>rfl
 | (n,v)::r,m,h=>by
  unfold bindC;rw[aPe fun w hw=>h w (a6 _ hw)];split
  ·rfl
  ·have:x≠n:=by rintro rfl;exact h v a7
   simp[this]
theorem aRh{jh:Str->Option lD}:∀ {P:List Str} {vs:List Value} {i:Nat} {m:Str->Option Value},P.Nodup->P[i]?=some x->vs[i]?=some v->jh x=some .local ->
  bindL jh (P.zip vs) m x=some v
 |[],_,_,_,_,h,_,_=>by simp at h
 |_::_,[],_,_,_,_,h,_=>by simp at h
 |p::P,w::vs,0,m,nd,h1,h2,hk=>by simp at h1 h2;subst h1;subst h2;show bindL jh ((p,w)::P.zip vs) m p=_;unfold bindL;rw[aPm fun v hv=>(dY.mp nd).1 (iB hv).1,if_pos hk];simp
 |p::P,w::vs,i+1,m,nd,h1,h2,hk=>by show bindL jh ((p,w)::P.zip vs) m x=_;unfold bindL;exact aRh (i:=i) (dY.mp nd).2 (by simpa using h1) (by simpa using h2) hk
theorem aPo{jh:Str->Option lD}:∀ {P:List Str} {vs:List Value} {i:Nat} {m:Str->Option Value},P.Nodup->P[i]?=some x->vs[i]?=some v->jh x≠some .local ->
  bindC jh (P.zip vs) m x=some v
 |[],_,_,_,_,h,_,_=>by simp at h
 |_::_,[],_,_,_,_,h,_=>by simp at h
 |p::P,w::vs,0,m,nd,h1,h2,hk=>by simp at h1 h2;subst h1;subst h2;show bindC jh ((p,w)::P.zip vs) m p=_;unfold bindC;rw[aPe fun v hv=>(dY.mp nd).1 (iB hv).1,if_neg hk];simp
 |p::P,w::vs,i+1,m,nd,h1,h2,hk=>by show bindC jh ((p,w)::P.zip vs) m x=_;unfold bindC;exact aPo (i:=i) (dY.mp nd).2 (by simpa using h1) (by simpa using h2) hk
def start(N:List Str)(vs:List V):St:=vs.map some++List.replicate (N.length - vs.length) none
def cxOf(CX:CXT)(P:jW)(w:World)(K:W.Frag)(mg:Str->Option Value)(base:Heap)(N:List Str)(qual:Str)(scope:Scope)(f:Addr)(cd:Value)(A:jY)(outer:List Env)(s:jR)(H:Hp)(E:XK):Cx where
 prog:=P
 w:=w
 K:=K
 mg:=mg
 base:=base
 A:=A.deeper (envOfC qual scope s.heap.objs.size f cd)
 N:=N
 s₀:=s
 H₀:=H
 env:=envOfC qual scope s.heap.objs.size f cd
 outer:=outer
 stack:=envOfC qual scope s.heap.objs.size f cd::outer
 ex:=[]
 calm:=true
 fn:=fun _=>true
 pn:=[]
 xe:=fun e s'=>wpAny (model P w) (A.deeper (envOfC qual scope s.heap.objs.size f cd)) (leaving (envOfC qual scope s.heap.objs.size f cd) e) (fun _ s''=>CX outer H s E e s'') (fun e' s''=>CX outer H s E e' s'') s'
theorem aUt{sc:Scope}{n:Nat}(h:sc.names.lookup x=some .cell):∃c,(cellsFrom n sc.names []).lookup x=some c:=by have q:=W.cellsFrom_some sc.names n [] (.inl h);exact Option.isSome_iff_exists.mp q
theorem bB9{CX:CXT}{P:jW}{w:World}{K:W.Frag}{mg:Str->Option Value}{base:Heap}{N ps:List Str}{qual:Str}{scope:Scope}{f:Addr}{cd:Value}{A:jY}{outer:List Env}{s s1:jR}{H:Hp}{E:XK}{us:List Value}{vs:List V}
  (S:FnScope N ps scope) (hd:A.handled=none) (e0:Env0 P w K mg base A outer s H) (hl:vs.length=ps.length) (r:Vals vs us)
  (x:InCallC s s.heap.objs.size (bindL (envOfC qual scope s.heap.objs.size f cd).kindOf (ps.zip us) fun _=>none) (cellsFrom (s.heap.objs.size+1) scope.names []) (bindC (envOfC qual scope s.heap.objs.size f cd).kindOf (ps.zip us) fun _=>none) s1) :
  Inv (cxOf CX P w K mg base N qual scope f cd A outer s H E) [] (start N vs) H s1:=by
 have hpl:ps.length<=N.length:=by have:=congrArg List.length S.pre;rw[c7] at this;lia
 obtain⟨h1,tk,rfl,hk⟩:=x.done;have noA:∀b:Addr,b∉(cxOf CX P w K mg base N qual scope f cd A outer s H E).ex:=fun b z=>absurd (show b∈([]:List Addr) from z) ZJ
 refine⟨⟨e0.mod,S.kind,rfl,rfl,a9 _,fun y z c h1 h2=>?_,fun y hy=>?_,fun y c _ h=>?_,fun _=>hd,Around.frames_deeper e0.frames,.inr ⟨rfl,rfl⟩,fun b z=>absurd z (noA b),e0.bs,e0.bsz,fun b _ _=>noA b,fun b z=>absurd z (noA b),e0.funs,e0.frf⟩,
  rfl,e0.bare,Un.kept hk,⟨_,x.toInCall.ns,fun i y v h1 h2 h3=>?_⟩,fun y c h=>⟨_,x.cell y c h⟩,e0.hok.fresh (a9 _),fun y c h=>?_,fun p hp=>absurd (show p∈([]:List ZL) from hp) ZJ,e0.hok.kept hk,?_⟩
 ·exact name_of_addr x.apart (PySem.mem_of_lookup h1) (PySem.mem_of_lookup h2)
 ·have hy:scope.names.lookup y=some .cell\/scope.names.lookup y=some .free:=hy;rcases hy with hy |hy
  ·exact aUt hy
  ·exact absurd rfl (S.nofree _ (PySem.mem_of_lookup hy))
 ·exact c9 (x.above y c (PySem.mem_of_lookup h))
 ·have hi:i<vs.length:=by
   unfold start at h2;by_cases hi:i<vs.length
   ·exact hi
   ·rw[eu (by simpa using hi)] at h2;rw[fM] at h2;split at h2<;>cases h2
  have ha:vs[i]?=some v:=by
   unfold start at h2;rw[eG (by simpa using hi),bo] at h2;cases e:vs[i]? with
   |none=>rw[e] at h2;cases h2
   |some a=>rw[e] at h2;cases h2;rfl
  obtain⟨u,hu,rv⟩:=r.get ha;have hp:ps[i]?=some y:=by rw[<-S.pre,gu ZA];exact h1
  have ndP:ps.Nodup:=by rw[<-S.pre];exact S.nd.sublist (fS _ _)
  refine⟨u,rv,?_⟩;rcases S.par y (fH hp) with k |k
  ·exact .inl ⟨k,aRh ndP hp hu k⟩
  ·obtain⟨c,e⟩:=aUt (n:=s.heap.objs.size+1) k;refine .inr ⟨.inl k,c,e,?_⟩;have q:=x.cell y c e;rw[aPo ndP hp hu (by show scope.names.lookup y≠_;rw[k];decide)] at q;exact q
 ·exact e0.hok.fresh (c9 (x.above y c (PySem.mem_of_lookup h)))
 ·unfold start;show _=N.length;rw[bf,a5,dv];lia
theorem fn_of{CX:CXT}{P:jW}{w:World}{K:W.Frag}{mg:Str->Option Value}{base:Heap}{k:Nat}{f:Addr}{name qual:Str}{params:Arguments}{body:List Stmt}{scope:Scope}{dV kV doc pm cdv ct oc:Value}{an od:Option Addr}
  {osl:Array (Option Value)} {N ps:List Str} {sp:Sp} (lk:K.lookup f=some ⟨oc,od,.func (W.fnOf name qual params body scope dV kV doc pm an cdv ct),osl⟩) (hcd:W.codeIn K cdv qual=true) (S:FnScope N ps scope)
  (len:∀vs H Q E,sp vs H Q E->vs.length=ps.length)
  (hbody:∀ (A:jY) (outer:List Env) (s:jR) (H:Hp) (vs:List V) (Q:VK) (E:XK),Room k (A.deeper (envOfC qual scope s.heap.objs.size f cdv))->sp vs H Q E ->
   ∃t,PSs (cxOf CX P w K mg base N qual scope f cdv A outer s H E) body t/\t { nx:=fun _ H'=>Q .non H',rt:=Q } (start N vs) H) :
  FnOk P w K mg base CX (k+1) f (W.fnOf name qual params body scope dV kV doc pm an cdv ct) ps sp:=by
 refine⟨len,fun A outer s H args us vs Q E hr e0 hb r hsp=>?_⟩;have hl:=len _ _ _ _ hsp;have KX:K.In s.heap:=e0.mod.kin.keeps fun b o e=>(e0.bs b o e).1;have lim:s.heap.NoLimit:=e0.mod.nolimit.keeps fun b o e=>(e0.bs b o e).1;have hkind:∀y∈ps.zip us,scope.names.lookup y.1=some .local\/(scope.names.lookup y.1=some .cell/\((cellsFrom (s.heap.objs.size+1) scope.names []).lookup y.1).isSome=true):=fun ⟨n,v⟩ hy=>by
  rcases S.par n (iB hy).1 with q |q
  ·exact .inl q
  ·exact .inr ⟨q,W.cellsFrom_some _ _ _ (.inl q)⟩
 refine codeAny_call_function hr.depth (KX _ _ lk) rfl S.co S.gen rfl (W.codeRec_of KX hcd) (hb _ _ _ _ ?_);refine wpAny_newFunctionEnv_cells S.kind hkind fun env he s1 x=>?_;subst he;refine⟨lim.keeps x.toInCall.keep,codeAny_func ?_⟩;obtain⟨t,ht,hq⟩:=hbody A outer s H vs Q E (hr.deeper _) hsp;have I:Inv (cxOf CX P w K mg base N qual scope f cdv A outer s H E) [] (start N vs) H s1:=bB9 S hr.hd e0 hl r x;refine j8 (ht [] s1 (start N vs) H _ I hq) (fun fl s' hs=>?_) fun e s' hs=>hs;have fin:∀ {σ':St} {H':Hp} {v:V} {u:Value},Inv (cxOf CX P w K mg base N qual scope f cdv A outer s H E) [] σ' H' s'->RelV v u->Q v H'->CE outer P w H s Q u s' :=
  fun {σ' H' v u} J rv q=>⟨v,H',J.os,J.bare,J.base,J.hok,rv,q⟩
 cases fl with
 | ret u =>
  obtain⟨v,σ',H',J,rv,q⟩:=hs;exact fin J rv q
 | next =>
  obtain⟨σ',H',J,q⟩:=hs;exact fin (v:=V.non) (u:=Value.none) J rfl q
 | brk =>
  obtain⟨_,_,_,q⟩:=hs;exact False.elim q
 | cont =>
  obtain⟨_,_,_,q⟩:=hs;exact False.elim q
end L2
namespace HT
open PySem PyProof.Rows
def lexLt:List Int->List Int->Bool
 |[],[]=>false
 |[],_::_=>true
 |_::_,[]=>false
 |x::xs,y::ys=>if x=y then lexLt xs ys else decide (x<y)
section
variable {prog:jW}{w:World}{A:jY}{E:Value->jR->Prop}{s:jR}
def sIx(n d:Nat):Option Int->Nat
 |none=>d
 |some v=>if v<0 then (v+(n:Int)).toNat else min v.toNat n
theorem sIx_le(n d:Nat)(hd:d<=n)(o:Option Int):sIx n d o<=n:=by
 cases o with
 |none=>exact hd
 | some v =>
  show (if v<0 then (v+(n:Int)).toNat else min v.toNat n)<=n;by_cases hv:v<0
  ·rw[if_pos hv];lia
  ·rw[if_neg hv];exact Nat.min_le_right _ _
theorem bBh(v:Int)(n d:Nat):(if v<0 then max (v+(n:Int)) 0 else min v (n:Int))=((sIx n d (some v):Nat):Int):=by
 show (if v<0 then max (v+(n:Int)) 0 else min v (n:Int))=(((if v<0 then (v+(n:Int)).toNat else min v.toNat n):Nat):Int)
 by_cases hv:v<0
 ·simp only[if_pos hv];lia
 ·simp only[if_neg hv];lia
theorem aWx(lo hi:Option Int)(n:Nat):Builtin.Slice.sliceAdjust lo hi 1 (n:Int)=(((sIx n 0 lo:Nat):Int),((sIx n n hi:Nat):Int)):=by
 have h1:¬ ((1:Int)<0):=by lia
 unfold Builtin.Slice.sliceAdjust;simp only[h1,if_false];refine Prod.ext ?_ ?_
 ·cases lo with
  |none=>rfl
  |some v=>exact bBh v n 0
 ·cases hi with
  |none=>rfl
  |some v=>exact bBh v n n
theorem aXy(i j:Nat):Builtin.Slice.slicePlaces (i:Int) (j:Int) 1=j - i:=by
 unfold Builtin.Slice.slicePlaces;have h1:(1:Int) > 0:=by lia
 simp only[h1,if_true,Int.ediv_one];split<;>lia
theorem slicePart_(p:IsPart v o)(h:Q o s):wpAny ZG A (Builtin.Slice.slicePartIndex v) Q E s:=by
 cases p with
 |none=>exact slicePart_none h
 |int i t=>exact slicePart_int h
theorem sliceApplied_gen{lo hi:Option Int}{n:Nat}{Q:Int × Int × Nat->jR->Prop}(hs:s.heap.IsSliceOf sl vl vu .none)(pl:IsPart vl lo)(pu:IsPart vu hi)
  (h:Q (((sIx n 0 lo:Nat):Int),1,sIx n n hi - sIx n 0 lo) s):wpAny ZG A (Builtin.Slice.sliceApplied (.ref sl) (pure (n:Int))) Q E s:=by
 obtain⟨os,hos,hcs,hds⟩:=id hs;unfold Builtin.Slice.sliceApplied Builtin.Slice.sliceFields;refine jP (jP (kA hos hds (x:=vl) rfl (jP (kA hos hds (x:=vu) rfl (jP (kA hos hds (x:=.none) rfl (jQ ?_)))))));refine jP (slicePart_none ?_);show wpAny _ _ (if ((1:Int)==0)=true then _ else _) _ _ s;rw[if_neg ZE];refine jP (slicePart_ pl (jP (slicePart_ pu (jP (jQ ?_)))));show wpAny _ _ (match Builtin.Slice.sliceAdjust lo hi 1 (n:Int) with |(lo,hi)=>pure (lo,(1:Int),Builtin.Slice.slicePlaces lo hi 1)) _ _ s;rw[aWx lo hi n];show wpAny _ _ (pure (((sIx n 0 lo:Nat):Int),(1:Int),Builtin.Slice.slicePlaces ((sIx n 0 lo:Nat):Int) ((sIx n n hi:Nat):Int) 1)) _ _ s;rw[aXy];exact jQ h
theorem pick_gen(xs:Array Value)(i k:Nat):((List.range k).filterMap fun (m:Nat)=>xs[((i:Int)+(m:Int)*1).toNat]?).toArray=((xs.toList.drop i).take k).toArray:=by
 have e:(fun (m:Nat)=>xs[((i:Int)+(m:Int)*1).toNat]?)=fun m=>xs[i+m]?:=by
  funext m;have:((i:Int)+(m:Int)*1).toNat=i+m:=by lia
  rw[this]
 rw[e];have:=pick_run xs i k;rw[i8] at this;have e2:((fun x=>xs[x]?)∘fun x=>i+x)=fun m=>xs[i+m]?:=rfl;rw[e2] at this;rw[this]
theorem getItem_tuple_cut{lo hi:Option Int}(ht:IsTup s.heap t items)(hs:s.heap.IsSliceOf sl vl vu .none)(pl:IsPart vl lo)(pu:IsPart vu hi)
  (hw:¬ (sIx items.size 0 lo=0/\sIx items.size items.size hi=items.size))
  (h:Q (.ref s.heap.objs.size) { s with heap:=s.heap.push { cls:=.type "tuple",data:=.seq ((items.toList.drop (sIx items.size 0 lo)).take (sIx items.size items.size hi - sIx items.size 0 lo)).toArray } })
  (hsz:items.size<=jU):wpAny ZG A (kT (.ref t) (.ref sl)) Q E s:=by
 have htake:sizeOk (.seq ((items.toList.drop (sIx items.size 0 lo)).take (sIx items.size items.size hi - sIx items.size 0 lo)).toArray):=by show ((items.toList.drop (sIx items.size 0 lo)).take (sIx items.size items.size hi - sIx items.size 0 lo)).toArray.size<=jU;rw[ah,c7,d8,aw];lia
 have hj:sIx items.size items.size hi<=items.size:=sIx_le _ _ (a9 _) hi;obtain⟨os,hos,hcs,hds⟩:=id hs;have hTs:s.TypeIs (.ref sl) "slice":=⟨os,hos,hcs⟩
 unfold kT
 try with_reducible refine j5 ?_
 first |refine jP (jQ ?_) |skip
 refine jP (lV ht.typeIs ZE ?_)
 refine jP (je (name:=Str.ofString "__getitem__") ht.typeIs PyProof.Rows.slot_tuple_getitem
  (j3 PyProof.Rows.slot_tuple_getitem ht.typeIs lM ?_ (lQ _ _)))
 show wpAny _ _ (Builtin.Tuple.tupleItemsOf (.ref t) >>= _) _ _ s;refine jP (tupleItemsOf_ ht ?_);refine jP (kE hTs ?_);rw[if_pos ZE];refine jP (sliceApplied_gen hs pl pu ?_);have hno:¬ ((((sIx items.size 0 lo:Nat):Int)==0&&(1:Int)==1&&(sIx items.size items.size hi - sIx items.size 0 lo)==items.size)=true):=by intro q;rw[bq,bq] at q;have q1:((sIx items.size 0 lo:Nat):Int)=0:=eq_of_beq q.1.1;have q2:sIx items.size items.size hi - sIx items.size 0 lo=items.size:=eq_of_beq q.2;exact hw ⟨by lia,by lia⟩
 show wpAny _ _ (if (((sIx items.size 0 lo:Nat):Int)==0&&(1:Int)==1&&(sIx items.size items.size hi - sIx items.size 0 lo)==items.size)=true then _ else _) _ _ s;rw[if_neg hno,pick_gen]
 first
  |exact jP (m:=Builtin.Tuple.tupleExact _) (jZ (jQ ⟨_,rfl,jQ h⟩) htake)
  |exact jP (m:=Builtin.Tuple.tupleExact _) (jZ (jP (jQ (jQ ⟨_,rfl,jQ h⟩))) htake)
  |exact jP (jP (m:=Builtin.Tuple.tupleExact _) (jZ (jQ (jQ ⟨_,rfl,jQ h⟩)) htake))
  |exact jP (jP (m:=Builtin.Tuple.tupleExact _) (jZ (jQ ⟨_,rfl,jQ h⟩) htake))
end
end HT
namespace L2
open PySem PySem.Spec PyProof.Rows
abbrev TO:=St->Hp->(Option Int->Hp->Prop)->Prop
def PO(X:Cx)(e:Option Expr)(t:TO):Prop :=
 ∀ (pins:List ZL) (s:jR) (O:St) (H:Hp) (Q:Option Int->Hp->Prop),Inv X pins O H s->t O H Q ->
  wpAny ZC X.A (evalPart e X.env) (fun u s'=>∃o H',Inv X pins O H' s'/\IsPart u o/\Q o H') X.xe s
def tNoPart:TO:=fun _ H Q=>Q none H
def tPart(t:TE):TO:=fun O H Q=>t O H fun x H1=>∃i,x = .int i/\Q (some i) H1
section
variable {X:Cx}{e:Expr}{te:TE}{lo hi:Option Expr}{tl th:TO}{pos p2:Pos}
theorem po_none:PO X none tNoPart:=by intro pins s O H Q I h;rw[evalPart_none];exact jQ ⟨none,H,I,.none,h⟩
theorem po_some(h:PE X e te):PO X (some e) (tPart te):=by intro pins s O H Q I hw;rw[evalPart_some];refine thn (h pins s O H _ I hw) fun u s1 ⟨x,H1,I1,r1,q1⟩=>?_;obtain⟨i,rfl,q⟩:=q1;obtain⟨t,rfl⟩:=r1;exact⟨some i,H1,I1,.int i t,q⟩
def SlR(X:Cx)(r:V->Option Int->Option Int->Hp->VK->Prop):Prop :=
 ∀ (pins:List ZL) (s:jR) (O:St) (H:Hp) (x:V) (v vl vu:Value) (lo hi:Option Int) (sl:Addr) (Q:VK),Inv X pins O H s->RelV x v->s.heap.IsSliceOf sl vl vu .none->IsPart vl lo->IsPart vu hi->r x lo hi H Q ->
  ∃T id,typeLookup (.type T) "__getitem__" = pure (some (.builtin id))/\s.TypeIs v T/\wpAny ZC X.A (kT v (.ref sl)) (EP X pins O Q) X.xe s
theorem SlR.or(h:SlR X r)(h':SlR X r'):SlR X (fun x lo hi H Q=>r x lo hi H Q\/r' x lo hi H Q):=by
 intro pins s O H x v vl vu lo hi sl Q I rx hs pl pu q;rcases q with q |q
 ·exact h pins s O H x v vl vu lo hi sl Q I rx hs pl pu q
 ·exact h' pins s O H x v vl vu lo hi sl Q I rx hs pl pu q
def tSl(r:V->Option Int->Option Int->Hp->VK->Prop)(te:TE)(tl th:TO):TE:=fun O H Q=>te O H fun x H1=>tl O H1 fun l H2=>th O H2 fun u H3=>r x l u H3 Q
theorem pe_slice(hr:SlR X r)(he:PE X e te)(hl:PO X lo tl)(hu:PO X hi th):PE X (.Subscript e (.Slice lo hi none p2) pos) (tSl r te tl th):=by intro pins s O H Q I h;refine Subscript_ (thn (he pins s O H _ I h) fun v s1 ⟨x,H1,I1,r1,q1⟩=>?_);refine wpAny_Slice (thn (hl pins s1 O H1 _ I1 q1) fun vl s2 ⟨l,H2,I2,pl,q2⟩=>thn (hu pins s2 O H2 _ I2 q2) fun vu s3 ⟨u,H3,I3,pu,q3⟩=>?_);rw[evalPart_none];refine jQ ?_;have I4:Inv X pins O H3 { s3 with heap:=s3.heap.push { cls:=.type "slice",data:=.fields #[vl,vu,.none] } }:=I3.kept (t':=s3.toks) fun b ob q=>a0 _ q;obtain⟨T,id,hT,ht,hg⟩:=hr pins { s3 with heap:=s3.heap.push { cls:=.type "slice",data:=.fields #[vl,vu,.none] } } O H3 x v vl vu l u s3.heap.objs.size Q I4 r1 (Heap.IsSliceOf.new ..) pl pu q3;show wpAny ZC X.A (subscriptTail e (.Slice lo hi none p2) v (.ref s3.heap.objs.size)) (EP X pins O Q) X.xe { s3 with heap:=s3.heap.push { cls:=.type "slice",data:=.fields #[vl,vu,.none] } };exact tail_any (ops:=[.ref s3.heap.objs.size,v]) ht hT hg (by with_unfolding_all rfl)
def cutV(xs:List V)(lo hi:Option Int):List V:=(xs.drop (HT.sIx xs.length 0 lo)).take (HT.sIx xs.length xs.length hi - HT.sIx xs.length 0 lo)
theorem aKd(xs:List V)(lo hi:Option Int):(cutV xs lo hi).length<=xs.length:=by unfold cutV;rw[c7,d8];lia
def rSlT(K:W.Frag):V->Option Int->Option Int->Hp->VK->Prop:=fun x lo hi H Q=>∃a xs,x = .ref a/\SqT K H a xs /\
 ¬ (HT.sIx xs.length 0 lo=0/\HT.sIx xs.length xs.length hi=xs.length)/\∀p,H p=none->Q (.ref p) (upd H p (.tup (cutV xs lo hi)))
theorem sl_tup:SlR X (rSlT X.K):=by
 intro pins s O H x v vl vu lo hi sl Q I rx hs pl pu h;obtain⟨a,xs,rfl,hx,hw,q⟩:=h;cases rx;obtain⟨its,r,ht,hz⟩:=I.tuple hx;have hlen:its.toArray.size=xs.length:=by rw[ah];exact r.length.symm
 refine⟨"tuple",_,PyProof.Rows.slot_tuple_getitem.lookup,ht.typeIs,?_⟩;refine HT.getItem_tuple_cut ht hs pl pu (by rw[hlen];exact hw) ?_ (by rw[hlen];exact hz);rw[hlen];refine⟨.ref s.heap.objs.size,_,I.laid (t':=s.toks) (o:=.tup (cutV xs lo hi)) (fun b ob q=>a0 _ q) (a9 _) ?_,rfl,q _ (I.hok.fresh (a9 _))⟩;exact⟨ao (aKd xs lo hi) hz,_,(r.drop (HT.sIx xs.length 0 lo)).take (HT.sIx xs.length xs.length hi - HT.sIx xs.length 0 lo),aDm.new _ _⟩
end
def ixN(n:Nat)(i:Int):Option Nat:=if 0<=i then (if i<n then some i.toNat else none) else if -(n:Int)<=i then some (i+n).toNat else none
def atI{α:Type}(xs:List α)(i:Int):Option α:=(ixN xs.length i).bind fun j=>xs[j]?
theorem aZx{n:Nat}{i:Int}{j:Nat}(h:ixN n i=some j):seqIndex? i n=some j/\j<n /\ -(n:Int)<=i/\i<n:=by
 unfold ixN at h;by_cases h0:0<=i
 ·rw[if_pos h0] at h;by_cases h1:i<n
  ·rw[if_pos h1] at h;have e:i.toNat=j:=Option.some.inj h;exact⟨by rw[seqIndex_of h0 h1,e],by lia,by lia,h1⟩
  ·rw[if_neg h1] at h;cases h
 ·rw[if_neg h0] at h;by_cases h1:-(n:Int)<=i
  ·rw[if_pos h1] at h;have e:(i+n).toNat=j:=Option.some.inj h;exact⟨by rw[seqIndex_neg ZA h1,e],by lia,h1,by lia⟩
  ·rw[if_neg h1] at h;cases h
theorem bBj{α:Type}{xs:List α}{i:Int}{v:α}(h:atI xs i=some v):∃j,seqIndex? i xs.length=some j/\xs[j]?=some v/\j<xs.length /\ -(xs.length:Int)<=i/\i<xs.length:=by
 unfold atI at h;cases e:ixN xs.length i with
 |none=>rw[e] at h;cases h
 | some j =>
  rw[e] at h;obtain⟨h1,h2,h3,h4⟩:=aZx e;exact⟨j,h1,h,h2,h3,h4⟩
def PlainIx(b:Expr):Prop:=∀o i,subscripted b false o i=operate [o,i] (kT o i)
def IxR(X:Cx)(r:R2):Prop :=
 ∀ (value slice:Expr) (pins:List ZL) (s:jR) (O:St) (H:Hp) (x y:V) (v u:Value) (Q:VK),Inv X pins O H s->RelV x v->RelV y u->r x y H Q ->
  subscripted slice false v u=operate [v,u] (kT v u)->wpAny ZC X.A (subscriptTail value slice v u) (EP X pins O Q) X.xe s
def MtR(X:Cx)(id:String)(r:V->List V->Hp->VK->Prop):Prop :=
 ∀ (pins:List ZL) (s:jR) (O:St) (H:Hp) (x:V) (xs:List V) (v:Value) (us:List Value) (Q:VK),Inv X pins O H s->RelV x v->Vals xs us->r x xs H Q ->
  wpAny ZC X.A (call (.builtin id) (v::us)) (EP X pins O Q) X.xe s
section
variable {X:Cx}{a b:Expr}{ta tb:TE}{pos:Pos}
def rIxL(K:W.Frag):R2:=fun x y H Q=>∃p xs i v,x = .ref p/\y = .int i/\SqL K H p xs/\atI xs i=some v/\Q v H
def rIxT(K:W.Frag):R2:=fun x y H Q=>∃p xs i v,x = .ref p/\y = .int i/\SqT K H p xs/\atI xs i=some v/\Q v H
theorem ix_list:IxR X (rIxL X.K):=by
 intro value slice pins s O H x y v u Q I rx ry h hs;obtain⟨p,xs,i,z,rfl,rfl,hq,he,q⟩:=h;cases rx;obtain⟨t,rfl⟩:=ry;obtain⟨its,r,pl,hz⟩:=I.list hq;obtain⟨j,h1,h2,h3,h4,h5⟩:=bBj he;obtain⟨w,ew,rw'⟩:=r.get h2;have hl:=r.length;have hn:=aSj;have fin:EP X pins O Q w s:=⟨z,H,I,rw',q⟩
 by_cases h0:0<=i
 ·have hj:i.toNat=j:=by rw[seqIndex_of h0 h5] at h1;exact Option.some.inj h1
  exact item_listR pl.isList h0 ZA (by rw[hj];simpa using ew) fin hs
 ·have hj:(i+(its.toArray.size:Int)).toNat=j:=by rw[seqIndex_neg ZA h4] at h1;rw[ah,<-hl];exact Option.some.inj h1
  exact subscriptTail_builtinR (x:=w) pl.isList.typeIs slot_list_getitem.lookup
   (wpAny_getItem_list_neg (Q:=fun r s'=>r=w/\EP X pins O Q r s') pl.isList ZA (by rw[ah]<;>lia) ZA (by rw[hj];simpa using ew) ⟨rfl,fin⟩) hs
theorem ix_tup:IxR X (rIxT X.K):=by
 intro value slice pins s O H x y v u Q I rx ry h hs;obtain⟨p,xs,i,z,rfl,rfl,hq,he,q⟩:=h;cases rx;obtain⟨t,rfl⟩:=ry;obtain⟨its,r,pl,hz⟩:=I.tuple hq;obtain⟨j,h1,h2,h3,h4,h5⟩:=bBj he;obtain⟨w,ew,rw'⟩:=r.get h2;have hl:=r.length;have hn:=aSj;have fin:EP X pins O Q w s:=⟨z,H,I,rw',q⟩
 exact subscriptTail_builtinR (x:=w) pl.typeIs slot_tuple_getitem.lookup
  (getItem_tuple (j:=j) (Q:=fun r s'=>r=w/\EP X pins O Q r s') pl ZA ZA (by rw[ah,<-hl];exact h1) (by simpa using ew) ⟨rfl,fin⟩) hs
theorem aXd(its:List Value)(n j:Nat)(u:Value):Obj.mapSeq (·.setIfInBounds j u) { cls:=.type "list",data:=.seq its.toArray n } = { cls:=.type "list",data:=.seq (its.set j u).toArray n }:=by simp[Obj.mapSeq]
theorem Inv.lst{pins:List ZL}{O:St}{H:Hp}{s:jR}{p:Addr}{xs:List V}(I:Inv X pins O H s)(h:H p=some (.lst xs)) :
  ∃ (its:List Value) (n:Nat),Vals xs its/\s.heap.get? p=some { cls:=.type "list",data:=.seq its.toArray n }/\xs.length<=jU:=by
 obtain⟨z,its,n,r,e⟩:=I.hok p _ h;exact⟨its,n,r,e,z⟩
theorem Inv.lstUpd{its its':List Value}{n n':Nat}{f:Obj->Obj}(I:Inv X pins O H s)(h:H p=some (.lst xs))
  (ho:s.heap.get? p=some { cls:=.type "list",data:=.seq its.toArray n }) (hf:f { cls:=.type "list",data:=.seq its.toArray n } = { cls:=.type "list",data:=.seq its'.toArray n' }) (r:Vals ys its') (hz:ys.length<=jU) (t:Nat) :
  Inv X pins O (upd H p (.lst ys)) { s with heap:=s.heap.update p f,toks:=t }:=by
 have e:(s.heap.update p f).get? p=some { cls:=.type "list",data:=.seq its'.toArray n' }:=by rw[dN f ho (by rw[hf]<;>rfl),hf]
 refine I.write (x:=p) (by rw[h];trivial) (fun b u hb q=>(dZ _ _ (Ne.symm hb)).trans q) ⟨_,e⟩ ?_;exact⟨hz,its',n',r,e⟩
def rSetL:V->V->V->Hp->(Hp->Prop)->Prop:=fun o i v H Q=>∃p xs k j,o = .ref p/\i = .int k/\H p=some (.lst xs)/\ixN xs.length k=some j/\Q (upd H p (.lst (xs.set j v)))
theorem set_list:PSet X rSetL:=by
 intro pins s O H o i v ov iv u Q I ro ri rv h;obtain⟨p,xs,k,j,rfl,rfl,hp,hj,q⟩:=h;cases ro;obtain⟨t,rfl⟩:=ri;obtain⟨its,n,r,ho,hz⟩:=I.lst hp;obtain⟨h1,h2,h3,h4⟩:=aZx hj;have hl:=r.length;have hn:=aSj;have I':Inv X pins O (upd H p (.lst (xs.set j v))) { s with heap:=s.heap.update p (Obj.mapSeq (·.setIfInBounds j u)) } :=
  I.lstUpd hp ho (aXd its n j u) (r.set rv j) (by rw[d4];exact hz) s.toks
 by_cases h0:0<=k
 ·have hk:k.toNat=j:=by rw[seqIndex_of h0 h4] at h1;exact Option.some.inj h1
  exact W.ki_setAt ho h0 ZA (by rw[ah,<-hl];exact h4) (by rw[hk];exact⟨_,I',q⟩)
 ·have hk:(k+(its.toArray.size:Int)).toNat=j:=by rw[seqIndex_neg ZA h3] at h1;rw[ah,<-hl];exact Option.some.inj h1
  exact W.ki_setBack ho ZA (by rw[ah,<-hl];exact h3) ZA (by rw[hk];exact⟨_,I',q⟩)
theorem aRb(lo hi:Option Int)(n:Nat):(k9 lo hi none n).1=((HT.sIx n 0 lo:Nat):Int)/\(k9 lo hi none n).2.1=((HT.sIx n n hi:Nat):Int)/\(k9 lo hi none n).2.2=1:=by
 refine⟨?_,?_,rfl⟩
 ·cases lo with
  |none=>simp[k9,HT.sIx]
  | some i =>
   simp only[k9,HT.sIx,jG,show (1:Int) > 0 by decide,if_true];by_cases h:i<0
   ·simp only[h,if_true]<;>lia
   ·simp only[h,if_false]<;>lia
 ·cases hi with
  |none=>simp[k9,HT.sIx]
  | some i =>
   simp only[k9,HT.sIx,jG,show (1:Int) > 0 by decide,if_true];by_cases h:i<0
   ·simp only[h,if_true]<;>lia
   ·simp only[h,if_false]<;>lia
theorem aMi(its:List Value)(lo hi:Option Int):slicePick its.toArray lo hi none=((its.drop (HT.sIx its.length 0 lo)).take (HT.sIx its.length its.length hi - HT.sIx its.length 0 lo)).toArray:=by obtain⟨h1,h2,h3⟩:=aRb lo hi its.toArray.size;unfold slicePick;rw[h1,h2,h3];simp only[sliceRange_one,pick_run,ah]<;>rfl
def rSlL(K:W.Frag):V->Option Int->Option Int->Hp->VK->Prop:=fun x lo hi H Q=>∃a xs,x = .ref a/\SqL K H a xs/\∀p,H p=none->Q (.ref p) (upd H p (.lst (cutV xs lo hi)))
theorem sl_list:SlR X (rSlL X.K):=by intro pins s O H x v vl vu lo hi sl Q I rx hs pl pu h;obtain⟨a,xs,rfl,hx,q⟩:=h;cases rx;obtain⟨its,r,ht,hz⟩:=I.list hx;have hlen:=r.length;refine⟨"list",_,slot_list_getitem.lookup,ht.isList.typeIs,?_⟩;refine lY ht.isList hs pl pu .none ZJ ?_ (by rw[ah]<;>lia);rw[aMi,<-hlen];refine⟨.ref s.heap.objs.size,_,I.laid (t':=s.toks) (o:=.lst (cutV xs lo hi)) (fun b ob q=>a0 _ q) (a9 _) ?_,rfl,q _ (I.hok.fresh (a9 _))⟩;exact⟨ao (aKd xs lo hi) hz,_,0,(r.drop (HT.sIx xs.length 0 lo)).take (HT.sIx xs.length xs.length hi - HT.sIx xs.length 0 lo),af _ rfl⟩
def aLd:V->Bool
 |.non=>true
 |.bl _=>true
 |.int _=>true
 |.str _=>true
 |_=>false
def eqV:V->V->Bool
 |.non,.non=>true
 |.bl a,.bl b=>a==b
 |.bl a,.int b=>(if a then 1 else 0)==b
 |.int a,.bl b=>a==(if b then 1 else 0)
 |.int a,.int b=>a==b
 |.str a,.str b=>a==b
 |_,_=>false
theorem eqAt_V(ry:RelV y u)(rx:RelV x v)(fy:aLd y=true)(fx:aLd x=true):SeqAt.EqAt A s u v (eqV y x):=by
 cases y with
 | non =>
  cases ry;cases x with
  |non=>cases rx;exact SeqAt.EqAt.same _
  |bl b=>cases rx;exact SeqAt.EqAt.none_bool b
  |int b=>obtain⟨t,rfl⟩:=rx;exact SeqAt.EqAt.none_int b t
  |str b=>obtain⟨t,rfl⟩:=rx;exact SeqAt.EqAt.none_str b t
  |_=>exact absurd (show false=true from fx) dU
 | bl a =>
  cases ry;cases x with
  |non=>cases rx;exact SeqAt.EqAt.bool_none a
  |bl b=>cases rx;exact SeqAt.EqAt.bool_bool a b
  |int b=>obtain⟨t,rfl⟩:=rx;exact SeqAt.EqAt.bool_int a b t
  |str b=>obtain⟨t,rfl⟩:=rx;exact SeqAt.EqAt.bool_str a b t
  |_=>exact absurd (show false=true from fx) dU
 | int a =>
  obtain⟨t',rfl⟩:=ry;cases x with
  |non=>cases rx;exact SeqAt.EqAt.int_none a t'
  |bl b=>cases rx;exact SeqAt.EqAt.int_bool a t' b
  |int b=>obtain⟨t,rfl⟩:=rx;exact SeqAt.EqAt.int_int a t' b t
  |str b=>obtain⟨t,rfl⟩:=rx;exact SeqAt.EqAt.int_str a t' b t
  |_=>exact absurd (show false=true from fx) dU
 | str a =>
  obtain⟨t',rfl⟩:=ry;cases x with
  |non=>cases rx;exact SeqAt.EqAt.str_none a t'
  |bl b=>cases rx;exact SeqAt.EqAt.str_bool a t' b
  |int b=>obtain⟨t,rfl⟩:=rx;exact SeqAt.EqAt.str_int a t' b t
  |str b=>obtain⟨t,rfl⟩:=rx;exact SeqAt.EqAt.str_str a t' b t
  |_=>exact absurd (show false=true from fx) dU
 |_=>exact absurd (show false=true from fy) dU
def eqU(x:V)(u:Value):Bool:=match u with
 |.none=>eqV .non x
 |.bool b=>eqV (.bl b) x
 |.int i _=>eqV (.int i) x
 |.str z _=>eqV (.str z) x
 |_=>false
theorem eqU_of(r:RelV y u)(f:aLd y=true):eqU x u=eqV y x:=by
 cases y with
 |non=>cases r;rfl
 |bl b=>cases r;rfl
 |int i=>obtain⟨t,rfl⟩:=r;rfl
 |str z=>obtain⟨t,rfl⟩:=r;rfl
 |_=>exact absurd (show false=true from f) dU
theorem aTq:∀ {xs:List V} {us:List Value},Vals xs us->xs.all aLd=true->us.any (eqU x)=xs.any fun y=>eqV y x
 |_,_,.nil,_=>rfl
 |y::xs,u::us,.cons r t,f=>by rw[dr,bq] at f;rw[fB,fB,eqU_of r f.1,aTq t f.2]
theorem aNt(rx:RelV x v)(fx:aLd x=true):∀ {xs:List V} {us:List Value},Vals xs us->xs.all aLd=true->∀u∈us,SeqAt.EqAt A s u v (eqU x u)
 |_,_,.nil,_=>fun u hu=>by cases hu
 | y::xs,u::us,.cons r t,f=>fun u' hu=>by
  rw[dr,bq] at f;rcases ae.mp hu with rfl |hu
  ·rw[eqU_of r f.1];exact eqAt_V r rx f.1 fx
  ·exact aNt rx fx t f.2 u' hu
def inV(x:V)(xs:List V):Bool:=xs.any fun y=>eqV y x
def rIn(K:W.Frag)(neg:Bool):R2:=fun x y H Q=>∃p xs,y = .ref p/\(SqL K H p xs\/SqT K H p xs)/\aLd x=true/\xs.all aLd=true/\Q (.bl (if neg then !inV x xs else inV x xs)) H
theorem aQ5:OpR X (j6 .NotIn) (rIn X.K true):=by
 intro pins s O H x y v u Q I rx ry h;obtain⟨p,xs,rfl,hq,fx,fs,q⟩:=h;cases ry;rcases hq with hq |hq
 ·obtain⟨its,r,pl,hz⟩:=I.list hq;refine SeqAt.notIn_listAt (eqU x) pl.isList (fun w hw=>aNt rx fx r fs w (by simpa using hw)) ⟨.bl _,H,I,rfl,?_⟩;rw[show its.toArray.any (eqU x)=its.any (eqU x) by simp,aTq r fs];exact q
 ·obtain⟨its,r,pl,hz⟩:=I.tuple hq;refine SeqAt.notIn_tupleAt (eqU x) pl (fun w hw=>aNt rx fx r fs w (by simpa using hw)) ⟨.bl _,H,I,rfl,?_⟩;rw[show its.toArray.any (eqU x)=its.any (eqU x) by simp,aTq r fs];exact q
theorem aIt:aXz X (.type "list") (fun xs H Q=>∃p ys,xs = [.ref p]/\(SqL X.K H p ys\/SqT X.K H p ys)/\∀l,H l=none->Q (.ref l) (upd H l (.lst ys))):=by
 intro pins s O H xs us Q I r h;obtain⟨p,ys,rfl,hq,q⟩:=h;obtain⟨u,rfl,rx⟩:=vals1 r;cases rx;have fin:∀ (its:List Value),Vals ys its->ys.length<=jU->∀ (h':Heap) (c':Nat),(∀b o',s.heap.get? b=some o'->h'.get? b=some o') ->
   h'.get? s.heap.objs.size=some { cls:=.type "list",dict:=none,data:=.seq its.toArray c',slots:=#[] }->EP X pins O Q (.ref s.heap.objs.size) { s with heap:=h' }:=fun its r' hz h' c' kp e =>
  ⟨.ref s.heap.objs.size,_,I.laid (t':=s.toks) kp (a9 _) (show aBz X.prog X.w _ h' _ (.lst ys) from ⟨hz,its,c',r',e⟩),rfl,q _ (I.hok.fresh (a9 _))⟩
 rcases hq with hq |hq
 ·obtain⟨its,r',pl,hz⟩:=I.list hq;have hlen:=r'.length;obtain⟨o,ho,hc,n,hd⟩:=pl.isList;exact call_list_seq p (.inl rfl) ho hc hd (fun h' c' kp e=>fin its r' hz h' c' kp e) (by simp only[ah]<;>lia)
 ·obtain⟨its,r',pl,hz⟩:=I.tuple hq;have hlen:=r'.length;obtain⟨o,ho,hc,n,hd⟩:=pl;exact call_list_seq p (.inr rfl) ho hc hd (fun h' c' kp e=>fin its r' hz h' c' kp e) (by simp only[ah]<;>lia)
theorem aHh:aXz X (.type "tuple") (fun xs H Q=>∃p ys,xs = [.ref p]/\((SqL X.K H p ys/\∀l,H l=none->Q (.ref l) (upd H l (.tup ys)))\/(SqT X.K H p ys/\Q (.ref p) H))):=by
 intro pins s O H xs us Q I r h;obtain⟨p,ys,rfl,h⟩:=h;obtain⟨u,rfl,rx⟩:=vals1 r;cases rx;rcases h with ⟨hq,q⟩ |⟨hq,q⟩
 ·obtain⟨its,r',pl,hz⟩:=I.list hq;have hlen:=r'.length;refine call_tuple_list pl.isList (fun h' kp=>?_) (by simp only[ah]<;>lia);have I1:Inv X pins O H { s with heap:=h' }:=I.kept (t':=s.toks) kp;have I2:Inv X pins O (upd H h'.objs.size (.tup ys)) { s with heap:=h'.push { cls:=.type "tuple",data:=.seq its.toArray } } :=
   I1.laid (t':=s.toks) (fun b o e=>a0 _ e) (a9 _) (show aBz X.prog X.w _ _ _ (.tup ys) from ⟨hz,its,r',aDm.new _ _⟩)
  exact⟨.ref h'.objs.size,_,I2,rfl,q _ (I1.hok.fresh (a9 _))⟩
 ·obtain⟨its,r',pl,hz⟩:=I.tuple hq;exact call_tuple_same pl ⟨.ref p,H,I,rfl,q⟩
def tyV(K:W.Frag)(T:String)(x:V)(H:Hp):Prop:=match x with
 |.str _=>T = "str"
 |.int _=>T = "int"
 | .ref p=>(T = "list" /\ ∃xs,SqL K H p xs)\/(T = "tuple" /\ ∃o,K.lookup p=some o/\o.cls = .type "tuple" /\ o.dict=none) \/
   (T = "dict" /\ (∃kvs,H p=some (.dK kvs)))\/(T = "set" /\ ∃S n,H p=some (.set S n))
 |_=>False
theorem tyV_is(I:Inv X pins O H s)(r:RelV x v)(ty:tyV X.K T x H) :
  s.TypeIs v T/\∀a,v = .ref a->∃ob,s.heap.get? a=some ob/\ob.dict=none:=by
 cases x with
 | str z =>
  obtain⟨t,rfl⟩:=r;cases (show T = "str" from ty);exact⟨typeIs_str s z t,fun _ e=>nomatch e⟩
 | int i =>
  obtain⟨t,rfl⟩:=r;cases (show T = "int" from ty);exact⟨typeIs_int s i t,fun _ e=>nomatch e⟩
 | ref p =>
  cases r;rcases ty with ⟨rfl,xs,hq⟩ |⟨rfl,o,hk,hc,hd⟩ |⟨rfl,hk⟩ |⟨rfl,S,n,hk⟩
  ·obtain⟨its,_,pl,_⟩:=I.list hq;refine⟨pl.isList.typeIs,fun a e=>?_⟩;cases e;obtain⟨o,n,e,c,hd,_⟩:=pl;exact⟨o,e,hd⟩
  ·refine⟨⟨o,I.kIn p o hk,hc⟩,fun a e=>?_⟩;cases e;exact⟨o,I.kIn _ o hk,hd⟩
  ·have z:∃o,s.heap.get? p=some o/\o.ExactDict:=by obtain⟨kvs,hk⟩:=hk;obtain⟨_,_,_,_,o,_,_,e,ex,_⟩:=I.hok p _ hk;exact⟨o,e,ex⟩
   obtain⟨o,e,ex⟩:=z;refine⟨⟨o,e,ex.1⟩,fun a e2=>?_⟩;cases e2;exact⟨o,e,ex.2.1⟩
  ·obtain⟨o,_,_,_,e,ex,_⟩:=I.hok p _ hk;refine⟨⟨o,e,ex.1⟩,fun a e2=>?_⟩;cases e2;exact⟨o,e,ex.2.1⟩
 |_=>exact False.elim ty
def tBM(K:W.Frag)(T:String)(r:V->List V->Hp->VK->Prop)(to:TE)(t:TA):TE:=fun O H Q=>to O H fun x H1=>tyV K T x H1/\t O H1 fun xs H2=>r x xs H2 Q
variable {o e:Expr}{es:List Expr}{to:TE}{t:TA}{name:Str}{apos cpos:Pos}{T id:String}{r:V->List V->Hp->VK->Prop}
theorem pe_bm(pa:PlainAttrs T)(slot:Slot T name id)(hty:typeOf (.builtin id)=pure (.type "method_descriptor"))(hm:MtR X id r)(ho:PE X o to)(ha:PA X (e::es) t)
  (hbase:autoParam (kH o name X.env (eval o X.env)=eval o X.env) lZ)
  (hfew:autoParam (((jg cpos (jV (e::es) X.env)).all (fun x=>!x.1)&&(backToKw cpos (keywordEach [] X.env)).all (fun x=>x.1.isSome)
   && decide ((e::es).length+([]:List Keyword).length+(if ([]:List Keyword).isEmpty then 0 else 1)<30))=true) lZ)
  (hline:autoParam ((apos.endLine==cpos.line)=true) lZ) (hs:autoParam (jV (e::es) X.env=(false,eval e X.env)::jV es X.env) lZ) (hplain:autoParam ((jg cpos (jV es X.env)).any (·.1)=false) lZ) :
  PE X (.Call (.Attribute o name apos) (e::es) [] cpos) (tBM X.K T r to t):=by
 intro pins s O H Q I h;refine wpAny_Call_method_late hbase hfew hline rfl (thn (ho pins s O H _ I h) fun v s1 ⟨x,H1,I1,r1,ty,q1⟩=>?_);obtain⟨h1,h2⟩:=tyV_is I1 r1 ty;refine⟨T,id,pa,slot,hty,h1,h2,?_⟩;have hA:=ha cpos pins s1 O H1 _ I1 q1;rw[hs] at hA |-;refine fR (by show (false||(jg cpos (jV es X.env)).any (·.1))=false;rw[hplain]<;>rfl) (iR ?_);exact thn hA fun us s2 ⟨vs,H2,I2,r2,q2⟩=>hm pins s2 O H2 x vs v us Q I2 r1 r2 q2
end
def MtM(X:Cx)(id:String)(r:V->List V->Hp->VK->Prop):Prop :=
 ∀ (pins:List ZL) (s:jR) (O:St) (H:Hp) (x:V) (xs:List V) (v:Value) (us:List Value) (Q:VK),Inv X pins O H s->RelV x v->Vals xs us->r x xs H Q ->
  wpAny ZC X.A (call (.builtin id) (v::us)) (EP X pins O Q) X.xe s
theorem Vals.one:∀ {x:V} {us:List Value},Vals [x] us->∃u,us = [u]/\RelV x u:=by intro x us h;cases h with |cons r h=>cases h;exact⟨_,rfl,r⟩
theorem Vals.two:∀ {x y:V} {us:List Value},Vals [x,y] us->∃u v,us = [u,v]/\RelV x u/\RelV y v:=by intro x y us h;cases h with |cons r h=>cases h with |cons q h=>cases h;exact⟨_,_,rfl,r,q⟩
theorem Vals.reverse(h:Vals xs us):Vals xs.reverse us.reverse:=by
 induction h with
 |nil=>exact .nil
 |cons r t ih=>rw[fT,fT];exact Vals.append ih (.cons r .nil)
theorem Vals.rep(h:Vals xs us):∀k:Nat,Vals (List.replicate k xs).flatten (List.replicate k us).flatten
 |0=>.nil
 |k+1=>by rw[dW,dW,eV,eV];exact Vals.append h (Vals.rep h k)
theorem foldl_rep(its:List Value):∀ (k:Nat) (acc:List Value),
  List.foldl (fun x1 x2=>x1++x2) acc.toArray (List.replicate k its.toArray)=(acc++(List.replicate k its).flatten).toArray
 |0,acc=>by simp
 | k+1,acc=>by
  have e:acc.toArray++its.toArray=(acc++its).toArray:=by simp
  have e2:(acc++its)++(List.replicate k its).flatten=acc++(List.replicate (k+1) its).flatten:=by rw[dW,eV,be]
  rw[<-e2,<-foldl_rep its k (acc++its),<-e,dW,cj]
section
variable {X:Cx}{pins:List ZL}{O:St}{H:Hp}{s:jR}{l b:Addr}{xs ys zs:List V}
theorem Inv.lset{its its':List Value}{n:Nat}{f:Array Value->Array Value}{t':Nat}(I:Inv X pins O H s)(hH:H l=some (.lst xs))
  (e:s.heap.get? l=some { cls:=.type "list",data:=.seq its.toArray n }) (hf:f its.toArray=its'.toArray) (hv:Vals ys its') (hz:ys.length<=jU) :
  Inv X pins O (upd H l (.lst ys)) { s with heap:=s.heap.update l (Obj.mapSeq f),toks:=t' }:=by
 have q:=PySem.IsL.update e f;rw[hf] at q;refine I.write (x:=l) (by rw[hH];exact trivial) (fun b' u hb hu=>(dZ s.heap (Obj.mapSeq f) (Ne.symm hb)).trans hu) ⟨_,q⟩ ?_;exact⟨hz,its',_,hv,q⟩
theorem Inv.lnew{t':Nat}(I:Inv X pins O H s)(hv:Vals ys its)(hz:ys.length<=jU) :
  Inv X pins O (upd H s.heap.objs.size (.lst ys)) { s with heap:=s.heap.push { cls:=.type "list",data:=.seq its.toArray },toks:=t' } :=
 I.laid (fun _ _ q=>a0 _ q) (a9 _) ⟨hz,its,0,hv,af _ rfl⟩
theorem Inv.fresh(I:Inv X pins O H s):H s.heap.objs.size=none:=I.hok.fresh (a9 _)
theorem Inv.lstM(I:Inv X pins O H s)(hH:H l=some (.lst xs)):xs.length<=jU/\∃ (its:List Value) (n:Nat),Vals xs its/\xs.length=its.length/\s.heap.get? l=some { cls:=.type "list",data:=.seq its.toArray n }:=by obtain⟨z,its,n,r,e⟩:=I.hok l _ hH;exact⟨z,its,n,r,r.length,e⟩
theorem notLongL{n:Nat}(h:n<=jU):Builtin.List.listTooLong n=false:=by unfold Builtin.List.listTooLong;exact decide_eq_false ZA
end
section
variable {X:Cx}
def rAppend:V->List V->Hp->VK->Prop:=fun x vs H Q=>∃l xs y,x = .ref l/\vs = [y]/\H l=some (.lst xs)/\xs.length<jU/\Q .non (upd H l (.lst (xs ++ [y])))
theorem aKu:MtM X "list.append" rAppend:=by intro pins s O H x vs v us Q I rx rv h;obtain⟨l,xs,y,rfl,rfl,hH,hz,q⟩:=h;cases rx;obtain⟨u,rfl,ru⟩:=rv.one;obtain⟨z,its,n,r,hl,e⟩:=I.lstM hH;refine ko F.slot_list_append ⟨_,e,rfl⟩ F.entry_list_append (F.args_list_append_2 _ _) (PySem.list_append l its.toArray n u (by rw[ah];lia)) ⟨e,?_⟩;refine⟨.non,_,I.lset (its':=its ++ [u]) hH e ZJ (r.append (.cons ru .nil)) ?_,rfl,q⟩;rw[bf,fU];lia
theorem len_rep{α:Type}(xs:List α)(k:Nat):(List.replicate k xs).flatten.length=k*xs.length:=by
 induction k with
 |zero=>simp
 |succ k ih=>rw[dW,eV,bf,ih,fO,iu]
end
section
variable {prog:jW}{w:World}{A:jY}{E:Value->jR->Prop}{s:jR}
set_option maxRecDepth 100000 in
end
section
variable {κ:Type}[DecidableEq κ]
def valV(kvs:List (κ × V))(k:κ):Option V:=(kvs.find? fun kv=>decide (kv.1=k)).map (·.2)
def putK(kvs:List (κ × V))(k:κ)(v:V):List (κ × V) :=
 if (kvs.any fun kv=>decide (kv.1=k))=true then kvs.map (fun kv=>if kv.1=k then (kv.1,v) else kv) else kvs ++ [(k,v)]
theorem aVo{p:κ × V}{r:List (κ × V)}{k:κ}(e:p.1=k):valV (p::r) k=some p.2:=by simp[valV,dw,e]
theorem aVv{p:κ × V}{r:List (κ × V)}{k:κ}(e:¬p.1=k):valV (p::r) k=valV r k:=by simp[valV,dw,e]
theorem aJ2(kvs:List (κ × V))(k:κ)(v:V):(putK kvs k v).length<=kvs.length+1:=by
 unfold putK;split
 ·rw[a5];lia
 ·rw[bf,aa,di];lia
theorem RelO.getD(r:RelO o u)(rd:RelV d d'):RelV (o.getD d) (u.getD d'):=by
 cases o with
 | none=>cases u with
  |none=>exact rd
  |some _=>exact(show False from r).elim
 | some _=>cases u with
  |none=>exact(show False from r).elim
  |some _=>exact r
theorem KV.val(r:KV kvs vs)(k:κ):RelO (valV kvs k) (valueAt vs k):=by
 unfold KV at r
 induction r with
 |nil=>exact True.intro
 | @cons p q ps qs h t ih =>
  obtain⟨h1,h2⟩:=h;by_cases e:p.1=k
  ·have e':q.1=k:=h1.symm.trans e;have b:valueAt (q::qs) k=some q.2:=by simp[valueAt,dw,e']
   rw[aVo e,b];exact h2
  ·have e':¬q.1=k:=fun z=>e (h1.trans z);have b:valueAt (q::qs) k=valueAt qs k:=by simp[valueAt,dw,e']
   rw[aVv e,b];exact ih
theorem KV.any(r:KV kvs vs)(k:κ):(kvs.any fun kv=>decide (kv.1=k))=vs.any fun kv=>decide (kv.1=k):=by
 unfold KV at r
 induction r with
 |nil=>rfl
 |cons h t ih=>rw[fB,fB,ih,h.1]
theorem KV.repl(r:KV kvs vs)(k:κ)(ry:RelV y u) :
  KV (kvs.map fun kv=>if kv.1=k then (kv.1,y) else kv) (vs.map fun kv=>if kv.1=k then (kv.1,u) else kv):=by
 unfold KV at r |-
 induction r with
 |nil=>exact .nil
 | @cons p q ps qs h t ih =>
  rw[a8,a8];refine .cons ?_ ih;obtain⟨h1,h2⟩:=h;by_cases e:p.1=k
  ·rw[if_pos e,if_pos (h1.symm.trans e)];exact⟨h1,ry⟩
  ·rw[if_neg e,if_neg (fun z=>e (h1.trans z))];exact⟨h1,h2⟩
theorem KV.put(r:KV kvs vs)(k:κ)(ry:RelV y u):KV (putK kvs k y) (stored vs k u):=by
 unfold putK stored;rw[r.any k];by_cases e:(vs.any fun kv=>decide (kv.1=k))=true
 ·rw[if_pos e,if_pos e];exact r.repl k ry
 ·rw[if_neg e,if_neg e];exact Paired.snoc r ⟨rfl,ry⟩
theorem KV.length{kvs:List (κ × V)}{vs:List (κ × Value)}(r:KV kvs vs):kvs.length=vs.length:=Paired.length r
end
theorem aYb(r:RelV (kV k) u):(aAz P w).is k u=true:=by
 cases k with
 |inl i=>obtain⟨t,e⟩:=(show ∃t,u=Value.int i t from r);subst e;exact aTa P w i t
 |inr x=>obtain⟨t,e⟩:=(show ∃t,u=Value.str x t from r);subst e;exact aUf P w x t
section
variable {P:jW}{w:World}{H:Hp}{h:Heap}{a:Addr}
theorem rd_of(ok:HOk P w H h)(e:Rd H a u):aBz P w H h a u:=e.ok ok
theorem aEb(ok:HOk P w H h)(e:Rd H a (.dK kvs)):kvs.length<=jU/\(a==jq)=false/\∃vs,KV kvs vs/\h.DictOf (aAz P w) a vs :=
 show aBz P w H h a (.dK kvs) from rd_of ok e
theorem dk_of(ok:HOk P w H h)(e:H a=some (.dK kvs)):kvs.length<=jU/\(a==jq)=false/\∃vs,KV kvs vs/\h.DictOf (aAz P w) a vs:=aEb ok (.inl e)
end
def DGet(H:Hp)(a:Addr)(y:V)(r:Option V):Prop :=
 ∃kvs k,Rd H a (.dK kvs)/\y=kV k/\r=valV kvs k
def DPut(H:Hp)(a:Addr)(y v:V)(H':Hp):Prop :=
 ∃kvs k,H a=some (.dK kvs)/\y=kV k/\kvs.length<jU/\H'=upd H a (.dK (putK kvs k v))
theorem DPut.k{k:Key}(e:H a=some (.dK kvs))(hl:kvs.length<jU):DPut H a (kV k) v (upd H a (.dK (putK kvs k v))):=⟨kvs,k,e,rfl,hl,rfl⟩
section
variable {X:Cx}{pins:List ZL}{O:St}{H:Hp}{s:jR}{a:Addr}{y v:V}{u r:Value}{o:Option V}{A:jY}{E:Value->jR->Prop}
theorem Inv.big(I:Inv X pins O H s):jq<s.heap.objs.size:=by have h:ji<s.heap.objs.size:=(I.mod.glob.keeps I.bk).lt;exact gO ZE h
theorem aYx(hu:A.units+1<cLine)(I:Inv X pins O H s)(g:DGet H a y (some v))(ry:RelV y u)(h:∀w' s',Inv X pins O H s'->RelV v w'->Q w' s') :
  wpAny ZC A (kT (.ref a) u) Q E s:=by
 obtain⟨kvs,k,e,ey,l⟩:=g;subst ey;obtain⟨z,hd,vs,rel,dd⟩:=aEb I.hok e;obtain⟨w',hw,rw'⟩:=RelO.some_of (v:=v) (o:=valueAt vs k) (by rw[l];exact rel.val k);exact wpAny_getItem_of (aYb ry) dd.mapOf hw (h w' _ (I.tok _) rw')
theorem aTt{t':Nat}(I:Inv X pins O H s)(mu:Mut (H a))(hs:Heap.SameBut a s.heap h')(he:∃q,h'.get? a=some q)(new:aBz X.prog X.w (upd H a ob) h' a ob) :
  Inv X pins O (upd H a ob) { s with heap:=h',toks:=t' } :=
 I.write (x:=a) mu (fun b q hb z=>(hs.2 b hb).trans z) he new
theorem aV6(z:kvs.length<=jU)(hd:(a==jq)=false)(rel:KV kvs vs)(dd:h'.DictOf (aAz P w) a vs) :
  aBz P w H' h' a (.dK kvs):=⟨z,hd,vs,rel,dd⟩
theorem bBy(hu:A.units+1<cLine)(I:Inv X pins O H s)(g:DPut H a y v H')(ry:RelV y u)(rv:RelV v r)(h:∀s',Inv X pins O H' s'->Q () s') :
  wpAny ZC A (setItem (.ref a) u r) Q E s:=by
 obtain⟨kvs,k,e,ey,l,eH⟩:=g;subst ey eH;obtain⟨z,hd,vs,rel,dd⟩:=dk_of I.hok e;have hz:vs.length<=jU:=by rw[<-rel.length];exact z
 have hl:(putK kvs k v).length<=jU:=by have:=aJ2 kvs k v;lia
 refine wpAny_setItem_pairs (hsz:=hz) (aYb ry) dd fun h' dd' hs=>h _ ?_;have he:∃q,h'.get? a=some q:=let ⟨q,_,_,hq,_⟩:=dd';⟨q,hq⟩
 exact aTt I (by rw[e];exact True.intro) hs he (aV6 hl hd (rel.put k rv) dd')
end
section
variable {X:Cx}{pins:List ZL}{O:St}{H:Hp}{s:jR}{a:Addr}{kvs:List (Key × V)}{k:Key}{u:Value}{A:jY}{E:Value->jR->Prop}
theorem d_len(I:Inv X pins O H s)(e:Rd H a (.dK kvs))(h:∀t s',Inv X pins O H s'->Q (.int kvs.length t) s'):wpAny ZC A (call (.builtin "len") [.ref a]) Q E s:=by obtain⟨z,hd,vs,rel,dd⟩:=aEb I.hok e;refine call_len_dict hd dd (by rw[<-rel.length];rw[jz] at z;lia) ?_;rw[<-rel.length];exact h _ _ (I.tok _)
theorem d_truth{Q:Bool->jR->Prop}(I:Inv X pins O H s)(e:Rd H a (.dK kvs))(h:∀s',Inv X pins O H s'->Q (!kvs.isEmpty) s'):wpAny ZC A (truthy (.ref a)) Q E s:=by
 obtain⟨z,hd,vs,rel,dd⟩:=aEb I.hok e;refine wpAny_truthy_dict hd dd (by rw[<-rel.length];rw[jz] at z;lia) ?_;have q:kvs.isEmpty=vs.isEmpty:=by cases rel<;>rfl
 rw[<-q];exact h _ (I.tok _)
end
theorem aUa(I:Inv X pins O H s)(g:DGet H a y o):s.TypeIs (.ref a) "dict":=by obtain⟨kvs,k,e,_,_⟩:=g;obtain⟨_,_,vs,_,dd⟩:=aEb I.hok e;exact dd.typeIs
theorem aNp(h:Heap)(hb:jq<h.objs.size):aBz P w H (h.push { cls:=.type "dict",data:=.dict #[] }) h.objs.size (.dK []) :=
 ⟨dm _,beq_eq_false_iff_ne.mpr (Ne.symm (au hb)),[],.nil,Heap.DictOf.new h⟩
def tDNewK:TE:=fun _ H Q=>∀p,H p=none->Q (.ref p) (upd H p (.dK []))
section
variable {X:Cx}{pos:Pos}
theorem pe_dnewK:PE X (.Dict [] [] pos) tDNewK:=fun pins s O H Q I h =>
 wpAny_Dict_empty ⟨.ref s.heap.objs.size,_,I.laid (a:=s.heap.objs.size) (o:=.dK []) (t':=s.toks) (fun _ _ q=>a0 _ q) (a9 _) (aNp s.heap I.big),rfl,h _ (I.hok.fresh (a9 _))⟩
end
def bBm:List (TE × TE)->St->Hp->(List (V × V)->Hp->Prop)->Prop
 |[],_,H,Q=>Q [] H
 |(tk,tv)::r,O,H,Q=>tk O H fun x H1=>tv O H1 fun y H2=>bBm r O H2 fun ps H3=>Q ((x,y)::ps) H3
abbrev VV:List (V × V)->List (Value × Value)->Prop:=Paired fun p q=>RelV p.1 q.1/\RelV p.2 q.2
def PPs(X:Cx)(pos:Pos)(keys:List (Option Expr))(values:List Expr)(trs:List (TE × TE)):Prop :=
 ∀ (pins:List ZL) (s:jR) (O:St) (H:Hp) (Q:List (V × V)->Hp->Prop),Inv X pins O H s->bBm trs O H Q ->
  wpAny ZC X.A (evalPairs (pairTrees keys values X.env pos)) (fun vs s'=>∃ps H',Inv X pins O H' s'/\VV ps vs/\Q ps H') X.xe s
theorem pps_nil:PPs X pos [] [] []:=fun pins s O H Q I h=>pairTrees_nil_walk ⟨[],H,I,.nil,h⟩
theorem pps_cons(hk:PE X k tk)(hv:PE X v tv)(hr:PPs X pos ks vs trs) :
  PPs X pos (some k::ks) (v::vs) ((tk,tv)::trs):=fun pins s O H Q I h =>
 pairTrees_cons_walk (thn (hk pins s O H _ I h) fun u s1 ⟨x,H1,I1,rx,q1⟩=>thn (hv pins s1 O H1 _ I1 q1) fun w2 s2 ⟨y,H2,I2,ry,q2⟩ =>
  thn (hr pins s2 O H2 _ I2 q2) fun ws s3 ⟨ps,H3,I3,rel,q3⟩=>⟨(x,y)::ps,H3,I3,.cons ⟨rx,ry⟩ rel,q3⟩)
def aLo(kvs more:List (Key × V)):List (Key × V):=more.foldl (fun acc kv=>putK acc kv.1 kv.2) kvs
theorem KV.merge:∀ {more:List (Key × V)} {rs:List (Key × Value)} {kvs:List (Key × V)} {vs:List (Key × Value)},KV more rs->KV kvs vs->KV (aLo kvs more) (merged vs rs):=by
 intro more rs kvs vs r;unfold KV at r
 induction r generalizing kvs vs with
 |nil=>intro q;exact q
 | @cons p q ps qs h t ih =>
  intro r0;have e:KV (putK kvs p.1 p.2) (stored vs q.1 q.2):=by have:=r0.put p.1 h.2;rw[<-h.1];exact this
  exact ih e
theorem aG7:∀ (more kvs:List (Key × V)),(aLo kvs more).length<=kvs.length+more.length
 |[],kvs=>by show kvs.length<=kvs.length+0;lia
 |p::r,kvs=>by have h1:=aG7 r (putK kvs p.1 p.2);have h2:=aJ2 kvs p.1 p.2;show (aLo (putK kvs p.1 p.2) r).length<=_;rw[aa];lia
theorem aLp:∀ {kvs:List (Key × V)} {ws:List (Value × Value)},VV (kvs.map fun kv=>(kV kv.1,kv.2)) ws->∃rs,Carries (aAz P w) ws rs/\KV kvs rs
 |[],_,r=>by rw[eD] at r;cases r;exact⟨[],True.intro,.nil⟩
 | p::kvs,_,r=>by
  rw[a8] at r;cases r with
  | @cons a b as bs h t =>
   obtain⟨rs,c,q⟩:=aLp (P:=P) (w:=w) t;obtain⟨b1,b2⟩:=b;exact⟨(p.1,b2)::rs,⟨aYb h.1,rfl,c⟩,.cons ⟨rfl,h.2⟩ q⟩
def tDisp(trs:List (TE × TE)):TE:=fun O H Q=>∀p,H p=none->bBm trs O (upd H p (.dK [])) fun ps H2=>H2 p=some (.dK [])/\∃kvs:List (Key × V),ps=kvs.map (fun kv=>(kV kv.1,kv.2))/\kvs.length<=15/\Q (.ref p) (upd H2 p (.dK (aLo [] kvs)))
theorem pe_disp(h:PPs X pos keys values trs)(hall:keys.all (·.isSome)=true)(hl:keys.length=values.length)(h0:keys ≠ [])
  (h15:keys.length<=15):PE X (.Dict keys values pos) (tDisp trs):=by
 intro pins s O H Q I q;have hn:=I.hok.fresh (a9 s.heap.objs.size);have I1:=I.laid (a:=s.heap.objs.size) (o:=.dK []) (h':=s.heap.push { cls:=.type "dict",data:=.dict #[] }) (t':=s.toks) (fun _ _ q=>a0 _ q) (a9 _) (aNp s.heap I.big);refine wpAny_Dict_walk (knd:=aAz X.prog X.w) hall hl h0 h15 (thn (h pins _ O _ _ I1 (q _ hn)) fun ws s2 ⟨ps,H2,I2,rel,e,kvs,ep,lk,q2⟩=>?_);subst ep;obtain⟨rs,c,rk⟩:=aLp (P:=X.prog) (w:=X.w) rel;obtain⟨z,hd,vs0,r0,dd⟩:=dk_of I2.hok e;cases r0;refine⟨rs,c,dd,fun h' dd' hs=>⟨.ref s.heap.objs.size,_,?_,rfl,q2⟩⟩;have hz:(aLo [] kvs).length<=jU:=by have h1:=aG7 kvs [];rw[di] at h1;rw[jz];lia
 have he:∃q,h'.get? s.heap.objs.size=some q:=let ⟨q,_,_,hq,_⟩:=dd';⟨q,hq⟩
 exact aTt I2 (by rw[e];exact True.intro) hs he (aV6 hz hd (rk.merge .nil) dd')
structure M2 (X:Cx) (o:Expr) (m:Str) (apos:Pos) (e f:Expr) (cpos:Pos):Prop where
 base:kH o m X.env (eval o X.env)=eval o X.env
 few:((jg cpos (jV [e,f] X.env)).all (fun x=>!x.1)&&(backToKw cpos (keywordEach [] X.env)).all (fun x=>x.1.isSome)
  && decide (([e,f]:List Expr).length+([]:List Keyword).length+(if ([]:List Keyword).isEmpty then 0 else 1)<30))=true
 line:(apos.endLine==cpos.line)=true
 trees:jg cpos (jV [e,f] X.env) = [(false,eval e X.env),(false,eval f X.env)]
def IsD(H:Hp)(a:Addr):Prop:=∃kvs,Rd H a (.dK kvs)
theorem isD_at(I:Inv X pins O H s)(d:IsD H a) :
  s.TypeIs (.ref a) "dict" /\ (∀b,Value.ref a = .ref b->∃ob,s.heap.get? b=some ob/\ob.dict=none)/\(a==jq)=false:=by
 obtain⟨kvs,e⟩:=d;obtain⟨_,hd,vs,_,dd⟩:=aEb I.hok e;refine⟨dd.typeIs,fun b q=>?_,hd⟩;cases q;obtain⟨ob,_,_,h1,h2,_⟩:=dd;exact⟨ob,h1,h2.2.1⟩
section
variable {X:Cx}{pins:List ZL}{O:St}{H:Hp}{s:jR}{a:Addr}{y d:V}{u r:Value}{o:Option V}{A:jY}{E:Value->jR->Prop}
theorem d_get2(hu:A.units+1<cLine)(I:Inv X pins O H s)(g:DGet H a y o)(ry:RelV y u)(rd:RelV d r)(h:∀w' s',Inv X pins O H s'->RelV (o.getD d) w'->Q w' s') :
  wpAny ZC A (call (.builtin "dict.get") [.ref a,u,r]) Q E s:=by
 obtain⟨kvs,k,e,ey,l⟩:=g;subst ey;obtain⟨z,hd,vs,rel,dd⟩:=aEb I.hok e;refine call_meetsIn PySem.F.slot_dict_get dd.typeIs PySem.F.entry_dict_get (PySem.F.args_dict_get_3 _ _ _) (meets_dict_get_default (aAz X.prog X.w) a (aYb ry) hd r) ⟨_,dd.mapOf,h _ _ (I.tok _) ?_⟩;rw[l];exact(rel.val k).getD rd
end
def tDGet2(td ty tx:TE):TE:=fun O H Q=>td O H fun x H1=>∃a,x = .ref a/\IsD H1 a/\ty O H1 fun y H2=>tx O H2 fun z H3=>∃o,DGet H3 a y o/\Q (o.getD z) H3
section
variable {X:Cx}{o e f:Expr}{apos cpos:Pos}{td ty tx:TE}
theorem pe_dget2(hu:X.A.units+1<cLine)(ho:PE X o td)(he:PE X e ty)(hf:PE X f tx)(m:M2 X o "get" apos e f cpos):PE X (.Call (.Attribute o "get" apos) [e,f] [] cpos) (tDGet2 td ty tx):=by
 intro pins s O H Q I h;refine wpAny_Call_method m.base m.few m.line PySem.F.plainAttrs_dict PySem.F.slot_dict_get PySem.F.type_dict_get (thn (ho pins s O H _ I h) fun u s1 ⟨x,H1,I1,rx,a,ex,d,q1⟩=>?_);subst ex;obtain rfl:u=Value.ref a:=rx;obtain⟨t1,t2,_⟩:=isD_at I1 d;refine⟨t1,t2,?_⟩;rw[m.trees]
 refine fR rfl (iR (dS (thn (he pins s1 O H1 _ I1 q1) fun iv s2 ⟨y,H2,I2,ry,q2⟩ =>
  dS (thn (hf pins s2 O H2 _ I2 q2) fun fv s3 ⟨z,H3,I3,rz,ov,g,q3⟩=>eU ?_))))
 exact d_get2 hu I3 g ry rz fun w' s4 I4 rw'=>⟨_,H3,I4,rw',q3⟩
end
section
variable {X:Cx}{pins:List ZL}{O:St}{H:Hp}{s:jR}{a:Addr}{kvs:List (Key × V)}{A:jY}{E:Value->jR->Prop}
theorem d_copyOf(I:Inv X pins O H s)(e:Rd H a (.dK kvs))(h:∀p s',H p=none->Inv X pins O (upd H p (.dK kvs)) s'->Q (.ref p) s'):wpAny ZC A (call (.type "dict") [.ref a]) Q E s:=by obtain⟨z,hd,vs,rel,dd⟩:=aEb I.hok e;refine kt_call_dict hd dd (by rw[<-rel.length];exact z) fun h' dd' hs=>?_;refine h _ _ (I.hok.fresh (a9 _)) (I.laid (a:=s.heap.objs.size) (o:=.dK kvs) (t':=s.toks) (fun b q hq=>?_) (a9 _) (aV6 z (beq_eq_false_iff_ne.mpr (Ne.symm (au I.big))) rel dd'));exact(hs.2 b (au (aj hq))).trans (a0 _ hq)
end
end L2
namespace Att
open PySem PySem.W PySem.Calls PyProof.Rows
theorem aJj:∀ (ns:List Int) (vs:List Value),WellAll P h vs (ns.map WData.int)->jb vs ns:=by
 intro ns
 induction ns with
 | nil =>
  intro vs w;rw[eD] at w;cases w;exact .nil
 | cons n ns ih =>
  intro vs w;rw[a8] at w;cases w with
  | cons a b =>
   cases a;exact .cons _ _ (ih _ b)
theorem aY7{l:OpenLaw}{n:Nat}(hn:l.most=some n){P:Params}{args:List WData}
  (hpre:l.row.toRowW.claim.pre args=true) (hwl:WellAll P h vals args) :
  ∃a vs ns,vals = [Value.ref a]/\args = [WData.list (ns.map WData.int)]/\h.get? a=some { cls:=.type "list",data:=.seq vs.toArray }/\jb vs ns/\ns.length<=n:=by
 have hsh:WShape.hasAll [] args [.list .int]=true:=(pre_splitW hpre).1;have hc:l.pre.holds [] { args:=args }=true:=(pre_splitW hpre).2;obtain⟨d,r,rfl,h1,h2⟩:=hasAllW_cons hsh;obtain rfl:=hasAllW_nil h2;obtain⟨xs,rfl,h3⟩:=hasW_list h1;obtain⟨ns,rfl⟩:=items_int h3;have hlen:ns.length<=n:=by
  unfold OpenLaw.pre at hc;have h4:(WTm.not (.lt (.lit (.int (n:Int))) (.len (.arg 0)))).holds [] { args:=[.list (ns.map .int)] }=true:=by have h4:=(holds_andW hc).1;rw[hn] at h4;exact h4
  have h5:=condW_of h4 (w_not (w_lt w_lit (w_len_list (w_arg rfl))));rw[a5] at h5;refine gx fun q=>?_;have q':(n:Int)<((ns.length:Nat):Int):=by lia
  first
   |(rw[decide_eq_true q'] at h5;exact absurd h5 ZE)
   |(simp at h5;lia)
 cases hwl with
 | cons w1 w2 =>
  cases w2;cases w1 with
  |list ho hall=>exact⟨_,_,ns,rfl,rfl,ho,aJj ns _ hall,hlen⟩
theorem bAv(l:OpenLaw)(args:List WData):l.row.toRowW.claim.post args (.bool true) args=true :=
 postW_of (r:=l.row.toRowW) (X:=(true==true))
  (show WShape.has [] (.bool true) .bool=true by first |rfl |decide |simp[WShape.has,WShape.arms,WShape.armsAll])
  (show (WTm.eq .res (.lit (.bool true))).value [] { args:=args,res:=some (.bool true),after:=args }=some (.bool (true==true)) from w_eq_bool (w_res rfl) w_lit) rfl
theorem attach_call{l:OpenLaw}{n:Nat}{XP:(Str->Option Value)->Heap->Prop}{YP:World->Heap->Prop}{d:DefRec}
  (hn:l.most=some n) (hdf:d.params.defaults = [])
  (call:∀ (w:World) (s₀ s₁:jR) (mg mb:Str->Option Value) (fa:Addr) (o:Obj) (pm cd doc:Value) (a:Addr) (vs:List Value) (ns:List Int),
   Ground q loose [] XP w s₀ mg mb s₁.heap->YP w s₁.heap ->
   s₁.heap.get? fa=some o->o.data = .func (docDef d.name d.params d.body d.scope pm cd doc)->s₁.heap.CodeRec cd d.name->mg d.name=some (.ref fa) ->
   s₁.heap.get? a=some { cls:=.type "list",data:=.seq vs.toArray }->jb vs ns->ns.length<=n->s₁.gens = #[] ->
   kF (model l.prog w) callerA (.call (.ref fa) ⟨[.ref a],[]⟩) (fun r s'=>r = .ok (.ret (.bool true))/\OldK s₁.heap s'.heap/\s'.os=s₁.os/\AllBare s'.gens) s₁) :
  WalkO q loose XP YP l.row.toRowW d [] (fun f vs=>PySem.call f vs):=by
 intro w s₀ s₁ mg mb G Y fa o pm cd doc dV kV ho hd hcd hD hmg hg args vals as hpre hlay hrd hwl hlo;obtain rfl:dV = .none:=Dflts.none hD hdf;obtain rfl:kV = .none:=Dflts.noKw hD;obtain⟨a,vs,ns,rfl,rfl,hobj,hints,hlen⟩:=aY7 hn hpre hwl;refine enter_call (kh (call w s₀ s₁ mg mb fa o pm cd doc a vs ns G Y ho (fd_plain hd) hcd hmg hobj hints hlen hg) fun r s' hq=>?_);obtain⟨rfl,h2,h3,h4⟩:=hq;exact⟨.inl ⟨.bool true,.bool true,[],rfl,fun _=>rfl,.bool true,bAv l _,fun _=>⟨List.Pairwise.nil,fun _ hm=>(nomatch hm)⟩⟩,h2,h3,h4⟩
end Att
namespace L2
open PySem PySem.Spec PyProof.Rows
theorem aBw:∀ {vs:List Value} {ns:List Int},jb vs ns->Vals (ns.map V.int) vs
 |_,_,.nil=>.nil
 |_,_,.cons n t h=>.cons ⟨t,rfl⟩ (aBw h)
def Only(H:Hp):Prop:=∀b,H b=none\/∃o xs,H b=some (.frz o (.lst xs))
theorem law_call{P:jW}{w:World}{K:W.Frag}{mg mb:Str->Option Value}{CX:CXT}{k:Nat}{fa a:Addr}{fd:jr}{x:Str}{sp:Sp}{s₁:jR}{vs:List Value}{ns:List Int}
  (KX:K.In s₁.heap) (hns:s₁.heap.Ns ji mg) (hb:s₁.heap.Ns builtinsNs mb) (hbb:∀x:Str,x ≠ "__name__" -> mb x=kD x) (hlim:s₁.heap.NoLimit) (hg:s₁.gens = #[])
  (ha:s₁.heap.get? a=some { cls:=.type "list",data:=.seq vs.toArray }) (hi:jb vs ns) (hl:ns.length<=jU) (hr:Room k callerA)
  (F:∀base:Heap,K.In base->base.Ns ji mg->FnOk P w K mg base CX k fa fd [x] sp) (hbind:∀ (s:jR) (u:Value),BindsTo s fd ⟨[u],[]⟩ [(x,u)])
  (hsp:∀H:Hp,Only H->SqL K H a (ns.map V.int)->sp [.ref a] H (fun v _=>v = .bl true) fun _ _ _=>False)
  (hCX:∀H e s',CX [] H s₁ (fun _ _ _=>False) e s'->False) :
  kF (model P w) callerA (.call (.ref fa) ⟨[.ref a],[]⟩) (fun r s'=>r = .ok (.ret (.bool true))/\OldK s₁.heap s'.heap/\s'.os=s₁.os/\AllBare s'.gens) s₁:=by
 have rv:=aBw hi;have lenV:=hi.length;have core:∀H:Hp,Only H->SqL K H a (ns.map V.int)->HOk P w H s₁.heap->(∀b,H b≠none->b=a)->(H a≠none->K.lookup a=none) ->
   kF (model P w) callerA (.call (.ref fa) ⟨[.ref a],[]⟩) (fun r s'=>r = .ok (.ret (.bool true))/\OldK s₁.heap s'.heap/\s'.os=s₁.os/\AllBare s'.gens) s₁:=by
  intro H hO hS hok hA hK;have base_of:∀ {b:Addr} {o:Obj},s₁.heap.get? b=some o->H b=none->(hidT s₁.heap H).get? b=some o:=fun e n=>hidT_get e n;have noA:∀ {b:Addr} {o:Obj} {es:Array DictEntry} {ep:Nat},s₁.heap.get? b=some o->o.data = .dict es ep->H b=none:=fun {b o es ep} e d=>by
   cases q:H b with
   |none=>rfl
   | some u =>
    have e':b=a:=hA b (by rw[q];simp);subst e';rw[ha] at e;cases e;have d':Data.seq vs.toArray _=Data.dict es ep:=d;cases d'
  have nsK:∀ {b:Addr} {m:Str->Option Value},s₁.heap.Ns b m->(hidT s₁.heap H).Ns b m:=fun {b m} ⟨o,es,ep,e,d,r⟩=>⟨o,es,ep,base_of e (noA e d),d,r⟩
  have hKb:K.In (hidT s₁.heap H):=fun b o e=>base_of (KX b o e) (by
   cases q:H b with
   |none=>rfl
   | some u =>
    have e':b=a:=hA b (by rw[q];simp);subst e'
    rw[hK (by rw[q];simp)] at e;cases e)
  have hM:Mod K mg (hidT s₁.heap H):=⟨hKb,nsK hns,⟨mb,nsK hb,hbb⟩,let ⟨mc,h1,h2⟩:=hlim;⟨mc,nsK h1,h2⟩⟩
  have e0:Env0 P w K mg (hidT s₁.heap H) callerA [] s₁ H:=⟨rfl,hM,fun b o e=>of_hidT e,gP (aYu _ _),trivial,fun b hb=>absurd (show b∈([]:List Addr) from hb) ZJ,hok,.of_eq hg⟩
  refine kh ((F _ hKb (nsK hns)).run callerA [] s₁ H ⟨[.ref a],[]⟩ [.ref a] [.ref a] _ _ hr e0 (hbind s₁ (.ref a)) (.cons rfl .nil) (hsp H hO hS)) fun r s' h=>?_;cases r with
  |error e=>exact(hCX H e s' h).elim
  | ok fl =>
   cases fl with
   |next=>exact False.elim h
   |brk=>exact False.elim h
   |cont=>exact False.elim h
   | ret u =>
    obtain⟨v,H',os,bare,un,hok',r',q⟩:=h;have q':v = .bl true:=q;subst q';obtain rfl:u=Value.bool true:=r';refine⟨rfl,OldK.of_keep fun b o e=>?_,os,bare⟩;cases q:H b with
    |none=>exact un.keep b o e q (by intro z;exact absurd (show b∈([]:List Addr) from z) ZJ) ZJ
    | some u =>
     rcases hO b with z |⟨ob,xs,z⟩
     ·rw[q] at z;cases z
     ·have z2:=un.frzs b ob _ z;obtain⟨e1,_⟩:=hok b _ z;obtain⟨e2,_⟩:=hok' b _ z2;rw[e] at e1;cases e1;exact e2
 cases hk:K.lookup a with
 | some o =>
  have e:=KX a o hk;rw[ha] at e;cases e;refine core (fun _=>none) (fun _=>.inl rfl) (.inr (.inl ⟨_,vs.toArray,_,hk,rfl,rfl,rfl,by rw[ah,lenV];exact hl,by simpa using rv⟩)) (fun b u z=>by have z':(none:Option HO)=some u:=z;cases z') (fun b z=>absurd rfl z) fun z=>absurd rfl z
 | none =>
  refine core (fun b=>if b=a then some (.frz { cls:=.type "list",data:=.seq vs.toArray } (.lst (ns.map V.int))) else none) (fun b=>?_) (.inl (.inr ⟨{ cls:=.type "list",data:=.seq vs.toArray },if_pos rfl⟩)) (fun b u z=>?_) (fun b z=>?_) fun _=>hk
  ·by_cases hb:b=a
   ·exact .inr ⟨_,_,if_pos hb⟩
   ·exact .inl (if_neg hb)
  ·by_cases hb:b=a
   ·have z':=(if_pos hb).symm.trans z;cases z';subst hb;exact⟨ha,by rw[a5];exact hl,vs,_,rv,ha⟩
   ·have z':=(if_neg hb).symm.trans z;cases z'
  ·by_cases hb:b=a
   ·exact hb
   ·exact absurd (if_neg hb) z
theorem walk_of{l:W.OpenLaw}{n k:Nat}{q:jW}{loose:List Str}{XP:(Str->Option Value)->Heap->Prop}{YP:World->Heap->Prop}{d:DefRec}{K:Params->W.Frag}{CX:World->CXT}{sp:World->Sp}{x:Str}
  (hn:l.most=some n) (hn2:n<=jU) (hdf:d.params.defaults = []) (hr:Room k callerA)
  (hY:∀ (w:World) (h:Heap),YP w h->(K w.params).In h)
  (F:∀ (w:World) (mg:Str->Option Value) (fa:Addr) (h:Heap),(K w.params).In h->h.Ns ji mg->mg d.name=some (.ref fa) ->
   ∃fd:jr,(∀ (s:jR) (u:Value),BindsTo s fd ⟨[u],[]⟩ [(x,u)]) /\
    ∀base:Heap,(K w.params).In base->base.Ns ji mg->FnOk l.prog w (K w.params) mg base (CX w) k fa fd [x] (sp w))
  (hsp:∀ (w:World) (H:Hp) (a:Addr) (ns:List Int),ns.length<=n->Only H->SqL (K w.params) H a (ns.map V.int)->sp w [.ref a] H (fun v _=>v = .bl true) fun _ _ _=>False)
  (hCX:∀ (w:World) (H:Hp) (s:jR) (e:Value) (s':jR),CX w [] H s (fun _ _ _=>False) e s'->False) :
  W.WalkO q loose XP YP l.row.toRowW d [] (fun f vs=>PySem.call f vs):=by
 refine Att.attach_call hn hdf fun w s₀ s₁ mg mb fa o pm cd doc a vs ns G Y ho hd hcd hmg hobj hints hlen hg=>?_;have KX:=hY w _ Y;obtain⟨fd,hb,hF⟩:=F w mg fa _ KX G.T.g hmg;exact law_call KX G.T.g G.T.b G.T.builtins G.T.nolimit hg hobj hints (ao hlen hn2) hr hF hb (fun H hO hS=>hsp w H a ns hlen hO hS) fun H e s'=>hCX w H s₁ e s'
def aDn(s:Stmt):Arguments:=match s with
 |.FunctionDef _ a _ _ _ _ _ _ _ _=>a
 |_=>{ posonlyargs:=[],args:=[],vararg:=none,kwonlyargs:=[],kw_defaults:=[],kwarg:=none,defaults:=[] }
def aB7(s:Stmt):List Stmt:=match s with
 |.FunctionDef _ _ b _ _ _ _ _ _ _=>b
 |_=>[]
def aAv(s:Stmt):Scope:=match s with
 |.FunctionDef _ _ _ _ _ _ sc _ _ _=>sc
 |_=>{ kind:=.function,names:=[],isGenerator:=false,isCoroutine:=false }
abbrev CX0:CXT:=fun _ _ _ _ _ _=>False
abbrev E0:XK:=fun _ _ _=>False
theorem pass0:aZl CX0 X E0:=fun _ _ _ _ _ _ _ h=>h.elim
structure Fun (K:W.Frag) (x qual:Str) (st:Stmt) (f:Addr) (fd:jr):Prop where
 ex:∃ (oc:Value) (od:Option Addr) (kV doc pm:Value) (an:Option Addr) (cdv ct:Value) (osl:Array (Option Value)),
  fd=W.fnOf x qual (aDn st) (aB7 st) (aAv st) .none kV doc pm an cdv ct/\K.lookup f=some ⟨oc,od,.func fd,osl⟩/\W.codeIn K cdv qual=true
 kp:W.keepIn K (.ref f)=true
section
variable {P:jW}{w:World}{K:W.Frag}{mg:Str->Option Value}{base:Heap}
theorem Fun.ok{x qual:Str}{st:Stmt}{f:Addr}{fd:jr}{N ps:List Str}{k:Nat}{sp:Sp}(F:Fun K x qual st f fd)(S:FnScope N ps (aAv st))(len:∀vs H Q E,sp vs H Q E->vs.length=ps.length)
  (hbody:∀ (cdv:Value) (A:jY) (outer:List Env) (s:jR) (H:Hp) (vs:List V) (Q:VK) (E:XK),Room k (A.deeper (envOfC qual (aAv st) s.heap.objs.size f cdv))->sp vs H Q E ->
   ∃t,PSs (cxOf CX0 P w K mg base N qual (aAv st) f cdv A outer s H E).nox (aB7 st) t/\t { nx:=fun _ H'=>Q .non H',rt:=Q } (start N vs) H):FnOk P w K mg base CX0 (k+1) f fd ps sp:=by
 obtain⟨oc,od,kV,doc,pm,an,cdv,ct,osl,rfl,lk,hcd⟩:=F.ex;refine fn_of lk hcd S len fun A outer s H vs Q E hr hsp=>?_;obtain⟨t,h,q⟩:=hbody cdv A outer s H vs Q E hr hsp;exact⟨t,h.nox,q⟩
theorem Fun.binds{x qual:Str}{st:Stmt}{f:Addr}{fd:jr}{ps:List Str}(F:Fun K x qual st f fd)
  (h:∀ (kV doc pm:Value) (an:Option Addr) (cdv ct:Value) (us:List Value),us.length=ps.length->bindArgs (W.fnOf x qual (aDn st) (aB7 st) (aAv st) .none kV doc pm an cdv ct) ⟨us,[]⟩=pure (ps.zip us)):Binds K fd ps []:=by
 obtain⟨oc,od,kV,doc,pm,an,cdv,ct,osl,rfl,lk,hcd⟩:=F.ex;exact .all (h kV doc pm an cdv ct)
theorem fun_mk{x qual:Str}{st:Stmt}{f:Addr}{oc:Value}{od an:Option Addr}{osl:Array (Option Value)}{kV doc pm cdv ct:Value}(l:K.lookup f=some ⟨oc,od,.func (W.fnOf x qual (aDn st) (aB7 st) (aAv st) .none kV doc pm an cdv ct),osl⟩)
  (c:W.codeIn K cdv qual=true) (k:W.keepIn K (.ref f)=true):Fun K x qual st f (W.fnOf x qual (aDn st) (aB7 st) (aAv st) .none kV doc pm an cdv ct):=⟨⟨oc,od,kV,doc,pm,an,cdv,ct,osl,rfl,l,c⟩,k⟩
end
theorem iteF{A B:Prop}(h:B):if false=true then A else B:=by rw[if_neg dU];exact h
theorem iteT{A B:Prop}(h:A):if true=true then A else B:=by rw[if_pos rfl];exact h
end L2
end
namespace L2.Ds
open PySem
noncomputable abbrev Ky:=Sum Int Str
inductive T where
 |non |bl (b:Bool) |int (i:Int) |str (x:Str) |tup (xs:List T) |lst (xs:List T) |dic (kvs:List (Ky × T)) |town
 |ob (a:Nat)
 |rdc (ks:List (List ZB))
inductive Md where
 |own |bor |lent |fz
 deriving DecidableEq
noncomputable def aDr:T->Bool
 |.lst _=>true
 |.dic _=>true
 |.rdc _=>true
 |_=>false
noncomputable abbrev En:=List (Option (T × Md))
noncomputable abbrev DE:=En->Nat->Option (T × Md × Nat)
noncomputable abbrev DT:=En->Nat->Option (Bool × Nat)
noncomputable abbrev DA:=En->Nat->Option (List T × Nat)
noncomputable abbrev DI:=En->Nat->Option (List T × Nat)
inductive Fl where
 |nx |bk |ct |rt (t:T) (own:Bool)
noncomputable abbrev DS:=En->Nat->Option (Fl × En × Nat)
noncomputable abbrev Fn:=List (T × Bool)->Nat->Option (T × Bool × Nat)
noncomputable abbrev DB:=En->Nat->Option (List (T × Bool) × Nat)
noncomputable def md(b:Bool):Md:=match b with
 |true=>.own
 |false=>.fz
noncomputable def big:Nat:=1000000
noncomputable def look(m:Md)(t:T):Md:=match m with
 |.own=>if aDr t then .lent else .fz
 |.bor=>if aDr t then .bor else .fz
 |.lent=>.lent
 |.fz=>.fz
noncomputable def dVar(i:Nat):DE:=fun ρ n=>match ρ[i]? with
 |some (some (t,m))=>some (t,look m t,n)
 |_=>none
noncomputable def dK(t:T):DE:=fun _ n=>some (t,.fz,n)
noncomputable def frz(t:T)(m:Md):Option T:=match m with
 |.own=>some t
 |.fz=>some t
 |_=>if aDr t then none else some t
noncomputable def dFz(d:DE):DE:=fun ρ n=>(d ρ n).bind fun r=>(frz r.1 r.2.1).map fun t=>(t,.fz,r.2.2)
noncomputable def dNil:DA:=fun _ n=>some ([],n)
noncomputable def aAa(d:DE)(r:DA):DA:=fun ρ n=>(d ρ n).bind fun a=>(r ρ a.2.2).map fun b=>(a.1::b.1,b.2)
noncomputable abbrev Pr:=Nat->List T->Option (T × Md)
noncomputable def dPr(g:Pr)(a:DA):DE:=fun ρ n=>(a ρ n).bind fun r=>(g r.2 r.1).map fun x=>(x.1,x.2,r.2)
noncomputable def flag(m:Md)(t:T):Bool:=match m with
 |.own=>true
 |.fz=>true
 |_=>!aDr t
noncomputable def bNil:DB:=fun _ n=>some ([],n)
noncomputable def aAe(d:DE)(r:DB):DB:=fun ρ n=>(d ρ n).bind fun a=>(r ρ a.2.2).map fun b=>((a.1,flag a.2.1 a.1)::b.1,b.2)
noncomputable def dCall(ar:Nat)(f:Fn)(a:DB):DE:=fun ρ n=>(a ρ n).bind fun r=>if r.1.length=ar then (f r.1 r.2).map fun x=>(x.1,md x.2.1,x.2.2) else none
noncomputable def dTup(a:DA):DE:=fun ρ n=>(a ρ n).bind fun r=>if r.1.length<=big then some (.tup r.1,.fz,r.2) else none
noncomputable def dLst(a:DA):DE:=fun ρ n=>(a ρ n).bind fun r=>if r.1.length<=big then some (.lst r.1,.own,r.2) else none
noncomputable def dIf(c:DT)(a b:DE):DE:=fun ρ n=>(c ρ n).bind fun r=>if r.1 then a ρ r.2 else b ρ r.2
noncomputable def dAndV(a b:DE):DE:=fun ρ n=>(a ρ n).bind fun r=>match r.1 with
 |.bl true=>b ρ r.2.2
 |.bl false=>some (.bl false,.fz,r.2.2)
 |_=>none
noncomputable def tru:T->Option Bool
 |.non=>some false
 |.bl b=>some b
 |.int i=>some (i != 0)
 |.tup xs=>some (!xs.isEmpty)
 |.lst xs=>some (!xs.isEmpty)
 |.dic kvs=>some (!kvs.isEmpty)
 |_=>none
noncomputable def dTru(d:DE):DT:=fun ρ n=>(d ρ n).bind fun r=>(tru r.1).map fun b=>(b,r.2.2)
noncomputable def dNot(c:DT):DT:=fun ρ n=>(c ρ n).map fun r=>(!r.1,r.2)
noncomputable def dAnd(a b:DT):DT:=fun ρ n=>(a ρ n).bind fun r=>if r.1 then b ρ r.2 else some (false,r.2)
noncomputable def dOr(a b:DT):DT:=fun ρ n=>(a ρ n).bind fun r=>if r.1 then some (true,r.2) else b ρ r.2
noncomputable def keyT:Ky->T
 |.inl i=>.int i
 |.inr x=>.str x
noncomputable def walked(t:T)(m:Md):Option (List T):=match t with
 |.lst xs=>some xs
 |.tup xs=>some xs
 | .dic kvs=>match m with
  |.fz=>some (kvs.map fun kv=>keyT kv.1)
  |.own=>some (kvs.map fun kv=>keyT kv.1)
  |_=>none
 |_=>none
noncomputable def dIt(d:DE):DI:=fun ρ n=>(d ρ n).bind fun r=>(walked r.1 r.2.1).map fun xs=>(xs,r.2.2)
noncomputable def dItS(d:DE):DI:=fun ρ n=>(d ρ n).bind fun r=>match r.2.1 with
 |.lent=>none
 |m=>(walked r.1 m).map fun xs=>(xs,r.2.2)
noncomputable def upTo(lo hi:Int):List T:=(List.range (hi - lo).toNat).map fun (k:Nat)=>.int (lo+k)
noncomputable def aH0(a:DA):DI:=fun ρ n=>(a ρ n).bind fun r=>match r.1 with
 |[.int j]=>if -big<=j/\j<=big then some (upTo 0 j,r.2) else none
 |_=>none
noncomputable def aWr(a:DA):DI:=fun ρ n=>(a ρ n).bind fun r=>match r.1 with
 |[.int i,.int j]=>if -big<=i/\i<=big /\ -big<=j/\j<=big then some (upTo i j,r.2) else none
 |_=>none
noncomputable def aD3(put:T->En->Option En)(c:DT)(e:DE):List T->En->Nat->List T->Option (List T × Nat)
 |[],_,n,acc=>some (acc,n)
 | x::xs,ρ,n,acc=>(put x ρ).bind fun ρ'=>(c ρ' n).bind fun b=>if b.1 then (dFz e ρ' b.2).bind fun r=>if acc.length<big then aD3 put c e xs ρ' r.2.2 (acc ++ [r.1]) else none
  else aD3 put c e xs ρ' b.2 acc
noncomputable def aBl(it:DI)(src:En->En)(put:T->En->Option En)(c:DT)(e:DE):DE:=fun ρ n =>
 (it ρ n).bind fun r=>(aD3 put c e r.1 (src ρ) r.2 []).map fun a=>(.lst a.1,.own,a.2)
noncomputable def yes:DT:=fun _ n=>some (true,n)
noncomputable def putAt(i:Nat):T->En->Option En:=fun t ρ=>some (ρ.set i (some (t,.fz)))
noncomputable def aD6(i j:Nat):T->En->Option En:=fun t ρ=>match t with
 |.tup [a,b]=>some ((ρ.set i (some (a,.fz))).set j (some (b,.fz)))
 |_=>none
noncomputable def srcOf(l:List (Option Nat)):En->En:=fun ρ=>l.map fun o=>o.bind fun j=>(ρ[j]?).join
noncomputable def aCh:DS:=fun ρ n=>some (.nx,ρ,n)
noncomputable def dSeq(a b:DS):DS:=fun ρ n=>(a ρ n).bind fun r=>match r.1 with
 |.nx=>b r.2.1 r.2.2
 |f=>some (f,r.2.1,r.2.2)
noncomputable def dSet(i:Nat)(d:DE):DS:=fun ρ n=>(d ρ n).bind fun r=>match r.2.1 with
 |.own=>some (.nx,ρ.set i (some (r.1,.own)),r.2.2)
 |.fz=>some (.nx,ρ.set i (some (r.1,.fz)),r.2.2)
 |_=>none
noncomputable def dPut(put:T->En->Option En)(d:DE):DS:=fun ρ n=>(dFz d ρ n).bind fun r=>(put r.1 ρ).map fun ρ'=>(.nx,ρ',r.2.2)
noncomputable def dIfS(c:DT)(a b:DS):DS:=fun ρ n=>(c ρ n).bind fun r=>if r.1 then a ρ r.2 else b ρ r.2
noncomputable def dRet(d:DE):DS:=fun ρ n=>(d ρ n).bind fun r=>match r.2.1 with
 |.own=>some (.rt r.1 true,ρ,r.2.2)
 |.fz=>some (.rt r.1 false,ρ,r.2.2)
 |_=>none
noncomputable def aC2(i:Nat):DS:=fun ρ n=>match ρ[i]? with
 |some (some (t,.own))=>some (.rt t true,ρ,n)
 |some (some (t,.fz))=>some (.rt t false,ρ,n)
 |some (some (t,.bor))=>if aDr t then none else some (.rt t false,ρ,n)
 |_=>none
noncomputable def dFrz(i:Nat)(d:DS):DS:=fun ρ n=>match ρ[i]? with
 |some (some (t,.own))=>d (ρ.set i (some (t,.fz))) n
 |_=>d ρ n
noncomputable def aBp(i:Nat)(d:DS):DS:=fun ρ n=>match ρ[i]? with
 |some (some (.dic kvs,.own))=>d (ρ.set i (some (.dic kvs,.fz))) n
 |_=>d ρ n
noncomputable def aA4(put:T->En->Option En)(b:DS):List T->En->Nat->Option (Fl × En × Nat)
 |[],ρ,n=>some (.nx,ρ,n)
 | x::xs,ρ,n=>(put x ρ).bind fun ρ1=>(b ρ1 n).bind fun r=>match r.1 with
  |.nx=>aA4 put b xs r.2.1 r.2.2
  |.ct=>aA4 put b xs r.2.1 r.2.2
  |.bk=>some (.nx,r.2.1,r.2.2)
  |.rt t m=>some (.rt t m,r.2.1,r.2.2)
noncomputable def dFor(it:DI)(put:T->En->Option En)(b:DS):DS:=fun ρ n=>(it ρ n).bind fun r=>aA4 put b r.1 ρ r.2
noncomputable def bB3(i:Nat):DS:=fun ρ n=>match ρ[i]? with
 |some (some (.town,_))=>if n<big then some (.nx,ρ,n+1) else none
 |_=>none
noncomputable def dChg(i:Nat)(g:T->T->Option T)(d:DE):DS:=fun ρ n=>(dFz d ρ n).bind fun r=>match ρ[i]? with
 |some (some (t,.own))=>(g t r.1).map fun t'=>(.nx,ρ.set i (some (t',.own)),r.2.2)
 |_=>none
noncomputable def appT:T->T->Option T
 |.lst xs,y=>if xs.length<big then some (.lst (xs ++ [y])) else none
 |_,_=>none
noncomputable def extT:T->T->Option T
 |.lst xs,.lst ys=>if xs.length+ys.length<=big then some (.lst (xs++ys)) else none
 |.lst xs,.tup ys=>if xs.length+ys.length<=big then some (.lst (xs++ys)) else none
 |_,_=>none
noncomputable def aCj(i:Nat)(g:T->T->T->Option T)(k v:DE):DS:=fun ρ n=>(dFz v ρ n).bind fun r=>(k ρ r.2.2).bind fun q=>match ρ[i]? with
 |some (some (t,.own))=>(g t q.1 r.1).map fun t'=>(.nx,ρ.set i (some (t',.own)),q.2.2)
 |_=>none
noncomputable def fnD(many:Nat)(b:DS):Fn:=fun ts n =>
 (b (ts.map (fun t=>some (t.1,if t.2 then .fz else .bor))++List.replicate (many - ts.length) none) n).bind fun r=>match r.1 with
  |.rt t m=>some (t,m,r.2.2)
  |.nx=>some (.non,false,r.2.2)
  |_=>none
noncomputable def pI2(C:Int->Int->Bool)(g:Int->Int->T):Pr:=fun _ ts=>match ts with
 |[.int a,.int b]=>if C a b then some (g a b,.fz) else none
 |_=>none
noncomputable def pAdd:Pr:=fun _ ts=>match ts with
 |[.int a,.int b]=>some (.int (a+b),.fz)
 |[.tup a,.tup b]=>if a.length+b.length<=big then some (.tup (a++b),.fz) else none
 |[.lst a,.lst b]=>if a.length+b.length<=big then some (.lst (a++b),.own) else none
 |_=>none
noncomputable def pSub:Pr:=pI2 (fun _ _=>true) fun a b=>.int (a - b)
noncomputable def small(i:Int):Bool:=decide (i.natAbs<2^64)
noncomputable def pMul:Pr:=fun _ ts=>match ts with
 |[.int a,.int b]=>if small a||small b then some (.int (a*b),.fz) else none
 |[.tup a,.int k]=>if a.length<=1000 /\ -1000<=k/\k<=10000/\a.length*k.toNat<=big then some (.tup (List.replicate k.toNat a).flatten,.fz) else none
 |_=>none
noncomputable def pMod:Pr:=pI2 (fun _ b=>decide (0<b)) fun a b=>.int (a%b)
noncomputable def pLt:Pr:=pI2 (fun _ _=>true) fun a b=>.bl (decide (a<b))
noncomputable def pLe:Pr:=pI2 (fun _ _=>true) fun a b=>.bl (decide (a<=b))
noncomputable def pGt:Pr:=pI2 (fun _ _=>true) fun a b=>.bl (decide (b<a))
noncomputable def pGe:Pr:=pI2 (fun _ _=>true) fun a b=>.bl (decide (b<=a))
noncomputable def isNon:T->Bool
 |.non=>true
 |_=>false
noncomputable def pIsN:Pr:=fun _ ts=>match ts with
 |[t]=>some (.bl (isNon t),.fz)
 |_=>none
noncomputable def pLen:Pr:=fun n ts=>match ts with
 |[.lst xs]=>some (.int xs.length,.fz)
 |[.tup xs]=>some (.int xs.length,.fz)
 |[.dic kvs]=>some (.int kvs.length,.fz)
 |[.town]=>some (.int n,.fz)
 |_=>none
noncomputable def at?(xs:List T)(i:Int):Option T :=
 if 0<=i then (if i<xs.length then xs[i.toNat]? else none) else if -(xs.length:Int)<=i then xs[(i+xs.length).toNat]? else none
noncomputable def keyOf:T->Option Ky
 |.int i=>some (.inl i)
 |.str x=>some (.inr x)
 |_=>none
noncomputable def aDc(kvs:List (Ky × T))(k:Ky):Option T:=(kvs.find? fun kv=>decide (kv.1=k)).map (·.2)
noncomputable def aCc(kvs:List (Ky × T))(k:Ky)(v:T):List (Ky × T) :=
 if (kvs.any fun kv=>decide (kv.1=k))=true then kvs.map (fun kv=>if kv.1=k then (kv.1,v) else kv) else kvs ++ [(k,v)]
noncomputable def pGet:Pr:=fun _ ts=>match ts with
 |[.lst xs,.int i]=>(at? xs i).map fun t=>(t,.fz)
 |[.tup xs,.int i]=>(at? xs i).map fun t=>(t,.fz)
 |[.dic kvs,k]=>(keyOf k).bind fun k=>(aDc kvs k).map fun t=>(t,.fz)
 |_=>none
noncomputable def aC4:Pr:=fun _ ts=>match ts with
 |[.dic kvs,k,x]=>if aDr x then none else (keyOf k).map fun k=>((aDc kvs k).getD x,.fz)
 |_=>none
noncomputable def setL:T->T->T->Option T
 |.lst xs,.int i,v=>if 0<=i/\i<xs.length then some (.lst (xs.set i.toNat v)) else none
 |.dic kvs,k,v=>(keyOf k).bind fun k=>if kvs.length<big then some (.dic (aCc kvs k v)) else none
 |_,_,_=>none
mutual
noncomputable def eqT:T->T->Bool
 |.non,.non=>true
 |.bl a,.bl b=>a==b
 |.bl a,.int b=>(if a then 1 else 0)==b
 |.int a,.bl b=>a==(if b then 1 else 0)
 |.int a,.int b=>a==b
 |.str a,.str b=>a==b
 |.tup a,.tup b=>eqTs a b
 |.lst a,.lst b=>eqTs a b
 |_,_=>false
noncomputable def eqTs:List T->List T->Bool
 |[],[]=>true
 |x::xs,y::ys=>eqT x y&&eqTs xs ys
 |_,_=>false
end
noncomputable def aAo:Nat->T->Bool
 |_,.dic _=>false
 |_,.town=>false
 |_,.ob _=>false
 |_,.rdc _=>false
 |0,.tup _=>false
 |0,.lst _=>false
 |k+1,.tup a=>a.all (aAo k)
 |k+1,.lst a=>a.all (aAo k)
 |_,_=>true
noncomputable def eqP:T->T->Option Bool
 |.dic a,.dic b=>if b.isEmpty then some a.isEmpty else none
 |a,b=>if aAo 6 a&&aAo 6 b then some (eqT a b) else none
noncomputable def pEq:Pr:=fun _ ts=>match ts with
 |[a,b]=>(eqP a b).map fun r=>(.bl r,.fz)
 |_=>none
noncomputable def pNe:Pr:=fun _ ts=>match ts with
 |[a,b]=>(eqP a b).map fun r=>(.bl (!r),.fz)
 |_=>none
inductive Ty where
 |int |bool |list |tuple |str |dict
noncomputable def isTy:Ty->T->Option Bool
 |.int,.int _=>some true
 |.int,.bl _=>some true
 |.bool,.bl _=>some true
 |.list,.lst _=>some true
 |.tuple,.tup _=>some true
 |.str,.str _=>some true
 |.dict,.dic _=>some true
 |_,.town=>none
 |_,.ob _=>none
 |_,.rdc _=>none
 |_,_=>some false
noncomputable def pIsI(k:Ty):Pr:=fun _ ts=>match ts with
 |[t]=>(isTy k t).map fun b=>(.bl b,.fz)
 |_=>none
noncomputable def boolsOf:List T->Option (List Bool)
 |[]=>some []
 |.bl b::r=>(boolsOf r).map (b :: ·)
 |_=>none
noncomputable def intsOf:List T->Option ZB
 |[]=>some []
 |.int i::r=>(intsOf r).map (i :: ·)
 |_=>none
noncomputable def pAll:Pr:=fun _ ts=>match ts with
 |[.lst xs]=>(boolsOf xs).map fun bs=>(.bl (bs.all id),.fz)
 |_=>none
noncomputable def aTj:Pr:=fun _ ts=>match ts with
 |[.lst xs]=>some (.lst xs,.own)
 |[.tup xs]=>some (.lst xs,.own)
 |[.dic kvs]=>some (.lst (kvs.map fun kv=>keyT kv.1),.own)
 |_=>none
noncomputable def aDg:Pr:=fun _ ts=>match ts with
 |[.lst xs]=>some (.tup xs,.fz)
 |[.tup xs]=>some (.tup xs,.fz)
 |_=>none
noncomputable def ins(x:Int):List Int->List Int
 |[]=>[x]
 |y::ys=>if x<=y then x::y::ys else y::ins x ys
noncomputable def sortI:List Int->List Int
 |[]=>[]
 |x::xs=>ins x (sortI xs)
noncomputable def lexLt:List Int->List Int->Bool
 |[],[]=>false
 |[],_::_=>true
 |_::_,[]=>false
 |x::xs,y::ys=>if x==y then lexLt xs ys else decide (x<y)
noncomputable def insL(x:List Int):List ZB->List ZB
 |[]=>[x]
 |y::ys=>if lexLt y x then y::insL x ys else x::y::ys
noncomputable def aC1:List ZB->List ZB
 |[]=>[]
 |x::xs=>insL x (aC1 xs)
noncomputable def tupT(l:List Int):T:=.tup (l.map .int)
noncomputable def rwsT(ls:List ZB):T:=.tup (ls.map tupT)
noncomputable def aGq:List T->Option (List ZB)
 |[]=>some []
 |.tup (x::xs)::r=>(intsOf (x::xs)).bind fun l=>(aGq r).map (l :: ·)
 |_=>none
noncomputable def aH8:Pr:=fun _ ts=>match ts with
 | [.lst xs]=>match intsOf xs with
  |some ns=>some (.lst ((sortI ns).map .int),.own)
  |none=>(aGq xs).map fun ls=>(.lst ((aC1 ls).map tupT),.own)
 |[.tup xs]=>(intsOf xs).map fun ns=>(.lst ((sortI ns).map .int),.own)
 |_=>none
noncomputable def aF5(ns:List Int):List Int:=ns.foldr (fun x r=>if x∈r then r else x::r) []
noncomputable def itemsOf:List (Ky × T)->Option (List ZH)
 |[]=>some []
 |(.inl k,.int v)::r=>(itemsOf r).map ((k,v) :: ·)
 |_=>none
noncomputable def aCn(p:Int × Int):List Int:=[p.1,p.2]
noncomputable def aF6:Pr:=fun _ ts=>match ts with
 |[.dic kvs]=>(itemsOf kvs).map fun ps=>(.lst ((aC1 (ps.map aCn)).map tupT),.own)
 |_=>none
noncomputable def pairsOf:List T->Option (List (Ky × T))
 |[]=>some []
 |.tup [k,v]::r=>(keyOf k).bind fun k=>(pairsOf r).map ((k,v) :: ·)
 |_=>none
noncomputable def aMy:Pr:=fun _ ts=>match ts with
 |[.lst xs]=>(pairsOf xs).bind fun ps=>if ps.length<big then some (.dic (ps.foldl (fun d p=>aCc d p.1 p.2) []),.own) else none
 |[.dic kvs]=>some (.dic kvs,.own)
 |_=>none
noncomputable def least:List Int->Option Int
 |[]=>none
 |x::xs=>some (xs.foldl (fun a b=>if b<a then b else a) x)
noncomputable def aFs:List Int->Option Int
 |[]=>none
 |x::xs=>some (xs.foldl (fun a b=>if a<b then b else a) x)
noncomputable def intKeys:List (Ky × T)->Option ZB
 |[]=>some []
 |(.inl k,_)::r=>(intKeys r).map (k :: ·)
 |_=>none
noncomputable def pMin:Pr:=fun _ ts=>match ts with
 |[.lst xs]=>(intsOf xs).bind fun ns=>(least ns).map fun i=>(.int i,.fz)
 |[.dic kvs]=>(intKeys kvs).bind fun ns=>(least ns).map fun i=>(.int i,.fz)
 |[.int a,.int b]=>some (.int (if b<a then b else a),.fz)
 |_=>none
noncomputable def sumI:List Int->Int
 |[]=>0
 |x::xs=>x+sumI xs
noncomputable def bound(n d:Nat):Option Int->Nat
 |none=>d
 |some v=>if v<0 then (v+(n:Int)).toNat else min v.toNat n
noncomputable abbrev DO:=En->Nat->Option (Option Int × Nat)
noncomputable def aF9:DO:=fun _ n=>some (none,n)
noncomputable def aGn(d:DE):DO:=fun ρ n=>(d ρ n).bind fun r=>match r.1 with
 |.int i=>some (some i,r.2.2)
 |_=>none
noncomputable def cutT(xs:List T)(lo hi:Option Int):List T:=(xs.drop (bound xs.length 0 lo)).take (bound xs.length xs.length hi - bound xs.length 0 lo)
noncomputable def aHp:DE:=fun _ n=>some (.dic [],.own,n)
noncomputable def dDic1(k v:DE):DE:=fun ρ n=>(k ρ n).bind fun a=>(keyOf a.1).bind fun k=>(v ρ a.2.2).map fun b=>(.dic [(k,b.1)],.own,b.2.2)
noncomputable def aHf(g h:Pr)(a b c:DE):DE:=fun ρ n=>(a ρ n).bind fun x=>(b ρ x.2.2).bind fun y=>(g y.2.2 [x.1,y.1]).bind fun r=>match r.1 with
 |.bl true=>(c ρ y.2.2).bind fun z=>(h z.2.2 [y.1,z.1]).map fun q=>(q.1,q.2,z.2.2)
 |.bl false=>some (.bl false,.fz,y.2.2)
 |_=>none
noncomputable def aIn:DS:=fun _ _=>none
noncomputable def aHb(d:DE):DS:=fun ρ n=>(d ρ n).map fun r=>(.nx,ρ,r.2.2)
noncomputable def aC3(i j:Nat):DS:=fun ρ n=>match ρ[j]? with
 |some (some (t,.own))=>some (.nx,(ρ.set j none).set i (some (t,.own)),n)
 |some (some (t,.fz))=>some (.nx,ρ.set i (some (t,.fz)),n)
 |some (some (t,.bor))=>if aDr t then none else some (.nx,ρ.set i (some (t,.fz)),n)
 |_=>none
noncomputable def aV8:DE:=fun _ n=>some (.rdc [],.own,n)
noncomputable def rowOf:T->Option ZB
 |.tup xs=>intsOf xs
 |_=>none
noncomputable def aJn:List T->Option (List ZB)
 |[]=>some []
 |t::r=>(rowOf t).bind fun l=>(aJn r).map (l :: ·)
noncomputable def rowsOf:T->Option (List ZB)
 |.tup xs=>aJn xs
 |_=>none
noncomputable def aDs(ks:List (List ZB))(k:List ZB):List (List ZB):=if (ks.any fun x=>decide (x=k))=true then ks else ks ++ [k]
noncomputable def setR:T->T->T->Option T
 |.rdc ks,k,.bl true=>(rowsOf k).bind fun ls=>if ks.length<big then some (.rdc (aDs ks ls)) else none
 |_,_,_=>none
noncomputable def aWb:Pr:=fun _ ts=>match ts with
 |[.rdc ks]=>some (.lst (ks.map rwsT),.own)
 |_=>none
theorem aNc(x:Int):∀l:List Int,(ins x l).Perm (x::l)
 |[]=>.refl _
 | y::ys=>by
  unfold ins;split
  ·exact .refl _
  ·exact((aNc x ys).cons y).trans (.swap x y ys)
theorem sortI_perm:∀l:List Int,(sortI l).Perm l
 |[]=>.refl _
 |x::xs=>(aNc x _).trans ((sortI_perm xs).cons x)
theorem aLr(x:Int):∀ {l:List Int},l.Pairwise (· <= ·)->(ins x l).Pairwise (· <= ·)
 |[],_=>by unfold ins;simp
 | y::ys,h=>by
  unfold ins;obtain⟨h1,h2⟩:=ck.mp h;split
  ·rename_i hxy
   exact ck.mpr ⟨fun z hz=>by
    rcases ae.mp hz with rfl |hz
    ·exact hxy
    ·exact fc hxy (h1 z hz),h⟩
  ·rename_i hxy;refine ck.mpr ⟨fun z hz=>?_,aLr x h2⟩;rcases ae.mp ((aNc x ys).mem_iff.mp hz) with rfl |hz
   ·lia
   ·exact h1 z hz
theorem aCb:∀l:List Int,(sortI l).Pairwise (· <= ·)
 |[]=>.nil
 |x::xs=>aLr x (aCb xs)
theorem aG8:∀ {a b:List Int},a.Pairwise (· <= ·)->b.Pairwise (· <= ·)->a.Perm b->a=b
 |[],b,_,_,p=>(p.nil_eq)
 |x::a,[],_,_,p=>by have:=p.length_eq;simp at this
 | x::a,y::b,ha,hb,p=>by
  obtain⟨ha1,ha2⟩:=ck.mp ha;obtain⟨hb1,hb2⟩:=ck.mp hb;have hxy:x<=y:=by
   rcases ae.mp (p.mem_iff.mpr (a7 ..)) with e |e
   ·lia
   ·exact ha1 y e
  have hyx:y<=x:=by
   rcases ae.mp (p.mem_iff.mp (a7 ..)) with e |e
   ·lia
   ·exact hb1 x e
  have:x=y:=by lia
  subst this;rw[aG8 ha2 hb2 ((List.perm_cons x).mp p)]
theorem aI3(p:a.Perm b)(h:a.Pairwise (· <= ·)):a=sortI b:=aG8 h (aCb b) (p.trans (sortI_perm b).symm)
theorem aKc:∀l:List Int,lexLt l l=false
 |[]=>rfl
 |x::xs=>by unfold lexLt;simp[aKc xs]
theorem aFp:∀ {a b c:List Int},lexLt a b=true->lexLt b c=true->lexLt a c=true
 |[],[],_,h,_=>by cases h
 |[],_::_,[],_,h=>by cases h
 |[],_::_,_::_,_,_=>rfl
 |_::_,[],_,h,_=>by cases h
 |_::_,_::_,[],_,h=>by cases h
 | x::xs,y::ys,z::zs,h,h'=>by
  unfold lexLt at h h' |-;by_cases e:x=y
  ·subst e;simp only[beq_self_eq_true,if_true] at h;by_cases e':x=z
   ·subst e';simp only[beq_self_eq_true,if_true] at h' |-;exact aFp h h'
   ·simp only[beq_iff_eq,e',if_false] at h' |-;exact h'
  ·simp only[beq_iff_eq,e,if_false,decide_eq_true_eq] at h;by_cases e':y=z
   ·subst e';simp only[beq_iff_eq,e,if_false,decide_eq_true_eq];exact h
   ·simp only[beq_iff_eq,e',if_false,decide_eq_true_eq] at h';have:¬x=z:=by lia
    simp only[beq_iff_eq,this,if_false,decide_eq_true_eq];lia
theorem aM2:∀ {a b:List Int},lexLt a b=false->lexLt b a=false->a=b
 |[],[],_,_=>rfl
 |[],_::_,h,_=>by cases h
 |_::_,[],_,h=>by cases h
 | x::xs,y::ys,h,h'=>by
  unfold lexLt at h h';by_cases e:x=y
  ·subst e;simp only[beq_self_eq_true,if_true] at h h';rw[aM2 h h']
  ·have e2:¬y=x:=fun z=>e z.symm;simp only[beq_iff_eq,e,e2,if_false,decide_eq_false_iff_not] at h h';lia
noncomputable def rank(nss:List ZB)(l:List Int):Nat:=nss.countP fun z=>lexLt z l
theorem aU9{α:Type}{p q:α->Bool}{y:α}:∀ {l:List α},(∀z,p z=true->q z=true)->y∈l->p y=false->q y=true->l.countP p<l.countP q
 |[],_,hy,_,_=>by simp at hy
 | x::xs,h,hy,h1,h2=>by
  have mono:xs.countP p<=xs.countP q:=iI fun z _ hz=>h z hz;rw[eI,eI];rcases ae.mp hy with rfl |hy
  ·rw[h1,h2];simp;lia
  ·have ih:=aU9 h hy h1 h2;by_cases e:p x=true
   ·rw[e,h x e];lia
   ·have:p x=false:=by cases z:p x<;>simp_all
    rw[this];simp;lia
theorem aJr(ha:a∈nss):decide (rank nss a<rank nss b)=lexLt a b:=by
 cases e:lexLt a b with
 | true =>
  have:=aU9 (l:=nss) (y:=a) (p:=fun z=>lexLt z a) (q:=fun z=>lexLt z b) (fun z hz=>aFp hz e) ha (aKc a) e;simp[rank,this]
 | false =>
  have:rank nss b<=rank nss a:=by
   unfold rank;refine iI fun z _ hz=>?_;cases e2:lexLt b a with
   |true=>exact aFp hz e2
   |false=>rw[aM2 e e2];exact hz
  simp;lia
theorem aKo(x:List Int):∀l,(insL x l).Perm (x::l)
 |[]=>.refl _
 | y::ys=>by
  unfold insL;split
  ·exact((aKo x ys).cons y).trans (.swap x y ys)
  ·exact .refl _
theorem aCp:∀l,(aC1 l).Perm l
 |[]=>.refl _
 |x::xs=>(aKo x (aC1 xs)).trans ((aCp xs).cons x)
noncomputable abbrev LeL(a b:List Int):Prop:=lexLt b a=false
theorem aYg(h:LeL a b)(h':LeL b c):LeL a c:=by
 cases e:lexLt c a with
 |false=>exact e
 | true =>
  cases e2:lexLt a b with
  |true=>have:=aFp e e2;rw[h'] at this;cases this
  |false=>have:=aM2 e2 h;subst this;rw[h'] at e;cases e
theorem aJw(x:List Int):∀ {l:List ZB},l.Pairwise LeL->(insL x l).Pairwise LeL
 |[],_=>by unfold insL;simp
 | y::ys,h=>by
  obtain⟨h1,h2⟩:=ck.mp h;unfold insL;split
  ·rename_i hxy;refine ck.mpr ⟨fun z hz=>?_,aJw x h2⟩;rcases ae.mp ((aKo x ys).mem_iff.mp hz) with rfl |hz
   ·cases e:lexLt z y with
    |false=>exact e
    |true=>have:=aFp hxy e;rw[aKc] at this;cases this
   ·exact h1 z hz
  ·rename_i hxy;have hxy:LeL x y:=by simpa using hxy
   exact ck.mpr ⟨fun z hz=>by
    rcases ae.mp hz with rfl |hz
    ·exact hxy
    ·exact aYg hxy (h1 z hz),h⟩
theorem aFi:∀l,(aC1 l).Pairwise LeL
 |[]=>.nil
 |x::xs=>aJw x (aFi xs)
theorem aLi:∀ {a b:List ZB},a.Pairwise LeL->b.Pairwise LeL->a.Perm b->a=b
 |[],b,_,_,p=>(p.nil_eq)
 |x::a,[],_,_,p=>by have:=p.length_eq;simp at this
 | x::a,y::b,ha,hb,p=>by
  obtain⟨ha1,ha2⟩:=ck.mp ha;obtain⟨hb1,hb2⟩:=ck.mp hb;have hxy:LeL x y:=by
   rcases ae.mp (p.mem_iff.mpr (a7 ..)) with e |e
   ·rw[e];exact aKc _
   ·exact ha1 y e
  have hyx:LeL y x:=by
   rcases ae.mp (p.mem_iff.mp (a7 ..)) with e |e
   ·rw[e];exact aKc _
   ·exact hb1 x e
  have:x=y:=aM2 hyx hxy;subst this;rw[aLi ha2 hb2 ((List.perm_cons x).mp p)]
theorem aMo(p:a.Perm b)(h:a.Pairwise LeL):a=aC1 b:=aLi h (aFi b) (p.trans (aCp b).symm)
noncomputable def pMax:Pr:=fun _ ts=>match ts with
 |[.lst xs]=>(intsOf xs).bind fun ns=>(aFs ns).map fun i=>(.int i,.fz)
 |_=>none
noncomputable def aG6:List (Ky × T)->Option ZB
 |[]=>some []
 |(_,.int v)::r=>(aG6 r).map (v :: ·)
 |_=>none
noncomputable def aNs:Pr:=fun _ ts=>match ts with
 |[.dic kvs]=>(aG6 kvs).bind fun ns=>if ns.length<100000/\(ns.all fun x=>decide (-1000000<=x)&&decide (x<=1000000)) then some (.int (sumI ns),.fz) else none
 |_=>none
noncomputable def aK9(n:Nat):List T->Option ZB
 |[.lst xs]=>(intsOf xs).bind fun ns=>if ns.length+1<4096 then some ns else none
 |[.tup xs]=>(intsOf xs).bind fun ns=>if ns.length+1<4096 then some ns else none
 |_=>none
noncomputable def aJm:Pr:=fun n ts=>(aK9 n ts).map fun ns=>(.lst ((sortI (aF5 ns)).map .int),.own)
noncomputable def pNeg:Pr:=fun _ ts=>match ts with
 |[.int a]=>some (.int (-a),.fz)
 |_=>none
noncomputable def aH4:T->Bool
 |.non=>true
 |.bl _=>true
 |.int _=>true
 |.str _=>true
 |_=>false
noncomputable def cntT(xs:List T)(y:T):Nat:=xs.countP fun x=>eqT x y
noncomputable def aFa(ns:List Int)(many:Nat):En:=some ZN::some (.town,.fz)::List.replicate (many - 2) none
noncomputable def dSl2(d:DE)(lo hi:DO):DE:=fun ρ n=>(d ρ n).bind fun x=>(lo ρ x.2.2).bind fun l=>(hi ρ l.2).bind fun h=>match x.1 with
 |.lst xs=>some (.lst (cutT xs l.1 h.1),.own,h.2)
 |.tup xs=>some (.tup (cutT xs l.1 h.1),.fz,h.2)
 |_=>none
noncomputable def pMax2:Pr:=fun _ ts=>match ts with
 |[.lst xs]=>(intsOf xs).bind fun ns=>(aFs ns).map fun i=>(.int i,.fz)
 |[.tup xs]=>(intsOf xs).bind fun ns=>(aFs ns).map fun i=>(.int i,.fz)
 |[.int a,.int b]=>some (.int (if b > a then b else a),.fz)
 |_=>none
noncomputable def aMk:Pr:=fun _ ts=>match ts with
 |[.tup xs]=>(intsOf xs).bind fun ns=>if ns.length<100000/\(ns.all fun x=>decide (x.natAbs<=10000000000000)) then some (.int (sumI ns),.fz) else none
 |[.lst xs]=>(intsOf xs).bind fun ns=>if ns.length<100000/\(ns.all fun x=>decide (x.natAbs<=10000000000000)) then some (.int (sumI ns),.fz) else none
 |_=>none
noncomputable def dRev(d:DE):DE:=fun ρ n=>(d ρ n).bind fun x=>match x.1 with
 |.lst xs=>some (.lst xs.reverse,.own,x.2.2)
 |.tup xs=>some (.tup xs.reverse,.fz,x.2.2)
 |_=>none
noncomputable def aFv(xs:List T):List T:=xs.zipIdx.map fun p=>.tup [.int p.2,p.1]
noncomputable def aJ5:Pr:=fun _ ts=>match ts with
 |[.lst xs]=>(intsOf xs).bind fun ns=>if ns.length<64 then some (.lst ((sortI ns).map .int),.own) else none
 |[.tup xs]=>(intsOf xs).bind fun ns=>if ns.length<64 then some (.lst ((sortI ns).map .int),.own) else none
 |_=>none
abbrev DV:=En->Nat->Option Nat
end L2.Ds
namespace L2.Ds
open PySem
def aZ6(d:DE):DI:=fun ρ n=>(d ρ n).bind fun r=>match r.1 with
 |.tup xs=>some (aFv xs,r.2.2)
 |_=>none
def pairT(l:List Int):T:=.tup [.int l.length,tupT l]
def enc:List ZB->List Int
 |[]=>[]
 |l::ls=>l.map (· + 1)++0::enc ls
def aUi:List Int->List Int->List ZB
 |_,[]=>[]
 |acc,x::r=>if x=0 then acc.reverse::aUi [] r else aUi ((x - 1)::acc) r
def dec(c:List Int):List ZB:=aUi [] c
def aF1:List T->Option (List (List ZB))
 |[]=>some []
 |t::r=>(rowsOf t).bind fun l=>(aF1 r).map (l :: ·)
def aGc(ls:List ZB):Bool:=!ls.isEmpty&&ls.all fun l=>l.all fun x=>decide (0<=x)
def aZ7:Pr:=fun _ ts=>match ts with
 |[.lst xs]=>(aF1 xs).bind fun ls=>if (ls.all aGc&&decide (ls.length<=big))=true then some (.lst ((aC1 (ls.map enc)).map fun c=>rwsT (dec c)),.own) else none
 |_=>none
theorem aPd:∀ (l acc r:List Int),(∀x∈l,0<=x)->aUi acc (l.map (· + 1)++0::r)=(acc.reverse++l)::aUi [] r
 |[],acc,r,_=>by simp[aUi]
 | x::l,acc,r,h=>by
  have h0:=h x (a7 ..);have n:¬x+1=0:=by omega
  have e:x+1 - 1=x:=by omega
  rw[a8,eJ,aUi,if_neg n,e,aPd l (x::acc) r fun y hy=>h y (a6 _ hy)];simp
theorem dec_enc:∀ (ls:List ZB),(∀l∈ls,∀x∈l,0<=x)->dec (enc ls)=ls
 |[],_=>rfl
 |l::ls,h=>by have ih:=dec_enc ls fun l' h'=>h l' (a6 _ h');unfold dec at *;rw[enc,aPd l [] _ (h l (a7 ..)),ih];simp
theorem aL5(h:aGc ls=true):ls ≠ []/\∀l∈ls,∀x∈l,0<=x:=by unfold aGc at h;rw[bq,br] at h;refine⟨fun z=>by rw[z] at h;simp at h,fun l hl x hx=>?_⟩;have:=br.mp (h.2 l hl) x hx;simpa using this
def aZ5(d:DE):DI:=fun ρ n=>(d ρ n).bind fun r=>match r.1,r.2.1 with
 |.lst xs,.fz=>some (aFv xs,r.2.2)
 |_,_=>none
def pEqE:Pr:=fun n ts=>match ts with
 |[.non,.dic []]=>some (.bl false,.fz)
 |ts=>pEq n ts
end L2.Ds
namespace L2.Ds
open PySem PySem.Spec PyProof.Rows
section
variable (tw:Addr)(H:Hp)
mutual
def Rep:T->V->Prop
 |.non,v=>v = .non
 |.bl b,v=>v = .bl b
 |.int i,v=>v = .int i
 |.str x,v=>v = .str x
 |.tup xs,v=>∃a vs,v = .ref a/\H a=some (.tup vs)/\Reps xs vs
 |.lst xs,v=>∃a o vs,v = .ref a/\H a=some (.frz o (.lst vs))/\Reps xs vs
 |.dic kvs,v=>∃a o ws,v = .ref a/\H a=some (.frz o (.dK ws))/\RepK kvs ws
 |.town,v=>v = .ref tw
 |.ob a,v=>v = .ref a
 |.rdc ks,v=>∃a o ws,v = .ref a/\H a=some (.frz o (.dR ws))/\ks=ws.map (·.1)
def Reps:List T->List V->Prop
 |[],vs=>vs = []
 |x::xs,vs=>∃v r,vs=v::r/\Rep x v/\Reps xs r
def RepK:List (Key × T)->List (Key × V)->Prop
 |[],ws=>ws = []
 |(k,x)::xs,ws=>∃v r,ws=(k,v)::r/\Rep x v/\RepK xs r
end
end
def Fx(H H':Hp):Prop:=∀a,(∀vs,H a=some (.tup vs)->H' a=some (.tup vs))/\∀o u,H a=some (.frz o u)->H' a=some (.frz o u)
structure Ext (tw:Addr) (H H':Hp):Prop where
 to:∀a o,H a=some o->a≠tw->H' a=some o
def Tn(tw:Addr)(n:Nat)(H:Hp):Prop:=H tw=some (.lst (List.replicate n (.int 0)))
theorem Fx.refl(H:Hp):Fx H H:=fun _=>⟨fun _ h=>h,fun _ _ h=>h⟩
theorem Fx.trans(a:Fx H H1)(b:Fx H1 H2):Fx H H2:=fun x=>⟨fun vs h=>(b x).1 vs ((a x).1 vs h),fun o u h=>(b x).2 o u ((a x).2 o u h)⟩
theorem Ext.refl(tw:Addr)(H:Hp):Ext tw H H:=⟨fun _ _ h _=>h⟩
theorem Ext.trans(a:Ext tw H H1)(b:Ext tw H1 H2):Ext tw H H2:=⟨fun x o h n=>b.to x o (a.to x o h n) n⟩
theorem Ext.all(k:∀a o,H a=some o->H' a=some o):Ext tw H H':=⟨fun a o h _=>k a o h⟩
theorem Ext.put(e:Ext tw B H)(hB:B a=none):Ext tw B (upd H a o):=⟨fun b u q nb=>by rw[aAk (by rintro rfl;rw[hB] at q;cases q)];exact e.to b u q nb⟩
theorem Tn.ne_tup{n:Nat}(t:Tn tw n H)(h:H a=some (.tup vs)):a≠tw:=by intro e;subst e;rw[Tn] at t;rw[t] at h;cases h
theorem Tn.ne_frz{n:Nat}(t:Tn tw n H)(h:H a=some (.frz o u)):a≠tw:=by intro e;subst e;rw[Tn] at t;rw[t] at h;cases h
theorem Ext.fx{n:Nat}(t:Tn tw n H)(e:Ext tw H H'):Fx H H':=fun a =>
 ⟨fun vs h=>e.to a _ h (t.ne_tup h),fun o u h=>e.to a _ h (t.ne_frz h)⟩
theorem Fx.new(h:H p=none):Fx H (upd H p o):=fun a =>
 ⟨fun vs e=>by rw[aAk (aBo e h)];exact e,fun _ _ e=>by rw[aAk (aBo e h)];exact e⟩
theorem Ext.new(h:H p=none):Ext tw H (upd H p o):=.all fun a u e=>by rw[aAk (aBo e h)];exact e
theorem Tn.new{n:Nat}(t:Tn tw n H)(h:H p=none):Tn tw n (upd H p o):=by unfold Tn at *;rw[aAk (aBo t h)];exact t
mutual
theorem Rep.mono(h:Fx H H'):∀ (t:T) (v:V),Rep tw H t v->Rep tw H' t v
 |.non,v,r=>by simpa[Rep] using r
 |.bl b,v,r=>by simpa[Rep] using r
 |.int i,v,r=>by simpa[Rep] using r
 |.str x,v,r=>by simpa[Rep] using r
 |.town,v,r=>by simpa[Rep] using r
 |.ob a,v,r=>by simpa[Rep] using r
 |.rdc ks,v,r=>by rw[Rep] at r |-;obtain⟨a,o,ws,e,p,q⟩:=r;exact⟨a,o,ws,e,(h a).2 _ _ p,q⟩
 |.tup xs,v,r=>by rw[Rep] at r |-;obtain⟨a,vs,e,p,q⟩:=r;exact⟨a,vs,e,(h a).1 _ p,Reps.mono h xs vs q⟩
 |.lst xs,v,r=>by rw[Rep] at r |-;obtain⟨a,o,vs,e,p,q⟩:=r;exact⟨a,o,vs,e,(h a).2 _ _ p,Reps.mono h xs vs q⟩
 |.dic xs,v,r=>by rw[Rep] at r |-;obtain⟨a,o,vs,e,p,q⟩:=r;exact⟨a,o,vs,e,(h a).2 _ _ p,RepK.mono h xs vs q⟩
theorem Reps.mono(h:Fx H H'):∀ (t:List T) (v:List V),Reps tw H t v->Reps tw H' t v
 |[],v,r=>by rw[Reps] at r |-;exact r
 |x::xs,v,r=>by rw[Reps] at r |-;obtain⟨w,rr,e,p,q⟩:=r;exact⟨w,rr,e,Rep.mono h x w p,Reps.mono h xs rr q⟩
theorem RepK.mono(h:Fx H H'):∀ (t:List (Key × T)) (v:List (Key × V)),RepK tw H t v->RepK tw H' t v
 |[],v,r=>by rw[RepK] at r |-;exact r
 |(k,x)::xs,v,r=>by rw[RepK] at r |-;obtain⟨w,rr,e,p,q⟩:=r;exact⟨w,rr,e,Rep.mono h x w p,RepK.mono h xs rr q⟩
end
section
variable {tw:Addr}{H:Hp}
theorem aA3(r:Reps tw H [] vs):vs = []:=by rw[Reps] at r;exact r
theorem aAm(r:Reps tw H (x::xs) vs):∃v w,vs=v::w/\Rep tw H x v/\Reps tw H xs w:=by rw[Reps] at r;exact r
theorem Reps.nil:Reps tw H [] []:=by rw[Reps]
theorem Reps.cons{x:T}{v:V}{xs:List T}{vs:List V}(a:Rep tw H x v)(b:Reps tw H xs vs):Reps tw H (x::xs) (v::vs):=by rw[Reps];exact⟨v,vs,rfl,a,b⟩
theorem Reps.length:∀ {xs:List T} {vs:List V},Reps tw H xs vs->xs.length=vs.length
 |[],_,r=>by rw[aA3 r];rfl
 |_::xs,_,r=>by obtain⟨v,w,rfl,_,q⟩:=aAm r;rw[aa,aa,Reps.length q]
theorem Reps.get:∀ {xs:List T} {vs:List V} {i:Nat} {x:T},Reps tw H xs vs->xs[i]?=some x->∃v,vs[i]?=some v/\Rep tw H x v
 |[],_,_,_,_,e=>by simp at e
 |y::xs,_,0,x,r,e=>by obtain⟨v,w,rfl,p,q⟩:=aAm r;simp at e;subst e;exact⟨v,rfl,p⟩
 |y::xs,_,i+1,x,r,e=>by obtain⟨v,w,rfl,p,q⟩:=aAm r;obtain⟨u,h1,h2⟩:=Reps.get (i:=i) (x:=x) q (by simpa using e);exact⟨u,by simpa using h1,h2⟩
theorem Reps.append:∀ {xs ys:List T} {vs ws:List V},Reps tw H xs vs->Reps tw H ys ws->Reps tw H (xs++ys) (vs++ws)
 |[],_,_,_,r,s=>by rw[aA3 r];exact s
 |x::xs,ys,_,ws,r,s=>by obtain⟨v,w,rfl,p,q⟩:=aAm r;exact .cons p (Reps.append q s)
theorem Reps.take:∀ {xs:List T} {vs:List V} (n:Nat),Reps tw H xs vs->Reps tw H (xs.take n) (vs.take n)
 |_,_,0,_=>by simp;exact .nil
 |[],_,_+1,r=>by rw[aA3 r];exact .nil
 |x::xs,_,n+1,r=>by obtain⟨v,w,rfl,p,q⟩:=aAm r;exact .cons p (Reps.take n q)
theorem Reps.drop:∀ {xs:List T} {vs:List V} (n:Nat),Reps tw H xs vs->Reps tw H (xs.drop n) (vs.drop n)
 |_,_,0,r=>r
 |[],_,_+1,r=>by rw[aA3 r];exact .nil
 |x::xs,_,n+1,r=>by obtain⟨v,w,rfl,p,q⟩:=aAm r;exact Reps.drop n q
theorem Reps.set(a:Rep tw H x v):∀ {xs:List T} {vs:List V} (i:Nat),Reps tw H xs vs->Reps tw H (xs.set i x) (vs.set i v)
 |[],_,_,r=>by rw[aA3 r];exact .nil
 |y::xs,_,0,r=>by obtain⟨v',w,rfl,p,q⟩:=aAm r;exact .cons a q
 |y::xs,_,i+1,r=>by obtain⟨v',w,rfl,p,q⟩:=aAm r;exact .cons p (Reps.set a i q)
theorem Reps.reverse(r:Reps tw H xs vs):Reps tw H xs.reverse vs.reverse:=by
 induction xs generalizing vs with
 |nil=>rw[aA3 r];exact .nil
 | cons x xs ih =>
  obtain⟨v,w,rfl,p,q⟩:=aAm r;rw[fT,fT];exact(ih q).append (.cons p .nil)
theorem Reps.rep(r:Reps tw H xs vs):∀k:Nat,Reps tw H (List.replicate k xs).flatten (List.replicate k vs).flatten
 |0=>.nil
 |k+1=>by rw[dW,dW,eV,eV];exact r.append (Reps.rep r k)
theorem Reps.ints(ns:List Int):Reps tw H (ns.map T.int) (ns.map V.int):=by
 induction ns with
 |nil=>exact .nil
 |cons n ns ih=>exact .cons (by rw[Rep]) ih
theorem aCu:∀ {ns:List Int} {vs:List V},Reps tw H (ns.map T.int) vs->vs=ns.map V.int
 |[],_,r=>aA3 r
 |n::ns,_,r=>by obtain⟨v,w,rfl,p,q⟩:=aAm r;rw[Rep] at p;rw[p,aCu q];rfl
end
def SqR(K:PySem.W.Frag)(tw:Addr)(H:Hp)(a:Addr)(vs:List V):Prop :=
 (a≠tw/\Rd H a (.lst vs)) \/
  (∃ (o:Obj) (its:Array Value) (n:Nat),K.lookup a=some o/\o.cls = .type "list" /\ o.dict=none/\o.data = .seq its n/\its.size<=jU/\Vals vs its.toList)\/(a≠tw/\H a=some (.tol vs))
theorem SqR.sq{K:PySem.W.Frag}{tw:Addr}{H:Hp}{a:Addr}{vs:List V}(h:SqR K tw H a vs):SqL K H a vs:=h.imp (·.2) fun z=>z.imp id (·.2)
theorem SqR.ext{K:PySem.W.Frag}{tw:Addr}{H H':Hp}{a:Addr}{vs:List V}(e:Ext tw H H')(h:SqR K tw H a vs):SqR K tw H' a vs:=by
 rcases h with ⟨n,h⟩ |h |⟨n,h⟩
 ·rcases h with h |⟨o,h⟩
  ·exact .inl ⟨n,.inl (e.to a _ h n)⟩
  ·exact .inl ⟨n,.inr ⟨o,e.to a _ h n⟩⟩
 ·exact .inr (.inl h)
 ·exact .inr (.inr ⟨n,e.to a _ h n⟩)
def Root(K:PySem.W.Frag)(tw:Addr)(H:Hp):T->V->Prop
 |.lst xs,v=>∃a vs,v = .ref a/\SqR K tw H a vs/\Reps tw H xs vs
 |.dic kvs,v=>∃a ws,v = .ref a/\a≠tw/\Rd H a (.dK ws)/\RepK tw H kvs ws
 |.rdc ks,v=>∃a ws,v = .ref a/\a≠tw/\Rd H a (.dR ws)/\ks=ws.map (·.1)
 |t,v=>Rep tw H t v
def aK3(tw:Addr)(H:Hp)(a:Addr):T->Prop
 |.lst xs=>∃vs,H a=some (.lst vs)/\Reps tw H xs vs
 |.dic kvs=>∃ws,H a=some (.dK ws)/\RepK tw H kvs ws
 |.rdc ks=>∃ws,H a=some (.dR ws)/\ks=ws.map (·.1)
 |_=>False
section
variable {K:PySem.W.Frag}{tw:Addr}{H H':Hp}{n:Nat}
theorem Root.of_rep(tn:Tn tw n H)(r:Rep tw H t v):Root K tw H t v:=by
 cases t with
 | lst xs =>
  rw[Rep] at r;obtain⟨a,o,vs,e,h,q⟩:=r;exact⟨a,vs,e,.inl ⟨tn.ne_frz h,.inr ⟨o,h⟩⟩,q⟩
 | dic kvs =>
  rw[Rep] at r;obtain⟨a,o,ws,e,h,q⟩:=r;exact⟨a,ws,e,tn.ne_frz h,.inr ⟨o,h⟩,q⟩
 | rdc ks =>
  rw[Rep] at r;obtain⟨a,o,ws,e,h,q⟩:=r;exact⟨a,ws,e,tn.ne_frz h,.inr ⟨o,h⟩,q⟩
 |_=>exact r
theorem Root.rep(b:aDr t=false)(r:Root K tw H t v):Rep tw H t v:=by
 cases t with
 |lst xs=>cases b
 |dic kvs=>cases b
 |rdc ks=>cases b
 |_=>exact r
theorem Root.ext(tn:Tn tw n H)(e:Ext tw H H')(r:Root K tw H t v):Root K tw H' t v:=by
 cases t with
 | lst xs =>
  obtain⟨a,vs,e',h,q⟩:=r;exact⟨a,vs,e',h.ext e,Reps.mono (e.fx tn) _ _ q⟩
 | dic kvs =>
  obtain⟨a,ws,e',na,h,q⟩:=r;refine⟨a,ws,e',na,?_,RepK.mono (e.fx tn) _ _ q⟩;rcases h with h |⟨o,h⟩
  ·exact .inl (e.to a _ h na)
  ·exact .inr ⟨o,e.to a _ h na⟩
 | rdc ks =>
  obtain⟨a,ws,e',na,h,q⟩:=r;refine⟨a,ws,e',na,?_,q⟩;rcases h with h |⟨o,h⟩
  ·exact .inl (e.to a _ h na)
  ·exact .inr ⟨o,e.to a _ h na⟩
 |_=>exact Rep.mono (e.fx tn) _ _ r
theorem aK3.root(na:a≠tw)(h:aK3 tw H a t):Root K tw H t (.ref a):=by
 cases t with
 | lst xs =>
  obtain⟨vs,e,q⟩:=h;exact⟨a,vs,rfl,.inl ⟨na,.inl e⟩,q⟩
 | dic kvs =>
  obtain⟨ws,e,q⟩:=h;exact⟨a,ws,rfl,na,.inl e,q⟩
 | rdc ks =>
  obtain⟨ws,e,q⟩:=h;exact⟨a,ws,rfl,na,.inl e,q⟩
 |_=>exact h.elim
theorem aK3.ext(na:a≠tw)(tn:Tn tw n H)(e:Ext tw H H')(h:aK3 tw H a t):aK3 tw H' a t:=by
 cases t with
 | lst xs =>
  obtain⟨vs,e',q⟩:=h;exact⟨vs,e.to a _ e' na,Reps.mono (e.fx tn) _ _ q⟩
 | dic kvs =>
  obtain⟨ws,e',q⟩:=h;exact⟨ws,e.to a _ e' na,RepK.mono (e.fx tn) _ _ q⟩
 | rdc ks =>
  obtain⟨ws,e',q⟩:=h;exact⟨ws,e.to a _ e' na,q⟩
 |_=>exact h.elim
theorem aK3.some(h:aK3 tw H a t):H a≠none:=by
 intro z;cases t with
 | lst xs =>
  obtain⟨vs,e',q⟩:=h;rw[z] at e';cases e'
 | dic kvs =>
  obtain⟨ws,e',q⟩:=h;rw[z] at e';cases e'
 | rdc ks =>
  obtain⟨ws,e',q⟩:=h;rw[z] at e';cases e'
 |_=>exact h.elim
end
structure Rel (K:PySem.W.Frag) (B:Hp) (tw:Addr) (ρ:En) (n:Nat) (O:St) (H:Hp):Prop where
 ext:Ext tw B H
 tn:Tn tw n H
 btn:∃n0,Tn tw n0 B
 len:ρ.length=O.length
 fz:∀ (i:Nat) (t:T),ρ[i]?=some (some (t,.fz))->∃v,O[i]?=some (some v)/\Rep tw H t v
 bor:∀ (i:Nat) (t:T),ρ[i]?=some (some (t,.bor))->∃v,O[i]?=some (some v)/\Root K tw B t v
 own:∀ (i:Nat) (t:T),ρ[i]?=some (some (t,.own))->∃a,O[i]?=some (some (.ref a))/\B a=none/\aK3 tw H a t
 nol:∀ (i:Nat) (t:T),ρ[i]?≠some (some (t,.lent))
 dis:∀ (i j:Nat) (t t':T) (a:Addr),ρ[i]?=some (some (t,.own))->ρ[j]?=some (some (t',.own))->O[i]?=some (some (.ref a))->O[j]?=some (some (.ref a))->i=j
def Val(K:PySem.W.Frag)(B:Hp)(tw:Addr)(H0 H:Hp)(t:T)(m:Md)(v:V):Prop :=
 match m with
 |.fz=>Rep tw H t v
 |.bor=>Root K tw B t v
 |.lent=>Root K tw H t v
 |.own=>∃a,v = .ref a/\H0 a=none/\aK3 tw H a t
section
variable {K:PySem.W.Frag}{B:Hp}{tw:Addr}{ρ:En}{n n' n0:Nat}{O:St}{H H' H0 H1:Hp}{t:T}{m:Md}{v:V}
theorem Tn.ne_none(tn:Tn tw n H)(h:H a=none):a≠tw:=fun e=>by subst e;unfold Tn at tn;rw[h] at tn;cases tn
theorem Ext.free(e:Ext tw H0 H)(tn:Tn tw n H)(h:H a=none):H0 a=none:=by
 cases z:H0 a with
 |none=>rfl
 |some o=>have:=e.to a o z (tn.ne_none h);rw[h] at this;cases this
theorem Rel.own_ne(R:Rel K B tw ρ n O H)(h:B a=none):a≠tw:=let ⟨_,b⟩:=R.btn;b.ne_none h
theorem Rel.mono(R:Rel K B tw ρ n O H)(e:Ext tw H H')(tn':Tn tw n' H'):Rel K B tw ρ n' O H' :=
 ⟨R.ext.trans e,tn',R.btn,R.len,fun i t h=>let ⟨v,h1,h2⟩:=R.fz i t h;⟨v,h1,Rep.mono (e.fx R.tn) _ _ h2⟩,R.bor,
  fun i t h=>let ⟨a,h1,h2,h3⟩:=R.own i t h;⟨a,h1,h2,h3.ext (R.own_ne h2) R.tn e⟩,R.nol,R.dis⟩
theorem Val.back(e:Ext tw H0 H1)(h1:Tn tw n H1)(h:Val K B tw H1 H t m v):Val K B tw H0 H t m v:=by
 cases m with
 |fz=>exact h
 |bor=>exact h
 |lent=>exact h
 | own =>
  obtain⟨a,q1,q2,q3⟩:=h;exact⟨a,q1,e.free h1 q2,q3⟩
theorem Val.root(R:Rel K B tw ρ n O H)(h0:Tn tw n0 H0)(h:Val K B tw H0 H t m v):Root K tw H t v:=by
 cases m with
 |fz=>exact Root.of_rep R.tn h
 |bor=>exact let ⟨_,b⟩:=R.btn;Root.ext (v:=v) b R.ext h
 |lent=>exact h
 | own =>
  obtain⟨a,rfl,q2,q3⟩:=h;exact q3.root (h0.ne_none q2)
end
inductive Roots (K:PySem.W.Frag) (tw:Addr) (H:Hp):List T->List V->Prop
 |nil:Roots K tw H [] []
 |cons {t:T} {v:V} {ts:List T} {vs:List V}:Root K tw H t v->Roots K tw H ts vs->Roots K tw H (t::ts) (v::vs)
def rE(K:PySem.W.Frag)(B:Hp)(tw:Addr)(ρ:En)(n:Nat)(t:T)(m:Md)(n':Nat):TE:=fun O H Q =>
 Rel K B tw ρ n O H/\∀v H',Ext tw H H'->Tn tw n' H'->Val K B tw H H' t m v->Q v H'
def rA(K:PySem.W.Frag)(B:Hp)(tw:Addr)(ρ:En)(n:Nat)(ts:List T)(n':Nat):TA:=fun O H Q =>
 Rel K B tw ρ n O H/\∀vs H',Ext tw H H'->Tn tw n' H'->Roots K tw H' ts vs->Q vs H'
def KF(K:PySem.W.Frag)(B:Hp)(tw:Addr)(f:Fl)(ρ':En)(n':Nat)(D:Ends)(H:Hp):Prop:=match f with
  |.nx=>∀σ' H',Fx H H'->Rel K B tw ρ' n' σ' H'->D.nx σ' H'
  |.bk=>∀σ' H',Fx H H'->Rel K B tw ρ' n' σ' H'->D.bk σ' H'
  |.ct=>∀σ' H',Fx H H'->Rel K B tw ρ' n' σ' H'->D.ct σ' H'
  |.rt t m=>∀v H',Fx H H'->Ext tw B H'->Tn tw n' H'->Val K B tw B H' t (md m) v->D.rt v H'
theorem KF.fx{K:PySem.W.Frag}{B:Hp}{tw:Addr}{f:Fl}{ρ':En}{n':Nat}{D:Ends}{H H1:Hp}(e:Fx H H1)(h:KF K B tw f ρ' n' D H):KF K B tw f ρ' n' D H1:=by
 cases f with
 |nx=>exact fun σ' H' x y=>h σ' H' (e.trans x) y
 |bk=>exact fun σ' H' x y=>h σ' H' (e.trans x) y
 |ct=>exact fun σ' H' x y=>h σ' H' (e.trans x) y
 |rt t m=>exact fun v H' x y z w=>h v H' (e.trans x) y z w
def rS(K:PySem.W.Frag)(B:Hp)(tw:Addr)(ρ:En)(n:Nat)(f:Fl)(ρ':En)(n':Nat):TS:=fun D O H =>
 Rel K B tw ρ n O H/\KF K B tw f ρ' n' D H
def SE(X:Cx)(tw:Addr)(e:Expr)(d:DE):Prop:=∀B ρ n t m n',d ρ n=some (t,m,n')->PE X e (rE X.K B tw ρ n t m n')
def SA(X:Cx)(tw:Addr)(es:List Expr)(d:DA):Prop:=∀B ρ n ts n',d ρ n=some (ts,n')->PA X es (rA X.K B tw ρ n ts n')
def SS(X:Cx)(tw:Addr)(st:Stmt)(d:DS):Prop:=∀B ρ n f ρ' n',d ρ n=some (f,ρ',n')->PS X st (rS X.K B tw ρ n f ρ' n')
def SSs(X:Cx)(tw:Addr)(st:List Stmt)(d:DS):Prop:=∀B ρ n f ρ' n',d ρ n=some (f,ρ',n')->PSs X st (rS X.K B tw ρ n f ρ' n')
section
variable {X:Cx}{tw:Addr}
theorem aAb(i:Nat){x:Str}{pos:Pos}(hN:autoParam (X.N[i]?=some x) lZ)(hv:autoParam (Vis X.env.scope x) az7._auto_1)(hd:autoParam ZO l5)
  (hcd:autoParam ((x==("__classdict__" : Str))=false) l5):SE X tw (.Name x pos) (dVar i):=by
 intro B ρ n t m n' h pins s O H Q I ⟨R,k⟩;unfold dVar at h;cases e:ρ[i]? with
 |none=>rw[e] at h;cases h
 | some o =>
  cases o with
  |none=>rw[e] at h;cases h
  | some p =>
   obtain⟨t',m'⟩:=p;rw[e] at h;have h:some (t',look m' t',n)=some (t,m,n'):=h;cases h;have fin:∃v,O[i]?=some (some v)/\Val X.K B tw H H t (look m' t) v:=by
    cases m' with
    |fz=>exact R.fz i t e
    | lent =>
     cases t with
     |_=>exact absurd e (R.nol i _)
    | bor =>
     obtain⟨v,h1,h2⟩:=R.bor i t e;refine⟨v,h1,?_⟩;unfold look;cases b:aDr t with
     |true=>exact h2
     |false=>exact let ⟨_,bt⟩:=R.btn;Rep.mono (R.ext.fx bt) _ _ (h2.rep b)
    | own =>
     obtain⟨a,h1,h2,h3⟩:=R.own i t e;refine⟨.ref a,h1,?_⟩;unfold look;cases b:aDr t with
     |true=>exact h3.root (R.own_ne h2)
     |false=>cases t<;>first |exact(show False from h3).elim |cases b
   obtain⟨v,h1,h2⟩:=fin;exact aIl hN hv hd hcd pins s O H Q I ⟨v,h1,k v H (.refl _ _) R.tn h2⟩
theorem se_k{e:Expr}{t:T}{v:V}(h:PE X e (tC v))(r:∀H,Rep tw H t v):SE X tw e (dK t):=by intro B ρ n t' m n' hd pins s O H Q I ⟨R,k⟩;cases hd;exact h pins s O H Q I (k v H (.refl _ _) R.tn (r H))
theorem aAg{i:Int}{j pos}:SE X tw (.Constant (.int i) j pos) (dK (.int i)):=se_k aU6 fun _=>by rw[Rep]
theorem aI1{b:Bool}{j pos}:SE X tw (.Constant (.bool b) j pos) (dK (.bl b)):=se_k pe_bl fun _=>by rw[Rep]
theorem se_non{j pos}:SE X tw (.Constant .none j pos) (dK .non):=se_k pe_non fun _=>by rw[Rep]
theorem aDu{x:Str}{i:Int}{t:Tok}{pos:Pos}(hm:X.mg x=some (.int i t))(hg:autoParam (Gl X x) lZ)(hd:autoParam ZO l5):SE X tw (.Name x pos) (dK (.int i)) :=
 se_k (pe_glob hg hm (v:=.int i) ⟨t,rfl⟩ hd) fun _=>by rw[Rep]
end
section
variable {X:Cx}{pins:List ZL}{O:St}{H:Hp}{s:jR}{a:Addr}{u:HO}{tw:Addr}
theorem _root_.L2.Inv.freeze(I:Inv X pins O H s)(h:H a=some u)(hu:(∃xs,u = .lst xs)\/(∃kvs,u = .dK kvs)\/∃ks,u = .dR ks):∃o,Inv X pins O (upd H a (.frz o u)) s:=by
 have ok:=I.hok a u h;have ⟨o,ho⟩:∃o,s.heap.get? a=some o:=by
  rcases hu with ⟨xs,rfl⟩ |⟨kvs,rfl⟩ |⟨ks,rfl⟩
  ·obtain⟨_,its,n,_,e⟩:=ok;exact⟨_,e⟩
  ·obtain⟨_,_,_,_,o,_,_,e,_⟩:=ok;exact⟨_,e⟩
  ·obtain⟨_,_,_,_,o,_,_,e,_⟩:=ok;exact⟨_,e⟩
 have ntup:∀b xs,H b=some (.tup xs)->b≠a:=fun b xs e z=>by subst z;rw[h] at e;cases e;rcases hu with ⟨_,q⟩ |⟨_,q⟩ |⟨_,q⟩<;>cases q
 have nfrz:∀b o' u',H b=some (.frz o' u')->b≠a:=fun b o' u' e z=>by subst z;rw[h] at e;cases e;rcases hu with ⟨_,q⟩ |⟨_,q⟩ |⟨_,q⟩<;>cases q
 have hn:∀b,H b=none->b≠a:=fun b e z=>by subst z;rw[h] at e;cases e
 have hok:HOk X.prog X.w (upd H a (.frz o u)) s.heap:=fun b w' e=>by
  have st:∀ (c:Addr) (w':HO),aBz X.prog X.w H s.heap c w'->aBz X.prog X.w (upd H a (.frz o u)) s.heap c w':=fun c w' q =>
   q.stay (fun _ z=>z) fun c' xs q'=>by rw[aAk (ntup c' xs q')];exact q'
  by_cases hb:b=a
  ·subst hb;rw[aAj] at e;cases e;exact⟨ho,st _ _ ok⟩
  ·rw[aAk hb] at e;exact st _ _ (I.hok b w' e)
 refine⟨o,?_⟩
 have un:Un X.fs [] H (upd H a (.frz o u)) s.heap s.heap:=⟨fun b ob e _ _ _=>e,fun b ob e _ _ _=>⟨ob.slots,e⟩,fun b ob e n _=>by rw[aAk (hn b n)];exact n,fun b ob e _=>⟨ob,e⟩,
  fun b xs e=>by rw[aAk (ntup b xs e)];exact e,fun b o' u' e=>by rw[aAk (nfrz b o' u' e)];exact e⟩
 exact I.un (h':=s.heap) (t':=s.toks) un hok
theorem Fx.frz{o:Obj}(h:H a=some u)(hu:(∃xs,u = .lst xs)\/(∃kvs,u = .dK kvs)\/∃ks,u = .dR ks):Fx H (upd H a (.frz o u)):=fun b =>
 ⟨fun vs e=>by rw[aAk (by rintro rfl;rw[h] at e;cases e;rcases hu with ⟨_,q⟩ |⟨_,q⟩ |⟨_,q⟩<;>cases q)];exact e,
  fun o' u' e=>by rw[aAk (by rintro rfl;rw[h] at e;cases e;rcases hu with ⟨_,q⟩ |⟨_,q⟩ |⟨_,q⟩<;>cases q)];exact e⟩
end
theorem aMn(h:∀y∈scope.names,y.2 = .free->∃c,env.cells.lookup y.1=some c) :
  ∃cl,closureFor scope env=pure cl/\(∀x c,cl.lookup x=some c->env.cells.lookup x=some c)/\∀y∈scope.names,y.2 = .free->∃c,cl.lookup y.1=some c:=by
 have key:∀ (names:List (Str × lD)) (acc:List (Str × Addr)),(∀y∈names,y.2 = .free->∃c,env.cells.lookup y.1=some c)->(∀x c,acc.lookup x=some c->env.cells.lookup x=some c) ->
   ∃cl,(forIn names acc fun x cs=>match x with
    |(name,kind)=>if (kind == .free)=true then (cellOf env name >>= fun c=>pure (ForInStep.yield ((name,c)::cs))) else pure (ForInStep.yield cs):Sem (List (Str × Addr)))=pure cl /\
    (∀x c,cl.lookup x=some c->env.cells.lookup x=some c)/\(∀x c,acc.lookup x=some c->∃c',cl.lookup x=some c')/\∀y∈names,y.2 = .free->∃c,cl.lookup y.1=some c:=by
  intro names
  induction names with
  |nil=>intro acc _ ha;exact⟨acc,rfl,ha,fun x c e=>⟨c,e⟩,fun y hy=>nomatch hy⟩
  | cons z r ih =>
   intro acc hn ha;obtain⟨nm,kd⟩:=z;by_cases hk:(kd==NameKind.free)=true
   ·have hk':kd = .free:=by simpa using hk
    obtain⟨c,hc⟩:=hn (nm,kd) a7 hk';have hc:env.cells.lookup nm=some c:=hc
    obtain⟨cl,e,h1,h2,h3⟩:=ih ((nm,c)::acc) (fun y hy=>hn y (a6 _ hy)) (fun x c' e=>by
     rw[eK] at e;split at e
     ·rename_i q;have q:x=nm:=by simpa using q
      cases e;rw[q];exact hc
     ·exact ha x c' e)
    refine⟨cl,?_,h1,fun x c' q=>?_,fun y hy hf=>?_⟩
    ·rw[List.forIn_cons];simp only[hk,if_true];have e1:cellOf env nm=pure c:=by unfold cellOf;rw[hc]
     rw[e1];exact e
    ·by_cases hx:x=nm
     ·subst hx;exact h2 x c (by simp[eK])
     ·exact h2 x c' (by rw[eK,show (x==nm)=false by simpa using hx];exact q)
    ·rcases ae.mp hy with rfl |hy
     ·exact h2 nm c (by simp[eK])
     ·exact h3 y hy hf
   ·obtain⟨cl,e,h1,h2,h3⟩:=ih acc (fun y hy=>hn y (a6 _ hy)) ha;refine⟨cl,?_,h1,h2,fun y hy hf=>?_⟩
    ·rw[List.forIn_cons];simp only[hk];exact e
    ·rcases ae.mp hy with rfl |hy
     ·exact absurd (by simpa using hf) (by simpa using hk)
     ·exact h3 y hy hf
 obtain⟨cl,e,h1,_,h3⟩:=key scope.names [] h (fun x c e=>by simp at e);refine⟨cl,?_,h1,h3⟩;unfold closureFor;dsimp only;rw[e];rfl
theorem aCs{env:Env}:∀ {names:List (Str × lD)} {x:Str} {k:lD},
  (names.map fun (n,k)=>if (k==NameKind.free&&env.scope.kind == .function&&env.kindOf n==some .cell) then (n,NameKind.cell) else (n,k)).lookup x=some k ->
  names.lookup x=some k\/(names.lookup x=some .free/\k = .cell)
 |[],_,_,h=>by simp at h
 | (n,k0)::r,x,k,h=>by
  have ih:=@aCs env r x k;have h2:List.lookup x ((if (k0==NameKind.free&&env.scope.kind == .function&&env.kindOf n==some .cell)=true then (n,NameKind.cell) else (n,k0))::(r.map fun (n,k)=>if (k==NameKind.free&&env.scope.kind == .function&&env.kindOf n==some .cell)=true then (n,NameKind.cell) else (n,k)))=some k:=h;clear h;cases hx:x==n with
  | true =>
   by_cases hc:(k0==NameKind.free&&env.scope.kind == .function&&env.kindOf n==some .cell)=true
   ·rw[if_pos hc] at h2;simp only[eK,hx] at h2 |-;have e0:k0 = .free:=by simp only[bq,beq_iff_eq] at hc;exact hc.1.1
    subst e0;exact .inr ⟨rfl,(Option.some.inj h2).symm⟩
   ·rw[if_neg hc] at h2;simp only[eK,hx] at h2 |-;exact .inl h2
  | false =>
   by_cases hc:(k0==NameKind.free&&env.scope.kind == .function&&env.kindOf n==some .cell)=true
   ·rw[if_pos hc] at h2;simp only[eK,hx] at h2 |-;exact ih h2
   ·rw[if_neg hc] at h2;simp only[eK,hx] at h2 |-;exact ih h2
section
variable {prog:jW}{w:World}{A:jY}{R:Result->jR->Prop}{s:jR}
theorem aQ6(I:Nat->jR->Prop)
  (turn:∀n s,I n s->wpAny ZG A (kN it) (fun r s₁=>match r with
   |none=>R (.ok .next) s₁
   | some v=>wpAny ZG A (lG target it v) (fun _ s₁=>wpAny ZG A (kM target env v) (fun _ s₂ =>
     wpAny ZG A (forIn ifs true fun c r=>if r=true then do let ok <-isTrue c env (eval c env);pure (ForInStep.yield ok) else pure (ForInStep.yield r)) (fun ok s₃ =>
      if ok=true then wpAny ZG A (eval elt env) (fun x s₄ =>
       wpAny ZG A (call (.builtin "list.append") [acc,x]) (fun _ s₅=>∃m,m<n/\I m s₅) (fun _ _=>False) s₄) (fun _ _=>False) s₃
      else ∃m,m<n/\I m s₃) (fun _ _=>False) s₂) (fun _ _=>False) s₁) (fun _ _=>False) s₁) (fun _ _=>False) s)
  (n:Nat) (h:I n s) :
  kF ZG A (.compLoop (.ListComp elt [⟨target,iter,ifs,0⟩] scope pos) 0 it acc env) R s:=by
 refine codeAny_loop rfl I (fun n s hI=>?_) n h;show wpAny _ A ((compTurn (.ListComp elt [⟨target,iter,ifs,0⟩] scope pos) 0 it acc env).onRaise (fun x=>do noteFrame x env;theTreesLotGoes x)) _ _ s;refine wpAny_noted ?_;rw[compTurn_list];refine jP (wpAny_standAt (jP (j8 (turn n s hI) (fun r s₁ h₁=>?_) fun _ _ h'=>h'.elim)));cases r with
 |none=>exact jQ h₁
 | some v =>
  refine jP (j8 h₁ (fun _ s₁ h₁=>?_) fun _ _ h'=>h'.elim);refine jP (j8 h₁ (fun _ s₂ h₂=>jP (j8 h₂ (fun ok s₃ h₃=>?_) fun _ _ h'=>h'.elim)) fun _ _ h'=>h'.elim);cases ok with
  |false=>exact jQ ⟨rfl,h₃⟩
  | true =>
   exact jP (jP (j8 h₃ (fun x s₄ h₄=>jP (j8 h₄ (fun _ s₅ h₅=>jQ (jQ ⟨rfl,h₅⟩)) fun _ _ h'=>h'.elim)) fun _ _ h'=>h'.elim))
end
def aBs(X:Cx)(N':List Str)(scope:Scope)(cl:List (Str × Addr))(C:Addr)(s₀:jR)(H₀:Hp)(fp:List Addr):Cx :=
 { X with N:=N',s₀:=s₀,H₀:=H₀,env:=compEnvC scope cl C X.env,outer:=X.stack,stack:=X.stack,ex:=fp,fn:=fun _=>false,pn:=[],xe:=fun _ _=>False }
structure CompTxt (X:Cx) (scope:Scope) (N':List Str) (srcs:List (Option Nat)):Prop where
 kind:scope.kind = .function
 cell:∀y∈scope.names,y.2 ≠ .cell
 names:∀y∈scope.names,y.2 = .local->scope.names.lookup y.1=some .local
 free:∀y∈scope.names,y.2 = .free->X.env.kindOf y.1=some .cell\/X.env.kindOf y.1=some .free
 len:srcs.length=N'.length
 src:∀ (i j:Nat),srcs[i]?=some (some j)->∃x,N'[i]?=some x/\X.N[j]?=some x/\scope.names.lookup x≠some .local
def srcV(l:List (Option Nat))(O:St):St:=l.map fun o=>o.bind fun j=>(O[j]?).join
theorem aNg{i:Nat}(h:(srcV l O)[i]?=some (some v)):∃j,l[i]?=some (some j)/\O[j]?=some (some v):=by
 unfold srcV at h;rw[bo] at h;cases e:l[i]? with
 |none=>rw[e] at h;cases h
 | some o =>
  rw[e] at h;cases o with
  |none=>cases h
  | some j =>
   refine⟨j,rfl,?_⟩;have h:(O[j]?).join=some v:=Option.some.inj h;cases q:O[j]? with
   |none=>rw[q] at h;cases h
   |some p=>rw[q] at h;rw[show p=some v from h]
theorem aW5{tk:Nat}
  (C:CompTxt X scope N' srcs) (I:Inv X pins O H s) (hcl:∀x c,cl.lookup x=some c->X.env.cells.lookup x=some c) (hfr:∀y∈scope.names,y.2 = .free->∃c,cl.lookup y.1=some c)
  (hf:∀b∈fp,FpOk X pins H b) (ho:∀b∈fp,∃o,s.heap.get? b=some o)
  (hn:h'.Ns s.heap.objs.size (fun _=>none)) (kp:∀b o,s.heap.get? b=some o->h'.get? b=some o) :
  Inv (aBs X N' scope cl s.heap.objs.size s H fp) [] (srcV srcs O) H { s with heap:=h',toks:=tk }:=by
 have ltf:∀b∈fp,b<s.heap.objs.size:=fun b hb=>let ⟨o,e⟩:=ho b hb;aj e
 have kinds:∀ (x:Str) (k:lD),(compEnvC scope cl s.heap.objs.size X.env).kindOf x=some k->(k = .cell\/k = .free)->scope.names.lookup x=some .free:=fun x k h hk=>by
  rcases aCs (env:=X.env) (names:=scope.names) (x:=x) (k:=k) h with e |⟨e,_⟩
  ·rcases hk with rfl |rfl
   ·exact absurd rfl (C.cell _ (PySem.mem_of_lookup e))
   ·exact e
  ·exact e
 have hok:(aBs X N' scope cl s.heap.objs.size s H fp).Ok:=by
  refine⟨I.ok.mod,C.kind,I.ok.glob,I.ok.blt,a9 _,fun x y c h1 h2=>I.ok.inj x y c (hcl x c h1) (hcl y c h2),fun x h=>?_,fun x c h=>(by cases h),I.ok.hd,I.ok.frames,.inl rfl,fun b hb=>⟨?_,fun x c e=>?_⟩,I.bs,ao I.ok.bsz I.sz,fun b o e hb=>?_,fun b hb z=>?_,I.stack,I.stkFree⟩
  ·rcases h with h |h
   ·exact hfr _ (PySem.mem_of_lookup (kinds x _ h (.inl rfl))) rfl
   ·exact hfr _ (PySem.mem_of_lookup (kinds x _ h (.inr rfl))) rfl
  ·exact au (ltf b hb)
  ·exact(hf b hb).2.2.2.2.1 x c (hcl x c e)
  ·rcases(hf b hb).2.2.2.1 with z |z
   ·exact I.ok.noex b o e z
   ·exact absurd (bz (aj e) (ao I.ok.bsz z)) (eF _)
  ·obtain⟨_,f1,f2,_⟩:=hf b hb;rcases ae.mp (I.stkSub b z) with q |q
   ·exact f1 q
   ·exact f2 q
 refine⟨hok,rfl,I.bare,Un.kept kp,⟨_,hn,fun i x v h1 h2 h3=>?_⟩,fun x c h=>?_,I.hok.fresh (a9 _),fun x c h=>I.freeC x c (hcl x c h),fun p hp=>(by cases hp),I.hok.kept kp,by show (srcs.map _).length=N'.length;rw[a5,C.len]⟩
 ·obtain⟨j,e1,e2⟩:=aNg h2;obtain⟨y,q1,q2,q3⟩:=C.src i j e1;have h1:N'[i]?=some x:=h1;rw[q1] at h1;cases h1;have hfree:scope.names.lookup x=some .free:=by
   rcases h3 with k |k |k
   ·rcases aCs (env:=X.env) (names:=scope.names) (x:=x) (k:=.local) k with e |⟨e,z⟩
    ·exact absurd e q3
    ·cases z
   ·exact kinds x _ k (.inl rfl)
   ·exact kinds x _ k (.inr rfl)
  have hkf:=C.free _ (PySem.mem_of_lookup hfree) rfl;obtain⟨m,_,hl⟩:=I.loc;obtain⟨u,ru,lk⟩:=hl j x v q2 e2 (.inr hkf);refine⟨u,ru,.inr ⟨?_,?_⟩⟩
  ·rcases h3 with k |k |k
   ·rcases aCs (env:=X.env) (names:=scope.names) (x:=x) (k:=.local) k with e |⟨e,z⟩
    ·exact absurd e q3
    ·cases z
   ·exact .inl k
   ·exact .inr k
  ·rcases lk with ⟨k,_⟩ |⟨_,c,hc,ic⟩
   ·have hkf:X.env.kindOf x=some .cell\/X.env.kindOf x=some .free:=hkf;rw[k] at hkf;rcases hkf with z |z<;>cases z
   ·obtain⟨c',hc'⟩:=hfr _ (PySem.mem_of_lookup hfree) rfl;have:=hcl _ _ hc';rw[show X.env.cells.lookup x=some c from hc] at this;cases this;obtain⟨o,e,d⟩:=ic;exact⟨c,hc',o,kp c o e,d⟩
 ·obtain⟨v,o,e,d⟩:=I.cell x c (hcl x c h);exact⟨v,o,kp c o e,d⟩
def PF(X:Cx)(ifs:List Expr)(t:TT):Prop :=
 ∀ (pins:List ZL) (s:jR) (O:St) (H:Hp) (Q:Bool->Hp->Prop),Inv X pins O H s->t O H Q ->
  wpAny ZC X.A (forIn ifs true fun c r=>if r=true then do let ok <-isTrue c X.env (eval c X.env);pure (ForInStep.yield ok) else pure (ForInStep.yield r)) (TP X pins O Q) X.xe s
theorem pf_nil:PF X [] (fun O H Q=>Q true H):=fun pins s O H Q I h=>wpAny_tests_nil ⟨H,I,h⟩
theorem pf_one(h:PT X c t):PF X [c] t:=fun pins s O H Q I hw=>wpAny_tests_one (h pins s O H Q I hw)
def tComp(wi:TI)(srcs:List (Option Nat))(g:TG)(tt:TT)(te:TE):TE:=fun O H Q=>wi O H fun J H1=>∀D,H1 D=none ->
 ∃W:Nat->Nat->List V->St->Hp->Prop,(∃m,W 0 m [] (srcV srcs O) (upd H1 D (.lst [])))/\∀i m acc σ' H',W i m acc σ' H' ->
  (J.stop i H'/\Q (.ref D) H')\/(J.go i H'/\∃Nx:List V->St->Hp->Prop,(∀acc O H,Nx acc O H->∃m',m'<m/\W (i+1) m' acc O H) /\
   ∀x H2,J.yld i H' x H2->g x σ' H2 fun σ3 H3=>tt σ3 H3 fun b H4=>if b=true then te σ3 H4 fun y H5=>H5 D=some (.lst acc)/\acc.length<jU/\Nx (acc ++ [y]) σ3 (upd H5 D (.lst (acc ++ [y]))) else Nx acc σ3 H4)
theorem aRg(I:Inv X pins O H s)(h:tComp wi srcs g tt te O H Q)(hc:X.calm=true)
  (C:CompTxt X scope N' srcs) (hi:PI X tg iter wi) (hg:∀cl C s₀ H₀ fp,PG (aBs X N' scope cl C s₀ H₀ fp) tg g) (ht:∀cl C s₀ H₀ fp,PF (aBs X N' scope cl C s₀ H₀ fp) ifs tt)
  (he:∀cl C s₀ H₀ fp,PE (aBs X N' scope cl C s₀ H₀ fp) elt te) (hs:∀x,jw iter X.env x=pure x)
  (fin:∀ (D:Addr) (H':Hp) (s6:jR) (C:Addr),(∀h',Heap.SameBut C s6.heap h'->Inv X pins O H' { s6 with heap:=h' })->(∃m,s6.heap.Ns C m)->FpOk X pins H' C->Q (.ref D) H'->compPost (model X.prog X.w) X.A X.xe use Qv (.ref D) C (.ok .next) s6) :
  wpAny ZC X.A (comprehension (.ListComp elt [⟨tg,iter,ifs,0⟩] scope pos) scope X.env ipos (newList []) false (eval iter X.env) use) Qv X.xe s:=by
 obtain⟨cl,hclos,hcl,hfr⟩:=aMn (scope:=scope) (env:=X.env) (fun y hy hf=>I.ok.has _ (C.free y hy hf));refine wpAny_comprehension_free (use:=use) rfl hs hclos C.kind C.names (thn (hi pins s O H _ I h) fun xv s1 h1=>thn h1 fun itv s2 h2=>?_);obtain⟨it,fp,tn,J,H1,e,I2,T,st2,f2,q⟩:=h2;subst e;refine jZ ?_;have hD:H1 s2.heap.objs.size=none:=I2.fresh;have I3:Inv X pins O (upd H1 s2.heap.objs.size (.lst [])) { s2 with heap:=s2.heap.push { cls:=.type "list",data:=.seq ([]:List Value).toArray } }:=I2.lnew (its:=[]) (t':=s2.toks) .nil (dm _);obtain⟨W,⟨m0,w0⟩,turn⟩:=q _ hD;refine wpAny_newFunctionEnv C.cell (by intro y hy;simp at hy) (fun h4 hns hsb=>?_) C.kind;have hD':s2.heap.objs.size≠(s2.heap.push { cls:=.type "list",data:=.seq ([]:List Value).toArray }).objs.size:=by rw[cp];exact au (eN _)
 have fpH:∀b∈fp,∃o,(s2.heap.push { cls:=.type "list",data:=.seq ([]:List Value).toArray }).get? b=some o:=fun b hb=>let ⟨o,e,_⟩:=T.obj 0 _ st2 b hb;⟨o,a0 _ e⟩
 have fpD:∀b∈fp,b≠s2.heap.objs.size:=fun b hb z=>by obtain⟨o,e,_⟩:=T.obj 0 _ st2 b hb;exact absurd (aj e) (by rw[z];exact eF _)
 have f3:∀b∈fp,FpOk X pins (upd H1 s2.heap.objs.size (.lst [])) b:=fun b hb=>⟨by rw[aAk (fpD b hb)];exact(f2 b hb).1,(f2 b hb).2⟩
 have kp4:∀b o,(s2.heap.push { cls:=.type "list",data:=.seq ([]:List Value).toArray }).get? b=some o->h4.get? b=some o:=fun b o e =>
  hsb.extBut b o (au (aj e)) (a0 _ e)
 have I4:=aW5 (tk:=s2.toks+([]:List (Str × Value)).length) C I3 hcl hfr f3 fpH (by simpa using hns) kp4;have st4:tn 0 h4:=T.keep 0 _ _ st2 fun b hb o e=>kp4 b o (a0 _ e);have fpX:∀ {H':Hp},(∀b∈fp,H' b=none)->∀b∈fp,FpOk (aBs X N' scope cl (s2.heap.push { cls:=.type "list",data:=.seq ([]:List Value).toArray }).objs.size { s2 with heap:=s2.heap.push { cls:=.type "list",data:=.seq ([]:List Value).toArray } } (upd H1 s2.heap.objs.size (.lst [])) fp) [] H' b:=fun {H'} hn b hb=>by refine⟨hn b hb,(I4.ok.exf b hb).1,I4.ok.exfs b hb,.inl hb,fun x c e z=>(I4.ok.exf b hb).2 x c e z,fun p hp=>by cases hp⟩
 have loop:kF ZC X.A (.compLoop (.ListComp elt [⟨tg,iter,ifs,0⟩] scope pos) 0 (.ref it) (.ref s2.heap.objs.size) (compEnvC scope cl (s2.heap.push { cls:=.type "list",data:=.seq ([]:List Value).toArray }).objs.size X.env))
   (compPost ZC X.A X.xe use Qv (.ref s2.heap.objs.size) (s2.heap.push { cls:=.type "list",data:=.seq ([]:List Value).toArray }).objs.size) { s2 with heap:=h4,toks:=s2.toks+([]:List (Str × Value)).length }:=by
  refine aQ6 (fun n s'=>∃i acc σ' H',Inv (aBs X N' scope cl (s2.heap.push { cls:=.type "list",data:=.seq ([]:List Value).toArray }).objs.size { s2 with heap:=s2.heap.push { cls:=.type "list",data:=.seq ([]:List Value).toArray } } (upd H1 s2.heap.objs.size (.lst [])) fp) [] σ' H' s'/\tn i s'.heap/\(∀b∈fp,H' b=none)/\W i n acc σ' H') ?_ m0
   ⟨0,[],_,_,I4,st4,fun b hb=>(f3 b hb).1,w0⟩
  rintro n s5 ⟨i,acc,σ5,H5,I5,st5,fr5,w5⟩;rcases turn i n acc σ5 H5 w5 with ⟨stop,qn⟩ |⟨go,Nx,hN,step⟩
  ·refine thn (T.done (aBs X N' scope cl _ _ _ fp) rfl rfl rfl hc i [] s5 σ5 H5 (fun _ _=>False) I5 (fpX fr5) st5 stop) fun r s6 ⟨hr,I6⟩=>?_;subst hr;obtain⟨m6,hm6,_⟩:=I6.loc;refine fin _ H5 s6 _ (fun h' hs'=>?_) ⟨m6,hm6⟩ (I3.fpOk (a9 _) I6.free) qn;have nC:∀b u,H5 b=some u->b≠(s2.heap.push { cls:=.type "list",data:=.seq ([]:List Value).toArray }).objs.size:=fun b u e z=>by have:=I6.free;rw[show (aBs X N' scope cl (s2.heap.push { cls:=.type "list",data:=.seq ([]:List Value).toArray }).objs.size { s2 with heap:=s2.heap.push { cls:=.type "list",data:=.seq ([]:List Value).toArray } } (upd H1 s2.heap.objs.size (.lst [])) fp).env.locals=(s2.heap.push { cls:=.type "list",data:=.seq ([]:List Value).toArray }).objs.size from rfl,<-z,e] at this;cases this
   have hok:HOk X.prog X.w H5 h':=fun b u e=>(I6.hok b u e).stay (fun v q=>hs'.extBut b v (nC b u e) q) fun _ _ q=>q;have un:Un (frs X.stack) fp (upd H1 s2.heap.objs.size (.lst [])) H5 (s2.heap.push { cls:=.type "list",data:=.seq ([]:List Value).toArray }) h':=by
    have lt:∀b o,(s2.heap.push { cls:=.type "list",data:=.seq ([]:List Value).toArray }).get? b=some o->b≠(s2.heap.push { cls:=.type "list",data:=.seq ([]:List Value).toArray }).objs.size:=fun b o e=>au (aj e);have u:=I6.base
    exact⟨fun b o e n hb hx=>hs'.extBut b o (lt b o e) (u.keep b o e n hb hx),fun b o e n hb hx=>let ⟨sl,q⟩:=u.slot b o e n hb hx;⟨sl,hs'.extBut b _ (lt b o e) q⟩,fun b o e n hx=>u.free b o e n hx,
     fun b o e hx=>let ⟨o',q⟩:=u.there b o e hx;⟨o',hs'.extBut b _ (lt b o e) q⟩,u.tups,u.frzs⟩
   exact I3.call' (s':={ s6 with heap:=h' }) (ch:=fp) I6.os un hok I6.bare fun b hb=>let ⟨_,g1,g2,g3,g4,g5⟩:=f3 b hb;⟨g3,g1,g4,g5⟩
  ·refine thn (T.item (aBs X N' scope cl _ _ _ fp) rfl rfl rfl hc i [] s5 σ5 H5 (fun _ _=>False) I5 (fpX fr5) st5 go) fun r s6 ⟨u,hr,h6⟩=>?_;subst hr;refine thn h6 fun _ s7 ⟨x,H7,I7,r7,y7,st7,fr7⟩=>?_;have I7':=I7.pinned (fpX fr7) (T.obj _ _ st7);refine thn (hg _ _ _ _ _ _ s7 σ5 H7 x u _ I7' r7 (step x H7 y7)) fun _ s8 ⟨σ8,H8,I8,q8⟩=>?_;refine thn (ht _ _ _ _ _ _ s8 σ8 H8 _ I8 q8) fun b s9 ⟨H9,I9,q9⟩=>?_;have again:∀ {σ0:St} {H0:Hp} {acc0:List V} {s0:jR},Inv (aBs X N' scope cl (s2.heap.push { cls:=.type "list",data:=.seq ([]:List Value).toArray }).objs.size { s2 with heap:=s2.heap.push { cls:=.type "list",data:=.seq ([]:List Value).toArray } } (upd H1 s2.heap.objs.size (.lst [])) fp) ([]++aSp fp s7.heap) σ0 H0 s0->Nx acc0 σ0 H0 ->
     ∃m,m<n/\∃i acc σ' H',Inv (aBs X N' scope cl (s2.heap.push { cls:=.type "list",data:=.seq ([]:List Value).toArray }).objs.size { s2 with heap:=s2.heap.push { cls:=.type "list",data:=.seq ([]:List Value).toArray } } (upd H1 s2.heap.objs.size (.lst [])) fp) [] σ' H' s0/\tn i s0.heap/\(∀b∈fp,H' b=none)/\W i m acc σ' H':=fun {σ0 H0 acc0 s0} I0 n0=>by
    obtain⟨m',hm,w0'⟩:=hN acc0 σ0 H0 n0;refine⟨m',hm,i+1,acc0,σ0,H0,I0.unpinned,T.keep _ _ _ st7 fun b hb o e=>(I0.pin (b,o) (cf _ (cf _ (aFq hb e)))).1,fun b hb=>?_,w0'⟩;obtain⟨o,e,d⟩:=T.obj _ _ st7 b hb;exact(I0.pin (b,o) (cf _ (cf _ (aFq hb e)))).2.1
   cases b with
   | false =>
    rw[if_neg ZE] at q9 |-;exact again I9 q9
   | true =>
    rw[if_pos rfl] at q9 |-;refine thn (he _ _ _ _ _ _ s9 σ8 H9 _ I9 q9) fun y' s10 ⟨y,H10,I10,ry,e10,l10,q10⟩=>?_;refine thn (aKu (X:=aBs X N' scope cl _ _ _ fp) _ s10 σ8 H10 (.ref s2.heap.objs.size) [y] (.ref s2.heap.objs.size) [y'] (fun _ H=>Nx (acc ++ [y]) σ8 H) I10 rfl (.cons ry .nil) ⟨_,acc,y,rfl,rfl,e10,l10,q10⟩) fun _ s11 ⟨v11,H11,I11,_,q11⟩=>?_;exact again I11 q11
 exact codeAny_compStart_list loop (T.self _ 0 _ _ _ st4 loop)
theorem pe_comp(hc:X.calm=true)
  (C:CompTxt X scope N' srcs) (hi:PI X tg iter wi) (hg:∀cl C s₀ H₀ fp,PG (aBs X N' scope cl C s₀ H₀ fp) tg g) (ht:∀cl C s₀ H₀ fp,PF (aBs X N' scope cl C s₀ H₀ fp) ifs tt)
  (he:∀cl C s₀ H₀ fp,PE (aBs X N' scope cl C s₀ H₀ fp) elt te) (hs:autoParam (∀x,jw iter X.env x=pure x) l7) :
  PE X (.ListComp elt [⟨tg,iter,ifs,0⟩] scope pos) (tComp wi srcs g tt te):=by
 intro pins s O H Q I h;rw[eval_ListComp];exact aRg (use:=none) I h hc C hi hg ht he hs fun D H' s6 C i6 n6 _ q=>let ⟨m,hm⟩:=n6;⟨m,hm,fun h' hs'=>⟨.ref D,H',i6 h' hs',rfl,q⟩⟩
theorem ps_comp{i:Nat}(hc:X.calm=true)
  (hN:X.N.Nodup) (hi':X.N[i]?=some y) (hy:X.env.scope.names.lookup y=some .local)
  (C:CompTxt X scope N' srcs) (hi:PI X tg iter wi) (hg:∀cl C s₀ H₀ fp,PG (aBs X N' scope cl C s₀ H₀ fp) tg g) (ht:∀cl C s₀ H₀ fp,PF (aBs X N' scope cl C s₀ H₀ fp) ifs tt)
  (he:∀cl C s₀ H₀ fp,PE (aBs X N' scope cl C s₀ H₀ fp) elt te)
  (hsw:kg (.ListComp elt [⟨tg,iter,ifs,0⟩] scope pos) (some (.Name y py)) spos.line X.env=pure true) (hs:autoParam (∀x,jw iter X.env x=pure x) l7) :
  PS X (.Assign [.Name y py] (.ListComp elt [⟨tg,iter,ifs,0⟩] scope pos) spos) (tAsg (tComp wi srcs g tt te) (gName i)):=by
 intro pins s O H D I h;rw[exec_Assign_Name_used _ _ _ _ hsw];refine jP (wpAny_standAt (jP ?_));show wpAny _ X.A (do let _ <-comprehension (.ListComp elt [⟨tg,iter,ifs,0⟩] scope pos) scope X.env _ (newList []) false (eval iter X.env) (some (kM (.Name y py) X.env))) _ _ s;refine jP (j8 (aRg (use:=some (kM (.Name y py) X.env)) (Qv:=fun _ s'=>SP X pins D .next s') I h hc C hi hg ht he hs fun Da H' s6 C i6 n6 fo q=>?_) (fun _ s' hq=>jQ (jQ hq)) fun _ _ e=>e);obtain⟨m,hm⟩:=n6;have I6:Inv X pins O H' s6:=i6 s6.heap (.refl ..);show wpAny _ X.A (kM (.Name y py) X.env (.ref Da)) _ _ _;refine wpAny_assign_Name (aQl I6 hN hi' (.inl hy) (v:=.ref Da) rfl (fun s7 I7 sb=>?_) (.inr hy));obtain⟨a,sb,ha⟩:=sb;have na:C≠a:=by
  rcases ha with e |e
  ·rw[e];exact fo.2.1
  ·exact(fo.2.2.2.2.1 y a e).symm
 refine⟨m,hm.sameBut sb na,fun h' hs'=>⟨_,H',?_,q⟩⟩;obtain⟨f0,f1,f2,f3,f4,f5⟩:=fo;exact I7.turned (t':=s7.toks) (fun b o hb e=>hs'.extBut b o hb e) f0 f1 f3 f4 f5
section
variable {X:Cx}{tw:Addr}
theorem bind_some{α β:Type}{o:Option α}{f:α->Option β}{b:β}(h:o.bind f=some b):∃a,o=some a/\f a=some b:=by
 cases o with
 |none=>cases h
 |some a=>exact⟨a,rfl,h⟩
theorem map_some{α β:Type}{o:Option α}{f:α->β}{b:β}(h:o.map f=some b):∃a,o=some a/\f a=b:=by
 cases o with
 |none=>cases h
 |some a=>exact⟨a,rfl,Option.some.inj h⟩
theorem aYa{n n':Nat}(h:dPr g a ρ n=some (t,m,n')):∃ts,a ρ n=some (ts,n')/\g n' ts=some (t,m):=by obtain⟨r,e1,e2⟩:=bind_some h;obtain⟨x,e3,e4⟩:=map_some e2;have q:=congrArg (fun z:T × Md × Nat=>z.2.2) e4;have q:r.2=n':=q;subst q;have p:=congrArg (fun z:T × Md × Nat=>(z.1,z.2.1)) e4;have p:x=(t,m):=p;subst p;exact⟨r.1,e1,e3⟩
theorem aGy{n n':Nat}(h:aAa d a ρ n=some (l,n')):∃t m n1 l',d ρ n=some (t,m,n1)/\a ρ n1=some (l',n')/\l=t::l':=by obtain⟨r,e1,e2⟩:=bind_some h;obtain⟨x,e3,e4⟩:=map_some e2;have q:x.2=n':=congrArg Prod.snd e4;subst q;exact⟨_,_,_,x.1,e1,e3,(congrArg Prod.fst e4).symm⟩
theorem aU0{n n':Nat}(h:dNil ρ n=some (l,n')):l = []/\n=n':=⟨(congrArg (fun z:Option (List T × Nat)=>(z.getD ([],0)).1) h).symm,congrArg (fun z:Option (List T × Nat)=>(z.getD ([],0)).2) h⟩
theorem aNl{n n':Nat}(h:dPr g (aAa d0 dNil) ρ n=some (t,m,n')):∃t0 m0,d0 ρ n=some (t0,m0,n')/\g n' [t0]=some (t,m):=by obtain⟨ts,h1,e⟩:=aYa h;obtain⟨_,_,_,_,f0,h2,rfl⟩:=aGy h1;obtain⟨rfl,rfl⟩:=aU0 h2;exact⟨_,_,f0,e⟩
theorem pr3_inv{n n':Nat}(h:dPr g (aAa d0 (aAa d1 (aAa d2 dNil))) ρ n=some (t,m,n')):∃t0 m0 n0 t1 m1 n1 t2 m2,d0 ρ n=some (t0,m0,n0)/\d1 ρ n0=some (t1,m1,n1)/\d2 ρ n1=some (t2,m2,n')/\g n' [t0,t1,t2]=some (t,m):=by obtain⟨ts,h1,e⟩:=aYa h;obtain⟨_,_,_,_,f0,h2,rfl⟩:=aGy h1;obtain⟨_,_,_,_,f1,h3,rfl⟩:=aGy h2;obtain⟨_,_,_,_,f2,h4,rfl⟩:=aGy h3;obtain⟨rfl,rfl⟩:=aU0 h4;exact⟨_,_,_,_,_,_,_,_,f0,f1,f2,e⟩
theorem SE.run(h:SE X tw e d){n:Nat}{n':Nat}(hd:d ρ n=some (t,m,n'))(I:Inv X pins O H s)(R:Rel X.K B tw ρ n O H) :
  wpAny ZC X.A (eval e X.env) (fun u s'=>∃v H',Inv X pins O H' s'/\RelV v u/\Ext tw H H'/\Rel X.K B tw ρ n' O H'/\Val X.K B tw H H' t m v) X.xe s :=
 thn (h B ρ n t m n' hd pins s O H (fun v H'=>Ext tw H H'/\Tn tw n' H'/\Val X.K B tw H H' t m v) I ⟨R,fun v H' a b c=>⟨a,b,c⟩⟩) fun u s' ⟨v,H',I',r,a,b,c⟩=>⟨v,H',I',r,a,R.mono a b,c⟩
theorem SA.run(h:SA X tw es d){n:Nat}{n':Nat}(hd:d ρ n=some (ts,n'))(pos:Pos)(I:Inv X pins O H s)(R:Rel X.K B tw ρ n O H) :
  wpAny ZC X.A (spliced (jg pos (jV es X.env))) (fun us s'=>∃vs H',Inv X pins O H' s'/\Vals vs us/\Ext tw H H'/\Rel X.K B tw ρ n' O H'/\Roots X.K tw H' ts vs) X.xe s :=
 thn (h B ρ n ts n' hd pos pins s O H (fun vs H'=>Ext tw H H'/\Tn tw n' H'/\Roots X.K tw H' ts vs) I ⟨R,fun v H' a b c=>⟨a,b,c⟩⟩) fun u s' ⟨v,H',I',r,a,b,c⟩=>⟨v,H',I',r,a,R.mono a b,c⟩
theorem aQc{e:Expr}{d:DE}(h:SE X tw e d):SE X tw e (dFz d):=by
 intro B ρ n t m n' hd pins s O H Q I ⟨R,k⟩;obtain⟨⟨t0,m0,n0⟩,h1,h2⟩:=bind_some hd;obtain⟨t1,h3,h4⟩:=map_some h2;cases h4;refine thn (h.run h1 I R) fun u s' ⟨v,H',I',r,a,R',c⟩=>?_;have same:∀ (q:t0=t),Rep tw H' t0 v->EP X pins O Q u s':=fun q c=>⟨v,H',I',r,k v H' a R'.tn (q▸c)⟩
 cases m0 with
 |fz=>exact same (Option.some.inj h3) c
 | lent =>
  have h3:(if aDr t0 then none else some t0)=some t:=h3;split at h3
  ·cases h3
  ·rename_i b;exact same (Option.some.inj h3) (Root.rep (by simpa using b) c)
 | bor =>
  have h3:(if aDr t0 then none else some t0)=some t:=h3;split at h3
  ·cases h3
  ·rename_i b;exact same (Option.some.inj h3) (Root.rep (by simpa using b) (let ⟨_,bt⟩:=R.btn;Root.ext (v:=v) bt R'.ext c))
 | own =>
  obtain⟨ad,rfl,q2,q3⟩:=c;obtain rfl:t0=t:=Option.some.inj h3;cases t0 with
  | lst xs =>
   obtain⟨vs,e1,e2⟩:=q3;obtain⟨o,I2⟩:=I'.freeze e1 (.inl ⟨vs,rfl⟩);have na:ad≠tw:=R.tn.ne_none q2;refine⟨_,_,I2,r,k _ _ (a.put q2) ?_ ?_⟩
   ·show upd H' ad _ tw=_;rw[aAk na.symm];exact R'.tn
   ·show Rep tw _ (.lst xs) _;rw[Rep];exact⟨ad,o,vs,rfl,aAj,Reps.mono (Fx.frz e1 (.inl ⟨vs,rfl⟩)) _ _ e2⟩
  | dic kvs =>
   obtain⟨vs,e1,e2⟩:=q3;obtain⟨o,I2⟩:=I'.freeze e1 (.inr (.inl ⟨vs,rfl⟩));have na:ad≠tw:=R.tn.ne_none q2;refine⟨_,_,I2,r,k _ _ (a.put q2) ?_ ?_⟩
   ·show upd H' ad _ tw=_;rw[aAk na.symm];exact R'.tn
   ·show Rep tw _ (.dic kvs) _;rw[Rep];exact⟨ad,o,vs,rfl,aAj,RepK.mono (Fx.frz e1 (.inr (.inl ⟨vs,rfl⟩))) _ _ e2⟩
  | rdc ks =>
   obtain⟨vs,e1,e2⟩:=q3;obtain⟨o,I2⟩:=I'.freeze e1 (.inr (.inr ⟨vs,rfl⟩));have na:ad≠tw:=R.tn.ne_none q2;refine⟨_,_,I2,r,k _ _ (a.put q2) ?_ ?_⟩
   ·show upd H' ad _ tw=_;rw[aAk na.symm];exact R'.tn
   ·show Rep tw _ (.rdc ks) _;rw[Rep];exact⟨ad,o,vs,rfl,aAj,e2⟩
  |_=>exact q3.elim
theorem aAn:SA X tw [] dNil:=by intro B ρ n ts n' hd pos pins s O H Q I ⟨R,k⟩;cases hd;exact aP3 pos pins s O H Q I (k [] H (.refl _ _) R.tn .nil)
theorem aAh{e:Expr}{es:List Expr}{d:DE}{r:DA}(h1:SE X tw e d)(h2:SA X tw es r)(hs:autoParam (jV (e::es) X.env=(false,eval e X.env)::jV es X.env) lZ):SA X tw (e::es) (aAa d r):=by intro B ρ n ts n' hd pos pins s O H Q I ⟨R,k⟩;obtain⟨⟨t,m,n1⟩,e1,e2⟩:=bind_some hd;obtain⟨⟨ts',n2⟩,e3,e4⟩:=map_some e2;cases e4;rw[hs];show wpAny _ _ (spliced ((false,eval e X.env)::jg pos (jV es X.env))) _ _ s;refine dS (thn (h1.run e1 I R) fun u s1 ⟨v,H1,I1,r1,a1,R1,c1⟩=>?_);refine thn (h2.run e3 pos I1 R1) fun us s2 ⟨vs,H2,I2,r2,a2,R2,c2⟩=>?_;exact⟨v::vs,H2,I2,.cons r1 r2,k _ _ (a1.trans a2) R2.tn (.cons (Root.ext R1.tn a2 (c1.root R1 R.tn)) c2)⟩
def PrS(X:Cx)(tw:Addr)(f:List Value->Sem Value)(g:Pr):Prop :=
 ∀ (B:Hp) (pins:List ZL) (s:jR) (O:St) (H:Hp) (vs:List V) (us:List Value) (ts:List T) (n:Nat) (t:T) (m:Md) (Q:VK),Inv X pins O H s->Vals vs us->Roots X.K tw H ts vs->Tn tw n H->g n ts=some (t,m) ->
  (∀v H',Ext tw H H'->Tn tw n H'->Val X.K B tw H H' t m v->Q v H')->wpAny ZC X.A (f us) (EP X pins O Q) X.xe s
theorem aAs{x:Str}{id:String}{g:Pr}{p pos:Pos}{e:Expr}{es:List Expr}{a:DA}(hp:PrS X tw (fun us=>call (.builtin id) us) g)(hm:X.mg x=none)(hv:kD x=some (.builtin id))(ha:SA X tw (e::es) a)(hg:autoParam (Gl X x) lZ)(hn:autoParam (x ≠ "__name__") l5)
  (hdb:autoParam ZO l5) (he:autoParam (jV (e::es) X.env=(false,eval e X.env)::jV es X.env) lZ) (hpl:autoParam ((jg pos (jV es X.env)).any (·.1)=false) lZ):SE X tw (.Call (.Name x p) (e::es) [] pos) (dPr g a):=by
 intro B ρ n t m n' hd pins s O H Q I ⟨R,k⟩;obtain⟨⟨ts,n1⟩,e1,e2⟩:=bind_some hd;obtain⟨⟨t1,m1⟩,e3,e4⟩:=map_some e2;cases e4;refine jj (aEe I hg hm hv ?_ hn hdb);refine PyProof.Rows.callWith_builtin1 (thn (ha.run e1 pos I R) fun us s1 ⟨vs,H1,I1,r1,a1,R1,c1⟩=>?_) he hpl;exact hp B pins s1 O H1 vs us ts _ _ _ Q I1 r1 c1 R1.tn e3 fun v H' a b c=>k v H' (a1.trans a) b (c.back a1 R1.tn)
theorem aA0{x:Str}{T':String}{g:Pr}{p pos:Pos}{e:Expr}{es:List Expr}{a:DA}(hp:PrS X tw (fun us=>call (.type T') us) g)(hm:X.mg x=none)(hv:kD x=some (.type T'))(ha:SA X tw (e::es) a)(hg:autoParam (Gl X x) lZ)(hn:autoParam (x ≠ "__name__") l5)
  (hdb:autoParam ZO l5) (he:autoParam (jV (e::es) X.env=(false,eval e X.env)::jV es X.env) lZ) (hpl:autoParam ((jg pos (jV es X.env)).any (·.1)=false) lZ):SE X tw (.Call (.Name x p) (e::es) [] pos) (dPr g a):=by
 intro B ρ n t m n' hd pins s O H Q I ⟨R,k⟩;obtain⟨⟨ts,n1⟩,e1,e2⟩:=bind_some hd;obtain⟨⟨t1,m1⟩,e3,e4⟩:=map_some e2;cases e4;refine jj (aEe I hg hm hv ?_ hn hdb);refine PyProof.Rows.callWith_type1 (thn (ha.run e1 pos I R) fun us s1 ⟨vs,H1,I1,r1,a1,R1,c1⟩=>?_) he hpl;exact hp B pins s1 O H1 vs us ts _ _ _ Q I1 r1 c1 R1.tn e3 fun v H' a b c=>k v H' (a1.trans a) b (c.back a1 R1.tn)
def two(f:Value->Value->Sem Value):List Value->Sem Value
 |[a,b]=>f a b
 |_=>unsupported "two"
theorem aMp(hp:PrS X tw (two f) g)(ha:SE X tw a da)(hb:SE X tw b db){n:Nat}{n':Nat}(hd:dPr g (aAa da (aAa db dNil)) ρ n=some (t,m,n')) (I:Inv X pins O H s) (R:Rel X.K B tw ρ n O H) (k:∀v H',Ext tw H H'->Tn tw n' H'->Val X.K B tw H H' t m v->Q v H') :
  wpAny ZC X.A (eval a X.env) (fun v s₁=>wpAny ZC X.A (eval b X.env) (fun u s₂=>wpAny ZC X.A (f v u) (EP X pins O Q) X.xe s₂) X.xe s₁) X.xe s:=by
 obtain⟨⟨ts,n1⟩,e1,e2⟩:=bind_some hd;obtain⟨⟨t1,m1⟩,e3,e4⟩:=map_some e2;cases e4;obtain⟨⟨ta,ma,na⟩,f1,f2⟩:=bind_some e1;obtain⟨⟨tb,nb⟩,f3,f4⟩:=map_some f2;cases f4;obtain⟨⟨tb',mb,nb'⟩,g1,g2⟩:=bind_some f3;cases g2;refine thn (ha.run f1 I R) fun u1 s1 ⟨v1,H1,I1,r1,a1,R1,c1⟩=>?_;refine thn (hb.run g1 I1 R1) fun u2 s2 ⟨v2,H2,I2,r2,a2,R2,c2⟩=>?_;exact hp B pins s2 O H2 [v1,v2] [u1,u2] [ta,tb'] _ _ _ Q I2 (.cons r1 (.cons r2 .nil)) (.cons (Root.ext R1.tn a2 (c1.root R1 R.tn)) (.cons (c2.root R2 R1.tn) .nil)) R2.tn e3
  fun v H' x y z=>k v H' (a1.trans (a2.trans x)) y ((z.back a2 R2.tn).back a1 R1.tn)
theorem aAy{a b:Expr}{da db:DE}{op:Operator}{g:Pr}{pos:Pos}(hp:PrS X tw (two (kX op)) g)(ha:SE X tw a da)(hb:SE X tw b db):SE X tw (.BinOp a op b pos) (dPr g (aAa da (aAa db dNil))):=by intro B ρ n t m n' hd pins s O H Q I ⟨R,k⟩;exact wpAny_BinOp (aMp hp ha hb hd I R k)
theorem bBt{a b:Expr}{da db:DE}{op:CmpOp}{g:Pr}{pos:Pos}(hp:PrS X tw (two (j6 op)) g)(ha:SE X tw a da)(hb:SE X tw b db)(h1:autoParam (lB op b=false) az8._auto_1) :
  SE X tw (.Compare a [op] [b] pos) (dPr g (aAa da (aAa db dNil))):=by
 intro B ρ n t m n' hd pins s O H Q I ⟨R,k⟩;exact wpAny_Compare1 (aMp hp ha hb hd I R k) h1
theorem aBx{a b:Expr}{da db:DE}{g:Pr}{pos:Pos}(hp:∀value slice,(∀v u,subscripted slice false v u=operate [v,u] (kT v u))->PrS X tw (two fun v u=>subscriptTail value slice v u) g)(ha:SE X tw a da)(hb:SE X tw b db)(hs:PlainIx b) :
  SE X tw (.Subscript a b pos) (dPr g (aAa da (aAa db dNil))):=by
 intro B ρ n t m n' hd pins s O H Q I ⟨R,k⟩;exact Subscript_ (aMp (hp a b hs) ha hb hd I R k)
def rT(K:PySem.W.Frag)(B:Hp)(tw:Addr)(ρ:En)(n:Nat)(b:Bool)(n':Nat):TT:=fun O H Q=>Rel K B tw ρ n O H/\∀H',Ext tw H H'->Tn tw n' H'->Q b H'
def ST(X:Cx)(tw:Addr)(e:Expr)(d:DT):Prop:=∀B ρ n b n',d ρ n=some (b,n')->PT X e (rT X.K B tw ρ n b n')
def SW(X:Cx)(tw:Addr)(e:Expr)(d:DT):Prop:=∀B ρ n b n',d ρ n=some (b,n')->PW X e (rT X.K B tw ρ n b n')
theorem SW.st{e:Expr}{d:DT}(h:SW X tw e d):ST X tw e d:=fun B ρ n b n' hd=>(h B ρ n b n' hd).pt
theorem ST.run(h:ST X tw e d){n:Nat}{b:Bool}{n':Nat}(hd:d ρ n=some (b,n'))(I:Inv X pins O H s)(R:Rel X.K B tw ρ n O H) :
  wpAny ZC X.A (isTrue e X.env (eval e X.env)) (fun c s'=>c=b/\∃H',Inv X pins O H' s'/\Ext tw H H'/\Rel X.K B tw ρ n' O H') X.xe s :=
 thn (h B ρ n b n' hd pins s O H (fun c H'=>c=b/\Ext tw H H'/\Tn tw n' H') I ⟨R,fun H' x y=>⟨rfl,x,y⟩⟩) fun c s' ⟨H',I',e,x,y⟩=>⟨e,H',I',x,R.mono x y⟩
theorem aJ8{b:Bool}{Q:Bool->jR->Prop}(I:Inv X pins O H s)(r:RelV v u)(rt:Root X.K tw H t v)(h:tru t=some b)(k:∀s',Inv X pins O H s'->Q b s') :
  wpAny ZC X.A (truthy u) Q X.xe s:=by
 have go:TruV X.K v H b->wpAny ZC X.A (truthy u) Q X.xe s:=fun q =>
  thn (tru_ok pins s O H v u (fun c H'=>c=b/\H'=H) I r ⟨b,q,rfl,rfl⟩) fun c s' ⟨H',I',e1,e2⟩=>by subst e1 e2;exact k s' I'
 cases t with
 | non =>
  have rt:Rep tw H .non v:=rt;rw[Rep] at rt;subst rt;cases h;exact go rfl
 | bl c =>
  have rt:Rep tw H (.bl c) v:=rt;rw[Rep] at rt;subst rt;cases h;exact go rfl
 | int i =>
  have rt:Rep tw H (.int i) v:=rt;rw[Rep] at rt;subst rt;cases h;exact go rfl
 | tup xs =>
  have rt:Rep tw H (.tup xs) v:=rt;rw[Rep] at rt;obtain⟨a,vs,rfl,e,q⟩:=rt;cases h;refine go (.inr (.inl ⟨vs,SqT.of e,?_⟩));have:=q.length;cases xs<;>cases vs<;>first |rfl |(simp at this)
 | lst xs =>
  obtain⟨a,vs,rfl,e,q⟩:=rt;cases h;refine go (.inl ⟨vs,e.sq,?_⟩);have:=q.length;cases xs<;>cases vs<;>first |rfl |(simp at this)
 | dic kvs =>
  obtain⟨a,ws,rfl,na,e,q⟩:=rt;cases h;cases r;refine d_truth I e fun s' I'=>?_;have:(!ws.isEmpty) = !kvs.isEmpty:=by
   cases kvs with
   |nil=>rw[RepK] at q;rw[q];rfl
   |cons p r=>obtain⟨k,x⟩:=p;rw[RepK] at q;obtain⟨_,_,e,_⟩:=q;rw[e];rfl
  rw[this];exact k s' I'
 |_=>cases h
theorem aC6{e:Expr}{d:DE}(h:SE X tw e d)(he:autoParam (∀whole,isTrue e X.env whole=(do let v <-whole;standAt e.pos;kL [v] (truthy v))) l7):ST X tw e (dTru d):=by intro B ρ n b n' hd pins s O H Q I ⟨R,k⟩;obtain⟨⟨t,m,n1⟩,e1,e2⟩:=bind_some hd;obtain⟨b',e3,e4⟩:=map_some e2;cases e4;exact isTrue_plain (thn (h.run e1 I R) fun u s1 ⟨v,H1,I1,r1,a1,R1,c1⟩=>aJ8 I1 r1 (c1.root R1 R.tn) e3 fun s2 I2=>⟨H1,I2,k H1 a1 R1.tn⟩) (he _)
theorem aBn{a b:Expr}{da db:DE}{op:CmpOp}{g:Pr}{pos:Pos}(hp:PrS X tw (two (j6 op)) g)(ha:SE X tw a da)(hb:SE X tw b db)(h1:autoParam (lB op b=false) az8._auto_1) :
  ST X tw (.Compare a [op] [b] pos) (dTru (dPr g (aAa da (aAa db dNil)))):=by
 intro B ρ n c n' hd pins s O H Q I ⟨R,k⟩;obtain⟨⟨t,m,n1⟩,e1,e2⟩:=bind_some hd;obtain⟨b',e3,e4⟩:=map_some e2;cases e4;refine wpAny_isTrue_Compare1 (thn (aMp hp ha hb e1 (Q:=fun v H'=>Ext tw H H'/\Tn tw n1 H'/\Val X.K B tw H H' t m v) I R fun v H' x y z=>⟨x,y,z⟩) fun v s1 q1=>thn q1 fun u s2 q2=>thn q2 fun w s3 ⟨x,H',I',r',a',b',c'⟩=>?_) h1;exact aJ8 I' r' (c'.root (R.mono a' b') R.tn) e3 fun s4 I4=>⟨H',I4,k H' a' b'⟩
theorem aCt{e:Expr}{d:DT}{pos:Pos}(h:ST X tw e d):ST X tw (.UnaryOp .Not e pos) (dNot d):=by intro B ρ n b n' hd pins s O H Q I ⟨R,k⟩;obtain⟨⟨c,n1⟩,e1,e2⟩:=map_some hd;cases e2;exact pt_not (h B ρ n c n1 e1) pins s O H Q I ⟨R,fun H' x y=>k H' x y⟩
theorem aT1{e:Expr}{d:DT}{pos:Pos}(h:ST X tw e d):SW X tw (.BoolOp .And [e] pos) d:=fun B ρ n b n' hd=>pw_and1 (h B ρ n b n' hd)
theorem aIe{e:Expr}{d:DT}{pos:Pos}(h:ST X tw e d):SW X tw (.BoolOp .Or [e] pos) d:=fun B ρ n b n' hd=>pw_or1 (h B ρ n b n' hd)
theorem aZo{a b:Expr}{rest:List Expr}{da db:DT}{pos:Pos}(h1:ST X tw a da)(h2:SW X tw (.BoolOp .And (b::rest) pos) db):SW X tw (.BoolOp .And (a::b::rest) pos) (dAnd da db):=by
 intro B ρ n c n' hd wh pins s O H Q I ⟨R,k⟩;obtain⟨⟨x,n1⟩,e1,e2⟩:=bind_some hd;refine isTrue_and (thn (h1.run e1 I R) fun y s1 ⟨ey,H1,I1,a1,R1⟩=>?_);subst ey;cases y with
 | true =>
  have e2:db ρ n1=some (c,n'):=e2;exact h2 B ρ n1 c n' e2 wh pins s1 O H1 Q I1 ⟨R1,fun H' p q=>k H' (a1.trans p) q⟩
 | false =>
  have e2:some (false,n1)=some (c,n'):=e2;cases e2;exact⟨H1,I1,k H1 a1 R1.tn⟩
theorem aRm{a b:Expr}{rest:List Expr}{da db:DT}{pos:Pos}(h1:ST X tw a da)(h2:SW X tw (.BoolOp .Or (b::rest) pos) db):SW X tw (.BoolOp .Or (a::b::rest) pos) (dOr da db):=by
 intro B ρ n c n' hd wh pins s O H Q I ⟨R,k⟩;obtain⟨⟨x,n1⟩,e1,e2⟩:=bind_some hd;refine isTrue_or (thn (h1.run e1 I R) fun y s1 ⟨ey,H1,I1,a1,R1⟩=>?_);subst ey;cases y with
 | false =>
  have e2:db ρ n1=some (c,n'):=e2;exact h2 B ρ n1 c n' e2 wh pins s1 O H1 Q I1 ⟨R1,fun H' p q=>k H' (a1.trans p) q⟩
 | true =>
  have e2:some (true,n1)=some (c,n'):=e2;cases e2;exact⟨H1,I1,k H1 a1 R1.tn⟩
theorem se_if{c a b:Expr}{dc:DT}{da db:DE}{pos:Pos}(hc:ST X tw c dc)(ha:SE X tw a da)(hb:SE X tw b db):SE X tw (.IfExp c a b pos) (dIf dc da db):=by
 intro B ρ n t m n' hd pins s O H Q I ⟨R,k⟩;obtain⟨⟨x,n1⟩,e1,e2⟩:=bind_some hd;refine pe_ifExp (tA:=rT X.K B tw ρ n x n1) (ta:=fun O H Q=>x=true/\rE X.K B tw ρ n1 t m n' O H Q) (tb:=fun O H Q=>x=false/\rE X.K B tw ρ n1 t m n' O H Q) (hc B ρ n x n1 e1) ?_ ?_ pins s O H Q I ⟨R,fun H' p q=>?_⟩
 ·rintro pins s O H Q I ⟨rfl,h⟩;exact ha B ρ n1 t m n' e2 pins s O H Q I h
 ·rintro pins s O H Q I ⟨rfl,h⟩;exact hb B ρ n1 t m n' e2 pins s O H Q I h
 ·have R1:=R.mono p q;cases x with
  |true=>exact iteT ⟨rfl,R1,fun v H2 a b c=>k v H2 (p.trans a) b (c.back p q)⟩
  |false=>exact iteF ⟨rfl,R1,fun v H2 a b c=>k v H2 (p.trans a) b (c.back p q)⟩
theorem se_one{op}{e:Expr}{d:DE}{pos:Pos}(h:SE X tw e d):SE X tw (.BoolOp op [e] pos) d:=fun B ρ n t m n' hd=>pe_one (h B ρ n t m n' hd)
theorem se_and{a b:Expr}{rest:List Expr}{da db:DE}{pos:Pos}(h1:SE X tw a da)(h2:SE X tw (.BoolOp .And (b::rest) pos) db):SE X tw (.BoolOp .And (a::b::rest) pos) (dAndV da db):=by
 intro B ρ n t m n' hd pins s O H Q I ⟨R,k⟩;obtain⟨⟨x,m1,n1⟩,e1,e2⟩:=bind_some hd;refine BoolOp_and (thn (h1.run e1 I R) fun u s1 ⟨v,H1,I1,r1,a1,R1,c1⟩=>?_);have rt:=c1.root R1 R.tn;cases x with
 | bl c =>
  have rt:Rep tw H1 (.bl c) v:=rt;rw[Rep] at rt;subst rt;cases r1;refine jx ?_;cases c with
  | true =>
   have e2:db ρ n1=some (t,m,n'):=e2;exact h2 B ρ n1 t m n' e2 pins s1 O H1 Q I1 ⟨R1,fun v H' p q r=>k v H' (a1.trans p) q (r.back a1 R1.tn)⟩
  | false =>
   have e2:some (T.bl false,Md.fz,n1)=some (t,m,n'):=e2;cases e2;exact⟨.bl false,H1,I1,rfl,k _ H1 a1 R1.tn (by show Rep tw H1 (.bl false) _;rw[Rep])⟩
 |_=>cases e2
def rF(K:PySem.W.Frag)(B:Hp)(tw:Addr)(ρ:En)(n:Nat)(ts:List T)(n':Nat):TA:=fun O H Q =>
 Rel K B tw ρ n O H/\∀vs H',Ext tw H H'->Tn tw n' H'->Reps tw H' ts vs->Q vs H'
def SF(X:Cx)(tw:Addr)(es:List Expr)(d:DA):Prop:=∀B ρ n ts n',d ρ n=some (ts,n')->PA X es (rF X.K B tw ρ n ts n')
theorem aAq:SF X tw [] dNil:=by intro B ρ n ts n' hd pos pins s O H Q I ⟨R,k⟩;cases hd;exact aP3 pos pins s O H Q I (k [] H (.refl _ _) R.tn .nil)
theorem aAi{e:Expr}{es:List Expr}{d:DE}{r:DA}(h1:SE X tw e d)(h2:SF X tw es r)(hs:autoParam (jV (e::es) X.env=(false,eval e X.env)::jV es X.env) lZ):SF X tw (e::es) (aAa (dFz d) r):=by
 intro B ρ n ts n' hd pos pins s O H Q I ⟨R,k⟩;obtain⟨⟨t,m,n1⟩,e1,e2⟩:=bind_some hd;obtain⟨⟨ts',n2⟩,e3,e4⟩:=map_some e2;cases e4;obtain rfl:m = .fz:=by obtain⟨_,_,q⟩:=bind_some e1;obtain⟨_,_,q⟩:=map_some q;cases q;rfl
 rw[hs];show wpAny _ _ (spliced ((false,eval e X.env)::jg pos (jV es X.env))) _ _ s;refine dS (thn ((aQc h1).run e1 I R) fun u s1 ⟨v,H1,I1,r1,a1,R1,c1⟩=>?_);refine thn (h2 B ρ n1 ts' n2 e3 pos pins s1 O H1 (fun vs H2=>Ext tw H1 H2/\Tn tw n2 H2/\Reps tw H2 ts' vs) I1 ⟨R1,fun vs H' x y z=>⟨x,y,z⟩⟩) fun us s2 ⟨vs,H2,I2,r2,a2,t2,c2⟩=>?_;exact⟨v::vs,H2,I2,.cons r1 r2,k _ _ (a1.trans a2) t2 (.cons (Rep.mono (a2.fx R1.tn) _ _ c1) c2)⟩
theorem aC9{k:Nat}(h:k<=big):k<=jU:=ao h (by rw[jz];decide)
theorem aRo{k:Nat}(h:k<big):k<jU:=bz h (by rw[jz];decide)
theorem aBu{es:List Expr}{a:DA}{x1}{pos:Pos}(h:SF X tw es a):SE X tw (.Tuple es x1 pos) (dTup a):=by
 intro B ρ n t m n' hd pins s O H Q I ⟨R,k⟩;obtain⟨⟨ts,n1⟩,e1,e2⟩:=bind_some hd;by_cases hb:ts.length<=big
 ·rw[if_pos hb] at e2;cases e2;refine pe_tup (h B ρ n ts n1 e1) pins s O H Q I ⟨R,fun vs H' x y z=>⟨by rw[<-z.length];exact aC9 hb,fun p hp=>k _ _ (x.trans (.new hp)) (y.new hp) ?_⟩⟩;show Rep tw _ (.tup ts) _;rw[Rep];exact⟨p,vs,rfl,aAj,Reps.mono (.new hp) _ _ z⟩
 ·rw[if_neg hb] at e2;cases e2
theorem aB2{es:List Expr}{a:DA}{pos:Pos}(h:SF X tw es a):SE X tw (.List es pos) (dLst a):=by
 intro B ρ n t m n' hd pins s O H Q I ⟨R,k⟩;obtain⟨⟨ts,n1⟩,e1,e2⟩:=bind_some hd;by_cases hb:ts.length<=big
 ·rw[if_pos hb] at e2;cases e2;refine pe_lst (h B ρ n ts n1 e1) pins s O H Q I ⟨R,fun vs H' x y z=>⟨by rw[<-z.length];exact aC9 hb,fun p hp=>k _ _ (x.trans (.new hp)) (y.new hp) ?_⟩⟩;exact⟨p,rfl,x.free y hp,vs,aAj,Reps.mono (.new hp) _ _ z⟩
 ·rw[if_neg hb] at e2;cases e2
inductive Args (K:PySem.W.Frag) (tw:Addr) (H:Hp):List (T × Bool)->List V->Prop
 |nil:Args K tw H [] []
 |cons {t:T} {b:Bool} {v:V} {ts:List (T × Bool)} {vs:List V}:(b=true->Rep tw H t v)->Root K tw H t v->Args K tw H ts vs->Args K tw H ((t,b)::ts) (v::vs)
theorem Args.length{K:PySem.W.Frag}{H:Hp}:∀ {ts:List (T × Bool)} {vs:List V},Args K tw H ts vs->ts.length=vs.length
 |_,_,.nil=>rfl
 |_,_,.cons _ _ b=>by rw[aa,aa,Args.length b]
def rB(K:PySem.W.Frag)(B:Hp)(tw:Addr)(ρ:En)(n:Nat)(ts:List (T × Bool))(n':Nat):TA:=fun O H Q =>
 Rel K B tw ρ n O H/\∀vs H',Ext tw H H'->Tn tw n' H'->Args K tw H' ts vs->Q vs H'
def SB(X:Cx)(tw:Addr)(es:List Expr)(d:DB):Prop:=∀B ρ n ts n',d ρ n=some (ts,n')->PA X es (rB X.K B tw ρ n ts n')
theorem aAl:SB X tw [] bNil:=by intro B ρ n ts n' hd pos pins s O H Q I ⟨R,k⟩;cases hd;exact aP3 pos pins s O H Q I (k [] H (.refl _ _) R.tn .nil)
def frm:Md->Md
 |.own=>.fz
 |.bor=>.bor
 |.lent=>.lent
 |.fz=>.fz
def dTmp(d:DE):DE:=fun ρ n=>(d ρ n).map fun r=>(r.1,frm r.2.1,r.2.2)
theorem bBi{e:Expr}{d:DE}(h:SE X tw e d):SE X tw e (dTmp d):=by
 intro B ρ n t m n' hd;obtain⟨⟨t0,m0,n0⟩,h1,h2⟩:=map_some hd;cases h2;cases m0 with
 |own=>exact aQc h B ρ n _ _ _ (by unfold dFz;rw[h1];rfl)
 |bor=>exact h B ρ n _ _ _ h1
 |lent=>exact h B ρ n _ _ _ h1
 |fz=>exact h B ρ n _ _ _ h1
theorem aAc{e:Expr}{es:List Expr}{d:DE}{r:DB}(h1:SE X tw e d)(h2:SB X tw es r)(hs:autoParam (jV (e::es) X.env=(false,eval e X.env)::jV es X.env) lZ):SB X tw (e::es) (aAe d r):=by
 intro B ρ n ts n' hd pos pins s O H Q I ⟨R,k⟩;obtain⟨⟨t,m,n1⟩,e1,e2⟩:=bind_some hd;obtain⟨⟨ts',n2⟩,e3,e4⟩:=map_some e2;cases e4;rw[hs];show wpAny _ _ (spliced ((false,eval e X.env)::jg pos (jV es X.env))) _ _ s;have e1':dTmp d ρ n=some (t,frm m,n1):=by unfold dTmp;rw[e1];rfl
 refine dS (thn ((bBi h1).run e1' I R) fun u s1 ⟨v,H1,I1,r1,a1,R1,c1⟩=>?_);refine thn (h2 B ρ n1 ts' n2 e3 pos pins s1 O H1 (fun vs H2=>Ext tw H1 H2/\Tn tw n2 H2/\Args X.K tw H2 ts' vs) I1 ⟨R1,fun vs H' x y z=>⟨x,y,z⟩⟩) fun us s2 ⟨vs,H2,I2,r2,a2,t2,c2⟩=>?_;refine⟨v::vs,H2,I2,.cons r1 r2,k _ _ (a1.trans a2) t2 (.cons (fun hb=>?_) (Root.ext R1.tn a2 (c1.root R1 R.tn)) c2)⟩;have rt:Root X.K tw H1 t v:=c1.root R1 R.tn;cases m with
 |own=>exact Rep.mono (a2.fx R1.tn) _ _ c1
 |fz=>exact Rep.mono (a2.fx R1.tn) _ _ c1
 |bor=>exact Rep.mono (a2.fx R1.tn) _ _ (rt.rep (by simpa[flag] using hb))
 |lent=>exact Rep.mono (a2.fx R1.tn) _ _ (rt.rep (by simpa[flag] using hb))
def SpF(K:PySem.W.Frag)(tw:Addr)(ar:Nat)(f:Fn):Sp:=fun vs H Q _=>vs.length=ar/\∃ts n t m n',Args K tw H ts vs/\Tn tw n H/\f ts n=some (t,m,n') /\
 ∀v H',Ext tw H H'->Tn tw n' H'->Val K H tw H H' t (md m) v->Q v H'
theorem Val.base{K:PySem.W.Frag}{B B':Hp}{H0 H:Hp}{t:T}{m:Bool}{v:V}(h:Val K B tw H0 H t (md m) v):Val K B' tw H0 H t (md m) v:=by cases m<;>exact h
theorem se_call{f:Fn}{lv:Nat}{fa:Addr}{fd:jr}{ps:List Str}{x:Str}{p pos:Pos}{e:Expr}{es:List Expr}{a:DB}{ar:Nat}(F:FnOk X.prog X.w X.K X.mg X.base CX0 lv fa fd ps (SpF X.K tw ar f))(hr:Room lv X.A)(hm:X.mg x=some (.ref fa))(hk:PySem.W.keepIn X.K (.ref fa)=true)
  (hb:Binds X.K fd ps []) (ha:SB X tw (e::es) a) (hg:autoParam (Gl X x) lZ) (hdb:autoParam ZO l5) (he:autoParam (jV (e::es) X.env=(false,eval e X.env)::jV es X.env) lZ)
  (hpl:autoParam ((jg pos (jV es X.env)).any (·.1)=false) lZ):SE X tw (.Call (.Name x p) (e::es) [] pos) (dCall ar f a):=by
 intro B ρ n t m n' hd pins s O H Q I ⟨R,k⟩;obtain⟨⟨ts,n1⟩,e1,e2⟩:=bind_some hd;by_cases hl:ts.length=ar
 ·rw[if_pos hl] at e2;obtain⟨⟨t1,m1,n2⟩,e3,e4⟩:=map_some e2;cases e4;refine pe_call (E:=E0) (sp:=SpF X.K tw ar f) F hr hg hm hk hb .nil pass0 (ha B ρ n ts n1 e1) hdb he hpl pins s O H Q I ⟨R,fun vs H' x y z=>?_⟩;show SpF X.K tw ar f (vs ++ []) H' Q E0;rw[fA];exact⟨z.length▸hl,ts,n1,t1,m1,n2,z,y,e3,fun v H'' a b c=>k v H'' (x.trans a) b (c.base.back x y)⟩
 ·rw[if_neg hl] at e2;cases e2
section
variable {K:PySem.W.Frag}{B:Hp}{ρ:En}{n:Nat}{O:St}{H:Hp}{i j:Nat}{t t':T}{m:Md}{v:V}
theorem aA2{α:Type}{l:List α}{i j:Nat}{x y:α}(h:(l.set i x)[j]?=some y):(j=i/\y=x/\i<l.length)\/(j≠i/\l[j]?=some y):=by
 rw[gC] at h;by_cases e:i=j
 ·subst e;rw[if_pos rfl] at h;split at h
  ·rename_i hl;exact .inl ⟨rfl,(Option.some.inj h).symm,hl⟩
  ·cases h
 ·rw[if_neg e] at h;exact .inr ⟨fun z=>e z.symm,h⟩
theorem aD2{α:Type}{l:List α}{i:Nat}{x:α}(h:i<l.length):(l.set i x)[i]?=some x:=by rw[gC,if_pos rfl,if_pos h]
theorem aBg{α:Type}{l:List α}{i j:Nat}{x:α}(h:j≠i):(l.set i x)[j]?=l[j]?:=by rw[gC,if_neg (Ne.symm h)]
theorem Rel.setF(R:Rel K B tw ρ n O H)(h:Rep tw H t v):Rel K B tw (ρ.set i (some (t,.fz))) n (O.set i (some v)) H:=by
 refine⟨R.ext,R.tn,R.btn,by rw[d4,d4];exact R.len,fun j t' e=>?_,fun j t' e=>?_,fun j t' e=>?_,fun j t' e=>?_,fun j k t1 t2 a e1 e2 s1 s2=>?_⟩
 ·rcases aA2 e with ⟨rfl,q,hl⟩ |⟨ne,e⟩
  ·cases q;exact⟨v,aD2 (R.len▸hl),h⟩
  ·obtain⟨w,h1,h2⟩:=R.fz j t' e;exact⟨w,by rw[aBg ne];exact h1,h2⟩
 ·rcases aA2 e with ⟨rfl,q,hl⟩ |⟨ne,e⟩
  ·cases q
  ·obtain⟨w,h1,h2⟩:=R.bor j t' e;exact⟨w,by rw[aBg ne];exact h1,h2⟩
 ·rcases aA2 e with ⟨rfl,q,hl⟩ |⟨ne,e⟩
  ·cases q
  ·obtain⟨w,h1,h2⟩:=R.own j t' e;exact⟨w,by rw[aBg ne];exact h1,h2⟩
 ·rcases aA2 e with ⟨rfl,q,hl⟩ |⟨ne,e⟩
  ·cases q
  ·exact R.nol j t' e
 ·rcases aA2 e1 with ⟨rfl,q,hl⟩ |⟨n1,e1⟩
  ·cases q
  ·rcases aA2 e2 with ⟨rfl,q,hl⟩ |⟨n2,e2⟩
   ·cases q
   ·rw[aBg n1] at s1;rw[aBg n2] at s2;exact R.dis j k t1 t2 a e1 e2 s1 s2
theorem Rel.setO(R:Rel K B tw ρ n O H)(hB:B a=none)(h:aK3 tw H a t)(hd:∀ (j:Nat) (t':T),j≠i->ρ[j]?=some (some (t',.own))->O[j]?≠some (some (.ref a))) :
  Rel K B tw (ρ.set i (some (t,.own))) n (O.set i (some (.ref a))) H:=by
 refine⟨R.ext,R.tn,R.btn,by rw[d4,d4];exact R.len,fun j t' e=>?_,fun j t' e=>?_,fun j t' e=>?_,fun j t' e=>?_,fun j k t1 t2 b e1 e2 s1 s2=>?_⟩
 ·rcases aA2 e with ⟨rfl,q,hl⟩ |⟨ne,e⟩
  ·cases q
  ·obtain⟨w,h1,h2⟩:=R.fz j t' e;exact⟨w,by rw[aBg ne];exact h1,h2⟩
 ·rcases aA2 e with ⟨rfl,q,hl⟩ |⟨ne,e⟩
  ·cases q
  ·obtain⟨w,h1,h2⟩:=R.bor j t' e;exact⟨w,by rw[aBg ne];exact h1,h2⟩
 ·rcases aA2 e with ⟨rfl,q,hl⟩ |⟨ne,e⟩
  ·cases q;exact⟨a,aD2 (R.len▸hl),hB,h⟩
  ·obtain⟨w,h1,h2⟩:=R.own j t' e;exact⟨w,by rw[aBg ne];exact h1,h2⟩
 ·rcases aA2 e with ⟨rfl,q,hl⟩ |⟨ne,e⟩
  ·cases q
  ·exact R.nol j t' e
 ·rcases aA2 e1 with ⟨rfl,q,hl⟩ |⟨n1,e1'⟩
  ·rw[aD2 (R.len▸hl)] at s1;cases s1;rcases aA2 e2 with ⟨rfl,q,hl⟩ |⟨n2,e2⟩
   ·rfl
   ·rw[aBg n2] at s2;exact absurd s2 (hd k t2 n2 e2)
  ·rw[aBg n1] at s1;rcases aA2 e2 with ⟨rfl,q,hl⟩ |⟨n2,e2⟩
   ·rw[aD2 (R.len▸hl)] at s2;cases s2;exact absurd s1 (hd j t1 n1 e1')
   ·rw[aBg n2] at s2;exact R.dis j k t1 t2 b e1' e2 s1 s2
theorem Rel.drop(R:Rel K B tw ρ n O H)(i:Nat):Rel K B tw (ρ.set i none) n O H:=by
 have key:∀ (j:Nat) (p:T × Md),(ρ.set i none)[j]?=some (some p)->ρ[j]?=some (some p):=fun j p e=>by
  rcases aA2 e with ⟨rfl,q,hl⟩ |⟨ne,e⟩
  ·cases q
  ·exact e
 exact⟨R.ext,R.tn,R.btn,by rw[d4];exact R.len,fun j t' e=>R.fz j t' (key j _ e),fun j t' e=>R.bor j t' (key j _ e),fun j t' e=>R.own j t' (key j _ e),fun j t' e=>R.nol j t' (key j _ e),
  fun j k t1 t2 a e1 e2 s1 s2=>R.dis j k t1 t2 a (key j _ e1) (key k _ e2) s1 s2⟩
end
theorem aA8:SSs X tw [] aCh:=by intro B ρ n f ρ' n' hd pins s O H D I ⟨R,k⟩;cases hd;exact pss_nil pins s O H D I (k O H (.refl _) R)
theorem aAf{st:Stmt}{d:DS}(h:SS X tw st d):SSs X tw [st] d:=fun B ρ n f ρ' n' hd=>pss_one (h B ρ n f ρ' n' hd)
theorem aAd{st:Stmt}{sts:List Stmt}{d e:DS}(h1:SS X tw st d)(h2:SSs X tw sts e):SSs X tw (st::sts) (dSeq d e):=by
 intro B ρ n f ρ' n' hd pins s O H D I ⟨R,k⟩;obtain⟨⟨f1,ρ1,n1⟩,e1,e2⟩:=bind_some hd;cases f1 with
 | nx =>
  have e2:e ρ1 n1=some (f,ρ',n'):=e2;exact aG0 (h1 B ρ n .nx ρ1 n1 e1) (h2 B ρ1 n1 f ρ' n' e2) pins s O H D I ⟨R,fun σ' H' x y=>⟨y,k.fx x⟩⟩
 |bk=>cases e2;exact aG0 (h1 B ρ n .bk ρ1 n1 e1) aKh pins s O H D I ⟨R,k⟩
 |ct=>cases e2;exact aG0 (h1 B ρ n .ct ρ1 n1 e1) aKh pins s O H D I ⟨R,k⟩
 |rt t m=>cases e2;exact aG0 (h1 B ρ n (.rt t m) ρ1 n1 e1) aKh pins s O H D I ⟨R,k⟩
theorem aG1{st:Stmt}:SS X tw st aIn:=by intro B ρ n f ρ' n' hd;cases hd
theorem aC0{c:Expr}{a b:List Stmt}{dc:DT}{da db:DS}{pos:Pos}(hc:ST X tw c dc)(ha:SSs X tw a da)(hb:SSs X tw b db):SS X tw (.If c a b pos) (dIfS dc da db):=by
 intro B ρ n f ρ' n' hd pins s O H D I ⟨R,k⟩;obtain⟨⟨x,n1⟩,e1,e2⟩:=bind_some hd;refine wpAny_If (thn (hc.run e1 I R) fun y s1 ⟨ey,H1,I1,a1,R1⟩=>?_);subst ey;cases y with
 |true=>exact ha B ρ n1 f ρ' n' e2 pins s1 O H1 D I1 ⟨R1,k.fx (a1.fx R.tn)⟩
 |false=>exact hb B ρ n1 f ρ' n' e2 pins s1 O H1 D I1 ⟨R1,k.fx (a1.fx R.tn)⟩
theorem aEq{e:Expr}{d:DE}{pos:Pos}(h:SE X tw e d)(hs:autoParam (kg e none pos.line X.env=pure false) lZ):SS X tw (.Expr e pos) (aHb d):=by intro B ρ n f ρ' n' hd pins s O H D I ⟨R,k⟩;obtain⟨⟨t,m,n1⟩,e1,e2⟩:=map_some hd;cases e2;exact aMw (h B ρ n t m n1 e1) hs pins s O H D I ⟨R,fun v H' x y z=>k O H' (x.fx R.tn) (R.mono x y)⟩
theorem aAw{e:Expr}{d:DE}{pos:Pos}(h:SE X tw e d):SS X tw (.Return (some e) pos) (dRet d):=by
 intro B ρ n f ρ' n' hd pins s O H D I ⟨R,k⟩;obtain⟨⟨t,m,n1⟩,e1,e2⟩:=bind_some hd;refine ps_ret (h B ρ n t m n1 e1) pins s O H D I ⟨R,fun v H' x y z=>?_⟩;cases m with
 | own =>
  cases e2;exact k v H' (x.fx R.tn) (R.ext.trans x) y (z.back R.ext R.tn)
 | fz =>
  cases e2;exact k v H' (x.fx R.tn) (R.ext.trans x) y z
 |_=>cases e2
theorem aD8(i:Nat){x:Str}{pos pos':Pos}(hN:autoParam (X.N[i]?=some x) lZ)(hv:autoParam (Vis X.env.scope x) az7._auto_1)(hd:autoParam ZO l5)
  (hcd:autoParam ((x==("__classdict__" : Str))=false) l5):SS X tw (.Return (some (.Name x pos')) pos) (aC2 i):=by
 intro B ρ n f ρ' n' hh pins s O H D I ⟨R,k⟩;have fin:∃v,O[i]?=some (some v)/\D.rt v H:=by
  unfold aC2 at hh;cases e:ρ[i]? with
  |none=>rw[e] at hh;cases hh
  | some o =>
   cases o with
   |none=>rw[e] at hh;cases hh
   | some p =>
    obtain⟨t,m⟩:=p;rw[e] at hh;cases m with
    | own =>
     cases hh;obtain⟨a,h1,h2,h3⟩:=R.own i t e;exact⟨_,h1,k _ H (.refl _) R.ext R.tn ⟨a,rfl,h2,h3⟩⟩
    | fz =>
     cases hh;obtain⟨v,h1,h2⟩:=R.fz i t e;exact⟨_,h1,k _ H (.refl _) R.ext R.tn h2⟩
    | bor =>
     have hh:(if aDr t then none else some (Fl.rt t false,ρ,n))=some (f,ρ',n'):=hh;split at hh
     ·cases hh
     ·rename_i b;cases hh;obtain⟨v,h1,h2⟩:=R.bor i t e;exact⟨_,h1,k _ H (.refl _) R.ext R.tn (let ⟨_,bt⟩:=R.btn;Rep.mono (R.ext.fx bt) _ _ (h2.rep (by simpa using b)))⟩
    |lent=>cases hh
 obtain⟨v,h1,h2⟩:=fin;exact ps_ret (aIl hN hv hd hcd) pins s O H D I ⟨v,h1,h2⟩
theorem aSx{K:PySem.W.Frag}{B:Hp}{ρ:En}{n:Nat}{O:St}{H:Hp}{a:Addr}(R:Rel K B tw ρ n O H)(h:H a=none):∀ (j:Nat) (t':T),ρ[j]?=some (some (t',.own))->O[j]?≠some (some (.ref a)):=fun j t' e z=>by obtain⟨b,h1,_,h3⟩:=R.own j t' e;rw[z] at h1;cases h1;exact h3.some h
theorem Rel.store{K:PySem.W.Frag}{B:Hp}{ρ ρ':En}{n n':Nat}{O:St}{H H':Hp}{i:Nat}{t:T}{m:Md}{v:V}(R:Rel K B tw ρ n O H)(x:Ext tw H H')(y:Tn tw n' H')(z:Val K B tw H H' t m v)
  (h:(match m with |.own=>some (ρ.set i (some (t,Md.own))) |.fz=>some (ρ.set i (some (t,Md.fz))) |_=>none)=some ρ'):Rel K B tw ρ' n' (O.set i (some v)) H':=by
 have R1:=R.mono x y;cases m with
 | own =>
  cases h;obtain⟨a,rfl,q2,q3⟩:=z;exact R1.setO (R.ext.free R.tn q2) q3 fun j t' _ e z=>aSx R q2 j t' e z
 | fz =>
  cases h;exact R1.setF z
 |_=>cases h
theorem aA7(i:Nat){x:Str}{e:Expr}{d:DE}{pos pos':Pos}(h:SE X tw e d)(hN:X.N.Nodup)(hi:autoParam (X.N[i]?=some x) lZ)(hx:autoParam (Loc X.env.scope x) az4._auto_1)(hs:autoParam (kg e (some (.Name x pos')) pos.line X.env=pure false) lZ)
  (hf:autoParam (X.fn x=true\/X.env.scope.names.lookup x=some .local) l6):SS X tw (.Assign [.Name x pos'] e pos) (dSet i d):=by
 intro B ρ n f ρ' n' hd pins s O H D I ⟨R,k⟩;obtain⟨⟨t,m,n1⟩,e1,e2⟩:=bind_some hd;refine aYf hN hi hx (h B ρ n t m n1 e1) hs hf pins s O H D I ⟨R,fun v H' x y z=>?_⟩;cases m with
 |own=>cases e2;exact k _ H' (x.fx R.tn) (R.store x y z rfl)
 |fz=>cases e2;exact k _ H' (x.fx R.tn) (R.store x y z rfl)
 |_=>cases e2
theorem aKx(i j:Nat){x y:Str}{pos pos' py:Pos}(hN:X.N.Nodup)(hij:autoParam (i≠j) l5)(hi:autoParam (X.N[i]?=some x) lZ)(hx:autoParam (Loc X.env.scope x) az4._auto_1)(hj:autoParam (X.N[j]?=some y) lZ)(hv:autoParam (Vis X.env.scope y) az7._auto_1)
  (hd:autoParam ((y==("__debug__" : Str))=false) l5) (hcd:autoParam ((y==("__classdict__" : Str))=false) l5) (hs:autoParam (kg (.Name y py) (some (.Name x pos')) pos.line X.env=pure false) lZ)
  (hf:autoParam (X.fn x=true\/X.env.scope.names.lookup x=some .local) l6):SS X tw (.Assign [.Name x pos'] (.Name y py) pos) (aC3 i j):=by
 intro B ρ n f ρ' n' hh pins s O H D I ⟨R,k⟩;have fin:∃v,O[j]?=some (some v)/\D.nx (O.set i (some v)) H:=by
  unfold aC3 at hh;cases e:ρ[j]? with
  |none=>rw[e] at hh;cases hh
  | some o =>
   cases o with
   |none=>rw[e] at hh;cases hh
   | some p =>
    obtain⟨t,m⟩:=p;rw[e] at hh;cases m with
    | own =>
     cases hh;obtain⟨a,h1,h2,h3⟩:=R.own j t e;refine⟨_,h1,k _ H (.refl _) ((R.drop j).setO h2 h3 fun l t' _ e1 e2=>?_)⟩;rcases aA2 e1 with ⟨_,q,_⟩ |⟨ne,e1⟩
     ·cases q
     ·exact ne (R.dis l j t' t a e1 e e2 h1)
    | fz =>
     cases hh;obtain⟨v,h1,h2⟩:=R.fz j t e;exact⟨_,h1,k _ H (.refl _) (R.setF h2)⟩
    | bor =>
     have hh:(if aDr t then none else some (Fl.nx,ρ.set i (some (t,Md.fz)),n))=some (f,ρ',n'):=hh;split at hh
     ·cases hh
     ·rename_i b;cases hh;obtain⟨v,h1,h2⟩:=R.bor j t e;exact⟨_,h1,k _ H (.refl _) (R.setF (let ⟨_,bt⟩:=R.btn;Rep.mono (R.ext.fx bt) _ _ (h2.rep (by simpa using b))))⟩
    |lent=>cases hh
 obtain⟨v,h1,h2⟩:=fin;exact aYf hN hi hx (aIl hj hv hd hcd) hs hf pins s O H D I ⟨v,h1,h2⟩
theorem Rel.write{K:PySem.W.Frag}{B:Hp}{ρ:En}{n:Nat}{O:St}{H:Hp}{i:Nat}{t t':T}{a:Addr}{o:HO}(R:Rel K B tw ρ n O H)(e:ρ[i]?=some (some (t,.own)))(es:O[i]?=some (some (.ref a)))(h:aK3 tw (upd H a o) a t') :
  Rel K B tw (ρ.set i (some (t',.own))) n O (upd H a o)/\Fx H (upd H a o):=by
 obtain⟨a',e1,hB,ow⟩:=R.own i t e;rw[es] at e1;cases e1;have na:=R.own_ne hB
 have fx:Fx H (upd H a o):=fun b=>⟨fun vs q=>by rw[aAk (by rintro rfl;cases t<;>first |(exact(show False from ow).elim) |(obtain⟨_,z,_⟩:=ow;rw[q] at z;cases z))];exact q,
  fun o' u q=>by
   rw[aAk (by rintro rfl;cases t<;>first |(exact(show False from ow).elim) |(obtain⟨_,z,_⟩:=ow;rw[q] at z;cases z))];exact q⟩
 have il:i<ρ.length:=(b9.mp e).1;refine⟨⟨R.ext.put hB,by show upd H a o tw=_;rw[aAk na.symm];exact R.tn,R.btn,by rw[d4];exact R.len,fun j t1 q=>?_,fun j t1 q=>?_,fun j t1 q=>?_,fun j t1 q=>?_,fun j k t1 t2 b q1 q2 s1 s2=>?_⟩,fx⟩
 ·rcases aA2 q with ⟨_,z,_⟩ |⟨ne,q⟩
  ·cases z
  ·obtain⟨v,h1,h2⟩:=R.fz j t1 q;exact⟨v,h1,Rep.mono fx _ _ h2⟩
 ·rcases aA2 q with ⟨_,z,_⟩ |⟨ne,q⟩
  ·cases z
  ·exact R.bor j t1 q
 ·rcases aA2 q with ⟨rfl,z,_⟩ |⟨ne,q⟩
  ·cases z;exact⟨a,es,hB,h⟩
  ·obtain⟨b,h1,h2,h3⟩:=R.own j t1 q;refine⟨b,h1,h2,?_⟩;have nb:b≠a:=by rintro rfl;exact ne (R.dis j i t1 t b q e h1 es)
   cases t1 with
   |lst xs=>obtain⟨vs,z1,z2⟩:=h3;exact⟨vs,by rw[aAk nb];exact z1,Reps.mono fx _ _ z2⟩
   |dic kvs=>obtain⟨vs,z1,z2⟩:=h3;exact⟨vs,by rw[aAk nb];exact z1,RepK.mono fx _ _ z2⟩
   |rdc ks=>obtain⟨vs,z1,z2⟩:=h3;exact⟨vs,by rw[aAk nb];exact z1,z2⟩
   |_=>exact h3.elim
 ·rcases aA2 q with ⟨_,z,_⟩ |⟨ne,q⟩
  ·cases z
  ·exact R.nol j t1 q
 ·have back:∀ (l:Nat) (t0:T),(ρ.set i (some (t',Md.own)))[l]?=some (some (t0,Md.own))->∃t0',ρ[l]?=some (some (t0',Md.own)):=fun l t0 z=>by
   rcases aA2 z with ⟨rfl,_,_⟩ |⟨_,z⟩
   ·exact⟨t,e⟩
   ·exact⟨t0,z⟩
  obtain⟨u1,z1⟩:=back j t1 q1;obtain⟨u2,z2⟩:=back k t2 q2;exact R.dis j k u1 u2 b z1 z2 s1 s2
def rSetB:TSet:=fun o i v H Q=>rSetL o i v H Q\/∃a H',o = .ref a/\DPut H a i v H'/\Q H'
theorem set_both(hu:X.A.units+1<cLine):PSet X rSetB:=by
 intro pins s O H o i v ov iv u Q I ro ri rv h;rcases h with h |⟨a,H',rfl,g,q⟩
 ·exact set_list pins s O H o i v ov iv u Q I ro ri rv h
 ·cases ro;exact bBy hu I g ri rv fun s' I'=>⟨H',I',q⟩
theorem RepK.length:∀ {kvs:List (Key × T)} {ws:List (Key × V)},RepK tw H kvs ws->kvs.length=ws.length
 |[],_,r=>by rw[RepK] at r;rw[r];rfl
 |(k,x)::xs,_,r=>by rw[RepK] at r;obtain⟨v,w,rfl,p,q⟩:=r;rw[aa,aa,RepK.length q]
theorem aEc(a:Rep tw H x v)(b:RepK tw H xs ws):RepK tw H ((k,x)::xs) ((k,v)::ws):=by rw[RepK];exact⟨v,ws,rfl,a,b⟩
theorem RepK.at(k:Key):∀ {kvs:List (Key × T)} {ws:List (Key × V)},RepK tw H kvs ws->(aDc kvs k=none/\valV ws k=none)\/∃t v,aDc kvs k=some t/\valV ws k=some v/\Rep tw H t v
 |[],_,r=>by rw[RepK] at r;rw[r];exact .inl ⟨rfl,rfl⟩
 | (k',x)::xs,_,r=>by
  rw[RepK] at r;obtain⟨v,w,rfl,p,q⟩:=r;by_cases e:k'=k
  ·subst e;exact .inr ⟨x,v,by simp[aDc,dw],aVo rfl,p⟩
  ·have e1:aDc ((k',x)::xs) k=aDc xs k:=by simp[aDc,dw,e]
   rw[e1,aVv (show ¬ (k',v).1=k from e)];exact RepK.at k q
theorem RepK.any(k:Key)(r:RepK tw H kvs ws):(kvs.any fun kv=>decide (kv.1=k))=(ws.any fun kv=>decide (kv.1=k)):=by
 induction kvs generalizing ws with
 |nil=>rw[RepK] at r;rw[r];rfl
 | cons p xs ih =>
  obtain⟨k',x⟩:=p;rw[RepK] at r;obtain⟨v,w,rfl,p,q⟩:=r;rw[fB,fB,ih q]
theorem RepK.put(k:Key)(hx:Rep tw H x v)(r:RepK tw H kvs ws):RepK tw H (aCc kvs k x) (putK ws k v):=by
 unfold aCc putK;rw[<-r.any k];have mapped:∀ {kvs:List (Key × T)} {ws:List (Key × V)},RepK tw H kvs ws->RepK tw H (kvs.map fun kv=>if kv.1=k then (kv.1,x) else kv) (ws.map fun kv=>if kv.1=k then (kv.1,v) else kv):=by
  intro kvs
  induction kvs with
  |nil=>intro ws r;rw[RepK] at r;rw[r];rw[eD,eD,RepK]
  | cons p xs ih =>
   intro ws r;obtain⟨k',y⟩:=p;rw[RepK] at r;obtain⟨v',w,rfl,p,q⟩:=r;rw[a8,a8];by_cases e:k'=k
   ·rw[if_pos e,if_pos e];exact aEc hx (ih q)
   ·rw[if_neg e,if_neg e];exact aEc p (ih q)
 have snoc:∀ {kvs:List (Key × T)} {ws:List (Key × V)},RepK tw H kvs ws->RepK tw H (kvs ++ [(k,x)]) (ws ++ [(k,v)]):=by
  intro kvs
  induction kvs with
  |nil=>intro ws r;rw[RepK] at r;rw[r];exact aEc hx (by rw[RepK])
  | cons p xs ih =>
   intro ws r;obtain⟨k',y⟩:=p;rw[RepK] at r;obtain⟨v',w,rfl,p,q⟩:=r;exact aEc p (ih q)
 split
 ·exact mapped r
 ·exact snoc r
theorem aTu{H:Hp}{t:T}{k:Key}{v:V}{K:PySem.W.Frag}(h:keyOf t=some k)(r:Root K tw H t v):v=kV k:=by
 cases t with
 |int i=>cases h;have r:Rep tw H (.int i) v:=r;rw[Rep] at r;exact r
 |str x=>cases h;have r:Rep tw H (.str x) v:=r;rw[Rep] at r;exact r
 |_=>cases h
theorem ixN_of{n:Nat}{i:Int}(h0:0<=i)(h1:i<n):ixN n i=some i.toNat:=by unfold ixN;rw[if_pos h0,if_pos h1]
theorem aM8(i:Nat){x:Str}{ke e:Expr}{dk d:DE}{pos pos' px:Pos}(hu:X.A.units+1<cLine)(hv:SE X tw e d)(hk:SE X tw ke dk)(hN:autoParam (X.N[i]?=some x) lZ)(hvis:autoParam (Vis X.env.scope x) az7._auto_1)(hd:autoParam ZO l5)
  (hcd:autoParam ((x==("__classdict__" : Str))=false) l5)
  (ha:autoParam (∀v,kM (.Subscript (.Name x px) ke pos') X.env v=(do
   let ov <-kL [v] (eval (.Name x px) X.env)
   let iv <-kL [v,ov] (eval ke X.env)
   standAt pos'
   kL [v,ov,iv] (setItem ov iv v)
   release [v,ov,iv] [])) l7)
  (hs:autoParam (swapsWithSole [.Subscript (.Name x px) ke pos'] e pos.line X.env=pure false) lZ) (hw:autoParam (swappedStores [.Subscript (.Name x px) ke pos'] e X.env=pure none) lZ)
  (h1:autoParam ((jk [.Subscript (.Name x px) ke pos'] X.env).map (·.2) = [kM (.Subscript (.Name x px) ke pos') X.env]) lZ):SS X tw (.Assign [.Subscript (.Name x px) ke pos'] e pos) (aCj i setL dk d):=by
 intro B ρ n f ρ' n' hh pins s O H D I ⟨R,k⟩;obtain⟨⟨tv,mv,n1⟩,e1,e2⟩:=bind_some hh;obtain⟨⟨tk,mk,n2⟩,e3,e4⟩:=bind_some e2;obtain rfl:mv = .fz:=by obtain⟨_,_,q⟩:=bind_some e1;obtain⟨_,_,q⟩:=map_some q;cases q;rfl
 have ⟨t,t',er,et,ef,eρ,en⟩:∃t t',ρ[i]?=some (some (t,Md.own))/\setL t tk tv=some t'/\f = .nx/\ρ'=ρ.set i (some (t',Md.own))/\n'=n2:=by
  cases e:ρ[i]? with
  |none=>rw[e] at e4;cases e4
  | some o =>
   cases o with
   |none=>rw[e] at e4;cases e4
   | some p =>
    obtain⟨t,m⟩:=p;rw[e] at e4;cases m with
    | own =>
     obtain⟨t',h1,h2⟩:=map_some e4;cases h2;exact⟨t,t',rfl,h1,rfl,rfl,rfl⟩
    |_=>cases e4
 subst ef eρ en;obtain⟨a,es,hB,_⟩:=R.own i t er;refine aYs ((aQc hv) B ρ n tv .fz n1 e1) (pg_sub (aIl hN hvis hd hcd) (hk B ρ n1 tk mk _ e3) (set_both hu) ha) hs hw h1 pins s O H D I ⟨R,fun v H1 x1 y1 z1=>?_⟩;have R1:=R.mono x1 y1;refine⟨.ref a,es,R1,fun kv H2 x2 y2 z2=>?_⟩;have R2:=R1.mono x2 y2;have rk:=z2.root R2 R1.tn;have rv:Rep tw H2 tv v:=Rep.mono (x2.fx R1.tn) _ _ z1;obtain⟨a',es',_,ow⟩:=R2.own i t er;rw[es] at es';cases es';have fx2:Fx H H2:=(x1.trans x2).fx R.tn;cases t with
 | lst xs =>
  obtain⟨vs,h1,h2⟩:=ow;cases tk with
  | int j =>
   have et:(if 0<=j/\j<xs.length then some (T.lst (xs.set j.toNat tv)) else none)=some t':=et;split at et
   ·rename_i hj;cases et;have rk:Rep tw H2 (.int j) kv:=rk;rw[Rep] at rk;subst rk;have hl:=h2.length;refine .inl ⟨a,vs,j,j.toNat,rfl,rfl,h1,ixN_of hj.1 (by rw[<-hl];exact hj.2),?_⟩
    obtain⟨W,fx⟩:=R2.write (t':=.lst (xs.set j.toNat tv)) (o:=.lst (vs.set j.toNat v)) er es ⟨_,aAj,by
     have fx:Fx H2 (upd H2 a (.lst (vs.set j.toNat v))):=fun b=>⟨fun vs q=>by rw[aAk (by rintro rfl;rw[h1] at q;cases q)];exact q,fun _ _ q=>by rw[aAk (by rintro rfl;rw[h1] at q;cases q)];exact q⟩
     exact Reps.set (Rep.mono fx _ _ rv) _ (Reps.mono fx _ _ h2)⟩
    exact k O _ (fx2.trans fx) W
   ·cases et
  |_=>cases et
 | dic kvs =>
  obtain⟨ws,h1,h2⟩:=ow;have et:(keyOf tk).bind (fun k=>if kvs.length<big then some (T.dic (aCc kvs k tv)) else none)=some t':=et;obtain⟨ky,q1,q2⟩:=bind_some et;split at q2
  ·rename_i hb;cases q2;have:=aTu q1 rk;subst this;refine .inr ⟨a,_,rfl,DPut.k h1 (by rw[<-RepK.length h2];exact aRo hb),?_⟩
   obtain⟨W,fx⟩:=R2.write (t':=.dic (aCc kvs ky tv)) (o:=.dK (putK ws ky v)) er es ⟨_,aAj,by
    have fx:Fx H2 (upd H2 a (.dK (putK ws ky v))):=fun b=>⟨fun vs q=>by rw[aAk (by rintro rfl;rw[h1] at q;cases q)];exact q,fun _ _ q=>by rw[aAk (by rintro rfl;rw[h1] at q;cases q)];exact q⟩
    exact RepK.put ky (Rep.mono fx _ _ rv) (RepK.mono fx _ _ h2)⟩
   exact k O _ (fx2.trans fx) W
  ·cases q2
 |rdc ks=>cases et
 |_=>exact(show False from ow).elim
theorem aUk{i:Nat}{ρ:En}{n:Nat}{f:Fl}{ρ':En}{n':Nat}{g:T->Option T}(h:(match ρ[i]? with
  |some (some (t,.own))=>(g t).map fun t'=>(Fl.nx,ρ.set i (some (t',Md.own)),n)
  |_=>none)=some (f,ρ',n')):∃t t',ρ[i]?=some (some (t,Md.own))/\g t=some t'/\f = .nx/\ρ'=ρ.set i (some (t',Md.own))/\n'=n:=by
 cases e:ρ[i]? with
 |none=>rw[e] at h;cases h
 | some o =>
  cases o with
  |none=>rw[e] at h;cases h
  | some p =>
   obtain⟨t,m⟩:=p;rw[e] at h;cases m with
   | own =>
    obtain⟨t',h1,h2⟩:=map_some h;cases h2;exact⟨t,t',rfl,h1,rfl,rfl,rfl⟩
   |_=>cases h
theorem aXf{n:Nat}{n':Nat}(e:dFz d ρ n=some (t,m,n')):m = .fz:=by obtain⟨_,_,q⟩:=bind_some e;obtain⟨_,_,q⟩:=map_some q;cases q;rfl
theorem ss_app(i:Nat){x:Str}{e:Expr}{d:DE}{pos px apos cpos:Pos}(hv:SE X tw e d)(hN:autoParam (X.N[i]?=some x) lZ)(hvis:autoParam (Vis X.env.scope x) az7._auto_1)(hd:autoParam ZO l5)
  (hcd:autoParam ((x==("__classdict__" : Str))=false) l5) (hbase:autoParam (kH (.Name x px) "append" X.env (eval (.Name x px) X.env)=eval (.Name x px) X.env) lZ)
  (hfew:autoParam (((jg cpos (jV [e] X.env)).all (fun x=>!x.1)&&(backToKw cpos (keywordEach [] X.env)).all (fun x=>x.1.isSome)
   && decide (([e]:List Expr).length+([]:List Keyword).length+(if ([]:List Keyword).isEmpty then 0 else 1)<30))=true) lZ)
  (hline:autoParam ((apos.endLine==cpos.line)=true) lZ) (hs:autoParam (jV [e] X.env=(false,eval e X.env)::jV [] X.env) lZ) (hplain:autoParam ((jg cpos (jV [] X.env)).any (·.1)=false) lZ) :
  SS X tw (.Expr (.Call (.Attribute (.Name x px) "append" apos) [e] [] cpos) pos) (dChg i appT d):=by
 intro B ρ n f ρ' n' hh pins s O H D I ⟨R,k⟩;obtain⟨⟨tv,mv,n1⟩,e1,e2⟩:=bind_some hh;obtain rfl:=aXf e1;obtain⟨t,t',er,et,rfl,rfl,rfl⟩:=aUk e2;obtain⟨a,es,hB,ow⟩:=R.own i t er;have hF:SF X tw [e] (aAa (dFz d) dNil):=aAi hv aAq hs;have e3:aAa (dFz d) dNil ρ n=some ([tv],n'):=by unfold aAa;rw[e1];rfl
 refine aMw (pe_bm PySem.F.plainAttrs_list PySem.F.slot_list_append PySem.F.type_list_append aKu (aIl hN hvis hd hcd) (hF B ρ n [tv] _ e3) hbase hfew hline hs hplain) (by rfl) pins s O H D I ?_;cases t with
 | lst xs =>
  obtain⟨vs,h1,h2⟩:=ow;have et:(if xs.length<big then some (T.lst (xs ++ [tv])) else none)=some t':=et;split at et
  ·rename_i hb;cases et;refine⟨.ref a,es,.inl ⟨rfl,vs,SqL.of h1⟩,R,fun ws H1 x1 y1 z1=>?_⟩;have R1:=R.mono x1 y1;obtain⟨v,w,rfl,rv,rw'⟩:=aAm z1;obtain rfl:=aA3 rw';have h1':=x1.to a _ h1 (R.own_ne hB);have h2':=Reps.mono (x1.fx R.tn) _ _ h2;refine⟨a,vs,v,rfl,rfl,h1',by rw[<-h2.length];exact aRo hb,?_⟩
   obtain⟨W,fx⟩:=R1.write (t':=.lst (xs ++ [tv])) (o:=.lst (vs ++ [v])) er es ⟨_,aAj,by
     have fx:Fx H1 (upd H1 a (.lst (vs ++ [v]))):=fun b=>⟨fun vs q=>by rw[aAk (by rintro rfl;rw[h1'] at q;cases q)];exact q,fun _ _ q=>by rw[aAk (by rintro rfl;rw[h1'] at q;cases q)];exact q⟩
     exact(Reps.mono fx _ _ h2').append (.cons (Rep.mono fx _ _ rv) .nil)⟩
   exact k O _ ((x1.fx R.tn).trans fx) W
  ·cases et
 |_=>cases et
section
open PySem.AutoSeq1
theorem ext_any(l:Addr)(items:Array Value)(n:Nat)(b:Addr)(items2:Array Value)(n2:Nat)(c:String)(hc:c = "list" \/ c = "tuple")(dx:Option Addr)(sl:Array (Option Value))(hs0:¬(!items.isEmpty&&Builtin.List.listTooLong (items.size+items2.size))=true)(hs1:items.size<=jU)(hs2:items.size+items2.size<=jU+1) :
  Meets (Builtin.«list.extend» ⟨[.ref l,.ref b],[]⟩) (fun _ R s=>s.heap.get? l=some { cls:=.type "list",dict:=none,data:=.seq items n,slots:=#[] }/\s.heap.get? b=some { cls:=.type c,dict:=dx,data:=.seq items2 n2,slots:=sl }/\R (.ok (.ret Value.none)) { s with heap:=s.heap.update l (Obj.mapSeq fun x=>x++items2),toks:=s.toks }):=by
 rcases hc with rfl |rfl
 ·exact .of_wp fun prog w A R s h=>by
   obtain⟨hp,g,d,tk,os⟩:=s;obtain⟨hl,hb,h⟩:=h;have f1:=idx_int;have f2:=PySem.AutoSeq1.sub_tuple_tuple;have f3:=PySem.AutoSeq1.sub_list_list;have f4:=PySem.AutoSeq1.sub_tuple_list;have f5:=PySem.AutoSeq1.sub_list_tuple;
   have hz':(items++items2).size<=jU+1:=by rw[jA];exact hs2
   wp_walk using (kG hl rfl (hz:=hs1) (_hz':=hz')),lH hl,lH hb;exact⟨_,rfl,h⟩
 ·exact .of_wp fun prog w A R s h=>by
   obtain⟨hp,g,d,tk,os⟩:=s;obtain⟨hl,hb,h⟩:=h;have f1:=idx_int;have f2:=PySem.AutoSeq1.sub_tuple_tuple;have f3:=PySem.AutoSeq1.sub_list_list;have f4:=PySem.AutoSeq1.sub_tuple_list;have f5:=PySem.AutoSeq1.sub_list_tuple;
   have hz':(items++items2).size<=jU+1:=by rw[jA];exact hs2
   wp_walk using (kG hl rfl (hz:=hs1) (_hz':=hz')),lH hl,lH hb;exact⟨_,rfl,h⟩
end
def rExt(K:PySem.W.Frag):V->List V->Hp->VK->Prop:=fun x vs H Q=>∃l b xs zs,x = .ref l/\vs = [.ref b]/\H l=some (.lst xs)/\(SqL K H b zs\/SqT K H b zs)/\xs.length+zs.length<=jU/\Q .non (upd H l (.lst (xs++zs)))
theorem mt_ext:MtM X "list.extend" (rExt X.K):=by
 intro pins s O H x vs v us Q I rx rv h;obtain⟨l,b,xs,zs,rfl,rfl,hH,hB,hz,q⟩:=h;cases rx;obtain⟨u,rfl,ru⟩:=rv.one;cases ru;obtain⟨z,its,n,r,hl,e⟩:=I.lstM hH;have key:∀ (its2:List Value),Vals zs its2->(∃ (o:Obj) (c:String) (n2:Nat),s.heap.get? b=some o/\(c = "list" \/ c = "tuple")/\o.cls = .type c/\o.data = .seq its2.toArray n2) ->
   wpAny ZC X.A (call (.builtin "list.extend") [.ref l,.ref b]) (EP X pins O Q) X.xe s:=fun its2 r2 ho=>by
  have hl2:=r2.length;have hsz:its.toArray.size+its2.toArray.size<=jU:=by rw[ah,ah];lia
  have hlong:¬ (!its.toArray.isEmpty&&Builtin.List.listTooLong (its.toArray.size+its2.toArray.size))=true:=by rw[notLongL hsz,gX];exact dU
  obtain⟨⟨cl,dx,dt,sl⟩,c,n2,e2,hc,rfl,rfl⟩:=ho;refine ko F.slot_list_extend ⟨_,e,rfl⟩ F.entry_list_extend (F.args_list_extend_2 _ _) (ext_any l its.toArray n b its2.toArray n2 c hc dx sl hlong (by rw[ah];lia) ZA) ⟨e,e2,?_⟩;exact⟨.non,_,I.lset (its':=its++its2) hH e ZJ (r.append r2) (by rw[bf];lia),rfl,q⟩
 rcases hB with hB |hB
 ·obtain⟨its2,r2,⟨o,n2,e2,c2,_,d2⟩,_⟩:=I.list hB;exact key its2 r2 ⟨o,"list",n2,e2,.inl rfl,c2,d2⟩
 ·obtain⟨its2,r2,⟨o,e2,c2,n2,d2⟩,_⟩:=I.tuple hB;exact key its2 r2 ⟨o,"tuple",n2,e2,.inr rfl,c2,d2⟩
theorem aRs(i:Nat){x:Str}{e:Expr}{d:DE}{pos px apos cpos:Pos}(hv:SE X tw e d)(hN:autoParam (X.N[i]?=some x) lZ)(hvis:autoParam (Vis X.env.scope x) az7._auto_1)(hd:autoParam ZO l5)
  (hcd:autoParam ((x==("__classdict__" : Str))=false) l5) (hbase:autoParam (kH (.Name x px) "extend" X.env (eval (.Name x px) X.env)=eval (.Name x px) X.env) lZ)
  (hfew:autoParam (((jg cpos (jV [e] X.env)).all (fun x=>!x.1)&&(backToKw cpos (keywordEach [] X.env)).all (fun x=>x.1.isSome)
   && decide (([e]:List Expr).length+([]:List Keyword).length+(if ([]:List Keyword).isEmpty then 0 else 1)<30))=true) lZ)
  (hline:autoParam ((apos.endLine==cpos.line)=true) lZ) (hs:autoParam (jV [e] X.env=(false,eval e X.env)::jV [] X.env) lZ) (hplain:autoParam ((jg cpos (jV [] X.env)).any (·.1)=false) lZ) :
  SS X tw (.Expr (.Call (.Attribute (.Name x px) "extend" apos) [e] [] cpos) pos) (dChg i extT d):=by
 intro B ρ n f ρ' n' hh pins s O H D I ⟨R,k⟩;obtain⟨⟨tv,mv,n1⟩,e1,e2⟩:=bind_some hh;obtain rfl:=aXf e1;obtain⟨t,t',er,et,rfl,rfl,rfl⟩:=aUk e2;obtain⟨a,es,hB,ow⟩:=R.own i t er;have hF:SF X tw [e] (aAa (dFz d) dNil):=aAi hv aAq hs;have e3:aAa (dFz d) dNil ρ n=some ([tv],n'):=by unfold aAa;rw[e1];rfl
 refine aMw (pe_bm PySem.F.plainAttrs_list PySem.F.slot_list_extend PySem.F.type_list_extend mt_ext (aIl hN hvis hd hcd) (hF B ρ n [tv] _ e3) hbase hfew hline hs hplain) (by rfl) pins s O H D I ?_;cases t with
 | lst xs =>
  obtain⟨vs,h1,h2⟩:=ow;refine⟨.ref a,es,.inl ⟨rfl,vs,SqL.of h1⟩,R,fun ws H1 x1 y1 z1=>?_⟩;have R1:=R.mono x1 y1;obtain⟨v,w,rfl,rv,rw'⟩:=aAm z1;obtain rfl:=aA3 rw';have h1':=x1.to a _ h1 (R.own_ne hB);have h2':=Reps.mono (x1.fx R.tn) _ _ h2;have fin:∀ (ys:List T) (b:Addr) (ws:List V),v = .ref b->Reps tw H1 ys ws->(SqL X.K H1 b ws\/SqT X.K H1 b ws)->(if xs.length+ys.length<=big then some (T.lst (xs++ys)) else none)=some t'->rExt X.K (.ref a) [v] H1 (fun _ H2=>D.nx O H2):=fun ys b ws ev rws sq et=>by
   split at et
   ·rename_i hb;cases et;subst ev;refine⟨a,b,vs,ws,rfl,rfl,h1',sq,by rw[<-h2.length,<-rws.length];exact aC9 hb,?_⟩
    obtain⟨W,fx⟩:=R1.write (t':=.lst (xs++ys)) (o:=.lst (vs++ws)) er es ⟨_,aAj,by
      have fx:Fx H1 (upd H1 a (.lst (vs++ws))):=fun b=>⟨fun vs q=>by rw[aAk (by rintro rfl;rw[h1'] at q;cases q)];exact q,fun _ _ q=>by rw[aAk (by rintro rfl;rw[h1'] at q;cases q)];exact q⟩
      exact(Reps.mono fx _ _ h2').append (Reps.mono fx _ _ rws)⟩
    exact k O _ ((x1.fx R.tn).trans fx) W
   ·cases et
  cases tv with
  | lst ys =>
   rw[Rep] at rv;obtain⟨b,o,ws,ev,hb,rws⟩:=rv;exact fin ys b ws ev rws (.inl (.inl (.inr ⟨o,hb⟩))) et
  | tup ys =>
   rw[Rep] at rv;obtain⟨b,ws,ev,hb,rws⟩:=rv;exact fin ys b ws ev rws (.inr (SqT.of hb)) et
  |_=>cases et
 |_=>cases et
theorem ss_town(i:Nat){x:Str}{j:Nat}{pos px apos cpos pc:Pos}(hN:autoParam (X.N[i]?=some x) lZ)(hvis:autoParam (Vis X.env.scope x) az7._auto_1)(hd:autoParam ZO l5)
  (hcd:autoParam ((x==("__classdict__" : Str))=false) l5) (hbase:autoParam (kH (.Name x px) "append" X.env (eval (.Name x px) X.env)=eval (.Name x px) X.env) lZ)
  (hline:autoParam ((apos.endLine==cpos.line)=true) lZ) :
  SS X tw (.Expr (.Call (.Attribute (.Name x px) "append" apos) [.Constant (.int 0) j pc] [] cpos) pos) (bB3 i):=by
 intro B ρ n f ρ' n' hh pins s O H D I ⟨R,k⟩;have ⟨m,er,hb,ef,eρ,en⟩:∃m,ρ[i]?=some (some (T.town,m))/\n<big/\f = .nx/\ρ'=ρ/\n'=n+1:=by
  unfold bB3 at hh;cases e:ρ[i]? with
  |none=>rw[e] at hh;cases hh
  | some o =>
   cases o with
   |none=>rw[e] at hh;cases hh
   | some p =>
    obtain⟨t,m⟩:=p;rw[e] at hh;cases t with
    | town =>
     have hh:(if n<big then some (Fl.nx,ρ,n+1) else none)=some (f,ρ',n'):=hh;split at hh
     ·rename_i hb;cases hh;exact⟨m,rfl,hb,rfl,rfl,rfl⟩
     ·cases hh
    |_=>cases hh
 subst ef eρ en;have es:O[i]?=some (some (.ref tw)):=by
  cases m with
  |fz=>obtain⟨v,h1,h2⟩:=R.fz i _ er;rw[Rep] at h2;rw[h1,h2]
  |bor=>obtain⟨v,h1,h2⟩:=R.bor i _ er;have h2:Rep tw B .town v:=h2;rw[Rep] at h2;rw[h1,h2]
  |own=>obtain⟨a,h1,h2,h3⟩:=R.own i _ er;exact(show False from h3).elim
  |lent=>exact absurd er (R.nol i _)
 refine aMw (pe_bm PySem.F.plainAttrs_list PySem.F.slot_list_append PySem.F.type_list_append aKu (aIl hN hvis hd hcd) (pa_cons aU6 aP3) hbase (by rfl) hline (by rfl) (by rfl)) (by rfl) pins s O H D I ?_;have tn:=R.tn;unfold Tn at tn;refine⟨.ref tw,es,.inl ⟨rfl,_,SqL.of tn⟩,tw,_,.int 0,rfl,rfl,tn,by rw[dv];exact aRo hb,?_⟩;have e1:List.replicate n (V.int 0) ++ [V.int 0]=List.replicate (n+1) (V.int 0):=by rw[List.replicate_succ']
 rw[e1];have fx:Fx H (upd H tw (.lst (List.replicate (n+1) (V.int 0)))):=fun b=>⟨fun vs q=>by rw[aAk (R.tn.ne_tup q)];exact q,fun _ _ q=>by rw[aAk (R.tn.ne_frz q)];exact q⟩
 refine k O _ fx (R.mono ⟨fun b u q nb=>by rw[aAk nb];exact q⟩ ?_);exact aAj
theorem aEz(i:Nat){st:Stmt}{d:DS}(h:SS X tw st d):SS X tw st (dFrz i d):=by
 intro B ρ n f ρ' n' hh pins s O H D I ⟨R,k⟩;unfold dFrz at hh;cases e:ρ[i]? with
 |none=>rw[e] at hh;exact h B ρ n f ρ' n' hh pins s O H D I ⟨R,k⟩
 | some o =>
  cases o with
  |none=>rw[e] at hh;exact h B ρ n f ρ' n' hh pins s O H D I ⟨R,k⟩
  | some p =>
   obtain⟨t,m⟩:=p;rw[e] at hh;cases m with
   | own =>
    have hh:d (ρ.set i (some (t,Md.fz))) n=some (f,ρ',n'):=hh;obtain⟨a,es,hB,ow⟩:=R.own i t e;have na:=R.own_ne hB;have go:∀u,H a=some u->((∃xs,u = .lst xs)\/(∃kvs,u = .dK kvs)\/∃ks,u = .dR ks)->(∀o,Rep tw (upd H a (.frz o u)) t (.ref a))->wpAny ZC X.A (exec st X.env) (SP X pins D) X.xe s:=fun u hu hu2 hr=>by
     obtain⟨o,I2⟩:=I.freeze hu hu2;have fx:Fx H (upd H a (.frz o u)):=Fx.frz hu hu2;refine h B _ n f ρ' n' hh pins s O _ D I2 ⟨?_,k.fx fx⟩;refine⟨R.ext.put hB,by show upd H a _ tw=_;rw[aAk na.symm];exact R.tn,R.btn,by rw[d4];exact R.len,fun j t1 q=>?_,fun j t1 q=>?_,fun j t1 q=>?_,fun j t1 q=>?_,fun j k t1 t2 b q1 q2 s1 s2=>?_⟩
     ·rcases aA2 q with ⟨rfl,z,_⟩ |⟨ne,q⟩
      ·cases z;exact⟨_,es,hr o⟩
      ·obtain⟨v,h1,h2⟩:=R.fz j t1 q;exact⟨v,h1,Rep.mono fx _ _ h2⟩
     ·rcases aA2 q with ⟨_,z,_⟩ |⟨ne,q⟩
      ·cases z
      ·exact R.bor j t1 q
     ·rcases aA2 q with ⟨rfl,z,_⟩ |⟨ne,q⟩
      ·cases z
      ·obtain⟨b,h1,h2,h3⟩:=R.own j t1 q;refine⟨b,h1,h2,?_⟩;have nb:b≠a:=by rintro rfl;exact ne (R.dis j i t1 t b q e h1 es)
       cases t1 with
       |lst xs=>obtain⟨vs,z1,z2⟩:=h3;exact⟨vs,by rw[aAk nb];exact z1,Reps.mono fx _ _ z2⟩
       |dic kvs=>obtain⟨vs,z1,z2⟩:=h3;exact⟨vs,by rw[aAk nb];exact z1,RepK.mono fx _ _ z2⟩
       |rdc ks=>obtain⟨vs,z1,z2⟩:=h3;exact⟨vs,by rw[aAk nb];exact z1,z2⟩
       |_=>exact h3.elim
     ·rcases aA2 q with ⟨_,z,_⟩ |⟨ne,q⟩
      ·cases z
      ·exact R.nol j t1 q
     ·rcases aA2 q1 with ⟨_,z,_⟩ |⟨_,q1⟩
      ·cases z
      ·rcases aA2 q2 with ⟨_,z,_⟩ |⟨_,q2⟩
       ·cases z
       ·exact R.dis j k t1 t2 b q1 q2 s1 s2
    cases t with
    | lst xs =>
     obtain⟨vs,h1,h2⟩:=ow;exact go _ h1 (.inl ⟨vs,rfl⟩) fun o=>by rw[Rep];exact⟨a,o,vs,rfl,aAj,Reps.mono (Fx.frz h1 (.inl ⟨vs,rfl⟩)) _ _ h2⟩
    | dic kvs =>
     obtain⟨vs,h1,h2⟩:=ow;exact go _ h1 (.inr (.inl ⟨vs,rfl⟩)) fun o=>by rw[Rep];exact⟨a,o,vs,rfl,aAj,RepK.mono (Fx.frz h1 (.inr (.inl ⟨vs,rfl⟩))) _ _ h2⟩
    | rdc ks =>
     obtain⟨vs,h1,h2⟩:=ow;exact go _ h1 (.inr (.inr ⟨vs,rfl⟩)) fun o=>by rw[Rep];exact⟨a,o,vs,rfl,aAj,h2⟩
    |_=>exact(show False from ow).elim
   |fz=>exact h B ρ n f ρ' n' hh pins s O H D I ⟨R,k⟩
   |bor=>exact h B ρ n f ρ' n' hh pins s O H D I ⟨R,k⟩
   |lent=>exact h B ρ n f ρ' n' hh pins s O H D I ⟨R,k⟩
end
section
variable {X:Cx}{tw:Addr}{tg:Expr}
def ItAt(tw:Addr)(J:It)(H:Hp)(ts:List T):Prop:=∀ (i:Nat),
 (∀t,ts[i]?=some t->J.go i H/\∀x H2,J.yld i H x H2->Ext tw H H2/\(∀n,Tn tw n H->Tn tw n H2)/\Rep tw H2 t x)/\(ts.length<=i->J.stop i H)
def SIc(X:Cx)(tw:Addr)(tg iter:Expr)(d:DI):Prop:=∀B ρ n ts n',d ρ n=some (ts,n')->PI X tg iter (fun O H R=>Rel X.K B tw ρ n O H /\
 ∀J H',Ext tw H H'->Tn tw n' H'->(∀H'' n'',Tn tw n'' H''->Ext tw H' H''->ItAt tw J H'' ts)->R J H')
def SIs(X:Cx)(tw:Addr)(tg iter:Expr)(d:DI):Prop:=∀B ρ n ts n',d ρ n=some (ts,n')->PI X tg iter (fun O H R=>Rel X.K B tw ρ n O H /\
 ∀J H',Ext tw H H'->Tn tw n' H'->(∀H'' n'',Tn tw n'' H''->Fx H' H''->Ext tw B H''->ItAt tw J H'' ts)->R J H')
theorem aMt(I:Inv X pins O H s)(hq:SqL X.K H a vs)(q:R (Itl X.K a) H):wpAny ZC X.A (kK (.ref a)) (PIE X pins O tg R) X.xe s:=by
 obtain⟨its,rv,p,hz⟩:=I.list hq;refine kr p.isList ?_;refine⟨s.heap.objs.size,[s.heap.objs.size],_,_,H,rfl,I.kept (t':=s.toks) fun b o e=>a0 _ e,aY0 a _,⟨_,af _ rfl,rfl,rfl⟩,fun b hb=>?_,q⟩;have e:b=s.heap.objs.size:=by simpa using hb
 subst e;exact I.fpOk (a9 _) (I.hok.fresh (a9 _))
theorem it_tup(I:Inv X pins O H s)(hq:SqT X.K H a vs)(q:R (Itt X.K a) H):wpAny ZC X.A (kK (.ref a)) (PIE X pins O tg R) X.xe s:=by
 obtain⟨its,rv,p,hz⟩:=I.tuple hq;refine lR (show s.heap.IsTuple a its.toArray from p) ?_;refine⟨s.heap.objs.size,[s.heap.objs.size],_,_,H,rfl,I.kept (t':=s.toks) fun b o e=>a0 _ e,aXq a _,⟨_,af _ rfl,rfl,rfl⟩,fun b hb=>?_,q⟩;have e:b=s.heap.objs.size:=by simpa using hb
 subst e;exact I.fpOk (a9 _) (I.hok.fresh (a9 _))
def Itd(a:Addr)(o:Obj)(ws:List (Key × V)):It :=
 ⟨fun i H=>H a=some (.frz o (.dK ws))/\i<ws.length,fun i H x H'=>H'=H/\∃k v,ws[i]?=some (k,v)/\x=kV k,fun i H=>H a=some (.frz o (.dK ws))/\ws.length<=i⟩
theorem aZi{ep:Nat}(hok:HOk P w H h)(e:H a=some (.frz o (.dK ws)))(hd:o.data = .dict es ep) :
  ∃vs,KV ws vs/\h.DictAt (aAz P w) a vs ep/\(a==jq)=false:=by
 obtain⟨h1,_,h3,vs,h4,o',es',ep',q1,q2,q3,q4⟩:=(show aBz P w H h a (.frz o (.dK ws)) from hok a _ e)
 rw[h1] at q1;cases q1;rw[hd] at q3;cases q3;exact⟨vs,h4,⟨o,es,h1,q2,hd,q4⟩,h3⟩
theorem bBs(r:KV ws vs):∀ {i:Nat} {k:Key} {v:V},ws[i]?=some (k,v)->∃u,vs[i]?=some (k,u):=by
 unfold KV at r
 induction r with
 |nil=>intro i k v e;simp at e
 | @cons p q ps qs h t ih =>
  intro i k v e;cases i with
  | zero =>
   simp at e;subst e;refine⟨q.2,?_⟩;have:k=q.1:=h.1;rw[this];rfl
  |succ i=>obtain⟨u,hu⟩:=ih (i:=i) (k:=k) (v:=v) (by simpa using e);exact⟨u,by simpa using hu⟩
theorem aUh(h:(aAz P w).is k u=true):RelV (kV k) u:=by
 rcases aBj (show aT2 k u=true from h) with ⟨i,t,rfl,rfl⟩ |⟨x,t,rfl,rfl⟩
 ·exact⟨t,rfl⟩
 ·exact⟨t,rfl⟩
theorem bAk{P:jW}{w:World}{K:PySem.W.Frag}{tg:Expr}(a it:Addr)(o:Obj)(ws:List (Key × V))(es:Array DictEntry)(ep:Nat)(hd:o.data = .dict es ep):Turn P w K tg (Itd a o ws) [it] it (fun i h=>h.IsKeyIter it a i ws.length ep) where
 mem:=by simp
 obj:=fun i h st b hb=>by
  have e:b=it:=by simpa using hb
  subst e;obtain⟨o,e,c,d⟩:=st;exact⟨o,e,fun v z=>by rw[d] at z;cases z⟩
 keep:=fun i h h' st k=>st.at fun o e=>k it ZJ o e
 item:=by
  intro X hP hw hK hc i pins s O H E I hf st hg;subst hP hw hK;obtain⟨hq,hx⟩:=hg;obtain⟨vs,rv,dd,_⟩:=aZi I.hok hq hd;have hl:ws.length=vs.length:=Paired.length rv;obtain⟨k,v,hk⟩:∃k v,ws[i]?=some (k,v):=⟨ws[i].1,ws[i].2,by simp[hx]⟩
  obtain⟨u,hu⟩:=bBs rv hk;obtain⟨f0,f1,f2,f3,f4,f5⟩:=hf it ZJ;rw[hl] at st;refine wpAny_pyNext_dict_item st dd hu fun key h' hkey st' sb=>?_;have I1:Inv X pins O H { s with heap:=h' }:=I.turned (t':=s.toks) (fun b o hb e=>(sb.2 b hb).trans e) f0 f1 f3 f4 f5;obtain⟨o',e,c,d⟩:=id st';exact⟨key,rfl,go_of (s:={ s with heap:=h' }) e c d ZE ⟨kV k,H,I1,aUh hkey,⟨rfl,k,v,hk,rfl⟩,by rw[hl];exact st',fun b hb=>(hf b hb).1⟩⟩
 done:=by intro X hP hw hK hc i pins s O H E I hf st hg;subst hP hw hK;obtain⟨hq,hx⟩:=hg;obtain⟨vs,rv,dd,_⟩:=aZi I.hok hq hd;have hl:ws.length=vs.length:=Paired.length rv;obtain⟨f0,f1,f2,f3,f4,f5⟩:=hf it ZJ;rw[hl] at st;exact wpAny_pyNext_dict_end (I.ok.hd hc) st dd (gM ZA) fun h' eb=>⟨rfl,I.turned (t':=s.toks) (fun b o hb e=>eb b o hb e) f0 f1 f3 f4 f5⟩
 self:=fun _ _ _ _ _ st h=>wpAny_pyIter_keyiter st h
theorem it_dict(I:Inv X pins O H s)(hq:H a=some (.frz o (.dK ws)))(q:R (Itd a o ws) H):wpAny ZC X.A (kK (.ref a)) (PIE X pins O tg R) X.xe s:=by
 obtain⟨h1,_,h3,vs,h4,o',es,ep,q1,q2,q3,q4⟩:=(show aBz X.prog X.w H s.heap a (.frz o (.dK ws)) from I.hok a _ hq)
 rw[h1] at q1;cases q1;obtain⟨vs,rv,dd,_⟩:=aZi I.hok hq q3;have hl:ws.length=vs.length:=Paired.length rv;refine wpAny_pyIter_dict h3 dd ?_;refine⟨s.heap.objs.size,[s.heap.objs.size],_,_,H,rfl,I.kept (t':=s.toks) fun b o e=>a0 _ e,bAk a _ o ws es ep q3,⟨_,af _ rfl,rfl,by rw[hl];rfl⟩,fun b hb=>?_,q⟩;have e:b=s.heap.objs.size:=by simpa using hb
 subst e;exact I.fpOk (a9 _) (I.hok.fresh (a9 _))
theorem aNb{K:PySem.W.Frag}{H:Hp}{a:Addr}{vs:List V}{xs:List T}(hs:SqL K H a vs)(r:Reps tw H xs vs):ItAt tw (Itl K a) H xs:=fun i=>by refine⟨fun t e=>?_,fun hl=>⟨vs,hs,by rw[<-r.length];exact hl⟩⟩;obtain⟨v,h1,h2⟩:=r.get e;refine⟨⟨vs,v,hs,h1⟩,fun x H2 y=>?_⟩;obtain⟨rfl,y⟩:=y;have:=y vs hs;rw[h1] at this;cases this;exact⟨.refl _ _,fun _ z=>z,h2⟩
theorem at_tup{K:PySem.W.Frag}{H:Hp}{a:Addr}{vs:List V}{xs:List T}(hs:SqT K H a vs)(r:Reps tw H xs vs):ItAt tw (Itt K a) H xs:=fun i=>by refine⟨fun t e=>?_,fun hl=>⟨vs,hs,by rw[<-r.length];exact hl⟩⟩;obtain⟨v,h1,h2⟩:=r.get e;refine⟨⟨vs,v,hs,h1⟩,fun x H2 y=>?_⟩;obtain⟨rfl,y⟩:=y;have:=y vs hs;rw[h1] at this;cases this;exact⟨.refl _ _,fun _ z=>z,h2⟩
theorem aI7:∀ {kvs:List (Key × T)} {ws:List (Key × V)} {i:Nat} {k:Key} {t:T},RepK tw H kvs ws->kvs[i]?=some (k,t)->∃v,ws[i]?=some (k,v)/\Rep tw H t v
 |[],_,_,_,_,_,e=>by simp at e
 |(k',x)::xs,_,0,k,t,r,e=>by rw[RepK] at r;obtain⟨v,w,rfl,p,q⟩:=r;simp at e;obtain⟨rfl,rfl⟩:=e;exact⟨v,rfl,p⟩
 |(k',x)::xs,_,i+1,k,t,r,e=>by rw[RepK] at r;obtain⟨v,w,rfl,p,q⟩:=r;obtain⟨u,h1,h2⟩:=aI7 (i:=i) (k:=k) (t:=t) q (by simpa using e);exact⟨u,by simpa using h1,h2⟩
theorem aMm(k:Key):Rep tw H (keyT k) (kV k):=by
 cases k with
 |inl i=>show Rep tw H (.int i) (.int i);rw[Rep]
 |inr x=>show Rep tw H (.str x) (.str x);rw[Rep]
theorem at_dict(hs:H a=some (.frz o (.dK ws)))(r:RepK tw H kvs ws):ItAt tw (Itd a o ws) H (kvs.map fun kv=>keyT kv.1):=fun i=>by
 have hl:=RepK.length r;refine⟨fun t e=>?_,fun h=>⟨hs,by rw[<-hl];simpa using h⟩⟩;rw[bo] at e;cases q:kvs[i]? with
 |none=>rw[q] at e;cases e
 | some p =>
  obtain⟨k,t'⟩:=p;rw[q] at e;have e:keyT k=t:=Option.some.inj e;subst e;obtain⟨v,h1,h2⟩:=aI7 r q;refine⟨⟨hs,(b9.mp h1).1⟩,fun x H2 y=>?_⟩;obtain⟨rfl,k2,v2,y1,rfl⟩:=y;rw[h1] at y1;cases y1;exact⟨.refl _ _,fun _ z=>z,aMm k⟩
theorem aUu(lo:Int)(m:Nat):ItAt tw (Itr lo m) H ((List.range m).map fun (k:Nat)=>T.int (lo+k)):=fun i=>by
 refine⟨fun t e=>?_,fun h=>by show m<=i;simpa using h⟩;rw[bo] at e;cases q:(List.range m)[i]? with
 |none=>rw[q] at e;cases e
 | some j =>
  rw[q] at e;have e:T.int (lo+j)=t:=Option.some.inj e;subst e;obtain⟨hi,hj⟩:=b9.mp q;rw[List.getElem_range] at hj;subst hj;rw[gD] at hi;refine⟨hi,fun x H2 y=>?_⟩;obtain⟨rfl,rfl⟩:=y;exact⟨.refl _ _,fun _ z=>z,by rw[Rep]⟩
theorem aVh{pins:List ZL}{O:St}{H:Hp}{s:jR}{t:T}{m:Md}{xs:List T}{v:V}{u:Value}{R:It->Hp->Prop}(I:Inv X pins O H s)(rv:RelV v u)(r:Rep tw H t v)(h:walked t m=some xs)
  (k:∀J,(∀H'',Fx H H''->ItAt tw J H'' xs)->R J H):wpAny ZC X.A (kK u) (PIE X pins O tg R) X.xe s:=by
 cases t with
 | lst ys =>
  cases h;rw[Rep] at r;obtain⟨a,o,vs,rfl,e,q⟩:=r;cases rv;exact aMt I (.inl (.inr ⟨o,e⟩)) (k _ fun H'' fx=>aNb (.inl (.inr ⟨o,(fx a).2 _ _ e⟩)) (Reps.mono fx _ _ q))
 | tup ys =>
  cases h;rw[Rep] at r;obtain⟨a,vs,rfl,e,q⟩:=r;cases rv;exact it_tup I (SqT.of e) (k _ fun H'' fx=>at_tup (SqT.of ((fx a).1 _ e)) (Reps.mono fx _ _ q))
 | dic kvs =>
  rw[Rep] at r;obtain⟨a,o,ws,rfl,e,q⟩:=r;cases rv;have e2:xs=kvs.map fun kv=>keyT kv.1:=by cases m<;>first |(cases h;rfl) |cases h
  subst e2;exact it_dict I e (k _ fun H'' fx=>at_dict ((fx a).2 _ _ e) (RepK.mono fx _ _ q))
 |_=>cases h
theorem si_c{e:Expr}{d:DE}(h:SE X tw e d):SIc X tw tg e (dIt d):=by
 intro B ρ n ts n' hd pins s O H R I ⟨Rl,k⟩;obtain⟨⟨t,m,n1⟩,e1,e2⟩:=bind_some hd;obtain⟨xs,e3,e4⟩:=map_some e2;cases e4;have e1':dTmp d ρ n=some (t,frm m,n1):=by unfold dTmp;rw[e1];rfl
 refine thn ((bBi h).run e1' I Rl) fun u s1 ⟨v,H1,I1,r1,a1,R1,c1⟩=>?_;have rt:=c1.root R1 Rl.tn;have byRep:Rep tw H1 t v->wpAny ZC X.A (kK u) (PIE X pins O tg R) X.xe s1:=fun rp =>
  aVh I1 r1 rp e3 fun J hJ=>k J H1 a1 R1.tn fun H'' n'' t'' ext=>hJ H'' (ext.fx R1.tn)
 cases m with
 |own=>exact byRep c1
 |fz=>exact byRep c1
 | bor =>
  cases t with
  | lst ys =>
   cases e3;obtain⟨a,vs,rfl,e,q⟩:=rt;cases r1;exact aMt I1 e.sq (k _ H1 a1 R1.tn fun H'' n'' t'' ext=>aNb (e.ext ext).sq (Reps.mono (ext.fx R1.tn) _ _ q))
  |tup ys=>exact byRep rt
  |_=>cases e3
 | lent =>
  cases t with
  | lst ys =>
   cases e3;obtain⟨a,vs,rfl,e,q⟩:=rt;cases r1;exact aMt I1 e.sq (k _ H1 a1 R1.tn fun H'' n'' t'' ext=>aNb (e.ext ext).sq (Reps.mono (ext.fx R1.tn) _ _ q))
  |tup ys=>exact byRep rt
  |_=>cases e3
theorem si_s{e:Expr}{d:DE}(h:SE X tw e d):SIs X tw tg e (dItS d):=by
 intro B ρ n ts n' hd pins s O H R I ⟨Rl,k⟩;obtain⟨⟨t,m,n1⟩,e1,e2⟩:=bind_some hd;have e1':dTmp d ρ n=some (t,frm m,n1):=by unfold dTmp;rw[e1];rfl
 refine thn ((bBi h).run e1' I Rl) fun u s1 ⟨v,H1,I1,r1,a1,R1,c1⟩=>?_;have rt:=c1.root R1 Rl.tn;have byRep:∀xs,walked t m=some xs->(xs,n1)=(ts,n')->Rep tw H1 t v->wpAny ZC X.A (kK u) (PIE X pins O tg R) X.xe s1:=fun xs e3 e4 rp=>by cases e4;exact aVh I1 r1 rp e3 fun J hJ=>k J H1 a1 R1.tn fun H'' n'' t'' fx _=>hJ H'' fx
 cases m with
 |own=>obtain⟨xs,e3,e4⟩:=map_some e2;exact byRep xs e3 e4 c1
 |fz=>obtain⟨xs,e3,e4⟩:=map_some e2;exact byRep xs e3 e4 c1
 | bor =>
  obtain⟨xs,e3,e4⟩:=map_some e2;cases t with
  | lst ys =>
   cases e3;cases e4;have c1:Root X.K tw B (.lst _) v:=c1;obtain⟨n0,bt⟩:=Rl.btn;obtain⟨a,vs,rfl,e,q⟩:=c1;cases r1;exact aMt I1 (e.ext R1.ext).sq (k _ H1 a1 R1.tn fun H'' n'' t'' fx ext=>aNb (e.ext ext).sq (Reps.mono (ext.fx bt) _ _ q))
  |tup ys=>exact byRep xs e3 e4 rt
  |_=>cases e3
 |lent=>cases e2
def SIr(X:Cx)(tw:Addr)(tg iter:Expr)(d:DI):Prop:=∀B ρ n ts n',d ρ n=some (ts,n')->PI X tg iter (fun O H R=>Rel X.K B tw ρ n O H/\∀J H',Ext tw H H'->Tn tw n' H'->(∀H'',ItAt tw J H'' ts)->R J H')
theorem SIr.c{iter:Expr}{d:DI}(h:SIr X tw tg iter d):SIc X tw tg iter d:=fun B ρ n ts n' hd pins s O H R I ⟨Rl,k⟩=>h B ρ n ts n' hd pins s O H R I ⟨Rl,fun J H' a b c=>k J H' a b fun H'' _ _ _=>c H''⟩
theorem SIr.s{iter:Expr}{d:DI}(h:SIr X tw tg iter d):SIs X tw tg iter d:=fun B ρ n ts n' hd pins s O H R I ⟨Rl,k⟩=>h B ρ n ts n' hd pins s O H R I ⟨Rl,fun J H' a b c=>k J H' a b fun H'' _ _ _ _=>c H''⟩
theorem aAt{K:PySem.W.Frag}{H:Hp}{i:Int}{v:V}(r:Root K tw H (.int i) v):v = .int i:=by have r:Rep tw H (.int i) v:=r;rw[Rep] at r;exact r
theorem aK4{pos p:Pos}{a:Expr}{da:DA}(ha:SA X tw [a] da)(hm:X.mg "range" = none)(hg:autoParam (Gl X "range") lZ)(hs:autoParam (jV [a] X.env = [(false,eval a X.env)]) lZ):SIr X tw tg (.Call (.Name "range" p) [a] [] pos) (aH0 da):=by
 intro B ρ n ts n' hd pins s O H R I ⟨Rl,k⟩;obtain⟨⟨ts',n1⟩,e1,e2⟩:=bind_some hd;refine aZ9 hg hm (ha B ρ n ts' n1 e1) hs pins s O H R I ⟨Rl,fun vs H' x y z=>?_⟩;cases z with
 |nil=>cases e2
 | @cons t v ts'' vs' z1 z2 =>
  cases z2 with
  | nil =>
   cases t with
   | int j =>
    have e2:(if -big<=j/\j<=big then some (upTo 0 j,n1) else none)=some (ts,n'):=e2;split at e2
    ·rename_i hb;cases e2;have hB:(big:Int)=1000000:=rfl;refine⟨j,by rw[aAt z1],by lia,by lia,k _ H' x y fun H''=>?_⟩;have:=aUu (tw:=tw) (H:=H'') 0 j.toNat
     unfold upTo;rw[Int.sub_zero];exact this
    ·cases e2
   |_=>cases e2
  |cons a b=>cases t<;>cases e2
theorem rng2_inv{ts' ts:List T}{n1 n':Nat}(e2:(match ts' with |[.int i,.int j]=>if -big<=i/\i<=big /\ -big<=j/\j<=big then some (upTo i j,n1) else none |_=>none)=some (ts,n')):∃i j,ts' = [.int i,.int j]/\(-big<=i/\i<=big /\ -big<=j/\j<=big)/\ts=upTo i j/\n'=n1:=by
 split at e2
 ·rename_i i j;split at e2
  ·rename_i hb;cases e2;exact⟨i,j,rfl,hb,rfl,rfl⟩
  ·cases e2
 ·cases e2
theorem aTk{pos p:Pos}{a b:Expr}{da:DA}(ha:SA X tw [a,b] da)(hm:X.mg "range" = none)(hg:autoParam (Gl X "range") lZ)(hs:autoParam (jV [a,b] X.env = [(false,eval a X.env),(false,eval b X.env)]) lZ)(hs2:autoParam (jV [b] X.env = [(false,eval b X.env)]) lZ) :
  SIr X tw tg (.Call (.Name "range" p) [a,b] [] pos) (aWr da):=by
 intro B ρ n ts n' hd pins s O H R I ⟨Rl,k⟩;obtain⟨⟨ts',n1⟩,e1,e2⟩:=bind_some hd;refine bBz hg hm (ha B ρ n ts' n1 e1) hs hs2 pins s O H R I ⟨Rl,fun vs H' x y z=>?_⟩;obtain⟨i,j,rfl,hb,rfl,rfl⟩:=rng2_inv e2;have hB:(big:Int)=1000000:=rfl;cases z with
 | cons z1 z2 =>
  cases z2 with
  | cons z2 z3 =>
   cases z3;refine⟨i,j,by rw[aAt z1,aAt z2],⟨by lia,by lia,by lia,by lia⟩,k _ H' x y fun H''=>?_⟩;exact aUu i (j - i).toNat
def aIk(ρ':En)(σ':St)(ρ:En)(O:St):Prop:=∀ (j:Nat) (t:T) (a:Addr),ρ'[j]?=some (some (t,.own))->σ'[j]?=some (some (.ref a))->∃ (j':Nat) (t':T),ρ[j']?=some (some (t',.own))/\O[j']?=some (some (.ref a))
theorem aIk.setF(i:Nat)(t:T)(v:V):aIk (ρ.set i (some (t,.fz))) (O.set i (some v)) ρ O:=fun j t' a e e'=>by
 rcases aA2 e with ⟨_,z,_⟩ |⟨ne,e⟩
 ·cases z
 ·rw[aBg ne] at e';exact⟨j,t',e,e'⟩
theorem aIk.trans(a:aIk ρ2 σ2 ρ1 σ1)(b:aIk ρ1 σ1 ρ O):aIk ρ2 σ2 ρ O:=fun j t x e e'=>let ⟨j',t',h1,h2⟩:=a j t x e e';b j' t' x h1 h2
def rG(X:Cx)(tw:Addr)(put:T->En->Option En):TG:=fun v O H Q=>∃B ρ n t ρ',Rel X.K B tw ρ n O H/\Rep tw H t v/\put t ρ=some ρ'/\∀σ',Rel X.K B tw ρ' n σ' H->aIk ρ' σ' ρ O->Q σ' H
def SG(X:Cx)(tw:Addr)(tg:Expr)(put:T->En->Option En):Prop:=PG X tg (rG X tw put)
theorem aAr(i:Nat){x:Str}{pos:Pos}(hN:X.N.Nodup)(hi:autoParam (X.N[i]?=some x) lZ)(hx:autoParam (Loc X.env.scope x) az4._auto_1)(hf:autoParam (X.fn x=true\/X.env.scope.names.lookup x=some .local) l6):SG X tw (.Name x pos) (putAt i):=by intro pins s O H v u Q I r h;obtain⟨B,ρ,n,t,ρ',R,rt,hp,k⟩:=h;cases hp;exact aTo hN hi hx hf pins s O H v u Q I r (k _ (R.setF rt) (.setF _ _ _))
theorem aVb(i j:Nat){x y:Str}{px py pos:Pos}{kk:Nat}(hc:X.calm=true)(hN:X.N.Nodup)(hi:autoParam (X.N[i]?=some x) lZ)(hj:autoParam (X.N[j]?=some y) lZ)(hx:autoParam (Loc X.env.scope x) az4._auto_1)(hy:autoParam (Loc X.env.scope y) az4._auto_1)
  (hf:autoParam (X.fn x=true\/X.env.scope.names.lookup x=some .local) l6) (hf2:autoParam (X.fn y=true\/X.env.scope.names.lookup y=some .local) l6)
  (hn:autoParam ((jk [.Name x px,.Name y py] X.env).length=2) lZ) (hst:autoParam ((jk [.Name x px,.Name y py] X.env).findIdx? (·.1)=none) lZ)
  (h1:autoParam ((jk [.Name x px,.Name y py] X.env).map (·.2)=kM (.Name x px) X.env::(jk [.Name y py] X.env).map (·.2)) lZ) (h2:autoParam ((jk [.Name y py] X.env).map (·.2)=kM (.Name y py) X.env::(jk [] X.env).map (·.2)) lZ):SG X tw (.Tuple [.Name x px,.Name y py] kk pos) (aD6 i j):=by
 intro pins s O H v u Q I r h;obtain⟨B,ρ,n,t,ρ',R,rt,hp,k⟩:=h;have ⟨a,b,et,eρ⟩:∃a b,t = .tup [a,b]/\ρ'=(ρ.set i (some (a,.fz))).set j (some (b,.fz)):=by
  match t,hp with
  |.tup [a,b],hp=>cases hp;exact⟨a,b,rfl,rfl⟩
 subst et eρ;rw[Rep] at rt;obtain⟨ad,vs,rfl,e,q⟩:=rt;obtain⟨va,w1,rfl,qa,q⟩:=aAm q;obtain⟨vb,w2,rfl,qb,q⟩:=aAm q;obtain rfl:=aA3 q;refine pg_tup hc (aU1 (aTo hN hi hx hf) (aU1 (aTo hN hj hy hf2) pgs_nil h2) h1) hn hst pins s O H _ u Q I r ⟨ad,[va,vb],rfl,SqT.of e,rfl,va,[vb],rfl,vb,[],rfl,rfl,?_⟩;exact k _ ((R.setF qa).setF qb) ((aIk.setF _ _ _).trans (.setF _ _ _))
theorem aCk{iter:Expr}{body:List Stmt}{d:DI}{put:T->En->Option En}{b:DS}{pos:Pos}(hc:X.calm=true)(hx:X.xe=fun _ _=>False)(hi:SIs X tw tg iter d)(hg:SG X tw tg put)(hb:SSs X tw body b)(hs:autoParam (∀x,jw iter X.env x=pure x) l7) :
  SS X tw (.For tg iter body [] pos) (dFor d put b):=by
 intro B ρ n f ρ' n' hd pins s O H D I ⟨R,k⟩;obtain⟨⟨ts,n1⟩,e1,e2⟩:=bind_some hd;have hp:PassesOwn ZC X.A X.env X.xe:=by rw[hx];exact PassesOwn.never
 have hbody:PSs X body (fun D O H=>∃ρ n f ρ' n',b ρ n=some (f,ρ',n')/\rS X.K B tw ρ n f ρ' n' D O H):=fun pins s O H D I h=>by obtain⟨ρ,n,f,ρ',n',e,h⟩:=h;exact hb B ρ n f ρ' n' e pins s O H D I h
 refine ps_for hp hc (hi B ρ n ts n1 e1) hg hbody hs pins s O H D I ⟨R,fun J H1 x1 y1 it=>?_⟩;have R1:=R.mono x1 y1;have k1:KF X.K B tw f ρ' n' D H1:=k.fx (x1.fx R.tn);refine⟨fun i m σ' H'=>m=ts.length - i/\i<=ts.length/\Fx H1 H'/\∃ρi ni,Rel X.K B tw ρi ni σ' H'/\aA4 put b (ts.drop i) ρi ni=some (f,ρ',n'),⟨ts.length,by simp,dm _,.refl _,ρ,n1,R1,by simpa using e2⟩,?_⟩;rintro i m σ2 H2 ⟨rfl,hi2,fx2,ρ2,n2,R2,e3⟩;have at2:=it H2 n2 R2.tn fx2 R2.ext i;by_cases hlt:i<ts.length
 ·right;obtain⟨go,yl⟩:=at2.1 ts[i] (by simp[hlt]);have ed:ts.drop i=ts[i]::ts.drop (i+1):=cg hlt;rw[ed] at e3;obtain⟨ρ3,e4,e5⟩:=bind_some (show (put ts[i] ρ2).bind _=_ from e3);obtain⟨⟨f4,ρ4,n4⟩,e6,e7⟩:=bind_some e5;refine⟨go,fun σ' H'=>Fx H1 H'/\Rel X.K B tw ρ4 n4 σ' H'/\aA4 put b (ts.drop (i+1)) ρ4 n4=some (f,ρ',n'),fun σ' H' ⟨z1,z2,z3⟩=>⟨ts.length - (i+1),by lia,rfl,hlt,z1,ρ4,n4,z2,z3⟩,fun x H' yd=>?_⟩;obtain⟨xe,xt,xr⟩:=yl x H' yd;have fx3:Fx H1 H':=fx2.trans (xe.fx R2.tn);refine⟨B,ρ2,n2,ts[i],ρ3,R2.mono xe (xt n2 R2.tn),xr,e4,fun σ3 R3 _=>⟨ρ3,n2,f4,ρ4,n4,e6,R3,?_⟩⟩;cases f4 with
  |nx=>exact fun σ' H'' z1 z2=>⟨fx3.trans z1,z2,e7⟩
  |ct=>exact fun σ' H'' z1 z2=>⟨fx3.trans z1,z2,e7⟩
  | bk =>
   have e7:some (Fl.nx,ρ4,n4)=some (f,ρ',n'):=e7;cases e7;exact fun σ' H'' z1 z2=>k1 σ' H'' (fx3.trans z1) z2
  | rt t mm =>
   have e7:some (Fl.rt t mm,ρ4,n4)=some (f,ρ',n'):=e7;cases e7;exact fun v H'' z1 z2 z3 z4=>k1 v H'' (fx3.trans z1) z2 z3 z4
 ·left;have hge:ts.length<=i:=gx hlt;refine⟨at2.2 hge,?_⟩;rw[eh hge] at e3;have e3:some (Fl.nx,ρ2,n2)=some (f,ρ',n'):=e3;cases e3;exact k1 σ2 H2 fx2 R2
def SFi(X:Cx)(tw:Addr)(ifs:List Expr)(d:DT):Prop:=∀B ρ n b n',d ρ n=some (b,n')->PF X ifs (rT X.K B tw ρ n b n')
theorem aB3:SFi X tw [] yes:=by intro B ρ n b n' hd pins s O H Q I ⟨R,k⟩;cases hd;exact pf_nil pins s O H Q I (k H (.refl _ _) R.tn)
theorem aHy{c:Expr}{d:DT}(h:ST X tw c d):SFi X tw [c] d:=fun B ρ n b n' hd=>pf_one (h B ρ n b n' hd)
theorem aEi{i:Nat}(h:(srcOf l ρ)[i]?=some (some p)):∃j,l[i]?=some (some j)/\ρ[j]?=some (some p):=by
 unfold srcOf at h;rw[bo] at h;cases e:l[i]? with
 |none=>rw[e] at h;cases h
 | some o =>
  rw[e] at h;cases o with
  |none=>cases h
  | some j =>
   refine⟨j,rfl,?_⟩;have h:(ρ[j]?).join=some p:=Option.some.inj h;cases q:ρ[j]? with
   |none=>rw[q] at h;cases h
   |some q'=>rw[q] at h;rw[show q'=some p from h]
theorem aTz{i j:Nat}(h:l[i]?=some (some j))(e:O[j]?=some (some v)):(srcV l O)[i]?=some (some v):=by unfold srcV;rw[bo,h];show some ((O[j]?).join)=_;rw[e];rfl
theorem Rel.src{K:PySem.W.Frag}{B:Hp}{ρ:En}{n:Nat}{O:St}{H:Hp}{l:List (Option Nat)}(R:Rel K B tw ρ n O H)(inj:∀ (i i' j:Nat),l[i]?=some (some j)->l[i']?=some (some j)->i=i'):Rel K B tw (srcOf l ρ) n (srcV l O) H:=by
 refine⟨R.ext,R.tn,R.btn,by unfold srcOf srcV;rw[a5,a5],fun i t e=>?_,fun i t e=>?_,fun i t e=>?_,fun i t e=>?_,fun i i' t t' a e e' s s'=>?_⟩
 ·obtain⟨j,h1,h2⟩:=aEi e;obtain⟨v,q1,q2⟩:=R.fz j t h2;exact⟨v,aTz h1 q1,q2⟩
 ·obtain⟨j,h1,h2⟩:=aEi e;obtain⟨v,q1,q2⟩:=R.bor j t h2;exact⟨v,aTz h1 q1,q2⟩
 ·obtain⟨j,h1,h2⟩:=aEi e;obtain⟨v,q1,q2⟩:=R.own j t h2;exact⟨v,aTz h1 q1,q2⟩
 ·obtain⟨j,h1,h2⟩:=aEi e;exact R.nol j t h2
 ·obtain⟨j,h1,h2⟩:=aEi e;obtain⟨j',h1',h2'⟩:=aEi e';obtain⟨k,k1,k2⟩:=aNg s;obtain⟨k',k1',k2'⟩:=aNg s';rw[h1] at k1;cases k1;rw[h1'] at k1';cases k1';obtain rfl:=R.dis j j' t t' a h2 h2' k2 k2';exact inj i i' j h1 h1'
theorem Rel.upd_other{K:PySem.W.Frag}{B:Hp}{ρ:En}{n:Nat}{O:St}{H:Hp}{D:Addr}{acc:List V}{o:HO}(R:Rel K B tw ρ n O H)(hD:H D=some (.lst acc))(hB:B D=none)(nd:∀ (j:Nat) (t:T),ρ[j]?=some (some (t,.own))->O[j]?≠some (some (.ref D))):Rel K B tw ρ n O (upd H D o):=by
 have fx:Fx H (upd H D o):=fun a=>⟨fun vs q=>by rw[aAk (by rintro rfl;rw[hD] at q;cases q)];exact q,fun _ _ q=>by rw[aAk (by rintro rfl;rw[hD] at q;cases q)];exact q⟩
 refine⟨R.ext.put hB,by show upd H D o tw=_;rw[aAk (R.own_ne hB).symm];exact R.tn,R.btn,R.len,fun i t e=>let ⟨v,h1,h2⟩:=R.fz i t e;⟨v,h1,Rep.mono fx _ _ h2⟩,R.bor,fun i t e=>?_,R.nol,R.dis⟩;obtain⟨a,h1,h2,h3⟩:=R.own i t e;have na:a≠D:=by rintro rfl;exact nd i t e h1
 refine⟨a,h1,h2,?_⟩;cases t with
 |lst xs=>obtain⟨vs,z1,z2⟩:=h3;exact⟨vs,by rw[aAk na];exact z1,Reps.mono fx _ _ z2⟩
 |dic kvs=>obtain⟨vs,z1,z2⟩:=h3;exact⟨vs,by rw[aAk na];exact z1,RepK.mono fx _ _ z2⟩
 |rdc ks=>obtain⟨vs,z1,z2⟩:=h3;exact⟨vs,by rw[aAk na];exact z1,z2⟩
 |_=>exact h3.elim
theorem CompTxt.inj{scope:Scope}{N':List Str}{srcs:List (Option Nat)}(C:CompTxt X scope N' srcs)(nd:N'.Nodup):∀ (i i' j:Nat),srcs[i]?=some (some j)->srcs[i']?=some (some j)->i=i':=fun i i' j h h'=>by obtain⟨x,q1,q2,_⟩:=C.src i j h;obtain⟨x',q1',q2',_⟩:=C.src i' j h';rw[q2] at q2';cases q2';exact aMr nd q1 q1'
def cI(X:Cx)(B:Hp)(tw:Addr)(ρ:En)(n:Nat)(ts:List T)(n':Nat):TI:=fun O H R=>Rel X.K B tw ρ n O H/\∀J H',Ext tw H H'->Tn tw n' H'->(∀H'' n'',Tn tw n'' H''->Ext tw H' H''->ItAt tw J H'' ts)->R J H'
def cT(X:Cx)(B:Hp)(tw:Addr)(c:DT):TT:=fun O H Q=>∃ρ n b n',c ρ n=some (b,n')/\rT X.K B tw ρ n b n' O H Q
def cE(X:Cx)(B:Hp)(tw:Addr)(e:DE):TE:=fun O H Q=>∃ρ n t m n',dFz e ρ n=some (t,m,n')/\rE X.K B tw ρ n t m n' O H Q
theorem bBw{n n1 n2:Nat}(C:CompTxt X scope N' srcs)(nd:N'.Nodup)(R:Rel X.K B tw ρ n O H)(e3:aD3 put c e ts (srcOf srcs ρ) n1 []=some (out,n2))
  (k:∀v H',Ext tw H H'->Tn tw n2 H'->Val X.K B tw H H' (.lst out) .own v->Q v H'):tComp (cI X B tw ρ n ts n1) srcs (rG X tw put) (cT X B tw c) (cE X B tw e) O H Q:=by
 refine⟨R,fun J H1 x1 y1 it D hD=>?_⟩;have R1:=R.mono x1 y1;have nD:D≠tw:=R1.tn.ne_none hD;refine⟨fun i m acc σ' H'=>m=ts.length - i/\i<=ts.length/\H' D=some (.lst acc)/\Ext tw H1 H'/\∃ρi ni as,Rel X.K B tw ρi ni σ' H'/\(∀ (j:Nat) (t:T),ρi[j]?=some (some (t,Md.own))->σ'[j]?≠some (some (V.ref D)))/\Reps tw H' as acc/\aD3 put c e (ts.drop i) ρi ni as=some (out,n2),⟨ts.length,by simp,dm _,aAj,.new hD,srcOf srcs ρ,n1,[],(R1.src (C.inj nd)).mono (.new hD) (R1.tn.new hD),aSx (R1.src (C.inj nd)) hD,.nil,by simpa using e3⟩,?_⟩;rintro i m acc σ2 H2 ⟨rfl,hi2,hD2,x2,ρ2,n3,as,R2,nd2,ra,e5⟩;have at2:=it H2 n3 R2.tn x2 i;by_cases hlt:i<ts.length
 ·right;obtain⟨go,yl⟩:=at2.1 ts[i] (by simp[hlt]);have ed:ts.drop i=ts[i]::ts.drop (i+1):=cg hlt;rw[ed] at e5;obtain⟨ρ3,e6,e7⟩:=bind_some (show (put ts[i] ρ2).bind _=_ from e5);obtain⟨⟨b,n4⟩,e8,e9⟩:=bind_some e7;refine⟨go,fun acc' σ' H'=>H' D=some (.lst acc')/\Ext tw H1 H'/\∃ρi ni as',Rel X.K B tw ρi ni σ' H'/\(∀ (j:Nat) (t:T),ρi[j]?=some (some (t,Md.own))->σ'[j]?≠some (some (V.ref D)))/\Reps tw H' as' acc'/\aD3 put c e (ts.drop (i+1)) ρi ni as'=some (out,n2),fun acc' σ' H' ⟨z1,z2,ρi,ni,as',z3,z0,z4,z5⟩=>⟨ts.length - (i+1),by lia,rfl,hlt,z1,z2,ρi,ni,as',z3,z0,z4,z5⟩,fun x H3 yd=>?_⟩;obtain⟨xe,xt,xr⟩:=yl x H3 yd;refine⟨B,ρ2,n3,ts[i],ρ3,R2.mono xe (xt n3 R2.tn),xr,e6,fun σ3 R3 os3=>⟨ρ3,n3,b,n4,e8,R3,fun H4 x4 y4=>?_⟩⟩;have R4:=R3.mono x4 y4;have nd3:∀ (j:Nat) (t:T),ρ3[j]?=some (some (t,Md.own))->σ3[j]?≠some (some (V.ref D)):=fun j t q q'=>let ⟨j',t',h1,h2⟩:=os3 j t D q q';nd2 j' t' h1 h2
  have x24:Ext tw H2 H4:=xe.trans x4;cases b with
  | false =>
   have e9:aD3 put c e (ts.drop (i+1)) ρ3 n4 as=some (out,n2):=e9;exact iteF ⟨x24.to D _ hD2 nD,x2.trans x24,ρ3,n4,as,R4,nd3,Reps.mono (x24.fx R2.tn) _ _ ra,e9⟩
  | true =>
   obtain⟨⟨t5,m5,n5⟩,e10,e11⟩:=bind_some (show (dFz e ρ3 n4).bind _=_ from e9);obtain rfl:=aXf e10;have e11:(if as.length<big then aD3 put c e (ts.drop (i+1)) ρ3 n5 (as ++ [t5]) else none)=some (out,n2):=e11;split at e11
   ·rename_i hb;refine iteT ⟨ρ3,n4,t5,.fz,n5,e10,R4,fun v H5 x5 y5 z5=>?_⟩;have x25:=x24.trans x5;have hD5:H5 D=some (.lst acc):=x25.to D _ hD2 nD;have R5:=R4.mono x5 y5;have fx:Fx H5 (upd H5 D (.lst (acc ++ [v]))):=fun a=>⟨fun vs q=>by rw[aAk (by rintro rfl;rw[hD5] at q;cases q)];exact q,fun _ _ q=>by rw[aAk (by rintro rfl;rw[hD5] at q;cases q)];exact q⟩
    have hBD:B D=none:=R.ext.free R.tn (x1.free y1 hD);refine⟨hD5,by rw[<-ra.length];exact aRo hb,aAj,(x2.trans x25).put hD,ρ3,n5,as ++ [t5],?_,nd3,(Reps.mono fx _ _ (Reps.mono (x25.fx R2.tn) _ _ ra)).append (.cons (Rep.mono fx _ _ z5) .nil),e11⟩
    ·exact R5.upd_other hD5 hBD nd3
   ·cases e11
 ·left;have hge:ts.length<=i:=gx hlt;refine⟨at2.2 hge,?_⟩;rw[eh hge] at e5;have e5:some (as,n3)=some (out,n2):=e5;cases e5;exact k _ H2 (x1.trans x2) R2.tn ⟨D,rfl,x1.free y1 hD,acc,hD2,ra⟩
theorem aBr{elt iter:Expr}{ifs:List Expr}{scope:Scope}{pos:Pos}{N':List Str}{srcs:List (Option Nat)}{d:DI}{put:T->En->Option En}{c:DT}{e:DE}(hc:X.calm=true)(C:CompTxt X scope N' srcs)(nd:N'.Nodup)(hi:SIc X tw tg iter d)
  (hg:∀cl C s₀ H₀ fp,SG (aBs X N' scope cl C s₀ H₀ fp) tw tg put) (ht:∀cl C s₀ H₀ fp,SFi (aBs X N' scope cl C s₀ H₀ fp) tw ifs c) (he:∀cl C s₀ H₀ fp,SE (aBs X N' scope cl C s₀ H₀ fp) tw elt e)
  (hs:autoParam (∀x,jw iter X.env x=pure x) l7):SE X tw (.ListComp elt [⟨tg,iter,ifs,0⟩] scope pos) (aBl d (srcOf srcs) put c e):=by
 intro B ρ n t m n' hd pins s O H Q I ⟨R,k⟩;obtain⟨⟨ts,n1⟩,e1,e2⟩:=bind_some hd;obtain⟨⟨out,n2⟩,e3,e4⟩:=map_some e2;cases e4;refine pe_comp hc C (hi B ρ n ts n1 e1) (g:=rG X tw put) (tt:=cT X B tw c) (te:=cE X B tw e) (fun cl C s₀ H₀ fp=>hg cl C s₀ H₀ fp) (fun cl C s₀ H₀ fp pins s O H Q I h=>?_) (fun cl C s₀ H₀ fp pins s O H Q I h=>?_) hs pins s O H Q I (bBw C nd R e3 k)
 ·obtain⟨ρ,n,b,n',e,h⟩:=h;exact ht cl C s₀ H₀ fp B ρ n b n' e pins s O H Q I h
 ·obtain⟨ρ,n,t,m,n',e',h⟩:=h;exact aQc (he cl C s₀ H₀ fp) B ρ n t m n' e' pins s O H Q I h
theorem aHz(i:Nat){y:Str}{elt iter:Expr}{ifs:List Expr}{scope:Scope}{pos spos py:Pos}{N':List Str}{srcs:List (Option Nat)}{d:DI}{put:T->En->Option En}{c:DT}{e:DE}(hc:X.calm=true)(hN:X.N.Nodup)(C:CompTxt X scope N' srcs)(nd:N'.Nodup)(hi:SIc X tw tg iter d)
  (hg:∀cl C s₀ H₀ fp,SG (aBs X N' scope cl C s₀ H₀ fp) tw tg put) (ht:∀cl C s₀ H₀ fp,SFi (aBs X N' scope cl C s₀ H₀ fp) tw ifs c) (he:∀cl C s₀ H₀ fp,SE (aBs X N' scope cl C s₀ H₀ fp) tw elt e)
  (hi':autoParam (X.N[i]?=some y) lZ) (hy:autoParam (X.env.scope.names.lookup y=some .local) lZ) (hsw:autoParam (kg (.ListComp elt [⟨tg,iter,ifs,0⟩] scope pos) (some (.Name y py)) spos.line X.env=pure true) lZ) (hs:autoParam (∀x,jw iter X.env x=pure x) l7) :
  SS X tw (.Assign [.Name y py] (.ListComp elt [⟨tg,iter,ifs,0⟩] scope pos) spos) (dSet i (aBl d (srcOf srcs) put c e)):=by
 intro B ρ n f ρ' n' hd pins s O H D I ⟨R,k⟩;obtain⟨⟨t,m,n0⟩,e0,e00⟩:=bind_some hd;obtain⟨⟨ts,n1⟩,e1,e2⟩:=bind_some e0;obtain⟨⟨out,n2⟩,e3,e4⟩:=map_some e2;cases e4;cases e00;refine ps_comp hc hN hi' hy C (hi B ρ n ts n1 e1) (g:=rG X tw put) (tt:=cT X B tw c) (te:=cE X B tw e) (fun cl C s₀ H₀ fp=>hg cl C s₀ H₀ fp) (fun cl C s₀ H₀ fp pins s O H Q I h=>?_) (fun cl C s₀ H₀ fp pins s O H Q I h=>?_) hsw hs pins s O H D I (bBw C nd R e3 fun v H' x y z=>k _ H' (x.fx R.tn) (R.store x y z rfl))
 ·obtain⟨ρ,n,b,n',e,h⟩:=h;exact ht cl C s₀ H₀ fp B ρ n b n' e pins s O H Q I h
 ·obtain⟨ρ,n,t,m,n',e',h⟩:=h;exact aQc (he cl C s₀ H₀ fp) B ρ n t m n' e' pins s O H Q I h
theorem aC5(i:Nat){st:Stmt}{d:DS}(h:SS X tw st d):SS X tw st (aBp i d):=by
 intro B ρ n f ρ' n' hh;have key:aBp i d ρ n=d ρ n\/aBp i d ρ n=dFrz i d ρ n:=by
  unfold aBp dFrz;cases ρ[i]? with
  |none=>exact .inl rfl
  | some o =>
   cases o with
   |none=>exact .inl rfl
   | some p =>
    obtain⟨t,m⟩:=p;cases t<;>cases m<;>first |exact .inl rfl |exact .inr rfl
 rcases key with e |e
 ·exact h B ρ n f ρ' n' (e▸hh)
 ·exact aEz i h B ρ n f ρ' n' (e▸hh)
theorem aM6{K:PySem.W.Frag}{H:Hp}:∀ {ts:List (T × Bool)} {vs:List V},Args K tw H ts vs->∀ (i:Nat) (t:T) (b:Bool),ts[i]?=some (t,b)->∃v,vs[i]?=some v/\(b=true->Rep tw H t v)/\Root K tw H t v
 |_,_,.nil,_,_,_,e=>by simp at e
 |_,_,.cons h1 h2 _,0,_,_,e=>by simp at e;obtain⟨rfl,rfl⟩:=e;exact⟨_,rfl,h1,h2⟩
 |_,_,.cons _ _ r,i+1,t,b,e=>by obtain⟨v,q1,q2⟩:=aM6 r i t b (by simpa using e);exact⟨v,by simpa using q1,q2⟩
theorem bAl{K:PySem.W.Frag}{H:Hp}{N:List Str}{ts:List (T × Bool)}{vs:List V}{n:Nat}(a:Args K tw H ts vs)(tn:Tn tw n H) :
  Rel K H tw (ts.map (fun t=>some (t.1,if t.2 then Md.fz else Md.bor))++List.replicate (N.length - ts.length) none) n (start N vs) H:=by
 have hl:=a.length;have get:∀ (i:Nat) (p:T × Md),(ts.map (fun t=>some (t.1,if t.2 then Md.fz else Md.bor))++List.replicate (N.length - ts.length) none)[i]?=some (some p)->∃b,ts[i]?=some (p.1,b)/\p.2=(if b then Md.fz else Md.bor):=fun i p e=>by
  by_cases h:i<ts.length
  ·rw[eG (by simpa using h),bo] at e;cases q:ts[i]? with
   |none=>rw[q] at e;cases e
   |some t=>rw[q] at e;cases e;exact⟨t.2,rfl,rfl⟩
  ·rw[eu (by simpa using h),fM] at e;split at e<;>cases e
 have val:∀ (i:Nat) (v:V),vs[i]?=some v->(start N vs)[i]?=some (some v):=fun i v e=>by have h:i<vs.length:=(b9.mp e).1;unfold start;rw[eG (by simpa using h),bo,e];rfl
 refine⟨.refl _ _,tn,⟨n,tn⟩,by unfold start;rw[bf,bf,a5,a5,dv,dv,hl],fun i t e=>?_,fun i t e=>?_,fun i t e=>?_,fun i t e=>?_,fun i j t t' a e e'=>?_⟩
 ·obtain⟨b,q1,q2⟩:=get i _ e;obtain⟨v,h1,h2,h3⟩:=aM6 a i t b q1;cases b with
  |true=>exact⟨v,val i v h1,h2 rfl⟩
  |false=>cases q2
 ·obtain⟨b,q1,q2⟩:=get i _ e;obtain⟨v,h1,h2,h3⟩:=aM6 a i t b q1;exact⟨v,val i v h1,h3⟩
 ·obtain⟨b,q1,q2⟩:=get i _ e;cases b<;>cases q2
 ·obtain⟨b,q1,q2⟩:=get i _ e;cases b<;>cases q2
 ·obtain⟨b,q1,q2⟩:=get i _ e;cases b<;>cases q2
theorem fn_ok{P:jW}{w:World}{K:PySem.W.Frag}{mg:Str->Option Value}{base:Heap}{x qual:Str}{st:Stmt}{f:Addr}{fd:jr}{N ps:List Str}{lv:Nat}{b:DS}(F:Fun K x qual st f fd)(S:FnScope N ps (aAv st))
  (hbody:∀ (cdv:Value) (A:jY) (outer:List Env) (s:jR) (H:Hp) (E:XK),Room lv (A.deeper (envOfC qual (aAv st) s.heap.objs.size f cdv))->SSs (cxOf CX0 P w K mg base N qual (aAv st) f cdv A outer s H E).nox tw (aB7 st) b):FnOk P w K mg base CX0 (lv+1) f fd ps (SpF K tw ps.length (fnD N.length b)):=by
 refine F.ok S (fun vs H Q E h=>h.1) (fun cdv A outer s H vs Q E hr h=>?_);obtain⟨hl,ts,n,t,m,n',a,tn,e,k⟩:=h;obtain⟨⟨fl,ρ',n1⟩,e1,e2⟩:=bind_some e;refine⟨_,hbody cdv A outer s H E hr H _ n fl ρ' n1 e1,bAl a tn,?_⟩;cases fl with
 |rt t0 m0=>cases e2;exact fun v H' _ x y z=>k v H' x y z
 |nx=>cases e2;exact fun σ' H' _ R=>k .non H' R.ext R.tn (by show Rep tw H' .non _;rw[Rep])
 |bk=>cases e2
 |ct=>cases e2
end
section
variable {X:Cx}{tw:Addr}
theorem aBb{K:PySem.W.Frag}{H:Hp}{a b:T}{vs:List V}(r:Roots K tw H [a,b] vs):∃v w,vs = [v,w]/\Root K tw H a v/\Root K tw H b w:=by
 cases r with
 | cons r1 r2=>cases r2 with
  |cons r2 r3=>cases r3;exact⟨_,_,rfl,r1,r2⟩
theorem aAp{K:PySem.W.Frag}{H:Hp}{a:T}{vs:List V}(r:Roots K tw H [a] vs):∃v,vs = [v]/\Root K tw H a v:=by
 cases r with
 |cons r1 r2=>cases r2;exact⟨_,rfl,r1⟩
theorem aXw{f:Value->Value->Sem Value}{C:Int->Int->Bool}{g:Int->Int->T}{gv:Int->Int->V}{r:R2}(ho:OpR X f r)(hr:∀a b H Q,C a b=true->Q (gv a b) H->r (.int a) (.int b) H Q)(hg:∀a b H,Rep tw H (g a b) (gv a b)):PrS X tw (two f) (pI2 C g):=by
 intro B pins s O H vs us ts n t m Q I rv rt tn e k;have ⟨a,b,ets,hC,et,em⟩:∃a b,ts = [.int a,.int b]/\C a b=true/\t=g a b/\m = .fz:=by
  match ts,e with
  | [.int a,.int b],e =>
   have e:(if C a b then some (g a b,Md.fz) else none)=some (t,m):=e;split at e
   ·rename_i h;cases e;exact⟨a,b,rfl,h,rfl,rfl⟩
   ·cases e
 subst ets et em;obtain⟨v,w,rfl,r1,r2⟩:=aBb rt;obtain rfl:=aAt r1;obtain rfl:=aAt r2;obtain⟨u1,u2,rfl,q1,q2⟩:=rv.two;exact ho pins s O H _ _ u1 u2 Q I q1 q2 (hr a b H Q hC (k _ H (.refl _ _) tn (hg a b H)))
theorem aD9:PrS X tw (two (kX .Sub)) pSub:=aXw op_sub (fun a b H Q _ q=>⟨a,b,rfl,rfl,q⟩) fun a b H=>by rw[Rep]
theorem aUs:PrS X tw (two (kX .Mod)) pMod:=aXw op_mod (fun a b H Q h q=>⟨a,b,rfl,rfl,by simpa using h,q⟩) fun a b H=>by rw[Rep]
theorem opC{p:Int->Int->Bool}(rule:∀ (i j:Int) (t u:Tok) (Q:Value->jR->Prop) (s:jR),Q (.bool (p i j)) s->wpAny ZC X.A (j6 op (.int i t) (.int j u)) Q X.xe s):OpR X (j6 op) (fun x y H Q=>∃i j,x = .int i/\y = .int j/\Q (.bl (p i j)) H):=by intro pins s O H x y v u Q I rx ry h;obtain⟨i,j,rfl,rfl,q⟩:=h;obtain⟨t,rfl⟩:=rx;obtain⟨t',rfl⟩:=ry;exact rule i j t t' _ s ⟨.bl _,H,I,rfl,q⟩
theorem pr_lt:PrS X tw (two (j6 .Lt)) pLt:=aXw (opC fun _ _ _ _ _ _ h=>lt_int h) (fun a b H Q _ q=>⟨a,b,rfl,rfl,q⟩) fun a b H=>by rw[Rep]
theorem pr_le:PrS X tw (two (j6 .LtE)) pLe:=aXw (opC fun _ _ _ _ _ _ h=>le_int h) (fun a b H Q _ q=>⟨a,b,rfl,rfl,q⟩) fun a b H=>by rw[Rep]
theorem pr_gt:PrS X tw (two (j6 .Gt)) pGt:=aXw (opC fun _ _ _ _ _ _ h=>gt_int h) (fun a b H Q _ q=>⟨a,b,rfl,rfl,q⟩) fun a b H=>by rw[Rep]
theorem pr_ge:PrS X tw (two (j6 .GtE)) pGe:=aXw (opC fun _ _ _ _ _ _ h=>ge_int h) (fun a b H Q _ q=>⟨a,b,rfl,rfl,q⟩) fun a b H=>by rw[Rep]
theorem se_isN{e:Expr}{d:DE}{j pos pos'}(h:SE X tw e d):SE X tw (.Compare e [.Is] [.Constant .none j pos'] pos) (dPr pIsN (aAa d dNil)):=by
 intro B ρ n t m n' hd pins s O H Q I ⟨R,k⟩;obtain⟨⟨ts,n1⟩,e1,e2⟩:=bind_some hd;obtain⟨⟨t0,m0,n0⟩,f1,f2⟩:=bind_some e1;cases f2;cases e2;refine pe_cmp (pc_isN (h B ρ n t0 m0 _ f1)) (by rfl) pins s O H Q I ⟨R,fun v H' x y z=>k _ H' x y ?_⟩;have R1:=R.mono x y;have rt:=z.root R1 R.tn;have:decide (v = .non)=isNon t0:=by
  cases t0 with
  |non=>have rt:Rep tw H' .non v:=rt;rw[Rep] at rt;subst rt;rfl
  |bl b=>have rt:Rep tw H' (.bl b) v:=rt;rw[Rep] at rt;subst rt;rfl
  |int b=>have rt:Rep tw H' (.int b) v:=rt;rw[Rep] at rt;subst rt;rfl
  |str b=>have rt:Rep tw H' (.str b) v:=rt;rw[Rep] at rt;subst rt;rfl
  |tup b=>have rt:Rep tw H' (.tup b) v:=rt;rw[Rep] at rt;obtain⟨_,_,rfl,_⟩:=rt;rfl
  |town=>have rt:Rep tw H' .town v:=rt;rw[Rep] at rt;subst rt;rfl
  |ob b=>have rt:Rep tw H' (.ob b) v:=rt;rw[Rep] at rt;subst rt;rfl
  |lst b=>obtain⟨_,_,rfl,_⟩:=rt;rfl
  |dic b=>obtain⟨_,_,rfl,_⟩:=rt;rfl
  |rdc b=>obtain⟨_,_,rfl,_⟩:=rt;rfl
 rw[this];show Rep tw H' (.bl _) _;rw[Rep]
abbrev rC(p:Int->Int->Bool):R2:=fun x y H Q=>∃i j,x = .int i/\y = .int j/\Q (.bl (p i j)) H
abbrev pC(p:Int->Int->Bool):Pr:=pI2 (fun _ _=>true) fun a b=>.bl (p a b)
theorem aU4{p:Int->Int->Bool}{n:Nat}(h:pC p n [a,b]=some (t,m)):∃i j,a = .int i/\b = .int j/\t = .bl (p i j)/\m = .fz:=by
 match a,b,h with
 |.int i,.int j,h=>cases h;exact⟨i,j,rfl,rfl,rfl,rfl⟩
theorem aVu{p1 p2:Int->Int->Bool}{n:Nat}{n':Nat}(hd:aHf (pC p1) (pC p2) da db dc ρ n=some (t,m,n'))(R:Rel X.K B tw ρ n O H)(k:∀v H',Ext tw H H'->Tn tw n' H'->Val X.K B tw H H' t m v->Q v H') :
  bAj (rC p1) (rC p2) (fun O H Q=>∃n t m n',da ρ n=some (t,m,n')/\rE X.K B tw ρ n t m n' O H Q) (fun O H Q=>∃n t m n',db ρ n=some (t,m,n')/\rE X.K B tw ρ n t m n' O H Q) (fun O H Q=>∃n t m n',dc ρ n=some (t,m,n')/\rE X.K B tw ρ n t m n' O H Q) O H Q:=by
 obtain⟨⟨ta,ma,na⟩,e1,e2⟩:=bind_some hd;obtain⟨⟨tb,mb,nb⟩,e3,e4⟩:=bind_some e2;obtain⟨⟨tr,mr⟩,e5,e6⟩:=bind_some e4;obtain⟨i,j,rfl,rfl,rfl,rfl⟩:=aU4 e5;refine⟨n,_,_,_,e1,R,fun v1 H1 x1 y1 z1=>⟨_,_,_,_,e3,R.mono x1 y1,fun v2 H2 x2 y2 z2=>?_⟩⟩;have R1:=R.mono x1 y1;have R2:=R1.mono x2 y2;obtain rfl:=aAt (z1.root R1 R.tn);obtain rfl:=aAt (z2.root R2 R1.tn);refine⟨i,j,rfl,rfl,p1 i j,rfl,?_⟩;have x12:=x1.trans x2;cases hp:p1 i j with
 | false =>
  rw[hp] at e6;have e6:some (T.bl false,Md.fz,nb)=some (t,m,n'):=e6;cases e6;exact iteF (k _ H2 x12 y2 (by show Rep tw H2 (.bl false) _;rw[Rep]))
 | true =>
  rw[hp] at e6;obtain⟨⟨tc,mc,nc⟩,e7,e8⟩:=bind_some (show (dc ρ nb).bind _=_ from e6);obtain⟨⟨tq,mq⟩,e9,e10⟩:=map_some e8;obtain⟨i2,j2,ei,rfl,rfl,rfl⟩:=aU4 e9;cases ei;cases e10;refine iteT ⟨_,_,_,_,e7,R2,fun v3 H3 x3 y3 z3=>?_⟩;obtain rfl:=aAt (z3.root (R2.mono x3 y3) R2.tn);exact⟨j,j2,rfl,rfl,k _ H3 (x12.trans x3) y3 (by show Rep tw H3 (.bl _) _;rw[Rep])⟩
theorem aLx{e:Expr}{d:DE}(h:SE X tw e d)(B:Hp)(ρ:En):PE X e (fun O H Q=>∃n t m n',d ρ n=some (t,m,n')/\rE X.K B tw ρ n t m n' O H Q):=fun pins s O H Q I ⟨n,t,m,n',e,q⟩=>h B ρ n t m n' e pins s O H Q I q
theorem se_chain{a b c:Expr}{da db dc:DE}{o1 o2:CmpOp}{p1 p2:Int->Int->Bool}{pos:Pos}(h1:OpR X (j6 o1) (rC p1))(h2:OpR X (j6 o2) (rC p2))(ha:SE X tw a da)(hb:SE X tw b db)(hc:SE X tw c dc)
  (hm:autoParam (lastMarks [o1,o2] [b,c]=false) az5._auto_1):SE X tw (.Compare a [o1,o2] [b,c] pos) (aHf (pC p1) (pC p2) da db dc):=by
 intro B ρ n t m n' hd pins s O H Q I ⟨R,k⟩;exact pe_chain h1 h2 (aLx ha B ρ) (aLx hb B ρ) (aLx hc B ρ) hm pins s O H Q I (aVu hd R k)
theorem aV2{a b c:Expr}{da db dc:DE}{o1 o2:CmpOp}{p1 p2:Int->Int->Bool}{pos:Pos}(h1:OpR X (j6 o1) (rC p1))(h2:OpR X (j6 o2) (rC p2))(ha:SE X tw a da)(hb:SE X tw b db)(hc:SE X tw c dc)
  (hm:autoParam (lastMarks [o1,o2] [b,c]=false) az5._auto_1):ST X tw (.Compare a [o1,o2] [b,c] pos) (dTru (aHf (pC p1) (pC p2) da db dc)):=by
 intro B ρ n bb n' hd pins s O H Q I ⟨R,k⟩;obtain⟨⟨t,m,n1⟩,e1,e2⟩:=bind_some hd;obtain⟨b',e3,e4⟩:=map_some e2;cases e4;refine pt_chain h1 h2 (aLx ha B ρ) (aLx hb B ρ) (aLx hc B ρ) hm pins s O H Q I (aVu e1 R fun v H' x y z=>?_);have isb:∃q,t = .bl q:=by
  obtain⟨⟨ta,ma,na⟩,g1,g2⟩:=bind_some e1;obtain⟨⟨tb,mb,nb⟩,g3,g4⟩:=bind_some g2;obtain⟨⟨tr,mr⟩,g5,g6⟩:=bind_some g4;obtain⟨i,j,rfl,rfl,rfl,rfl⟩:=aU4 g5;cases hp:p1 i j with
  | false =>
   rw[hp] at g6;have g6:some (T.bl false,Md.fz,nb)=some (t,m,n1):=g6;cases g6;exact⟨_,rfl⟩
  | true =>
   rw[hp] at g6;obtain⟨⟨tc,mc,nc⟩,g7,g8⟩:=bind_some (show (dc ρ nb).bind _=_ from g6);obtain⟨⟨tq,mq⟩,g9,g10⟩:=map_some g8;obtain⟨_,_,_,_,rfl,_⟩:=aU4 g9;cases g10;exact⟨_,rfl⟩
 obtain⟨q,rfl⟩:=isb;cases e3;have rt:Rep tw H' (.bl _) v:=(z.root (R.mono x y) R.tn)
 rw[Rep] at rt;subst rt;exact⟨_,rfl,k H' x y⟩
theorem aD4(h:H a=some (.tup vs))(r:Reps tw H xs vs):Rep tw H (.tup xs) (.ref a):=by rw[Rep];exact⟨a,vs,rfl,h,r⟩
theorem aBc{K:PySem.W.Frag}{H:Hp}{xs:List T}{v:V}(r:Root K tw H (.tup xs) v):∃a vs,v = .ref a/\H a=some (.tup vs)/\Reps tw H xs vs:=by have r:Rep tw H (.tup xs) v:=r;rw[Rep] at r;exact r
end
end L2.Ds
namespace L2.Ds
open PySem PySem.Spec PyProof.Rows PySem.SeqAt
section
variable {X:Cx}{tw:Addr}
theorem aGd(hP:∀t t' v,P t=true->P t'=true->Rep tw H t v->Rep tw H t' v->t=t'):∀ (xs ys:List T) (vs:List V),xs.all P=true->ys.all P=true->Reps tw H xs vs->Reps tw H ys vs->xs=ys
 | [],ys,vs,p,p',r,r'=>by
  obtain rfl:=aA3 r;cases ys with
  |nil=>rfl
  |cons y ys=>obtain⟨_,_,e,_⟩:=aAm r';cases e
 | x::xs,ys,vs,p,p',r,r'=>by
  obtain⟨v,w,rfl,q1,q2⟩:=aAm r;cases ys with
  |nil=>cases aA3 r'
  | cons y ys =>
   obtain⟨v',w',e,q1',q2'⟩:=aAm r';cases e;rw[dr,bq] at p p';rw[hP x y v p.1 p'.1 q1 q1',aGd hP xs ys w p.2 p'.2 q2 q2']
theorem aWf(hv:∀a,v ≠ .ref a)(r:Rep tw H t v)(r':Rep tw H t' v):t=t':=by cases t<;>rw[Rep] at r<;>first |(exact False.elim r) |(subst r;cases t'<;>rw[Rep] at r'<;>first |rfl |(exact False.elim r') |(cases r';rfl) |(cases r';done) |(obtain⟨_,_,e,_⟩:=r';cases e;done) |(obtain⟨_,_,_,e,_⟩:=r';cases e;done)) |(obtain⟨_,_,e,_⟩:=r;exact absurd e (hv _)) |(obtain⟨_,_,_,e,_⟩:=r;exact absurd e (hv _)) |(exact absurd r (hv _))
theorem rep_inj:∀ (k:Nat) (t t':T) (v:V),aAo k t=true->aAo k t'=true->Rep tw H t v->Rep tw H t' v->t=t':=by
 intro k
 induction k with
 | zero =>
  intro t t' v p p' r r';refine aWf (fun a e=>?_) r r';subst e;cases t<;>first |(cases p;done) |(rw[Rep] at r;cases r;done)
 | succ k ih =>
  intro t t' v p p' r r';cases t with
  | tup xs =>
   rw[Rep] at r;obtain⟨a,vs,rfl,e,q⟩:=r;cases t' with
   | tup ys =>
    rw[Rep] at r';obtain⟨a',vs',ea,e',q'⟩:=r';cases ea;rw[e] at e';cases e';rw[aGd (P:=aAo k) (ih) xs ys vs p p' q q']
   |lst ys=>rw[Rep] at r';obtain⟨a',o,vs',ea,e',_⟩:=r';cases ea;rw[e] at e';cases e'
   |dic ys=>cases p'
   |town=>cases p'
   |ob _=>cases p'
   |rdc _=>cases p'
   |_=>rw[Rep] at r';cases r'
  | lst xs =>
   rw[Rep] at r;obtain⟨a,o,vs,rfl,e,q⟩:=r;cases t' with
   | lst ys =>
    rw[Rep] at r';obtain⟨a',o',vs',ea,e',q'⟩:=r';cases ea;rw[e] at e';cases e';rw[aGd (P:=aAo k) (ih) xs ys vs p p' q q']
   |tup ys=>rw[Rep] at r';obtain⟨a',vs',ea,e',_⟩:=r';cases ea;rw[e] at e';cases e'
   |dic ys=>cases p'
   |town=>cases p'
   |ob _=>cases p'
   |rdc _=>cases p'
   |_=>rw[Rep] at r';cases r'
  |dic _=>cases p
  |town=>cases p
  |ob _=>cases p
  |rdc _=>cases p
  | _ =>
   refine aWf (fun a e=>?_) r r';subst e;rw[Rep] at r;cases r
theorem aFl(hP:∀t,P t=true->eqT t t=true):∀ (xs:List T),xs.all P=true->eqTs xs xs=true
 |[],_=>by rw[eqTs]
 |x::xs,p=>by rw[dr,bq] at p;rw[eqTs,hP x p.1,aFl hP xs p.2];rfl
theorem eqT_refl:∀ (k:Nat) (t:T),aAo k t=true->eqT t t=true:=by
 intro k
 induction k with
 |zero=>intro t p;cases t<;>first |(cases p;done) |(rw[eqT];done) |(rw[eqT];simp)
 | succ k ih =>
  intro t p;cases t with
  |tup xs=>rw[eqT];exact aFl ih xs p
  |lst xs=>rw[eqT];exact aFl ih xs p
  |dic _=>cases p
  |town=>cases p
  |ob _=>cases p
  |rdc _=>cases p
  |non=>rw[eqT]
  |_=>rw[eqT];simp
theorem aG2:∀ (xs ys:List T),xs.length≠ys.length->eqTs xs ys=false
 |[],[],h=>absurd rfl h
 |[],_::_,_=>by simp[eqTs]
 |_::_,[],_=>by simp[eqTs]
 |x::xs,y::ys,h=>by rw[eqTs,aG2 xs ys (fun e=>h (by rw[aa,aa,e])),gX]
theorem aGp:∀ (xs ys:List T),xs.length=ys.length->eqTs xs ys=(List.range xs.length).all fun j=>eqT (xs.getD j .non) (ys.getD j .non)
 |[],[],_=>by rw[eqTs];rfl
 |[],_::_,h=>by cases h
 |_::_,[],h=>by cases h
 |x::xs,y::ys,h=>by rw[eqTs,aGp xs ys (by simpa using h),aa,iC,dr,gQ];rfl
theorem aHm(r:Reps tw H xs vs)(rv:Vals vs us){j:Nat}(h:j<us.length):∃v,Rep tw H (xs.getD j .non) v/\RelV v us[j]:=by
 have h1:j<vs.length:=by rw[rv.length];exact h
 have h2:j<xs.length:=by rw[r.length];exact h1
 obtain⟨v,e1,e2⟩:=r.get (i:=j) (x:=xs[j]) (by simp[h2]);obtain⟨u,e3,e4⟩:=rv.get e1;have:us[j]=u:=by have:=ai h;rw[this] at e3;exact Option.some.inj e3
 refine⟨v,?_,this▸e4⟩;rw[az,ai h2];exact e2
inductive Kd (s:jR) (tw:Addr) (H:Hp):T->Value->Prop
 |non:Kd s tw H .non .none
 |bl (b:Bool):Kd s tw H (.bl b) (.bool b)
 |int (i:Int) (t:Tok):Kd s tw H (.int i) (.int i t)
 |str (x:Str) (t:Tok):Kd s tw H (.str x) (.str x t)
 |tup {xs:List T} {a:Addr} {us:List Value} {vs:List V}:s.heap.IsTuple a us.toArray->Reps tw H xs vs->Vals vs us->Kd s tw H (.tup xs) (.ref a)
 |lst {xs:List T} {a:Addr} {us:List Value} {vs:List V}:s.heap.IsList a us.toArray->Reps tw H xs vs->Vals vs us->Kd s tw H (.lst xs) (.ref a)
theorem aQ3{k:Nat}(I:Inv X pins O H s)(p:aAo k t=true)(r:Root X.K tw H t v)(rv:RelV v u):Kd s tw H t u:=by
 cases t with
 |non=>have r:Rep tw H .non v:=r;rw[Rep] at r;subst r;cases rv;exact .non
 |bl b=>have r:Rep tw H (.bl b) v:=r;rw[Rep] at r;subst r;cases rv;exact .bl b
 |int i=>have r:Rep tw H (.int i) v:=r;rw[Rep] at r;subst r;obtain⟨t,rfl⟩:=rv;exact .int i t
 |str x=>have r:Rep tw H (.str x) v:=r;rw[Rep] at r;subst r;obtain⟨t,rfl⟩:=rv;exact .str x t
 | tup xs =>
  obtain⟨a,vs,rfl,e,q⟩:=aBc r;cases rv;obtain⟨its,r1,p1,_⟩:=I.tuple (SqT.of e);exact .tup p1 q r1
 | lst xs =>
  obtain⟨a,vs,rfl,e,q⟩:=r;cases rv;obtain⟨its,r1,p1,_⟩:=I.list e.sq;exact .lst p1.isList q r1
 |dic _=>cases k<;>cases p
 |town=>cases k<;>cases p
 |ob _=>cases k<;>cases p
 |rdc _=>cases k<;>cases p
theorem in1_units{A:jY}:A.in1.units=A.units+1:=rfl
theorem eq_at{n:Nat}(I:Inv X pins O H s)(tn:Tn tw n H):∀ (k:Nat) (A:jY) (t t':T) (u u':Value),A.units+k<cLine->aAo k t=true->aAo k t'=true->Kd s tw H t u->Kd s tw H t' u' ->
  RcAt A s u u' (eqT t t')/\((∃v,Rep tw H t v/\RelV v u)->(∃v,Rep tw H t' v/\RelV v u')->EqAt A s u u' (eqT t t')):=by
 intro k
 induction k with
 | zero =>
  intro A t t' u u' hu p p' d d';cases d with
  |tup=>cases p
  |lst=>cases p
  | non =>
   cases d' with
   |tup=>cases p'
   |lst=>cases p'
   |non=>rw[eqT];exact⟨RcAt.none_none,fun _ _=>EqAt.same _⟩
   |bl b=>exact⟨RcAt.none_bool b,fun _ _=>EqAt.none_bool b⟩
   |int i t=>exact⟨RcAt.none_int i t,fun _ _=>EqAt.none_int i t⟩
   |str x t=>exact⟨RcAt.none_str x t,fun _ _=>EqAt.none_str x t⟩
  | bl a =>
   cases d' with
   |tup=>cases p'
   |lst=>cases p'
   |non=>exact⟨RcAt.bool_none a,fun _ _=>EqAt.bool_none a⟩
   |bl b=>rw[eqT];exact⟨RcAt.bool_bool a b,fun _ _=>EqAt.bool_bool a b⟩
   |int i t=>rw[eqT];exact⟨RcAt.bool_int a i t,fun _ _=>EqAt.bool_int a i t⟩
   |str x t=>exact⟨RcAt.bool_str a x t,fun _ _=>EqAt.bool_str a x t⟩
  | int a ta =>
   cases d' with
   |tup=>cases p'
   |lst=>cases p'
   |non=>exact⟨RcAt.int_none a ta,fun _ _=>EqAt.int_none a ta⟩
   |bl b=>rw[eqT];exact⟨RcAt.int_bool a ta b,fun _ _=>EqAt.int_bool a ta b⟩
   |int i t=>rw[eqT];exact⟨RcAt.int_int a ta i t,fun _ _=>EqAt.int_int a ta i t⟩
   |str x t=>exact⟨RcAt.int_str a ta x t,fun _ _=>EqAt.int_str a ta x t⟩
  | str a ta =>
   cases d' with
   |tup=>cases p'
   |lst=>cases p'
   |non=>exact⟨RcAt.str_none a ta,fun _ _=>EqAt.str_none a ta⟩
   |bl b=>exact⟨RcAt.str_bool a ta b,fun _ _=>EqAt.str_bool a ta b⟩
   |int i t=>exact⟨RcAt.str_int a ta i t,fun _ _=>EqAt.str_int a ta i t⟩
   |str x t=>rw[eqT];exact⟨RcAt.str_str a ta x t,fun _ _=>EqAt.str_str a ta x t⟩
 | succ k ih =>
  intro A t t' u u' hu p p' d d';have hA:A.units<cLine:=by lia
  have hA1:A.in1.units+k<cLine:=by rw[in1_units];lia
  have refs:∀ {a b:Addr} {t t':T},aAo (k+1) t=true->aAo (k+1) t'=true->RcAt A s (.ref a) (.ref b) (eqT t t')->(∃v,Rep tw H t v/\RelV v (.ref a))->(∃v,Rep tw H t' v/\RelV v (.ref b))->EqAt A s (.ref a) (.ref b) (eqT t t'):=fun {a b t t'} p p' h ⟨v,rv,ev⟩ ⟨v',rv',ev'⟩=>by
   by_cases hab:a=b
   ·subst hab;obtain rfl:=ev.inj ev';obtain rfl:=rep_inj (k+1) t t' v p p' rv rv';rw[eqT_refl (k+1) t p];exact EqAt.same _
   ·exact .of_refs hab h
  have items:∀ {xs ys:List T} {us ws:List Value} {vs vs':List V},xs.all (aAo k)=true->ys.all (aAo k)=true->Reps tw H xs vs->Vals vs us->Reps tw H ys vs'->Vals vs' ws->∀j (h1:j<us.toArray.size) (h2:j<ws.toArray.size),EqAt A.in1 s us.toArray[j] ws.toArray[j] (eqT (xs.getD j .non) (ys.getD j .non)):=fun {xs ys us ws vs vs'} px py rx vx ry vy j h1 h2=>by
   have h1':j<us.length:=by simpa using h1
   have h2':j<ws.length:=by simpa using h2
   obtain⟨v1,a1,b1⟩:=aHm rx vx h1';obtain⟨v2,a2,b2⟩:=aHm ry vy h2';have g1:aAo k (xs.getD j .non)=true:=by rw[az,ai (show j<xs.length by rw[rx.length,vx.length];exact h1')];exact br.mp px _ (cv _)
   have g2:aAo k (ys.getD j .non)=true:=by rw[az,ai (show j<ys.length by rw[ry.length,vy.length];exact h2')];exact br.mp py _ (cv _)
   have:=(ih A.in1 _ _ _ _ hA1 g1 g2 (aQ3 I g1 (Root.of_rep tn a1) b1) (aQ3 I g2 (Root.of_rep tn a2) b2)).2 ⟨v1,a1,b1⟩ ⟨v2,a2,b2⟩;simpa using this
  cases d with
  | @tup xs a us vs ia rx vx =>
   cases d' with
   | @tup ys b ws vs' ib ry vy =>
    have key:RcAt A s (.ref a) (.ref b) (eqT (.tup xs) (.tup ys)):=by
     have:=RcAt.tuples (A:=A) ia ib hA (items p p' rx vx ry vy);have ex:xs.length=us.length:=rx.length.trans vx.length;have ey:ys.length=ws.length:=ry.length.trans vy.length;rw[eqT];by_cases hl:xs.length=ys.length
     ·rw[aGp xs ys hl];simp only[ah] at this;rw[<-ex,<-ey,<-hl,Nat.min_self,beq_self_eq_true,Bool.and_true] at this;exact this
     ·rw[aG2 xs ys hl];simp only[ah] at this;rw[show (us.length==ws.length)=false by rw[<-ex,<-ey];simpa using hl,gX] at this;exact this
    exact⟨key,refs p p' key⟩
   | @lst ys b ws vs' ib ry vy =>
    have key:RcAt A s (.ref a) (.ref b) (eqT (.tup xs) (.lst ys)):=RcAt.tuple_list ia ib hA;exact⟨key,refs p p' key⟩
   |non=>exact⟨RcAt.tuple_none ia hA,fun _ _=>EqAt.tuple_none ia hA⟩
   |bl b=>exact⟨RcAt.tuple_bool b ia hA,fun _ _=>EqAt.tuple_bool b ia hA⟩
   |int b t=>exact⟨RcAt.tuple_int b t ia hA,fun _ _=>EqAt.tuple_int b t ia hA⟩
   |str b t=>exact⟨RcAt.tuple_str b t ia hA,fun _ _=>EqAt.tuple_str b t ia hA⟩
  | @lst xs a us vs ia rx vx =>
   cases d' with
   | @lst ys b ws vs' ib ry vy =>
    have key:RcAt A s (.ref a) (.ref b) (eqT (.lst xs) (.lst ys)):=by
     have ex:xs.length=us.length:=rx.length.trans vx.length;have ey:ys.length=ws.length:=ry.length.trans vy.length;rw[eqT];by_cases hl:xs.length=ys.length
     ·have:=RcAt.lists (A:=A) ia ib (by simp;lia) hA (items p p' rx vx ry vy);rw[aGp xs ys hl];simp only[ah] at this;rw[<-ex] at this;exact this
     ·rw[aG2 xs ys hl];exact RcAt.lists_lengths ia ib (by simp;lia) hA
    exact⟨key,refs p p' key⟩
   | @tup ys b ws vs' ib ry vy =>
    have key:RcAt A s (.ref a) (.ref b) (eqT (.lst xs) (.tup ys)):=RcAt.list_tuple ia ib hA;exact⟨key,refs p p' key⟩
   |non=>exact⟨RcAt.list_none ia hA,fun _ _=>EqAt.list_none ia hA⟩
   |bl b=>exact⟨RcAt.list_bool b ia hA,fun _ _=>EqAt.list_bool b ia hA⟩
   |int b t=>exact⟨RcAt.list_int b t ia hA,fun _ _=>EqAt.list_int b t ia hA⟩
   |str b t=>exact⟨RcAt.list_str b t ia hA,fun _ _=>EqAt.list_str b t ia hA⟩
  | non =>
   cases d' with
   |tup ib=>exact⟨RcAt.none_tuple ib hA,fun _ _=>EqAt.none_tuple ib hA⟩
   |lst ib=>exact⟨RcAt.none_list ib hA,fun _ _=>EqAt.none_list ib hA⟩
   |non=>rw[eqT];exact⟨RcAt.none_none,fun _ _=>EqAt.same _⟩
   |bl b=>exact⟨RcAt.none_bool b,fun _ _=>EqAt.none_bool b⟩
   |int i t=>exact⟨RcAt.none_int i t,fun _ _=>EqAt.none_int i t⟩
   |str x t=>exact⟨RcAt.none_str x t,fun _ _=>EqAt.none_str x t⟩
  | bl a =>
   cases d' with
   |tup ib=>exact⟨RcAt.bool_tuple a ib hA,fun _ _=>EqAt.bool_tuple a ib hA⟩
   |lst ib=>exact⟨RcAt.bool_list a ib hA,fun _ _=>EqAt.bool_list a ib hA⟩
   |non=>exact⟨RcAt.bool_none a,fun _ _=>EqAt.bool_none a⟩
   |bl b=>rw[eqT];exact⟨RcAt.bool_bool a b,fun _ _=>EqAt.bool_bool a b⟩
   |int i t=>rw[eqT];exact⟨RcAt.bool_int a i t,fun _ _=>EqAt.bool_int a i t⟩
   |str x t=>exact⟨RcAt.bool_str a x t,fun _ _=>EqAt.bool_str a x t⟩
  | int a ta =>
   cases d' with
   |tup ib=>exact⟨RcAt.int_tuple a ta ib hA,fun _ _=>EqAt.int_tuple a ta ib hA⟩
   |lst ib=>exact⟨RcAt.int_list a ta ib hA,fun _ _=>EqAt.int_list a ta ib hA⟩
   |non=>exact⟨RcAt.int_none a ta,fun _ _=>EqAt.int_none a ta⟩
   |bl b=>rw[eqT];exact⟨RcAt.int_bool a ta b,fun _ _=>EqAt.int_bool a ta b⟩
   |int i t=>rw[eqT];exact⟨RcAt.int_int a ta i t,fun _ _=>EqAt.int_int a ta i t⟩
   |str x t=>exact⟨RcAt.int_str a ta x t,fun _ _=>EqAt.int_str a ta x t⟩
  | str a ta =>
   cases d' with
   |tup ib=>exact⟨RcAt.str_tuple a ta ib hA,fun _ _=>EqAt.str_tuple a ta ib hA⟩
   |lst ib=>exact⟨RcAt.str_list a ta ib hA,fun _ _=>EqAt.str_list a ta ib hA⟩
   |non=>exact⟨RcAt.str_none a ta,fun _ _=>EqAt.str_none a ta⟩
   |bl b=>exact⟨RcAt.str_bool a ta b,fun _ _=>EqAt.str_bool a ta b⟩
   |int i t=>exact⟨RcAt.str_int a ta i t,fun _ _=>EqAt.str_int a ta i t⟩
   |str x t=>rw[eqT];exact⟨RcAt.str_str a ta x t,fun _ _=>EqAt.str_str a ta x t⟩
theorem aCm{A:jY}{s:jR}{u u':Value}{b c:Bool}(h:RcNeAt A s u u' b)(e:b=c):RcNeAt A s u u' c:=e▸h
theorem ne_at{n:Nat}(I:Inv X pins O H s)(tn:Tn tw n H)(k:Nat)(A:jY)(t t':T)(u u':Value)(hu:A.units+(k+1)<cLine)(p:aAo (k+1) t=true)(p':aAo (k+1) t'=true)(d:Kd s tw H t u)(d':Kd s tw H t' u') :
  RcNeAt A s u u' (!eqT t t'):=by
 have hA:A.units<cLine:=by lia
 have hA1:A.in1.units+k<cLine:=by rw[in1_units];lia
 have items:∀ {xs ys:List T} {us ws:List Value} {vs vs':List V},xs.all (aAo k)=true->ys.all (aAo k)=true->Reps tw H xs vs->Vals vs us->Reps tw H ys vs'->Vals vs' ws->∀j (h1:j<us.toArray.size) (h2:j<ws.toArray.size),EqAt A.in1 s us.toArray[j] ws.toArray[j] (eqT (xs.getD j .non) (ys.getD j .non)):=fun {xs ys us ws vs vs'} px py rx vx ry vy j h1 h2=>by
  have h1':j<us.length:=by simpa using h1
  have h2':j<ws.length:=by simpa using h2
  obtain⟨v1,a1,b1⟩:=aHm rx vx h1';obtain⟨v2,a2,b2⟩:=aHm ry vy h2';have g1:aAo k (xs.getD j .non)=true:=by rw[az,ai (show j<xs.length by rw[rx.length,vx.length];exact h1')];exact br.mp px _ (cv _)
  have g2:aAo k (ys.getD j .non)=true:=by rw[az,ai (show j<ys.length by rw[ry.length,vy.length];exact h2')];exact br.mp py _ (cv _)
  have:=(eq_at I tn k A.in1 _ _ _ _ hA1 g1 g2 (aQ3 I g1 (Root.of_rep tn a1) b1) (aQ3 I g2 (Root.of_rep tn a2) b2)).2 ⟨v1,a1,b1⟩ ⟨v2,a2,b2⟩;simpa using this
 cases d with
 | non =>
  cases d' with
  |tup ib=>exact RcNeAt.none_tuple  ib hA
  |lst ib=>exact RcNeAt.none_list  ib hA
  |non=>exact aCm (RcNeAt.none_none ) (by first |rfl |(rw[eqT];done) |(simp[eqT];done))
  |bl b=>exact aCm (RcNeAt.none_bool b) (by first |rfl |(rw[eqT];done) |(simp[eqT];done))
  |int b tb=>exact aCm (RcNeAt.none_int b tb) (by first |rfl |(rw[eqT];done) |(simp[eqT];done))
  |str b tb=>exact aCm (RcNeAt.none_str b tb) (by first |rfl |(rw[eqT];done) |(simp[eqT];done))
 | bl a =>
  cases d' with
  |tup ib=>exact RcNeAt.bool_tuple a ib hA
  |lst ib=>exact RcNeAt.bool_list a ib hA
  |non=>exact aCm (RcNeAt.bool_none a) (by first |rfl |(rw[eqT];done) |(simp[eqT];done))
  |bl b=>exact aCm (RcNeAt.bool_bool a b) (by first |rfl |(rw[eqT];done) |(simp[eqT];done))
  |int b tb=>exact aCm (RcNeAt.bool_int a b tb) (by first |rfl |(rw[eqT];done) |(simp[eqT];done))
  |str b tb=>exact aCm (RcNeAt.bool_str a b tb) (by first |rfl |(rw[eqT];done) |(simp[eqT];done))
 | int a ta =>
  cases d' with
  |tup ib=>exact RcNeAt.int_tuple a ta ib hA
  |lst ib=>exact RcNeAt.int_list a ta ib hA
  |non=>exact aCm (RcNeAt.int_none a ta) (by first |rfl |(rw[eqT];done) |(simp[eqT];done))
  |bl b=>exact aCm (RcNeAt.int_bool a ta b) (by first |rfl |(rw[eqT];done) |(simp[eqT];done))
  |int b tb=>exact aCm (RcNeAt.int_int a ta b tb) (by first |rfl |(rw[eqT];done) |(simp[eqT];done))
  |str b tb=>exact aCm (RcNeAt.int_str a ta b tb) (by first |rfl |(rw[eqT];done) |(simp[eqT];done))
 | str a ta =>
  cases d' with
  |tup ib=>exact RcNeAt.str_tuple a ta ib hA
  |lst ib=>exact RcNeAt.str_list a ta ib hA
  |non=>exact aCm (RcNeAt.str_none a ta) (by first |rfl |(rw[eqT];done) |(simp[eqT];done))
  |bl b=>exact aCm (RcNeAt.str_bool a ta b) (by first |rfl |(rw[eqT];done) |(simp[eqT];done))
  |int b tb=>exact aCm (RcNeAt.str_int a ta b tb) (by first |rfl |(rw[eqT];done) |(simp[eqT];done))
  |str b tb=>exact aCm (RcNeAt.str_str a ta b tb) (by first |rfl |(rw[eqT];done) |(simp[eqT];done))
 | @tup xs a us vs ia rx vx =>
  cases d' with
  |non=>exact aCm (RcNeAt.tuple_none  ia hA) (by first |rfl |(simp[eqT];done))
  |bl b=>exact aCm (RcNeAt.tuple_bool b ia hA) (by first |rfl |(simp[eqT];done))
  |int b tb=>exact aCm (RcNeAt.tuple_int b tb ia hA) (by first |rfl |(simp[eqT];done))
  |str b tb=>exact aCm (RcNeAt.tuple_str b tb ia hA) (by first |rfl |(simp[eqT];done))
  | @tup ys b ws vs' ib ry vy =>
   have:=RcNeAt.tuples (A:=A) ia ib hA (items p p' rx vx ry vy);have ex:xs.length=us.length:=rx.length.trans vx.length;have ey:ys.length=ws.length:=ry.length.trans vy.length;rw[eqT];by_cases hl:xs.length=ys.length
   ·rw[aGp xs ys hl];simp only[ah] at this;rw[<-ex,<-ey,<-hl,Nat.min_self,beq_self_eq_true,Bool.and_true] at this;exact this
   ·rw[aG2 xs ys hl];simp only[ah] at this;rw[show (us.length==ws.length)=false by rw[<-ex,<-ey];simpa using hl,gX] at this;exact this
  |@lst ys b ws vs' ib ry vy=>exact aCm (RcNeAt.tuple_list ia ib hA) (by first |rfl |(simp[eqT];done))
 | @lst xs a us vs ia rx vx =>
  cases d' with
  |non=>exact aCm (RcNeAt.list_none  ia hA) (by first |rfl |(simp[eqT];done))
  |bl b=>exact aCm (RcNeAt.list_bool b ia hA) (by first |rfl |(simp[eqT];done))
  |int b tb=>exact aCm (RcNeAt.list_int b tb ia hA) (by first |rfl |(simp[eqT];done))
  |str b tb=>exact aCm (RcNeAt.list_str b tb ia hA) (by first |rfl |(simp[eqT];done))
  | @lst ys b ws vs' ib ry vy =>
   have ex:xs.length=us.length:=rx.length.trans vx.length;have ey:ys.length=ws.length:=ry.length.trans vy.length;rw[eqT];by_cases hl:xs.length=ys.length
   ·have:=RcNeAt.lists (A:=A) ia ib (by simp;lia) hA (items p p' rx vx ry vy);rw[aGp xs ys hl];simp only[ah] at this;rw[<-ex] at this;exact this
   ·rw[aG2 xs ys hl];exact RcNeAt.lists_lengths ia ib (by simp;lia) hA
  |@tup ys b ws vs' ib ry vy=>exact aCm (RcNeAt.list_tuple ia ib hA) (by first |rfl |(simp[eqT];done))
theorem bAu{r:Bool}(h:eqP a b=some r):(∃kvs,a = .dic kvs/\b = .dic []/\r=kvs.isEmpty)\/(aAo 6 a=true/\aAo 6 b=true/\r=eqT a b):=by
 have gen:(if aAo 6 a&&aAo 6 b then some (eqT a b) else none)=some r->(aAo 6 a=true/\aAo 6 b=true/\r=eqT a b):=fun h=>by
  split at h
  ·rename_i q;rw[bq] at q;cases h;exact⟨q.1,q.2,rfl⟩
  ·cases h
 cases a with
 | dic kvs =>
  cases b with
  | dic ws =>
   have h:(if ws.isEmpty then some kvs.isEmpty else none)=some r:=h;cases ws with
   |nil=>cases h;exact .inl ⟨kvs,rfl,rfl,rfl⟩
   |cons p q=>cases h
  |_=>exact .inr (gen h)
 |_=>exact .inr (gen h)
end
end L2.Ds
namespace L2.Ds
open PySem PySem.Spec PyProof.Rows
section
variable {X:Cx}{tw:Addr}
theorem aRj(hu:X.A.units+6<cLine)(hd:∀ (pins:List ZL) (s:jR) (O:St) (H:Hp) (a b:Addr) (ws:List (Key × V)) (Q:Value->jR->Prop),Inv X pins O H s->Rd H a (.dK ws)->Rd H b (.dK [])->(∀s',Inv X pins O H s'->Q (.bool ws.isEmpty) s')->wpAny ZC X.A (j6 .Eq (.ref a) (.ref b)) Q X.xe s) :
  PrS X tw (two (j6 .Eq)) pEq:=by
 intro B pins s O H vs us ts n t m Q I rv rt tn e k;have ⟨a,b,r,ets,er,et,em⟩:∃a b r,ts = [a,b]/\eqP a b=some r/\t = .bl r/\m = .fz:=by
  match ts,e with
  |[a,b],e=>obtain⟨r,h1,h2⟩:=map_some e;cases h2;exact⟨a,b,r,rfl,h1,rfl,rfl⟩
 subst ets et em;obtain⟨v,w,rfl,r1,r2⟩:=aBb rt;obtain⟨u1,u2,rfl,q1,q2⟩:=rv.two;have fin:∀s',Inv X pins O H s'->EP X pins O Q (.bool r) s':=fun s' I'=>⟨.bl r,H,I',rfl,k _ H (.refl _ _) tn (by show Rep tw H (.bl r) _;rw[Rep])⟩
 rcases bAu er with ⟨kvs,rfl,rfl,rfl⟩ |⟨p,p',rfl⟩
 ·obtain⟨a1,w1,rfl,_,e1,x1⟩:=r1;obtain⟨a2,w2,rfl,_,e2,x2⟩:=r2;cases q1;cases q2;rw[RepK] at x2;subst x2;have:w1.isEmpty=kvs.isEmpty:=by have:=RepK.length x1;cases kvs<;>cases w1<;>first |rfl |(simp at this)
  exact hd pins s O H a1 a2 w1 _ I e1 e2 fun s' I'=>by rw[this];exact fin s' I'
 ·exact(eq_at I tn 6 X.A a b u1 u2 hu p p' (aQ3 I p r1 q1) (aQ3 I p' r2 q2)).1 X.prog X.w X.xe _ (fin s I)
theorem aJy(hu:X.A.units+6<cLine)(hd:∀ (pins:List ZL) (s:jR) (O:St) (H:Hp) (a b:Addr) (ws:List (Key × V)) (Q:Value->jR->Prop),Inv X pins O H s->Rd H a (.dK ws)->Rd H b (.dK [])->(∀s',Inv X pins O H s'->Q (.bool (!ws.isEmpty)) s')->wpAny ZC X.A (j6 .NotEq (.ref a) (.ref b)) Q X.xe s) :
  PrS X tw (two (j6 .NotEq)) pNe:=by
 intro B pins s O H vs us ts n t m Q I rv rt tn e k;have ⟨a,b,r,ets,er,et,em⟩:∃a b r,ts = [a,b]/\eqP a b=some r/\t = .bl (!r)/\m = .fz:=by
  match ts,e with
  |[a,b],e=>obtain⟨r,h1,h2⟩:=map_some e;cases h2;exact⟨a,b,r,rfl,h1,rfl,rfl⟩
 subst ets et em;obtain⟨v,w,rfl,r1,r2⟩:=aBb rt;obtain⟨u1,u2,rfl,q1,q2⟩:=rv.two;have fin:∀s',Inv X pins O H s'->EP X pins O Q (.bool (!r)) s':=fun s' I'=>⟨.bl (!r),H,I',rfl,k _ H (.refl _ _) tn (by show Rep tw H (.bl (!r)) _;rw[Rep])⟩
 rcases bAu er with ⟨kvs,rfl,rfl,rfl⟩ |⟨p,p',rfl⟩
 ·obtain⟨a1,w1,rfl,_,e1,x1⟩:=r1;obtain⟨a2,w2,rfl,_,e2,x2⟩:=r2;cases q1;cases q2;rw[RepK] at x2;subst x2;have:w1.isEmpty=kvs.isEmpty:=by have:=RepK.length x1;cases kvs<;>cases w1<;>first |rfl |(simp at this)
  exact hd pins s O H a1 a2 w1 _ I e1 e2 fun s' I'=>by rw[this];exact fin s' I'
 ·exact(ne_at I tn 5 X.A a b u1 u2 hu p p' (aQ3 I p r1 q1) (aQ3 I p' r2 q2)) X.prog X.w X.xe _ (fin s I)
theorem aA1:PrS X tw (two (kX .Add)) pAdd:=by
 intro B pins s O H vs us ts n t m Q I rv rt tn e k
 match ts,e with
 | [.int a,.int b],e =>
  cases e;obtain⟨v,w,rfl,r1,r2⟩:=aBb rt;obtain rfl:=aAt r1;obtain rfl:=aAt r2;obtain⟨u1,u2,rfl,q1,q2⟩:=rv.two;exact op_add pins s O H _ _ u1 u2 Q I q1 q2 ⟨a,b,rfl,rfl,k _ H (.refl _ _) tn (by show Rep tw H (.int _) _;rw[Rep])⟩
 | [.tup xs,.tup ys],e =>
  have e:(if xs.length+ys.length<=big then some (T.tup (xs++ys),Md.fz) else none)=some (t,m):=e;split at e
  ·rename_i hb;cases e;obtain⟨v,w,rfl,r1,r2⟩:=aBb rt;obtain⟨a,va,rfl,ea,xa⟩:=aBc r1;obtain⟨b,vb,rfl,eb,xb⟩:=aBc r2;obtain⟨u1,u2,rfl,q1,q2⟩:=rv.two;cases q1;cases q2;obtain⟨its,r1',p1,_⟩:=I.tuple (SqT.of (K:=X.K) ea);obtain⟨its2,r2',p2,_⟩:=I.tuple (SqT.of (K:=X.K) eb);obtain⟨⟨cls,dd,data,sl⟩,ho,hc,n1,hd⟩:=id p1;obtain⟨⟨cls2,dd2,data2,sl2⟩,ho2,hc2,n2,hd2⟩:=id p2;simp only at hc hd hc2 hd2;subst hc hd hc2 hd2;have l1:=xa.length;have l2:=xb.length;have l3:=r1'.length;have l4:=r2'.length;by_cases h0:its = []
   ·refine concat_meets ⟨_,ho,rfl⟩ ⟨_,ho2,rfl⟩ noFill_tuple_add seq_tuple_add PySem.F.slot_tuple_add PySem.F.entry_tuple_add (PySem.F.args_tuple_add_2 _ _) (tuple_addW0 a b its.toArray its2.toArray n1 n2 dd dd2 sl sl2 (by simp[h0])) ⟨ho,ho2,?_⟩;have:xs = []:=d5 (by rw[l1,l3,h0];rfl);subst this;exact⟨.ref b,H,I,rfl,k _ H (.refl _ _) tn (aD4 eb xb)⟩
   ·by_cases h1:its2 = []
    ·refine concat_meets ⟨_,ho,rfl⟩ ⟨_,ho2,rfl⟩ noFill_tuple_add seq_tuple_add PySem.F.slot_tuple_add PySem.F.entry_tuple_add (PySem.F.args_tuple_add_2 _ _) (tuple_addW1 a b its.toArray its2.toArray n1 n2 dd dd2 sl sl2 (by simpa using h0) (by simp[h1])) ⟨ho,ho2,?_⟩;have:ys = []:=d5 (by rw[l2,l4,h1];rfl);subst this;rw[fA] at k;exact⟨.ref a,H,I,rfl,k _ H (.refl _ _) tn (aD4 ea xa)⟩
    ·refine concat_meets ⟨_,ho,rfl⟩ ⟨_,ho2,rfl⟩ noFill_tuple_add seq_tuple_add PySem.F.slot_tuple_add PySem.F.entry_tuple_add (PySem.F.args_tuple_add_2 _ _) (tuple_addW2 a b its.toArray its2.toArray n1 n2 dd dd2 sl sl2 (by simpa using h0) (by simpa using h1) (by rw[ah,ah,<-l3,<-l4,<-l1,<-l2];exact aC9 hb)) ⟨ho,ho2,?_⟩;have ee:its.toArray++its2.toArray=(its++its2).toArray:=by simp
     rw[ee];have hp:H s.heap.objs.size=none:=I.hok.fresh (a9 _);refine⟨.ref s.heap.objs.size,_,I.laid (t':=s.toks) (o:=.tup (va++vb)) (fun b ob q=>a0 _ q) (a9 _) ⟨by rw[bf,<-l1,<-l2];exact aC9 hb,_,r1'.append r2',aDm.new _ _⟩,rfl,k _ _ (.new hp) (tn.new hp) (aD4 aAj ((Reps.mono (.new hp) _ _ xa).append (Reps.mono (.new hp) _ _ xb)))⟩
  ·cases e
 | [.lst xs,.lst ys],e =>
  have e:(if xs.length+ys.length<=big then some (T.lst (xs++ys),Md.own) else none)=some (t,m):=e;split at e
  ·rename_i hb;cases e;obtain⟨v,w,rfl,r1,r2⟩:=aBb rt;obtain⟨a,va,rfl,ea,xa⟩:=r1;obtain⟨b,vb,rfl,eb,xb⟩:=r2;obtain⟨u1,u2,rfl,q1,q2⟩:=rv.two;cases q1;cases q2;obtain⟨its,r1',⟨⟨cls,dd,data,sl⟩,n1,ho,hc,_,hd⟩,_⟩:=I.list ea.sq;obtain⟨its2,r2',⟨⟨cls2,dd2,data2,sl2⟩,n2,ho2,hc2,_,hd2⟩,_⟩:=I.list eb.sq;simp only at hc hd hc2 hd2;subst hc hd hc2 hd2;have l1:=xa.length;have l2:=xb.length;have l3:=r1'.length;have l4:=r2'.length;refine concat_meets ⟨_,ho,rfl⟩ ⟨_,ho2,rfl⟩ noFill_list_add seq_list_add PySem.F.slot_list_add PySem.F.entry_list_add (PySem.F.args_list_add_2 _ _) (list_addW a b its.toArray its2.toArray n1 n2 dd dd2 sl sl2 (by rw[ah,ah,<-l3,<-l4,<-l1,<-l2];exact aC9 hb)) ⟨ho,ho2,?_⟩;have ee:its.toArray++its2.toArray=(its++its2).toArray:=by simp
   rw[ee];have hp:H s.heap.objs.size=none:=I.hok.fresh (a9 _);exact⟨.ref _,_,I.lnew (t':=s.toks) (r1'.append r2') (by rw[bf,<-l1,<-l2];exact aC9 hb),rfl,k _ _ (.new hp) (tn.new hp) ⟨_,rfl,hp,_,aAj,(Reps.mono (.new hp) _ _ xa).append (Reps.mono (.new hp) _ _ xb)⟩⟩
  ·cases e
theorem aDl:PrS X tw (fun us=>call (.builtin "len") us) pLen:=by
 intro B pins s O H vs us ts n t m Q I rv rt tn e k;have num:∀ (i:Int),Val X.K B tw H H (.int i) .fz (.int i):=fun i=>by show Rep tw H (.int i) _;rw[Rep]
 match ts,e with
 | [.lst xs],e =>
  cases e;obtain⟨v,rfl,a,va,rfl,ea,xa⟩:=aAp rt;exact aMj pins s O H _ us Q I rv ⟨_,va.length,rfl,.inl ⟨va,ea.sq,rfl⟩,by rw[<-xa.length];exact k _ H (.refl _ _) tn (num _)⟩
 | [.tup xs],e =>
  cases e;obtain⟨v,rfl,r⟩:=aAp rt;obtain⟨a,va,rfl,ea,xa⟩:=aBc r;exact aMj pins s O H _ us Q I rv ⟨_,va.length,rfl,.inr ⟨va,SqT.of ea,rfl⟩,by rw[<-xa.length];exact k _ H (.refl _ _) tn (num _)⟩
 | [.dic kvs],e =>
  cases e;obtain⟨v,rfl,a,va,rfl,_,ea,xa⟩:=aAp rt;obtain⟨u,rfl,ru⟩:=rv.one;cases ru;exact d_len I ea fun t' s' I'=>⟨.int va.length,H,I',⟨t',rfl⟩,by rw[<-RepK.length xa];exact k _ H (.refl _ _) tn (num _)⟩
 | [.town],e =>
  cases e;obtain⟨v,rfl,r⟩:=aAp rt;have r:Rep tw H .town v:=r;rw[Rep] at r;subst r;exact aMj pins s O H _ us Q I rv ⟨_,n,rfl,.inl ⟨_,SqL.of tn,by rw[dv]⟩,k _ H (.refl _ _) tn (num _)⟩
theorem aEt:PrS X tw (fun us=>call (.type "tuple") us) aDg:=by
 intro B pins s O H vs us ts n t m Q I rv rt tn e k
 match ts,e with
 | [.lst xs],e =>
  cases e;obtain⟨v,rfl,a,va,rfl,ea,xa⟩:=aAp rt;exact aHh pins s O H _ us Q I rv ⟨a,va,rfl,.inl ⟨ea.sq,fun l hl=>k _ _ (.new hl) (tn.new hl) (aD4 aAj (Reps.mono (.new hl) _ _ xa))⟩⟩
 | [.tup xs],e =>
  cases e;obtain⟨v,rfl,r⟩:=aAp rt;obtain⟨a,va,rfl,ea,xa⟩:=aBc r;exact aHh pins s O H _ us Q I rv ⟨a,va,rfl,.inr ⟨SqT.of ea,k _ H (.refl _ _) tn (aD4 ea xa)⟩⟩
def aFd:T->Option (List T)
 |.lst xs=>some xs
 |.tup xs=>some xs
 |.dic kvs=>some (kvs.map fun kv=>keyT kv.1)
 |_=>none
theorem aLs(hh:A'.handled=none)(I:Inv X pins O H s)(r:Root X.K tw H t v)(rv:RelV v u)(h:aFd t=some xs) :
  wpAny ZC A' (kK u) (fun it s₂=>∃Ia fp wr P St,it = .ref Ia/\Walks X.prog X.w A' Ia fp wr xs.length P St/\St 0 s₂.heap/\(∀b∈fp,b<s₂.heap.objs.size)/\(∀i u,P i u->∃v x,RelV v u/\xs[i]?=some x/\Rep tw H x v) /\
   ∀h' tk,(∀b o,b∉wr->s₂.heap.get? b=some o->h'.get? b=some o)->Inv X pins O H { s₂ with heap:=h',toks:=tk }) E s:=by
 have fin:∀ {o:Obj} {h':Heap} {tk:Nat},(∀b o',b ∉ [s.heap.objs.size]->(s.heap.push o).get? b=some o'->h'.get? b=some o')->Inv X pins O H { s with heap:=h',toks:=tk }:=fun {o h' tk} kp =>
  I.kept fun b o' e=>kp b o' (by simp;exact au (aj e)) (a0 _ e)
 have item:∀ {us:List Value} {vs:List V} {ys:List T},Vals vs us->Reps tw H ys vs->∀ (i:Nat) (w:Value),us.toArray[i]?=some w->∃v x,RelV v w/\ys[i]?=some x/\Rep tw H x v:=fun {us vs ys} rv rs i w e=>by
  have e:us[i]?=some w:=by simpa using e
  have hi:i<us.length:=(b9.mp e).1;obtain⟨v,h1,h2⟩:=aHm rs rv hi;have hi2:i<ys.length:=by rw[rs.length,rv.length];exact hi
  refine⟨v,ys[i],?_,by simp[hi2],?_⟩
  ·have:=(b9.mp e).2;rw[<-this];exact h2
  ·rw[az,ai hi2] at h1;exact h1
 cases t with
 | lst ys =>
  cases h;obtain⟨a,vs,rfl,e,q⟩:=r;cases rv;obtain⟨its,rv,p,hz⟩:=I.list e.sq;have ha:a≠s.heap.objs.size:=au (let ⟨o,ho,_⟩:=p.isList;aj ho);refine kr p.isList ⟨s.heap.objs.size,[s.heap.objs.size,a],[s.heap.objs.size],fun i v=>its.toArray[i]?=some v,fun i h=>h.IsListIter s.heap.objs.size a i/\h.IsList a its.toArray,rfl,?_,⟨⟨_,af _ rfl,rfl,rfl⟩,p.isList.push _⟩,fun b hb=>?_,item rv q,fun h' tk kp=>fin kp⟩
  ·have:=Walks.list (prog:=X.prog) (w:=X.w) hh s.heap.objs.size a ha its.toArray;rw[show its.toArray.size=xs.length by rw[ah,<-rv.length,<-q.length]] at this;exact this
  ·rw[cp];simp at hb;rcases hb with rfl |rfl
   ·exact eN _
   ·exact c6 (let ⟨o,ho,_⟩:=p.isList;aj ho)
 | tup ys =>
  cases h;obtain⟨a,vs,rfl,e,q⟩:=aBc r;cases rv;obtain⟨its,rv,p,hz⟩:=I.tuple (SqT.of (K:=X.K) e);have p:s.heap.IsTuple a its.toArray:=p;have ha:a≠s.heap.objs.size:=au (let ⟨o,ho,_⟩:=p;aj ho);refine lR p ⟨s.heap.objs.size,[s.heap.objs.size,a],[s.heap.objs.size],fun i v=>its.toArray[i]?=some v,fun i h=>h.IsTupleIter s.heap.objs.size a i/\h.IsTuple a its.toArray,rfl,?_,⟨⟨_,af _ rfl,rfl,rfl⟩,let ⟨o,ho,r⟩:=p;⟨o,a0 _ ho,r⟩⟩,fun b hb=>?_,item rv q,fun h' tk kp=>fin kp⟩
  ·have:=Walks.tuple (prog:=X.prog) (w:=X.w) hh s.heap.objs.size a ha its.toArray;rw[show its.toArray.size=xs.length by rw[ah,<-rv.length,<-q.length]] at this;exact this
  ·rw[cp];simp at hb;rcases hb with rfl |rfl
   ·exact eN _
   ·exact c6 (let ⟨o,ho,_⟩:=p;aj ho)
 | dic kvs =>
  cases h;obtain⟨a,ws,rfl,na,e,q⟩:=r;cases rv;obtain⟨z,hd,us,rel,dd⟩:=aEb I.hok e;obtain⟨ep,da⟩:=dd.dictAt;have hl:ws.length=us.length:=Paired.length rel;have ha:a≠s.heap.objs.size:=au da.lt_size;refine wpAny_pyIter_dict hd da ⟨s.heap.objs.size,[s.heap.objs.size,a],[s.heap.objs.size],fun i v=>∃k x,us[i]?=some (k,x)/\(aAz X.prog X.w).is k v=true,fun i h=>h.IsKeyIter s.heap.objs.size a i us.length ep/\h.DictAt (aAz X.prog X.w) a us ep,rfl,?_,⟨⟨_,af _ rfl,rfl,rfl⟩,da.push _⟩,fun b hb=>?_,fun i w hp=>?_,fun h' tk kp=>fin kp⟩
  ·have:=Walks.dictKeys (prog:=X.prog) (w:=X.w) (knd:=aAz X.prog X.w) hh s.heap.objs.size a ha us ep;have hk:us.length=(kvs.map fun kv=>keyT kv.1).length:=by rw[a5,RepK.length q,hl]
   rw[<-hk];exact this
  ·rw[cp];simp at hb;rcases hb with rfl |rfl
   ·exact eN _
   ·exact c6 da.lt_size
  ·obtain⟨k,x,h1,h2⟩:=hp;refine⟨kV k,keyT k,aUh h2,?_,aMm k⟩;rw[bo];have hi:i<us.length:=(b9.mp h1).1;have hi2:i<kvs.length:=by rw[RepK.length q,hl];exact hi
   obtain⟨v,g1,_⟩:=aI7 (k:=kvs[i].1) (t:=kvs[i].2) q (show kvs[i]?=some (kvs[i].1,kvs[i].2) by simp[hi2]);obtain⟨u',g2⟩:=bBs rel g1;rw[h1] at g2;have:k=kvs[i].1:=by injection g2 with g2;injection g2
   rw[ai hi2];show some (keyT kvs[i].1)=some (keyT k);rw[this]
 |_=>cases h
theorem aA6:∀ {xs:List T} {ns:List Int},intsOf xs=some ns->xs=ns.map T.int
 |[],_,h=>by cases h;rfl
 |.int i::r,ns,h=>by obtain⟨ms,h1,h2⟩:=map_some (show (intsOf r).map (i :: ·)=some ns from h);subst h2;rw[a8,aA6 h1]
 |.non::_,_,h=>by cases h
 |.bl _::_,_,h=>by cases h
 |.str _::_,_,h=>by cases h
 |.tup _::_,_,h=>by cases h
 |.lst _::_,_,h=>by cases h
 |.dic _::_,_,h=>by cases h
 |.town::_,_,h=>by cases h
theorem aJ6:∀ {kvs:List (Key × T)} {ns:List Int},intKeys kvs=some ns->(kvs.map fun kv=>keyT kv.1)=ns.map T.int
 |[],_,h=>by cases h;rfl
 |(.inl k,x)::r,ns,h=>by obtain⟨ms,h1,h2⟩:=map_some (show (intKeys r).map (k :: ·)=some ns from h);subst h2;rw[a8,a8,aJ6 h1];rfl
 |(.inr k,x)::r,ns,h=>by cases h
theorem aD1{ns:List Int}{i:Nat}(h:∃v x,RelV v u/\(ns.map T.int)[i]?=some x/\Rep tw H x v):∃t,u = .int (ns.getD i 0) t:=by
 obtain⟨v,x,h1,h2,h3⟩:=h;rw[bo] at h2;cases e:ns[i]? with
 |none=>rw[e] at h2;cases h2
 | some z =>
  rw[e] at h2;have h2:T.int z=x:=Option.some.inj h2;subst h2;rw[Rep] at h3;subst h3;obtain⟨t,rfl⟩:=h1;refine⟨t,?_⟩;rw[az,e];rfl
theorem aSk(lt:Int->Int->Bool)(ns:List Int):∀ (m:Nat),m<ns.length->ns.getD (argBest (fun i j=>lt (ns.getD i 0) (ns.getD j 0)) m) 0=((ns.take (m+1)).tail).foldl (fun a b=>if lt b a then b else a) (ns.getD 0 0):=by
 intro m
 induction m with
 | zero =>
  intro h;cases ns with
  |nil=>simp at h
  |cons x xs=>rfl
 | succ m ih =>
  intro h;have ih:=ih ZM;have e:(ns.take (m+1+1)).tail=(ns.take (m+1)).tail ++ [ns.getD (m+1) 0]:=by
   cases ns with
   |nil=>simp at h
   | cons x xs =>
    rw[iW,iW,List.tail_cons,List.tail_cons];have h':m<xs.length:=by simpa using h
    rw[iM,ai h',az,fP,ai h'];rfl
  rw[e,gj,<-ih];show ns.getD (if lt (ns.getD (m+1) 0) (ns.getD (argBest (fun i j=>lt (ns.getD i 0) (ns.getD j 0)) m) 0)=true then m+1 else argBest (fun i j=>lt (ns.getD i 0) (ns.getD j 0)) m) 0=_;rw[cj,List.foldl_nil];split<;>rfl
theorem aWt{i:Int}(h:least ns=some i):0<ns.length/\ns.getD (argBest (fun i j=>decide (ns.getD i 0<ns.getD j 0)) (ns.length - 1)) 0=i:=by
 cases ns with
 |nil=>cases h
 | cons x xs =>
  refine⟨Nat.succ_pos _,?_⟩;have:=aSk (fun a b=>decide (a<b)) (x::xs) xs.length (eN _);show (x::xs).getD (argBest _ (xs.length+1 - 1)) 0=i;rw[i9];refine Eq.trans this ?_;rw[show (x::xs).take (xs.length+1)=x::xs from dq (a9 _)];have h:xs.foldl (fun a b=>if b<a then b else a) x=i:=Option.some.inj h;rw[<-h];show xs.foldl (fun a b=>if decide (b<a)=true then b else a) x=_;simp only[decide_eq_true_eq]
theorem aYd{i:Int}(hh:X.A.handled=none)(I:Inv X pins O H s)(r:Root X.K tw H t v)(rv:RelV v u)(h:aFd t=some xs)(hx:xs=ns.map T.int)(hl:least ns=some i)(q:Q (.int i) H) :
  wpAny ZC X.A (call (.builtin "min") [u]) (EP X pins O Q) X.xe s:=by
 subst hx;obtain⟨h0,hb⟩:=aWt hl;refine call_min_walk (thn (aLs (A':=X.A.in1) hh I r rv h) fun it s₂ ⟨Ia,fp,wr,P,St,e,W,st,hfp,hP,fin⟩=>?_);refine⟨Ia,fp,wr,_,P,St,_,e,W,st,hfp,by simpa using h0,CmpOf.ints_lt (fun i=>ns.getD i 0) fun i v hv=>aD1 (hP i v hv),fun v' h' tk hv kp=>?_⟩;obtain⟨tk',rfl⟩:=aD1 (hP _ _ hv);rw[a5];exact⟨.int i,H,fin h' tk kp,⟨tk',by rw[hb]⟩,q⟩
theorem aZc(hc:X.calm=true):PrS X tw (fun us=>call (.builtin "min") us) pMin:=by
 intro B pins s O H vs us ts n t m Q I rv rt tn e k;have num:∀ (i:Int),Val X.K B tw H H (.int i) .fz (.int i):=fun i=>by show Rep tw H (.int i) _;rw[Rep]
 have hh:=I.ok.hd hc
 match ts,e with
 | [.lst xs],e =>
  obtain⟨ns,e1,e2⟩:=bind_some (show (intsOf xs).bind _=_ from e);obtain⟨i,e3,e4⟩:=map_some e2;cases e4;obtain⟨v,rfl,r⟩:=aAp rt;obtain⟨u,rfl,ru⟩:=rv.one;exact aYd hh I r ru rfl (aA6 e1) e3 (k _ H (.refl _ _) tn (num i))
 | [.dic kvs],e =>
  obtain⟨ns,e1,e2⟩:=bind_some (show (intKeys kvs).bind _=_ from e);obtain⟨i,e3,e4⟩:=map_some e2;cases e4;obtain⟨v,rfl,r⟩:=aAp rt;obtain⟨u,rfl,ru⟩:=rv.one;exact aYd hh I r ru rfl (aJ6 e1) e3 (k _ H (.refl _ _) tn (num i))
 | [.int a,.int b],e =>
  cases e;obtain⟨v,w,rfl,r1,r2⟩:=aBb rt;obtain rfl:=aAt r1;obtain rfl:=aAt r2;exact aZs hc pins s O H _ us Q I rv ⟨a,b,rfl,k _ H (.refl _ _) tn (num _)⟩
theorem aJc(ns:List Int):∀ (m:Nat),m<=ns.length->preSum (fun i=>ns.getD i 0) m=sumI (ns.take m):=by
 have app:∀ (a b:List Int),sumI (a++b)=sumI a+sumI b:=fun a b=>by
  induction a with
  |nil=>simp[sumI]
  |cons x xs ih=>rw[eJ,sumI,ih,sumI];lia
 intro m
 induction m with
 |zero=>intro _;rfl
 | succ m ih =>
  intro h;have h':m<ns.length:=h;rw[preSum,ih (c9 h'),iM,ai h',app,az,ai h'];simp[sumI]
theorem aXb(h:∀x∈ns,-1000000<=x/\x<=1000000):-(1000000*(ns.length:Int))<=sumI ns/\sumI ns<=1000000*(ns.length:Int):=by
 induction ns with
 |nil=>simp[sumI]
 | cons x xs ih =>
  have:=ih fun y hy=>h y (a6 _ hy);have:=h x a7;rw[sumI,aa]
  push_cast
  lia
theorem aKa:∀ {xs:List T} {bs:List Bool},boolsOf xs=some bs->xs=bs.map T.bl
 |[],_,h=>by cases h;rfl
 |.bl i::r,ns,h=>by obtain⟨ms,h1,h2⟩:=map_some (show (boolsOf r).map (i :: ·)=some ns from h);subst h2;rw[a8,aKa h1]
 |.non::_,_,h=>by cases h
 |.int _::_,_,h=>by cases h
 |.str _::_,_,h=>by cases h
 |.tup _::_,_,h=>by cases h
 |.lst _::_,_,h=>by cases h
 |.dic _::_,_,h=>by cases h
 |.town::_,_,h=>by cases h
theorem aUv:∀bs:List Bool,((List.range bs.length).all fun i=>bs.getD i false)=bs.all id
 |[]=>rfl
 |b::bs=>by rw[aa,iC,dr,gQ,dr,<-aUv bs];rfl
theorem aZu(hc:X.calm=true):PrS X tw (fun us=>call (.builtin "all") us) pAll:=by
 intro B pins s O H vs us ts n t m Q I rv rt tn e k;have hh:=I.ok.hd hc
 match ts,e with
 | [.lst xs],e =>
  obtain⟨bs,e1,e2⟩:=map_some (show (boolsOf xs).map _=_ from e);cases e2;obtain rfl:=aKa e1;obtain⟨v,rfl,r⟩:=aAp rt;obtain⟨u,rfl,ru⟩:=rv.one;refine call_all_walk (thn (aLs (A':=X.A.in1) hh I r ru rfl) fun it s₂ ⟨Ia,fp,wr,P,St,e,W,st,hfp,hP,fin⟩=>?_);refine⟨Ia,fp,wr,_,P,St,fun i=>bs.getD i false,e,W,st,fun i v s' Q' E' hv q'=>?_,fun h' tk kp=>?_⟩
  ·obtain⟨v',x,h1,h2,h3⟩:=hP i v hv;rw[bo] at h2;cases e:bs[i]? with
   |none=>rw[e] at h2;cases h2
   | some z =>
    rw[e] at h2;have h2:T.bl z=x:=Option.some.inj h2;subst h2;rw[Rep] at h3;subst h3;cases h1;have:bs.getD i false=z:=by rw[az,e];rfl
    exact jx (show Q' z s' from this▸q')
  ·rw[a5,aUv bs];exact⟨.bl _,H,fin h' tk kp,rfl,k _ H (.refl _ _) tn (by show Rep tw H (.bl _) _;rw[Rep])⟩
theorem at_atI{i:Int}(r:Reps tw H xs vs)(h:at? xs i=some t):∃v,atI vs i=some v/\Rep tw H t v:=by
 have hl:=r.length;unfold at? at h;unfold atI ixN;by_cases h0:0<=i
 ·rw[if_pos h0] at h |-;by_cases h1:i<xs.length
  ·rw[if_pos h1] at h;rw[if_pos (by rw[<-hl];exact h1)];obtain⟨v,e1,e2⟩:=r.get h;exact⟨v,e1,e2⟩
  ·rw[if_neg h1] at h;cases h
 ·rw[if_neg h0] at h |-;by_cases h1:-(xs.length:Int)<=i
  ·rw[if_pos h1] at h;rw[if_pos (by rw[<-hl];exact h1)];obtain⟨v,e1,e2⟩:=r.get h;exact⟨v,by rw[<-hl];exact e1,e2⟩
  ·rw[if_neg h1] at h;cases h
theorem aA5(hu:X.A.units+1<cLine)(value slice:Expr)(hs:∀v u,subscripted slice false v u=operate [v,u] (kT v u)):PrS X tw (two fun v u=>subscriptTail value slice v u) pGet:=by
 intro B pins s O H vs us ts n t m Q I rv rt tn e k
 match ts,e with
 | [.lst xs,.int i],e =>
  obtain⟨t0,e1,e2⟩:=map_some (show (at? xs i).map _=_ from e);cases e2;obtain⟨v,w,rfl,r1,r2⟩:=aBb rt;obtain rfl:=aAt r2;obtain⟨a,va,rfl,ea,xa⟩:=r1;obtain⟨u1,u2,rfl,q1,q2⟩:=rv.two;obtain⟨x,h1,h2⟩:=at_atI xa e1;exact ix_list value slice pins s O H _ _ u1 u2 Q I q1 q2 ⟨a,va,i,x,rfl,rfl,ea.sq,h1,k _ H (.refl _ _) tn h2⟩ (hs _ _)
 | [.tup xs,.int i],e =>
  obtain⟨t0,e1,e2⟩:=map_some (show (at? xs i).map _=_ from e);cases e2;obtain⟨v,w,rfl,r1,r2⟩:=aBb rt;obtain rfl:=aAt r2;obtain⟨a,va,rfl,ea,xa⟩:=aBc r1;obtain⟨u1,u2,rfl,q1,q2⟩:=rv.two;obtain⟨x,h1,h2⟩:=at_atI xa e1;exact ix_tup value slice pins s O H _ _ u1 u2 Q I q1 q2 ⟨a,va,i,x,rfl,rfl,SqT.of ea,h1,k _ H (.refl _ _) tn h2⟩ (hs _ _)
 | [.dic kvs,kt],e =>
  obtain⟨ky,e1,e2⟩:=bind_some (show (keyOf kt).bind _=_ from e);obtain⟨t0,e3,e4⟩:=map_some e2;cases e4;obtain⟨v,w,rfl,r1,r2⟩:=aBb rt;obtain rfl:=aTu e1 r2;obtain⟨a,ws,rfl,_,ea,xa⟩:=r1;obtain⟨u1,u2,rfl,q1,q2⟩:=rv.two;cases q1;rcases RepK.at ky xa with ⟨z,_⟩ |⟨t1,x,h1,h2,h3⟩
  ·rw[e3] at z;cases z
  ·rw[e3] at h1;cases h1;have g:DGet H a (kV ky) (some x):=⟨ws,ky,ea,rfl,h2.symm⟩
   exact tail_any (ops:=[.ref a,u2]) (aUa I g) PySem.F.slot_dict_getitem.lookup (aYx hu I g q2 fun w' s' I' rw'=>⟨x,H,I',rw',k _ H (.refl _ _) tn h3⟩) (hs _ _)
def SO(X:Cx)(tw:Addr)(e:Option Expr)(d:DO):Prop:=∀B ρ n i n',d ρ n=some (i,n')->PO X e (fun O H Q=>Rel X.K B tw ρ n O H/\∀H',Ext tw H H'->Tn tw n' H'->Q i H')
theorem aFf:SO X tw none aF9:=by intro B ρ n i n' hd pins s O H Q I ⟨R,k⟩;cases hd;exact po_none pins s O H Q I (k H (.refl _ _) R.tn)
theorem aE4(h:SE X tw e d):SO X tw (some e) (aGn d):=by
 intro B ρ n i n' hd pins s O H Q I ⟨R,k⟩;obtain⟨⟨t,m,n1⟩,e1,e2⟩:=bind_some hd;cases t with
 | int j =>
  cases e2;refine po_some (h B ρ n _ m n1 e1) pins s O H Q I ⟨R,fun v H' x y z=>?_⟩;obtain rfl:=aAt (z.root (R.mono x y) R.tn);exact⟨j,rfl,k H' x y⟩
 |_=>cases e2
theorem aDx(n d:Nat)(o:Option Int):bound n d o=HT.sIx n d o:=by cases o<;>rfl
theorem aGb{o e f:Expr}{d0 de df:DE}{apos cpos:Pos}(hu:X.A.units+1<cLine)(ho:SE X tw o d0)(he:SE X tw e de)(hf:SE X tw f df)(m:M2 X o "get" apos e f cpos):SE X tw (.Call (.Attribute o "get" apos) [e,f] [] cpos) (dPr aC4 (aAa d0 (aAa de (aAa df dNil)))):=by
 intro B ρ n t mm n' hd pins s O H Q I ⟨R,k⟩;obtain⟨to,mo,no,te,me,ne,tf,mf,f1,g1,h1,e3⟩:=pr3_inv hd;refine pe_dget2 hu (ho B ρ n to mo no f1) (he B ρ no te me ne g1) (hf B ρ ne tf mf n' h1) m pins s O H Q I ⟨R,fun v H1 x1 y1 z1=>?_⟩;have R1:=R.mono x1 y1;cases to with
 | dic kvs =>
  have e3:(if aDr tf then none else (keyOf te).map fun k=>((aDc kvs k).getD tf,Md.fz))=some (t,mm):=e3;split at e3
  ·cases e3
  ·rename_i hb;obtain⟨ky,q1,q2⟩:=map_some e3;cases q2;have rt:=z1.root R1 R.tn;obtain⟨a,ws,rfl,na,ea,xa⟩:=id rt;refine⟨a,rfl,⟨ws,ea⟩,R1,fun v2 H2 x2 y2 z2=>?_⟩;have R2:=R1.mono x2 y2;refine⟨R2,fun v3 H3 x3 y3 z3=>?_⟩;have R3:=R2.mono x3 y3;obtain rfl:=aTu q1 (z2.root R2 R1.tn);have x13:=x2.trans x3;obtain⟨a',ws',ea',_,eb,xb⟩:=Root.ext R1.tn x13 rt;cases ea';refine⟨valV ws' ky,⟨ws',ky,eb,rfl,rfl⟩,k _ H3 (x1.trans x13) y3 ?_⟩;rcases RepK.at ky xb with ⟨c1,c2⟩ |⟨t,x,c1,c2,c3⟩
   ·rw[c1,c2];exact(z3.root R3 R2.tn).rep (by simpa using hb)
   ·rw[c1,c2];exact c3
 |_=>cases e3
def tyName:Ty->String
 |.int=>"int"
 |.bool=>"bool"
 |.list=>"list"
 |.tuple=>"tuple"
 |.str=>"str"
 |.dict=>"dict"
def kindName:T->String
 |.non=>"NoneType"
 |.bl _=>"bool"
 |.int _=>"int"
 |.str _=>"str"
 |.tup _=>"tuple"
 |.lst _=>"list"
 |.dic _=>"dict"
 |.town=>"list"
 |.ob _=>"object"
 |.rdc _=>"object"
theorem kit_ty(K:W.Frag)(k:Ty)(t:T)(b:Bool)(h:isTy k t=some b):W.kitOne K (.type (kindName t)) (.type (tyName k))=some b:=by cases k<;>cases t<;>first |(cases h;done) |(cases h;first |rfl |decide +kernel |kernel_rfl)
theorem isi_root{b:Bool}(I:Inv X pins O H s)(r:Root X.K tw H t v)(rv:RelV v u)(ht:t ≠ .town)(ha:∀a,t ≠ .ob a)(hrd:∀a,t ≠ .rdc a)(e:W.kitOne X.K (.type (kindName t)) c=some b)(h:∀tk,Q (.bool b) { s with toks:=tk }) :
  wpAny ZC X.A (call (.builtin "isinstance") [u,c]) Q X.xe s:=by
 cases t with
 |non=>have r:Rep tw H .non v:=r;rw[Rep] at r;subst r;exact aFh I rv .non e h
 |bl b=>have r:Rep tw H (.bl b) v:=r;rw[Rep] at r;subst r;exact aFh I rv (.bl b) e h
 |int i=>have r:Rep tw H (.int i) v:=r;rw[Rep] at r;subst r;exact aFh I rv (.int i) e h
 |str x=>have r:Rep tw H (.str x) v:=r;rw[Rep] at r;subst r;exact aFh I rv (.str x) e h
 |tup xs=>obtain⟨a,vs,rfl,ea,q⟩:=aBc r;exact aFh I rv (.tup ea) e h
 |town=>exact absurd rfl ht
 |ob a=>exact absurd rfl (ha a)
 |rdc a=>exact absurd rfl (hrd a)
 | lst xs =>
  obtain⟨a,vs,rfl,ea,q⟩:=r;cases rv;obtain⟨its,_,⟨o,n,ho,hc,_⟩,_⟩:=I.list ea.sq;exact W.kia_one W.kitx_list I.kIn ⟨o,ho,hc⟩ e (fun z=>nomatch z) h
 | dic kvs =>
  obtain⟨a,ws,rfl,_,ea,q⟩:=r;cases rv;obtain⟨_,_,vs,_,o,es,ep,h1,h2,_⟩:=aEb I.hok ea;exact W.kia_one W.kitx_dict I.kIn ⟨o,h1,h2.1⟩ e (fun z=>nomatch z) h
theorem aIc{e:Expr}{d:DE}{k:Ty}{T':Str}{p pT pos:Pos}(h:SE X tw e d)(hm:X.mg "isinstance" = none)(hT:X.mg T'=none)(hv:kD T'=some (.type (tyName k)))(hg:autoParam (Gl X "isinstance") lZ)(hgT:autoParam (Gl X T') lZ)(hn:autoParam (T' ≠ "__name__") l5)(hdb:autoParam ((T'==("__debug__" : Str))=false) l5)
  (he:autoParam (jV [e,.Name T' pT] X.env=(false,eval e X.env)::jV [.Name T' pT] X.env) lZ) (he2:autoParam (jV [.Name T' pT] X.env=(false,eval (.Name T' pT) X.env)::jV [] X.env) lZ) (hpl:autoParam ((jg pos (jV [.Name T' pT] X.env)).any (·.1)=false) lZ) (hb:kD "isinstance" = some (.builtin "isinstance"):=by decide +kernel) :
  SE X tw (.Call (.Name "isinstance" p) [e,.Name T' pT] [] pos) (dPr (pIsI k) (aAa d dNil)):=by
 intro B ρ n t m n' hd pins s O H Q I ⟨R,kk⟩;obtain⟨t0,m0,f1,e3⟩:=aNl hd;obtain⟨b,g1,g2⟩:=map_some (show (isTy k t0).map _=_ from e3);cases g2;refine jj (aEe I hg hm hb ?_ ZE ZE);refine PyProof.Rows.callWith_builtin1 ?_ he hpl;rw[he];show wpAny _ _ (spliced ((false,eval e X.env)::jg pos (jV [.Name T' pT] X.env))) _ _ s;refine dS (thn (h.run f1 I R) fun u s1 ⟨v,H1,I1,r1,a1,R1,c1⟩=>?_);rw[he2];show wpAny _ _ (spliced ((false,eval (.Name T' pT) X.env)::jg pos (jV [] X.env))) _ _ s1;refine dS (aEe I1 hgT hT hv (eU ?_) hn hdb);refine isi_root I1 (c1.root R1 R.tn) r1 (fun z=>by subst z;cases k<;>cases g1) (fun a z=>by subst z;cases k<;>cases g1) (fun a z=>by subst z;cases k<;>cases g1) (kit_ty X.K k t0 b g1) fun tk=>?_;exact⟨.bl b,H1,I1.tok tk,rfl,kk _ H1 a1 R1.tn (by show Rep tw H1 (.bl b) _;rw[Rep])⟩
theorem aDz(hu:X.A.units<cLine):∀ (pins:List ZL) (s:jR) (O:St) (H:Hp) (a b:Addr) (ws:List (Key × V)) (Q:Value->jR->Prop),Inv X pins O H s->Rd H a (.dK ws)->Rd H b (.dK [])->(∀s',Inv X pins O H s'->Q (.bool ws.isEmpty) s')->wpAny ZC X.A (j6 .Eq (.ref a) (.ref b)) Q X.xe s:=by
 intro pins s O H a b ws Q I ea eb k;obtain⟨_,ha,us,ra,da⟩:=aEb I.hok ea;obtain⟨_,hb,us',rb,db⟩:=aEb I.hok eb;cases rb;refine W.keq_eq (r:=true) ha hb da db hu (fun hl=>?_) ?_
 ·obtain rfl:=d5 hl;exact .nil
 ·cases ra with
  |nil=>exact k s I
  |cons _ _=>exact k s I
theorem aCd(hu:X.A.units<cLine):∀ (pins:List ZL) (s:jR) (O:St) (H:Hp) (a b:Addr) (ws:List (Key × V)) (Q:Value->jR->Prop),Inv X pins O H s->Rd H a (.dK ws)->Rd H b (.dK [])->(∀s',Inv X pins O H s'->Q (.bool (!ws.isEmpty)) s')->wpAny ZC X.A (j6 .NotEq (.ref a) (.ref b)) Q X.xe s:=by
 intro pins s O H a b ws Q I ea eb k;obtain⟨_,ha,us,ra,da⟩:=aEb I.hok ea;obtain⟨_,hb,us',rb,db⟩:=aEb I.hok eb;cases rb;refine W.keq_ne (r:=true) ha hb da db hu (fun hl=>?_) ?_
 ·obtain rfl:=d5 hl;exact .nil
 ·cases ra with
  |nil=>exact k s I
  |cons _ _=>exact k s I
theorem aTg{pos:Pos}:SE X tw (.Dict [] [] pos) aHp:=by intro B ρ n t m n' hd pins s O H Q I ⟨R,k⟩;cases hd;exact pe_dnewK pins s O H Q I fun p hp=>k _ _ (.new hp) (R.tn.new hp) ⟨p,rfl,hp,[],aAj,by rw[RepK]⟩
theorem se_dic1{i:Int}{j:Nat}{pi pos:Pos}{e:Expr}{d:DE}(h:SE X tw e d):SE X tw (.Dict [some (.Constant (.int i) j pi)] [e] pos) (dDic1 (dK (.int i)) (dFz d)):=by
 intro B ρ n t m n' hd pins s O H Q I ⟨R,k⟩;obtain⟨⟨tk,mk,nk⟩,e1,e2⟩:=bind_some hd;cases e1;obtain⟨ky,e3,e4⟩:=bind_some e2;cases e3;obtain⟨⟨tv,mv,nv⟩,e5,e6⟩:=map_some e4;cases e6;obtain rfl:=aXf e5;refine pe_disp (pps_cons aU6 ((aQc h) B ρ n tv .fz nv e5) pps_nil) rfl rfl ZJ ZJ pins s O H Q I fun p hp=>?_;have R1:=R.mono (.new (o:=.dK []) hp) (R.tn.new hp);show rE X.K B tw ρ n tv .fz nv O (upd H p (.dK [])) _;refine⟨R1,fun v H2 x y z=>?_⟩;have np:p≠tw:=R.tn.ne_none hp;have hp2:H2 p=some (.dK []):=x.to p _ aAj np;refine⟨hp2,[(.inl i,v)],rfl,by simp,?_⟩;have hB:Fx H2 (upd H2 p (.dK (aLo [] [(.inl i,v)]))):=fun b=>⟨fun vs q=>by rw[aAk (by rintro rfl;rw[hp2] at q;cases q)];exact q,fun _ _ q=>by rw[aAk (by rintro rfl;rw[hp2] at q;cases q)];exact q⟩
 refine k _ _ (((Ext.new hp).trans x).put hp) ?_ ⟨p,rfl,hp,_,aAj,?_⟩
 ·show upd H2 p _ tw=_;rw[aAk np.symm];exact y
 ·show RepK tw _ [(.inl i,tv)] [(.inl i,v)];exact aEc (Rep.mono hB _ _ z) (by rw[RepK])
theorem aI2:fillsNumberSlot (.type "tuple") "mul" = pure false :=
 PySem.fillsNumberSlot_seq (id:="tuple.__mul__") (r:=some (.builtin "tuple.__rmul__")) PySem.F.slot_tuple_mul.lookup (by decide +kernel) PySem.F.slot_tuple_rmul.lookup (by decide +kernel)
theorem aRp:seqRepeat? (.type "tuple")=pure (some (.builtin "tuple.__mul__")):=by unfold seqRepeat?;rw[PySem.seqSlot_of (T:="tuple") (name:="__mul__") (id:="tuple.__mul__") PySem.F.slot_tuple_mul.lookup (by decide +kernel),PySem.seqSlot_of (T:="tuple") (name:="__rmul__") (id:="tuple.__rmul__") PySem.F.slot_tuple_rmul.lookup (by decide +kernel)];rfl
theorem rmul_any(a:Int)(t:Tok)(l:Addr)(items:Array Value)(n:Nat)(dd:Option Addr)(sl:Array (Option Value)) :
  Meets (Builtin.«int.__rmul__» ⟨[.int a t,.ref l],[]⟩) (fun _ R s=>s.heap.get? l=some { cls:=.type "tuple",dict:=dd,data:=.seq items n,slots:=sl }/\R (.ok (.ret Value.notImplemented)) s) :=
 .of_wp fun prog w A R s h=>by obtain⟨hp,g,d,tk,os⟩:=s;obtain⟨hl,h⟩:=h;wp_walk;exact⟨_,rfl,h⟩
theorem aXj(l:Addr)(items:Array Value)(n:Nat)(dd:Option Addr)(sl:Array (Option Value))(x:Int)(u:Tok)(h0:items.isEmpty=false)(h1:(x==1)=false)(h2:¬x<=0)(h3:x<2^63)(h4:items.size*x.toNat<=jU) :
  Meets (Builtin.«tuple.__mul__» ⟨[.ref l,.int x u],[]⟩) (fun _ R s=>s.heap.get? l=some { cls:=.type "tuple",dict:=dd,data:=.seq items n,slots:=sl }/\R (.ok (.ret (Value.ref s.heap.objs.size))) { s with heap:=s.heap.push { cls:=Value.type "tuple",data:=Data.seq (List.foldl (fun x1 x2=>x1++x2) #[] (List.replicate x.toNat items)) },toks:=s.toks }) :=
 .of_wp fun prog w A R s h=>by
  obtain⟨hp,g,d,tk,os⟩:=s;obtain⟨hl,h⟩:=h;have f1:=PySem.AutoSeq1.idx_int
  have e1:¬ (decide (x < -2^63)||decide (x>=2^63))=true:=by simp;lia
  have e2:¬ (items.isEmpty||x==1)=true:=by rw[h0,h1];decide
  have e3:¬ (decide (x<=0)||items.isEmpty)=true:=by rw[h0];simp;lia
  have e0:(items.size:Int)*x<=jU:=by
   have:x=(x.toNat:Int):=by lia
   rw[this];exact_mod_cast h4
  have e4:¬ ↑items.size*x > (2^63 - 1) / 8:=by
   have:((jU:Nat):Int)<=(2^63 - 1) / 8:=by decide
   lia
  have e5:¬Builtin.Tuple.tupleTooMany (↑items.size*x)=true:=by unfold Builtin.Tuple.tupleTooMany;simp;lia
  have e6:¬ (List.foldl (fun x1 x2=>x1++x2) #[] (List.replicate x.toNat items)).size > jU:=by
   have:=foldl_rep items.toList x.toNat []
   rw[dj,eR] at this;have e:(#[]:Array Value)=([]:List Value).toArray:=rfl;rw[e,this,ah,len_rep,gR,aw];lia
  wp_walk using PySem.AutoSeq1.wpAny_loadPart' hl
  rw[if_neg e1]
  wp_walk using PySem.AutoSeq1.wpAny_loadPart' hl
  rw[if_neg e4]
  wp_walk
  exact⟨_,rfl,h⟩
theorem aW8(l:Addr)(items:Array Value)(n:Nat)(dd:Option Addr)(sl:Array (Option Value))(x:Int)(u:Tok)(h1:(items.isEmpty||x==1)=true)(h3:x<2^63)(h4:-(2^63)<=x) :
  Meets (Builtin.«tuple.__mul__» ⟨[.ref l,.int x u],[]⟩) (fun _ R s=>s.heap.get? l=some { cls:=.type "tuple",dict:=dd,data:=.seq items n,slots:=sl }/\R (.ok (.ret (Value.ref l))) s) :=
 .of_wp fun prog w A R s h=>by
  obtain⟨hp,g,d,tk,os⟩:=s;obtain⟨hl,h⟩:=h;have f1:=PySem.AutoSeq1.idx_int
  have e1:¬ (decide (x < -2^63)||decide (x>=2^63))=true:=by simp;lia
  wp_walk using PySem.AutoSeq1.wpAny_loadPart' hl
  rw[if_neg e1]
  wp_walk using PySem.AutoSeq1.wpAny_loadPart' hl
  exact⟨_,rfl,h⟩
theorem aW9(l:Addr)(items:Array Value)(n:Nat)(dd:Option Addr)(sl:Array (Option Value))(x:Int)(u:Tok)(h0:items.isEmpty=false)(h2:x<=0)(h4:-(2^63)<=x) :
  Meets (Builtin.«tuple.__mul__» ⟨[.ref l,.int x u],[]⟩) (fun _ R s=>s.heap.get? l=some { cls:=.type "tuple",dict:=dd,data:=.seq items n,slots:=sl }/\R (.ok (.ret (Value.ref s.heap.objs.size))) { s with heap:=s.heap.push { cls:=Value.type "tuple",data:=Data.seq #[] },toks:=s.toks }) :=
 .of_wp fun prog w A R s h=>by
  obtain⟨hp,g,d,tk,os⟩:=s;obtain⟨hl,h⟩:=h;have f1:=PySem.AutoSeq1.idx_int
  have e1:¬ (decide (x < -2^63)||decide (x>=2^63))=true:=by simp;lia
  have e2:¬ (items.isEmpty||x==1)=true:=by rw[h0];simp;lia
  have e3:(decide (x<=0)||items.isEmpty)=true:=by simp[h2]
  wp_walk using PySem.AutoSeq1.wpAny_loadPart' hl
  rw[if_neg e1]
  wp_walk using PySem.AutoSeq1.wpAny_loadPart' hl
  rw[if_neg e2]
  wp_walk
  exact⟨_,rfl,h⟩
theorem bAg{n:Nat}{x:Int}(hl:s.heap.get? l=some { cls:=.type "tuple",dict:=dd,data:=.seq its.toArray n,slots:=sl })
  (h1:-(2^63)<=x) (h2:x<2^63) (h4:its.length*x.toNat<=jU) (h:(its = []\/x=1)->Q (.ref l) s) (h':Q (.ref s.heap.objs.size) { s with heap:=s.heap.push { cls:=Value.type "tuple",data:=Data.seq (List.replicate x.toNat its).flatten.toArray },toks:=s.toks }) :
  wpAny ZC X.A (kX .Mult (.ref l) (.int x u)) Q X.xe s:=by
 refine wpAny_binaryOp_repeat_ref (T:="tuple") (U:="int") ZE ⟨_,hl,rfl⟩ (fun s'=>typeIs_int s' x u) aI2 F.fills_int_mul F.slot_int_rmul aRp F.slot_int_index.lookup
  (ko F.slot_int_rmul (typeIs_int s x u) F.entry_int_rmul (F.args_int_rmul_2 _ _) (rmul_any x u l its.toArray n dd sl) ⟨hl,rfl,⟨_,hl,rfl⟩,?_⟩)
 have f0:List.foldl (fun x1 x2=>x1++x2) #[] (List.replicate x.toNat its.toArray)=(List.replicate x.toNat its).flatten.toArray:=by
  have:=foldl_rep its x.toNat []
  rw[dj] at this;exact this
 by_cases c1:its = []\/x=1
 ·refine ko F.slot_tuple_mul ⟨_,hl,rfl⟩ F.entry_tuple_mul (F.args_tuple_mul_2 _ _) (aW8 l its.toArray n dd sl x u ?_ h2 h1) ⟨hl,h c1⟩;rcases c1 with c |c<;>simp[c]
 ·have c2:its ≠ []:=fun z=>c1 (.inl z);have c3:x≠1:=fun z=>c1 (.inr z);have c0:its.toArray.isEmpty=false:=by cases its with
   |nil=>exact absurd rfl c2
   |cons a r=>simp
  by_cases c4:x<=0
  ·refine ko F.slot_tuple_mul ⟨_,hl,rfl⟩ F.entry_tuple_mul (F.args_tuple_mul_2 _ _) (aW9 l its.toArray n dd sl x u c0 c4 h1) ⟨hl,?_⟩;have:x.toNat=0:=by lia
   rw[this] at h';exact h'
  ·refine ko F.slot_tuple_mul ⟨_,hl,rfl⟩ F.entry_tuple_mul (F.args_tuple_mul_2 _ _) (aXj l its.toArray n dd sl x u c0 (by simpa using c3) c4 h2 (by rw[ah];exact h4)) ⟨hl,?_⟩;rw[f0];exact h'
theorem aJu:PrS X tw (two (kX .Mult)) pMul:=by
 intro B pins s O H vs us ts n t m Q I rv rt tn e k
 match ts,e with
 | [.int a,.int b],e =>
  have e:(if small a||small b then some (T.int (a*b),Md.fz) else none)=some (t,m):=e;split at e
  ·rename_i hs;cases e;obtain⟨v,w,rfl,r1,r2⟩:=aBb rt;obtain rfl:=aAt r1;obtain rfl:=aAt r2;obtain⟨u1,u2,rfl,q1,q2⟩:=rv.two;have hc:CMul a b:=by
    simp only[small,Bool.or_eq_true,decide_eq_true_eq] at hs;rcases hs with hs |hs
    ·exact .inl ⟨by lia,by lia⟩
    ·exact .inr ⟨by lia,by lia⟩
   exact op_mul pins s O H _ _ u1 u2 Q I q1 q2 ⟨a,b,rfl,rfl,hc,k _ H (.refl _ _) tn (by show Rep tw H (.int _) _;rw[Rep])⟩
  ·cases e
 | [.tup xs,.int j],e =>
  have e:(if xs.length<=1000 /\ -1000<=j/\j<=10000/\xs.length*j.toNat<=big then some (T.tup (List.replicate j.toNat xs).flatten,Md.fz) else none)=some (t,m):=e;split at e
  ·rename_i hb;obtain⟨_,b1,b2,b3⟩:=hb;cases e;obtain⟨v,w,rfl,r1,r2⟩:=aBb rt;obtain⟨a,va,rfl,ea,xa⟩:=aBc r1;obtain rfl:=aAt r2;obtain⟨u1,u2,rfl,q1,q2⟩:=rv.two;cases q1;obtain⟨tk,rfl⟩:=q2;obtain⟨its,r1',p1,_⟩:=I.tuple (SqT.of (K:=X.K) ea);obtain⟨⟨cls,dd,data,sl⟩,ho,hc,n1,hd⟩:=id p1;simp only at hc hd;subst hc hd;have l1:=xa.length;have l3:=r1'.length;have hz:its.length*j.toNat<=jU:=by rw[<-l3,<-l1];exact aC9 b3
   have hp:H s.heap.objs.size=none:=I.hok.fresh (a9 _);refine bAg ho ZA ZA hz (fun c=>?_) ?_
   ·have:(List.replicate j.toNat xs).flatten=xs:=by
     rcases c with c |c
     ·have:xs = []:=d5 (by rw[l1,l3,c];rfl);subst this;simp
     ·subst c;simp
    rw[this] at k;exact⟨.ref a,H,I,rfl,k _ H (.refl _ _) tn (aD4 ea xa)⟩
   ·refine⟨.ref s.heap.objs.size,_,I.laid (t':=s.toks) (o:=.tup (List.replicate j.toNat va).flatten) (fun b ob q=>a0 _ q) (a9 _) ⟨by rw[len_rep,gR,l3];exact hz,_,r1'.rep _,aDm.new _ _⟩,rfl,k _ _ (.new hp) (tn.new hp) (aD4 aAj ((Reps.mono (.new hp) _ _ xa).rep _))⟩
  ·cases e
theorem aB6:∀ {xs:List T} {us:List Value},us.length=xs.length->(∀ (i:Nat) (u:Value),us[i]?=some u->∃v x,RelV v u/\xs[i]?=some x/\Rep tw H x v)->∃vs,Vals vs us/\Reps tw H xs vs
 |[],[],_,_=>⟨[],.nil,.nil⟩
 | x::xs,u::us,hl,h=>by
  obtain⟨v,x',r,e,q⟩:=h 0 u rfl;have e:x=x':=by simpa using e
  subst e;obtain⟨vs,h1,h2⟩:=aB6 (xs:=xs) (us:=us) (by simpa using hl) fun i u e=>by obtain⟨v,x,r,e',q⟩:=h (i+1) u (by simpa using e);exact⟨v,x,r,by simpa using e',q⟩
  exact⟨v::vs,.cons r h1,.cons q h2⟩
 |[],_::_,hl,_=>by simp at hl
 |_::_,[],hl,_=>by simp at hl
theorem aVk{a:Addr}{s:jR}{pins:List ZL}{O:St}{kvs:List (Key × T)}{us:List (Key × Value)}(q:RepK tw H kvs ws)(rel:KV ws us)(i:Nat)(w:Value)
  (hp:∃k x,us[i]?=some (k,x)/\(aAz X.prog X.w).is k w=true):∃v x,RelV v w/\(kvs.map fun kv=>keyT kv.1)[i]?=some x/\Rep tw H x v:=by
 obtain⟨k,x,h1,h2⟩:=hp;have hl:ws.length=us.length:=Paired.length rel;refine⟨kV k,keyT k,aUh h2,?_,aMm k⟩;rw[bo];have hi:i<us.length:=(b9.mp h1).1;have hi2:i<kvs.length:=by rw[RepK.length q,hl];exact hi
 obtain⟨v,g1,_⟩:=aI7 (k:=kvs[i].1) (t:=kvs[i].2) q (show kvs[i]?=some (kvs[i].1,kvs[i].2) by simp[hi2]);obtain⟨u',g2⟩:=bBs rel g1;rw[h1] at g2;have:k=kvs[i].1:=by injection g2 with g2;injection g2
 rw[ai hi2];show some (keyT kvs[i].1)=some (keyT k);rw[this]
theorem aJ0(hh:A'.handled=none)(I:Inv X pins O H s)(r:Root X.K tw H t v)(rv:RelV v u)(h:aFd t=some xs)
  (k:∀us vs h' tk,Vals vs us->Reps tw H xs vs->us.length<=jU->(∀b o,s.heap.get? b=some o->h'.get? b=some o)->Q us { s with heap:=h',toks:=tk }):wpAny (model X.prog X.w) A' (collect u) Q E s:=by
 cases t with
 | lst ys =>
  cases h;obtain⟨a,vs,rfl,e,q⟩:=r;cases rv;obtain⟨its,rv,p,hz⟩:=I.list e.sq;obtain⟨o,ho,hc,n,hd⟩:=p.isList;have hz':its.toArray.size<=jU:=by rw[ah];first |exact hz |(rw[<-rv.length];exact hz)
  exact wpAny_collect_seq a (.inl rfl) ho hc hd (fun h' kp=>k its vs h' s.toks rv q (by simpa using hz') kp) hz'
 | tup ys =>
  cases h;obtain⟨a,vs,rfl,e,q⟩:=aBc r;cases rv;obtain⟨its,rv,p,hz⟩:=I.tuple (SqT.of (K:=X.K) e);obtain⟨o,ho,hc,n,hd⟩:=id p;have hz':its.toArray.size<=jU:=by rw[ah];first |exact hz |(rw[<-rv.length];exact hz)
  exact wpAny_collect_seq a (.inr rfl) ho hc hd (fun h' kp=>k its vs h' s.toks rv q (by simpa using hz') kp) hz'
 | dic kvs =>
  cases h;obtain⟨a,ws,rfl,na,e,q⟩:=r;cases rv;obtain⟨z,hd,us,rel,dd⟩:=aEb I.hok e;obtain⟨ep,da⟩:=dd.dictAt;have hl:ws.length=us.length:=Paired.length rel;refine W.kdu_collect (W.kdl_dict (knd:=aAz X.prog X.w) (kvs:=us) (ep:=ep) hd) hh da (by rw[<-hl];exact z) fun h' tk acc kp hi=>?_;obtain⟨vs,h1,h2⟩:=aB6 (tw:=tw) (H:=H) (xs:=kvs.map fun kv=>keyT kv.1) (us:=acc.toList) (by rw[aw,hi.1,a5,RepK.length q,hl]) fun i w e =>
   aVk (X:=X) (a:=a) (s:=s) (pins:=pins) (O:=O) q rel i w (hi.2 i w (by rw[<-bj];exact e))
  exact k _ vs h' tk h1 h2 (by rw[aw,hi.1,<-hl];exact z) kp
 |_=>cases h
theorem aJh:∀ {us:List Value} {ns:List Int},jb us ns->Vals (ns.map V.int) us
 |_,_,.nil=>.nil
 |_,_,.cons n t h=>.cons ⟨t,rfl⟩ (aJh h)
theorem aBw:∀ {ns:List Int} {us:List Value},Vals (ns.map V.int) us->jb us ns
 |[],_,.nil=>.nil
 |n::ns,_,.cons ⟨t,e⟩ h=>by subst e;exact .cons n t (aBw h)
theorem aUb(hh:X.A.handled=none):PrS X tw (fun us=>call (.type "list") us) aTj:=by
 intro B pins s O H vs us ts n t m Q I rv rt tn e k
 match ts,e with
 | [.lst xs],e =>
  cases e;obtain⟨v,rfl,a,va,rfl,ea,xa⟩:=aAp rt;exact aIt pins s O H _ us Q I rv ⟨a,va,rfl,.inl ea.sq,fun l hl=>k _ _ (.new hl) (tn.new hl) ⟨l,rfl,hl,_,aAj,Reps.mono (.new hl) _ _ xa⟩⟩
 | [.tup xs],e =>
  cases e;obtain⟨v,rfl,r⟩:=aAp rt;obtain⟨a,va,rfl,ea,xa⟩:=aBc r;exact aIt pins s O H _ us Q I rv ⟨a,va,rfl,.inr (SqT.of ea),fun l hl=>k _ _ (.new hl) (tn.new hl) ⟨l,rfl,hl,_,aAj,Reps.mono (.new hl) _ _ xa⟩⟩
 | [.dic kvs],e =>
  cases e;obtain⟨v,rfl,a,ws,rfl,na,ea,q⟩:=aAp rt;obtain⟨u,rfl,ru⟩:=rv.one;cases ru;obtain⟨z,hd,us,rel,dd⟩:=aEb I.hok ea;obtain⟨ep,da⟩:=dd.dictAt;have hl:ws.length=us.length:=Paired.length rel;refine W.kdl_call (W.kdl_dict (knd:=aAz X.prog X.w) (kvs:=us) (ep:=ep) hd) hh da (by rw[<-hl];exact z) fun h' tk acc c kp hS hi=>?_;obtain⟨vs,h1,h2⟩:=aB6 (tw:=tw) (H:=H) (xs:=kvs.map fun kv=>keyT kv.1) (us:=acc.toList) (by rw[aw,hi.1,a5,RepK.length q,hl]) fun i w e =>
   aVk (X:=X) (a:=a) (s:=s) (pins:=pins) (O:=O) q rel i w (hi.2 i w (by rw[<-bj];exact e))
  have hp:H s.heap.objs.size=none:=I.hok.fresh (a9 _);have I':=I.laid (a:=s.heap.objs.size) (o:=.lst vs) (t':=tk) (h':=h') kp (a9 _) ⟨by rw[h1.length,aw,hi.1,<-hl];exact z,acc.toList,c,h1,by simpa using hS⟩;exact⟨.ref s.heap.objs.size,_,I',rfl,k _ _ (.new hp) (tn.new hp) ⟨_,rfl,hp,_,aAj,Reps.mono (.new hp) _ _ h2⟩⟩
theorem sss_none{sts:List Stmt}:SSs X tw sts aIn:=fun _ _ _ _ _ _ hd=>by cases hd
theorem aSw
  (hc:wpAny ZC A'.in1 (collect x) (fun vs s1=>∃ns,jb vs ns/\vs.length<64/\∀h' (out:Array Value) ns' e,(∀b o,s1.heap.get? b=some o->h'.get? b=some o)->h'.get? s1.heap.objs.size=some (j7 "list" out e)->jb out.toList ns'->ns'.Perm ns->ns'.Pairwise (· <= ·)->Q (.ref s1.heap.objs.size) { s1 with heap:=h' }) E s) :
  wpAny ZC A' (call (.builtin "sorted") [x]) Q E s:=by
 refine ft kind_sorted plain_sorted entry_sorted (args_sorted1 _) ?_;unfold Builtin.«sorted»;refine jP (m:=checkCount "sorted" 1 1 _) (jQ (jP (j8 hc (fun vs s1 h=>?_) fun _ _ e=>e)));obtain⟨ns,hI,h64,k⟩:=h;refine jP (lC ?_ (by rw[jz];lia));have hoL:(s1.heap.push (j7 "list" vs.toArray 0)).get? s1.heap.objs.size=some (j7 "list" vs.toArray 0):=af _ rfl;show wpAny _ _ _ _ _ { s1 with heap:=s1.heap.push (j7 "list" vs.toArray 0) };refine jP (j5 (j3 slot_list_sort ⟨_,hoL,rfl⟩ entry_list_sort (list_sort_tree hoL hI h64 fun out ns' a1 a2 a3=>⟨_,rfl,?_⟩) (args_list_sort _)));obtain⟨e,he⟩:=sortedHeap_at (out:=out) hoL;refine jQ ⟨_,rfl,k _ out ns' e (fun b o hb=>?_) he a1 a2 a3⟩;have hlt:b<s1.heap.objs.size:=aj hb;rw[sortedHeap_old (au hlt) (by rw[cp];exact c6 hlt)];exact a0 _ hb
theorem aUy(hh:X.A.handled=none):PrS X tw (fun us=>call (.builtin "sorted") us) aJ5:=by
 intro B pins s O H vs us ts n t m Q I rv rt tn e k;have run:∀ {t0:T} {xs:List T} {ns:List Int} {v:V} {u:Value},Root X.K tw H t0 v->RelV v u->aFd t0=some xs->intsOf xs=some ns->ns.length<64 ->
   (∀v H',Ext tw H H'->Tn tw n H'->Val X.K B tw H H' (.lst ((sortI ns).map T.int)) .own v->Q v H')->wpAny ZC X.A (call (.builtin "sorted") [u]) (EP X pins O Q) X.xe s:=by
  intro t0 xs ns v u r ru hw hi hl kk;have hx:=aA6 hi;refine aSw (aJ0 hh I r ru hw fun us vs h' tk h1 h2 h3 kp=>?_);rw[hx] at h2;cases aCu h2;have ia:=aBw h1;refine⟨ns,ia,by rw[<-h1.length,a5];exact hl,fun h'' out ns' e kp2 he hi2 hp hs=>?_⟩;cases aI3 hp hs;have I1:Inv X pins O H { s with heap:=h',toks:=tk }:=I.kept kp;have hf:H h'.objs.size=none:=I1.hok.fresh (a9 _);have iv:=aJh hi2;have I':=I1.laid (a:=h'.objs.size) (o:=.lst ((sortI ns).map V.int)) (t':=tk) (h':=h'') kp2 (a9 _) ⟨by rw[a5,(sortI_perm ns).length_eq,jz];lia,out.toList,e,iv,by rw[eR];exact he⟩;exact⟨.ref h'.objs.size,_,I',rfl,kk _ _ (.new hf) (tn.new hf) ⟨_,rfl,hf,_,aAj,Reps.ints _⟩⟩
 match ts,e with
 | [.lst xs],e =>
  obtain⟨v,rfl,r⟩:=aAp rt;obtain⟨u,rfl,ru⟩:=rv.one;obtain⟨ns,e1,e2⟩:=bind_some (show (intsOf xs).bind _=_ from e);by_cases hl:ns.length<64
  ·rw[if_pos hl] at e2;cases e2;exact run r ru rfl e1 hl k
  ·rw[if_neg hl] at e2;cases e2
 | [.tup xs],e =>
  obtain⟨v,rfl,r⟩:=aAp rt;obtain⟨u,rfl,ru⟩:=rv.one;obtain⟨ns,e1,e2⟩:=bind_some (show (intsOf xs).bind _=_ from e);by_cases hl:ns.length<64
  ·rw[if_pos hl] at e2;cases e2;exact run r ru rfl e1 hl k
  ·rw[if_neg hl] at e2;cases e2
theorem _root_.L2.Inv.tupleN(I:Inv X pins O H s)(h:H a=some (.tup xs)):∃its:List Value,Vals xs its/\aDm s.heap a its.toArray/\xs.length<=jU:=by obtain⟨z,its,r,p⟩:=I.hok a _ h;exact⟨its,r,p,z⟩
def isInt(j:Int):Value->Bool
 |.int i _=>i==j
 |_=>false
theorem aSf:typeLookup (.type "list") "keys" = pure none:=by rw[lI,kU];kernel_rfl
theorem bBv{k:Nat}
  (hx:s.heap.get? a=some o) (hc:o.cls = .type "list") (hdat:o.data = .seq xs k) (hd:o.dict=none) (hA:A.handled=none)
  (h:∀h' tk,(∀b o,s.heap.get? b=some o->h'.get? b=some o)->Q none { s with heap:=h',toks:=tk }) :
  wpAny ZG A (getAttr? (.ref a) "keys") Q E s:=by
 obtain⟨c,dct,dat,sl⟩:=o;simp only at hc hdat hd;subst hc hdat hd;obtain⟨hp,g,d,tk,os⟩:=s;have hT:∀tk',(⟨hp,g,d,tk',os⟩:jR).TypeIs (.ref a) "list":=fun _=>⟨_,hx,rfl⟩
 have f1:=sub_AttributeError;have f3:=F.slot_list_getattribute.lookup;have f4:=F.slot_list_getattribute.bind (.ref a);have f5:=am_list_getattr_none;unfold getAttr? getAttrBy? getAttrBy
 repeat (any_goals (first |assumption |exact hT _ |((with_reducible show wpAny _ _ (call (Value.builtin "list.__getattribute__") _ _) _ _ _);refine ko F.slot_list_getattribute (hT _) am_entry_list_getattribute (F.args_list_getattribute_2 _ _) (meets_getattribute_miss_list a xs k sl "keys" _ aSf (by decide)) ⟨hx,hA,fun h' tk' e hx'=>?_⟩) |wp_step))
 obtain⟨t',u',he⟩:=hx'.there;show wpAny _ _ (getattributeRaised _ _ _ _ _ _ _) _ _ _;unfold getattributeRaised
 repeat (any_goals (first |assumption |wp_step))
 exact h _ _ hx'.keeps
theorem aFo:entryFor table "dict.update.loop" = some Builtin.«dict.update.loop»:=entryFor_of_tree (by kernel_rfl)
theorem aCg:plainId "dict.update.loop" = true:=by decide +kernel
section
variable {prog:jW}{w:World}{K:Type}[DecidableEq K]{knd:KeyKind prog w K}{A:jY}{R:Result->jR->Prop}{I d:Addr}{fp wr:List Addr}{P:Nat->Value->Prop}{St:Nat->Heap->Prop}
def folded(ps:List (K × Value)):List (K × Value):=ps.foldl (fun m p=>stored m p.1 p.2) []
theorem aWo(m:List (K × Value))(k:K)(v:Value):(stored m k v).length<=m.length+1:=by
 unfold stored;split
 ·rw[a5];lia
 ·rw[bf];simp
theorem aW1(ps:List (K × Value)):∀m:List (K × Value),(ps.foldl (fun m p=>stored m p.1 p.2) m).length<=m.length+ps.length:=by
 induction ps with
 |nil=>intro m;simp
 | cons p ps ih =>
  intro m;rw[cj];have h1:=ih (stored m p.1 p.2);have h2:=aWo m p.1 p.2;rw[aa];lia
theorem bAm{h₀:Heap}{ps:List (K × Value)}(W:Walks prog w A.in1 I fp wr ps.length P St)(hdf:d∉fp)(res:Value)(hn:ps.length<=jU)
  (hP:∀i v,P i v->∃b k key x o m,v = .ref b/\b≠d/\b∉wr/\h₀.get? b=some o/\o.cls = .type "tuple" /\ o.data = .seq #[key,x] m/\knd.is k key=true/\ps[i]?=some (k,x)) :
  ∀ (j i:Nat) (s:jR),ps.length - i=j->i<=ps.length->St i s.heap->(∀b o,b≠d->b∉wr->h₀.get? b=some o->s.heap.get? b=some o)->s.heap.DictOf knd d (folded (ps.take i)) ->
  (∀h' tk,(∀b o,b≠d->b∉wr->h₀.get? b=some o->h'.get? b=some o)->h'.DictOf knd d (folded ps)->R (.ok (.ret res)) { s with heap:=h',toks:=tk }) ->
  kF ZG A (.builtin "dict.update.loop" ⟨[.ref d,.ref I,jc i,res],[]⟩) R s:=by
 have hdw:d∉wr:=fun h=>hdf (W.sub _ h);intro j
 induction j with
 | zero =>
  intro i s hj hi hst hk hD hR;have hin:i=ps.length:=by lia
  subst hin;refine jl aFo ?_;rw[Around.under_plainId aCg _];show wpAny _ A.in1 (kN (.ref I) >>= _) _ _ s;refine jP (W.done s _ _ hst fun h' tk hm=>?_);rw[fJ] at hD;refine jP (jQ ?_);exact jQ (hR h' tk (fun b o hb hw e=>hm b o hw (hk b o hb hw e)) (let ⟨o,es,ep,ho,r⟩:=hD;⟨o,es,ep,hm d o hdw ho,r⟩))
 | succ j ih =>
  intro i s hj hi hst hk hD hR;have hlt:i<ps.length:=by lia
  refine jl aFo ?_;rw[Around.under_plainId aCg _];show wpAny _ A.in1 (kN (.ref I) >>= _) _ _ s;refine jP (W.item i s _ _ hlt hst fun v h' tk hp hst' hm=>?_);obtain⟨b,k,key,x,o,m,rfl,hbd,hbw,ho,hc,hdat,hkey,hps⟩:=hP i v hp;have hk1:∀b o,b≠d->b∉wr->h₀.get? b=some o->h'.get? b=some o:=fun b o hb hw e=>hm b o hw (hk b o hb hw e);have hb1:=hk1 b o hbd hbw ho;have hD1:h'.DictOf knd d (folded (ps.take i)):=let ⟨o,es,ep,ho,r⟩:=hD;⟨o,es,ep,hm d o hdw ho,r⟩
  refine jP (j5 ?_);refine jP (lO ?_);unfold Builtin.Dict.pairItems;refine jP (kE (T:="tuple") ⟨o,hb1,hc⟩ ?_);rw[if_pos ZE];refine jP (kJ hb1 hdat ?_);refine jQ ?_;show wpAny _ _ (kL [key,x] (dictSet d key x)) _ _ _;have hlen:(folded (ps.take i)).length<=jU:=by have:=aW1 (ps.take i) [];rw[c7] at this;unfold folded;simp at this;lia
  refine j5 (wpAny_dictSet_pairs (s:={ s with heap:=h',toks:=tk }) hkey hD1 (fun h2 hD2 hs2=>?_) hlen);have hstep:folded (ps.take (i+1))=stored (folded (ps.take i)) k x:=by
   have:ps.take (i+1)=ps.take i ++ [(k,x)]:=by rw[jB,hps];rfl
   unfold folded;rw[this,gj];rfl
  refine jQ ⟨jn aCg _,?_⟩;refine ih (i+1) { s with heap:=h2,toks:=tk+1 } ZA hlt (W.frame _ _ _ hst' fun c hc' o' e=>?_) (fun c o' hb hw e=>?_) (by rw[hstep];exact hD2) fun h3 tk3 hk3 hD3=>hR h3 tk3 hk3 hD3
  ·have:c≠d:=fun z=>hdf (z▸hc');exact(hs2.2 c this).trans e
  ·exact(hs2.2 c hb).trans (hk1 c o' hb hw e)
end
theorem key_repR(h:keyOf t=some k)(r:Rep tw H t v):v=kV k:=by
 cases t with
 |int i=>cases h;rw[Rep] at r;exact r
 |str x=>cases h;rw[Rep] at r;exact r
 |_=>cases h
def PairAt(H:Hp)(P:jW)(w:World)(h:Heap)(v:V)(u:Value)(k:Key)(x:V)(y:Value):Prop :=
 ∃b o m key,v = .ref b/\u = .ref b/\H b=some (.tup [kV k,x])/\h.get? b=some o/\o.cls = .type "tuple" /\ o.data = .seq #[key,y] m/\(aAz P w).is k key=true/\RelV x y
theorem pairs_at{pins:List ZL}{s:jR}{O:St}{H:Hp}(I:Inv X pins O H s):∀ {xs:List T} {ps:List (Key × T)} {vs:List V} {us:List Value},pairsOf xs=some ps->Reps tw H xs vs->Vals vs us ->
  ∃ (ws:List (Key × V)) (ys:List (Key × Value)),RepK tw H ps ws/\KV ws ys/\ys.length=us.length/\∀ (i:Nat) (u:Value),us[i]?=some u->∃v k x y,PairAt H X.prog X.w s.heap v u k x y/\ys[i]?=some (k,y)
 |[],ps,vs,us,h,r,rv=>by cases h;cases aA3 r;cases rv;exact⟨[],[],by rw[RepK],.nil,rfl,fun i u e=>by simp at e⟩
 | t::xs,ps,vs,us,h,r,rv=>by
  have ⟨kt,vt,k,ps',e1,e2,e3,e4⟩:∃kt vt k ps',t = .tup [kt,vt]/\keyOf kt=some k/\pairsOf xs=some ps'/\ps=(k,vt)::ps':=by
   match t,h with
   | .tup [kt,vt],h =>
    obtain⟨k,h1,h2⟩:=bind_some (show (keyOf kt).bind _=_ from h);obtain⟨ps',h3,h4⟩:=map_some h2;exact⟨kt,vt,k,ps',rfl,h1,h3,h4.symm⟩
  subst e1 e4;obtain⟨v,vs',rfl,r1,r2⟩:=aAm r;cases rv with
  | cons rv1 rv2 =>
   rename_i u us';obtain⟨ws,ys,g1,g2,g3,g4⟩:=pairs_at I e3 r2 rv2;obtain⟨b,va,rfl,hb,q⟩:=aBc (K:=X.K) r1;obtain⟨va1,va',rfl,q1,q2⟩:=aAm q;obtain⟨va2,va'',rfl,q3,q4⟩:=aAm q2;cases aA3 q4;have ek:va1=kV k:=key_repR e2 q1;subst ek;cases rv1;obtain⟨its,ri,⟨o,ho,hc,hdn,m,hdat⟩,_⟩:=I.tupleN hb;obtain⟨ku,yu,rfl,rk,ry⟩:=ri.two;refine⟨(k,va2)::ws,(k,yu)::ys,aEc q3 g1,.cons ⟨rfl,ry⟩ g2,by rw[aa,aa,g3],fun i u e=>?_⟩;cases i with
   | zero =>
    have e:Value.ref b=u:=by simpa using e
    subst e;exact⟨.ref b,k,va2,yu,⟨b,o,m,ku,rfl,rfl,hb,ho,hc,hdat,aYb rk,ry⟩,rfl⟩
   | succ i =>
    obtain⟨v,k',x,y,p1,p2⟩:=g4 i u (by simpa using e);exact⟨v,k',x,y,p1,by simpa using p2⟩
theorem RepK.fold:∀ {ps:List (Key × T)} {ws:List (Key × V)},RepK tw H ps ws->∀ {d:List (Key × T)} {e:List (Key × V)},RepK tw H d e->RepK tw H (ps.foldl (fun d p=>aCc d p.1 p.2) d) (ws.foldl (fun d p=>putK d p.1 p.2) e)
 |[],_,r,_,_,q=>by rw[RepK] at r;subst r;exact q
 |(k,x)::ps,_,r,d,e,q=>by rw[RepK] at r;obtain⟨v,w',rfl,r1,r2⟩:=r;exact RepK.fold r2 (RepK.put k r1 q)
theorem KV.fold:∀ {ws:List (Key × V)} {ys:List (Key × Value)},KV ws ys->∀ {d:List (Key × V)} {e:List (Key × Value)},KV d e->KV (ws.foldl (fun d p=>putK d p.1 p.2) d) (ys.foldl (fun d p=>stored d p.1 p.2) e):=by
 intro ws ys r;unfold KV at r
 induction r with
 |nil=>intro d e q;exact q
 | cons h t ih =>
  intro d e q;rename_i a b as bs;obtain⟨k,v⟩:=a;obtain⟨k',y⟩:=b;obtain⟨h1,h2⟩:=h;simp only at h1 h2;subst h1;exact ih (KV.put q k h2)
theorem fold_len(ws:List (Key × V)):∀d:List (Key × V),(ws.foldl (fun d p=>putK d p.1 p.2) d).length<=d.length+ws.length:=by
 induction ws with
 |nil=>intro d;simp
 | cons p ps ih =>
  intro d;rw[cj];have h1:=ih (putK d p.1 p.2);have h2:(putK d p.1 p.2).length<=d.length+1:=by
   unfold putK;split
   ·rw[a5];lia
   ·rw[bf];simp
  rw[aa];lia
theorem aK2:∀ {xs:List T} {ps:List (Key × T)},pairsOf xs=some ps->ps.length=xs.length
 |[],_,h=>by cases h;rfl
 | t::xs,ps,h=>by
  match t,h with
  | .tup [kt,vt],h =>
   obtain⟨k,h1,h2⟩:=bind_some (show (keyOf kt).bind _=_ from h);obtain⟨ps',h3,h4⟩:=map_some h2;subst h4;rw[aa,aa,aK2 h3]
theorem aGe(hh:X.A.handled=none):PrS X tw (fun us=>call (.type "dict") us) aMy:=by
 intro B pins s O H vs us ts n t m Q I rv rt tn e k
 match ts,e with
 | [.dic kvs],e =>
  cases e;obtain⟨v,rfl,a,ws,rfl,na,ea,q⟩:=aAp rt;obtain⟨u,rfl,ru⟩:=rv.one;cases ru;exact d_copyOf I ea fun p s' hp I'=>⟨.ref p,_,I',rfl,k _ _ (.new hp) (tn.new hp) ⟨p,rfl,hp,_,aAj,RepK.mono (.new hp) _ _ q⟩⟩
 | [.lst xs],e =>
  obtain⟨ps,e1,e2⟩:=bind_some (show (pairsOf xs).bind _=_ from e);split at e2
  ·rename_i hbig;cases e2;obtain⟨v,rfl,a,va,rfl,ea,xa⟩:=aAp rt;obtain⟨u,rfl,ru⟩:=rv.one;cases ru;obtain⟨its,r1,⟨o,nn,ho,hc,hdn,hdat⟩,hz⟩:=I.list ea.sq;obtain⟨ws,ys,g1,g2,g3,g4⟩:=pairs_at I e1 xa r1;have hpl:=aK2 e1;have hyl:ys.length=ps.length:=by rw[g3,<-r1.length,<-xa.length,hpl]
   have hwl:ws.length=ps.length:=(RepK.length g1).symm;have hbl:ps.length<=jU:=aC9 (c9 hbig);refine callType_codes (Q₁:=fun obj s₁=>obj = .ref s.heap.objs.size/\s₁ = { s with heap:=s.heap.push { cls:=.type "dict",data:=.dict #[] } }) F.kt_called_dict (F.kt_typeCall_dict_1 _) F.entry_dict_init (kt_code_dict_new _ ⟨rfl,rfl⟩) ?_;rintro obj s₁ ⟨rfl,rfl⟩;have hnew:(s.heap.push { cls:=.type "dict",data:=.dict #[] }).DictOf (aAz X.prog X.w) s.heap.objs.size []:=Heap.DictOf.new s.heap;refine⟨hnew.typeIs,F.args_dict_init_2 _ _,?_⟩;have had:a<s.heap.objs.size:=aj ho;have ho1:=a0 { cls:=.type "dict",data:=.dict #[] } ho;unfold Builtin.«dict.__init__»;refine jP ?_;unfold Builtin.Dict.selfAndRest;refine jP (lE hnew.typeIs ?_);show wpAny _ _ (pure (s.heap.objs.size,[Value.ref a])) _ _ _;refine jQ ?_;show wpAny _ _ (Builtin.Dict.updateFrom "dict.__init__" s.heap.objs.size (.ref a) [] .none) _ _ _;unfold Builtin.Dict.updateFrom;refine jP (kE (T:="list") ⟨o,ho1,hc⟩ ?_);rw[if_pos ZE];refine jP (bBv ho1 hc hdat hdn hh fun h' tk kp=>?_);rw[if_pos (by rfl)];refine jP (jf ?_);have hl':h'.IsList a its.toArray:=⟨o,kp a o ho1,hc,nn,hdat⟩
   have hD0:h'.DictOf (aAz X.prog X.w) s.heap.objs.size []:=let ⟨o',es,ep,ho',r⟩:=hnew;⟨o',es,ep,kp _ _ ho',r⟩
   have hDlt:s.heap.objs.size<h'.objs.size:=let ⟨o',es,ep,ho',r⟩:=hD0;aj ho'
   have hsz:its.toArray.size=ys.length:=by rw[ah,g3]
   have ha:a≠h'.objs.size:=au (gO had hDlt);refine jP (kr hl' ?_);refine jQ ⟨jn aCg _,?_⟩;have W:=Walks.list (prog:=X.prog) (w:=X.w) (A:=X.A.in1.in1) hh h'.objs.size a ha its.toArray;rw[hsz] at W;refine bAm (knd:=aAz X.prog X.w) (h₀:=h') (ps:=ys) W (fun hm=>?_) .none (by rw[hyl];exact hbl) (fun i v hp=>?_) ys.length 0 _ rfl (dm _) ⟨⟨_,af _ rfl,rfl,rfl⟩,hl'.push _⟩ (fun b o' _ _ e=>a0 _ e) (hD0.push _) fun h2 tk2 kp2 hD2=>?_
   ·simp at hm;rcases hm with hm |hm
    ·exact absurd hDlt (by rw[<-hm];exact eF _)
    ·exact absurd had (by rw[<-hm];exact eF _)
   ·obtain⟨v',k',x,y,⟨b,o',m',key,rfl,rfl,_,hb,hcb,hdb,hkey,_⟩,hy⟩:=g4 i v (by simpa using hp);have hblt:b<s.heap.objs.size:=aj hb;exact⟨b,k',key,y,o',m',rfl,au hblt,by simp;exact au (gO hblt hDlt),kp b o' (a0 _ hb),hcb,hdb,hkey,hy⟩
   ·have hp:H s.heap.objs.size=none:=I.hok.fresh (a9 _);have hz2:(ws.foldl (fun d p=>putK d p.1 p.2) []).length<=jU:=by have:=fold_len ws [];simp at this;lia
    have I':=I.laid (a:=s.heap.objs.size) (o:=.dK (ws.foldl (fun d p=>putK d p.1 p.2) [])) (t':=tk2) (h':=h2) (fun b u q=>kp2 b u (au (aj q)) (by simp;exact au (gO (aj q) hDlt)) (kp b u (a0 _ q))) (a9 _)
     (aV6 hz2 (beq_eq_false_iff_ne.mpr (Ne.symm (au I.big))) (KV.fold g2 .nil) hD2)
    exact⟨rfl,.ref s.heap.objs.size,_,I',rfl,k _ _ (.new hp) (tn.new hp) ⟨_,rfl,hp,_,aAj,RepK.mono (.new hp) _ _ (RepK.fold g1 (by rw[RepK]))⟩⟩
  ·cases e2
end
end L2.Ds
namespace L2.Tm
open PySem PyProof.Rows
section
variable {O:Type}{M:Model}{A:jY}{E:Value->jR->Prop}{s:jR}{α β:Type}{Q:α->O->Prop}{st:O}
theorem aG9{G:Prop}(h:∀P:Prop,(G->P)->P):G:=h G id
theorem aIs(h:wpS M A E s m Q st):wpAny M A (m st) (fun r s'=>s'=s/\Q r.1 r.2) E s:=h
end
theorem aK7{O:Type}{M:Model}{α:Type}{m:StateT O Sem α}{Q:α->O->Prop}{st:O}(h:∀Q',Q'=Q->wpS M A E s m Q' st):wpS M A E s m Q st:=h Q rfl
theorem via{β:Type}{v:β}{G:β->Prop}(P:β->Prop)(hv:P v)(h:∀x,P x->G x):∀x,x=v->G x:=fun x e=>h x (e▸hv)
def aYr:Bool->Keyed->Array Keyed->Nat->Nat->Nat->StateT j4 Sem (Option Nat):=sortPriv% PySem.Builtin.gallop
section
variable {prog:jW}{w:World}{A:jY}{E:Value->jR->Prop}{s:jR}{κ:SortKind}{a₀:Array Keyed}{rk:Keyed->Nat}
def LtOk(prog:jW)(w:World)(A:jY)(E:Value->jR->Prop)(s:jR)(κ:SortKind)(a₀:Array Keyed)(rk:Keyed->Nat):Prop :=
 ∀ (st:j4) (x y:Keyed) (Q:Option Bool->j4->Prop),jh st=κ->x∈a₀->y∈a₀->Q (some (decide (rk x<rk y))) st->wpS ZG A E s (lt' x y) Q st
def at_(rk:Keyed->Nat)(xs:Array Keyed)(i:Nat):Nat:=(xs[i]?.map rk).getD 0
def Srt(rk:Keyed->Nat)(xs:Array Keyed)(lo hi:Nat):Prop:=∀i j,lo<=i->i<=j->j<hi->at_ rk xs i<=at_ rk xs j
theorem aBa{arr:Array Keyed}{i:Nat}{st:j4}{Q:Keyed->j4->Prop}(h:i<arr.size)(q:Q arr[i] st):wpS ZG A E s (elem' arr i) Q st:=by rw[elem'_eq,d6 h];exact jT q
def bey(rk:Keyed->Nat)(left:Bool)(key:Keyed)(arr:Array Keyed)(i:Nat):Bool:=if left then decide (at_ rk arr i<rk key) else !decide (rk key<at_ rk arr i)
theorem aBe{i:Nat}(h:i<xs.size):at_ rk xs i=rk xs[i]:=by unfold at_;rw[d6 h];rfl
theorem aHd{left:Bool}{base n:Nat}(hs:Srt rk arr base (base+n)){i j:Nat}(hij:i<=j)(hj:j<n)(h:bey rk left key arr (base+j)=true):bey rk left key arr (base+i)=true:=by
 have:=hs (base+i) (base+j) ZA ZA ZA;unfold bey at *;cases left
 ·simp at h |-;lia
 ·simp at h |-;lia
theorem aFg(hL:LtOk prog w A E s κ a₀ rk){st:j4}(hk:jh st=κ){left:Bool}{key:Keyed}{arr:Array Keyed}{i:Nat}(hkey:key∈a₀)(harr:∀x∈arr,x∈a₀)(hi:i<arr.size)
  {Q:Option Bool->j4->Prop} (h:Q (some (bey rk left key arr i)) st):wpS ZG A E s (do
   let x <-elem' arr i
   if left=true then lt' x key else do
    let y <-lt' key x
    pure (Option.map (fun x=>!x) y)) Q st:=by
 refine jS (aBa hi ?_);have hm:arr[i]∈a₀:=harr _ (bv hi);unfold bey at h;rw[aBe hi] at h;cases left with
 |true=>rw[if_pos rfl] at h |-;exact hL st _ _ _ hk hm hkey h
 | false =>
  rw[if_neg ZE] at h |-;exact jS (hL st _ _ _ hk hkey hm (jT h))
theorem aEh(hL:LtOk prog w A E s κ a₀ rk){st:j4}(hk:jh st=κ){left:Bool}{key:Keyed}{arr:Array Keyed}{base n hint:Nat}(hkey:key∈a₀)(harr:∀x∈arr,x∈a₀)(hb:base+n<=arr.size)(hh:hint<n)(hs:Srt rk arr base (base+n))
  {Q:Option Nat->j4->Prop} (h:∀k,k<=n->(∀i,i<k->bey rk left key arr (base+i)=true)->(∀i,k<=i->i<n->bey rk left key arr (base+i)=false)->Q (some k) st):wpS ZG A E s (aYr left key arr base n hint) Q st:=by
 unfold aYr;unfold wpS;wp_delta;wp_delta;refine aIs ?_;dsimp only;have neg:∀ {i j:Nat},i<=j->j<n->bey rk left key arr (base+i)=false->bey rk left key arr (base+j)=false:=fun {i j} hij hj hf=>by
  cases e:bey rk left key arr (base+j) with
  |false=>rfl
  |true=>rw[aHd hs hij hj e] at hf;exact hf
 refine jS (aFg hL hk hkey harr (i:=base+hint) ZA ?_);dsimp only;cases hr:bey rk left key arr (base+hint) with
 | true =>
  rw[if_pos rfl]
  refine jS (jm (jd
   (I:=fun x c st'=>st'=st/\∃la of,c=(none,la,of)/\hint+la<n/\bey rk left key arr (base+(hint+la))=true/\la<of/\x+1<=of)
   (Q:=fun c st'=>st'=st/\∃la of,c=(none,la,of)/\hint+la<n/\bey rk left key arr (base+(hint+la))=true/\la<of/\(n - hint<=of\/(hint+of<n/\bey rk left key arr (base+(hint+of))=false))) ?step ?fin ⟨rfl,0,1,rfl,hh,hr,by lia,by lia⟩) ?post)
  case fin =>
   rintro c st' ⟨rfl,la,of,rfl,h1,h2,h3,h4⟩;exact⟨rfl,la,of,rfl,h1,h2,h3,.inl ZA⟩
  case step =>
   rintro x c st' _ hx ⟨rfl,la,of,rfl,h1,h2,h3,h4⟩;dsimp only;by_cases ho:of>=n - hint
   ·rw[if_pos ho];exact jT ⟨rfl,la,of,rfl,h1,h2,h3,.inl ho⟩
   ·rw[if_neg ho];refine jS (aFg hL hk hkey harr (i:=base+(hint+of)) ZA ?_);dsimp only;cases hm:bey rk left key arr (base+(hint+of)) with
    | true =>
     rw[if_neg ZE];exact jT ⟨rfl,of,2*of+1,rfl,by lia,hm,by lia,by lia⟩
    | false =>
     rw[if_pos ZE];exact jT ⟨rfl,la,of,rfl,h1,h2,h3,.inr ⟨by lia,hm⟩⟩
  case post =>
   rintro c st' ⟨rfl,la,of,rfl,h1,h2,h3,h4⟩;dsimp only;have up:∀i,hint+min of (n - hint)<=i->i<n->bey rk left key arr (base+i)=false:=fun i hi hin=>by
    rcases h4 with h4 |⟨h4,h5⟩
    ·lia
    ·exact neg ZA hin h5
   refine jS (jm (jd
    (I:=fun x c st''=>st''=st'/\∃lo hi,c=(none,lo,hi)/\lo<=hi/\hi<=n/\(∀i,i<lo->bey rk left key arr (base+i)=true)/\(∀i,hi<=i->i<n->bey rk left key arr (base+i)=false)/\hi - lo<=n - x)
    (Q:=fun c st''=>st''=st'/\∃hi,c=(none,hi,hi)/\hi<=n/\(∀i,i<hi->bey rk left key arr (base+i)=true)/\(∀i,hi<=i->i<n->bey rk left key arr (base+i)=false)) ?step2 ?fin2
    ⟨rfl,hint+la+1,hint+min of (n - hint),rfl,by lia,by lia,fun i hi=>aHd hs ZA h1 h2,up,by lia⟩) ?post2)
   case fin2 =>
    rintro c st'' ⟨rfl,lo,hi,rfl,g1,g2,g3,g4,g5⟩;have:lo=hi:=by lia
    subst this;exact⟨rfl,lo,rfl,g2,g3,g4⟩
   case step2 =>
    rintro x c st'' _ hx ⟨rfl,lo,hi,rfl,g1,g2,g3,g4,g5⟩;dsimp only;by_cases hge:lo>=hi
    ·rw[if_pos hge];have:lo=hi:=by lia
     subst this;exact jT ⟨rfl,lo,rfl,g2,g3,g4⟩
    ·rw[if_neg hge];refine jS (aFg hL hk hkey harr (i:=base+(lo+(hi - lo) / 2)) ZA ?_);dsimp only;cases hm:bey rk left key arr (base+(lo+(hi - lo) / 2)) with
     | true =>
      rw[if_pos rfl];exact jT ⟨rfl,_,hi,rfl,by lia,g2,fun i hi'=>aHd hs ZA ZA hm,g4,by lia⟩
     | false =>
      rw[if_neg ZE];exact jT ⟨rfl,lo,_,rfl,by lia,by lia,g3,fun i hi' hin=>neg hi' hin hm,by lia⟩
   case post2 =>
    rintro c st'' ⟨rfl,hi,rfl,g2,g3,g4⟩;exact jT (h hi g2 g3 g4)
 | false =>
  rw[if_neg ZE]
  refine jS (jm (jd
   (I:=fun x c st'=>st'=st/\∃la of,c=(none,la,of)/\la<=hint/\bey rk left key arr (base+(hint - la))=false/\la<of/\x+1<=of)
   (Q:=fun c st'=>st'=st/\∃la of,c=(none,la,of)/\la<=hint/\bey rk left key arr (base+(hint - la))=false/\la<of/\(hint+1<=of\/(of<=hint/\bey rk left key arr (base+(hint - of))=true))) ?step ?fin ⟨rfl,0,1,rfl,by lia,hr,by lia,by lia⟩) ?post)
  case fin =>
   rintro c st' ⟨rfl,la,of,rfl,h1,h2,h3,h4⟩;exact⟨rfl,la,of,rfl,h1,h2,h3,.inl ZA⟩
  case step =>
   rintro x c st' _ hx ⟨rfl,la,of,rfl,h1,h2,h3,h4⟩;dsimp only;by_cases ho:of>=hint+1
   ·rw[if_pos ho];exact jT ⟨rfl,la,of,rfl,h1,h2,h3,.inl ho⟩
   ·rw[if_neg ho];refine jS (aFg hL hk hkey harr (i:=base+(hint - of)) ZA ?_);dsimp only;cases hm:bey rk left key arr (base+(hint - of)) with
    | true =>
     rw[if_pos rfl];exact jT ⟨rfl,la,of,rfl,h1,h2,h3,.inr ⟨by lia,hm⟩⟩
    | false =>
     rw[if_neg ZE];exact jT ⟨rfl,of,2*of+1,rfl,by lia,hm,by lia,by lia⟩
  case post =>
   rintro c st' ⟨rfl,la,of,rfl,h1,h2,h3,h4⟩;dsimp only;have dn:∀i,i<hint+1 - min of (hint+1)->bey rk left key arr (base+i)=true:=fun i hi=>by
    rcases h4 with h4 |⟨h4,h5⟩
    ·lia
    ·exact aHd hs ZA ZA h5
   refine jS (jm (jd
    (I:=fun x c st''=>st''=st'/\∃lo hi,c=(none,lo,hi)/\lo<=hi/\hi<=n/\(∀i,i<lo->bey rk left key arr (base+i)=true)/\(∀i,hi<=i->i<n->bey rk left key arr (base+i)=false)/\hi - lo<=n - x)
    (Q:=fun c st''=>st''=st'/\∃hi,c=(none,hi,hi)/\hi<=n/\(∀i,i<hi->bey rk left key arr (base+i)=true)/\(∀i,hi<=i->i<n->bey rk left key arr (base+i)=false)) ?step2 ?fin2
    ⟨rfl,hint+1 - min of (hint+1),hint - la,rfl,by lia,by lia,dn,fun i hi hin=>neg hi hin h2,by lia⟩) ?post2)
   case fin2 =>
    rintro c st'' ⟨rfl,lo,hi,rfl,g1,g2,g3,g4,g5⟩;have:lo=hi:=by lia
    subst this;exact⟨rfl,lo,rfl,g2,g3,g4⟩
   case step2 =>
    rintro x c st'' _ hx ⟨rfl,lo,hi,rfl,g1,g2,g3,g4,g5⟩;dsimp only;by_cases hge:lo>=hi
    ·rw[if_pos hge];have:lo=hi:=by lia
     subst this;exact jT ⟨rfl,lo,rfl,g2,g3,g4⟩
    ·rw[if_neg hge];refine jS (aFg hL hk hkey harr (i:=base+(lo+(hi - lo) / 2)) ZA ?_);dsimp only;cases hm:bey rk left key arr (base+(lo+(hi - lo) / 2)) with
     | true =>
      rw[if_pos rfl];exact jT ⟨rfl,_,hi,rfl,by lia,g2,fun i hi'=>aHd hs ZA ZA hm,g4,by lia⟩
     | false =>
      rw[if_neg ZE];exact jT ⟨rfl,lo,_,rfl,by lia,by lia,g3,fun i hi' hin=>neg hi' hin hm,by lia⟩
   case post2 =>
    rintro c st'' ⟨rfl,hi,rfl,g2,g3,g4⟩;exact jT (h hi g2 g3 g4)
end
def aVs:Array Keyed->Array Keyed->StateT j4 Sem (Array Keyed):=sortPriv% PySem.Builtin.mergeLo
def aV3:Array Keyed->Array Keyed->StateT j4 Sem (Array Keyed):=sortPriv% PySem.Builtin.mergeHi
section
variable {rk:Keyed->Nat}{la lb o:List Keyed}{ia ib:Nat}
structure Mg (rk:Keyed->Nat) (la lb o:List Keyed) (ia ib:Nat):Prop where
 perm:o.Perm (la.take ia++lb.take ib)
 srt:o.Pairwise fun x y=>rk x<=rk y
 ua:∀x∈o,∀y∈la.drop ia,rk x<=rk y
 ub:∀x∈o,∀y∈lb.drop ib,rk x<=rk y
abbrev Up(rk:Keyed->Nat)(l:List Keyed):Prop:=l.Pairwise fun x y=>rk x<=rk y
theorem Mg.swap(h:Mg rk la lb o ia ib):Mg rk lb la o ib ia:=⟨h.perm.trans d9,h.srt,h.ub,h.ua⟩
theorem Mg.app(h:Mg rk la lb o ia ib)(sa:Up rk la)(k:Nat)(hx:∀x∈(la.drop ia).take k,∀y∈lb.drop ib,rk x<=rk y):Mg rk la lb (o++(la.drop ia).take k) (ia+k) ib:=by
 have hd:Up rk (la.drop ia):=sa.sublist (fC _ _);have hsplit:(la.drop ia).take k++(la.drop ia).drop k=la.drop ia:=dO k _;rw[<-hsplit] at hd;obtain⟨h1,h2,h3⟩:=cq.mp hd;refine⟨?_,?_,?_,?_⟩
 ·have:la.take (ia+k)=la.take ia++(la.drop ia).take k:=iX;rw[this];refine(h.perm.append_right _).trans ?_;rw[be,be];exact(d9).append_left _
 ·refine cq.mpr ⟨h.srt,h1,fun x hx y hy=>h.ua x hx y (eS hy)⟩
 ·intro x hx' y hy;have hy':y∈(la.drop ia).drop k:=by rw[gZ];exact hy
  rcases ci.mp hx' with hx' |hx'
  ·exact h.ua x hx' y (iT hy')
  ·exact h3 x hx' y hy'
 ·intro x hx' y hy;rcases ci.mp hx' with hx' |hx'
  ·exact h.ub x hx' y hy
  ·exact hx x hx' y hy
theorem Mg.done_a(h:Mg rk la lb o ia ib)(sa:Up rk la)(hb:lb.length<=ib):Up rk (o++la.drop ia)/\(o++la.drop ia).Perm (la++lb):=by refine⟨cq.mpr ⟨h.srt,sa.sublist (fC _ _),h.ua⟩,?_⟩;refine(h.perm.append_right _).trans ?_;rw[dq hb,be];refine((d9).append_left _).trans ?_;rw[<-be,dO]
end
theorem Mg.last{ia ib:Nat}(h:Mg rk la lb o ia ib)(sa:Up rk la)(sb:Up rk lb)(hx:∀x∈lb.drop ib,∀y∈la.drop ia,rk x<=rk y):Up rk (o++lb.drop ib++la.drop ia)/\(o++lb.drop ib++la.drop ia).Perm (la++lb):=by
 refine⟨cq.mpr ⟨cq.mpr ⟨h.srt,sb.sublist (fC _ _),h.ub⟩,sa.sublist (fC _ _),fun x hx' y hy=>?_⟩,?_⟩
 ·rcases ci.mp hx' with hx' |hx'
  ·exact h.ua x hx' y hy
  ·exact hx x hx' y hy
 ·refine((h.perm.append_right _).append_right _).trans ?_;rw[be (la.take ia),dO,be];refine(List.Perm.append_left _ d9).trans ?_;rw[<-be,dO]
theorem Mg.good{ia ib:Nat}(h:Mg rk la lb o ia ib)(sa:Up rk la)(sb:Up rk lb)(hx:lb.length<=ib\/la.length<=ia):Up rk (o++la.drop ia++lb.drop ib)/\(o++la.drop ia++lb.drop ib).Perm (la++lb):=by
 rcases hx with hx |hx
 ·rw[eh hx,fA];exact h.done_a sa hx
 ·rw[eh hx,fA];obtain⟨h1,h2⟩:=h.swap.done_a sb hx;exact⟨h1,h2.trans d9⟩
theorem bAd(out:Array Keyed)(x:Keyed):(out.push x).toList=out.toList ++ [x]:=by simp
theorem aVe(out a:Array Keyed)(i j:Nat):(out++a.extract i j).toList=out.toList++(a.toList.drop i).take (j - i):=by rw[eZ,fg,fD]
theorem aHi(out a:Array Keyed)(i:Nat):(out++a.extract i a.size).toList=out.toList++a.toList.drop i:=by rw[aVe,dq (by rw[d8,aw];exact a9 _)]
theorem aJb(a:Array Keyed){i:Nat}(h:i<a.size):(a.toList.drop i).take 1 = [a[i]]:=by
 have h':i<a.toList.length:=by simpa using h
 rw[cg h'];simp
section
variable {prog:jW}{w:World}{A:jY}{E:Value->jR->Prop}{s:jR}{κ:SortKind}{a₀:Array Keyed}{rk:Keyed->Nat}
abbrev setG(st:j4)(g:Nat):j4:=SortSt.mk' (jh st) (arrOf st) (jX st) g (kO st)
def Gd(rk:Keyed->Nat)(a b r:Array Keyed):Prop:=Up rk r.toList/\r.toList.Perm (a.toList++b.toList)
theorem up_ge(h:Up rk l){i:Nat}(hi:i<l.length):∀y∈l.drop i,rk l[i]<=rk y:=by
 intro y hy;rw[cg hi] at hy;have hd:Up rk (l.drop i):=h.sublist (fC _ _);rw[cg hi] at hd;rcases ae.mp hy with rfl |hy
 ·exact a9 _
 ·exact(ck.mp hd).1 y hy
theorem Mg.pushB{a b out:Array Keyed}{ia ib:Nat}(h:Mg rk a.toList b.toList out.toList ia ib)(sb:Up rk b.toList)(hb:ib<b.size)(hx:∀y∈a.toList.drop ia,rk b[ib]<=rk y):Mg rk a.toList b.toList (out.push b[ib]).toList ia (ib+1):=by have:=h.swap.app sb 1 (by rw[aJb b hb];intro x hx' y hy;rw[b8.mp hx'];exact hx y hy);rw[aJb b hb] at this;rw[bAd];exact this.swap
theorem Mg.pushA{a b out:Array Keyed}{ia ib:Nat}(h:Mg rk a.toList b.toList out.toList ia ib)(sa:Up rk a.toList)(ha:ia<a.size)(hx:∀y∈b.toList.drop ib,rk a[ia]<=rk y):Mg rk a.toList b.toList (out.push a[ia]).toList (ia+1) ib:=(Mg.pushB (a:=b) (b:=a) h.swap sa ha hx).swap
theorem Mg.appA{a b out:Array Keyed}{ia ib k:Nat}(h:Mg rk a.toList b.toList out.toList ia ib)(sa:Up rk a.toList)(hx:∀x∈(a.toList.drop ia).take k,∀y∈b.toList.drop ib,rk x<=rk y):Mg rk a.toList b.toList (out++a.extract ia (ia+k)).toList (ia+k) ib:=by rw[aVe,Nat.add_sub_cancel_left];exact h.app sa k hx
theorem Mg.appB{a b out:Array Keyed}{ia ib k:Nat}(h:Mg rk a.toList b.toList out.toList ia ib)(sb:Up rk b.toList)(hx:∀x∈(b.toList.drop ib).take k,∀y∈a.toList.drop ia,rk x<=rk y):Mg rk a.toList b.toList (out++b.extract ib (ib+k)).toList ia (ib+k):=(Mg.appA (a:=b) (b:=a) h.swap sb hx).swap
theorem aK5{ia ib:Nat}(h:Mg rk a.toList b.toList out.toList ia ib)(sa:Up rk a.toList)(sb:Up rk b.toList)(hx:b.size<=ib\/a.size<=ia):Gd rk a b (out++a.extract ia a.size++b.extract ib b.size):=by unfold Gd;rw[aHi,aHi];exact h.good sa sb (by simpa using hx)
theorem aM0{ia ib:Nat}(h:Mg rk a.toList b.toList out.toList ia ib)(sa:Up rk a.toList)(sb:Up rk b.toList)(hx:∀x∈b.toList.drop ib,∀y∈a.toList.drop ia,rk x<=rk y):Gd rk a b (out++b.extract ib b.size++a.extract ia a.size):=by unfold Gd;rw[aHi,aHi];exact h.last sa sb hx
theorem aD5{lo hi:Nat}(h:Up rk a.toList)(hh:hi<=a.size):Srt rk a lo hi:=fun i j _ hij hj=>by
 have h1:i<a.size:=by lia
 have h2:j<a.size:=by lia
 rw[aBe h1,aBe h2]
 have:=up_ge h (i:=i) (by simpa using h1) a[j] (by
  rw[fI]
  exact⟨j - i,by rw[d8,aw];lia,by rw[fV];simp;congr 1;lia⟩)
 simpa using this
theorem aS1{a:Array Keyed}{i k:Nat}{x:Keyed}(h:x∈(a.toList.drop i).take k):∃j,j<k/\∃hs:i+j<a.size,x=a[i+j]:=by obtain⟨j,hj,rfl⟩:=fI.mp h;rw[c7,d8,aw] at hj;exact⟨j,by lia,by lia,by rw[fW,fV];simp⟩
def aX9:Nat->StateT j4 Sem Unit:=sortPriv% PySem.Builtin.setMinGallop
theorem aGz{st:j4}{g:Nat}{Q:Unit->j4->Prop}(h:Q () (setG st g)):wpS ZG A E s (aX9 g) Q st:=by unfold aX9;unfold wpS;wp_delta;wp_delta;refine aIs ?_;exact lJ h
theorem aXt(hL:LtOk prog w A E s κ a₀ rk){st:j4}(hk:jh st=κ){a b:Array Keyed}(ha:∀x∈a,x∈a₀)(hb:∀x∈b,x∈a₀)(sa:Up rk a.toList)(sb:Up rk b.toList)(na:0<a.size)(nb:0<b.size)
  (hf:rk b[0]<rk a[0]) (hl:∀x∈b,rk x<rk a[a.size - 1])
  {Q:Array Keyed->j4->Prop} (h:∀r g,Gd rk a b r->Q r (setG st g)):wpS ZG A E s (aVs a b) Q st:=by
 have same:∀r,Gd rk a b r->Q r st:=fun r hr=>h r (kY st) hr;have lastA:∀ (ia ib:Nat),ia+1=a.size->∀x∈b.toList.drop ib,∀y∈a.toList.drop ia,rk x<=rk y:=fun ia ib he x hx y hy=>by
  have hi:ia<a.toList.length:=by rw[aw];lia
  have hd:a.toList.drop ia = [a[a.size - 1]]:=by rw[cg hi,eh (by rw[aw];lia)];congr 1;simp;congr 1;lia
  rw[hd] at hy;rw[b8.mp hy];exact c9 (hl x (by simpa using iT hx))
 have start:Mg rk a.toList b.toList (#[b[0]]:Array Keyed).toList 0 1:=by
  have h0:Mg rk a.toList b.toList (#[]:Array Keyed).toList 0 0:=⟨by simp,.nil,by simp,by simp⟩
  exact h0.pushB sb nb fun y hy=>ao (c9 hf) (by have:=up_ge sa (i:=0) (by simpa using na) y hy;simpa using this)
 unfold aVs;unfold wpS;wp_delta;wp_delta;refine aIs ?_;refine jS (kj (jf ⟨rfl,?_⟩))
 repeat fail
 refine jS (aBa nb ?_)
 repeat fail
 by_cases c1:1=b.size
 ·rw[if_pos (by simpa using c1)];exact jT (same _ (aK5 start sa sb (.inl ZA)))
 rw[if_neg (by simpa using c1)];by_cases c2:0+1=a.size
 ·rw[if_pos (by simpa using c2)];exact jT (same _ (aM0 start sa sb (lastA 0 1 c2)))
 rw[if_neg (by simpa using c2)];refine jS (kW ?_)
 repeat fail
 refine jS (jm (jd
  (I:=fun x c st'=>∃g out ia ib mg,st'=setG st g/\c=(none,out,ia,ib,mg)/\Mg rk a.toList b.toList out.toList ia ib/\ia+1<a.size/\ib<b.size/\x+1<=ia+ib)
  (Q:=fun c st'=>∃g r z,st'=setG st g/\c=(some r,z)/\Gd rk a b r) ?step ?fin ⟨kY st,_,0,1,_,rfl,rfl,start,by lia,by lia,by lia⟩) ?post)
 case fin =>
  intro c st' zh;refine aG9 fun zP zk=>?_;obtain⟨g,out,ia,ib,mg,rfl,rfl,h1,h2,h3,h4⟩:=zh;refine zk ?_;lia
 case post =>
  intro c st' zh;refine aG9 fun zP zk=>?_;obtain⟨g,r,z,rfl,rfl,hr⟩:=zh;refine zk ?_;exact jT (h r g hr)
 case step =>
  intro x c st' _ hx zh;refine aG9 fun zP zk=>?_;obtain⟨g,out,ia,ib,mg,rfl,rfl,h1,h2,h3,h4⟩:=zh;refine zk ?_;have geA:∀ {i:Nat} (hi:i<a.size),∀y∈a.toList.drop i,rk a[i]<=rk y:=fun {i} hi y hy=>by have:=up_ge sa (i:=i) (by simpa using hi) y hy;simpa using this
  have geB:∀ {i:Nat} (hi:i<b.size),∀y∈b.toList.drop i,rk b[i]<=rk y:=fun {i} hi y hy=>by have:=up_ge sb (i:=i) (by simpa using hi) y hy;simpa using this
  repeat fail
  dsimp (zeta:=false) (zetaHave:=false) only
  refine jS (jm (jd
   (I:=fun y c st'=>st'=setG st g/\∃out ia ib ac bc,c=(none,out,ia,ib,ac,bc)/\Mg rk a.toList b.toList out.toList ia ib/\ia+1<a.size/\ib<b.size/\x+1+y<=ia+ib)
   (Q:=fun c st'=>st'=setG st g/\((∃r z,c=(some r,z)/\Gd rk a b r)\/∃out ia ib ac bc,c=(none,out,ia,ib,ac,bc)/\Mg rk a.toList b.toList out.toList ia ib/\ia+1<a.size/\ib<b.size/\x+2<=ia+ib)) ?s1 ?f1 ⟨rfl,out,ia,ib,0,0,rfl,h1,h2,h3,by lia⟩) ?p1)
  case f1 =>
   intro c st' zh;refine aG9 fun zP zk=>?_;obtain⟨rfl,out,ia,ib,ac,bc,rfl,g1,g2,g3,g4⟩:=zh;refine zk ?_;exact⟨rfl,.inr ⟨out,ia,ib,ac,bc,rfl,g1,g2,g3,by lia⟩⟩
  case s1 =>
   intro y c st' _ hy zh;refine aG9 fun zP zk=>?_;obtain⟨rfl,out,ia,ib,ac,bc,rfl,g1,g2,g3,g4⟩:=zh;refine zk ?_;have g2':ia<a.size:=by lia
   repeat fail
   dsimp (zeta:=false) (zetaHave:=false) only;refine jS (aBa g3 ?_);refine jS (aBa g2' ?_);refine jS (hL _ _ _ _ hk (hb _ (bv _)) (ha _ (bv _)) ?_);dsimp (zeta:=false) (zetaHave:=false) only;by_cases hw:rk b[ib]<rk a[ia]
   ·rw[if_pos (by simpa using hw)];refine jS (aBa g3 ?_)
    repeat fail
    have m1:=g1.pushB sb g3 fun y hy=>ao (c9 hw) (geA g2' y hy);by_cases c:ib+1=b.size
    ·rw[if_pos (by simpa using c)];exact jT ⟨rfl,.inl ⟨_,_,rfl,aK5 m1 sa sb (.inl ZA)⟩⟩
    ·rw[if_neg (by simpa using c)];split
     ·exact jT ⟨rfl,.inr ⟨_,_,_,_,_,rfl,m1,g2,by lia,by lia⟩⟩
     ·exact jT ⟨rfl,_,_,_,_,_,rfl,m1,g2,by lia,by lia⟩
   ·rw[if_neg (by simpa using hw)];refine jS (aBa g2' ?_)
    repeat fail
    have m1:=g1.pushA sa g2' fun y hy=>ao ZA (geB g3 y hy);by_cases c:ia+1+1=a.size
    ·rw[if_pos (by simpa using c)];exact jT ⟨rfl,.inl ⟨_,_,rfl,aM0 m1 sa sb (lastA _ _ c)⟩⟩
    ·rw[if_neg (by simpa using c)];split
     ·exact jT ⟨rfl,.inr ⟨_,_,_,_,_,rfl,m1,by lia,g3,by lia⟩⟩
     ·exact jT ⟨rfl,_,_,_,_,_,rfl,m1,by lia,g3,by lia⟩
  case p1 =>
   rintro c st' ⟨rfl,⟨r,z,rfl,hr⟩ |⟨out,ia,ib,ac,bc,rfl,g1,g2,g3,g4⟩⟩
   ·repeat fail
    exact jT ⟨g,r,_,rfl,rfl,hr⟩
   ·repeat fail
    dsimp (zeta:=false) (zetaHave:=false) only;refine jS (kj (jf ⟨rfl,?_⟩))
    repeat fail
    refine jS (jm (jd
     (I:=fun y c st'=>∃g out ia ib mg ac bc,st'=setG st g/\c=(none,out,ia,ib,mg,ac,bc)/\Mg rk a.toList b.toList out.toList ia ib/\ia+1<a.size/\ib<b.size/\x+2<=ia+ib)
     (Q:=fun c st'=>∃g,st'=setG st g/\((∃r z,c=(some r,z)/\Gd rk a b r)\/∃out ia ib mg ac bc,c=(none,out,ia,ib,mg,ac,bc)/\Mg rk a.toList b.toList out.toList ia ib/\ia+1<a.size/\ib<b.size/\x+2<=ia+ib)) ?s2 ?f2 ⟨g,out,ia,ib,_,ac,bc,rfl,rfl,g1,g2,g3,g4⟩) ?p2)
    case f2 =>
     intro c st' zh;refine aG9 fun zP zk=>?_;obtain⟨g,out,ia,ib,mg,ac,bc,rfl,rfl,g1,g2,g3,g4⟩:=zh;refine zk ?_;exact⟨g,rfl,.inr ⟨out,ia,ib,mg,ac,bc,rfl,g1,g2,g3,g4⟩⟩
    case p2 =>
     rintro c st' ⟨g,rfl,⟨r,z,rfl,hr⟩ |⟨out,ia,ib,mg,ac,bc,rfl,g1,g2,g3,g4⟩⟩
     ·repeat fail
      exact jT ⟨g,r,_,rfl,rfl,hr⟩
     ·repeat fail
      dsimp (zeta:=false) (zetaHave:=false) only
      repeat fail
      refine jS (aGz ?_);exact jT ⟨mg+1,out,ia,ib,mg+1,rfl,rfl,g1,g2,g3,by lia⟩
    case s2 =>
     intro y c st' _ hy zh;refine aG9 fun zP zk=>?_;obtain⟨g,out,ia,ib,mg,ac,bc,rfl,rfl,g1,g2,g3,g4⟩:=zh;refine zk ?_;have g2':ia<a.size:=by lia
     fail;fail;fail;fail;fail;fail;fail;fail;fail;fail;fail
     dsimp (zeta:=false) (zetaHave:=false) only;refine aK7 ?_;intro Q' hQ';extract_lets +onlyGivenNames -underBinder jpv;clear_value (hjpv:jpv=_);revert jpv;refine via (P:=fun jp=>∀u m,wpS ZG A E s (jp u m) Q' (setG st g)) ?j0 ?k0
     case k0 =>
      subst hQ';intro jp hj;split
      ·fail;exact hj _ _
      ·exact hj _ _
     case j0 =>
      subst hQ';intro u mg';refine jS (aGz ?_);refine jS (aBa g3 ?_);refine jS (aEh (st:=setG st mg') (arr:=a) (base:=ia) (n:=a.size - ia) hL hk (hb _ (bv _)) ha ZA ZA (aD5 sa ZA) fun k hk1 hk2 hk3=>?_);dsimp (zeta:=false) (zetaHave:=false) only;have lo:∀x∈(a.toList.drop ia).take k,∀y∈b.toList.drop ib,rk x<=rk y:=fun x hx y hy=>by obtain⟨j,hj,hs,rfl⟩:=aS1 hx;have:=hk2 j hj;unfold bey at this;rw[aBe hs] at this;simp at this;exact ao this (geB g3 y hy)
      have hi:∀ (hs:ia+k<a.size),rk b[ib]<rk a[ia+k]:=fun hs=>by have:=hk3 k (a9 _) ZA;unfold bey at this;rw[aBe hs] at this;simpa using this
      fail
      refine aK7 ?_;intro Q' hQ';extract_lets +onlyGivenNames -underBinder jpv;clear_value (hjpv:jpv=_);revert jpv;refine via (P:=fun jp=>∀u (out':Array Keyed) (ia':Nat),Mg rk a.toList b.toList out'.toList ia' ib->(hlt:ia'+1<a.size)->rk b[ib]<rk (a[ia']' ZA)->ia<=ia'->wpS ZG A E s (jp u out' ia') Q' (setG st mg')) ?j1 ?k1
      case k1 =>
       subst hQ';intro jp hj;split
       ·fail;fail
        have m1:=g1.appA sa lo;by_cases c:ia+k+1=a.size
        ·rw[if_pos (by simpa using c)];exact jT ⟨mg',rfl,.inl ⟨_,_,rfl,aM0 m1 sa sb (lastA _ _ c)⟩⟩
        ·rw[if_neg (by simpa using c)];by_cases c':ia+k=a.size
         ·rw[if_pos (by simpa using c')];exact jT ⟨mg',rfl,.inl ⟨_,_,rfl,aK5 m1 sa sb (.inr ZA)⟩⟩
         ·rw[if_neg (by simpa using c')];exact hj _ _ _ m1 ZA (hi ZA) ZA
       ·have:k=0:=by lia
        subst this;exact hj _ _ _ g1 g2 (hi g2') (a9 _)
      case j1 =>
       subst hQ';intro u out' ia' n1 n2 n3 n4;have n2':ia'<a.size:=by lia
       refine jS (aBa g3 ?_)
       fail;fail
       have m1:=n1.pushB sb g3 fun y hy=>ao (c9 n3) (geA n2' y hy);by_cases c:ib+1=b.size
       ·rw[if_pos (by simpa using c)];exact jT ⟨mg',rfl,.inl ⟨_,_,rfl,aK5 m1 sa sb (.inl ZA)⟩⟩
       ·rw[if_neg (by simpa using c)];refine jS (aBa n2' ?_);refine jS (aEh (st:=setG st mg') (arr:=b) (base:=ib+1) (n:=b.size - (ib+1)) hL hk (ha _ (bv _)) hb ZA ZA (aD5 sb ZA) fun k2 hq1 hq2 hq3=>?_);dsimp (zeta:=false) (zetaHave:=false) only;have lo2:∀x∈(b.toList.drop (ib+1)).take k2,∀y∈a.toList.drop ia',rk x<=rk y:=fun x hx y hy=>by obtain⟨j,hj,hs,rfl⟩:=aS1 hx;have:=hq2 j hj;unfold bey at this;rw[aBe hs] at this;simp at this;exact ao (c9 this) (geA n2' y hy)
        have hi2:∀ (hs:ib+1+k2<b.size),rk a[ia']<=rk b[ib+1+k2]:=fun hs=>by have:=hq3 k2 (a9 _) ZA;unfold bey at this;rw[aBe hs] at this;simpa using this
        fail
        refine aK7 ?_;intro Q' hQ';extract_lets +onlyGivenNames -underBinder jpv;clear_value (hjpv:jpv=_);revert jpv;refine via (P:=fun jp=>∀u (out'':Array Keyed) (ib':Nat),Mg rk a.toList b.toList out''.toList ia' ib'->(hlt:ib'<b.size)->rk a[ia']<=rk b[ib']->ib+1<=ib'->wpS ZG A E s (jp u out'' ib') Q' (setG st mg')) ?j2 ?k2
        case k2 =>
         subst hQ';intro jp hj;split
         ·fail;fail
          have m2:=m1.appB sb lo2;by_cases c':ib+1+k2=b.size
          ·rw[if_pos (by simpa using c')];exact jT ⟨mg',rfl,.inl ⟨_,_,rfl,aK5 m2 sa sb (.inl ZA)⟩⟩
          ·rw[if_neg (by simpa using c')];exact hj _ _ _ m2 ZA (hi2 ZA) ZA
         ·have:k2=0:=by lia
          subst this;exact hj _ _ _ m1 ZA (hi2 ZA) (a9 _)
        case j2 =>
         subst hQ';intro u out'' ib' p1 p2 p3 p4;refine jS (aBa n2' ?_)
         fail;fail
         have m3:=p1.pushA sa n2' fun y hy=>ao p3 (geB p2 y hy);by_cases c':ia'+1+1=a.size
         ·rw[if_pos (by simpa using c')];exact jT ⟨mg',rfl,.inl ⟨_,_,rfl,aM0 m3 sa sb (lastA _ _ c')⟩⟩
         ·rw[if_neg (by simpa using c')];split
          ·exact jT ⟨mg',rfl,.inr ⟨_,_,_,_,_,_,rfl,m3,by lia,p2,by lia⟩⟩
          ·exact jT ⟨mg',_,_,_,_,_,_,rfl,rfl,m3,by lia,p2,by lia⟩
end
section
variable {rk:Keyed->Nat}{la lb R:List Keyed}{na nb:Nat}
structure Mh (rk:Keyed->Nat) (la lb R:List Keyed) (na nb:Nat):Prop where
 perm:R.Perm (la.drop na++lb.drop nb)
 srt:Up rk R
 ua:∀x∈la.take na,∀y∈R,rk x<=rk y
 ub:∀x∈lb.take nb,∀y∈R,rk x<=rk y
theorem Mh.swap(h:Mh rk la lb R na nb):Mh rk lb la R nb na:=⟨h.perm.trans d9,h.srt,h.ub,h.ua⟩
theorem Mh.app(h:Mh rk la lb R na nb)(sa:Up rk la)(m:Nat)(hm:m<=na)(hx:∀x∈(la.drop m).take (na - m),∀y∈lb.take nb,rk y<=rk x):Mh rk la lb ((la.drop m).take (na - m)++R) m nb:=by
 have hd:la.drop m=(la.drop m).take (na - m)++la.drop na:=by
  have:(la.drop m).drop (na - m)=la.drop na:=by rw[gZ];congr 1;lia
  rw[<-this,dO]
 have ht:la.take na=la.take m++(la.drop m).take (na - m):=by have:=iX (l:=la) (i:=m) (j:=na - m);rw[show m+(na - m)=na by lia] at this;exact this
 have st:Up rk (la.take na):=sa.sublist (fS _ _);rw[ht] at st;obtain⟨s1,s2,s3⟩:=cq.mp st;refine⟨?_,?_,?_,?_⟩
 ·refine(h.perm.append_left _).trans ?_;rw[<-be,<-hd]
 ·exact cq.mpr ⟨s2,h.srt,fun x hx' y hy=>h.ua x (by rw[ht];exact cf _ hx') y hy⟩
 ·intro x hx' y hy;rcases ci.mp hy with hy |hy
  ·exact s3 x hx' y hy
  ·exact h.ua x (by rw[ht];exact eQ _ hx') y hy
 ·intro x hx' y hy;rcases ci.mp hy with hy |hy
  ·exact hx y hy x hx'
  ·exact h.ub x hx' y hy
theorem Mh.fin(h:Mh rk la lb R na nb)(sa:Up rk la)(sb:Up rk lb)(hx:∀x∈la.take na,∀y∈lb.take nb,rk x<=rk y):Up rk (la.take na++lb.take nb++R)/\(la.take na++lb.take nb++R).Perm (la++lb):=by
 refine⟨cq.mpr ⟨cq.mpr ⟨sa.sublist (fS _ _),sb.sublist (fS _ _),hx⟩,h.srt,fun x hx' y hy=>?_⟩,?_⟩
 ·rcases ci.mp hx' with hx' |hx'
  ·exact h.ua x hx' y hy
  ·exact h.ub x hx' y hy
 ·refine(h.perm.append_left _).trans ?_;have p:(la.take na++lb.take nb++(la.drop na++lb.drop nb)).Perm (la.take na++la.drop na++(lb.take nb++lb.drop nb)):=by rw[be,be];refine List.Perm.append_left _ ?_;rw[<-be,<-be];exact d9.append_right _
  rw[dO,dO] at p;exact p
end
section
variable {prog:jW}{w:World}{A:jY}{E:Value->jR->Prop}{s:jR}{κ:SortKind}{a₀:Array Keyed}{rk:Keyed->Nat}
theorem aEa(a:Array Keyed)(m n:Nat):(a.extract m n).toList=(a.toList.drop m).take (n - m):=by rw[fg,fD]
theorem rev_push(out:Array Keyed)(x:Keyed):(out.push x).toList.reverse = [x]++out.toList.reverse:=by simp
theorem rev_app(out c:Array Keyed):(out++c.reverse).toList.reverse=c.toList++out.toList.reverse:=by simp
theorem aHc(a:Array Keyed)(n:Nat):(a.extract 0 n).toList=a.toList.take n:=by rw[aEa];simp
theorem Mh.pushA{a b out:Array Keyed}{na nb:Nat}(h:Mh rk a.toList b.toList out.toList.reverse na nb)(sa:Up rk a.toList)(h0:0<na)(ha:na - 1<a.size)(hx:∀y∈b.toList.take nb,rk y<=rk a[na - 1]):Mh rk a.toList b.toList (out.push a[na - 1]).toList.reverse (na - 1) nb:=by
 have e:(a.toList.drop (na - 1)).take (na - (na - 1)) = [a[na - 1]]:=by rw[show na - (na - 1)=1 by lia,aJb a ha]
 have:=h.app sa (na - 1) ZA (by rw[e];intro x hx' y hy;rw[b8.mp hx'];exact hx y hy);rw[e] at this;rw[rev_push];exact this
theorem Mh.pushB{a b out:Array Keyed}{na nb:Nat}(h:Mh rk a.toList b.toList out.toList.reverse na nb)(sb:Up rk b.toList)(h0:0<nb)(hb:nb - 1<b.size)(hx:∀y∈a.toList.take na,rk y<=rk b[nb - 1]):Mh rk a.toList b.toList (out.push b[nb - 1]).toList.reverse na (nb - 1):=(Mh.pushA (a:=b) (b:=a) h.swap sb h0 hb hx).swap
theorem Mh.appA{a b out:Array Keyed}{na nb m:Nat}(h:Mh rk a.toList b.toList out.toList.reverse na nb)(sa:Up rk a.toList)(hm:m<=na)(hx:∀x∈(a.toList.drop m).take (na - m),∀y∈b.toList.take nb,rk y<=rk x):Mh rk a.toList b.toList (out++(a.extract m na).reverse).toList.reverse m nb:=by rw[rev_app,aEa];exact h.app sa m hm hx
theorem Mh.appB{a b out:Array Keyed}{na nb m:Nat}(h:Mh rk a.toList b.toList out.toList.reverse na nb)(sb:Up rk b.toList)(hm:m<=nb)(hx:∀x∈(b.toList.drop m).take (nb - m),∀y∈a.toList.take na,rk y<=rk x):Mh rk a.toList b.toList (out++(b.extract m nb).reverse).toList.reverse na m:=(Mh.appA (a:=b) (b:=a) h.swap sb hm hx).swap
theorem aHe{a b out:Array Keyed}{na nb:Nat}(h:Mh rk a.toList b.toList out.toList.reverse na nb)(sa:Up rk a.toList)(sb:Up rk b.toList)(hx:na=0\/nb=0):Gd rk a b (a.extract 0 na++b.extract 0 nb++out.reverse):=by
 unfold Gd;rw[eZ,eZ,aHc,aHc,iU];refine h.fin sa sb ?_;rcases hx with rfl |rfl
 ·intro x hx;simp at hx
 ·intro x _ y hy;simp at hy
theorem aGu{a b out:Array Keyed}{na nb:Nat}(h:Mh rk a.toList b.toList out.toList.reverse na nb)(sa:Up rk a.toList)(sb:Up rk b.toList)(hx:∀x∈b.toList.take nb,∀y∈a.toList.take na,rk x<=rk y):Gd rk a b (b.extract 0 nb++a.extract 0 na++out.reverse):=by unfold Gd;rw[eZ,eZ,aHc,aHc,iU];obtain⟨h1,h2⟩:=h.swap.fin sb sa hx;exact⟨h1,h2.trans d9⟩
theorem up_le{a:Array Keyed}(h:Up rk a.toList){n:Nat}(h0:0<n)(hn:n - 1<a.size):∀y∈a.toList.take n,rk y<=rk a[n - 1]:=by intro y hy;obtain⟨j,hj,rfl⟩:=fI.mp hy;rw[c7,aw] at hj;rw[fW];have:=aD5 (rk:=rk) (lo:=0) (hi:=a.size) h (a9 _) j (n - 1) ZA ZA ZA;rw[aBe ZA,aBe hn] at this;simpa using this
theorem aXk(hL:LtOk prog w A E s κ a₀ rk){st:j4}(hk:jh st=κ){a b:Array Keyed}(ha:∀x∈a,x∈a₀)(hb:∀x∈b,x∈a₀)(sa:Up rk a.toList)(sb:Up rk b.toList)(na0:0<a.size)(nb0:0<b.size)
  (hf:∀x∈a,rk b[0]<rk x) (hl:∀x∈b,rk x<rk a[a.size - 1])
  {Q:Array Keyed->j4->Prop} (h:∀r g,Gd rk a b r->Q r (setG st g)):wpS ZG A E s (aV3 a b) Q st:=by
 have same:∀r,Gd rk a b r->Q r st:=fun r hr=>h r (kY st) hr;have firstB:∀na,∀x∈b.toList.take 1,∀y∈a.toList.take na,rk x<=rk y:=fun na x hx y hy=>by
  have hx:x=b[0]:=by have:=aJb b nb0;rw[gB] at this;rw[this] at hx;exact b8.mp hx
  rw[hx];exact c9 (hf y (by simpa using eS hy))
 have start:Mh rk a.toList b.toList (#[a[a.size - 1]]:Array Keyed).toList.reverse (a.size - 1) b.size:=by
  have h0:Mh rk a.toList b.toList (#[]:Array Keyed).toList.reverse a.size b.size:=⟨by simp,by simp,by simp,by simp⟩
  exact h0.pushA sa na0 ZA fun y hy=>c9 (hl y (by simpa using eS hy))
 have leA:∀ {n:Nat} (h0:0<n) (hn:n - 1<a.size),∀y∈a.toList.take n,rk y<=rk a[n - 1]:=fun {n} h0 hn=>up_le sa h0 hn;have leB:∀ {n:Nat} (h0:0<n) (hn:n - 1<b.size),∀y∈b.toList.take n,rk y<=rk b[n - 1]:=fun {n} h0 hn=>up_le sb h0 hn;unfold aV3;unfold wpS;wp_delta;wp_delta;refine aIs ?_;refine jS (kj (jf ⟨rfl,?_⟩))
 repeat fail
 refine jS (aBa (i:=a.size - 1) ZA ?_)
 repeat fail
 by_cases c1:a.size - 1=0
 ·rw[if_pos (by simpa using c1)];exact jT (same _ (aHe start sa sb (.inl c1)))
 rw[if_neg (by simpa using c1)];by_cases c2:b.size=1
 ·rw[if_pos (by simpa using c2)];exact jT (same _ (aGu start sa sb (by rw[c2];exact firstB _)))
 rw[if_neg (by simpa using c2)];refine jS (kW ?_)
 repeat fail
 refine jS (jm (jd
  (I:=fun x c st'=>∃g na nb out mg,st'=setG st g/\c=(none,na,nb,out,mg)/\Mh rk a.toList b.toList out.toList.reverse na nb/\0<na/\na<=a.size/\1<nb/\nb<=b.size/\x+1+na+nb<=a.size+b.size)
  (Q:=fun c st'=>∃g r z,st'=setG st g/\c=(some r,z)/\Gd rk a b r) ?step ?fin ⟨kY st,a.size - 1,b.size,_,_,rfl,rfl,start,by lia,by lia,by lia,by lia,by lia⟩) ?post)
 case fin =>
  intro c st' zh;refine aG9 fun zP zk=>?_;obtain⟨g,na,nb,out,mg,rfl,rfl,h1,h2,h3,h4,h5,h6⟩:=zh;refine zk ?_;lia
 case post =>
  intro c st' zh;refine aG9 fun zP zk=>?_;obtain⟨g,r,z,rfl,rfl,hr⟩:=zh;refine zk ?_;exact jT (h r g hr)
 case step =>
  intro x c st' _ hx zh;refine aG9 fun zP zk=>?_;obtain⟨g,na,nb,out,mg,rfl,rfl,h1,h2,h3,h4,h5,h6⟩:=zh;refine zk ?_
  repeat fail
  dsimp (zeta:=false) (zetaHave:=false) only
  refine jS (jm (jd
   (I:=fun y c st'=>st'=setG st g/\∃na nb out ac bc,c=(none,na,nb,out,ac,bc)/\Mh rk a.toList b.toList out.toList.reverse na nb/\0<na/\na<=a.size/\1<nb/\nb<=b.size/\x+1+y+na+nb<=a.size+b.size)
   (Q:=fun c st'=>st'=setG st g/\((∃r z,c=(some r,z)/\Gd rk a b r)\/∃na nb out ac bc,c=(none,na,nb,out,ac,bc)/\Mh rk a.toList b.toList out.toList.reverse na nb/\0<na/\na<=a.size/\1<nb/\nb<=b.size/\x+2+na+nb<=a.size+b.size)) ?s1 ?f1 ⟨rfl,na,nb,out,0,0,rfl,h1,h2,h3,h4,h5,by lia⟩) ?p1)
  case f1 =>
   intro c st' zh;refine aG9 fun zP zk=>?_;obtain⟨rfl,na,nb,out,ac,bc,rfl,g1,g2,g3,g4,g5,g6⟩:=zh;refine zk ?_;exact⟨rfl,.inr ⟨na,nb,out,ac,bc,rfl,g1,g2,g3,g4,g5,by lia⟩⟩
  case s1 =>
   intro y c st' _ hy zh;refine aG9 fun zP zk=>?_;obtain⟨rfl,na,nb,out,ac,bc,rfl,g1,g2,g3,g4,g5,g6⟩:=zh;refine zk ?_;have ga:na - 1<a.size:=by lia
   have gb:nb - 1<b.size:=by lia
   repeat fail
   dsimp (zeta:=false) (zetaHave:=false) only;refine jS (aBa gb ?_);refine jS (aBa ga ?_);refine jS (hL _ _ _ _ hk (hb _ (bv _)) (ha _ (bv _)) ?_);dsimp (zeta:=false) (zetaHave:=false) only;by_cases hw:rk b[nb - 1]<rk a[na - 1]
   ·rw[if_pos (by simpa using hw)]
    repeat fail
    refine jS (aBa ga ?_)
    repeat fail
    have m1:=g1.pushA sa g2 ga fun y hy=>ao (leB ZA gb y hy) (c9 hw);by_cases c:na - 1=0
    ·rw[if_pos (by simpa using c)];exact jT ⟨rfl,.inl ⟨_,_,rfl,aHe m1 sa sb (.inl c)⟩⟩
    ·rw[if_neg (by simpa using c)];split
     ·exact jT ⟨rfl,.inr ⟨_,_,_,_,_,rfl,m1,by lia,by lia,g4,g5,by lia⟩⟩
     ·exact jT ⟨rfl,_,_,_,_,_,rfl,m1,by lia,by lia,g4,g5,by lia⟩
   ·rw[if_neg (by simpa using hw)]
    repeat fail
    refine jS (aBa gb ?_)
    repeat fail
    have m1:=g1.pushB sb ZA gb fun y hy=>ao (leA g2 ga y hy) ZA;by_cases c:nb - 1=1
    ·rw[if_pos (by simpa using c)];exact jT ⟨rfl,.inl ⟨_,_,rfl,aGu m1 sa sb (by rw[c];exact firstB _)⟩⟩
    ·rw[if_neg (by simpa using c)];split
     ·exact jT ⟨rfl,.inr ⟨_,_,_,_,_,rfl,m1,g2,g3,by lia,by lia,by lia⟩⟩
     ·exact jT ⟨rfl,_,_,_,_,_,rfl,m1,g2,g3,by lia,by lia,by lia⟩
  case p1 =>
   rintro c st' ⟨rfl,⟨r,z,rfl,hr⟩ |⟨na,nb,out,ac,bc,rfl,g1,g2,g3,g4,g5,g6⟩⟩
   ·repeat fail
    exact jT ⟨g,r,_,rfl,rfl,hr⟩
   ·repeat fail
    dsimp (zeta:=false) (zetaHave:=false) only;refine jS (kj (jf ⟨rfl,?_⟩))
    repeat fail
    refine jS (jm (jd
     (I:=fun y c st'=>∃g na nb out mg ac bc,st'=setG st g/\c=(none,na,nb,out,mg,ac,bc)/\Mh rk a.toList b.toList out.toList.reverse na nb/\0<na/\na<=a.size/\1<nb/\nb<=b.size/\x+2+na+nb<=a.size+b.size)
     (Q:=fun c st'=>∃g,st'=setG st g/\((∃r z,c=(some r,z)/\Gd rk a b r)\/∃na nb out mg ac bc,c=(none,na,nb,out,mg,ac,bc)/\Mh rk a.toList b.toList out.toList.reverse na nb/\0<na/\na<=a.size/\1<nb/\nb<=b.size/\x+2+na+nb<=a.size+b.size)) ?s2 ?f2 ⟨g,na,nb,out,_,ac,bc,rfl,rfl,g1,g2,g3,g4,g5,g6⟩) ?p2)
    case f2 =>
     intro c st' zh;refine aG9 fun zP zk=>?_;obtain⟨g,na,nb,out,mg,ac,bc,rfl,rfl,g1,g2,g3,g4,g5,g6⟩:=zh;refine zk ?_;exact⟨g,rfl,.inr ⟨na,nb,out,mg,ac,bc,rfl,g1,g2,g3,g4,g5,g6⟩⟩
    case p2 =>
     rintro c st' ⟨g,rfl,⟨r,z,rfl,hr⟩ |⟨na,nb,out,mg,ac,bc,rfl,g1,g2,g3,g4,g5,g6⟩⟩
     ·repeat fail
      exact jT ⟨g,r,_,rfl,rfl,hr⟩
     ·repeat fail
      dsimp (zeta:=false) (zetaHave:=false) only
      repeat fail
      refine jS (aGz ?_);exact jT ⟨mg+1,na,nb,out,mg+1,rfl,rfl,g1,g2,g3,g4,g5,by lia⟩
    case s2 =>
     intro y c st' _ hy zh;refine aG9 fun zP zk=>?_;obtain⟨g,na,nb,out,mg,ac,bc,rfl,rfl,g1,g2,g3,g4,g5,g6⟩:=zh;refine zk ?_;have ga:na - 1<a.size:=by lia
     have gb:nb - 1<b.size:=by lia
     fail;fail;fail;fail;fail;fail;fail;fail;fail;fail;fail
     dsimp (zeta:=false) (zetaHave:=false) only;refine aK7 ?_;intro Q' hQ';extract_lets +onlyGivenNames -underBinder jpv;clear_value (hjpv:jpv=_);revert jpv;refine via (P:=fun jp=>∀u m,wpS ZG A E s (jp u m) Q' (setG st g)) ?j0 ?k0
     case k0 =>
      subst hQ';intro jp hj;split
      ·fail;exact hj _ _
      ·exact hj _ _
     case j0 =>
      subst hQ';intro u mg';refine jS (aGz ?_);refine jS (aBa gb ?_);refine jS (aEh (st:=setG st mg') (arr:=a) (base:=0) (n:=na) hL hk (hb _ (bv _)) ha ZA ZA (aD5 sa ZA) fun k hk1 hk2 hk3=>?_);dsimp (zeta:=false) (zetaHave:=false) only;have lo:∀x∈(a.toList.drop k).take (na - k),∀y∈b.toList.take nb,rk y<=rk x:=fun x hx y hy=>by obtain⟨j,hj,hs,rfl⟩:=aS1 hx;have:=hk3 (k+j) ZA ZA;unfold bey at this;rw[ez,aBe hs] at this;simp at this;exact ao (leB ZA gb y hy) (c9 this)
      have hi:∀ (h0:0<k) (hs:k - 1<a.size),rk a[k - 1]<=rk b[nb - 1]:=fun h0 hs=>by have:=hk2 (k - 1) ZA;unfold bey at this;rw[ez,aBe hs] at this;simpa using this
      fail;fail
      refine aK7 ?_;intro Q' hQ';extract_lets +onlyGivenNames -underBinder jpv;clear_value (hjpv:jpv=_);revert jpv;refine via (P:=fun jp=>∀u (na':Nat) (out':Array Keyed),Mh rk a.toList b.toList out'.toList.reverse na' nb->0<na'->(hlt:na'<=na)->rk (a[na' - 1]' ZA)<=rk b[nb - 1]->wpS ZG A E s (jp u na' out') Q' (setG st mg')) ?j1 ?k1
      case k1 =>
       subst hQ';intro jp hj;split
       ·fail;fail
        have m1:=g1.appA sa hk1 lo;by_cases c:k=0
        ·rw[if_pos (by simpa using c)];exact jT ⟨mg',rfl,.inl ⟨_,_,rfl,aHe m1 sa sb (.inl c)⟩⟩
        ·rw[if_neg (by simpa using c)];exact hj _ _ _ m1 ZA hk1 (hi ZA ZA)
       ·have:k=na:=by lia
        subst this;exact hj _ _ _ g1 g2 (a9 _) (hi g2 ga)
      case j1 =>
       subst hQ';intro u na' out' n1 n2 n3 n4;have ga':na' - 1<a.size:=by lia
       fail
       refine jS (aBa gb ?_)
       fail
       have m1:=n1.pushB sb ZA gb fun y hy=>ao (leA n2 ga' y hy) n4;by_cases c:nb - 1=1
       ·rw[if_pos (by simpa using c)];exact jT ⟨mg',rfl,.inl ⟨_,_,rfl,aGu m1 sa sb (by rw[c];exact firstB _)⟩⟩
       ·rw[if_neg (by simpa using c)];refine jS (aBa ga' ?_);refine jS (aEh (st:=setG st mg') (arr:=b) (base:=0) (n:=nb - 1) hL hk (ha _ (bv _)) hb ZA ZA (aD5 sb ZA) fun k2 hq1 hq2 hq3=>?_);dsimp (zeta:=false) (zetaHave:=false) only;have lo2:∀x∈(b.toList.drop k2).take (nb - 1 - k2),∀y∈a.toList.take na',rk y<=rk x:=fun x hx y hy=>by obtain⟨j,hj,hs,rfl⟩:=aS1 hx;have:=hq3 (k2+j) ZA ZA;unfold bey at this;rw[ez,aBe hs] at this;simp at this;exact ao (leA n2 ga' y hy) this
        have hi2:∀ (h0:0<k2) (hs:k2 - 1<b.size),rk b[k2 - 1]<rk a[na' - 1]:=fun h0 hs=>by have:=hq2 (k2 - 1) ZA;unfold bey at this;rw[ez,aBe hs] at this;simpa using this
        fail;fail
        refine aK7 ?_;intro Q' hQ';extract_lets +onlyGivenNames -underBinder jpv;clear_value (hjpv:jpv=_);revert jpv;refine via (P:=fun jp=>∀u (nb':Nat) (out'':Array Keyed),Mh rk a.toList b.toList out''.toList.reverse na' nb'->1<nb'->(hlt:nb'<=nb - 1)->rk (b[nb' - 1]' ZA)<rk a[na' - 1]->wpS ZG A E s (jp u nb' out'') Q' (setG st mg')) ?j2 ?k2
        case k2 =>
         subst hQ';intro jp hj;split
         ·fail;fail
          have m2:=m1.appB sb hq1 lo2;by_cases c':k2=1
          ·rw[if_pos (by simpa using c')];exact jT ⟨mg',rfl,.inl ⟨_,_,rfl,aGu m2 sa sb (by rw[c'];exact firstB _)⟩⟩
          ·rw[if_neg (by simpa using c')];by_cases c'':k2=0
           ·rw[if_pos (by simpa using c'')];exact jT ⟨mg',rfl,.inl ⟨_,_,rfl,aHe m2 sa sb (.inr c'')⟩⟩
           ·rw[if_neg (by simpa using c'')];exact hj _ _ _ m2 ZA hq1 (hi2 ZA ZA)
         ·have:k2=nb - 1:=by lia
          subst this;exact hj _ _ _ m1 ZA (a9 _) (hi2 ZA ZA)
        case j2 =>
         subst hQ';intro u nb' out'' p1 p2 p3 p4
         fail
         refine jS (aBa ga' ?_)
         fail
         have m3:=p1.pushA sa n2 ga' fun y hy=>ao (leB ZA ZA y hy) (c9 p4);by_cases c':na' - 1=0
         ·rw[if_pos (by simpa using c')];exact jT ⟨mg',rfl,.inl ⟨_,_,rfl,aHe m3 sa sb (.inl c')⟩⟩
         ·rw[if_neg (by simpa using c')];split
          ·exact jT ⟨mg',rfl,.inr ⟨_,_,_,_,_,_,rfl,m3,by lia,by lia,p2,by lia,by lia⟩⟩
          ·exact jT ⟨mg',_,_,_,_,_,_,rfl,rfl,m3,by lia,by lia,p2,by lia,by lia⟩
end
theorem aXo(m:List Keyed):∀ (n:Nat) (arr:Array Keyed) (lo:Nat),lo+n+m.length<=arr.size ->
  ((m.zipIdx n).foldl (fun a (p:Keyed × Nat)=>a.setIfInBounds (lo+p.2) p.1) arr).toList=arr.toList.take (lo+n)++m++arr.toList.drop (lo+n+m.length):=by
 induction m with
 |nil=>intro n arr lo h;simp
 | cons x m ih =>
  intro n arr lo h;rw[jH,cj,ih (n+1) _ lo (by rw[Array.size_setIfInBounds,aa] at *;lia)];rw[aa] at h;have hlt:lo+n<arr.toList.length:=by rw[aw];lia
  rw[gh];have e1:(arr.toList.set (lo+n) x).take (lo+(n+1))=arr.toList.take (lo+n) ++ [x]:=by rw[show lo+(n+1)=lo+n+1 by lia,jB,List.take_set_of_le (a9 _)];rw[gJ hlt];rfl
  have e2:(arr.toList.set (lo+n) x).drop (lo+(n+1)+m.length)=arr.toList.drop (lo+n+(x::m).length):=by rw[List.drop_set_of_lt ZA,aa];congr 1;lia
  rw[e1,e2];simp
def aV7:Nat->StateT j4 Sem Bool:=sortPriv% PySem.Builtin.mergeAt
section
variable {prog:jW}{w:World}{A:jY}{E:Value->jR->Prop}{s:jR}{κ:SortKind}{a₀:Array Keyed}{rk:Keyed->Nat}
abbrev aXr(st:j4)(p:Array (Nat × Nat × Nat))(xs:Array Keyed)(g:Nat):j4:=SortSt.mk' (jh st) xs p g (kO st)
structure Chg (rk:Keyed->Nat) (xs xs':Array Keyed) (lo hi:Nat):Prop where
 perm:xs'.Perm xs
 same:∀i,(i<lo\/hi<=i)->xs'[i]?=xs[i]?
 srt:Srt rk xs' lo hi
theorem aL0{lo hi i j:Nat}(h:Srt rk xs lo hi)(h1:lo<=i)(h2:j<=hi)(h3:hi<=xs.size):Up rk (xs.extract i j).toList:=by rw[aEa,Up,fE];intro p q hp hq hpq;rw[c7,d8,aw] at hp hq;rw[fW,fV,fW,fV];have:=h (i+p) (i+q) ZA ZA ZA;rw[aBe ZA,aBe ZA] at this;simpa using this
theorem aTn{xs:Array Keyed}{i j k:Nat}(h:k<(xs.extract i j).size)(h':i+k<xs.size):(xs.extract i j)[k]=xs[i+k]:=by rw[Array.getElem_extract]
theorem aHj{xs:Array Keyed}{i j:Nat}(h:j<=xs.size):(xs.extract i j).size=j - i:=by rw[Array.size_extract];lia
theorem aMh{xs:Array Keyed}{i j:Nat}{x:Keyed}(hj:j<=xs.size)(h:x∈xs.extract i j):∃k,i<=k/\k<j/\∃hs:k<xs.size,x=xs[k]:=by obtain⟨k,hk,rfl⟩:=Array.mem_iff_getElem.mp h;rw[aHj hj] at hk;exact⟨i+k,by lia,by lia,by lia,aTn _ _⟩
theorem bA4{sa na nb k k2:Nat}(hsz:sa+na+nb<=xs.size)(hk:k<na)(h0:0<k2)(hk2:k2<=nb)(s1:Srt rk xs sa (sa+na))(s2:Srt rk xs (sa+na) (sa+na+nb))
  (lo:∀p,sa<=p->p<sa+k->at_ rk xs p<=at_ rk xs (sa+na)) (up:∀p,sa+k<=p->p<sa+na->at_ rk xs (sa+na)<at_ rk xs p)
  (lo2:∀p,sa+na<=p->p<sa+na+k2->at_ rk xs p<at_ rk xs (sa+na - 1)) (up2:∀p,sa+na+k2<=p->p<sa+na+nb->at_ rk xs (sa+na - 1)<=at_ rk xs p)
  (hr:Gd rk (xs.extract (sa+k) (sa+na)) (xs.extract (sa+na) (sa+na+k2)) r) :
  Chg rk xs (List.foldl (fun a (p:Keyed × Nat)=>a.setIfInBounds (sa+k+p.2) p.1) xs r.toList.zipIdx) sa (sa+na+nb):=by
 obtain⟨hu,hp⟩:=hr;have hlen:r.toList.length=na - k+k2:=by rw[hp.length_eq,bf,aw,aw,aHj ZA,aHj ZA];lia
 have W:=aXo r.toList 0 xs (sa+k) (by rw[hlen];lia);rw[Nat.add_zero,hlen] at W;generalize hys:List.foldl (fun a (p:Keyed × Nat)=>a.setIfInBounds (sa+k+p.2) p.1) xs r.toList.zipIdx=ys at W |-;have hXY:(xs.extract (sa+k) (sa+na)).toList++(xs.extract (sa+na) (sa+na+k2)).toList=(xs.toList.drop (sa+k)).take (na - k+k2):=by
  rw[aEa,aEa,iX,gZ];congr 2
  ·lia
  ·lia
  ·congr 1;lia
 have hlt:(xs.toList.take (sa+k)).length=sa+k:=by rw[c7,aw];lia
 have g1:∀p,p<sa+k->ys[p]?=xs[p]?:=fun p h=>by rw[<-bj,W,be,eG ZA,gu h,bj]
 have g2:∀p,sa+k<=p->p<sa+na+k2->ys[p]?=r.toList[p - (sa+k)]?:=fun p h h'=>by rw[<-bj,W,be,eu ZA,hlt,eG ZA]
 have g3:∀p,sa+na+k2<=p->ys[p]?=xs[p]?:=fun p h=>by rw[<-bj,W,eu (by rw[bf];lia),bf,hlt,hlen,List.getElem?_drop,bj];congr 1;lia
 have inr:∀p,sa+k<=p->p<sa+na+k2->∃q,sa+k<=q/\q<sa+na+k2/\at_ rk ys p=at_ rk xs q:=fun p h h'=>by
  have hi:p - (sa+k)<r.toList.length:=by lia
  have hm:r.toList[p - (sa+k)]∈(xs.toList.drop (sa+k)).take (na - k+k2):=by rw[<-hXY];exact hp.mem_iff.mp (cv hi)
  obtain⟨j,hj,hs,e⟩:=aS1 hm;refine⟨sa+k+j,by lia,by lia,?_⟩;rw[aBe hs,<-e];unfold at_;rw[g2 p h h',ai hi];rfl
 have a1:∀p,p<sa+k->at_ rk ys p=at_ rk xs p:=fun p h=>by unfold at_;rw[g1 p h]
 have a3:∀p,sa+na+k2<=p->at_ rk ys p=at_ rk xs p:=fun p h=>by unfold at_;rw[g3 p h]
 refine⟨?_,fun p h=>?_,fun p q h1 h2 h3=>?_⟩
 ·rw[fh,W];have:xs.toList=xs.toList.take (sa+k)++((xs.toList.drop (sa+k)).take (na - k+k2)++xs.toList.drop (sa+k+(na - k+k2))):=by
   have e:xs.toList.drop (sa+k+(na - k+k2))=(xs.toList.drop (sa+k)).drop (na - k+k2):=by rw[gZ]
   rw[e,dO,dO]
  rw[be]
  conv=>rhs;rw[this]
  refine List.Perm.append_left _ (List.Perm.append_right _ ?_);rw[<-hXY];exact hp
 ·rcases h with h |h
  ·exact g1 p ZA
  ·exact g3 p ZA
 ·have key:∀u v,sa<=u->u<sa+na->sa+na<=v->v<sa+na+nb->(u<sa+k\/sa+na+k2<=v)->at_ rk xs u<=at_ rk xs v:=fun u v b1 b2 b3 b4 b5=>by
   rcases b5 with b5 |b5
   ·exact ao (lo u b1 b5) (s2 _ v (a9 _) b3 b4)
   ·exact ao (s1 u (sa+na - 1) b1 ZA ZA) (up2 v b5 b4)
  have cmp:∀u v,sa<=u->u<=v->v<sa+na+nb->(u<sa+k\/sa+na+k2<=v)->at_ rk xs u<=at_ rk xs v:=fun u v b1 b2 b3 b4=>by
   rcases dP v (sa+na) with c |c
   ·exact s1 u v b1 b2 c
   ·rcases dP u (sa+na) with d |d
    ·exact key u v b1 d c b3 b4
    ·exact s2 u v d b2 b3
  rcases dP p (sa+k) with c1 |c1
  ·rw[a1 p c1];rcases dP q (sa+k) with c2 |c2
   ·rw[a1 q c2];exact cmp p q h1 h2 h3 (.inl c1)
   ·rcases dP q (sa+na+k2) with c3 |c3
    ·obtain⟨q',q1,q2,e⟩:=inr q c2 c3;rw[e];exact cmp p q' h1 ZA ZA (.inl c1)
    ·rw[a3 q c3];exact cmp p q h1 h2 h3 (.inl c1)
  ·rcases dP p (sa+na+k2) with c2 |c2
   ·rcases dP q (sa+na+k2) with c3 |c3
    ·have hpl:p - (sa+k)<r.size:=by rw[<-aw];lia
     have hql:q - (sa+k)<r.size:=by rw[<-aw];lia
     have:=aD5 (rk:=rk) (lo:=0) (hi:=r.size) hu (a9 _) (p - (sa+k)) (q - (sa+k)) ZA ZA hql;unfold at_ at this |-;rw[g2 p c1 c2,g2 q ZA c3,bj,bj];exact this
    ·obtain⟨p',q1,q2,e⟩:=inr p c1 c2;rw[e,a3 q c3];exact cmp p' q ZA ZA h3 (.inr c3)
   ·rw[a3 p c2,a3 q ZA];exact cmp p q h1 h2 h3 (.inr ZA)
theorem wpS_set'{st st':j4}{Q:PUnit->j4->Prop}(h:Q ⟨⟩ st'):wpS ZG A E s (set st':StateT j4 Sem PUnit) Q st:=by unfold wpS;rw[StateT.run_set];exact jQ ⟨rfl,h⟩
theorem aW6(hL:LtOk prog w A E s κ a₀ rk){st:j4}(hk:jh st=κ)(hp:(arrOf st).Perm a₀)(hfl:kO st=none){i sa na pa nb pb:Nat}(p1:(jX st)[i]?=some (sa,na,pa))(p2:(jX st)[i+1]?=some (sa+na,nb,pb))
  (na0:0<na) (nb0:0<nb) (hsz:sa+na+nb<=(arrOf st).size) (s1:Srt rk (arrOf st) sa (sa+na)) (s2:Srt rk (arrOf st) (sa+na) (sa+na+nb))
  {Q:Bool->j4->Prop} (h:∀xs g,Chg rk (arrOf st) xs sa (sa+na+nb)->Q true (aXr st (((jX st).setIfInBounds i (sa,na+nb,pa)).eraseIdxIfInBounds (i+1)) xs g)):wpS ZG A E s (aV7 i) Q st:=by
 unfold aV7;unfold wpS;wp_delta;wp_delta;refine aIs ?_;have hmem:∀x∈arrOf st,x∈a₀:=fun x hx=>hp.mem_iff.mp hx
 have done:(∀p q,sa<=p->p<sa+na->sa+na<=q->q<sa+na+nb->at_ rk (arrOf st) p<=at_ rk (arrOf st) q)->Chg rk (arrOf st) (arrOf st) sa (sa+na+nb):=fun hx=>⟨.refl _,fun _ _=>rfl,fun p q h1 h2 h3=>by
  rcases dP q (sa+na) with c |c
  ·exact s1 p q h1 h2 c
  ·rcases dP p (sa+na) with c' |c'
   ·exact hx p q h1 c' c h3
   ·exact s2 p q c' h2 h3⟩
 have hsb:sa+na<(arrOf st).size:=by lia
 refine jS (kW ?_);rw[show (PyProof.Rows.pendingOf st)[i]?=some (sa,na,pa) from p1,show (PyProof.Rows.pendingOf st)[i+1]?=some (sa+na,nb,pb) from p2];dsimp (zeta:=false) (zetaHave:=false) only;refine jS (wpS_set' ?_);refine jS (aBa hsb ?_);refine jS (aEh (st:=aXr st (((jX st).setIfInBounds i (sa,na+nb,pa)).eraseIdxIfInBounds (i+1)) (arrOf st) (kY st)) (arr:=arrOf st) (base:=sa) (n:=na) hL hk (hmem _ (bv _)) hmem ZA na0 s1 fun k hk1 hk2 hk3=>?_);dsimp (zeta:=false) (zetaHave:=false) only;have lo:∀p,sa<=p->p<sa+k->at_ rk (arrOf st) p<=at_ rk (arrOf st) (sa+na):=fun p h1 h2=>by have:=hk2 (p - sa) ZA;unfold bey at this;rw[show sa+(p - sa)=p by lia] at this;rw[aBe hsb];simpa using this
 have up:∀p,sa+k<=p->p<sa+na->at_ rk (arrOf st) (sa+na)<at_ rk (arrOf st) p:=fun p h1 h2=>by have:=hk3 (p - sa) ZA ZA;unfold bey at this;rw[show sa+(p - sa)=p by lia] at this;rw[aBe hsb];simpa using this
 by_cases c:na - k=0
 ·rw[if_pos (by simpa using c)];refine jT (h _ (kY st) (done fun p q h1 h2 h3 h4=>ao (lo p h1 ZA) (s2 (sa+na) q (a9 _) h3 h4)))
 rw[if_neg (by simpa using c)];have hl0:sa+k+(na - k) - 1<(arrOf st).size:=by lia
 refine jS (aBa hl0 ?_);refine jS (aEh (st:=aXr st (((jX st).setIfInBounds i (sa,na+nb,pa)).eraseIdxIfInBounds (i+1)) (arrOf st) (kY st)) (arr:=arrOf st) (base:=sa+na) (n:=nb) hL hk (hmem _ (bv _)) hmem ZA ZA s2 fun k2 hq1 hq2 hq3=>?_);dsimp (zeta:=false) (zetaHave:=false) only;have eL:sa+k+(na - k) - 1=sa+na - 1:=by lia
 have lo2:∀p,sa+na<=p->p<sa+na+k2->at_ rk (arrOf st) p<at_ rk (arrOf st) (sa+na - 1):=fun p h1 h2=>by have:=hq2 (p - (sa+na)) ZA;unfold bey at this;rw[show sa+na+(p - (sa+na))=p by lia] at this;rw[<-eL,aBe hl0];simpa using this
 have up2:∀p,sa+na+k2<=p->p<sa+na+nb->at_ rk (arrOf st) (sa+na - 1)<=at_ rk (arrOf st) p:=fun p h1 h2=>by have:=hq3 (p - (sa+na)) ZA ZA;unfold bey at this;rw[show sa+na+(p - (sa+na))=p by lia] at this;rw[<-eL,aBe hl0];simpa using this
 by_cases c':k2=0
 ·rw[if_pos (by simpa using c')];refine jT (h _ (kY st) (done fun p q h1 h2 h3 h4=>ao (s1 p (sa+na - 1) h1 ZA ZA) (up2 q ZA h4)))
 rw[if_neg (by simpa using c')]
 fail;fail
 refine aK7 ?_;intro Q' hQ';extract_lets +onlyGivenNames -underBinder jpv;clear_value (hjpv:jpv=_);revert jpv;refine via (P:=fun jp=>∀ (r:Array Keyed) g,Gd rk ((arrOf st).extract (sa+k) (sa+na)) ((arrOf st).extract (sa+na) (sa+na+k2)) r->wpS ZG A E s (jp r) Q' (aXr st (((jX st).setIfInBounds i (sa,na+nb,pa)).eraseIdxIfInBounds (i+1)) (arrOf st) g)) ?j0 ?k0
 case k0 =>
  subst hQ';intro jp hj;have zX:((arrOf st).extract (sa+k) (sa+na)).size=na - k:=by rw[aHj ZA];lia
  have zY:((arrOf st).extract (sa+na) (sa+na+k2)).size=k2:=by rw[aHj ZA];lia
  have mX:∀x∈(arrOf st).extract (sa+k) (sa+na),x∈a₀:=fun x hx=>by obtain⟨p,_,_,hs,rfl⟩:=aMh ZA hx;exact hmem _ (bv _)
  have mY:∀x∈(arrOf st).extract (sa+na) (sa+na+k2),x∈a₀:=fun x hx=>by obtain⟨p,_,_,hs,rfl⟩:=aMh ZA hx;exact hmem _ (bv _)
  have uX:Up rk ((arrOf st).extract (sa+k) (sa+na)).toList:=aL0 s1 ZA ZA ZA;have uY:Up rk ((arrOf st).extract (sa+na) (sa+na+k2)).toList:=aL0 s2 ZA ZA ZA;have gY:((arrOf st).extract (sa+na) (sa+na+k2))[0]' ZA=(arrOf st)[sa+na]:=aTn _ ZA;have hF:∀x∈(arrOf st).extract (sa+k) (sa+na),rk (((arrOf st).extract (sa+na) (sa+na+k2))[0]' ZA)<rk x:=fun x hx=>by obtain⟨p,q1,q2,hs,rfl⟩:=aMh ZA hx;rw[gY];have:=up p q1 q2;rw[aBe hs,aBe hsb] at this;exact this
  have hLs:∀x∈(arrOf st).extract (sa+na) (sa+na+k2),rk x<rk (((arrOf st).extract (sa+k) (sa+na))[((arrOf st).extract (sa+k) (sa+na)).size - 1]' ZA):=fun x hx=>by
   obtain⟨p,q1,q2,hs,rfl⟩:=aMh ZA hx;rw[aTn (h':=by rw[zX];lia)];have:=lo2 p q1 q2;rw[aBe hs,aBe ZA] at this;have e:sa+k+(((arrOf st).extract (sa+k) (sa+na)).size - 1)=sa+na - 1:=by rw[zX];lia
   simp only[e];exact this
  split
  ·exact jS (aXt (st:=aXr st (((jX st).setIfInBounds i (sa,na+nb,pa)).eraseIdxIfInBounds (i+1)) (arrOf st) (kY st)) hL hk mX mY uX uY ZA ZA (hF _ (bv _)) hLs fun r g hr=>hj r g hr)
  ·exact jS (aXk (st:=aXr st (((jX st).setIfInBounds i (sa,na+nb,pa)).eraseIdxIfInBounds (i+1)) (arrOf st) (kY st)) hL hk mX mY uX uY ZA ZA hF hLs fun r g hr=>hj r g hr)
 case j0 =>
  subst hQ';intro r g hr;refine jS (lJ ?_);refine jS (kW ?_);refine jT ?_;have e:(kO st).isNone=true:=by rw[hfl];rfl
  show Q' (kO st).isNone _;rw[e];exact h _ g (bA4 hsz ZA ZA hq1 s1 s2 lo up lo2 up2 hr)
theorem aH7(hL:LtOk prog w A E s κ a₀ rk){st:j4}(hk:jh st=κ)(hm:∀x∈arrOf st,x∈a₀){i j:Nat}(hi:i<(arrOf st).size)(hj:j<(arrOf st).size){Q:Option Bool->j4->Prop}(h:Q (some (decide (at_ rk (arrOf st) i<at_ rk (arrOf st) j))) st):wpS ZG A E s (ltAt' i j) Q st:=by rw[ltAt'_eq];refine jS (kW ?_);refine jS (aBa hi (jS (aBa hj ?_)));refine hL st _ _ _ hk (hm _ (bv _)) (hm _ (bv _)) ?_;rw[aBe hi,aBe hj] at h;exact h
def binT:Nat->Nat->Nat->StateT j4 Sem Bool:=sortPriv% PySem.Builtin.binarySort
def cntT:Nat->Nat->StateT j4 Sem (Option Nat):=sortPriv% PySem.Builtin.countRun
structure Mov (xs xs':Array Keyed) (lo hi:Nat):Prop where
 perm:xs'.Perm xs
 same:∀i,(i<lo\/hi<=i)->xs'[i]?=xs[i]?
theorem Mov.refl(xs:Array Keyed)(lo hi:Nat):Mov xs xs lo hi:=⟨.refl _,fun _ _=>rfl⟩
theorem Mov.trans{lo hi:Nat}(a:Mov xs ys lo hi)(b:Mov ys zs lo hi):Mov xs zs lo hi:=⟨b.perm.trans a.perm,fun i h=>(b.same i h).trans (a.same i h)⟩
theorem Mov.size{lo hi:Nat}(a:Mov xs ys lo hi):ys.size=xs.size:=a.perm.size_eq
theorem srt_one{lo ok:Nat}(h:Srt rk xs lo (lo+ok)):Srt rk xs lo (lo+max ok 1):=fun p q b1 b2 b3=>by
 rcases dP q (lo+ok) with c |c
 ·exact h p q b1 b2 c
 ·have:p=q:=by lia
  subst this;exact a9 _
theorem bBc{src d:Nat}(hs:src<xs.size)(hd:d<=src)(p:Nat):at_ rk (bubble xs src d) p=if p=src - d then at_ rk xs src else if src - d<p/\p<=src then at_ rk xs (p - 1) else at_ rk xs p:=by
 unfold at_;rw[getElem?_bubble hs d hd p];split
 ·rfl
 ·split<;>rfl
theorem bin_ok(hL:LtOk prog w A E s κ a₀ rk){st:j4}(hk:jh st=κ)(hp:(arrOf st).Perm a₀){lo n ok:Nat}(hn:lo+n<=(arrOf st).size)(hok:ok<=n)(hs:Srt rk (arrOf st) lo (lo+ok))
  {Q:Bool->j4->Prop} (h:∀xs,Mov (arrOf st) xs lo (lo+n)->Srt rk xs lo (lo+n)->Q true (jt st xs)):wpS ZG A E s (binT lo n ok) Q st:=by
 unfold binT;unfold wpS;wp_delta;wp_delta;refine aIs ?_
 refine jS (jm (jd
  (I:=fun k c st'=>c=(none,())/\∃xs,st'=jt st xs/\Mov (arrOf st) xs lo (lo+n)/\Srt rk xs lo (lo+k)/\(k<=n\/n=0))
  (Q:=fun c st'=>c=(none,())/\∃xs,st'=jt st xs/\Mov (arrOf st) xs lo (lo+n)/\Srt rk xs lo (lo+n)) ?step ?fin ⟨rfl,arrOf st,rfl,.refl _ _ _,srt_one hs,by lia⟩) ?post)
 case fin =>
  rintro c st' ⟨rfl,xs,rfl,h1,h2,h3⟩;refine⟨rfl,xs,rfl,h1,fun p q b1 b2 b3=>h2 p q b1 b2 ZA⟩
 case post =>
  rintro c st' ⟨rfl,xs,rfl,h1,h2⟩
  repeat fail
  exact jT (h xs h1 h2)
 case step =>
  rintro k c st' hk0 hkn ⟨rfl,xs,rfl,h1,h2,h3⟩;have hsz:=h1.size;have hm:∀x∈xs,x∈a₀:=fun x hx=>(h1.perm.trans hp).mem_iff.mp hx
  repeat fail
  refine jS (jm (jd
   (I:=fun x c st'=>st'=jt st xs/\∃l r,c=(none,l,r)/\l<=r/\r<=k/\r - l<=k - x/\(∀p,p<l->at_ rk xs (lo+p)<=at_ rk xs (lo+k))/\(∀p,r<=p->p<k->at_ rk xs (lo+k)<at_ rk xs (lo+p)))
   (Q:=fun c st'=>st'=jt st xs/\∃l,c=(none,l,l)/\l<=k/\(∀p,p<l->at_ rk xs (lo+p)<=at_ rk xs (lo+k))/\(∀p,l<=p->p<k->at_ rk xs (lo+k)<at_ rk xs (lo+p))) ?s1 ?f1 ⟨rfl,0,k,rfl,by lia,by lia,by lia,fun p hp=>by lia,fun p hp hq=>by lia⟩) ?p1)
  case f1 =>
   rintro c st' ⟨rfl,l,r,rfl,g1,g2,g3,g4,g5⟩;have:l=r:=by lia
   subst this;exact⟨rfl,l,rfl,g2,g4,g5⟩
  case s1 =>
   rintro x c st' _ hx ⟨rfl,l,r,rfl,g1,g2,g3,g4,g5⟩
   repeat fail
   dsimp (zeta:=false) (zetaHave:=false) only;by_cases hlr:l>=r
   ·rw[if_pos hlr];have:l=r:=by lia
    subst this;exact jT ⟨rfl,l,rfl,g2,g4,g5⟩
   ·rw[if_neg hlr]
    repeat fail
    refine jS (aH7 (st:=jt st xs) hL hk hm (by show _<xs.size;lia) (by show _<xs.size;lia) ?_);dsimp (zeta:=false) (zetaHave:=false) only;by_cases hw:at_ rk xs (lo+k)<at_ rk xs (lo+(l+r) / 2)
    ·rw[if_pos (by simpa using hw)]
     repeat fail
     refine jT ⟨rfl,l,_,rfl,by lia,by lia,by lia,g4,fun p b1 b2=>?_⟩;exact bz hw (h2 _ _ ZA ZA ZA)
    ·rw[if_neg (by simpa using hw)]
     repeat fail
     refine jT ⟨rfl,_,r,rfl,by lia,by lia,by lia,fun p b1=>?_,g5⟩;exact ao (h2 (lo+p) (lo+(l+r) / 2) ZA ZA ZA) ZA
  case p1 =>
   rintro c st' ⟨rfl,l,rfl,g2,g4,g5⟩
   repeat fail
   dsimp (zeta:=false) (zetaHave:=false) only;refine jS ?_;refine lJ ?_;refine jT ⟨rfl,bubble xs (lo+k) (lo+k - (lo+l)),rfl,h1.trans ⟨bubble_perm _ _ _,fun p hp'=>?_⟩,fun p q b1 b2 b3=>?_,.inl ZA⟩
   ·rw[getElem?_bubble ZA _ ZA,if_neg ZA,if_neg ZA]
   ·have e:=bBc (rk:=rk) (xs:=xs) (src:=lo+k) (d:=lo+k - (lo+l)) ZA ZA;rw[e,e]
    repeat' split
    all_goals first
     |lia
     |exact a9 _
     |exact c9 (by rename_i z;exact(by have:=g5 (q - 1 - lo) ZA ZA;rw[show lo+(q - 1 - lo)=q - 1 by lia] at this;exact this))
     |(have:=g4 (p - lo) ZA;rw[show lo+(p - lo)=p by lia] at this;exact this)
     |exact h2 _ _ ZA ZA ZA
theorem aWh{st:j4}{i j:Nat}{Q:Unit->j4->Prop}(h:Q () (jt st (mirror (arrOf st) i j ((j - i) / 2)))):wpS ZG A E s (reverseSlice' i j) Q st:=by rw[reverseSlice'_eq];exact lJ h
theorem aR0{i j:Nat}(hj:j<=xs.size)(p:Nat):at_ rk (mirror xs i j ((j - i) / 2)) p=if i<=p/\p<j then at_ rk xs (i+j - 1 - p) else at_ rk xs p:=by unfold at_;rw[getElem?_mirror_all hj p];split<;>rfl
theorem aFc{i j:Nat}(hj:j<=xs.size)(he:∀p,i<=p->p<j->at_ rk xs p=at_ rk xs (j - 1))(p:Nat):at_ rk (mirror xs i j ((j - i) / 2)) p=at_ rk xs p:=by
 rw[aR0 hj];split
 ·rw[he _ ZA ZA,he p ZA ZA]
 ·rfl
theorem Mov.mirror{i j lo hi:Nat}(hj:j<=xs.size)(h1:lo<=i)(h2:j<=hi):Mov xs (mirror xs i j ((j - i) / 2)) lo hi:=⟨mirror_perm _ _ _ _,fun p hp=>by
 rw[getElem?_mirror_all hj p,if_neg ZA]⟩
def NI(rk:Keyed->Nat)(xs:Array Keyed)(lo hi:Nat):Prop:=∀p q,lo<=p->p<=q->q<hi->at_ rk xs q<=at_ rk xs p
theorem aIo(hL:LtOk prog w A E s κ a₀ rk){st:j4}(hk:jh st=κ)(hp:(arrOf st).Perm a₀){lo nrem:Nat}(hn:lo+nrem<=(arrOf st).size)(h1:1<=nrem)
  {Q:Option Nat->j4->Prop} (h:∀xs n,1<=n->n<=nrem->Mov (arrOf st) xs lo (lo+nrem)->Srt rk xs lo (lo+n)->(Srt rk (arrOf st) lo (lo+nrem)->n=nrem)->Q (some n) (jt st xs)):wpS ZG A E s (cntT lo nrem) Q st:=by
 have hm0:∀x∈arrOf st,x∈a₀:=fun x hx=>hp.mem_iff.mp hx;have hmv:∀ {xs:Array Keyed},Mov (arrOf st) xs lo (lo+nrem)->∀x∈xs,x∈a₀:=fun m x hx=>(m.perm.trans hp).mem_iff.mp hx;have b0:Srt rk (arrOf st) lo (lo+1):=fun p q b1 b2 b3=>by
  have:p=q:=by lia
  subst this;exact a9 _
 unfold cntT;unfold wpS;wp_delta;wp_delta;refine aIs ?_
 refine jS (jm (jd
  (I:=fun x c st'=>st'=st/\c=(none,x)/\1<=x/\x<=nrem/\Srt rk (arrOf st) lo (lo+x))
  (Q:=fun c st'=>st'=st/\∃n,c=(none,n)/\1<=n/\n<=nrem/\Srt rk (arrOf st) lo (lo+n)/\(n<nrem->at_ rk (arrOf st) (lo+n)<at_ rk (arrOf st) (lo+n - 1))) ?s1 ?f1 ⟨rfl,rfl,a9 _,h1,b0⟩) ?p1)
 case f1 =>
  rintro c st' ⟨rfl,rfl,g1,g2,g3⟩;exact⟨rfl,_,rfl,g1,g2,g3,fun hlt=>by lia⟩
 case s1 =>
  rintro x c st' _ hx ⟨rfl,rfl,g1,g2,g3⟩
  repeat fail
  dsimp (zeta:=false) (zetaHave:=false) only;refine jS (aH7 hL hk hm0 ZA ZA ?_);dsimp (zeta:=false) (zetaHave:=false) only;by_cases hw:at_ rk (arrOf st') (lo+x)<at_ rk (arrOf st') (lo+x - 1)
  ·rw[if_pos (by simpa using hw)];exact jT ⟨rfl,x,rfl,g1,g2,g3,fun _=>hw⟩
  ·rw[if_neg (by simpa using hw)]
   repeat fail
   refine jT ⟨rfl,rfl,by lia,by lia,fun p q b1 b2 b3=>?_⟩;rcases dP q (lo+x) with c |c
   ·exact g3 p q b1 b2 c
   ·have:q=lo+x:=by lia
    subst this;rcases dP p (lo+x) with d |d
    ·exact ao (g3 p (lo+x - 1) b1 ZA ZA) ZA
    ·have:p=lo+x:=by lia
     subst this;exact a9 _
 case p1 =>
  rintro c st' ⟨rfl,n,rfl,g1,g2,g3,g4⟩
  repeat fail
  dsimp (zeta:=false) (zetaHave:=false) only;by_cases c:n=nrem
  ·rw[if_pos (by simpa using c)];exact jT (h (arrOf st') n g1 g2 (.refl _ _ _) g3 fun _=>c)
  rw[if_neg (by simpa using c)];have g4:=g4 ZA;have no:∀ {m:Nat},Srt rk (arrOf st') lo (lo+nrem)->m=nrem:=fun z=>absurd (z (lo+n - 1) (lo+n) ZA ZA ZA) ZA;refine aK7 ?_;intro Q' hQ';extract_lets +onlyGivenNames -underBinder jpv;clear_value (hjpv:jpv=_);revert jpv;refine via (P:=fun jp=>∀u xs,Mov (arrOf st') xs lo (lo+nrem)->(∀p,lo<=p->p<lo+n->at_ rk xs p=at_ rk xs lo)->at_ rk xs (lo+n)<at_ rk xs (lo+n - 1)->wpS ZG A E s (jp u) Q' (jt st' xs)) ?j0 ?k0
  case k0 =>
   subst hQ';intro jp hj;split
   ·refine jS (aH7 hL hk hm0 ZA ZA ?_);dsimp (zeta:=false) (zetaHave:=false) only;by_cases hw:at_ rk (arrOf st') lo<at_ rk (arrOf st') (lo+n - 1)
    ·rw[if_pos (by simpa using hw)];exact jT (h (arrOf st') n g1 g2 (.refl _ _ _) g3 no)
    ·rw[if_neg (by simpa using hw)];have heq:∀p,lo<=p->p<lo+n->at_ rk (arrOf st') p=at_ rk (arrOf st') (lo+n - 1):=fun p b1 b2=>by have:=g3 lo p (a9 _) b1 b2;have:=g3 p (lo+n - 1) b1 ZA ZA;lia
     have hej:=aFc (rk:=rk) (xs:=arrOf st') (i:=lo) (j:=lo+n) ZA heq;refine jS (aWh ?_);refine hj _ _ (.mirror ZA ZA ZA) (fun p b1 b2=>?_) ?_
     ·rw[hej,hej,heq p b1 b2,heq lo ZA ZA]
     ·rw[hej,hej];exact g4
   ·have:n=1:=by lia
    subst this;refine hj _ (arrOf st') (.refl _ _ _) (fun p b1 b2=>?_) g4;have:p=lo:=by lia
    rw[this]
  case j0 =>
   subst hQ';intro u xs m1 e1 e2;refine jS (kj (jf ⟨rfl,?_⟩))
   fail;fail
   have n0:NI rk xs lo (lo+(n+1)):=fun p q b1 b2 b3=>by
    rcases dP q (lo+n) with c |c
    ·rw[e1 p b1 ZA,e1 q ZA c];exact a9 _
    ·have:q=lo+n:=by lia
     subst this;rcases dP p (lo+n) with d |d
     ·rw[e1 p b1 d];rw[e1 (lo+n - 1) ZA ZA] at e2;lia
     ·have:p=lo+n:=by lia
      subst this;exact a9 _
   refine jS (jm (jd
    (I:=fun x c st''=>∃xs neq,st''=jt st' xs/\c=(none,x,neq)/\Mov (arrOf st') xs lo (lo+nrem)/\NI rk xs lo (lo+x)/\neq+1<=x/\(∀p,lo+x - (neq+1)<=p->p<lo+x->at_ rk xs p=at_ rk xs (lo+x - 1))/\x<=nrem)
    (Q:=fun c st''=>∃xs n neq,st''=jt st' xs/\c=(none,n,neq)/\Mov (arrOf st') xs lo (lo+nrem)/\NI rk xs lo (lo+n)/\neq+1<=n/\(∀p,lo+n - (neq+1)<=p->p<lo+n->at_ rk xs p=at_ rk xs (lo+n - 1))/\n<=nrem) ?s2 ?f2 ⟨xs,0,rfl,rfl,m1,n0,by lia,fun p b1 b2=>by congr 1;lia,by lia⟩) ?p2)
   case f2 =>
    rintro c st'' ⟨xs,neq,rfl,rfl,q1,q2,q3,q4,q5⟩;exact⟨xs,_,neq,rfl,rfl,q1,q2,q3,q4,q5⟩
   case s2 =>
    rintro x c st'' hx0 hx ⟨xs,neq,rfl,rfl,q1,q2,q3,q4,q5⟩;have hz:=q1.size;have ext:∀ {ys:Array Keyed},(∀p,at_ rk ys p=at_ rk xs p)->at_ rk xs (lo+x)<=at_ rk xs (lo+x - 1)->NI rk ys lo (lo+(x+1)):=fun {ys} hy hle p q b1 b2 b3=>by
     rw[hy,hy];rcases dP q (lo+x) with c |c
     ·exact q2 p q b1 b2 c
     ·have:q=lo+x:=by lia
      subst this;rcases dP p (lo+x) with d |d
      ·exact ao hle (q2 p (lo+x - 1) b1 ZA ZA)
      ·have:p=lo+x:=by lia
       subst this;exact a9 _
    repeat fail
    dsimp (zeta:=false) (zetaHave:=false) only;refine jS (aH7 (st:=jt st' xs) hL hk (hmv q1) (by show _<xs.size;lia) (by show _<xs.size;lia) ?_);dsimp (zeta:=false) (zetaHave:=false) only
    fail
    by_cases hw:at_ rk xs (lo+x)<at_ rk xs (lo+x - 1)
    ·rw[if_pos (by simpa using hw)]
     fail
     split
     ·refine jS (aWh ?_);have hej:=aFc (rk:=rk) (xs:=xs) (i:=lo+x - (neq+1)) (j:=lo+x) ZA q4
      repeat fail
      refine jT ⟨_,0,rfl,rfl,q1.trans (.mirror ZA ZA ZA),ext hej (c9 hw),by lia,fun p b1 b2=>by congr 1;lia,by lia⟩
     ·repeat fail
      exact jT ⟨xs,0,rfl,rfl,q1,ext (fun _=>rfl) (c9 hw),by lia,fun p b1 b2=>by congr 1;lia,by lia⟩
    ·rw[if_neg (by simpa using hw)];refine jS (aH7 (st:=jt st' xs) hL hk (hmv q1) (by show _<xs.size;lia) (by show _<xs.size;lia) ?_);dsimp (zeta:=false) (zetaHave:=false) only;by_cases hw2:at_ rk xs (lo+x - 1)<at_ rk xs (lo+x)
     ·rw[if_pos (by simpa using hw2)];exact jT ⟨xs,x,neq,rfl,rfl,q1,q2,q3,q4,q5⟩
     ·rw[if_neg (by simpa using hw2)]
      repeat fail
      refine jT ⟨xs,neq+1,rfl,rfl,q1,ext (fun _=>rfl) ZA,by lia,fun p b1 b2=>?_,by lia⟩;have e:lo+(x+1) - 1=lo+x:=by lia
      rw[e];rcases dP p (lo+x) with d |d
      ·rw[q4 p ZA d];lia
      ·have:p=lo+x:=by lia
       rw[this]
   case p2 =>
    rintro c st'' ⟨xs,n',neq,rfl,rfl,q1,q2,q3,q4,q5⟩;have hz:=q1.size
    repeat fail
    dsimp (zeta:=false) (zetaHave:=false) only;refine aK7 ?_;intro Q' hQ';extract_lets +onlyGivenNames -underBinder jpv;clear_value (hjpv:jpv=_);revert jpv;refine via (P:=fun jp=>∀u xs,Mov (arrOf st') xs lo (lo+nrem)->NI rk xs lo (lo+n')->wpS ZG A E s (jp u) Q' (jt st' xs)) ?j1 ?k1
    case k1 =>
     subst hQ';intro jp hj;split
     ·refine jS (aWh ?_);have hej:=aFc (rk:=rk) (xs:=xs) (i:=lo+n' - (neq+1)) (j:=lo+n') ZA q4;exact hj _ _ (q1.trans (.mirror ZA ZA ZA)) fun p q b1 b2 b3=>by rw[hej,hej];exact q2 p q b1 b2 b3
     ·exact hj _ xs q1 q2
    case j1 =>
     subst hQ';intro u xs r1 r2;have hz:=r1.size;refine jS (aWh ?_);have hej:=aR0 (rk:=rk) (xs:=xs) (i:=lo) (j:=lo+n') ZA;have r3:Mov (arrOf st') (mirror xs lo (lo+n') ((lo+n' - lo) / 2)) lo (lo+nrem):=r1.trans (.mirror ZA ZA ZA);have r4:Srt rk (mirror xs lo (lo+n') ((lo+n' - lo) / 2)) lo (lo+n'):=fun p q b1 b2 b3=>by rw[hej,hej,if_pos ZA,if_pos ZA];exact r2 _ _ ZA ZA ZA
     show wpS _ _ _ _ _ _ (jt st' (mirror xs lo (lo+n') ((lo+n' - lo) / 2)));generalize mirror xs lo (lo+n') ((lo+n' - lo) / 2)=ys at r3 r4;have hy:=r3.size
     refine jS (jm (jd
      (I:=fun x c st''=>st''=jt st' ys/\c=(none,x)/\1<=x/\x<=nrem/\Srt rk ys lo (lo+x))
      (Q:=fun c st''=>st''=jt st' ys/\∃n,c=(none,n)/\1<=n/\n<=nrem/\Srt rk ys lo (lo+n)) ?s3 ?f3 ⟨rfl,rfl,by lia,by lia,r4⟩) ?p3)
     case f3 =>
      rintro c st'' ⟨rfl,rfl,t1,t2,t3⟩;exact⟨rfl,_,rfl,t1,t2,t3⟩
     case p3 =>
      rintro c st'' ⟨rfl,n3,rfl,t1,t2,t3⟩
      repeat fail
      exact jT (h ys n3 t1 t2 r3 t3 no)
     case s3 =>
      rintro x c st'' _ hx ⟨rfl,rfl,t1,t2,t3⟩
      repeat fail
      dsimp (zeta:=false) (zetaHave:=false) only;refine jS (aH7 (st:=jt st' ys) hL hk (hmv r3) (by show _<ys.size;lia) (by show _<ys.size;lia) ?_);dsimp (zeta:=false) (zetaHave:=false) only;by_cases hw:at_ rk ys (lo+x)<at_ rk ys (lo+x - 1)
      ·rw[if_pos (by simpa using hw)];exact jT ⟨rfl,x,rfl,t1,t2,t3⟩
      ·rw[if_neg (by simpa using hw)]
       repeat fail
       refine jT ⟨rfl,rfl,by lia,by lia,fun p q b1 b2 b3=>?_⟩;rcases dP q (lo+x) with c |c
       ·exact t3 p q b1 b2 c
       ·have:q=lo+x:=by lia
        subst this;rcases dP p (lo+x) with d |d
        ·exact ao (t3 p (lo+x - 1) b1 ZA ZA) ZA
        ·have:p=lo+x:=by lia
         subst this;exact a9 _
structure SJ (κ:SortKind) (a₀:Array Keyed) (rk:Keyed->Nat) (st:j4) (lo:Nat):Prop where
 kind:jh st=κ
 perm:(arrOf st).Perm a₀
 fine:kO st=none
 at0:lo=0->(jX st).size=0/\(a₀.size<64\/Srt rk (arrOf st) 0 a₀.size)
 few:(jX st).size<=1
 runs:lo=a₀.size->Srt rk (arrOf st) 0 a₀.size
def Runs(rk:Keyed->Nat)(xs:Array Keyed):List (Nat × Nat × Nat)->Nat->Nat->Prop
 |[],b,e=>b=e
 |(t,n,_)::r,b,e=>t=b/\0<n/\Srt rk xs b (b+n)/\Runs rk xs r (b+n) e
theorem Runs.le:∀ {l:List (Nat × Nat × Nat)} {b e:Nat},Runs rk xs l b e->b+l.length<=e
 |[],b,e,h=>by have h:b=e:=h;simp;lia
 |(t,n,q)::r,b,e,h=>by obtain⟨_,h1,_,h2⟩:=h;have:=Runs.le h2;rw[aa];lia
theorem Runs.split:∀ {l m:List (Nat × Nat × Nat)} {b e:Nat},Runs rk xs (l++m) b e->∃c,Runs rk xs l b c/\Runs rk xs m c e
 |[],m,b,e,h=>⟨b,rfl,h⟩
 |(t,n,q)::r,m,b,e,h=>by obtain⟨h0,h1,h2,h3⟩:=h;obtain⟨c,g1,g2⟩:=Runs.split h3;exact⟨c,⟨h0,h1,h2,g1⟩,g2⟩
theorem Runs.join:∀ {l m:List (Nat × Nat × Nat)} {b c e:Nat},Runs rk xs l b c->Runs rk xs m c e->Runs rk xs (l++m) b e
 |[],m,b,c,e,h,g=>by have h:b=c:=h;subst h;exact g
 |(t,n,q)::r,m,b,c,e,h,g=>by obtain⟨h0,h1,h2,h3⟩:=h;exact⟨h0,h1,h2,Runs.join h3 g⟩
theorem Runs.congr:∀ {l:List (Nat × Nat × Nat)} {b e:Nat},(∀p,b<=p->p<e->at_ rk ys p=at_ rk xs p)->Runs rk xs l b e->Runs rk ys l b e
 |[],b,e,_,h=>h
 |(t,n,q)::r,b,e,hx,h=>by obtain⟨h0,h1,h2,h3⟩:=h;have:=Runs.le h3;exact⟨h0,h1,fun p q b1 b2 b3=>by rw[hx p ZA ZA,hx q ZA ZA];exact h2 p q b1 b2 b3,Runs.congr (fun p b1 b2=>hx p ZA b2) h3⟩
structure SI (κ:SortKind) (a₀:Array Keyed) (rk:Keyed->Nat) (st:j4) (e:Nat):Prop where
 kind:jh st=κ
 perm:(arrOf st).Perm a₀
 fine:kO st=none
 runs:Runs rk (arrOf st) (jX st).toList 0 e
theorem aKm{p:Nat}(h:ys[p]?=xs[p]?):at_ rk ys p=at_ rk xs p:=by unfold at_;rw[h]
theorem aMa(hL:LtOk prog w A E s κ a₀ rk){st:j4}{e i:Nat}(hS:SI κ a₀ rk st e)(he:e<=a₀.size)(hi:i+1<(jX st).size){Q:Bool->j4->Prop}(h:∀st',SI κ a₀ rk st' e->(jX st').size+1=(jX st).size->(∀p,e<=p->(arrOf st')[p]?=(arrOf st)[p]?)->Q true st'):wpS ZG A E s (mergeAt' i) Q st:=by
 have hi':i+1<(jX st).toList.length:=by simpa using hi
 obtain⟨sa,na,pa,e1⟩:∃sa na pa,(jX st).toList[i]=(sa,na,pa):=⟨_,_,_,rfl⟩
 obtain⟨sb,nb,pb,e2⟩:∃sb nb pb,(jX st).toList[i+1]=(sb,nb,pb):=⟨_,_,_,rfl⟩
 have hl:(jX st).toList=(jX st).toList.take i++(sa,na,pa)::(sb,nb,pb)::(jX st).toList.drop (i+2):=by have d1:=cg (l:=(jX st).toList) (i:=i) ZA;have d2:=cg (l:=(jX st).toList) (i:=i+1) hi';rw[e2] at d2;rw[e1,d2] at d1;rw[<-d1,dO]
 have hr:=hS.runs;rw[hl] at hr;obtain⟨c,r1,r2⟩:=Runs.split hr;obtain⟨rfl,r3,r4,rfl,r5,r6,r7⟩:=r2;have hle:=Runs.le r7;have hsz:=hS.perm.size_eq;refine aW6 (pa:=pa) (pb:=pb) hL hS.kind hS.perm hS.fine (i:=i) (sa:=sa) (na:=na) (nb:=nb) ?_ ?_ r3 r5 ZA r4 r6 fun xs g hc=>?_
 ·rw[<-bj,ai ZA,e1]
 ·rw[<-bj,ai hi',e2]
 ·have hlen:((jX st).toList.take i).length=i:=by rw[c7];lia
  have hp:(((jX st).setIfInBounds i (sa,na+nb,pa)).eraseIdxIfInBounds (i+1)).toList=(jX st).toList.take i++(sa,na+nb,pa)::(jX st).toList.drop (i+2):=by
   rw[Array.toList_eraseIdxIfInBounds,gh]
   conv=>lhs;rw[hl]
   rw[List.set_append_right _ _ ZA,hlen,Nat.sub_self,List.eraseIdx_append_of_length_le ZA,hlen];simp
  refine h _ ⟨hS.kind,hc.perm.trans hS.perm,hS.fine,?_⟩ ?_ fun p hp'=>hc.same p (.inr ZA)
  ·show Runs rk xs (((jX st).setIfInBounds i (sa,na+nb,pa)).eraseIdxIfInBounds (i+1)).toList 0 e;rw[hp];refine Runs.join (Runs.congr (fun p b1 b2=>aKm (hc.same p ZA)) r1) ⟨rfl,by lia,by rw[<-gN];exact hc.srt,?_⟩;rw[<-gN];exact Runs.congr (fun p b1 b2=>aKm (hc.same p ZA)) r7
  ·show (((jX st).setIfInBounds i (sa,na+nb,pa)).eraseIdxIfInBounds (i+1)).size+1=_;rw[<-aw,hp,bf,aa,hlen,d8,<-aw];lia
theorem ite_lt[Decidable c]{n:Nat}(h:¬n<=1):(if c then n - 2 - 1 else n - 2)+1<n:=by split<;>(lia)
theorem aYm{st:j4}{n:Nat}(h:(arrOf st).size=n):((sortPriv% PySem.Builtin.SortState.a) st).size=n:=h
theorem aVm{pw:Nat}:∀ {l:List (Nat × Nat × Nat)} {i b e:Nat},Runs rk xs l b e->Runs rk xs (l.modify i fun x=>(x.1,x.2.1,pw)) b e
 |[],i,b,e,h=>by cases i<;>exact h
 |(t,n,q)::r,0,b,e,h=>h
 |(t,n,q)::r,i+1,b,e,h=>by obtain⟨h0,h1,h2,h3⟩:=h;exact⟨h0,h1,h2,aVm h3⟩
theorem runs_mod{xs:Array Keyed}{pw:Nat}{p:Array (Nat × Nat × Nat)}{i e:Nat}(h:Runs rk xs p.toList 0 e):Runs rk xs (p.modify i fun x=>(x.1,x.2.1,pw)).toList 0 e:=by rw[Array.toList_modify];exact aVm h
theorem aZ0(hL:LtOk prog w A E s κ a₀ rk){st:j4}(hk:jh st=κ)(hp:(arrOf st).Perm a₀)(hf:kO st=none)(hpe:jX st = #[]){Q:Unit->j4->Prop}
  (h:∀st',(arrOf st').Perm a₀->kO st'=none->Srt rk (arrOf st') 0 a₀.size->Q () st'):wpS ZG A E s sortRuns' Q st:=by
 unfold sortRuns';unfold wpS;wp_delta;wp_delta;refine aIs ?_;refine jS (kW ?_)
 fail;fail;fail
 have hsz:(arrOf st).size=a₀.size:=hp.size_eq
 refine jS (jm (jd
  (I:=fun x c st'=>∃lo,c=(none,lo)/\SI κ a₀ rk st' lo/\lo<=a₀.size/\(x<=lo\/lo=a₀.size))
  (Q:=fun c st'=>c=(none,a₀.size)/\SI κ a₀ rk st' a₀.size) ?s1 ?f1 ⟨0,rfl,⟨hk,hp,hf,by rw[hpe];rfl⟩,by (lia),by (lia)⟩) ?p1)
 case f1 =>
  rintro c st' ⟨lo,rfl,g1,g2,g3⟩;have:lo=a₀.size:=by
   rcases g3 with g3 |g3
   ·have e:(PyProof.Rows.arrOf st).size=a₀.size:=hsz;simp only[e] at g3
    (lia)
   ·exact g3
  subst this;exact⟨rfl,g1⟩
 case p1 =>
  rintro c st' ⟨rfl,g1⟩
  repeat fail
  dsimp (zeta:=false) (zetaHave:=false) only;have hle:=Runs.le g1.runs;rw[aw] at hle
  refine jS (jm (jd
   (I:=fun x c st'=>c=(none,())/\SI κ a₀ rk st' a₀.size/\(jX st').size<=max 1 (a₀.size - x))
   (Q:=fun c st'=>c=(none,())/\SI κ a₀ rk st' a₀.size/\(jX st').size<=1) ?s2 ?f2 ⟨rfl,g1,by (lia)⟩) ?p2)
  case f2 =>
   rintro c st'' ⟨rfl,q1,q2⟩;have e:(PyProof.Rows.arrOf st).size=a₀.size:=hsz;simp only[e] at q2;exact⟨rfl,q1,by (lia)⟩
  case p2 =>
   rintro c st'' ⟨rfl,q1,q2⟩
   repeat fail
   refine jT (h _ q1.perm q1.fine ?_);have hr:=q1.runs;have hl:(jX st'').toList.length<=1:=by rw[aw];exact q2
   match hm:(jX st'').toList,hl with
   | [],_ =>
    rw[hm] at hr;have hr:0=a₀.size:=hr;intro p q b1 b2 b3;(lia)
   | [(t,n,pw)],_ =>
    rw[hm] at hr;obtain⟨_,_,r2,r3⟩:=hr;have r3:0+n=a₀.size:=r3;rw[r3] at r2;exact r2
  case s2 =>
   rintro x c st'' _ hx ⟨rfl,q1,q2⟩;refine jS (kW ?_)
   fail
   by_cases c:(jX st'').size<=1
   ·rw[if_pos c];exact jT ⟨rfl,q1,c⟩
   ·rw[if_neg c]
    fail;fail;fail
    refine jS (aMa hL q1 (a9 _) (ite_lt c) fun st3 t1 t2 _=>?_);rw[if_neg ZE];exact jT ⟨rfl,t1,by (lia)⟩
 case s1 =>
  rintro x c st' _ hx ⟨lo,rfl,g1,g2,g3⟩;have hz':(arrOf st').size=a₀.size:=g1.perm.size_eq
  repeat fail
  dsimp (zeta:=false) (zetaHave:=false) only;have e:(PyProof.Rows.arrOf st).size=a₀.size:=hsz;have e':=aYm hsz;by_cases c:lo>=a₀.size
  ·rw[if_pos (by rw[<-e] at c;exact c)];have:lo=a₀.size:=by (lia)
   subst this;exact jT ⟨rfl,g1⟩
  rw[if_neg (by rw[<-e] at c;exact c)];refine jS (aIo (st:=st') hL g1.kind g1.perm (lo:=lo) (nrem:=(PyProof.Rows.arrOf st).size - lo) (by (lia)) (by (lia)) fun xs n n1 n2 m1 s1 _=>?_);rw[e] at n2 m1;rw[show lo+(a₀.size - lo)=a₀.size by (lia)] at m1;dsimp (zeta:=false) (zetaHave:=false) only
  fail
  refine aK7 ?_;intro Q' hQ';extract_lets +onlyGivenNames -underBinder jpv;clear_value (hjpv:jpv=_);revert jpv;refine via (P:=fun jp=>∀u n xs,1<=n->lo+n<=a₀.size->Mov (arrOf st') xs lo a₀.size->Srt rk xs lo (lo+n)->wpS ZG A E s (jp u n) Q' (jt st' xs)) ?j0 ?k0
  case k0 =>
   subst hQ';intro jp hj;split
   ·rename_i hmin;refine jS (kj (jf ⟨rfl,?_⟩))
    fail
    refine jS (bin_ok (st:=jt st' xs) hL g1.kind (m1.perm.trans g1.perm) (by show _<=xs.size;rw[m1.size];have:=e';(lia)) (by have:=e';(lia)) s1 fun ys m2 s2=>?_);rw[if_neg ZE]
    fail
    refine hj _ _ ys (by have:=e';(lia)) (by have:=e';(lia)) (m1.trans ⟨m2.perm,fun p hp'=>m2.same p (by have:=e';(lia))⟩) s2
   ·exact hj _ _ xs n1 (by (lia)) m1 s1
  case j0 =>
   subst hQ';intro u n xs n1 n2 m1 s1;refine jS (kW ?_);refine aK7 ?_;intro Q' hQ';extract_lets +onlyGivenNames -underBinder jpv;clear_value (hjpv:jpv=_);revert jpv;refine via (P:=fun jp=>∀u st2,SI κ a₀ rk st2 lo->Srt rk (arrOf st2) lo (lo+n)->wpS ZG A E s (jp u) Q' st2) ?j1 ?k1
   case j1 =>
    subst hQ';intro u st2 q1 q2;refine jS (lJ ?_)
    fail
    refine jT ⟨lo+n,rfl,⟨q1.kind,q1.perm,q1.fine,?_⟩,n2,by (lia)⟩;show Runs rk (arrOf st2) ((jX st2).push (lo,n,0)).toList 0 (lo+n);rw[gE];exact Runs.join q1.runs ⟨rfl,by (lia),q2,rfl⟩
   case k1 =>
    subst hQ';intro jp hj;have S0:SI κ a₀ rk (jt st' xs) lo:=⟨g1.kind,m1.perm.trans g1.perm,g1.fine,Runs.congr (fun p b1 b2=>aKm (m1.same p (.inl b2))) g1.runs⟩
    split
    ·fail
     refine jS (jm (jd
      (I:=fun _ c st2=>c=(none,())/\SI κ a₀ rk st2 lo/\Srt rk (arrOf st2) lo (lo+n))
      (Q:=fun c st2=>c=(none,())/\SI κ a₀ rk st2 lo/\Srt rk (arrOf st2) lo (lo+n)) ?s3 ?f3 ⟨rfl,S0,s1⟩) ?p3)
     case f3=>exact fun c st2 z=>z
     case p3 =>
      rintro c st2 ⟨rfl,q1,q2⟩
      repeat fail
      dsimp (zeta:=false) (zetaHave:=false) only;refine jS (lJ ?_);refine hj _ _ ⟨q1.kind,q1.perm,q1.fine,?_⟩ q2;exact runs_mod q1.runs
     case s3 =>
      rintro y c st2 _ _ ⟨rfl,q1,q2⟩;refine jS (kW ?_)
      fail
      split
      ·rename_i hm;split
       ·exact jT ⟨rfl,q1,q2⟩
       ·have hz:1<(jX st2).size:=by
         by_cases z:(jX st2).size > 1
         ·exact z
         ·rw[if_neg z] at hm;cases hm
        refine jS (aMa hL q1 (by (lia)) (by show _<(jX st2).size;have:(jX st2).size - 2+1<(jX st2).size:=(by (lia));exact this)
         fun st3 t1 t2 t3=>?_)
        rw[if_neg ZE];exact jT ⟨rfl,t1,fun p q b1 b2 b3=>by rw[aKm (t3 p b1),aKm (t3 q (by (lia)))];exact q2 p q b1 b2 b3⟩
      ·exact jT ⟨rfl,q1,q2⟩
    ·exact hj _ _ S0 s1
end
end L2.Tm
namespace L2.Ds
open PySem PySem.Spec PyProof.Rows L2.Tm
def aS4(prog:jW)(w:World)(h:Heap)(vs:List Value)(rk:Keyed->Nat):Prop :=
 2<=vs.length->∃κ,∀ (A:jY) (E:Value->jR->Prop) (s:jR),(∀b o,h.get? b=some o->s.heap.get? b=some o) ->
  wpAny ZG A (keyKind' vs.toArray) (fun k s'=>k=κ/\s'=s) E s/\LtOk prog w A E s κ (PyProof.Rows.pairsOf vs) rk
section
variable {prog:jW}{w:World}{A:jY}{E:Value->jR->Prop}{s:jR}
theorem aFr{n:Nat}{Q:Nat->jR->Prop}(ho:s.heap.get? a=some o)(hd:o.data = .seq xs n)(q:Q n s):wpAny ZG A (seqEpoch a) Q E s:=seqEpoch_at ho hd q
theorem sort_any{n:Nat}(ho:s.heap.get? a=some (j7 "list" vs.toArray n))(hz:vs.length<=jU)
  (h0a:∀b o,h0.get? b=some o->b≠a) (h0s:∀b o,h0.get? b=some o->s.heap.get? b=some o) (hS:aS4 prog w h0 vs rk)
  (h:∀xs:Array Keyed,xs.Perm (PyProof.Rows.pairsOf vs)->Srt rk xs 0 vs.length->P (.done (.ret .none)) { s with heap:=sortedHeap s.heap a vs (xs.map (·.2)) }) :
  wpAny ZG A (Builtin.«list.sort» ⟨[.ref a],[]⟩) P E s:=by
 rw[list_sort_plain];have hlt:a<s.heap.objs.size:=aj ho;obtain⟨e1,k1⟩:∃e1,(s.heap.update a (Obj.mapSeq fun _=>#[])).get? a=some (j7 "list" #[] e1):=⟨_,get?_update_seq ho (fun _=>#[])⟩
 refine jP (listItems_at ho rfl (jP (k7 ho rfl (jP (aFr k1 rfl (jP (wpAny_newTuple (jP (lC (j5 ?_))))))))));have kp:∀b o,b≠a->s.heap.get? b=some o->(((s.heap.update a (Obj.mapSeq fun _=>#[])).push (j7 "tuple" vs.toArray 0)).push (j7 "list" #[] 0)).get? b=some o:=fun b o nb q=>by have hb:b<s.heap.objs.size:=aj q;rw[dg _ _ _ (by rw[size_push',eO];exact au (c6 hb)),dg _ _ _ (by rw[eO];exact au hb),iY _ _ _ _ nb];exact q
 have k2:(((s.heap.update a (Obj.mapSeq fun _=>#[])).push (j7 "tuple" vs.toArray 0)).push (j7 "list" #[] 0)).get? a=some (j7 "list" #[] e1):=by rw[dg _ _ _ (by rw[size_push',eO];exact au (c6 hlt)),dg _ _ _ (by rw[eO];exact au hlt)];exact k1
 show wpAny ZG A _ P E { s with heap:=((s.heap.update a (Obj.mapSeq fun _=>#[])).push (j7 "tuple" vs.toArray 0)).push (j7 "list" #[] 0) };dsimp only;have hsz:vs.toArray.size=vs.length:=by simp
 have hps:(PyProof.Rows.pairsOf vs).size=vs.length:=pairsOf_size vs;by_cases h2:vs.toArray.size<2
 ·rw[if_pos h2,if_pos h2];refine jP (jQ ?_);rw[StateT.run_pure];refine jP (jQ (jP (aFr k2 rfl (jP (k7 k2 rfl ?_ (hsz2:=by rw[gc];show (PyProof.Rows.pairsOf vs).size<=_;lia))))));dsimp only;simp only[bne_self_eq_false,bu,if_false];refine jQ (h (PyProof.Rows.pairsOf vs) (Array.Perm.refl _) fun i j _ hij hj=>?_);have:i=j:=by lia
  rw[this];exact a9 _
 ·rw[if_neg h2,if_neg h2];obtain⟨κ,hκ⟩:=hS ZA;obtain⟨q1,q2⟩:=hκ A E { s with heap:=((s.heap.update a (Obj.mapSeq fun _=>#[])).push (j7 "tuple" vs.toArray 0)).push (j7 "list" #[] 0) } fun b o e=>kp b o (h0a b o e) (h0s b o e);refine jP (j8 q1 ?_ fun _ _ e=>e);rintro k s' ⟨rfl,rfl⟩;refine jP (j8 (aZ0 q2 (st:=SortSt.mk' k (PyProof.Rows.pairsOf vs) #[] 7 none) rfl (Array.Perm.refl _) rfl rfl (Q:=fun _ st'=>(arrOf st').Perm (PyProof.Rows.pairsOf vs)/\kO st'=none/\Srt rk (arrOf st') 0 vs.length) fun st' a1 a2 a3=>⟨a1,a2,by rw[hps] at a3;exact a3⟩) ?_ fun _ _ e=>e);rintro⟨⟨⟩,st'⟩ s' ⟨rfl,hp,hf,hs⟩;dsimp only;refine jP (aFr k2 rfl (jP (k7 k2 rfl ?_ (hsz2:=ao (gP ((gc ..).trans (hp.size_eq.trans hps))) (jC hz)))));rw[hf];simp only[bne_self_eq_false,bu,if_false];exact jQ (h _ hp hs)
end
section
variable {X:Cx}{tw:Addr}
theorem aHx
  (hc:wpAny ZC A'.in1 (collect x) (fun vs s1=>∃rk,vs.length<=jU/\aS4 X.prog X.w s1.heap vs rk/\∀h' (xs:Array Keyed) e,(∀b o,s1.heap.get? b=some o->h'.get? b=some o)->h'.get? s1.heap.objs.size=some (j7 "list" (xs.map (·.2)) e)->xs.Perm (PyProof.Rows.pairsOf vs)->Srt rk xs 0 vs.length->Q (.ref s1.heap.objs.size) { s1 with heap:=h' }) E s) :
  wpAny ZC A' (call (.builtin "sorted") [x]) Q E s:=by
 refine ft kind_sorted plain_sorted entry_sorted (args_sorted1 _) ?_;unfold Builtin.«sorted»;refine jP (m:=checkCount "sorted" 1 1 _) (jQ (jP (j8 hc (fun vs s1 h=>?_) fun _ _ e=>e)));obtain⟨rk,hz,hS,k⟩:=h;refine jP (lC ?_ hz);have hoL:(s1.heap.push (j7 "list" vs.toArray 0)).get? s1.heap.objs.size=some (j7 "list" vs.toArray 0):=af _ rfl;show wpAny _ _ _ _ _ { s1 with heap:=s1.heap.push (j7 "list" vs.toArray 0) };refine jP (j5 (j3 slot_list_sort ⟨_,hoL,rfl⟩ entry_list_sort (sort_any (h0:=s1.heap) hoL hz (fun b o hb=>au (aj hb)) (fun b o hb=>a0 _ hb) hS fun xs a1 a2=>⟨_,rfl,?_⟩) (args_list_sort _)));obtain⟨e,he⟩:=sortedHeap_at (out:=xs.map (·.2)) hoL;refine jQ ⟨_,rfl,k _ xs e (fun b o hb=>?_) he a1 a2⟩;have hlt:b<s1.heap.objs.size:=aj hb;rw[sortedHeap_old (au hlt) (by rw[cp];exact c6 hlt)];exact a0 _ hb
end
def intOf?:Value->Option Int
 |.int i _=>some i
 |_=>none
def kyV(h:Heap):Value->List Int
 | .ref a=>match h.get? a with
  | some o=>match o.data with
   |.seq xs _=>xs.toList.filterMap intOf?
   |_=>[]
  |none=>[]
 |.int i _=>[i]
 |_=>[]
theorem aF2:∀ {us:List Value} {ns:List Int},jb us ns->us.filterMap intOf?=ns
 |_,_,.nil=>rfl
 |_,_,.cons n t h=>by rw[eY];show n::_=_;rw[aF2 h]
def TupI(h:Heap)(v:Value)(l:List Int):Prop:=∃a o xs n,v = .ref a/\h.get? a=some o/\o.cls = .type "tuple" /\ o.data = .seq xs n/\jb xs.toList l/\l ≠ []
theorem TupI.ky(t:TupI h v l):kyV h v=l:=by
 obtain⟨a,o,xs,n,rfl,ho,hc,hd,hi,_⟩:=t
 show (match h.get? a with
  | some o=>match o.data with
   |.seq xs _=>xs.toList.filterMap intOf?
   |_=>[]
  |none=>[])=l
 rw[ho]
 show (match o.data with
   |.seq xs _=>xs.toList.filterMap intOf?
   |_=>[])=l
 rw[hd];exact aF2 hi
theorem TupI.mono(k:∀b o,h.get? b=some o->h'.get? b=some o)(t:TupI h v l):TupI h' v l:=by obtain⟨a,o,xs,n,r,ho,q⟩:=t;exact⟨a,o,xs,n,r,k a o ho,q⟩
section
variable {prog:jW}{w:World}{A:jY}{E:Value->jR->Prop}{s:jR}
theorem lex_ints{Q:Bool->jR->Prop}:∀ {us vs:List Value} {as bs:List Int} (i:Nat),jb us as->jb vs bs->Q (lexLt as bs) s->W.KatLex prog w A true (decide (us.length<vs.length)) Q (us.zip vs) i s:=by
 have gen:∀ {us vs:List Value} {as bs:List Int} (i:Nat) (fin:Bool),jb us as->jb vs bs->(decide (us.length<vs.length)=fin)->Q (lexLt as bs) s->W.KatLex prog w A true fin Q (us.zip vs) i s:=by
  intro us
  induction us with
  | nil =>
   intro vs as bs i fin h1 h2 hf q;cases h1;cases h2 with
   |nil=>subst hf;exact q
   |cons n t h=>subst hf;exact q
  | cons u us ih =>
   intro vs as bs i fin h1 h2 hf q;cases h1 with
   | cons n t h =>
    cases h2 with
    |nil=>subst hf;exact q
    | cons m r g =>
     refine W.kat_cons (wpAny_eqBool_int ?_);unfold lexLt at q;by_cases e:n=m
     ·subst e;rw[beq_self_eq_true] at q |-;exact W.kat_yes (ih (i+1) fin h g (by simpa using hf) (by simpa using q))
     ·have e':(n==m)=false:=by simpa using e
      rw[e'] at q |-;refine W.kat_no ?_;have q:Q (decide (n<m)) s:=by simpa using q
      cases i with
      |zero=>exact oneLt_int q
      |succ i=>exact W.kat_one _ _ (lt_int q)
 intro us vs as bs i h1 h2 q;exact gen i _ h1 h2 rfl q
theorem tup_lt{Q:Bool->jR->Prop}(hx:TupI s.heap x a)(hy:TupI s.heap y b)(q:Q (lexLt a b) s):wpAny ZG A (keyLt' (tuples' true) x y) Q E s:=by obtain⟨p,o,xs,n,rfl,ho,hc,hd,hi,_⟩:=hx;obtain⟨p',o',ys,n',rfl,ho',hc',hd',hi',_⟩:=hy;refine W.kat_lt ho hd ho' hd' ?_;have:=lex_ints (prog:=prog) (w:=w) (A:=A) (s:=s) (Q:=Q) 0 hi hi' q;simpa using this
end
theorem aE7(h:x∈PyProof.Rows.pairsOf vs):x.1∈vs/\x.2=x.1:=by have h:x∈(PyProof.Rows.pairsOf vs).toList:=Array.mem_def.mp h;rw[pairsOf_toList] at h;have:=mem_zip_self h;exact⟨this.2,this.1.symm⟩
inductive Tups (h:Heap):List Value->List ZB->Prop
 |nil:Tups h [] []
 |cons {v:Value} {l:List Int} {vs:List Value} {ls:List ZB}:TupI h v l->Tups h vs ls->Tups h (v::vs) (l::ls)
theorem Tups.ky:∀ {vs:List Value} {ls:List ZB},Tups h vs ls->vs.map (kyV h)=ls
 |_,_,.nil=>rfl
 |_,_,.cons t r=>by rw[a8,t.ky,r.ky]
theorem Tups.mem:∀ {vs:List Value} {ls:List ZB},Tups h vs ls->v∈vs->TupI h v (kyV h v)
 | _,_,.cons t r,hv=>by
  rcases ae.mp hv with rfl |hv
  ·rw[t.ky];exact t
  ·exact r.mem hv
theorem Tups.mono(k:∀b o,h.get? b=some o->h'.get? b=some o):∀ {vs:List Value} {ls:List ZB},Tups h vs ls->Tups h' vs ls
 |_,_,.nil=>.nil
 |_,_,.cons t r=>.cons (t.mono k) (r.mono k)
theorem Tups.firsts:∀ {vs:List Value} {ls:List ZB},Tups h vs ls->∃fs,W.KatTups h vs fs/\fs.length=vs.length/\∀f∈fs,∃i t,f = .int i t
 |_,_,.nil=>⟨[],.nil,rfl,fun f hf=>by simp at hf⟩
 | _,_,.cons t r=>by
  obtain⟨fs,k1,k2,k3⟩:=r.firsts;obtain⟨a,o,xs,n,rfl,ho,hc,hd,hi,hne⟩:=t;have ⟨i,u,hx⟩:∃i u,xs[0]?=some (.int i u):=by
   rw[<-bj];cases hi':xs.toList with
   |nil=>rw[hi'] at hi;cases hi;exact absurd rfl hne
   | cons v vs=>rw[hi'] at hi;cases hi with
    |cons n t _=>exact⟨n,t,rfl⟩
  refine⟨.int i u::fs,.cons ho hc hd hx k1,by simp[k2],fun f hf=>?_⟩;rcases ae.mp hf with rfl |hf
  ·exact⟨i,u,rfl⟩
  ·exact k3 f hf
theorem aJs(t:Tups h vs ls):aS4 prog w h vs fun x=>rank ls (kyV h x.1):=by
 intro h2;refine⟨tuples' true,fun A E s kp=>⟨?_,fun st x y Q hk hx hy q=>?_⟩⟩
 ·obtain⟨fs,k1,k2,k3⟩:=(t.mono kp).firsts;refine W.kat_kind (T:=.type "int") k1 ZA (fun v hv=>?_) ZE ⟨rfl,rfl⟩;obtain⟨i,u,rfl⟩:=k3 v hv;exact .now
 ·have mx:=aE7 hx;have my:=aE7 hy;have tx:=(t.mem mx.1).mono kp;have ty:=(t.mem my.1).mono kp;rw[aJr (by rw[<-t.ky];exact bw mx.1)] at q;rw[lt'_eq];refine jS (kW ?_);rw[hk];exact jS (kj (k8 (tup_lt tx ty ⟨rfl,jT q⟩)))
theorem aGa(ky:vs.map (kyV h)=ls)(p:xs.Perm (PyProof.Rows.pairsOf vs))(sr:Srt (fun x=>rank ls (kyV h x.1)) xs 0 vs.length) :
  (xs.map (·.2)).toList.Perm vs/\(xs.map (·.2)).toList.map (kyV h)=aC1 ls:=by
 have hl:xs.toList.Perm (vs.zip vs):=by rw[<-pairsOf_toList];exact fh.mp p
 have p2:(xs.map (·.2)).toList.Perm vs:=by have:=hl.map (·.2);rw[jI (a9 _)] at this;rw[jJ];exact this
 refine⟨p2,?_⟩;have p3:=p2.map (kyV h);rw[ky] at p3;refine aMo p3 ?_;have hsz:xs.size=vs.length:=by rw[p.size_eq,pairsOf_size]
 have hmem:∀x,x∈xs->x.1∈vs/\x.2=x.1:=fun x hx=>aE7 (p.mem_iff.mp hx);rw[fE];intro i j hi hj hij;have hi':i<xs.size:=by simpa using hi
 have hj':j<xs.size:=by simpa using hj
 have q:=sr i j (dm _) (c9 hij) ZA;rw[aBe hi',aBe hj'] at q;have m1:=hmem _ (bv hi');have m2:=hmem _ (bv hj');have e1:((xs.map (·.2)).toList.map (kyV h))[i]=kyV h xs[i].1:=by simp[m1.2]
 have e2:((xs.map (·.2)).toList.map (kyV h))[j]=kyV h xs[j].1:=by simp[m2.2]
 show lexLt _ _=false;rw[e1,e2,<-aJr (nss:=ls) (by rw[<-ky];exact bw m2.1)];simpa using q
section
variable {X:Cx}{tw:Addr}
theorem _root_.L2.Inv.laids{t':Nat}(I:Inv X pins O H s)(k:∀b u,s.heap.get? b=some u->h'.get? b=some u)(old:∀b u,H b=some u->H' b=some u)
  (hp:∀b,b<s.heap.objs.size->H b=none->H' b=none) (new:∀b u,H b=none->H' b=some u->aBz X.prog X.w H' h' b u):Inv X pins O H' { s with heap:=h',toks:=t' }:=by
 refine I.un ⟨fun b u q _ _ _=>k b u q,fun b u q _ _ _=>⟨u.slots,k b u q⟩,fun b u q n _=>hp b (aj q) n,fun b u q _=>⟨u,k b u q⟩,fun b xs q=>old b _ q,fun b o u q=>old b _ q⟩ fun b u e=>?_;cases z:H b with
 |none=>exact new b u z e
 | some ob =>
  have:=old b ob z;rw[this] at e;cases e;exact(I.hok b _ z).stay (k b) fun c xs q=>old c _ q
theorem bBx(ns:List Int):aC1 (ns.map fun i=>[i])=(sortI ns).map fun i=>[i]:=by
 refine(aMo ((sortI_perm ns).map _) ?_).symm;rw[eX];refine(aCb ns).imp fun {a b} h=>?_;show lexLt [b] [a]=false;unfold lexLt;by_cases e:b=a
 ·subst e;simp[lexLt]
 ·simp[e];lia
theorem aJz(t:jb vs ns):aS4 prog w h vs fun x=>rank (ns.map fun i=>[i]) (kyV h x.1):=by
 intro h2;refine⟨oneType',fun A E s kp=>⟨?_,fun st x y Q hk hx hy q=>?_⟩⟩
 ·match vs,h2,t with
  |v1::v2::rest,_,t=>rw[keyKind_ints t];exact jQ ⟨rfl,rfl⟩
 ·have get:∀ {v:Value} {vs:List Value} {ns:List Int},jb vs ns->v∈vs->∃i u,v = .int i u/\i∈ns:=by
   intro v vs ns t
   induction t with
   |nil=>intro hv;simp at hv
   | cons n u r ih =>
    intro hv;rcases ae.mp hv with rfl |hv
    ·exact⟨n,u,rfl,a7 ..⟩
    ·obtain⟨i,u,e,m⟩:=ih hv;exact⟨i,u,e,a6 _ m⟩
  obtain⟨x1,x2⟩:=x;obtain⟨y1,y2⟩:=y;obtain⟨i,u,rfl,mi⟩:=get t (aE7 hx).1;obtain⟨j,u',rfl,mj⟩:=get t (aE7 hy).1;have q:Q (some (decide (rank (ns.map fun i=>[i]) [i]<rank (ns.map fun i=>[i]) [j]))) st:=q
  rw[aJr (bw mi),show lexLt [i] [j]=decide (i<j) from by
   unfold lexLt;by_cases e:i=j
   ·subst e;simp[lexLt]
   ·simp[e]] at q
  rw[lt'_eq];refine jS (kW ?_);rw[hk,keyLt'_oneType];exact jS (kj (k8 (oneLt_int ⟨rfl,jT q⟩)))
theorem aNr:∀ {vs:List Value} {ns:List Int},jb vs ns->vs.map (kyV h)=ns.map fun i=>[i]
 |_,_,.nil=>rfl
 |_,_,.cons n t r=>by rw[a8,a8,aNr r];rfl
theorem aQr(I:Inv X pins O H s):∀ {xs:List T} {ls:List ZB} {vs:List V} {us:List Value},aGq xs=some ls->Reps tw H xs vs->Vals vs us->Tups s.heap us ls
 |[],ls,vs,us,e,r,rv=>by cases e;cases aA3 r;cases rv;exact .nil
 | .tup (x::xs)::rest,ls,vs,us,e,r,rv=>by
  obtain⟨l,e1,e2⟩:=bind_some (show (intsOf (x::xs)).bind _=_ from e);obtain⟨ls',e3,e4⟩:=map_some e2;cases e4;obtain⟨v,w,rfl,p,q⟩:=aAm r;cases rv with
  | cons r1 r2 =>
   rw[Rep] at p;obtain⟨a,va,rfl,ea,xa⟩:=p;cases r1;obtain⟨its,q1,⟨o,ho,hc,_,n,hd⟩,_⟩:=I.tupleN ea;have ex:=aA6 e1;rw[ex] at xa;cases aCu xa;refine .cons ⟨a,o,its.toArray,n,rfl,ho,hc,hd,by simpa using aBw q1,?_⟩ (aQr I e3 q r2);rintro rfl;cases ex
 |.tup []::_,_,_,_,e,_,_=>by cases e
 |.non::_,_,_,_,e,_,_=>by cases e
 |.bl _::_,_,_,_,e,_,_=>by cases e
 |.int _::_,_,_,_,e,_,_=>by cases e
 |.str _::_,_,_,_,e,_,_=>by cases e
 |.lst _::_,_,_,_,e,_,_=>by cases e
 |.dic _::_,_,_,_,e,_,_=>by cases e
 |.town::_,_,_,_,e,_,_=>by cases e
theorem aLv:∀ {xs:List T} {ls:List ZB},aGq xs=some ls->xs=ls.map tupT
 |[],ls,e=>by cases e;rfl
 |.tup (x::xs)::rest,ls,e=>by obtain⟨l,e1,e2⟩:=bind_some (show (intsOf (x::xs)).bind _=_ from e);obtain⟨ls',e3,e4⟩:=map_some e2;cases e4;rw[a8,<-aLv e3,tupT,<-aA6 e1]
 |.tup []::_,_,e=>by cases e
 |.non::_,_,e=>by cases e
 |.bl _::_,_,e=>by cases e
 |.int _::_,_,e=>by cases e
 |.str _::_,_,e=>by cases e
 |.lst _::_,_,e=>by cases e
 |.dic _::_,_,e=>by cases e
 |.town::_,_,e=>by cases e
theorem aRf(rv:Vals vs us)(r:Reps tw H (ls.map mk) vs)(ky:us.map (kyV h)=ls)(p:out.Perm us):∃ws,Vals ws out/\Reps tw H ((out.map (kyV h)).map mk) ws:=by
 have all:∀ {ls:List ZB} {vs:List V} {us:List Value},Vals vs us->Reps tw H (ls.map mk) vs->us.map (kyV h)=ls->∀u∈us,∃v,RelV v u/\Rep tw H (mk (kyV h u)) v:=by
  intro ls vs us rv
  induction rv generalizing ls with
  |nil=>intro _ _ u hu;simp at hu
  | cons r1 r2 ih =>
   rename_i v u vs us;intro rp ek u' hu;subst ek;rw[a8,a8] at rp;obtain⟨v',w,e,p1,p2⟩:=aAm rp;cases e;rcases ae.mp hu with rfl |hu
   ·exact⟨v,r1,p1⟩
   ·exact ih p2 rfl u' hu
 have hall:=all rv r ky;refine aB6 ZJ fun i u e=>?_;obtain⟨v,q1,q2⟩:=hall u (p.mem_iff.mp (fH e));exact⟨v,mk (kyV h u),q1,by simp[e],q2⟩
theorem aZh(hh:X.A.handled=none):PrS X tw (fun us=>call (.builtin "sorted") us) aH8:=by
 intro B pins s O H vs us ts n t m Q I rv rt tn e k;have run:∀ {t0:T} {xs:List T} {ls:List ZB} {mk:List Int->T} {v:V} {u:Value},Root X.K tw H t0 v->RelV v u->aFd t0=some xs->xs=ls.map mk ->
   (∀ (h':Heap) (vs:List V) (us:List Value),Vals vs us->Reps tw H xs vs->(∀b o,s.heap.get? b=some o->h'.get? b=some o)->us.map (kyV h')=ls/\aS4 X.prog X.w h' us fun x=>rank ls (kyV h' x.1)) ->
   (∀v H',Ext tw H H'->Tn tw n H'->Val X.K B tw H H' (.lst ((aC1 ls).map mk)) .own v->Q v H')->wpAny ZC X.A (call (.builtin "sorted") [u]) (EP X pins O Q) X.xe s:=by
  intro t0 xs ls mk v u r ru hw hx hs kk;refine aHx (aJ0 hh I r ru hw fun us vs h' tk h1 h2 h3 kp=>?_);obtain⟨ky,hS⟩:=hs h' vs us h1 h2 kp;refine⟨_,h3,hS,fun h'' xs' e kp2 he hp hsr=>?_⟩;have hp':xs'.Perm (PyProof.Rows.pairsOf us):=hp;obtain⟨p2,e2⟩:=aGa ky hp' hsr;subst hx;obtain⟨ws,w1,w2⟩:=aRf h1 h2 ky p2;rw[e2] at w2;have I1:Inv X pins O H { s with heap:=h',toks:=tk }:=I.kept kp;have hf:H h'.objs.size=none:=I1.hok.fresh (a9 _);have I':=I1.laid (a:=h'.objs.size) (o:=.lst ws) (t':=tk) (h':=h'') kp2 (a9 _) ⟨by rw[w1.length,p2.length_eq];exact h3,(xs'.map (·.2)).toList,e,w1,by rw[eR];exact he⟩;exact⟨.ref h'.objs.size,_,I',rfl,kk _ _ (.new hf) (tn.new hf) ⟨_,rfl,hf,_,aAj,Reps.mono (.new hf) _ _ w2⟩⟩
 have sInt:∀ {t0:T} {xs:List T} {ns:List Int} {v:V} {u:Value},Root X.K tw H t0 v->RelV v u->aFd t0=some xs->intsOf xs=some ns ->
   (∀v H',Ext tw H H'->Tn tw n H'->Val X.K B tw H H' (.lst ((sortI ns).map T.int)) .own v->Q v H')->wpAny ZC X.A (call (.builtin "sorted") [u]) (EP X pins O Q) X.xe s:=by
  intro t0 xs ns v u r ru hw hi kk;have hx:=aA6 hi;refine run (ls:=ns.map fun i=>[i]) (mk:=fun l=>.int (l.headD 0)) r ru hw (by rw[b6];exact hx) (fun h' vs us h1 h2 kp=>?_) fun v H' a b c=>kk v H' a b (by rw[bBx,b6] at c;exact c);rw[hx] at h2;cases aCu h2;exact⟨aNr (aBw h1),aJz (aBw h1)⟩
 match ts,e with
 | [.lst xs],e =>
  obtain⟨v,rfl,r⟩:=aAp rt;obtain⟨u,rfl,ru⟩:=rv.one;cases hi:intsOf xs with
  | some ns =>
   have e:(match intsOf xs with
    |some ns=>some (T.lst ((sortI ns).map .int),Md.own)
    |none=>(aGq xs).map fun ls=>(T.lst ((aC1 ls).map tupT),Md.own))=some (t,m):=e
   rw[hi] at e;cases e;exact sInt r ru rfl hi k
  | none =>
   have e:(match intsOf xs with
    |some ns=>some (T.lst ((sortI ns).map .int),Md.own)
    |none=>(aGq xs).map fun ls=>(T.lst ((aC1 ls).map tupT),Md.own))=some (t,m):=e
   rw[hi] at e;obtain⟨ls,e1,e2⟩:=map_some e;cases e2;exact run (mk:=tupT) r ru rfl (aLv e1) (fun h' vs us h1 h2 kp=>let tt:=aQr (I.kept (t':=s.toks) kp) e1 h2 h1;⟨tt.ky,aJs tt⟩) k
 | [.tup xs],e =>
  obtain⟨v,rfl,r⟩:=aAp rt;obtain⟨u,rfl,ru⟩:=rv.one;obtain⟨ns,e1,e2⟩:=map_some (show (intsOf xs).map _=_ from e);cases e2;exact sInt r ru rfl e1 k
theorem aKp:∀ {kvs:List (Ky × T)} {ps:List ZH},itemsOf kvs=some ps->kvs=ps.map fun p=>(Sum.inl p.1,T.int p.2)
 |[],_,e=>by cases e;rfl
 |(.inl k,.int v)::r,_,e=>by obtain⟨ps,e1,e2⟩:=map_some (show (itemsOf r).map _=_ from e);cases e2;rw[aKp e1];rfl
 |(.inr _,_)::_,_,e=>by cases e
 |(.inl _,.non)::_,_,e=>by cases e
 |(.inl _,.bl _)::_,_,e=>by cases e
 |(.inl _,.str _)::_,_,e=>by cases e
 |(.inl _,.tup _)::_,_,e=>by cases e
 |(.inl _,.lst _)::_,_,e=>by cases e
 |(.inl _,.dic _)::_,_,e=>by cases e
 |(.inl _,.town)::_,_,e=>by cases e
theorem aR3:∀ {ps:List ZH} {ws:List (Key × V)},RepK tw H (ps.map fun p=>(Sum.inl p.1,T.int p.2)) ws->ws=ps.map fun p=>(Sum.inl p.1,V.int p.2)
 |[],_,r=>by rw[eD,RepK] at r;subst r;rfl
 |p::ps,_,r=>by rw[a8,RepK] at r;obtain⟨v,r',rfl,h,q⟩:=r;rw[Rep] at h;rw[aR3 q,h];rfl
theorem bAn:∀ {ps:List ZH} {us:List (Key × Value)},KV (ps.map fun p=>(Sum.inl p.1,V.int p.2)) us->∀ (j:Nat) (k:Key) (x:Value),us[j]?=some (k,x)->∃p t,ps[j]?=some p/\k=Sum.inl p.1/\x = .int p.2 t
 |[],_,r,j,k,x,e=>by cases r;simp at e
 | p::ps,_,r,j,k,x,e=>by
  rw[a8] at r;cases r with
  | cons h t =>
   rename_i q qs;cases j with
   | zero =>
    simp at e;subst e;obtain⟨h1,u,h2⟩:=h;exact⟨p,u,rfl,h1.symm,h2⟩
   |succ j=>exact bAn t j k x (by simpa using e)
def aGs(H:Hp)(as:List Addr)(ls:List ZB):Hp:=fun b=>match as.findIdx? (· == b) with
 |some j=>some (.tup ((ls.getD j []).map V.int))
 |none=>H b
theorem aE9(h:b∉as):aGs H as ls b=H b:=by
 unfold aGs;have:as.findIdx? (· == b)=none:=by rw[gn];intro x hx;simp;rintro rfl;exact h hx
 rw[this]
theorem aU5{j:Nat}(nd:as.Nodup)(h:as[j]?=some b):aGs H as ls b=some (.tup ((ls.getD j []).map V.int)):=by
 unfold aGs;have:as.findIdx? (· == b)=some j:=by
  obtain⟨hj,e⟩:=b9.mp h;rw[gF];refine⟨hj,by simp[e],fun i hi=>?_⟩;have:as[i]≠b:=fun z=>by have:=(jF (h₀:=by lia) (h₁:=hj) nd).mp (z.trans e.symm);lia
  simpa using this
 rw[this]
theorem aPw{o:Expr}{d0:DE}{p apos cpos pos:Pos}(hh:X.A.handled=none)(ho:SE X tw o d0)(hm:X.mg "sorted" = none)(hg:autoParam (Gl X "sorted") lZ)(hbase:autoParam (kH o "items" X.env (eval o X.env)=eval o X.env) lZ)(hline:autoParam ((apos.endLine==cpos.line)=true) lZ)
  (he:autoParam (jV [.Call (.Attribute o "items" apos) [] [] cpos] X.env=(false,eval (.Call (.Attribute o "items" apos) [] [] cpos) X.env)::jV [] X.env) lZ) :
  SE X tw (.Call (.Name "sorted" p) [.Call (.Attribute o "items" apos) [] [] cpos] [] pos) (dPr aF6 (aAa d0 dNil)):=by
 intro B ρ n t mm n' hd pins s O H Q I ⟨R,k⟩;obtain⟨to,mo,f1,e3⟩:=aNl hd;have ⟨kvs,ps,eo,hi,et,em⟩:∃kvs ps,to = .dic kvs/\itemsOf kvs=some ps/\t = .lst ((aC1 (ps.map aCn)).map tupT)/\mm = .own:=by
  match to,e3 with
  | .dic kvs,e3 =>
   obtain⟨ps,h1,h2⟩:=map_some (show (itemsOf kvs).map _=_ from e3);cases h2;exact⟨kvs,ps,rfl,h1,rfl,rfl⟩
 subst eo et em;refine jj (aEe I hg hm kz ?_ ZE ZE);refine PyProof.Rows.callWith_builtin1 (Q:=EP X pins O Q) ?_ he rfl;rw[he];refine dS (wpAny_Call_method0_late hbase hline (thn (ho.run f1 I R) fun u s1 ⟨v,H1,I1,r1,a1,R1,c1⟩=>?_));obtain⟨a,ws,rfl,na,ea,xa⟩:=c1.root R1 R.tn;cases r1;obtain⟨z,hnd,us,rel,dd⟩:=aEb I1.hok ea;obtain⟨o1,es1,ep1,ho1,ex1,_⟩:=id dd;refine⟨"dict","dict.items",PySem.F.plainAttrs_dict,PySem.F.slot_dict_items,PySem.F.type_dict_items,dd.typeIs,fun b e=>by cases e;exact⟨o1,ho1,ex1.2.1⟩,fR rfl (PySem.evalArgs_none ?_)⟩;refine call_meetsIn PySem.F.slot_dict_items dd.typeIs PySem.F.entry_dict_items (PySem.F.args_dict_items_1 _) (meets_dict_items (aAz X.prog X.w) a hnd) ⟨⟨us,dd⟩,?_⟩;refine eU ?_;have I2:Inv X pins O H1 { s1 with heap:=s1.heap.push { cls:=.type "dict_items",data:=.fields #[.ref a] } }:=I1.kept (t':=s1.toks) fun b u q=>a0 _ q;have dd2:(s1.heap.push { cls:=.type "dict_items",data:=.fields #[.ref a] }).DictOf (aAz X.prog X.w) a us:=by obtain⟨_,_,us',rel',dd'⟩:=aEb I2.hok ea;obtain⟨o1,es1,ep1,q1,q2,q3⟩:=dd;exact⟨o1,es1,ep1,a0 _ q1,q2,q3⟩
 obtain⟨ep,da⟩:=dd2.dictAt;have hl:ws.length=us.length:=Paired.length rel;have ek:=aKp hi;subst ek;have ew:=aR3 xa;subst ew;have hlp:ps.length=us.length:=by rw[<-hl,a5]
 refine aHx (W.kdx_collect (d:=a) hh ⟨_,af _ rfl,rfl,rfl⟩ da (by rw[<-hl];exact z) fun h' tk as kp has hG=>?_);have pr:∀ (j:Nat) (b:Addr),as[j]?=some b->∃ (q:Int × Int) (t t2:Tok),ps[j]?=some q/\h'.get? b=some { cls:=.type "tuple",data:=.seq #[.int q.1 t,.int q.2 t2] }:=fun j b e=>by
  obtain⟨key,kk,x,g1,g2,g3⟩:=hG.pairs j b e;obtain⟨q,t2,h1,rfl,rfl⟩:=bAn rel j kk x g1;have ⟨t,hk⟩:∃t,key = .int q.1 t:=by
   have g2:Value.isInt q.1 key=true:=g2;cases key<;>simp[Value.isInt] at g2
   subst g2;exact⟨_,rfl⟩
  subst hk;exact⟨q,t,t2,h1,g3⟩
 have tt:∀ {as:List Addr} {ps:List ZH},as.length=ps.length->(∀ (j:Nat) (b:Addr),as[j]?=some b->∃ (q:Int × Int) (t t2:Tok),ps[j]?=some q/\h'.get? b=some { cls:=.type "tuple",data:=.seq #[.int q.1 t,.int q.2 t2] })->Tups h' (as.map Value.ref) (ps.map aCn):=by
  intro as
  induction as with
  | nil=>intro ps e _;cases ps with
   |nil=>exact .nil
   |cons _ _=>simp at e
  | cons b as ih =>
   intro ps e h;cases ps with
   |nil=>simp at e
   | cons q ps =>
    obtain⟨q',t,t2,g1,g2⟩:=h 0 b rfl;simp at g1;subst g1
    exact .cons ⟨b,_,_,_,rfl,g2,rfl,rfl,.cons _ _ (.cons _ _ .nil),by simp[aCn]⟩ (ih (by simpa using e) fun j b' e'=>by
     obtain⟨q'',t,t2,g1,g2⟩:=h (j+1) b' (by simpa using e')
     exact⟨q'',t,t2,by simpa using g1,g2⟩)
 have T0:=tt (by rw[has,hlp]) pr;have nd:as.Nodup:=hG.rise.imp fun h=>au h;refine⟨_,by rw[a5,has,<-hl];exact z,aJs T0,fun h'' xs' e kp2 hx hp hsr=>?_⟩;obtain⟨p2,e2⟩:=aGa T0.ky hp hsr;have above:∀b∈as,s1.heap.objs.size<=b:=fun b hb=>by have:=hG.above b hb;rw[cp] at this;exact c9 (Nat.lt_of_succ_lt this)
 have fr:∀b∈as,H1 b=none:=fun b hb=>I1.hok.fresh (above b hb);have I3:Inv X pins O (aGs H1 as (ps.map aCn)) { s1 with heap:=h',toks:=tk }:=by
  refine I1.laids (fun b u q=>kp b u (a0 _ q)) (fun b u q=>?_) (fun b hb q=>?_) fun b u q e=>?_
  ·rw[aE9 (fun hb=>by rw[fr b hb] at q;cases q)];exact q
  ·rw[aE9 (fun hb'=>absurd hb (jO.mpr (above b hb')))];exact q
  ·by_cases hb:b∈as
   ·obtain⟨j,hj⟩:=List.mem_iff_getElem?.mp hb;rw[aU5 nd hj] at e;cases e;obtain⟨q',t,t2,g1,g2⟩:=pr j b hj;have:(ps.map aCn).getD j [] = [q'.1,q'.2]:=by simp[List.getD,g1,aCn]
    rw[this];exact⟨by simp;decide,[.int q'.1 t,.int q'.2 t2],.cons ⟨t,rfl⟩ (.cons ⟨t2,rfl⟩ .nil),_,g2,rfl,rfl,_,rfl⟩
   ·rw[aE9 hb,q] at e;cases e
 have x3:Ext tw H1 (aGs H1 as (ps.map aCn)):=.all fun b u q=>by rw[aE9 (fun hb=>by rw[fr b hb] at q;cases q)];exact q
 have tn3:Tn tw n' (aGs H1 as (ps.map aCn)):=by have:=R1.tn;unfold Tn at this |-;rw[aE9 (fun hb=>by rw[fr tw hb] at this;cases this)];exact this
 have rp:∃vs,Vals vs (as.map Value.ref)/\Reps tw (aGs H1 as (ps.map aCn)) ((ps.map aCn).map tupT) vs:=by
  refine aB6 (by rw[a5,a5,a5,has,hlp]) fun j u e=>?_;rw[bo] at e;cases q:as[j]? with
  |none=>rw[q] at e;cases e
  | some b =>
   rw[q] at e;cases e;obtain⟨q',t,t2,g1,g2⟩:=pr j b q;refine⟨.ref b,tupT (aCn q'),rfl,by simp[g1],?_⟩;rw[tupT,Rep];refine⟨b,_,rfl,aU5 nd q,?_⟩;rw[show (ps.map aCn).getD j []=aCn q' by simp[List.getD,g1]];exact Reps.ints _
 obtain⟨vs,v1,v2⟩:=rp;obtain⟨ws',w1,w2⟩:=aRf v1 v2 T0.ky p2;rw[e2] at w2;have hf:aGs H1 as (ps.map aCn) h'.objs.size=none:=I3.hok.fresh (a9 _);have I4:=I3.laid (a:=h'.objs.size) (o:=.lst ws') (t':=tk) (h':=h'') kp2 (a9 _) ⟨by rw[w1.length,p2.length_eq,a5,has,<-hl];exact z,(xs'.map (·.2)).toList,e,w1,by rw[eR];exact hx⟩;exact⟨.ref h'.objs.size,_,I4,rfl,k _ _ (a1.trans (x3.trans (.new hf))) (tn3.new hf) ⟨_,rfl,a1.free R1.tn (x3.free tn3 hf),_,aAj,Reps.mono (.new hf) _ _ w2⟩⟩
end
end L2.Ds
section
namespace L2.Ds
open PySem PySem.Spec PyProof.Rows L2.Tm
def aYh(K:W.Frag):Sp:=fun vs H Q _=>∃ (a:Addr) (ns:List Int),vs = [.ref a]/\SqL K H a (ns.map V.int)/\ns.length<=63/\∀H',Q (.bl true) H'
theorem law_ok{P:jW}{w:World}{K:W.Frag}{mg:Str->Option Value}{base:Heap}{st:Stmt}{f:Addr}{fd:jr}{N:List Str}{lv:Nat}{rest:List Stmt}{b:DS}{px pl pos:Pos}(F:Fun K "law" "law" st f fd)(S:FnScope N ["_law_script"] (aAv st))
  (hb:aB7 st = .Assign [.Name "_law_town" px] (.List [] pl) pos::rest) (h1:N[1]?=some ("_law_town" : Str)) (h2:2<=N.length) (hx:Loc (aAv st) "_law_town")
  (hs:∀ (cdv:Value) (A:jY) (outer:List Env) (s:jR) (H:Hp) (E:XK),kg (.List [] pl) (some (.Name "_law_town" px)) pos.line (cxOf CX0 P w K mg base N "law" (aAv st) f cdv A outer s H E).nox.env=pure false)
  (hbody:∀ (tw:Addr) (cdv:Value) (A:jY) (outer:List Env) (s:jR) (H:Hp) (E:XK),Room lv (A.deeper (envOfC "law" (aAv st) s.heap.objs.size f cdv))->SSs (cxOf CX0 P w K mg base N "law" (aAv st) f cdv A outer s H E).nox tw rest b)
  (run:∀ns:List Int,ns.length<=63->∃ρ' n',b (aFa ns N.length) 0=some (.rt (.bl true) false,ρ',n')):FnOk P w K mg base CX0 (lv+1) f fd ["_law_script"] (aYh K):=by
 refine F.ok S (fun vs H Q E h=>?_) (fun cdv A outer s H vs Q E hr h=>?_)
 ·obtain⟨a,ns,rfl,_⟩:=h;rfl
 obtain⟨a,ns,rfl,hS,h63,q⟩:=h;obtain⟨ρ',n',e⟩:=run ns h63;rw[hb];refine⟨_,aG0 (aYf (i:=1) S.nd h1 hx (pe_lst aP3) (hs cdv A outer s H E) (.inl rfl)) (u:=fun D O H=>∃tw B,rS K B tw (aFa ns N.length) 0 (.rt (.bl true) false) ρ' n' D O H) (fun pins s' O H' D I h=>?_),?_⟩
 ·obtain⟨tw,B,h⟩:=h;exact hbody tw cdv A outer s H E hr B _ 0 _ _ _ e pins s' O H' D I h
 ·refine⟨by show 0<=jU;exact dm _,fun p hp=>?_⟩;have na:∀b o,H b=some o->b≠p:=fun b o z=>by rintro rfl;rw[hp] at z;cases z
  have hq:SqR K p (upd H p (.lst [])) a (ns.map V.int):=by
   rcases hS with (z |⟨o,z⟩) |z |z
   ·exact .inl ⟨na _ _ z,.inl (by rw[aAk (na _ _ z)];exact z)⟩
   ·exact .inl ⟨na _ _ z,.inr ⟨o,by rw[aAk (na _ _ z)];exact z⟩⟩
   ·exact .inr (.inl z)
   ·exact .inr (.inr ⟨na _ _ z,by rw[aAk (na _ _ z)];exact z⟩)
  refine⟨p,upd H p (.lst []),⟨?_,?_⟩⟩
  ·have tn:Tn p 0 (upd H p (.lst [])):=by unfold Tn;rw[aAj];rfl
   have hlen:(aFa ns N.length).length=N.length:=by unfold aFa;simp;lia
   have hst:start N [V.ref a]=some (V.ref a)::List.replicate (N.length - 1) none:=rfl;have hs1:((start N [V.ref a]).set 1 (some (V.ref p)))=some (V.ref a)::some (V.ref p)::List.replicate (N.length - 2) none:=by rw[hst,show N.length - 1=(N.length - 2)+1 by lia,dW];rfl
   have get:∀ (i:Nat) (x:T × Md),(aFa ns N.length)[i]?=some (some x)->(i=0/\x=ZN)\/(i=1/\x=(.town,.fz)):=fun i x z=>by
    unfold aFa at z
    match i,z with
    |0,z=>simp at z;exact .inl ⟨rfl,z.symm⟩
    |1,z=>simp at z;exact .inr ⟨rfl,z.symm⟩
    | i+2,z =>
     have z:(List.replicate (N.length - 2) (none:Option (T × Md)))[i]?=some (some x):=z;rw[fM] at z;split at z<;>cases z
   rw[hs1];refine⟨.refl _ _,tn,⟨0,tn⟩,by rw[hlen];simp;lia,fun i t z=>?_,fun i t z=>?_,fun i t z=>?_,fun i t z=>?_,fun i j t t' a z=>?_⟩
   ·rcases get i _ z with ⟨rfl,z⟩ |⟨rfl,z⟩
    ·cases z
    ·cases z;exact⟨_,rfl,by rw[Rep]⟩
   ·rcases get i _ z with ⟨rfl,z⟩ |⟨rfl,z⟩
    ·cases z;exact⟨_,rfl,a,_,rfl,hq,Reps.ints ns⟩
    ·cases z
   ·rcases get i _ z with ⟨rfl,z⟩ |⟨rfl,z⟩<;>cases z
   ·rcases get i _ z with ⟨rfl,z⟩ |⟨rfl,z⟩<;>cases z
   ·rcases get i _ z with ⟨rfl,z⟩ |⟨rfl,z⟩<;>cases z
  ·intro v H' _ _ _ z;have z:Rep p H' (.bl true) v:=z;rw[Rep] at z;subst z;exact q H'
theorem walkL{l:W.OpenLaw}{q:jW}{loose:List Str}{XP:(Str->Option Value)->Heap->Prop}{YP:World->Heap->Prop}{d:DefRec}{K:Params->W.Frag}(k:Nat)(hn:l.most=some 63)(hdf:d.params.defaults = [])(hr:Room k callerA)
  (hY:∀ (w:World) (h:Heap),YP w h->(K w.params).In h)
  (F:∀ (w:World) (mg:Str->Option Value) (fa:Addr) (h:Heap),(K w.params).In h->h.Ns ji mg->mg d.name=some (.ref fa) ->
   ∃fd:jr,(∀ (s:jR) (u:Value),BindsTo s fd ⟨[u],[]⟩ [("_law_script",u)])/\∀base:Heap,(K w.params).In base->base.Ns ji mg->FnOk l.prog w (K w.params) mg base CX0 k fa fd ["_law_script"] (aYh (K w.params))) :
  W.WalkO q loose XP YP l.row.toRowW d [] (fun f vs=>PySem.call f vs) :=
 L2.walk_of (n:=63) (k:=k) (x:="_law_script") (CX:=fun _=>CX0) (sp:=fun w=>aYh (K w.params)) hn ZE hdf hr hY F (fun w _ a ns hl _ hS=>⟨a,ns,rfl,hS,hl,fun _=>rfl⟩) fun _ _ _ _ _ z=>z
theorem CompTxt.of{X:Cx}{scope:Scope}{N':List Str}{srcs:List (Option Nat)}(h1:autoParam (scope.kind = .function) lZ)(h2:autoParam ((scope.names.all fun y=>y.2 != .cell)=true) lZ)
  (h3:autoParam ((scope.names.all fun y=>y.2 != .local||scope.names.lookup y.1==some .local)=true) lZ)
  (h4:autoParam ((scope.names.all fun y=>y.2 != .free||X.env.kindOf y.1==some .cell||X.env.kindOf y.1==some .free)=true) lZ)
  (h5:autoParam (srcs.length=N'.length) lZ)
  (h6:autoParam (((List.range srcs.length).all fun i=>match srcs[i]? with
   | some (some j)=>(match N'[i]? with
    |some x=>X.N[j]?==some x&&scope.names.lookup x != some .local
    |none=>false)
   |_=>true)=true) lZ):CompTxt X scope N' srcs:=by
 refine⟨h1,fun y hy z=>?_,fun y hy z=>?_,fun y hy z=>?_,h5,fun i j e=>?_⟩
 ·have:=br.mp h2 y hy;rw[z] at this;cases this
 ·have:=br.mp h3 y hy;rw[z] at this;exact eq_of_beq (by simpa using this)
 ·have:=br.mp h4 y hy;rw[z] at this;simpa using this
 ·have hi:i<srcs.length:=(b9.mp e).1;have:=br.mp h6 i (ej.mpr hi);rw[e] at this
  have:(match N'[i]? with
    |some x=>X.N[j]?==some x&&scope.names.lookup x != some .local
    |none=>false)=true:=this
  cases q:N'[i]? with
  |none=>rw[q] at this;cases this
  | some x =>
   rw[q] at this;simp only[bq,beq_iff_eq,bne_iff_ne] at this;exact⟨x,rfl,this.1,this.2⟩
end L2.Ds
namespace L2
open PySem
theorem Room.u1{k:Nat}(r:Room k A):A.units+1<cLine:=by have:=r.un;lia
theorem Room.u6{k:Nat}(r:Room k A):A.units+6<cLine:=by have:=r.un;lia
end L2
end
namespace L2.Ds
open PySem PySem.Spec PyProof.Rows L2.Tm
section
variable {X:Cx}{tw:Addr}{tg:Expr}
theorem ss_put{e:Expr}{d:DE}{put:T->En->Option En}{pos:Pos}(h:SE X tw e d)(hg:SG X tw tg put)(hs:autoParam (swapsWithSole [tg] e pos.line X.env=pure false) lZ)(hw:autoParam (swappedStores [tg] e X.env=pure none) lZ)
  (h1:autoParam ((jk [tg] X.env).map (·.2) = [kM tg X.env]) lZ):SS X tw (.Assign [tg] e pos) (dPut put d):=by
 intro B ρ n f ρ' n' hd pins s O H D I ⟨R,k⟩;obtain⟨⟨t,m,n1⟩,e1,e2⟩:=bind_some hd;obtain⟨ρ1,e3,e4⟩:=map_some e2;cases e4;obtain rfl:=aXf e1;refine aYs (aQc h B ρ n t .fz n1 e1) hg hs hw h1 pins s O H D I ⟨R,fun v H' x y z=>?_⟩;exact⟨B,ρ,n1,t,ρ',R.mono x y,z,e3,fun σ' R' _=>k σ' H' (x.fx R.tn) R'⟩
end
section
variable {X:Cx}{tw:Addr}
theorem aGt{i:Int}(h:aFs ns=some i):0<ns.length/\ns.getD (argBest (fun i j=>decide (ns.getD i 0 > ns.getD j 0)) (ns.length - 1)) 0=i:=by
 cases ns with
 |nil=>cases h
 | cons x xs =>
  refine⟨Nat.succ_pos _,?_⟩;have:=aSk (fun a b=>decide (a > b)) (x::xs) xs.length (eN _);show (x::xs).getD (argBest _ (xs.length+1 - 1)) 0=i;rw[i9];refine Eq.trans this ?_;rw[show (x::xs).take (xs.length+1)=x::xs from dq (a9 _)];have h:xs.foldl (fun a b=>if a<b then b else a) x=i:=Option.some.inj h;rw[<-h];show xs.foldl (fun a b=>if decide (b > a)=true then b else a) x=_;simp only[decide_eq_true_eq,gt_iff_lt]
theorem pr_max(hc:X.calm=true):PrS X tw (fun us=>call (.builtin "max") us) pMax:=by
 intro B pins s O H vs us ts n t m Q I rv rt tn e k;have hh:=I.ok.hd hc
 match ts,e with
 | [.lst xs],e =>
  obtain⟨ns,e1,e2⟩:=bind_some (show (intsOf xs).bind _=_ from e);obtain⟨i,e3,e4⟩:=map_some e2;cases e4;obtain⟨v,rfl,r⟩:=aAp rt;obtain⟨u,rfl,ru⟩:=rv.one;have hx:=aA6 e1;subst hx;obtain⟨h0,hb⟩:=aGt e3;refine call_max_walk (thn (aLs (A':=X.A.in1) hh I r ru rfl) fun it s₂ ⟨Ia,fp,wr,P,St,e,W,st,hfp,hP,fin⟩=>?_);refine⟨Ia,fp,wr,_,P,St,_,e,W,st,hfp,by simpa using h0,CmpOf.ints_gt (fun i=>ns.getD i 0) fun i v hv=>aD1 (hP i v hv),fun v' h' tk hv kp=>?_⟩;obtain⟨tk',rfl⟩:=aD1 (hP _ _ hv);rw[a5];exact⟨.int i,H,fin h' tk kp,⟨tk',by rw[hb]⟩,k _ H (.refl _ _) tn (by show Rep tw H (.int i) _;rw[Rep])⟩
theorem aX3:∀ {kvs:List (Ky × T)} {ns:List Int} {ws:List (Key × V)} {us:List (Key × Value)},aG6 kvs=some ns->RepK tw H kvs ws->KV ws us->us.length=ns.length/\∀ (i:Nat) (k:Key) (v:Value),us[i]?=some (k,v)->∃t,v = .int (ns.getD i 0) t
 |[],ns,ws,us,e,r,rel=>by cases e;rw[RepK] at r;subst r;cases rel;exact⟨rfl,fun i k v e=>by simp at e⟩
 | (ky,.int x)::rest,ns,ws,us,e,r,rel=>by
  obtain⟨ms,e1,e2⟩:=map_some (show (aG6 rest).map _=_ from e);cases e2;rw[RepK] at r;obtain⟨v,r',rfl,h,q⟩:=r;rw[Rep] at h;cases rel with
  | cons a b =>
   rename_i p ps;obtain⟨l,g⟩:=aX3 e1 q b;refine⟨by simp[l],fun i k u e=>?_⟩;cases i with
   | zero =>
    simp at e;subst e;obtain⟨_,a2⟩:=a;subst h;obtain⟨t,a2⟩:=a2;exact⟨t,a2⟩
   |succ i=>simpa using g i k u (by simpa using e)
 |(_,.non)::_,_,_,_,e,_,_=>by cases e
 |(_,.bl _)::_,_,_,_,e,_,_=>by cases e
 |(_,.str _)::_,_,_,_,e,_,_=>by cases e
 |(_,.tup _)::_,_,_,_,e,_,_=>by cases e
 |(_,.lst _)::_,_,_,_,e,_,_=>by cases e
 |(_,.dic _)::_,_,_,_,e,_,_=>by cases e
 |(_,.town)::_,_,_,_,e,_,_=>by cases e
def ViewW(X:Cx)(pins:List ZL)(O:St)(H:Hp)(ns:List Int)(A':jY)(s:jR)(u:Value):Prop :=
 ∀E,wpAny ZC A' (kK u) (fun it s₂=>∃Ia fp wr P St,it = .ref Ia/\Walks X.prog X.w A' Ia fp wr ns.length P St/\St 0 s₂.heap/\(∀b∈fp,b<s₂.heap.objs.size)/\(∀i u,P i u->∃t,u = .int (ns.getD i 0) t) /\
   ∀h' tk,(∀b o,b∉wr->s₂.heap.get? b=some o->h'.get? b=some o)->Inv X pins O H { s₂ with heap:=h',toks:=tk }) E s
theorem se_view{x:Str}{id:String}{g:Pr}{o:Expr}{d0:DE}{p apos cpos pos:Pos}(hh:X.A.handled=none)(ho:SE X tw o d0)(hm:X.mg x=none)(hv:kD x=some (.builtin id))
  (hg1:∀n ts t m,g n ts=some (t,m)->∃kvs ns i,ts = [.dic kvs]/\aG6 kvs=some ns/\t = .int i/\m = .fz/\∀pins O H s u (Q:Value->jR->Prop) E,ViewW X pins O H ns X.A.in1 s u->(∀s' t,Inv X pins O H s'->Q (.int i t) s')->wpAny ZC X.A (call (.builtin id) [u]) Q E s)
  (hg:autoParam (Gl X x) lZ) (hn:autoParam (x ≠ "__name__") l5) (hdb:autoParam ZO l5) (hbase:autoParam (kH o "values" X.env (eval o X.env)=eval o X.env) lZ) (hline:autoParam ((apos.endLine==cpos.line)=true) lZ)
  (he:autoParam (jV [.Call (.Attribute o "values" apos) [] [] cpos] X.env=(false,eval (.Call (.Attribute o "values" apos) [] [] cpos) X.env)::jV [] X.env) lZ) :
  SE X tw (.Call (.Name x p) [.Call (.Attribute o "values" apos) [] [] cpos] [] pos) (dPr g (aAa d0 dNil)):=by
 intro B ρ n t mm n' hd pins s O H Q I ⟨R,k⟩;obtain⟨to,mo,f1,e3⟩:=aNl hd;obtain⟨kvs,ns,i,eo,hi,rfl,rfl,go⟩:=hg1 _ _ _ _ e3;have eo:to = .dic kvs:=by simpa using eo
 subst eo;refine jj (aEe I hg hm hv ?_ hn hdb);refine PyProof.Rows.callWith_builtin1 (Q:=EP X pins O Q) ?_ he rfl;rw[he];refine dS (wpAny_Call_method0_late hbase hline (thn (ho.run f1 I R) fun u s1 ⟨v,H1,I1,r1,a1,R1,c1⟩=>?_));obtain⟨a,ws,rfl,na,ea,xa⟩:=c1.root R1 R.tn;cases r1;obtain⟨z,hnd,us,rel,dd⟩:=aEb I1.hok ea;obtain⟨o1,es1,ep1,ho1,ex1,_⟩:=(show _ from dd)
 refine⟨"dict","dict.values",PySem.F.plainAttrs_dict,PySem.F.slot_dict_values,PySem.F.type_dict_values,dd.typeIs,fun b e=>by cases e;exact⟨o1,ho1,ex1.2.1⟩,fR rfl (PySem.evalArgs_none ?_)⟩;refine call_meetsIn PySem.F.slot_dict_values dd.typeIs PySem.F.entry_dict_values (PySem.F.args_dict_values_1 _) (meets_dict_values (aAz X.prog X.w) a hnd) ⟨⟨us,dd⟩,?_⟩;refine eU ?_;have I2:Inv X pins O H1 { s1 with heap:=s1.heap.push { cls:=.type "dict_values",data:=.fields #[.ref a] } }:=I1.kept (t':=s1.toks) fun b u q=>a0 _ q;have dd2:(s1.heap.push { cls:=.type "dict_values",data:=.fields #[.ref a] }).DictOf (aAz X.prog X.w) a us:=by obtain⟨o1,es1,ep1,q1,q2,q3⟩:=dd;exact⟨o1,es1,ep1,a0 _ q1,q2,q3⟩
 obtain⟨ep,da⟩:=dd2.dictAt;obtain⟨hl,hat⟩:=aX3 hi xa rel;refine go pins O H1 _ _ (EP X pins O Q) X.xe (fun E=>?_) fun s' t I'=>⟨.int i,H1,I',⟨t,rfl⟩,k _ H1 a1 R1.tn (by show Rep tw H1 (.int i) _;rw[Rep])⟩
 have hne:a≠(s1.heap.push { cls:=.type "dict_values",data:=.fields #[.ref a] }).objs.size:=au da.lt_size
 let L:=(s1.heap.push { cls:=.type "dict_values",data:=.fields #[.ref a] }).objs.size
 refine wpAny_pyIter_values ⟨_,af _ rfl,rfl,rfl⟩ da ⟨L,[L,a],[L],fun i v=>∃k,us[i]?=some (k,v),fun i h=>h.IsValIter L a i us.length ep/\h.DictAt (aAz X.prog X.w) a us ep,rfl,?_,⟨⟨_,af _ rfl,rfl,rfl⟩,da.push _⟩,fun b hb=>?_,fun i u hp=>?_,fun h' tk kp=>?_⟩
 ·have:=Walks.dictValues (prog:=X.prog) (w:=X.w) (A:=X.A.in1) (knd:=aAz X.prog X.w) hh L a hne us ep;rw[<-hl];exact this
 ·rw[cp];simp at hb;rcases hb with rfl |rfl
  ·exact eN _
  ·exact c6 da.lt_size
 ·obtain⟨k',hk⟩:=hp;exact hat i k' u hk
 ·exact I2.kept fun b o' e=>kp b o' (by simp;exact au (aj e)) (a0 _ e)
theorem aZw{o:Expr}{d0:DE}{p apos cpos pos:Pos}(hh:X.A.handled=none)(ho:SE X tw o d0)(hm:X.mg "sum" = none)(hg:autoParam (Gl X "sum") lZ)(hbase:autoParam (kH o "values" X.env (eval o X.env)=eval o X.env) lZ)(hline:autoParam ((apos.endLine==cpos.line)=true) lZ)
  (he:autoParam (jV [.Call (.Attribute o "values" apos) [] [] cpos] X.env=(false,eval (.Call (.Attribute o "values" apos) [] [] cpos) X.env)::jV [] X.env) lZ) :
  SE X tw (.Call (.Name "sum" p) [.Call (.Attribute o "values" apos) [] [] cpos] [] pos) (dPr aNs (aAa d0 dNil)):=by
 refine se_view hh ho hm boot_sum (fun n ts t m e=>?_) hg ZE ZE hbase hline he
 match ts,e with
 | [.dic kvs],e =>
  obtain⟨ns,h1,h2⟩:=bind_some (show (aG6 kvs).bind _=_ from e);split at h2
  ·rename_i hb;cases h2;refine⟨kvs,ns,_,rfl,h1,rfl,rfl,fun pins O H s u Q E hW fin=>?_⟩;have hb2:∀x∈ns,-1000000<=x/\x<=1000000:=fun x hx=>by have:=br.mp hb.2 x hx;simpa using this
   refine call_sum_walk (thn (hW E) fun it s₂ ⟨Ia,fp,wr,P,St,e,W,st,hfp,hP,kp⟩=>?_);refine⟨Ia,fp,wr,_,P,St,fun i=>ns.getD i 0,e,W,st,hfp,fun i v hv=>hP i v hv,fun j hj=>?_,fun h' tk t' kp'=>?_⟩
   ·have h1:=hb2 (ns.getD j 0) (by rw[az,ai hj];exact cv _);show InLong (ns.getD j 0)/\_;rw[aJc ns (j+1) hj];have h2:=aXb (ns:=ns.take (j+1)) fun x hx=>hb2 x (eS hx);have h3:((ns.take (j+1)).length:Int)<=100000:=by rw[c7];have:=hb.1;lia
    exact⟨⟨by lia,by lia⟩,⟨by lia,by lia⟩⟩
   ·rw[aJc ns ns.length (a9 _),fJ];exact fin _ _ (kp h' tk kp')
  ·cases h2
end
end L2.Ds
namespace L2.Ds
open PySem PySem.Spec PyProof.Rows
def Rise(xs:Array Nat):Prop:=∀ (i j:Nat) (hi:i<xs.size) (hj:j<xs.size),i<j->xs[i]<xs[j]
theorem aM1{j:Nat}(hr:Rise xs):∀ (fuel lo hi:Nat),hi - lo<=fuel->lo<=hi->hi<=xs.size->(∀i (h:i<xs.size),i<lo->xs[i]<j)->(∀i (h:i<xs.size),hi<=i->j<=xs[i]) ->
  ∃p,SetTable.below.go xs j fuel lo hi=p/\lo<=p/\p<=hi/\(∀i (h:i<xs.size),i<p->xs[i]<j)/\∀i (h:i<xs.size),p<=i->j<=xs[i]
 |0,lo,hi,hf,hl,hs,h1,h2=>⟨lo,rfl,a9 _,hl,h1,fun i h hi'=>h2 i h ZA⟩
 | fuel+1,lo,hi,hf,hl,hs,h1,h2=>by
  unfold SetTable.below.go;by_cases c:lo<hi
  ·rw[if_pos c];have hm:(lo+hi) / 2<xs.size:=by lia
   have hg:xs.getD ((lo+hi) / 2) j=xs[(lo+hi) / 2]:=by simp[Array.getD,hm]
   dsimp only;rw[hg];by_cases d:xs[(lo+hi) / 2]<j
   ·rw[if_pos d]
    obtain⟨p,e,a,b,q1,q2⟩:=aM1 hr fuel ((lo+hi) / 2+1) hi ZA ZA hs (fun i h hi'=>by
     by_cases z:i=(lo+hi) / 2
     ·subst z;exact d
     ·exact gO (hr i _ h hm ZA) d) h2
    exact⟨p,e,by lia,b,q1,q2⟩
   ·rw[if_neg d]
    obtain⟨p,e,a,b,q1,q2⟩:=aM1 hr fuel lo ((lo+hi) / 2) ZA ZA ZA h1 (fun i h hi'=>by
     by_cases z:i=(lo+hi) / 2
     ·subst z;lia
     ·exact ao ZA (c9 (hr _ i hm h ZA)))
    exact⟨p,e,a,by lia,q1,q2⟩
  ·rw[if_neg c];exact⟨lo,rfl,a9 _,hl,h1,fun i h hi'=>h2 i h ZA⟩
theorem aH1(hr:Rise xs)(j:Nat):SetTable.below xs j<=xs.size/\(∀i (h:i<xs.size),i<SetTable.below xs j->xs[i]<j)/\∀i (h:i<xs.size),SetTable.below xs j<=i->j<=xs[i]:=by obtain⟨p,e,_,b,q1,q2⟩:=aM1 hr (j:=j) xs.size 0 xs.size ZA (dm _) (a9 _) (fun i h z=>by lia) (fun i h z=>by lia);have e:SetTable.below xs j=p:=e;rw[e];exact⟨b,q1,q2⟩
def NoPl(xs:Array Nat)(j:Nat):Prop:=xs[SetTable.below xs j]?≠some j
theorem ins_get{α:Type}(xs:Array α)(p:Nat)(x:α)(hp:p<=xs.size):(SetTable.insertAt xs p x).toList=xs.toList.take p++x::xs.toList.drop p:=by unfold SetTable.insertAt;rw[eZ,gE,fg,fg,fD,fD];simp only[iw,gB,be,List.singleton_append];congr 2;exact dq ZJ
theorem aJv:Rise xs↔xs.toList.Pairwise (· < ·):=by
 rw[fE];constructor
 ·intro h i j hi hj hij;simpa using h i j (by simpa using hi) (by simpa using hj) hij
 ·intro h i j hi hj hij;have:=h i j (by simpa using hi) (by simpa using hj) hij;rw[iV,iV] at this;exact this
theorem rise_put{j:Nat}(hr:Rise xs)(hn:NoPl xs j):Rise (SetTable.insertAt xs (SetTable.below xs j) j):=by
 obtain⟨b,q1,q2⟩:=aH1 hr j;have q3:∀i (h:i<xs.size),SetTable.below xs j<=i->j<xs[i]:=fun i h hi=>by
  have:=q2 i h hi;rcases Nat.lt_or_eq_of_le this with z |z
  ·exact z
  ·by_cases e:i=SetTable.below xs j
   ·refine absurd ?_ hn;rw[<-e,d6 h,<-z]
   ·have hlt:SetTable.below xs j<xs.size:=by lia
    have:=hr (SetTable.below xs j) i hlt h ZA;have:=q2 (SetTable.below xs j) hlt (a9 _);lia
 rw[aJv,ins_get _ _ _ b];have hl:=aJv.mp hr;rw[cq];have m1:∀a∈xs.toList.take (SetTable.below xs j),a<j:=fun a ha=>by obtain⟨i,hi,e⟩:=fI.mp ha;rw[c7] at hi;rw[fW] at e;have:=q1 i (by simp at hi;lia) ZA;simp at e;lia
 have m2:∀a∈xs.toList.drop (SetTable.below xs j),j<a:=fun a ha=>by obtain⟨i,hi,e⟩:=fI.mp ha;rw[d8] at hi;rw[fV] at e;have:=q3 (SetTable.below xs j+i) (by simp at hi;lia) ZA;simp at e;lia
 refine⟨hl.sublist (fS _ _),ck.mpr ⟨m2,hl.sublist (fC _ _)⟩,fun a ha c hc=>?_⟩;have:=m1 a ha;rcases ae.mp hc with rfl |hc
 ·exact this
 ·have:=m2 c hc;lia
structure GoodT (led:Bool) (t:kZ):Prop where
 led:t.led=led
 rise:t.plain=true->Rise t.place
theorem GoodT.fresh(led:Bool):GoodT led (.fresh 0 0 led):=⟨rfl,fun _ i j hi=>by simp[SetTable.fresh] at hi⟩
theorem GoodT.standIn{led:Bool}(g:GoodT led t)(n:Nat):GoodT led (t.standIn n):=⟨g.led,fun z=>by cases z⟩
theorem aZ8{t:kZ}{j:Nat}(h:∀i,t.slot j ≠ .live i):NoPl t.place j:=by intro z;refine h (SetTable.below t.place j) ?_;unfold SetTable.slot;dsimp only;rw[z];simp
theorem aNd{t:kZ}{f:Nat->Int}{h:Int}:∀ (fuel:Nat) (p:SetTable.Probe) (j:Nat) (d:Option Nat),(∀x,p.dummy=some x->NoPl t.place x)->SetTable.probe.go t f h fuel p=some (.empty j d)->NoPl t.place j/\∀x,d=some x->NoPl t.place x
 |0,p,j,d,_,e=>by cases e
 | fuel+1,p,j,d,hd,e=>by
  unfold SetTable.probe.go at e;have adv:∀q:SetTable.Probe,(t.advance q).dummy=q.dummy:=fun q=>by unfold SetTable.advance;split<;>rfl
  cases hs:t.slot p.j with
  | empty =>
   rw[hs] at e;cases e;exact⟨aZ8 (fun i z=>by rw[hs] at z;cases z),hd⟩
  | dummy =>
   rw[hs] at e
   exact aNd fuel _ j d (fun x hx=>by
    rw[adv] at hx;cases hx
    exact aZ8 fun i z=>by rw[hs] at z;cases z) e
  | live i =>
   rw[hs] at e;dsimp only at e;split at e
   ·cases e
   ·exact aNd fuel _ j d (fun x hx=>by rw[adv] at hx;exact hd x hx) e
theorem free_no{t:kZ}{h:Int}{j:Nat}{w:Bool}(e:t.freeSlot h=some (j,w)):NoPl t.place j:=by
 unfold SetTable.freeSlot at e;split at e
 ·rename_i j' d hp;cases e;obtain⟨n1,n2⟩:=aNd _ _ _ _ (fun x hx=>by cases hx) hp;cases d with
  |none=>exact n1
  |some x=>exact n2 x rfl
 ·cases e
theorem GoodT.lay{led:Bool}(g:GoodT led t)(es:Array (Int × Value))(h:Int)(x:Value):GoodT led (layNew t es h x).2.1:=by
 unfold layNew;cases e:t.freeSlot h with
 |none=>exact g.standIn _
 | some q =>
  obtain⟨j,w⟩:=q;dsimp only;have g1:GoodT led (t.put j).1:=⟨g.led,fun z=>rise_put (g.rise z) (free_no e)⟩
  unfold SetTable.orStandIn;split
  ·exact g1
  ·exact g1.standIn _
theorem bBp(m:Nat)(f:Nat->Option Nat):((List.range m).filterMap fun j=>(f j).map (j,·)).Pairwise (fun a b=>a.1<b.1):=by
 rw[List.pairwise_filterMap];refine iD.imp fun {a b} hab x hx y hy=>?_;cases ha:f a with
 |none=>rw[ha] at hx;cases hx
 | some u =>
  cases hb:f b with
  |none=>rw[hb] at hy;cases hy
  |some v=>rw[ha] at hx;rw[hb] at hy;cases hx;cases hy;exact hab
theorem GoodT.relay{led:Bool}(g:GoodT led t)(es:Array (Int × Value))(k:Nat):GoodT led (relayAll t es k).2.1:=by
 unfold relayAll;cases e:t.relaid (es.map (·.1)) k with
 |none=>exact g.standIn _
 | some q =>
  obtain⟨t',order⟩:=q;dsimp only;split
  ·unfold SetTable.relaid SetTable.laid at e;obtain⟨owner,_,e2⟩:=bind_some (show (SetTable.layClean _ _).bind _=_ from e);cases e2;refine⟨g.led,fun z=>?_⟩;rw[aJv];dsimp only;rw[eX];exact bBp _ _
  ·exact g.standIn _
theorem aW3(hr:Rise xs){k:Nat}(hk:k<xs.size):SetTable.below xs (xs[k]+1)=k+1:=by
 obtain⟨b,q1,q2⟩:=aH1 hr (xs[k]+1);have h1:k<SetTable.below xs (xs[k]+1):=by
  by_cases c:k<SetTable.below xs (xs[k]+1)
  ·exact c
  ·have:=q2 k hk ZA;lia
 have h2:SetTable.below xs (xs[k]+1)<=k+1:=by
  by_cases c:SetTable.below xs (xs[k]+1)<=k+1
  ·exact c
  ·have hk1:k+1<xs.size:=by lia
   have a1:=q1 (k+1) hk1 ZA;have a2:=hr k (k+1) hk hk1 ZA;lia
 lia
theorem aWs(hr:Rise xs):SetTable.below xs 0=0:=by
 obtain⟨b,q1,q2⟩:=aH1 hr 0;by_cases c:SetTable.below xs 0=0
 ·exact c
 ·have:=q1 0 ZA ZA;lia
def byT(w:World):Bool:=w.params.followText "set-order"
structure SetI (prog:jW) (w:World) (h:Heap) (a:Addr) (es:Array (Int × Value)) (ep:Nat) (t:kZ):Prop where
 obj:∃o,h.get? a=some o/\o.ExactSet/\o.data = .set es ep t
 bd:es.size<kI
 fit:t.fits es.size=true
 good:GoodT (!byT w) t
theorem SetI.kept{ep:Nat}(g:SetI prog w h a es ep t)(k:∀o,h.get? a=some o->h'.get? a=some o):SetI prog w h' a es ep t:=by obtain⟨o,h1,h2⟩:=g.obj;exact⟨⟨o,k o h1,h2⟩,g.bd,g.fit,g.good⟩
structure SetG (prog:jW) (w:World) (h:Heap) (a:Addr) (es:Array (Int × Value)) (ep:Nat) (t:kZ):Prop where
 obj:∃o,h.get? a=some o/\o.ExactSet/\o.data = .set es ep t
 el:ElemsOf (j9 prog w) es.toList
 bd:es.size<kI
 fit:t.fits es.size=true
 good:GoodT (!byT w) t
theorem SetG.i{ep:Nat}(g:SetG prog w h a es ep t):SetI prog w h a es ep t:=⟨g.obj,g.bd,g.fit,g.good⟩
section
variable {prog:jW}{w:World}{A:jY}{E:Value->jR->Prop}{s:jR}{a:Addr}{es:Array (Int × Value)}{ep:Nat}{t:kZ}
theorem SetG.kept(g:SetG prog w h a es ep t)(k:∀o,h.get? a=some o->h'.get? a=some o):SetG prog w h' a es ep t:=by obtain⟨o,h1,h2⟩:=g.obj;exact⟨⟨o,k o h1,h2⟩,g.el,g.bd,g.fit,g.good⟩
theorem SetG.store(g:SetG prog w h a es ep t)(el:ElemsOf (j9 prog w) es'.toList)(bd:es'.size<kI)(fit:t'.fits es'.size=true)(good:GoodT (!byT w) t') :
  SetG prog w (h.update a (Obj.putSet es' t')) a es' (ep+1) t':=by
 obtain⟨o,h1,h2,h3⟩:=g.obj;have:=dN (Obj.putSet es' t') h1 (by rw[putSet_of es' t' h3];rfl);rw[putSet_of es' t' h3] at this;exact⟨⟨_,this,h2,rfl⟩,el,bd,fit,good⟩
theorem addG{v:Int}{Q:Bool->jR->Prop}(g:SetG prog w s.heap a es ep t)(room:es.size+1<kI)
  (h1:(∃e∈es.toList,(j9 prog w).is v e.2=true)->Q false s)
  (h2:(¬ ∃e∈es.toList,(j9 prog w).is v e.2=true)->∀h' es' ep' t',Heap.SameBut a s.heap h'->SetG prog w h' a es' ep' t'->es'.toList.Perm (es.toList ++ [((j9 prog w).hash v,.int v tk)])->Q true { s with heap:=h' }) :
  wpAny ZG A (setAddHashed a (.int v tk) ((j9 prog w).hash v)) Q E s:=by
 have hkey:(j9 prog w).is v (.int v tk)=true:=intKind_is _ _ _ _;obtain⟨o,ho,hex,hd⟩:=g.obj;unfold setAddHashed setAddHashedIn;refine j5 (jP (kQ ho hd g.fit ?_));dsimp only;rw[byScan_of (x:=.int v tk) rfl g.bd g.el,if_pos rfl];unfold setAddByScan;refine jP (jP (jf (jP (wpAny_setScan_of hkey ho hd g.fit g.el ?_))));cases hr:List.findIdx? (fun e=>(j9 prog w).is v e.2) es.toList with
 | some j =>
  obtain⟨hj,hp,_⟩:=gF.mp hr;exact jQ (jQ (h1 ⟨_,cv hj,hp⟩))
 | none =>
  have no:¬ ∃e∈es.toList,(j9 prog w).is v e.2=true:=fun ⟨e,he,hp⟩=>by have:=gn.mp hr e he;rw[hp] at this;cases this
  have k2:=h2 no;have p1:=layNew_perm t es ((j9 prog w).hash v) (.int v tk);have f1:=layNew_fits t es ((j9 prog w).hash v) (.int v tk);have g1:=g.good.lay es ((j9 prog w).hash v) (.int v tk);dsimp only;generalize layNew t es ((j9 prog w).hash v) (.int v tk)=L at p1 f1 g1 |-;obtain⟨es1,t1,wd,gv⟩:=L;dsimp only at p1 f1 g1 |-;rw[gE] at p1;have sz:es1.size=es.size+1:=by rw[<-aw,p1.length_eq];simp
  have el1:ElemsOf (j9 prog w) es1.toList:=(g.el.push hkey rfl).perm p1;have way:∀ (b:Bool) {s₁:jR} {Q':Unit->jR->Prop},Q' () s₁->wpAny ZG A (match b with |true=>rule "set.scan.the-table-gave-way" |false=>pure ()) Q' E s₁:=fun b s₁ Q' hq=>by
   cases b
   ·exact jQ hq
   ·exact jf hq
  have b1:es1.size<kI:=by omega
  have S1:SetG prog w (s.heap.update a (Obj.putSet es1 t1)) a es1 (ep+1) t1:=g.store el1 b1 f1 g1;have sb1:=Heap.SameBut.update s.heap a (Obj.putSet es1 t1)
  have tail:wpAny ZG A (do
    storeSet a es1 t1
    if (!wd&&t1.tooFull)=true then do
      (match (relayAll t1 es1 (SetTable.grown es1.size)).2.2 with |true=>rule "set.scan.the-table-gave-way" |false=>pure ())
      storeSet a (relayAll t1 es1 (SetTable.grown es1.size)).1 (relayAll t1 es1 (SetTable.grown es1.size)).2.1
      pure (some true)
     else pure (some true)) (fun r s'=>r=some true/\Q true s') E s:=by
   refine jP (wpAny_storeSet_of ho hd ?_ (kR b1));split
   ·have p2:=relayAll_perm t1 es1 (SetTable.grown es1.size);have f2:=relayAll_fits t1 es1 (SetTable.grown es1.size);have g2:=g1.relay es1 (SetTable.grown es1.size);generalize relayAll t1 es1 (SetTable.grown es1.size)=Rl at p2 f2 g2 |-;obtain⟨es2,t2,gv2⟩:=Rl;dsimp only at p2 f2 g2 |-;have sz2:es2.size=es1.size:=by rw[<-aw,p2.length_eq,aw]
    have b2:es2.size<kI:=by omega
    obtain⟨o1,ho1,_,hd1⟩:=S1.obj;refine jP (way _ (jP (wpAny_storeSet_of ho1 hd1 ?_ (kR b2))));exact jQ ⟨rfl,k2 _ es2 _ t2 (sb1.trans (Heap.SameBut.update _ a _)) (S1.store (el1.perm p2) b2 f2 g2) (p2.trans p1)⟩
   ·exact jQ ⟨rfl,k2 _ es1 _ t1 sb1 S1 p1⟩
  refine jP (way _ ?_);have eq1:hashByValue 8 (.int v tk)=pure true:=rfl;split
  ·rw[eq1];refine jP (jQ ?_);simp only[if_true];refine j8 tail (fun r s' z=>?_) fun _ _ e=>e;obtain⟨rfl,z⟩:=z;exact jQ z
  ·refine jP (jQ ?_);simp only[if_true];refine j8 tail (fun r s' z=>?_) fun _ _ e=>e;obtain⟨rfl,z⟩:=z;exact jQ z
end
def SetK(prog:jW)(w:World)(h:Heap)(a:Addr)(ks:List Int):Prop:=∃es ep t,SetG prog w h a es ep t/\jb (es.toList.map (·.2)) ks/\ks.Nodup
section
variable {prog:jW}{w:World}{A:jY}{E:Value->jR->Prop}{s:jR}{a:Addr}
theorem SetK.kept(g:SetK prog w h a ks)(k:∀o,h.get? a=some o->h'.get? a=some o):SetK prog w h' a ks:=by obtain⟨es,ep,t,g1,g2⟩:=g;exact⟨es,ep,t,g1.kept k,g2⟩
theorem aJ4(h:jb us ks)(p:us'.Perm us):∃ks',jb us' ks'/\ks'.Perm ks:=by refine⟨us'.map numOf,intsAre_map us' fun v hv=>h.all v (p.mem_iff.mp hv),?_⟩;have:=p.map numOf;rwa [h.nums] at this
theorem aRq(h:jb us ks)(v:Int):(∃u∈us,(j9 prog w).is v u=true)↔v∈ks:=by
 induction h with
 |nil=>simp
 | cons n t r ih =>
  have e:(j9 prog w).is v (.int n t)=true↔v=n:=by show Value.isInt v (.int n t)=true↔v=n;simp[Value.isInt];exact eq_comm
  rw[ae,<-ih];constructor
  ·rintro⟨u,hu,z⟩;rcases ae.mp hu with rfl |hu
   ·exact .inl (e.mp z)
   ·exact .inr ⟨u,hu,z⟩
  ·rintro(z |⟨u,hu,z⟩)
   ·exact⟨_,a7 ..,e.mpr z⟩
   ·exact⟨u,a6 _ hu,z⟩
theorem ints_snoc:∀ {us:List Value} {ks:List Int},jb us ks->∀ (v:Int) (tk:Tok),jb (us ++ [.int v tk]) (ks ++ [v])
 |_,_,.nil,v,tk=>.cons v tk .nil
 |_,_,.cons n t r,v,tk=>.cons n t (ints_snoc r v tk)
theorem addK{v:Int}{Q:Bool->jR->Prop}(g:SetK prog w s.heap a ks)(room:ks.length+1<kI)
  (h:∀h' ks',Heap.SameBut a s.heap h'->SetK prog w h' a ks'->(∀x,x∈ks'↔x∈ks\/x=v)->ks'.length<=ks.length+1->∀b,Q b { s with heap:=h' }) :
  wpAny ZG A (setAddHashed a (.int v tk) ((j9 prog w).hash v)) Q E s:=by
 obtain⟨es,ep,t,g1,g2,g3⟩:=g;have hl:es.size=ks.length:=by rw[<-g2.length];simp
 have ex:(∃e∈es.toList,(j9 prog w).is v e.2=true)↔v∈ks:=by
  rw[<-aRq (prog:=prog) (w:=w) g2 v];constructor
  ·rintro⟨e,he,z⟩;exact⟨e.2,bw he,z⟩
  ·rintro⟨u,hu,z⟩;obtain⟨e,he,rfl⟩:=b7.mp hu;exact⟨e,he,z⟩
 refine addG g1 ZA (fun z=>?_) fun z h' es' ep' t' sb S p=>?_
 ·have:s = { s with heap:=s.heap }:=rfl;rw[this];refine h s.heap ks (Heap.SameBut.refl a s.heap) ⟨es,ep,t,g1,g2,g3⟩ (fun x=>⟨.inl,fun q=>q.elim id fun q=>by rw[q];exact ex.mp z⟩) (jK _) false
 ·have p2:=p.map (·.2);rw[c5] at p2;have g4:jb (es.toList.map (·.2) ++ [.int v tk]) (ks ++ [v]):=ints_snoc g2 v tk;obtain⟨ks',q1,q2⟩:=aJ4 g4 p2;refine h h' ks' sb ⟨es',ep',t',S,q1,?_⟩ (fun x=>by rw[q2.mem_iff];simp) (by rw[q2.length_eq];simp) true;rw[q2.nodup_iff,gG];refine⟨g3,by simp,fun x hx y hy e=>?_⟩;simp at hy;subst hy e;exact z (ex.mpr hx)
theorem set_loop{P:Nat->Value->Prop}{St:Nat->Heap->Prop}{ns:List Int}(W:Walks prog w A.in1 I fp wr ns.length P St)(hS:a∉fp)(hP:∀i v,P i v->∃t,v = .int (ns.getD i 0) t)(hb:ns.length+1<kI) :
  ∀ (k i:Nat) (s:jR) (ks:List Int),ns.length - i=k->i<=ns.length->St i s.heap->SetK prog w s.heap a ks->(∀x,x∈ks↔x∈ns.take i)->ks.length<=i ->
   (∀h' tk ks',(∀b o,b≠a->b∉wr->s.heap.get? b=some o->h'.get? b=some o)->SetK prog w h' a ks'->(∀x,x∈ks'↔x∈ns)->R (.ok (.ret .none)) { s with heap:=h',toks:=tk }) ->
   kF ZG A (.builtin "set.update.loop" ⟨[.ref a,.ref I],[]⟩) R s:=by
 have hw:a∉wr:=fun z=>hS (W.sub _ z);intro k
 induction k with
 | zero =>
  intro i s ks hk hi st g hm hl fin;have e:i=ns.length:=by lia
  subst e;refine jl F.entry_set_update_loop ?_;rw[Around.under_plainId F.plain_set_update_loop _];refine jP (m:=kN (.ref I)) (W.done s _ _ st fun h' tk kp=>?_);exact jQ (fin h' tk ks (fun b o _ nb z=>kp b o nb z) (g.kept fun o z=>kp a o hw z) fun x=>by rw[hm x,fJ])
 | succ k ih =>
  intro i s ks hk hi st g hm hl fin;have hlt:i<ns.length:=by lia
  refine jl F.entry_set_update_loop ?_;rw[Around.under_plainId F.plain_set_update_loop _];refine jP (m:=kN (.ref I)) (W.item i s _ _ hlt st fun v h' tk hv st' kp=>?_);obtain⟨t,rfl⟩:=hP i v hv;refine jP (m:=kL [Value.int (ns.getD i 0) t] (setAdd a (.int (ns.getD i 0) t))) (j5 ?_);unfold setAdd;refine j5 (jP ((j9 prog w).pyHash (k:=ns.getD i 0) (intKind_is _ _ _ _) ?_));refine addK (s:={ s with heap:=h',toks:=tk+1 }) (g.kept fun o z=>kp a o hw z) ZA fun h2 ks2 sb g2 m2 l2 b=>?_;refine jQ ⟨jn F.plain_set_update_loop _,ih (i+1) _ ks2 ZA hlt (W.frame _ _ _ st' fun b hb o z=>?_) g2 (fun x=>?_) ZA fun h3 tk3 ks3 kp3 g3 m3=>?_⟩
  ·show h2.get? b=some o;rw[sb.2 b (fun q=>hS (by rw[<-q];exact hb))];exact z
  ·rw[m2 x,hm x,iM,ci,ai hlt];have:ns.getD i 0=ns[i]:=by simp[List.getD,hlt]
   rw[this];simp
  ·refine fin h3 tk3 ks3 (fun b o nb nw z=>kp3 b o nb nw ?_) g3 m3;show h2.get? b=some o;rw[sb.2 b nb];exact kp b o nw z
end
end L2.Ds
section
set_option maxHeartbeats 8000000
namespace L2.Ds
open PySem PySem.Spec PyProof.Rows
section
variable {prog:jW}{w:World}{A:jY}{E:Value->jR->Prop}{s:jR}
abbrev aA9(w:World):Obj:={ cls:=.type "set",dict:=none,data:=.set #[] 0 (.fresh 0 0 (!byT w)) }
theorem new_led(x:Value)(h:Q₁ (.ref s.heap.objs.size) { s with heap:=s.heap.push (aA9 w) }) :
  kF ZG A (.call (.builtin "set.__new__") ⟨[.type "set",x],[]⟩) (wants Q₁ E) s:=by
 refine codeAny_of_tree (show wpAny _ A.in1 (do checkBuiltinCall "set.__new__" ⟨[.type "set",x],[]⟩;again (.builtin "set.__new__" ⟨[.type "set",x],[]⟩)) _ _ s from ?_)
 refine jP (lA (F.newCall_set_1 x) (jQ ⟨jn F.plain_set_new _,jl F.entry_set_new (by
  rw[Around.under_plainId F.plain_set_new _];unfold Builtin.«set.__new__» Builtin.Frozenset.newClass;have hsub:=sub_set_self;obtain⟨hp,g,d,tk,os⟩:=s;dsimp only;wp_walk;refine k6 (jQ ?_);dsimp only;simp only[newObj]
  exact jP (wpAny_alloc (jQ (jQ h))))⟩))
theorem aTe(hg:h.get? a=some (aA9 w)):SetK prog w h a [] :=
 ⟨#[],0,_,⟨⟨_,hg,⟨rfl,rfl,rfl⟩,rfl⟩,fun e he=>by simp at he,by decide,rfl,.fresh _⟩,.nil,.nil⟩
theorem set_go{items:Array Value}{P:Nat->Value->Prop}{St:Nat->Heap->Prop}(hol:s.heap.get? l=some ol)(hi:jb items.toList ns)(hb:ns.length+1<kI)
  (W:Walks prog w A.in1 (s.heap.push (aA9 w)).objs.size [(s.heap.push (aA9 w)).objs.size,l] [(s.heap.push (aA9 w)).objs.size] ns.length P St) (st:St 0 ((s.heap.push (aA9 w)).push oi)) (hP:∀i v,P i v->items[i]?=some v)
  (fin:∀h' tk ks,SetK prog w h' s.heap.objs.size ks->(∀x,x∈ks↔x∈ns)->(∀b o,s.heap.get? b=some o->h'.get? b=some o)->R (.ok (.ret .none)) { s with heap:=h',toks:=tk }) :
  kF ZG A (.builtin "set.update.loop" ⟨[.ref s.heap.objs.size,.ref (s.heap.push (aA9 w)).objs.size],[]⟩) R { s with heap:=(s.heap.push (aA9 w)).push oi }:=by
 have hS:(s.heap.push (aA9 w)).get? s.heap.objs.size=some (aA9 w):=af _ rfl;have hlS:l<s.heap.objs.size:=aj hol;have hSf:s.heap.objs.size ∉ [(s.heap.push (aA9 w)).objs.size,l]:=by rw[cp];simp;exact f9 hlS
 refine set_loop W hSf (fun i v hv=>IntsAre.int_at hi i v (by rw[bj];exact hP i v hv)) hb ns.length 0 _ [] ZM (dm _) st (aTe (a0 _ hS)) (fun x=>by simp) ZJ fun h' tk ks kp g m=>fin h' tk ks g m fun b o z=>?_;have hb:=aj z;exact kp b o (au hb) (by rw[cp];simp;exact au (c6 hb)) (a0 _ (a0 _ z))
theorem set_of(hc:c = "list" \/ c = "tuple"){nl:Nat}(hh:A.handled=none)(hol:s.heap.get? l=some ol)(hcl:ol.cls = .type c)(hdl:ol.data = .seq items nl)(hi:jb items.toList ns)(hb:ns.length+1<kI)
  (h:∀ (h':Heap) (tk:Nat) (ks:List Int),SetK prog w h' s.heap.objs.size ks->(∀x,x∈ks↔x∈ns)->(∀b o,s.heap.get? b=some o->h'.get? b=some o)->Q (.ref s.heap.objs.size) { s with heap:=h',toks:=tk }) :
  wpAny ZG A (call (.type "set") [.ref l]) Q E s:=by
 have hlen:items.size=ns.length:=by rw[<-hi.length];simp
 obtain⟨c',tl,hmro⟩:=F.called_set.mro;have hmade:=F.called_set.made;have hsub:=F.called_set.sub;refine wpAny_call (codeAny_of_tree (show wpAny _ _ (callAny (.type "set") _) _ _ _ from jQ ⟨Code.quiet_builtin _ (by decide +kernel),jl F.entry_type_call ?_⟩));rw[Around.under_plain (weight_type_call_type "set" [.ref l] []) rfl];have k1:=F.called_set.notType;have k2:=F.called_set.canCreate;have k3:=F.typeCall_set_1 (.ref l)
 repeat (any_goals (first |assumption |wp_step))
 refine kh (new_led (.ref l) (E:=E) (Q₁:=fun obj s₁=>obj = .ref s.heap.objs.size/\s₁ = { s with heap:=s.heap.push (aA9 w) }) ⟨rfl,rfl⟩) fun r s₁ hr=>?_;cases r with
 |error e=>exact hr
 | ok fl =>
  cases fl with
  | ret obj =>
   obtain⟨rfl,rfl⟩:=hr;have hS:(s.heap.push (aA9 w)).get? s.heap.objs.size=some (aA9 w):=af _ rfl;have hT:Shared.TypeIs { s with heap:=s.heap.push (aA9 w) } (.ref s.heap.objs.size) "set":=⟨_,hS,rfl⟩
   have k4:=F.called_set.init.lookup;have k5:=F.called_set.init.bind (.ref s.heap.objs.size)
   repeat (any_goals (first |assumption |wp_step))
   refine kh (codeAny_call_builtin (R:=wants (fun r s₂=>r = .none/\∃h' tk ks,s₂ = { s with heap:=h',toks:=tk }/\SetK prog w h' s.heap.objs.size ks/\(∀x,x∈ks↔x∈ns)/\(∀b o,s.heap.get? b=some o->h'.get? b=some o)) E) F.called_set.init.plain F.entry_set_init (check_set_init_1 hT ?_)) fun r₂ s₂ hr₂=>?_
   ·have hol':(s.heap.push (aA9 w)).get? l=some ol:=a0 _ hol;have hneI:l≠(s.heap.push (aA9 w)).objs.size:=by rw[cp];exact au (c6 (aj hol))
    have hh3:A.in1.in1.in1.handled=none:=by simp[hh]
    obtain⟨ocls,odict,odata,oslots⟩:=ol;simp only at hcl hdl;subst hcl;subst hdl;rcases hc with rfl |rfl
    ·have q1:=F.sub_list_set;have q2:=F.sub_list_frozenset;have q3:(Value.type "list" == Value.type "dict")=false:=by decide
     have hl1:(s.heap.push (aA9 w)).IsList l items:=⟨_,hol',rfl,nl,rfl⟩
     unfold Builtin.«set.__init__» noKeywords Builtin.Frozenset.updateFrom;generalize hPI:kK=PI
     wp_walk
     subst hPI;refine kr hl1 (jP (wpAny_runValue ?_));have W:=Walks.list (prog:=prog) (w:=w) hh3 _ l hneI items;rw[hlen] at W;exact set_go hol hi hb W ⟨⟨_,af _ rfl,rfl,rfl⟩,hl1.push _⟩ (fun i v z=>z) fun h' tk ks g m kp=>jQ (jQ ⟨rfl,h',tk,ks,rfl,g,m,kp⟩)
    ·have q1:isSubtype (.type "tuple") (.type "set")=pure false:=by rw[kq];kernel_rfl
     have q2:isSubtype (.type "tuple") (.type "frozenset")=pure false:=by rw[kq];kernel_rfl
     have q3:(Value.type "tuple" == Value.type "dict")=false:=by decide
     have hl1:(s.heap.push (aA9 w)).IsTuple l items:=⟨_,hol',rfl,nl,rfl⟩
     unfold Builtin.«set.__init__» noKeywords Builtin.Frozenset.updateFrom;generalize hPI:kK=PI
     wp_walk
     subst hPI;refine lR hl1 (jP (wpAny_runValue ?_));have W:=Walks.tuple (prog:=prog) (w:=w) hh3 _ l hneI items;rw[hlen] at W;exact set_go hol hi hb W ⟨⟨_,af _ rfl,rfl,rfl⟩,let ⟨o,ho,r⟩:=hl1;⟨o,a0 _ ho,r⟩⟩ (fun i v z=>z) fun h' tk ks g m kp=>jQ (jQ ⟨rfl,h',tk,ks,rfl,g,m,kp⟩)
   ·cases r₂ with
    |error e=>exact hr₂
    | ok fl₂ =>
     cases fl₂ with
     | ret r =>
      obtain⟨rfl,h',tk,ks,rfl,g,m,kp⟩:=hr₂
      repeat (any_goals (first |assumption |wp_step))
      exact h _ _ _ g m kp
     |_=>exact hr₂.elim
  |_=>exact hr.elim
end
end L2.Ds
end
section
set_option maxHeartbeats 1000000
namespace L2.Ds
open PySem PySem.Spec PyProof.Rows
theorem own_si:Manifest.owners.lookup (String.ofList ['r','o','t','a','r','e','t','i','_','t','e','s'].reverse)=some Manifest.sig_set_iterator:=by kernel_rfl
theorem aFe:Slot "set_iterator" "__next__" "set_iterator.__next__" :=
 .of (owner:="set_iterator") (n:="__next__") (by rw[lI,kU];kernel_rfl) (by decide +kernel) (by decide +kernel) (by decide +kernel) (by first |exact .inl (by decide +kernel) |exact .inr (by decide +kernel)) (by rw[kq];kernel_rfl)
theorem aV9:entryFor table "set_iterator.__next__" = some Builtin.«set_iterator.__next__»:=entryFor_of_tree (by kernel_rfl)
theorem bAf(a:Value):argsOk "set_iterator.__next__" ⟨[a],[]⟩:=by unfold argsOk;rw[signature?_of (id:="set_iterator.__next__") (n:=['_','_','t','x','e','n','_','_']) (o:=['r','o','t','a','r','e','t','i','_','t','e','s']) (by kernel_rfl) own_si];kernel_rfl
theorem aYj:entryFor table "set.__iter__" = some Builtin.«frozenset.__iter__»:=entryFor_alias (id':="frozenset.__iter__") (by kernel_rfl) rfl (by decide +kernel) (by kernel_rfl)
abbrev sit(f:Value)(i:Nat)(a:Addr)(n ep:Nat):Obj:={ cls:=.type "set_iterator",data:=.fields #[f,jc i,.ref a,jc n,jc ep] }
section
variable {prog:jW}{w:World}{A:jY}{E:Value->jR->Prop}{s:jR}{I a:Addr}{es:Array (Int × Value)}{ep i:Nat}{t:kZ}
theorem aTv{α:Type}{Q:α->jR->Prop}(hh:A.handled=none)(h:∀e h',(∀b o,s.heap.get? b=some o->h'.get? b=some o)->Shared.TypeIs { s with heap:=h' } e "StopIteration" -> E e { s with heap:=h' }):wpAny ZG A (newExc (.type "StopIteration") [] >>= fun e=>(raiseNew e:Sem α)) Q E s:=by refine jP ?_;simp only[newExc,newTuple];refine jP (jZ ?_ (by size_fits));refine jP (m:=lP _ _) (lA (a:=Value.none) (by first |rfl |(simp only[lP];rfl)) ?_);refine jZ ?_ (by size_fits);simp only[raiseNew];refine jP (wpAny_handled ?_);rw[hh];exact jP (jQ (wpAny_throw (h (.ref _) _ (fun b o z=>a0 _ (a0 _ z)) ⟨_,af _ rfl,rfl⟩)))
theorem aFt{slot ept:Nat}(g:SetI prog w s.heap a es ep t)(hd:byT w=false->(!t.plain&&decide (es.size > 1))=false)(hep:ept=ep)
  (h1:byT w=true->Q (((km (w.params.setOrder a ep) es)[i]?).map fun e=>(e.2,slot)) s)
  (h2:byT w=false->Q (match es[SetTable.below t.place slot]?,t.place[SetTable.below t.place slot]? with |some (_,x),some j=>some (x,j+1) |_,_=>none) s):wpAny ZG A (setNext a slot i ept) Q E s:=by
 subst hep;obtain⟨o,ho,hx,hdt⟩:=g.obj;unfold setNext setsByText;refine jP (kQ ho hdt g.fit ?_);dsimp only;refine jP (jP (k6 (jQ ?_)));show wpAny _ _ (if byT w=true then _ else _) _ _ s;cases hb:byT w with
 | true =>
  rw[if_pos rfl,if_neg ZJ];unfold setWalk setsByText;refine jP (jP (kQ ho hdt g.fit ?_));dsimp only;refine jP (jP (k6 (jQ ?_)));show wpAny _ _ (if byT w=true then _ else _) _ _ s;rw[hb,if_pos rfl];refine jP (k6 (jQ (jQ (h1 hb))))
 | false =>
  rw[if_neg ZJ];have e1:=hd hb;have e2:t.led=true:=by rw[g.good.led,hb];rfl
  show wpAny _ _ (if (!t.plain&&decide (es.size > 1))=true then _ else _) _ _ s;rw[e1,if_neg ZE];refine jP ?_;wp_delta;rw[e2,if_neg ZJ];exact jQ (jQ (h2 hb))
theorem aNq{slot:Nat}{r:Option (Value × Nat)}{Q:Option Value->jR->Prop}(hh:A.handled=none)(hit:s.heap.get? I=some (sit (jc slot) i a es.size ep))(g:SetI prog w s.heap a es ep t)
  (hn:∀ (A':jY) (E':Value->jR->Prop) (Q':Option (Value × Nat)->jR->Prop),Q' r s->wpAny ZG A' (setNext a slot i ep) Q' E' s)
  (h1:∀x nx,r=some (x,nx)->∀h',h'.get? I=some (sit (jc nx) (i+1) a es.size ep)->Heap.SameBut I s.heap h'->Q (some x) { s with heap:=h' })
  (h2:r=none->∀h',(∀b o,b≠I->s.heap.get? b=some o->h'.get? b=some o)->Q none { s with heap:=h' }):wpAny (model prog w) A (kN (.ref I)) Q E s:=by
 have hT:s.TypeIs (.ref I) "set_iterator":=⟨_,hit,rfl⟩
 obtain⟨o,ho,hx,hdt⟩:=g.obj;unfold kN;refine jP (k8 (je (name:=Str.ofString "__next__") hT aFe (j3 aFe hT aV9 ?_ (bAf _))));unfold Builtin.«set_iterator.__next__»;refine jP (jQ (jP (wpAny_fieldsOf hit rfl ?_)));dsimp only;refine jP (lN ho hdt g.fit ?_);rw[if_neg ZJ];simp only[jc,du];refine jP (hn _ _ _ ?_);cases r with
 | some q =>
  obtain⟨x,nx⟩:=q;dsimp only;refine jP (jo hit rfl ZJ (jP ?_));have hit2:=dN (Obj.mapFields (·.setIfInBounds 0 (jc nx))) hit rfl;refine jo hit2 rfl ZJ (jQ ⟨_,rfl,jQ (h1 x nx rfl _ ?_ ((Heap.SameBut.update ..).trans (Heap.SameBut.update ..)))⟩);exact dN _ hit2 rfl
 | none =>
  dsimp only;refine jP (jo hit rfl ZJ (aTv (by simpa using hh) fun e h' kp tI=>?_));refine jP (jy (T:="StopIteration") (b:=true) tI isSubtype_stop (jQ (h2 rfl h' fun b o nb z=>kp b o ?_)));rw[(Heap.SameBut.update s.heap I _).2 b nb];exact z
theorem aWi{tp:Addr}{ot:Obj}{pl:Array Value}{m:Nat}{Q:Option Value->jR->Prop}(hh:A.handled=none)(hit:s.heap.get? I=some (sit (.ref tp) i a es.size ep))(g:SetI prog w s.heap a es ep t)(hot:s.heap.get? tp=some ot)(hct:ot.cls = .type "tuple")(hdt':ot.data = .seq pl m)
  (h1:∀p,pl[i]?=some (jc (p:Nat))->∃hx x,es[p]?=some (hx,x)/\∀h',h'.get? I=some (sit (.ref tp) (i+1) a es.size ep)->Heap.SameBut I s.heap h'->Q (some x) { s with heap:=h' })
  (h0:pl[i]?=none\/∃p:Nat,pl[i]?=some (jc p))
  (h2:pl[i]?=none->∀h',(∀b o,b≠I->s.heap.get? b=some o->h'.get? b=some o)->Q none { s with heap:=h' }):wpAny (model prog w) A (kN (.ref I)) Q E s:=by
 have hT:s.TypeIs (.ref I) "set_iterator":=⟨_,hit,rfl⟩
 obtain⟨o,ho,hx,hdt⟩:=g.obj;unfold kN;refine jP (k8 (je (name:=Str.ofString "__next__") hT aFe (j3 aFe hT aV9 ?_ (bAf _))));unfold Builtin.«set_iterator.__next__»;refine jP (jQ (jP (wpAny_fieldsOf hit rfl ?_)));dsimp only;refine jP (lN ho hdt g.fit ?_);rw[if_neg ZJ];refine jP (kJ hot hdt' ?_);simp only[jc,du];rcases h0 with hn |⟨p,hp⟩
 ·simp only[hn];refine jP (jo hit rfl ZJ (jP ?_));have hit2:=dN (Obj.mapFields (·.setIfInBounds 0 (jc 0))) hit rfl;refine jo hit2 rfl ZJ (aTv (by simpa using hh) fun e h' kp tI=>?_);refine jP (jy (T:="StopIteration") (b:=true) tI isSubtype_stop (jQ (h2 hn h' fun b o nb z=>kp b o ?_)));rw[(Heap.SameBut.update _ I _).2 b nb,(Heap.SameBut.update s.heap I _).2 b nb];exact z
 ·obtain⟨hx',x,e,k⟩:=h1 p hp;simp only[hp,jc,du];unfold setNextDrawn;refine jP (jP (kQ ho hdt g.fit ?_));dsimp only;rw[if_neg ZJ,e];refine jQ (jP (jo hit rfl ZJ (jQ ⟨_,rfl,jQ (k _ ?_ (Heap.SameBut.update ..))⟩)));exact dN _ hit rfl
end
end L2.Ds
end
section
set_option maxHeartbeats 1000000
namespace L2.Ds
open PySem PySem.Spec PyProof.Rows
theorem aHu{α:Type}:∀ {l:List α} {i:Nat} (h:i<l.length),(l[i]::l.eraseIdx i).Perm l
 |[],i,h=>by simp at h
 |x::l,0,h=>.refl _
 |x::l,i+1,h=>by rw[List.getElem_cons_succ,List.eraseIdx_cons_succ];exact(List.Perm.swap _ _ _).trans ((aHu (by simpa using h)).cons x)
theorem aY6{α:Type}(f:Nat->Nat):∀ (fuel k:Nat) (left:List α) (out:Array α),fuel=left.length->(pickOrder.go f fuel k left out).toList.Perm (out.toList++left)
 |0,k,left,out,h=>by have:left = []:=hV.mp h.symm;subst this;unfold pickOrder.go;simp
 |fuel+1,k,left,out,h=>by unfold pickOrder.go;have hl:f k%left.length<left.length:=Nat.mod_lt _ ZA;rw[ai hl];dsimp only;refine(aY6 f fuel (k+1) _ _ (by rw[gi hl];lia)).trans ?_;rw[gE,be];exact List.Perm.append_left _ (aHu hl)
theorem aKv{α:Type}(f:Nat->Nat)(xs:Array α):(km f xs).toList.Perm xs.toList:=by have:=aY6 f xs.size 0 xs.toList #[] ZJ;simpa[km] using this
section
variable {prog:jW}{w:World}{A:jY}{E:Value->jR->Prop}{s:jR}{I a:Addr}{es:Array (Int × Value)}{ep i:Nat}{t:kZ}
theorem aXh{n:Nat}{Q:Nat->jR->Prop}(hn:n≠0)(h:∀k d,k<n->Q k { s with drawn:=d }):wpAny ZG A (choose src n) Q E s:=by intro Γ p hΓ;show Sem.wp _ _ (.choose src n _) _ _ _ _;rw[Sem.wp_choose];refine⟨hn,?_⟩;exact jQ (h _ _ (Nat.mod_lt _ ZA)) Γ p hΓ
theorem aUz{α:Type}:∀ (n:Nat) (xs:List α) (s:jR) (Q:List α->jR->Prop),n=xs.length->(∀l d,l.Perm xs->Q l { s with drawn:=d })->wpAny (model prog w) A (drawOrder n xs) Q E s
 |0,xs,s,Q,e,h=>by have:xs = []:=hV.mp e.symm;subst this;unfold drawOrder;exact jQ (h [] s.drawn (.refl _))
 |n+1,[],s,Q,e,h=>by cases e
 |n+1,x::xs,s,Q,e,h=>by unfold drawOrder;refine jP (aXh ZJ fun k d hk=>?_);rw[ai hk];dsimp only;refine jP (aUz n _ _ _ (by rw[gi hk];lia) fun l d' p=>jQ ?_);exact h _ d' ((p.cons _).trans (aHu hk))
theorem aVi:Slot "set_iterator" "__iter__" "set_iterator.__iter__" :=
 .of (owner:="set_iterator") (n:="__iter__") (by rw[lI,kU];kernel_rfl) (by decide +kernel) (by decide +kernel) (by decide +kernel) (by first |exact .inl (by decide +kernel) |exact .inr (by decide +kernel)) (by rw[kq];kernel_rfl)
theorem args_sii(a:Value):argsOk "set_iterator.__iter__" ⟨[a],[]⟩:=by unfold argsOk;rw[signature?_of (id:="set_iterator.__iter__") (n:=['_','_','r','e','t','i','_','_']) (o:=['r','o','t','a','r','e','t','i','_','t','e','s']) (by kernel_rfl) own_si];kernel_rfl
theorem aX2:entryFor table "set_iterator.__iter__" = some Builtin.«dict_keyiterator.__iter__»:=entryFor_alias (id':="dict_keyiterator.__iter__") (by kernel_rfl) rfl (by decide +kernel) (by kernel_rfl)
theorem aTi{o:Obj}{Q:Value->jR->Prop}(ho:s.heap.get? I=some o)(hc:o.cls = .type "set_iterator")(h:Q (.ref I) s):wpAny ZG A (kK (.ref I)) Q E s:=by
 have hT:s.TypeIs (.ref I) "set_iterator":=⟨_,ho,hc⟩
 refine lW hT aVi (j3 aVi hT aX2 (show wpAny _ _ (ret (.ref I)) _ _ s from ?_) (args_sii _));exact jQ ⟨_,rfl,"set_iterator",_,hT,aFe.lookup,h⟩
def slotAt(pl:Array Nat):Nat->Nat
 |0=>0
 |i+1=>pl.getD i 0+1
theorem aMe(hr:Rise pl)(hi:i<=pl.size):SetTable.below pl (slotAt pl i)=i:=by
 cases i with
 |zero=>exact aWs hr
 | succ i =>
  have h:i<pl.size:=by lia
  have e:slotAt pl (i+1)=pl[i]+1:=by unfold slotAt;simp[Array.getD,h]
  rw[e];exact aW3 hr h
theorem aTh(hb:byT w=false)(hr:Rise t.place)(hd:(!t.plain&&decide (es.size > 1))=false)(hh:A.handled=none)(hIa:I≠a) :
  Walks prog w A I [I,a] [I] es.size (fun i v=>(es.toList.map (·.2))[i]?=some v) (fun i h=>h.get? I=some (sit (jc (slotAt t.place i)) i a es.size ep)/\SetI prog w h a es ep t) where
 sub:=fun b hb=>by simp at hb;simp[hb]
 frame:=fun i h h' st k=>⟨k I ZJ _ st.1,st.2.kept fun o z=>k a ZJ o z⟩
 item:=fun i s Q E hi st hQ=>by
  have hsz:t.place.size=es.size:=by have:=st.2.fit;simp[SetTable.fits] at this;exact this.1
  have hp:i<t.place.size:=by lia
  refine aNq (r:=some (es[i].2,t.place[i]+1)) hh st.1 st.2 (fun A' E' Q' q=>aFt st.2 (fun _=>hd) rfl (fun z=>by rw[hb] at z;cases z) fun _=>?_) (fun x nx e h' h1 sb=>?_) fun z=>by cases z
  ·rw[aMe hr ZA,d6 hi,d6 hp];exact q
  ·cases e;refine hQ _ h' s.toks (by simp[hi]) ⟨?_,st.2.kept fun o z=>by rw[sb.2 a (Ne.symm hIa)];exact z⟩ fun b o nb z=>by rw[sb.2 b (by simpa using nb)];exact z
   rw[h1];simp[slotAt,Array.getD,hp]
 done:=fun s Q E st hQ=>by
  have hsz:t.place.size=es.size:=by have:=st.2.fit;simp[SetTable.fits] at this;exact this.1
  refine aNq (r:=none) hh st.1 st.2 (fun A' E' Q' q=>aFt st.2 (fun _=>hd) rfl (fun z=>by rw[hb] at z;cases z) fun _=>?_) (fun x nx e=>by cases e) fun _ h' kp=>hQ h' s.toks fun b o nb z=>kp b o (by simpa using nb) z;rw[aMe hr ZA,gK ZA];exact q
 self:=fun _ s Q E st hQ=>aTi st.1 rfl hQ
theorem bAs(hb:byT w=true)(hh:A.handled=none)(hIa:I≠a) :
  Walks prog w A I [I,a] [I] es.size (fun i v=>((km (w.params.setOrder a ep) es).toList.map (·.2))[i]?=some v) (fun i h=>h.get? I=some (sit (jc (0:Nat)) i a es.size ep)/\SetI prog w h a es ep t) where
 sub:=fun b hb=>by simp at hb;simp[hb]
 frame:=fun i h h' st k=>⟨k I ZJ _ st.1,st.2.kept fun o z=>k a ZJ o z⟩
 item:=fun i s Q E hi st hQ=>by
  have hpl:(km (w.params.setOrder a ep) es).size=es.size:=by have:=(aKv (w.params.setOrder a ep) es).length_eq;simpa using this
  have hp:i<(km (w.params.setOrder a ep) es).size:=by lia
  refine aNq (r:=some ((km (w.params.setOrder a ep) es)[i].2,0)) hh st.1 st.2 (fun A' E' Q' q=>aFt st.2 (fun z=>by rw[hb] at z;cases z) rfl (fun _=>?_) fun z=>by rw[hb] at z;cases z) (fun x nx e h' h1 sb=>?_) fun z=>by cases z
  ·rw[d6 hp];exact q
  ·cases e;exact hQ _ h' s.toks (by simp[hp]) ⟨h1,st.2.kept fun o z=>by rw[sb.2 a (Ne.symm hIa)];exact z⟩ fun b o nb z=>by rw[sb.2 b (by simpa using nb)];exact z
 done:=fun s Q E st hQ=>by
  have hpl:(km (w.params.setOrder a ep) es).size=es.size:=by have:=(aKv (w.params.setOrder a ep) es).length_eq;simpa using this
  refine aNq (r:=none) hh st.1 st.2 (fun A' E' Q' q=>aFt st.2 (fun z=>by rw[hb] at z;cases z) rfl (fun _=>?_) fun z=>by rw[hb] at z;cases z) (fun x nx e=>by cases e) fun _ h' kp=>hQ h' s.toks fun b o nb z=>kp b o (by simpa using nb) z;rw[gK ZA];exact q
 self:=fun _ s Q E st hQ=>aTi st.1 rfl hQ
theorem aWw{tp:Addr}{l:List Nat}(hl:l.Perm (List.range es.size))(hh:A.handled=none)(hIa:I≠a)(hIt:I≠tp) :
  Walks prog w A I [I,a,tp] [I] es.size (fun i v=>(l.map fun p=>((es[p]?).map (·.2)).getD .none)[i]?=some v) (fun i h=>h.get? I=some (sit (.ref tp) i a es.size ep)/\SetI prog w h a es ep t/\∃m,h.get? tp=some { cls:=.type "tuple",data:=.seq (l.map fun (i:Nat)=>jc i).toArray m }) where
 sub:=fun b hb=>by simp at hb;simp[hb]
 frame:=fun i h h' st k=>⟨k I ZJ _ st.1,st.2.1.kept fun o z=>k a ZJ o z,let ⟨m,z⟩:=st.2.2;⟨m,k tp ZJ _ z⟩⟩
 item:=fun i s Q E hi st hQ=>by
  obtain⟨s1,s2,m,s3⟩:=st;have hll:l.length=es.size:=by rw[hl.length_eq];simp
  have hil:i<l.length:=by lia
  have hlt:l[i]<es.size:=by simpa using hl.mem_iff.mp (cv hil)
  have hp:(l.map fun (i:Nat)=>jc i).toArray[i]?=some (jc l[i]):=by simp[hil]
  refine aWi hh s1 s2 s3 rfl rfl (fun p e=>?_) (.inr ⟨_,hp⟩) fun z=>by rw[hp] at z;cases z
  rw[hp] at e;have e:((l[i]:Nat):Int)=p:=by simpa[jc] using e
  have e:l[i]=p:=by lia
  subst e;refine⟨es[l[i]].1,es[l[i]].2,by simp[hlt],fun h' h1 sb=>hQ _ h' s.toks (by simp[hil,hlt]) ⟨h1,s2.kept fun o z=>by rw[sb.2 a (Ne.symm hIa)];exact z,m,by rw[sb.2 tp (Ne.symm hIt)];exact s3⟩ fun b o nb z=>by rw[sb.2 b (by simpa using nb)];exact z⟩
 done:=fun s Q E st hQ=>by
  obtain⟨s1,s2,m,s3⟩:=st;have hll:l.length=es.size:=by rw[hl.length_eq];simp
  have hp:(l.map fun (i:Nat)=>jc i).toArray[es.size]?=none:=by simp[hll]
  exact aWi hh s1 s2 s3 rfl rfl (fun p e=>by rw[hp] at e;cases e) (.inl hp) fun _ h' kp=>hQ h' s.toks fun b o nb z=>kp b o (by simpa using nb) z
 self:=fun _ s Q E st hQ=>aTi st.1 rfl hQ
end
end L2.Ds
end
section
set_option maxHeartbeats 1000000
namespace L2.Ds
open PySem PySem.Spec PyProof.Rows
section
variable {prog:jW}{w:World}{A:jY}{E:Value->jR->Prop}{s:jR}{a:Addr}{es:Array (Int × Value)}{ep:Nat}{t:kZ}
def SetIt(prog:jW)(w:World)(s:jR)(a:Addr)(us:List Value)(it:Value)(s₂:jR):Prop :=
 ∃ (vs:List Value) (I:Addr) (fp:List Addr) (St:Nat->Heap->Prop) (d:Drawn),it = .ref I/\vs.Perm us/\s.heap.objs.size<=I/\(∀b∈fp,b=a\/s.heap.objs.size<=b)/\(∀A',A'.handled=none->Walks prog w A' I fp [I] vs.length (fun i v=>vs[i]?=some v) St)/\St 0 s₂.heap /\
  (∀b o,s.heap.get? b=some o->s₂.heap.get? b=some o)/\s₂ = { s with heap:=s₂.heap,drawn:=d }
theorem aY1(h:b ∈ [n,a]):b=a\/n<=b:=by
 rcases ae.mp h with rfl |h
 ·exact .inr (a9 _)
 ·exact .inl (by simpa using h)
theorem set_iter(g:SetI prog w s.heap a es ep t):wpAny ZG A (kK (.ref a)) (SetIt prog w s a (es.toList.map (·.2))) E s:=by
 obtain⟨o,ho,hx,hdt⟩:=g.obj;have hT:s.TypeIs (.ref a) "set":=⟨_,ho,hx.1⟩
 have ha:a<s.heap.objs.size:=aj ho;have hsz:t.place.size=es.size:=by have:=g.fit;simp[SetTable.fits] at this;exact this.1
 refine lW hT F.slot_set_iter (j3 F.slot_set_iter hT aYj ?_ (F.args_set_iter_1 _));unfold Builtin.«frozenset.__iter__»;refine jP (m:=Builtin.Frozenset.slot0 _ _) (jQ (jP ?_));unfold Builtin.Frozenset.sizeOf;refine jP (lN ho hdt g.fit (jQ (jP ?_)));unfold setDrawn setsByText;refine jP (kQ ho hdt g.fit ?_);dsimp only;refine jP (jP (k6 (jQ (jQ ?_))));show wpAny _ _ (if (!byT w&&(!t.plain&&decide (es.size > 1)))=true then _ else _) _ _ s;cases hb:byT w with
 | true =>
  rw[if_neg ZJ];refine jP (jQ (jP (lX ho hdt g.fit (jP (jZ (jQ ⟨_,rfl,"set_iterator",_,⟨_,af _ rfl,rfl⟩,aFe.lookup,?_⟩))))));have hp:=(aKv (w.params.setOrder a ep) es).map (·.2);refine⟨_,s.heap.objs.size,[s.heap.objs.size,a],fun i h=>h.get? s.heap.objs.size=some (sit (jc (0:Nat)) i a es.size ep)/\SetI prog w h a es ep t,s.drawn,rfl,hp,a9 _,fun b hb'=>aY1 hb',fun A' hh=>?_,⟨af _ rfl,g.kept fun o z=>a0 _ z⟩,fun b o z=>a0 _ z,rfl⟩;have W:=bAs (prog:=prog) (es:=es) (t:=t) (ep:=ep) hb hh (f9 ha);rw[hp.length_eq];simpa using W
 | false =>
  cases hd:(!t.plain&&decide (es.size > 1)) with
  | false =>
   rw[if_neg ZJ];refine jP (jQ (jP (lX ho hdt g.fit (jP (jZ (jQ ⟨_,rfl,"set_iterator",_,⟨_,af _ rfl,rfl⟩,aFe.lookup,?_⟩))))));have hr:Rise t.place:=by
    cases hpl:t.plain with
    |true=>exact g.good.rise hpl
    | false =>
     rw[hpl] at hd;intro i j hi hj hij;have:¬es.size > 1:=by simpa using hd
     omega
   refine⟨_,s.heap.objs.size,[s.heap.objs.size,a],fun i h=>h.get? s.heap.objs.size=some (sit (jc (slotAt t.place i)) i a es.size ep)/\SetI prog w h a es ep t,s.drawn,rfl,.refl _,a9 _,fun b hb'=>aY1 hb',fun A' hh=>?_,⟨af _ rfl,g.kept fun o z=>a0 _ z⟩,fun b o z=>a0 _ z,rfl⟩;have W:=aTh (prog:=prog) (es:=es) (t:=t) (ep:=ep) hb hr hd hh (f9 ha);simpa using W
  | true =>
   rw[if_pos ZJ];refine jP (aUz es.size (List.range es.size) s _ ZJ fun l d hl=>?_);have hll:l.length=es.size:=by rw[hl.length_eq];simp
   refine jP (wpAny_newTuple ?_ (by rw[a5,hll];exact kR g.bd));have g2:SetI prog w (s.heap.push (j7 "tuple" (l.map fun (i:Nat)=>jc i).toArray 0)) a es ep t:=g.kept fun o z=>a0 _ z;obtain⟨o2,ho2,hx2,hdt2⟩:=g2.obj;refine jP (lX ho2 hdt2 g.fit (jP (jZ (jQ ⟨_,rfl,"set_iterator",_,⟨_,af _ rfl,rfl⟩,aFe.lookup,?_⟩))));have hp:(l.map fun p=>((es[p]?).map (·.2)).getD .none).Perm (es.toList.map (·.2)):=by
    refine(hl.map _).trans ?_;have:(List.range es.size).map (fun p=>((es[p]?).map (·.2)).getD .none)=es.toList.map (·.2):=by
     refine List.ext_getElem ZJ fun i h1 h2=>?_;have:i<es.size:=by simpa using h1
     simp[this]
    rw[this]
   refine⟨_,(s.heap.push (j7 "tuple" (l.map fun (i:Nat)=>jc i).toArray 0)).objs.size,[(s.heap.push (j7 "tuple" (l.map fun (i:Nat)=>jc i).toArray 0)).objs.size,a,s.heap.objs.size],fun i h=>h.get? (s.heap.push (j7 "tuple" (l.map fun (i:Nat)=>jc i).toArray 0)).objs.size=some (sit (.ref s.heap.objs.size) i a es.size ep)/\SetI prog w h a es ep t/\∃m,h.get? s.heap.objs.size=some { cls:=.type "tuple",data:=.seq (l.map fun (i:Nat)=>jc i).toArray m },d,rfl,hp,by rw[cp];exact jK _,fun b hb'=>?_,fun A' hh=>?_,⟨af _ rfl,g2.kept fun o z=>a0 _ z,0,a0 _ (af _ rfl)⟩,fun b o z=>a0 _ (a0 _ z),rfl⟩
   ·simp at hb';rcases hb' with z |z |z
    ·right;rw[z];exact jK _
    ·exact .inl z
    ·right;rw[z];exact a9 _
   ·have W:=aWw (prog:=prog) (w:=w) (es:=es) (t:=t) (ep:=ep) hl hh (I:=(s.heap.push (j7 "tuple" (l.map fun (i:Nat)=>jc i).toArray 0)).objs.size) (a:=a) (tp:=s.heap.objs.size) (by rw[cp];exact f9 (c6 ha)) (by rw[cp];exact f9 (eN _));rw[a5,hll];exact W
theorem len_set:typeLookup (.type "set") "__len__" = pure (some (.builtin "set.__len__")):=by rw[lI,kU];kernel_rfl
theorem hint_set(hT:s.TypeIs (.ref a) "set"){Q:Bool->jR->Prop}(h:Q false s):wpAny ZG A (Builtin.List.listLengthHint (.ref a)) Q E s:=by unfold Builtin.List.listLengthHint;refine jP (lK hT len_set ?_);generalize hid:("set.__len__" : String)=id0;wp_delta;rw[show splitId id0=some ("set","__len__") from by subst hid;decide +kernel];subst hid;refine jP (jy (T:="set") (b:=true) hT (by rw[kq];kernel_rfl) ?_);refine wpAny_ite_split (fun z=>absurd z ZE) fun _=>wpAny_ite_split (fun _=>jP (kE hT (jQ h))) fun z=>absurd (by decide +kernel) z
theorem aWy(hh:A.handled=none)(g:SetI prog w s.heap a es ep t)(S:Addr)(hSa:S≠a)(res:Value)(c₀:Nat)(hS:s.heap.get? S=some { cls:=.type "list",data:=.seq #[] c₀ })
  (hR:∀h' tk d acc c vs,(∀b o,b≠S->s.heap.get? b=some o->h'.get? b=some o)->h'.get? S=some { cls:=.type "list",dict:=none,data:=.seq acc c,slots:=#[] }->vs.Perm (es.toList.map (·.2))->acc.toList=vs->R (.ok (.ret res)) { s with heap:=h',toks:=tk,drawn:=d }) :
  wpAny ZG A.in1 (Builtin.List.listExtendWith (.ref S) (.ref a) res)
   (fun fin s'=>match fin with |.done f=>R (.ok f) s' |.again c'=>c'.quiet=true/\kF ZG A c' R s') (fun e s'=>R (.error e) s') s:=by
 obtain⟨o,ho,hx,hdt⟩:=g.obj;have hT:s.TypeIs (.ref a) "set":=⟨_,ho,hx.1⟩
 have hSl:=aj hS;unfold Builtin.List.listExtendWith;refine jP (kE (T:="set") hT ?_);simp only[show Builtin.List.listSameRef (.ref S) (.ref a)=false from by simp[Builtin.List.listSameRef,hSa],show (Value.type "set" == Value.type "list")=false from by decide,show (Value.type "set" == Value.type "tuple")=false from by decide,Bool.or_false,bu,if_false];refine jP (j8 (set_iter g) (fun it s₂ z=>?_) fun _ _ e=>e);obtain⟨vs,I,fp,St,d,rfl,hp,hI,hfp,hW,st,kp,e₂⟩:=z;obtain⟨h₂,g₂,d₂,k₂,o₂⟩:=s₂;cases e₂;have hSf:S∉fp:=fun z=>by rcases hfp S z with q |q;exact hSa q;exact absurd hSl (jO.mpr q)
 have W:=hW A.in1 hh;have hvl:vs.length<=jU:=by rw[hp.length_eq];simp;exact kR g.bd
 have hS2:=kp S _ hS;have key:∀ (h:Heap) (c₁ tk:Nat),St 0 h->(∀b o,b≠S->s.heap.get? b=some o->h.get? b=some o)->h.get? S=some { cls:=.type "list",data:=.seq #[] c₁ }->kF ZG A (.builtin "list.extend.loop" ⟨[.ref S,.ref I,res],[]⟩) R { s with heap:=h,toks:=tk,drawn:=d }:=by
  intro h c₁ tk hst hk hS₁;refine codeAny_extend_loopS W.toS hvl S hSf res vs.length 0 _ #[] c₁ rfl (dm _) hst hS₁ (ItemsOf.nil _) fun s' acc' c' hm hS' hacc=>?_;have e:=Moved.eq_with hm;rw[e];refine hR s'.heap s'.toks d acc' c' vs (fun b o nb z=>hm.heap b o (fun q=>?_) (hk b o nb z)) hS' hp ?_
  ·rcases ae.mp q with q |q
   ·exact nb q
   ·have hlt:=aj z;have q:b=I:=by simpa using q
    rw[q] at hlt;exact absurd hlt (jO.mpr hI)
  ·refine jD fun i=>?_;by_cases hi:i<acc'.size
   ·have:=hacc.2 i acc'[i] (by simp[hi]);rw[this,bj];simp[hi]
   ·have h1:acc'.toList[i]?=none:=by simp;omega
    have h2:vs[i]?=none:=by have:=hacc.1;simp;omega
    rw[h1,h2]
 refine jP (j5 (hint_set (let ⟨o,z,q⟩:=hT;⟨o,kp a o z,q⟩) ?_));refine wpAny_ite_split (fun _=>?_) (fun _=>jQ ⟨jn PySem.F.plain_extend_loop _,key _ c₀ _ st (fun b o _ z=>kp b o z) hS2⟩);refine jP (jf (jP (show wpAny _ _ (updateSeq S (·.push .none) >>= fun _=>updateSeq S (·.pop)) _ _ _ from ?_)));have q2:=dN (Obj.mapSeq (·.push Value.none)) hS2 rfl;have q3:=dN (Obj.mapSeq (·.pop)) q2 rfl;refine jP (kG hS2 rfl (kG (hz:=by seq_fits) q2 rfl (jQ ⟨jn PySem.F.plain_extend_loop _,key _ _ _ ?_ (fun b o nb z=>?_) q3⟩)))
 ·refine W.frame 0 _ _ st fun b hb o z=>?_;have nb:b≠S:=fun q=>hSf (q▸hb);exact(dZ _ _ (Ne.symm nb)).trans ((dZ _ _ (Ne.symm nb)).trans z)
 ·exact(dZ _ _ (Ne.symm nb)).trans ((dZ _ _ (Ne.symm nb)).trans (kp b o z))
theorem aUe(hh:A.handled=none)(g:SetI prog w s.heap a es ep t)
  (h:∀h' tk d vs,(∀b o,s.heap.get? b=some o->h'.get? b=some o)->vs.Perm (es.toList.map (·.2))->R vs { s with heap:=h',toks:=tk,drawn:=d }):wpAny (model prog w) A (collect (.ref a)) R E s:=by
 obtain⟨o,ho,hx,hdt⟩:=g.obj;have ha:=aj ho;unfold collect;refine jP (wpAny_runValue (jl PyProof.Rows.entry_proto_collect' ?_));rw[Around.under_plainId PySem.F.plain_proto_collect _];refine(show wpAny _ A.in1 (newList [] >>= fun l=>again (.builtin "list.__iadd__" ⟨[l,.ref a],[]⟩)) _ _ s from jP (jZ (jQ ⟨jn PySem.F.plain_list_iadd _,jl PyProof.Rows.entry_list_iadd' ?_⟩)));rw[Around.under_plainId PySem.F.plain_list_iadd _];have hS₁:(s.heap.push { cls:=.type "list",data:=.seq ([]:List Value).toArray }).get? s.heap.objs.size=some { cls:=.type "list",data:=.seq #[] }:=af _ rfl;have key:=aWy (A:=A) (s:={ s with heap:=s.heap.push { cls:=.type "list",data:=.seq ([]:List Value).toArray } })
  (R:=fun (q:Result) (s':jR)=>∃h' tk d acc c vs,q = .ok (.ret (.ref s.heap.objs.size))/\s' = { s with heap:=h',toks:=tk,drawn:=d }/\(∀b o,s.heap.get? b=some o->h'.get? b=some o)/\h'.get? s.heap.objs.size=some { cls:=.type "list",dict:=none,data:=.seq acc c,slots:=#[] }/\vs.Perm (es.toList.map (·.2))/\acc.toList=vs)
  hh (g.kept fun o z=>a0 _ z) s.heap.objs.size (f9 ha) (.ref s.heap.objs.size) 0 hS₁
  (fun h' tk d acc c vs k1 k2 k3 k4=>⟨h',tk,d,acc,c,vs,rfl,rfl,fun b o z=>k1 b o (au (aj z)) (a0 _ z),k2,k3,k4⟩)
 have fin:∀ {q:Result} {s':jR},(∃h' tk d acc c vs,q = .ok (.ret (.ref s.heap.objs.size))/\s' = { s with heap:=h',toks:=tk,drawn:=d }/\(∀b o,s.heap.get? b=some o->h'.get? b=some o)/\h'.get? s.heap.objs.size=some { cls:=.type "list",dict:=none,data:=.seq acc c,slots:=#[] }/\vs.Perm (es.toList.map (·.2))/\acc.toList=vs)->True:=fun _=>trivial;refine j8 key (fun f s' x=>?_) fun e s' x=>?_
 ·cases f with
  | done f =>
   obtain⟨h',tk,d,acc,c,vs,e,rfl,k1,k2,k3,rfl⟩:=x;cases e;exact(show wpAny _ A (load s.heap.objs.size >>= _) _ _ _ from jP (wpAny_load k2 (jQ (h h' tk d _ k1 k3))))
  | again c₁ =>
   refine⟨x.1,kh x.2 fun q s₂ y=>?_⟩;obtain⟨h',tk,d,acc,c,vs,rfl,rfl,k1,k2,k3,rfl⟩:=y;exact(show wpAny _ A (load s.heap.objs.size >>= _) _ _ _ from jP (wpAny_load k2 (jQ (h h' tk d _ k1 k3))))
 ·obtain⟨_,_,_,_,_,_,e',_⟩:=x;cases e'
end
end L2.Ds
end
namespace L2.Ds
open PySem PySem.Spec PyProof.Rows L2.Tm
theorem _root_.L2.Inv.drawnTo(I:Inv X pins O H s)(d:Drawn):Inv X pins O H { s with drawn:=d }:=⟨I.ok,I.os,I.bare,I.base,I.loc,I.cell,I.free,I.freeC,I.pin,I.hok,I.len⟩
theorem aKy(x:Int):∀ns:List Int,x∈aF5 ns↔x∈ns
 |[]=>by simp[aF5]
 | n::ns=>by
  have ih:=aKy x ns;unfold aF5 at ih |-;rw[List.foldr_cons];split
  ·rename_i h;rw[ih,ae];exact⟨.inr,fun z=>z.elim (fun e=>by rw[e];exact(aKy n ns).mp h) id⟩
  ·rw[ae,ae,ih]
theorem aKl:∀ns:List Int,(aF5 ns).Nodup
 |[]=>by simp[aF5]
 | n::ns=>by
  have ih:=aKl ns;unfold aF5 at ih |-;rw[List.foldr_cons];split
  ·exact ih
  ·rename_i h;exact dY.mpr ⟨h,ih⟩
section
variable {X:Cx}{tw:Addr}
theorem set_eval{n n1:Nat}(hh:X.A.handled=none)(h:SE X tw e d)(hm2:X.mg "set" = none)(hg2:Gl X "set")(he2:jV [e] X.env=(false,eval e X.env)::jV [] X.env)
  (e1:aAa d dNil ρ n=some (ts,n1)) (hi:aK9 n1 ts=some ns) (I:Inv X pins O H s) (R:Rel X.K B tw ρ n O H)
  (k:∀s' H' a ks,Inv X pins O H' s'->Ext tw H H'->Rel X.K B tw ρ n1 O H'->SetK X.prog X.w s'.heap a ks->ks.Perm (aF5 ns)->Q (.ref a) s') :
  wpAny ZC X.A (eval (.Call (.Name "set" p2) [e] [] pos2) X.env) Q X.xe s:=by
 refine jj (aEe I hg2 hm2 boot_set ?_ ZE ZE);refine PyProof.Rows.callWith_type1 ?_ he2 rfl;rw[he2];obtain⟨⟨to,mo,no⟩,f1,f2⟩:=bind_some e1;cases f2;refine dS (thn (h.run f1 I R) fun u s1 ⟨v,H1,I1,r1,a1,R1,c1⟩=>eU ?_);have rt:=c1.root R1 R.tn;have fin:∀ {c:String} {l:Addr} {ol:Obj} {items:Array Value} {nl:Nat},(c = "list" \/ c = "tuple")->s1.heap.get? l=some ol->ol.cls = .type c->ol.data = .seq items nl->jb items.toList ns->ns.length+1<4096->wpAny ZC X.A (call (.type "set") [.ref l]) Q X.xe s1:=fun hc ho hcl hd hI hb=>by
  refine set_of hc hh ho hcl hd hI (by unfold kI;exact hb) fun h' tk ks g m kp=>?_;have I2:Inv X pins O H1 { s1 with heap:=h',toks:=tk }:=I1.kept kp;have nd:ks.Nodup:=by obtain⟨_,_,_,_,_,z⟩:=g;exact z
  exact k _ H1 _ ks I2 a1 R1 g ((List.perm_ext_iff_of_nodup nd (aKl ns)).mpr fun x=>by rw[m x,aKy])
 match to,hi,rt with
 | .lst xs,hi,rt =>
  obtain⟨ns',h1,h2⟩:=bind_some (show (intsOf xs).bind _=_ from hi);split at h2
  ·rename_i hb;cases h2;obtain⟨l,vs,rfl,sq,rp⟩:=rt;cases r1;have hx:=aA6 h1;subst hx;cases aCu rp;obtain⟨its,rv,pl,hz⟩:=I1.list sq.sq;obtain⟨o,ho,hc,m,hd⟩:=pl.isList;exact fin (.inl rfl) ho hc hd (by simpa using aBw rv) hb
  ·cases h2
 | .tup xs,hi,rt =>
  obtain⟨ns',h1,h2⟩:=bind_some (show (intsOf xs).bind _=_ from hi);split at h2
  ·rename_i hb;cases h2;obtain⟨l,vs,rfl,ea,rp⟩:=aBc rt;cases r1;have hx:=aA6 h1;subst hx;cases aCu rp;obtain⟨its,rv,⟨o,ho,hc,m,hd⟩,hz⟩:=I1.tuple (SqT.of (K:=X.K) ea);exact fin (.inr rfl) ho hc hd (by simpa using aBw rv) hb
  ·cases h2
theorem aW2{e:Expr}{d:DE}{p p2 pos pos2:Pos}(hh:X.A.handled=none)(h:SE X tw e d)(hm:X.mg "sorted" = none)(hm2:X.mg "set" = none)(hg:autoParam (Gl X "sorted") lZ)(hg2:autoParam (Gl X "set") lZ)(he2:autoParam (jV [e] X.env=(false,eval e X.env)::jV [] X.env) lZ)
  (he:autoParam (jV [.Call (.Name "set" p2) [e] [] pos2] X.env=(false,eval (.Call (.Name "set" p2) [e] [] pos2) X.env)::jV [] X.env) lZ) :
  SE X tw (.Call (.Name "sorted" p) [.Call (.Name "set" p2) [e] [] pos2] [] pos) (dPr aJm (aAa d dNil)):=by
 intro B ρ n t mm n' hd pins s O H Q I ⟨R,k⟩;obtain⟨⟨ts,n1⟩,e1,e2⟩:=bind_some hd;obtain⟨⟨t1,m1⟩,e3,e4⟩:=map_some e2;cases e4;obtain⟨ns,hi,e5⟩:=map_some (show (aK9 n1 ts).map _=_ from e3);cases e5;refine jj (aEe I hg hm kz ?_ ZE ZE);refine PyProof.Rows.callWith_builtin1 (Q:=EP X pins O Q) ?_ he rfl;rw[he];refine dS (set_eval hh h hm2 hg2 he2 e1 hi I R fun s1 H1 a ks I1 x1 R1 g pk=>eU ?_);obtain⟨es,ep,tt,g1,g2,g3⟩:=g;refine aHx (aUe (A:=X.A.in1) hh g1.i fun h' tk dd vs kp pv=>?_);obtain⟨ks',q1,q2⟩:=aJ4 g2 pv;have hl:vs.length<=jU:=by rw[pv.length_eq];simp;exact kR g1.bd
 refine⟨_,hl,aJz q1,fun h'' xs' ee kp2 hx hp hsr=>?_⟩;obtain⟨p2',e2'⟩:=aGa (aNr q1) hp hsr;have I2:Inv X pins O H1 { s1 with heap:=h',toks:=tk,drawn:=dd }:=(I1.kept kp).drawnTo dd;have hf:H1 h'.objs.size=none:=I2.hok.fresh (a9 _);obtain⟨ks2,w1,w2⟩:=aJ4 q1 p2';have eks:ks2=sortI (aF5 ns):=by
  have z:=aNr (h:=h') w1;rw[z,bBx] at e2';have:ks2=sortI ks':=by have:=congrArg (List.map fun l:List Int=>l.headD 0) e2';simpa[b6,Function.comp_def] using this
  rw[this];exact aI3 ((sortI_perm ks').trans (q2.trans pk)) (aCb ks')
 subst eks;have I3:=I2.laid (a:=h'.objs.size) (o:=.lst ((sortI (aF5 ns)).map V.int)) (t':=tk) (h':=h'') kp2 (a9 _) ⟨by rw[a5,<-w1.length,p2'.length_eq];exact hl,(xs'.map (·.2)).toList,ee,aJh w1,by rw[eR];exact hx⟩;exact⟨.ref h'.objs.size,_,I3,rfl,k _ _ (x1.trans (.new hf)) (R1.tn.new hf) ⟨_,rfl,x1.free R1.tn hf,_,aAj,Reps.ints _⟩⟩
end
end L2.Ds
namespace L2.Ds
open PySem PySem.Spec PyProof.Rows
section
variable {X:Cx}{tw:Addr}
theorem neg_inv{k:Nat}(e3:pNeg k [to]=some (t1,m1)):∃i,to = .int i/\t1 = .int (-i)/\m1 = .fz:=by
 match to,e3 with
 |.int i,e3=>cases e3;exact⟨i,rfl,rfl,rfl⟩
theorem se_usub{e:Expr}{d:DE}{pos:Pos}(h:SE X tw e d):SE X tw (.UnaryOp .USub e pos) (dPr pNeg (aAa d dNil)):=by intro B ρ n t mm n' hd pins s O H Q I ⟨R,k⟩;obtain⟨to,mo,f1,e3⟩:=aNl hd;obtain⟨i,rfl,rfl,rfl⟩:=neg_inv e3;refine pe_un un_neg (h B ρ n (.int i) mo _ f1) pins s O H Q I ⟨R,fun v H' x y z=>?_⟩;have:=aAt (z.root (R.mono x y) R.tn);subst this;exact⟨i,rfl,k _ H' x y (by show Rep tw H' (.int _) _;rw[Rep])⟩
theorem aVj(h:aH4 t=true)(r:Rep tw H t v):aLd v=true:=by
 cases t with
 |non=>rw[Rep] at r;subst r;rfl
 |bl b=>rw[Rep] at r;subst r;rfl
 |int i=>rw[Rep] at r;subst r;rfl
 |str x=>rw[Rep] at r;subst r;rfl
 |_=>cases h
theorem flat_eq(h:aH4 t=true)(h':aH4 t'=true)(r:Rep tw H t v)(r':Rep tw H t' v'):eqV v v'=eqT t t':=by
 cases t with
 | non=>cases t' with
  |non=>rw[Rep] at r;rw[Rep] at r';subst r r';rfl
  |bl b=>rw[Rep] at r;rw[Rep] at r';subst r r';rfl
  |int i=>rw[Rep] at r;rw[Rep] at r';subst r r';rfl
  |str x=>rw[Rep] at r;rw[Rep] at r';subst r r';rfl
  |_=>cases h'
 | bl b=>cases t' with
  |non=>rw[Rep] at r;rw[Rep] at r';subst r r';rfl
  |bl b=>rw[Rep] at r;rw[Rep] at r';subst r r';simp[eqV,eqT]
  |int i=>rw[Rep] at r;rw[Rep] at r';subst r r';simp[eqV,eqT]
  |str x=>rw[Rep] at r;rw[Rep] at r';subst r r';rfl
  |_=>cases h'
 | int i=>cases t' with
  |non=>rw[Rep] at r;rw[Rep] at r';subst r r';rfl
  |bl b=>rw[Rep] at r;rw[Rep] at r';subst r r';simp[eqV,eqT]
  |int i=>rw[Rep] at r;rw[Rep] at r';subst r r';simp[eqV,eqT]
  |str x=>rw[Rep] at r;rw[Rep] at r';subst r r';rfl
  |_=>cases h'
 | str x=>cases t' with
  |non=>rw[Rep] at r;rw[Rep] at r';subst r r';rfl
  |bl b=>rw[Rep] at r;rw[Rep] at r';subst r r';rfl
  |int i=>rw[Rep] at r;rw[Rep] at r';subst r r';rfl
  |str x=>rw[Rep] at r;rw[Rep] at r';subst r r';simp[eqV,eqT]
  |_=>cases h'
 |_=>cases h
theorem aVd:∀ {xs:List T} {vs:List V},(xs.all aH4)=true->Reps tw H xs vs->vs.all aLd=true
 |[],vs,_,r=>by cases aA3 r;rfl
 |x::xs,vs,h,r=>by obtain⟨v,w,rfl,p,q⟩:=aAm r;rw[dr,bq] at h;rw[dr,aVj h.1 p,aVd h.2 q];rfl
theorem aYc{K:W.Frag}{H:Hp}{t:T}{v:V}(h:aH4 t=true)(r:Root K tw H t v):Rep tw H t v:=by
 refine Root.rep ?_ r;cases t with
 |non=>rfl
 |bl b=>rfl
 |int i=>rfl
 |str x=>rfl
 |_=>cases h
end
end L2.Ds
section
namespace L2.HTw
open PySem PySem.Spec PyProof.Rows
section
variable {prog:jW}{w:World}{A:jY}{E:Value->jR->Prop}{s:jR}
open HT in
theorem getItem_tuple_whole{lo hi:Option Int}(ht:IsTup s.heap t items)(hs:s.heap.IsSliceOf sl vl vu .none)(pl:IsPart vl lo)(pu:IsPart vu hi)
  (hw:HT.sIx items.size 0 lo=0/\HT.sIx items.size items.size hi=items.size)
  (h:Q (.ref t) s):wpAny ZG A (kT (.ref t) (.ref sl)) Q E s:=by
 obtain⟨os,hos,hcs,hds⟩:=id hs;have hTs:s.TypeIs (.ref sl) "slice":=⟨os,hos,hcs⟩
 unfold kT
 try with_reducible refine j5 ?_
 first |refine jP (jQ ?_) |skip
 refine jP (lV ht.typeIs ZE ?_)
 refine jP (je (name:=Str.ofString "__getitem__") ht.typeIs PyProof.Rows.slot_tuple_getitem
  (j3 PyProof.Rows.slot_tuple_getitem ht.typeIs lM ?_ (lQ _ _)))
 show wpAny _ _ (Builtin.Tuple.tupleItemsOf (.ref t) >>= _) _ _ s;refine jP (tupleItemsOf_ ht ?_);refine jP (kE hTs ?_);rw[if_pos ZE];refine jP (HT.sliceApplied_gen hs pl pu ?_);have hyes:(((HT.sIx items.size 0 lo:Nat):Int)==0&&(1:Int)==1&&(HT.sIx items.size items.size hi - HT.sIx items.size 0 lo)==items.size)=true:=by rw[hw.1,hw.2];simp
 show wpAny _ _ (if (((HT.sIx items.size 0 lo:Nat):Int)==0&&(1:Int)==1&&(HT.sIx items.size items.size hi - HT.sIx items.size 0 lo)==items.size)=true then _ else _) _ _ s;rw[if_pos hyes];refine jP ?_;unfold Builtin.Tuple.tupleIsExact;refine jP (kE ht.typeIs (jQ ?_));rw[if_pos ZE]
 first
  |exact jP (jf (jP (jQ ⟨_,rfl,jQ h⟩)))
  |exact jP (jf (jQ ⟨_,rfl,jQ h⟩))
  |exact jP (jf (jQ (jQ ⟨_,rfl,jQ h⟩)))
end
end L2.HTw
namespace L2
open PySem PySem.Spec PyProof.Rows
section
variable {X:Cx}
def rSlTW(K:W.Frag):V->Option Int->Option Int->Hp->VK->Prop:=fun x lo hi H Q=>∃a xs,x = .ref a/\SqT K H a xs/\(HT.sIx xs.length 0 lo=0/\HT.sIx xs.length xs.length hi=xs.length)/\Q x H
theorem sl_tupW:SlR X (rSlTW X.K):=by
 intro pins s O H x v vl vu lo hi sl Q I rx hs pl pu h;obtain⟨a,xs,rfl,hx,hw,q⟩:=h;cases rx;obtain⟨its,r,ht,hz⟩:=I.tuple hx;have hlen:its.toArray.size=xs.length:=by rw[ah];exact r.length.symm
 exact⟨"tuple",_,PyProof.Rows.slot_tuple_getitem.lookup,ht.typeIs,HTw.getItem_tuple_whole ht hs pl pu (by rw[hlen];exact hw) ⟨.ref a,H,I,rfl,q⟩⟩
end
end L2
namespace L2.Ds
open PySem PySem.Spec PyProof.Rows
section
variable {X:Cx}{tw:Addr}
theorem aIq{e:Expr}{lo hi:Option Expr}{p2 pos:Pos}{d:DE}{dl dh:DO}(h:SE X tw e d)(hl:SO X tw lo dl)(hh:SO X tw hi dh):SE X tw (.Subscript e (.Slice lo hi none p2) pos) (dSl2 d dl dh):=by
 intro B ρ n t m n' hd pins s O H Q I ⟨R,k⟩;obtain⟨⟨t0,m0,n0⟩,e1,e2⟩:=bind_some hd;obtain⟨⟨l,n1⟩,e3,e4⟩:=bind_some e2;obtain⟨⟨u,n2⟩,e5,e6⟩:=bind_some e4;refine pe_slice (sl_list.or (sl_tup.or sl_tupW)) (h B ρ n t0 m0 n0 e1) (hl B ρ n0 l n1 e3) (hh B ρ n1 u n2 e5) pins s O H Q I ⟨R,fun v H1 x1 y1 z1=>?_⟩;have R1:=R.mono x1 y1;refine⟨R1,fun H2 x2 y2=>?_⟩;have R2:=R1.mono x2 y2;refine⟨R2,fun H3 x3 y3=>?_⟩;have x13:=x2.trans x3;have rt:Root X.K tw H3 t0 v:=Root.ext R1.tn x13 (z1.root R1 R.tn);have x03:=x1.trans x13;cases t0 with
 | lst xs =>
  cases e6;obtain⟨a,vs,rfl,ea,xa⟩:=rt;refine .inl ⟨a,vs,rfl,ea.sq,fun p hp=>k _ _ (x03.trans (.new hp)) (y3.new hp) ⟨p,rfl,x03.free y3 hp,_,aAj,?_⟩⟩;unfold cutT cutV;rw[aDx,aDx,xa.length];exact Reps.take _ (Reps.drop _ (Reps.mono (.new hp) _ _ xa))
 | tup xs =>
  cases e6;obtain⟨a,vs,rfl,ea,xa⟩:=aBc rt;by_cases hw:bound xs.length 0 l=0/\bound xs.length xs.length u=xs.length
  ·refine .inr (.inr ⟨a,vs,rfl,SqT.of ea,?_,k _ _ x03 y3 (aD4 ea ?_)⟩)
   ·rw[<-xa.length,<-aDx,<-aDx];exact hw
   ·unfold cutT;rw[hw.1,hw.2,gB,iw,fJ];exact xa
  ·refine .inr (.inl ⟨a,vs,rfl,SqT.of ea,?_,fun p hp=>k _ _ (x03.trans (.new hp)) (y3.new hp) (aD4 aAj ?_)⟩)
   ·rw[<-xa.length,<-aDx,<-aDx];exact hw
   ·unfold cutT cutV;rw[aDx,aDx,xa.length];exact Reps.take _ (Reps.drop _ (Reps.mono (.new hp) _ _ xa))
 |_=>cases e6
theorem pr_max2(hc:X.calm=true):PrS X tw (fun us=>call (.builtin "max") us) pMax2:=by
 intro B pins s O H vs us ts n t m Q I rv rt tn e k
 match ts,e with
 |[.lst xs],e=>exact pr_max hc B pins s O H vs us [.lst xs] n t m Q I rv rt tn e k
 | [.tup xs],e =>
  have hh:=I.ok.hd hc;obtain⟨ns,e1,e2⟩:=bind_some (show (intsOf xs).bind _=_ from e);obtain⟨i,e3,e4⟩:=map_some e2;cases e4;obtain⟨v,rfl,r⟩:=aAp rt;obtain⟨u,rfl,ru⟩:=rv.one;have hx:=aA6 e1;subst hx;obtain⟨h0,hb⟩:=aGt e3;refine call_max_walk (thn (aLs (A':=X.A.in1) hh I r ru rfl) fun it s₂ ⟨Ia,fp,wr,P,St,e,W,st,hfp,hP,fin⟩=>?_);refine⟨Ia,fp,wr,_,P,St,_,e,W,st,hfp,by simpa using h0,CmpOf.ints_gt (fun i=>ns.getD i 0) fun i v hv=>aD1 (hP i v hv),fun v' h' tk hv kp=>?_⟩;obtain⟨tk',rfl⟩:=aD1 (hP _ _ hv);rw[a5];exact⟨.int i,H,fin h' tk kp,⟨tk',by rw[hb]⟩,k _ H (.refl _ _) tn (by show Rep tw H (.int i) _;rw[Rep])⟩
 | [.int a,.int b],e =>
  cases e;obtain⟨v,w,rfl,r1,r2⟩:=aBb rt;obtain rfl:=aAt r1;obtain rfl:=aAt r2;exact bBf hc pins s O H _ us Q I rv ⟨a,b,rfl,k _ H (.refl _ _) tn (by show Rep tw H (.int _) _;rw[Rep])⟩
theorem aUd(h:∀x∈ns,-10000000000000<=x/\x<=10000000000000):-(10000000000000*(ns.length:Int))<=sumI ns/\sumI ns<=10000000000000*(ns.length:Int):=by
 induction ns with
 |nil=>simp[sumI]
 | cons x xs ih =>
  have:=ih fun y hy=>h y (a6 _ hy);have:=h x a7;rw[sumI,aa]
  push_cast
  lia
theorem sum_run2(hh:X.A.handled=none)(I:Inv X pins O H s)(r:Root X.K tw H t v)(rv:RelV v u)(h:aFd t=some xs)(hx:xs=ns.map T.int)
  (hl:ns.length<100000) (hb:∀x∈ns,-10000000000000<=x/\x<=10000000000000) (q:Q (.int (sumI ns)) H):wpAny ZC X.A (call (.builtin "sum") [u]) (EP X pins O Q) X.xe s:=by
 subst hx;refine call_sum_walk (thn (aLs (A':=X.A.in1) hh I r rv h) fun it s₂ ⟨Ia,fp,wr,P,St,e,W,st,hfp,hP,fin⟩=>?_);refine⟨Ia,fp,wr,_,P,St,fun i=>ns.getD i 0,e,W,st,hfp,fun i v hv=>aD1 (hP i v hv),fun j hj=>?_,fun h' tk t' kp=>?_⟩
 ·rw[a5] at hj;have h1:=hb (ns.getD j 0) (by rw[az,ai hj];exact cv _);show InLong (ns.getD j 0)/\_;rw[aJc ns (j+1) hj];have h2:=aUd (ns:=ns.take (j+1)) fun x hx=>hb x (eS hx);have h3:((ns.take (j+1)).length:Int)<=100000:=by rw[c7];lia
  exact⟨⟨by lia,by lia⟩,⟨by lia,by lia⟩⟩
 ·rw[a5,aJc ns ns.length (a9 _),fJ];exact⟨.int _,H,fin h' tk kp,⟨t',rfl⟩,q⟩
theorem aT4(hc:X.calm=true):PrS X tw (fun us=>call (.builtin "sum") us) aMk:=by
 intro B pins s O H vs us ts n t m Q I rv rt tn e k;have hh:=I.ok.hd hc;have go:∀ (t0:T) (xs:List T),ts = [t0]->aFd t0=some xs->((intsOf xs).bind fun ns=>if ns.length<100000/\(ns.all fun x=>decide (x.natAbs<=10000000000000)) then some (T.int (sumI ns),Md.fz) else none)=some (t,m)->wpAny ZC X.A (call (.builtin "sum") us) (EP X pins O Q) X.xe s:=fun t0 xs ets hw e'=>by
  subst ets;obtain⟨ns,e1,e2⟩:=bind_some e';split at e2
  ·rename_i hb;cases e2;obtain⟨v,rfl,r⟩:=aAp rt;obtain⟨u,rfl,ru⟩:=rv.one;refine sum_run2 hh I r ru hw (aA6 e1) hb.1 (fun x hx=>?_) (k _ H (.refl _ _) tn (by show Rep tw H (.int _) _;rw[Rep]));have:=br.mp hb.2 x hx;simp only[decide_eq_true_eq] at this;lia
  ·cases e2
 match ts,e with
 |[.tup xs],e=>exact go _ xs rfl rfl e
 |[.lst xs],e=>exact go _ xs rfl rfl e
end
def Kn(P:jW)(w:World)(K:W.Frag)(mg:Str->Option Value)(base:Heap)(lv:Nat)(x:Str)(ps:List Str)(f:Fn)(tw:Addr):Prop :=
 ∃ (a:Addr) (d:jr),FnOk P w K mg base CX0 lv a d ps (SpF K tw ps.length f)/\Binds K d ps []/\W.keepIn K (.ref a)=true/\mg x=some (.ref a)
theorem se_callK{X:Cx}{tw:Addr}{f:Fn}{lv ar:Nat}{ps:List Str}{x:Str}{p pos:Pos}{e:Expr}{es:List Expr}{a:DB}(G:Kn X.prog X.w X.K X.mg X.base lv x ps f tw)(hr:Room lv X.A)(ha:SB X tw (e::es) a)(hn:autoParam (ps.length=ar) lZ)(hg:autoParam (Gl X x) lZ)(hdb:autoParam ZO l5)
  (he:autoParam (jV (e::es) X.env=(false,eval e X.env)::jV es X.env) lZ) (hpl:autoParam ((jg pos (jV es X.env)).any (·.1)=false) lZ):SE X tw (.Call (.Name x p) (e::es) [] pos) (dCall ar f a):=by
 obtain⟨fa,fd,F,hb,hk,hm⟩:=G;subst hn;exact se_call F hr hm hk hb ha hg hdb he hpl
end L2.Ds
namespace L2.HTw
open PySem PySem.Spec PyProof.Rows
section
variable {prog:jW}{w:World}{A:jY}{E:Value->jR->Prop}{s:jR}
theorem aIz{n:Nat}{Q:Int × Int × Nat->jR->Prop}(hs:s.heap.IsSliceOf sl .none .none (.int (-1) tk))(h:Q ((n:Int) - 1,-1,n) s):wpAny ZG A (Builtin.Slice.sliceApplied (.ref sl) (pure (n:Int))) Q E s:=by
 obtain⟨os,hos,hcs,hds⟩:=id hs;unfold Builtin.Slice.sliceApplied Builtin.Slice.sliceFields;refine jP (jP (kA hos hds (x:=.none) rfl (jP (kA hos hds (x:=.none) rfl (jP (kA hos hds (x:=.int (-1) tk) rfl (jQ ?_)))))));refine jP (HT.slicePart_ (.int (-1) tk) ?_);show wpAny _ _ (if ((-1:Int)==0)=true then _ else _) _ _ s;rw[if_neg ZE];refine jP (HT.slicePart_ .none (jP (HT.slicePart_ .none (jP (jQ ?_)))));show wpAny _ _ (pure ((n:Int) - 1,(-1:Int),Builtin.Slice.slicePlaces ((n:Int) - 1) (-1) (-1))) _ _ s;have e:Builtin.Slice.slicePlaces ((n:Int) - 1) (-1) (-1)=n:=by
  unfold Builtin.Slice.slicePlaces;rw[if_neg ZE];split
  ·rw[show (-(-1):Int)=1 from rfl,Int.ediv_one];lia
  ·lia
 rw[e];exact jQ h
theorem pick_rev(xs:Array Value):((List.range xs.size).filterMap fun (k:Nat)=>xs[(((xs.size:Int) - 1)+(k:Int) * -1).toNat]?).toArray=xs.toList.reverse.toArray:=by
 have e:(List.range xs.size).filterMap (fun (k:Nat)=>xs[(((xs.size:Int) - 1)+(k:Int) * -1).toNat]?)=((List.range xs.size).map fun k=>xs.size - 1 - k).filterMap (xs[·]?):=by
  rw[i8];have gen:∀l:List Nat,(∀k∈l,k<xs.size)->l.filterMap (fun (k:Nat)=>xs[(((xs.size:Int) - 1)+(k:Int) * -1).toNat]?)=l.filterMap ((xs[·]?)∘fun k=>xs.size - 1 - k):=by
   intro l
   induction l with
   |nil=>intro _;rfl
   | cons k l ih =>
    intro hl;have hk:=hl k (a7 ..);have e:(((xs.size:Int) - 1)+(k:Int) * -1).toNat=xs.size - 1 - k:=by lia
    rw[eY,eY,ih fun k' h'=>hl k' (a6 _ h'),e];rfl
  exact gen _ fun k hk=>ej.mp hk
 rw[e,W.krv_range,List.filterMap_reverse,W.krv_all]
theorem getItem_tuple_rev(ht:IsTup s.heap t items)(hs:s.heap.IsSliceOf sl .none .none (.int (-1) tk))
  (h:Q (.ref s.heap.objs.size) { s with heap:=s.heap.push { cls:=.type "tuple",data:=.seq items.toList.reverse.toArray } }) (hsz:items.size<=jU):wpAny (model prog w) A (kT (.ref t) (.ref sl)) Q E s:=by
 have htake:sizeOk (.seq items.toList.reverse.toArray):=by show items.toList.reverse.toArray.size<=jU;rw[ah,fK,aw];exact hsz
 obtain⟨os,hos,hcs,hds⟩:=id hs;have hTs:s.TypeIs (.ref sl) "slice":=⟨os,hos,hcs⟩
 unfold kT
 try with_reducible refine j5 ?_
 first |refine jP (jQ ?_) |skip
 refine jP (lV ht.typeIs ZE ?_)
 refine jP (je (name:=Str.ofString "__getitem__") ht.typeIs PyProof.Rows.slot_tuple_getitem
  (j3 PyProof.Rows.slot_tuple_getitem ht.typeIs lM ?_ (lQ _ _)))
 show wpAny _ _ (Builtin.Tuple.tupleItemsOf (.ref t) >>= _) _ _ s;refine jP (tupleItemsOf_ ht ?_);refine jP (kE hTs ?_);rw[if_pos ZE];refine jP (aIz hs ?_);show wpAny _ _ (if (((items.size:Int) - 1==0)&&((-1:Int)==1)&&items.size==items.size)=true then _ else _) _ _ s;rw[if_neg ZJ,pick_rev]
 first
  |exact jP (m:=Builtin.Tuple.tupleExact _) (jZ (jQ ⟨_,rfl,jQ h⟩) htake)
  |exact jP (m:=Builtin.Tuple.tupleExact _) (jZ (jP (jQ (jQ ⟨_,rfl,jQ h⟩))) htake)
  |exact jP (jP (m:=Builtin.Tuple.tupleExact _) (jZ (jQ (jQ ⟨_,rfl,jQ h⟩)) htake))
  |exact jP (jP (m:=Builtin.Tuple.tupleExact _) (jZ (jQ ⟨_,rfl,jQ h⟩) htake))
end
end L2.HTw
namespace L2.Ds
open PySem PySem.Spec PyProof.Rows
section
variable {X:Cx}{tw:Addr}
theorem se_rev{e:Expr}{d:DE}{j}{p1 p2 p3 pos:Pos}(h:SE X tw e d):SE X tw (.Subscript e (.Slice none none (some (.UnaryOp .USub (.Constant (.int 1) j p1) p2)) p3) pos) (dRev d):=by
 intro B ρ n t m n' hd pins s O H Q I ⟨R,k⟩;obtain⟨⟨t0,m0,n0⟩,e1,e2⟩:=bind_some hd;refine Subscript_ (thn (h.run e1 I R) fun v s1 ⟨x,H1,I1,r1,a1,R1,c1⟩=>?_);refine wpAny_Slice ?_;rw[evalPart_none];refine jQ (jQ ?_);rw[evalPart_some];refine thn (pe_un un_neg (aU6 (i:=1)) pins s1 O H1 (fun v H'=>v = .int (-1)/\H'=H1) I1 ⟨1,rfl,rfl,rfl⟩) fun vs s3 ⟨v3,H3,I3,r3,e3,e4⟩=>?_;subst e3 e4;obtain⟨tk,rfl⟩:=r3;have I4:Inv X pins O H3 { s3 with heap:=s3.heap.push { cls:=.type "slice",data:=.fields #[.none,.none,.int (-1) tk] } }:=I3.kept (t':=s3.toks) fun b ob q=>a0 _ q;have rt:=c1.root R1 R.tn;have hs:(s3.heap.push { cls:=.type "slice",data:=.fields #[.none,.none,.int (-1) tk] }).IsSliceOf s3.heap.objs.size .none .none (.int (-1) tk):=Heap.IsSliceOf.new ..;cases t0 with
 | lst xs =>
  cases e2;obtain⟨a,vs,rfl,ea,xa⟩:=rt;cases r1;obtain⟨its,r,ht,hz⟩:=I4.list ea.sq;refine tail_any (ops:=[.ref a,.ref s3.heap.objs.size]) ht.isList.typeIs slot_list_getitem.lookup ?_ (by with_unfolding_all rfl);refine lY ht.isList hs .none .none (.int (-1) tk) ZJ ?_ (by rw[ah,<-r.length];exact hz);rw[W.krv_pick];have hf:H3 (s3.heap.push { cls:=.type "slice",data:=.fields #[.none,.none,.int (-1) tk] }).objs.size=none:=I4.hok.fresh (a9 _);refine⟨.ref _,_,I4.laid (t':=s3.toks) (o:=.lst vs.reverse) (fun b ob q=>a0 _ q) (a9 _) ?_,rfl,k _ _ (a1.trans (.new hf)) (R1.tn.new hf) ⟨_,rfl,a1.free R1.tn hf,_,aAj,Reps.mono (.new hf) _ _ xa.reverse⟩⟩;exact⟨by rw[fK];exact hz,_,0,r.reverse,af _ rfl⟩
 | tup xs =>
  cases e2;obtain⟨a,vs,rfl,ea,xa⟩:=aBc rt;cases r1;obtain⟨its,r,ht,hz⟩:=I4.tuple (SqT.of (K:=X.K) ea);refine tail_any (ops:=[.ref a,.ref s3.heap.objs.size]) ht.typeIs PyProof.Rows.slot_tuple_getitem.lookup ?_ (by with_unfolding_all rfl);refine HTw.getItem_tuple_rev ht hs ?_ (by rw[ah,<-r.length];exact hz);have hf:H3 (s3.heap.push { cls:=.type "slice",data:=.fields #[.none,.none,.int (-1) tk] }).objs.size=none:=I4.hok.fresh (a9 _);refine⟨.ref _,_,I4.laid (t':=s3.toks) (o:=.tup vs.reverse) (fun b ob q=>a0 _ q) (a9 _) ?_,rfl,k _ _ (a1.trans (.new hf)) (R1.tn.new hf) (aD4 aAj (Reps.mono (.new hf) _ _ xa.reverse))⟩;exact⟨by rw[fK];exact hz,_,r.reverse,aDm.new _ _⟩
 |_=>cases e2
end
end L2.Ds
end
namespace L2.Ds
open PySem PySem.Spec PyProof.Rows
section
variable {prog:jW}{w:World}{A:jY}{E:Value->jR->Prop}{s:jR}
abbrev endsK(Q:Value->jR->Prop)(E:Value->jR->Prop):Result->jR->Prop:=fun r s'=>match r with
 |.ok (.ret v)=>Q v s'
 |.ok _=>False
 |.error e=>E e s'
abbrev finK(prog:jW)(w:World)(A:jY)(Q:Value->jR->Prop)(E:Value->jR->Prop):Fin->jR->Prop:=fun fin s'=>match fin with
 |.done f=>endsK Q E (.ok f) s'
 |.again c'=>c'.quiet=true/\kF ZG A c' (endsK Q E) s'
theorem call_kwK{id:String}{b:Builtin}{ks:List (Str × Value)}(h1:builtinKind id=none)(h2:plainId id=true)(h3:entryFor table id=some b)(h4:argsOk id ⟨ps,ks⟩)
  (go:wpAny ZG A.in1 (b ⟨ps,ks⟩) (finK prog w A Q E) E s):wpAny ZG A (call (.builtin id) ps ks) Q E s:=by
 apply wpAny_call;apply codeAny_call_builtin h2 h3;unfold checkBuiltinCall;rw[h1];unfold argsOk at h4;generalize Manifest.signature? id=sg at h4 |-;cases sg with
 |none=>exact jQ go
 | some y =>
  dsimp only at h4 |-;rw[h4];exact jQ go
end
variable {X:Cx}{tw:Addr}
theorem aYz(a v:Value):argsOk "min" ⟨[a],[(Str.ofString "default",v)]⟩:=by unfold argsOk;kernel_rfl
def lessO:Option Int->Int->Option Int
 |none,x=>some x
 |some a,x=>some (if x<a then x else a)
def aLc(b:Option Int)(ns:List Int):Option Int:=ns.foldl lessO b
theorem aLh:∀ (ns:List Int) (a:Int),aLc (some a) ns=some (ns.foldl (fun a b=>if b<a then b else a) a)
 |[],_=>rfl
 |x::ns,a=>aLh ns _
theorem aTc{i:Int}(h:least ns=some i):aLc none ns=some i:=by
 cases ns with
 |nil=>cases h
 |cons x xs=>exact(aLh xs x).trans h
def Cell(o:Option Int)(cs:Array Value):Prop:=match o with
 |none=>cs = #[]
 |some a=>∃t,cs = #[.int a t,.int a t]
section
variable {prog:jW}{w:World}{A:jY}{R:Result->jR->Prop}{I S:Addr}{fp wr:List Addr}{P:Nat->Value->Prop}{St:Nat->Heap->Prop}{ns:List Int}{d:Value}
theorem lt_ints{x y:Int}(q:Q (.bool (decide (x<y))) s):wpAny ZG A (richCompare .Lt (.int x t) (.int y u)) Q E s :=
 CmpOf.ints_lt (P:=fun i v=>∃t,v = .int (if i=0 then x else y) t) (fun i=>if i=0 then x else y) (fun _ _ h=>h) 0 1 _ _ s Q E ⟨t,rfl⟩ ⟨u,rfl⟩ q
theorem aXv(W:Walks prog w A.in1 I fp wr ns.length P St)(num:∀i v,P i v->∃t,v = .int (ns.getD i 0) t)(out:S∉fp):∀ (k i:Nat) (s:jR) (cs:Array Value) (c:Nat) (o:Option Int),i+k=ns.length->St i s.heap->Cell o cs ->
  s.heap.get? S=some { cls:=.type "list",dict:=none,data:=.seq cs c,slots:=#[] } ->
  (∀r h' tk,(match aLc o (ns.drop i) with |none=>r=d |some a=>∃t,r = .int a t)->(∀b ob,b∉wr->b≠S->s.heap.get? b=some ob->h'.get? b=some ob)->R (.ok (.ret r)) { s with heap:=h',toks:=tk }) ->
  kF ZG A (.builtin "min.loop" ⟨[.ref I,.none,.ref S],[(Str.ofString "default",d)]⟩) R s:=by
 have outw:S∉wr:=fun z=>out (W.sub _ z);have away:∀ {h:Heap} {g:Obj->Obj} {b:Addr} {ob:Obj},b≠S->h.get? b=some ob->(h.update S g).get? b=some ob:=fun ne e=>(dZ _ _ fun z=>ne z.symm).trans e;have nm:(toString "min" ++ toString ".loop" : String) = "min.loop":=by decide
 intro k
 induction k with
 | zero =>
  intro i s cs c o ik st ce at_ fin;have ik:i=ns.length:=ik;subst ik;rw[List.drop_length] at fin;refine jl F.entry_min_loop ?_;rw[Around.under_plainId F.plain_min_loop _];refine jP (m:=seqItems? (.ref S)) (kJ at_ rfl (jP (m:=tryCatch (kN (.ref I)) _) (lO (W.done s _ _ st fun h' tk kp=>?_))));cases o with
  | none =>
   have ce:cs = #[]:=ce;subst ce;exact jP (jf (jQ (fin d h' tk rfl fun b ob hb _ e=>kp b ob hb e)))
  | some a =>
   obtain⟨t,rfl⟩:=ce;refine jP (m:=updateSeq S fun _=>#[]) (kG (kp S _ outw at_) rfl (jP (wpAny_letGo (jQ ?_))));exact fin _ _ _ ⟨t,rfl⟩ fun b ob hb ne e=>away ne (kp b ob hb e)
 | succ k ih =>
  intro i s cs c o ik st ce at_ fin;have lt:i<ns.length:=by omega
  have split:ns.drop i=ns.getD i 0::ns.drop (i+1):=by rw[cg lt,az,ai lt];rfl
  rw[split] at fin;refine jl F.entry_min_loop ?_;rw[Around.under_plainId F.plain_min_loop _];refine jP (m:=seqItems? (.ref S)) (kJ at_ rfl (jP (m:=tryCatch (kN (.ref I)) _) (lO (W.item i s _ _ lt st fun v h' tk pv st' kp=>?_))));obtain⟨t,rfl⟩:=num i v pv;have at2:=kp S _ outw at_;have put:∀ (cs':Array Value) (o':Option Int),Cell o' cs'->o'=lessO o (ns.getD i 0)->kF ZG A (.builtin "min.loop" ⟨[.ref I,.none,.ref S],[(Str.ofString "default",d)]⟩) R { s with heap:=h'.update S (Obj.mapSeq fun _=>cs'),toks:=tk }:=fun cs' o' ce' eo=>by refine ih (i+1) _ cs' _ o' ZM (W.frame _ _ _ st' fun b hb ob e=>away (by rintro rfl;exact out hb) e) ce' (dN _ at2 rfl) fun r h2 tk2 hr kp2=>?_;refine fin r h2 tk2 ?_ fun b ob hb ne e=>kp2 b ob hb ne (away ne (kp b ob hb e));rw[eo] at hr;exact hr
  cases o with
  | none =>
   have ce:cs = #[]:=ce;subst ce;refine jP (m:=updateSeq S fun _=>#[_,_]) (kG at2 rfl ?_);rw[nm];exact jQ ⟨jn F.plain_min_loop _,put _ (some (ns.getD i 0)) ⟨t,rfl⟩ rfl⟩
  | some a =>
   obtain⟨u,rfl⟩:=ce;refine jP (m:=tryCatch (kL [_,_] (richCompare .Lt _ _ >>= _)) _) (lO (j5 (jP (lt_ints (jP (j5 (jx (jP (wpAny_letGo (jQ ?_))))))))));by_cases less:ns.getD i 0<a
   ·rw[if_pos (decide_eq_true less)];refine jP (kG at2 rfl (jP (wpAny_letGo ?_)));rw[nm];exact jQ ⟨jn F.plain_min_loop _,put _ (some (ns.getD i 0)) ⟨t,rfl⟩ (by show _=some (if _ then _ else _);rw[if_pos less])⟩
   ·rw[if_neg (by simpa using less)];refine jP (wpAny_letGo ?_);rw[nm];refine jQ ⟨jn F.plain_min_loop _,ih (i+1) _ _ _ (some a) ZM st' ⟨u,rfl⟩ at2 fun r h2 tk2 hr kp2=>fin r h2 tk2 ?_ fun b ob hb ne e=>kp2 b ob hb ne (kp b ob hb e)⟩;show match aLc (some (if _ then _ else _)) _ with |none=>_ |some a=>_
    rw[if_neg less];exact hr
end
def pMinE:Pr:=fun _ ts=>match ts with
 |[.lst xs]=>(intsOf xs).map fun ns=>(match aLc none ns with |none=>.non |some i=>.int i,.fz)
 |_=>none
theorem min_dflt(hh:X.A.handled=none)(I:Inv X pins O H s)(r:Root X.K tw H (.lst (ns.map .int)) v)(rv:RelV v u)(q:Q (match aLc none ns with |none=>.non |some i=>.int i) H) :
  wpAny ZC X.A (call (.builtin "min") [u] [(Str.ofString "default",Value.none)]) (EP X pins O Q) X.xe s:=by
 refine call_kwK F.kind_min F.plain_min F.entry_min (aYz _ _) ?_;show wpAny _ _ (Builtin.Builtins.bindParams "min" ["key","default"] 0 ⟨[],[(Str.ofString "default",Value.none)]⟩ >>= _) _ _ _;have bp:Builtin.Builtins.bindParams "min" ["key","default"] 0 ⟨[],[(Str.ofString "default",Value.none)]⟩=pure [none,some Value.none]:=rfl;refine jP (lA bp ?_);refine jP (jQ ?_);refine jP (thn (aLs (A':=X.A.in1) hh I r rv (xs:=ns.map .int) rfl) fun it s₂ ⟨Ia,fp,wr,P,St,e,W,st,hfp,hP,fin⟩=>?_);subst e;rw[a5] at W;refine jP (jZ ?_);rw[show (toString "min" ++ toString ".loop" : String) = "min.loop" by decide];refine jQ ⟨jn F.plain_min_loop _,aXv W (fun i v hv=>aD1 (hP i v hv)) (fun z=>eF _ (hfp _ z)) ns.length 0 _ #[] _ none (ez _) (W.frame _ _ _ st fun b _ o e=>a0 _ e) rfl (af _ rfl) fun r h' tk hr kp=>?_⟩;have I2:=fin h' tk fun b o hb e=>kp b o hb (au (aj e)) (a0 _ e);rw[gB] at hr;cases z:aLc none ns with
 |none=>rw[z] at hr q;subst hr;exact⟨.non,H,I2,rfl,q⟩
 |some a=>rw[z] at hr q;obtain⟨t,rfl⟩:=hr;exact⟨.int a,H,I2,⟨t,rfl⟩,q⟩
theorem se_minD{p pos kp kpos:Pos}{j:Nat}{e:Expr}{a:DA}(hc:X.calm=true)(ha:SA X tw [e] a)(hm:X.mg "min" = none)(hv:kD "min" = some (.builtin "min"))(hg:autoParam (Gl X "min") lZ)
  (he:autoParam (jg pos (jV [e] X.env)=(false,eval e X.env)::jg pos (jV [] X.env)) lZ) (hpl:autoParam ((jg pos (jV [e] X.env)).any (·.1)=false) lZ) :
  SE X tw (.Call (.Name "min" p) [e] [⟨some "default",.Constant .none j kpos,kp⟩] pos) (dPr pMinE a):=by
 intro B ρ n t m n' hd pins s O H Q I ⟨R,k⟩;obtain⟨⟨ts,n1⟩,e1,e2⟩:=bind_some hd;obtain⟨⟨t1,m1⟩,e3,e4⟩:=map_some e2;cases e4;have ⟨ns,et,q⟩:∃ns:List Int,ts = [.lst (ns.map .int)]/\(match aLc none ns with |none=>T.non |some i=>.int i,Md.fz)=(t1,m1):=by
  match ts,e3 with
  | [.lst xs],e3 =>
   obtain⟨ns,q1,q2⟩:=map_some (show (intsOf xs).map _=some (t1,m1) from e3);exact⟨ns,by rw[aA6 q1],q2⟩
 subst et;have hh:=I.ok.hd hc;refine jj (aEe I hg hm hv ?_ ZE ZE);refine callWith_kw (thn (ha.run e1 pos I R) fun us s1 ⟨vs,H1,I1,r1,a1,R1,c1⟩=>?_) he hpl;refine kws_cons (wpAny_Constant_none (kws_nil ?_));obtain⟨v,rfl,r⟩:=aAp c1;obtain⟨u,rfl,ru⟩:=r1.one;refine min_dflt hh I1 r ru ?_;cases z:aLc none ns with
 |none=>rw[z] at q;cases q;exact k _ H1 a1 R1.tn (by show Rep tw H1 .non _;rw[Rep])
 |some a=>rw[z] at q;cases q;exact k _ H1 a1 R1.tn (by show Rep tw H1 (.int a) _;rw[Rep])
variable {X:Cx}{tw:Addr}
def inF(x:T):T->Option Bool
 |.tup xs=>if aH4 x&&xs.all aH4 then some (xs.any fun y=>eqT y x) else none
 |.lst xs=>if aH4 x&&xs.all aH4 then some (xs.any fun y=>eqT y x) else none
 |_=>none
def aTp:Pr:=fun _ ts=>match ts with
 |[x,y]=>(inF x y).map fun b=>(.bl (!b),.fz)
 |_=>none
theorem inV_of(hx:aH4 x=true)(rx:Rep tw H x v):∀ {xs:List T} {vs:List V},(xs.all aH4)=true->Reps tw H xs vs->inV v vs=xs.any fun y=>eqT y x
 |[],vs,_,r=>by cases aA3 r;rfl
 |y::xs,vs,h,r=>by obtain⟨u,w,rfl,p,q⟩:=aAm r;rw[dr,bq] at h;have ih:=inV_of hx rx h.2 q;unfold inV at ih |-;rw[fB,fB,ih,flat_eq h.1 hx p rx]
theorem inF_run{b:Bool}(e:inF x y=some b)(r1:Root X.K tw H x v)(r2:Root X.K tw H y w){neg:Bool}(q:Q (.bl (if neg then !b else b)) H):rIn X.K neg v w H Q:=by
 have go:∀ {xs:List T} {a:Addr} {vs:List V},(if aH4 x&&xs.all aH4 then some (xs.any fun y=>eqT y x) else none)=some b->w = .ref a->(SqL X.K H a vs\/SqT X.K H a vs)->Reps tw H xs vs->rIn X.K neg v w H Q:=fun {xs a vs} e ew sq rs=>by
  split at e
  ·rename_i hf;cases e;rw[bq] at hf;have rx:=aYc hf.1 r1;refine⟨a,vs,ew,sq,aVj hf.1 rx,aVd hf.2 rs,?_⟩;rw[inV_of hf.1 rx hf.2 rs];exact q
  ·cases e
 cases y with
 | tup xs =>
  obtain⟨a,vs,ew,ea,xa⟩:=aBc r2;exact go e ew (.inr (SqT.of ea)) xa
 | lst xs =>
  obtain⟨a,vs,ew,ea,xa⟩:=r2;exact go e ew (.inl ea.sq) xa
 |_=>cases e
theorem aZz:PrS X tw (two (j6 .NotIn)) aTp:=by
 intro B pins s O H vs us ts n t m Q I rv rt tn e k
 match ts,e with
 | [x,y],e =>
  obtain⟨b,e1,e2⟩:=map_some (show (inF x y).map _=_ from e);cases e2;obtain⟨v,w,rfl,r1,r2⟩:=aBb rt;obtain⟨u1,u2,rfl,q1,q2⟩:=rv.two;exact aQ5 pins s O H v w u1 u2 Q I q1 q2 (inF_run e1 r1 r2 (neg:=true) (k _ H (.refl _ _) tn (by show Rep tw H (.bl _) _;rw[Rep];rfl)))
variable {X:Cx}{tw:Addr}
variable {X:Cx}{tw:Addr}
end L2.Ds
namespace L2.En
open PySem PySem.Spec PyProof.Rows
section
variable {prog:jW}{w:World}{A:jY}{E:Value->jR->Prop}{s:jR}
theorem nx_item{i:Nat}(hit:IsTupIter s.heap it t i)(ht:IsTup s.heap t items)(hx:items[i]?=some x)
  (hQ:∀h',IsTupIter h' it t (i+1)->Heap.SameBut it s.heap h'->Q x { s with heap:=h' }):wpAny (model prog w) A (Builtin.SmallTypes.nextOf (.ref it)) Q E s:=by
 obtain⟨o,ho,hc,hd⟩:=id hit;obtain⟨ol,hol,_,nl,hdl⟩:=ht;unfold Builtin.SmallTypes.nextOf;refine jP (je (name:=Str.ofString "__next__") hit.typeIs ka (j3 ka hit.typeIs entry_tupleiter_next ?_ (args_tupleiter_next _)));show wpAny _ _ (field (.ref it) 0 >>= _) _ _ s;refine jP (kA ho hd (x:=.ref t) rfl ?_);show wpAny _ _ (if (Value.ref t==Value.none)=true then _ else _) _ _ s;rw[if_neg (show ¬ ((Value.ref t==Value.none)=true) from dU)];show wpAny _ _ (field (.ref it) 1 >>= _) _ _ s;refine jP (kA ho hd (x:=.int i 0) rfl ?_);show wpAny _ _ (seqItems? (.ref t) >>= _) _ _ s;refine jP (kJ hol hdl ?_);simp only[du,hx];refine jP (jo ho hd ZJ (jQ ⟨x,rfl,jQ (hQ _ ?_ (Heap.SameBut.update ..))⟩));exact⟨_,dN _ ho (Obj.isFreed_of_fields (Obj.data_mapFields hd _)),(Obj.cls_mapFields ..).trans hc,by rw[Obj.data_mapFields hd];simp[jc]⟩
theorem nx_end{i:Nat}(hh:A.handled=none)(hit:IsTupIter s.heap it t i)(ht:IsTup s.heap t items)(hx:items[i]?=none)
  (hE:∀h' e,Heap.ExtBut it s.heap h'->(∃o,h'.get? e=some o/\o.cls = .type "StopIteration")->E (.ref e) { s with heap:=h' }):wpAny (model prog w) A (Builtin.SmallTypes.nextOf (.ref it)) Q E s:=by
 obtain⟨o,ho,hc,hd⟩:=id hit;obtain⟨ol,hol,_,nl,hdl⟩:=ht;unfold Builtin.SmallTypes.nextOf;refine jP (je (name:=Str.ofString "__next__") hit.typeIs ka (j3 ka hit.typeIs entry_tupleiter_next ?_ (args_tupleiter_next _)));show wpAny _ _ (field (.ref it) 0 >>= _) _ _ s;refine jP (kA ho hd (x:=.ref t) rfl ?_);show wpAny _ _ (if (Value.ref t==Value.none)=true then _ else _) _ _ s;rw[if_neg (show ¬ ((Value.ref t==Value.none)=true) from dU)];show wpAny _ _ (field (.ref it) 1 >>= _) _ _ s;refine jP (kA ho hd (x:=.int i 0) rfl ?_);show wpAny _ _ (seqItems? (.ref t) >>= _) _ _ s;refine jP (kJ hol hdl ?_);simp only[du,hx];refine jP (jf (jP (jo ho hd ZJ ?_)));show wpAny _ _ (newExc (.type "StopIteration") [] >>= _) _ _ _;refine jP ?_;simp only[newExc,newTuple];refine jP (jZ ?_ (by size_fits));refine jP (m:=lP _ _) (lA (a:=Value.none) (by first |rfl |(simp only[lP];rfl)) ?_);refine jZ ?_ (by size_fits);simp only[raiseNew];refine jP (wpAny_handled ?_)
 first |rw[show A.in1.handled=none from hh] |rw[hh]
 refine jP (jQ (wpAny_throw ?_));exact hE _ _ (((Heap.SameBut.update ..).extBut.push _).push _) ⟨_,af _ rfl,rfl⟩
end
theorem draws(hh:A.handled=none)(it t:Addr)(hne:t≠it)(items:Array Value) :
  Draws prog w A it [it,t] items.size (fun i v=>items[i]?=some v) (fun i h=>IsTupIter h it t i/\IsTup h t items) where
 live:=fun _ _ st=>let ⟨o,ho,_⟩:=st.1;⟨o,ho⟩
 frame:=fun _ _ _ st hk=>⟨let ⟨o,ho,r⟩:=st.1;⟨o,hk it ZJ o ho,r⟩,let ⟨o,ho,r⟩:=st.2;⟨o,hk t ZJ o ho,r⟩⟩
 item:=fun i s Q E hi st hQ=>nx_item st.1 st.2 (x:=items[i]) (by simp[hi]) fun h' hit' hs'=>hQ _ h' s.toks (by simp[hi]) ⟨hit',st.2.extBut hs'.extBut hne⟩ hs'
 done:=fun s Q E st hE=>nx_end hh st.1 st.2 ZJ hE
theorem bA9(t:Addr)(items:Array Value) :
  Meets (Builtin.«enumerate.__new__» ⟨[.type "enumerate",.ref t],[]⟩) (fun _ R s=>IsTup s.heap t items /\
   R (.ok (.ret (.ref (s.heap.objs.size+1)))) { s with heap:=(s.heap.push { cls:=.type "tuple_iterator",data:=.fields #[.ref t,.int 0 0] }).push { cls:=.type "enumerate",data:=.fields #[.none,.bool false,.ref s.heap.objs.size,jc 0,.none,.none] } }) :=
 .of_wp fun prog w A R s h=>by
  obtain⟨hp,g,d,tk,os⟩:=s;obtain⟨ht,h⟩:=h;have hsub:=sub_enumerate;have hT:=ht;obtain⟨o,ho,hc,n,hd⟩:=ht;have hz:(hp.push { cls:=.type "tuple_iterator",data:=.fields #[.ref t,.int 0 0] }).objs.size=hp.objs.size+1:=cp ..;obtain⟨cls,dct,data,sl⟩:=o;have hc:cls = .type "tuple":=hc;have hd:data = .seq items n:=hd;subst hc hd;have hT':IsTup (Shared.heap ⟨hp,g,d,tk,os⟩) t items:=hT;rw[<-hz] at h
  wp_walk using AutoSeq1.wpAny_loadPart' ho
  refine wpAny_stack_any fun st=>jQ ?_;split
  ·rename_i c _ _ _ _ _;cases (c==Value.type "enumerate")
   ·wp_walk using AutoSeq1.wpAny_loadPart' ho,iter_tuple hT'
    exact⟨_,rfl,h⟩
   ·wp_walk using AutoSeq1.wpAny_loadPart' ho,iter_tuple hT'
    exact⟨_,rfl,h⟩
  ·wp_walk using AutoSeq1.wpAny_loadPart' ho,iter_tuple hT'
   exact⟨_,rfl,h⟩
end L2.En
section
namespace L2.En
open PySem PySem.Spec PyProof.Rows
section
variable {prog:jW}{w:World}{A:jY}{E:Value->jR->Prop}{s:jR}
theorem call_enum(ht:IsTup s.heap t items)
  (h:∀h',IsEnum h' (s.heap.objs.size+1) s.heap.objs.size 0 .none->IsTupIter h' s.heap.objs.size t 0->(∀b o,s.heap.get? b=some o->h'.get? b=some o)->Q (.ref (s.heap.objs.size+1)) { s with heap:=h' }):wpAny (model prog w) A (call (.type "enumerate") [.ref t]) Q E s:=by
 refine callType_new F.called_enumerate ZE (F.typeCall_enumerate_1 _) (F.newCall_enumerate_1 _) (fun obj=>F.args_object_init_2 obj _) F.entry_enumerate_new (bA9 t items) ⟨ht,?_⟩;have hz:(s.heap.push { cls:=.type "tuple_iterator",data:=.fields #[.ref t,.int 0 0] }).objs.size=s.heap.objs.size+1:=cp ..;have he:IsEnum ((s.heap.push { cls:=.type "tuple_iterator",data:=.fields #[.ref t,.int 0 0] }).push { cls:=.type "enumerate",data:=.fields #[.none,.bool false,.ref s.heap.objs.size,jc 0,.none,.none] }) (s.heap.objs.size+1) s.heap.objs.size 0 .none:=by have:=af (s.heap.push { cls:=.type "tuple_iterator",data:=.fields #[.ref t,.int 0 0] }) (o:={ cls:=.type "enumerate",data:=.fields #[.none,.bool false,.ref s.heap.objs.size,jc 0,.none,.none] }) rfl;rw[hz] at this;exact this
 exact⟨⟨_,he,rfl⟩,h _ he ⟨_,a0 _ (af _ rfl),rfl,rfl⟩ fun b o x=>a0 _ (a0 _ x)⟩
end
end L2.En
namespace L2.Ds
open PySem PySem.Spec PyProof.Rows
theorem _root_.L2.Inv.turnedL{X:Cx}{pins:List ZL}{O:St}{H:Hp}{s:jR}{h':Heap}{t':Nat}{fp:List Addr}(I:Inv X pins O H s)(k:∀b o,b∉fp->s.heap.get? b=some o->h'.get? b=some o)(hf:∀b∈fp,FpOk X pins H b):Inv X pins O H { s with heap:=h',toks:=t' }:=by
 have nit:∀b u,H b=some u->b∉fp:=fun b u e z=>by rw[(hf b z).1] at e;cases e
 refine I.step (g':=s.gens) (d':=s.drawn) (ch:=fp) (fun b hb=>?_) (fun b o _ _ hc e _=>k b o hc e) (fun b o _ _ hc e _=>⟨o.slots,k b o hc e⟩) (fun _ _ _ _ n=>n)
  (fun b o hc e=>⟨o,k b o hc e⟩) (fun _ _ e=>e) (fun _ _ _ e=>e) (fun m hm=>?_) (fun b u e=>?_) I.bare
 ·obtain⟨_,f1,_,f3,f4,f5⟩:=hf b hb;exact⟨f3,f1,f4,f5⟩
 ·obtain⟨o,es,ep,ho,r⟩:=hm;exact⟨o,es,ep,k _ o (fun z=>(hf _ z).2.1 rfl) ho,r⟩
 ·exact(I.hok b u e).stay (fun v q=>k b v (nit b u e) q) fun _ _ q=>q
def Ite(K:W.Frag)(a:Addr)(m:Nat):It:=⟨fun i H=>∃xs x,SqT K H a xs/\xs.length=m/\xs[i]?=some x,fun i H x H'=>∃p v,H p=none/\x = .ref p/\H'=upd H p (.tup [.int i,v])/\∀ys,SqT K H a ys->ys[i]?=some v,fun i H=>∃xs,SqT K H a xs/\xs.length=m/\m<=i⟩
theorem bAz{P:jW}{w:World}{K:W.Frag}{elts:List Expr}{x1}{tp:Pos}(a e it:Addr)(m:Nat)(hei:e≠it)(hae:a≠e)(hai:a≠it) :
  Turn P w K (.Tuple elts x1 tp) (Ite K a m) [e,it] e (fun i h=>i<=m/\(∃old,IsEnum h e it (i:Nat) old)/\IsTupIter h it a i) where
 mem:=by simp
 obj:=fun i h st b hb=>by
  obtain⟨_,⟨old,he⟩,o,ho,hc,hd⟩:=st;rcases ae.mp hb with rfl |hb
  ·exact⟨_,he,fun v z=>by cases z⟩
  ·have:=b8.mp hb;subst this;exact⟨o,ho,fun v z=>by rw[hd] at z;cases z⟩
 keep:=fun i h h' st k=>by obtain⟨hi,⟨old,he⟩,o,ho,r⟩:=st;exact⟨hi,⟨old,k e ZJ _ he⟩,o,k it ZJ o ho,r⟩
 item:=by
  intro X hP hw hK hc i pins s O H E I hf st hg;subst hP hw hK;obtain⟨xs,x,hq,hl,hx⟩:=hg;obtain⟨its,rv,p,hz⟩:=I.tuple hq;obtain⟨u,hu,ru⟩:=rv.get hx;obtain⟨hi,⟨old,he⟩,hit⟩:=st;have hlt:i<its.toArray.size:=by have:=(b9.mp hu).1;simpa using this
  refine wpAny_pyNext_enum_itemD (En.draws (A:=X.A.in1) (show X.A.in1.handled=none from I.ok.hd hc) it a hai its.toArray) he ⟨hit,p⟩ hlt hei (by simp[hei,hae.symm]) fun x2 h' tk hP ho hs' hT hsz hk=>?_;have hx2:x2=u:=by have hP:its.toArray[i]?=some x2:=hP;rw[iJ,hu] at hP;cases hP;rfl
  subst hx2;refine⟨_,rfl,lU ho fun h2 he2 hs2=>?_⟩;have hs2:Heap.SameBut e h' h2:=hs2;have hfr:H s.heap.objs.size=none:=I.hok.fresh (a9 _);have elt:e<s.heap.objs.size:=aj he;have ilt:it<s.heap.objs.size:=by obtain⟨_,q,_⟩:=hit;exact aj q
  have I1:Inv X pins O (upd H s.heap.objs.size (.tup [.int i,x])) { s with heap:=s.heap.push { cls:=.type "tuple",data:=.seq #[.int i tk,x2] },toks:=tk+1 } :=
   I.laid (t':=tk+1) (fun b o e=>a0 _ e) (a9 _) ⟨by show 2<=jU;decide,[.int i tk,x2],.cons ⟨tk,rfl⟩ (.cons ru .nil),aDm.new _ _⟩
  have I2:=I1.turnedL (fp:=[e,it]) (h':=h2) (t':=tk+1) (fun b o hb q=>?_) fun b hb=>?_
  ·refine⟨.ref s.heap.objs.size,_,I2,rfl,⟨s.heap.objs.size,x,hfr,rfl,rfl,fun ys hy=>by rw[I.tuple_inj hy hq];exact hx⟩,⟨?_,⟨x2,by simpa using he2⟩,?_⟩,fun b hb=>?_⟩
   ·have:=(b9.mp hx).1;omega
   ·obtain⟨o,q,r⟩:=hs'.1;exact⟨o,hs2.extBut _ _ (Ne.symm hei) q,r⟩
   ·have hn:=(hf b hb).1;have nb:b≠s.heap.objs.size:=by
     rcases ae.mp hb with rfl |hb
     ·exact au elt
     ·have:=b8.mp hb;subst this;exact au ilt
    rw[aAk nb];exact hn
  ·have b1:b≠e:=fun z=>hb (by simp[z]);have b2:b≠it:=fun z=>hb (by simp[z]);by_cases z:b=s.heap.objs.size
   ·subst z;rw[af _ rfl] at q;cases q;exact hs2.extBut _ _ b1 hT
   ·have q':s.heap.get? b=some o:=by have:=q;rw[dg _ _ _ z] at this;exact this
    exact hs2.extBut _ _ b1 (hk b o b1 b2 q')
  ·obtain⟨f0,f1,f2,f3,f4,f5⟩:=hf b hb;have nb:b≠s.heap.objs.size:=by
    rcases ae.mp hb with rfl |hb
    ·exact au elt
    ·have:=b8.mp hb;subst this;exact au ilt
   exact⟨by rw[aAk nb];exact f0,f1,f2,f3,f4,f5⟩
 done:=by
  intro X hP hw hK hc i pins s O H E I hf st hg;subst hP hw hK;obtain⟨xs,hq,hl,hg⟩:=hg;obtain⟨its,rv,p,hz⟩:=I.tuple hq;obtain⟨hi,⟨old,he⟩,hit⟩:=st;have hn:i=its.toArray.size:=by have:=rv.length;rw[ah];omega
  subst hn;obtain⟨f0,f1,f2,f3,f4,f5⟩:=hf it ZJ;exact wpAny_pyNext_enum_endD (En.draws (A:=X.A.in1) (show X.A.in1.handled=none from I.ok.hd hc) it a hai its.toArray) he ⟨hit,p⟩ fun h' eb=>⟨rfl,I.turned (t':=s.toks) (fun b o hb e=>eb b o hb e) f0 f1 f3 f4 f5⟩
 self:=fun _ _ _ _ _ st h=>let ⟨_,⟨_,he⟩,_⟩:=st;kx he h
section
variable {X:Cx}{tw:Addr}
theorem aWg{i:Nat}(e:(aFv xs)[i]?=some t):∃x,xs[i]?=some x/\t = .tup [.int i,x]:=by unfold aFv at e;rw[bo,List.getElem?_zipIdx,Option.map_map] at e;obtain⟨x,hx,e⟩:=Option.map_eq_some_iff.mp e;refine⟨x,hx,?_⟩;rw[<-e];show T.tup [.int ((0+i:Nat):Int),x]=_;rw[ez]
theorem aP6(xs:List T):(aFv xs).length=xs.length:=by unfold aFv;rw[a5,ie]
theorem at_enum{K:W.Frag}{H:Hp}{a:Addr}{xs:List T}{vs:List V}(h:H a=some (.tup vs))(r:Reps tw H xs vs):ItAt tw (Ite K a xs.length) H (aFv xs):=fun i=>by have hl:=r.length;refine⟨fun t e=>?_,fun hi=>⟨vs,SqT.of h,hl.symm,by rw[aP6] at hi;exact hi⟩⟩;obtain⟨x,hx,rfl⟩:=aWg e;obtain⟨v,hv,rv⟩:=r.get hx;refine⟨⟨vs,v,SqT.of h,hl.symm,hv⟩,fun x H2 y=>?_⟩;obtain⟨p,u,hp,rfl,rfl,y⟩:=y;have:=y vs (SqT.of h);rw[hv] at this;cases this;refine⟨.new hp,fun n tn=>tn.new hp,?_⟩;rw[Rep];refine⟨p,_,rfl,aAj,.cons (by rw[Rep]) (.cons (Rep.mono ?_ _ _ rv) .nil)⟩;exact fun b=>⟨fun ws e=>by rw[aAk (aBo e hp)];exact e,fun o u e=>by rw[aAk (aBo e hp)];exact e⟩
theorem si_enum{elts:List Expr}{x1}{tp:Pos}{pos p:Pos}{a:Expr}{d:DE}(ha:SE X tw a d)(hm:X.mg "enumerate" = none)(hg:autoParam (Gl X "enumerate") lZ)(hs:autoParam (jV [a] X.env=(false,eval a X.env)::jV [] X.env) lZ)(hs2:autoParam ((jg pos (jV [] X.env)).any (·.1)=false) lZ) :
  SIc X tw (.Tuple elts x1 tp) (.Call (.Name "enumerate" p) [a] [] pos) (aZ6 d):=by
 intro B ρ n ts n' hd pins s O H R I ⟨Rl,k⟩;obtain⟨⟨t0,m0,n1⟩,e1,e2⟩:=bind_some hd;have ⟨xs,et,ets,en⟩:∃xs,t0 = .tup xs/\ts=aFv xs/\n'=n1:=by
  cases t0 with
  |tup xs=>cases e2;exact⟨xs,rfl,rfl,rfl⟩
  |_=>cases e2
 subst et ets en;have hA:SA X tw [a] (aAa d dNil):=aAh ha aAn hs;have e3:aAa d dNil ρ n=some ([.tup xs],n'):=by unfold aAa;rw[e1];rfl
 refine Call_ (aEe I hg hm boot_enumerate (PyProof.Rows.callWith_type1 (thn (hA.run e3 pos I Rl) fun us s1 ⟨vs,H1,I1,r1,a1,R1,c1⟩=>?_) hs hs2));obtain⟨v,rfl,r⟩:=aAp c1;obtain⟨u,rfl,ru⟩:=r1.one;obtain⟨ad,va,rfl,ea,xa⟩:=aBc r;cases ru;obtain⟨its,rv,ht,hz⟩:=I1.tuple (SqT.of (K:=X.K) ea);have hlt:ad<s1.heap.objs.size:=by obtain⟨_,q,_⟩:=ht;exact aj q
 refine En.call_enum ht fun h' he hit hk=>?_;have I2:Inv X pins O H1 { s1 with heap:=h' }:=I1.kept (t':=s1.toks) hk;refine kx he ?_;refine⟨s1.heap.objs.size+1,[s1.heap.objs.size+1,s1.heap.objs.size],_,_,H1,rfl,I2,bAz ad (s1.heap.objs.size+1) s1.heap.objs.size xs.length (Nat.succ_ne_self _) (au (c6 hlt)) (au hlt),⟨dm _,⟨_,he⟩,hit⟩,fun b hb=>?_,k _ H1 a1 R1.tn fun H2 n2 t2 x2=>at_enum (x2.to ad _ ea (R1.tn.ne_tup ea)) (Reps.mono (x2.fx R1.tn) _ _ xa)⟩;have hb:s1.heap.objs.size<=b:=by
  rcases ae.mp hb with rfl |hb
  ·omega
  ·have:=b8.mp hb;exact gP this.symm
 exact I1.fpOk hb (I1.hok.fresh hb)
end
end L2.Ds
namespace L2.Zi
open PySem PySem.Spec PyProof.Rows
abbrev g1(h:Heap)(t:Addr):Heap:=h.push { cls:=.type "tuple_iterator",data:=.fields #[.ref t,.int 0 0] }
abbrev g2(h:Heap)(t u:Addr):Heap:=g1 (g1 h t) u
abbrev g3(h:Heap)(t u:Addr):Heap:=(g2 h t u).push { cls:=.type "tuple",data:=.seq #[.ref h.objs.size,.ref (g1 h t).objs.size] }
abbrev g4(h:Heap)(t u:Addr):Heap:=(g3 h t u).push { cls:=.type "tuple",data:=.seq #[.none,.none] }
abbrev g5(h:Heap)(t u:Addr):Heap:=(g4 h t u).push { cls:=.type "zip",data:=.fields #[.none,.bool false,.bool false,.ref (g2 h t u).objs.size,.ref (g3 h t u).objs.size] }
end L2.Zi
end
namespace L2.Ds
open PySem PySem.Spec PyProof.Rows L2.Tm
theorem aWz(n m:Int)(a b:List Int):lexLt (n::a) (m::b)=if n==m then lexLt a b else decide (n<m):=by rw[lexLt]
def TupE(h:Heap)(v:Value)(l:List Int):Prop:=∃a o xs n,v = .ref a/\h.get? a=some o/\o.cls = .type "tuple" /\ o.data = .seq xs n/\jb xs.toList l
theorem TupE.ky(t:TupE h v l):kyV h v=l:=by
 obtain⟨a,o,xs,n,rfl,ho,hc,hd,hi⟩:=t
 show (match h.get? a with
  | some o=>match o.data with
   |.seq xs _=>xs.toList.filterMap intOf?
   |_=>[]
  |none=>[])=l
 rw[ho]
 show (match o.data with
   |.seq xs _=>xs.toList.filterMap intOf?
   |_=>[])=l
 rw[hd];exact aF2 hi
theorem TupE.mono(k:∀b o,h.get? b=some o->h'.get? b=some o)(t:TupE h v l):TupE h' v l:=by obtain⟨a,o,xs,n,r,ho,q⟩:=t;exact⟨a,o,xs,n,r,k a o ho,q⟩
theorem aLw:∀ {us:List Value} {l:List Int},jb us l->ItemsAre (j9 prog w) l us
 |_,_,.nil=>.nil
 |_,_,.cons n t h=>.cons (show Value.isInt n (.int n t)=true from by simp[Value.isInt]) (aLw h)
theorem TupE.key(t:TupE h (.ref a) l):lL (j9 prog w) h l a:=by obtain⟨a',o,xs,n,e,ho,hc,hd,hi⟩:=t;cases e;exact⟨o,xs,n,ho,hc,hd,aLw hi⟩
section
variable {prog:jW}{w:World}{A:jY}{E:Value->jR->Prop}{s:jR}
theorem tupE_eq{Q:Bool->jR->Prop}(hu:A.units<cLine)(hx:TupE s.heap x l)(hy:TupE s.heap y k)(q:Q (decide (l=k)) s):wpAny ZG A (eqBool x y) Q E s:=by obtain⟨a,o,xs,n,rfl,r⟩:=id hx;obtain⟨b,o',ys,n',rfl,r'⟩:=id hy;exact wpAny_eqBool_tuple hu hx.key hy.key q
theorem aMv(hx:TupE s.heap (.ref a) x)(hy:TupE s.heap (.ref b) y)(h:P (.done (.ret (.bool (lexLt x y)))) s) :
  wpAny ZG A (Builtin.«tuple.__lt__» ⟨[.ref a,.ref b],[]⟩) P E s:=by
 have hTb:=(hy.key (prog:=prog) (w:=w)).typeIs;obtain⟨_,oa,xs,na,e1,hoa,_,hda,hia⟩:=hx;cases e1;obtain⟨_,ob,ys,nb,e2,hob,_,hdb,hib⟩:=hy;cases e2;show wpAny _ _ (isInstance (.ref b) (.type "tuple") >>= _) _ _ s;refine jP (jy hTb isSubtype_tuple_tuple ?_);simp only[iZ,bu,if_false];refine jP (lS hoa hda ?_);refine jP (lS hob hdb ?_);refine jP ?_;refine wpAny_forIn_list _
  (fun rest r s'=>r.1=none/\s'=s/\∃x' y' xs' ys',rest=List.zip xs' ys'/\jb xs' x'/\jb ys' y'/\lexLt x' y'=lexLt x y/\(decide (xs'.length<ys'.length))=decide (xs.size<ys.size))
  _ ?_ ?_ _ _ ⟨rfl,rfl,x,y,xs.toList,ys.toList,rfl,hia,hib,rfl,by simp⟩
 ·rintro⟨u,v⟩ rest r s' ⟨hr,rfl,x',y',xs',ys',hz,hx',hy',hdec,hlen⟩;cases hx' with
  |nil=>simp at hz
  | cons n t hx'' =>
   cases hy' with
   |nil=>simp at hz
   | cons m t' hy'' =>
    simp only[ig,List.cons.injEq,Prod.mk.injEq] at hz;obtain⟨⟨rfl,rfl⟩,rfl⟩:=hz;refine jP (wpAny_eqBool_int ?_);rw[aWz] at hdec;by_cases hk:n=m
    ·subst hk;rw[beq_self_eq_true] at hdec |-;simp only[iZ,bu,if_false];exact jQ ⟨rfl,rfl,_,_,_,_,rfl,hx'',hy'',by simpa using hdec,by simpa using hlen⟩
    ·have e':(n==m)=false:=by simpa using hk
     rw[e'] at hdec |-;simp only[Bool.not_false,if_true];have hdec:decide (n<m)=lexLt x y:=by simpa using hdec
     refine jP (jf ?_);refine jP (wpAny_lt_int ?_);rw[hdec];exact jQ (jQ h)
 ·rintro⟨r1,r2⟩ s' ⟨hr,rfl,x',y',xs',ys',hz,hx',hy',hdec,hlen⟩;simp only at hr;subst hr;refine jQ ?_;have hfin:decide (xs.size<ys.size)=lexLt x y:=by
   rw[<-hdec,<-hlen];cases hx' with
   | nil =>
    cases hy' with
    |nil=>rfl
    |cons _ _ _=>rfl
   | cons _ _ _ =>
    cases hy' with
    |nil=>rfl
    |cons _ _ _=>simp at hz
  show P (.done (.ret (.bool (decide (xs.size<ys.size))))) s';rw[hfin];exact h
theorem tupE_lt(hu:A.units<cLine)(hx:TupE s.heap x l)(hy:TupE s.heap y k)(q:Q (.bool (lexLt l k)) s):wpAny ZG A (j6 .Lt x y) Q E s:=by
 obtain⟨a,o,xs,n,rfl,r⟩:=id hx;obtain⟨b,o',ys,n',rfl,r'⟩:=id hy;have tx:=(hx.key (prog:=prog) (w:=w)).typeIs;have ty:=(hy.key (prog:=prog) (w:=w)).typeIs;exact wpAny_richCompare_same_room (op:=.Lt) tx ty F.slot_tuple_lt
  (j3 F.slot_tuple_lt tx F.entry_tuple_lt (aMv hx hy ⟨_,rfl,(fun e=>nomatch e),q⟩) (F.args_tuple_lt_2 _ _)) hu
end
def aS9(prog:jW)(w:World)(h:Heap)(vs:List Value)(rk:Keyed->Nat):Prop :=
 2<=vs.length->∃κ,∀ (A:jY) (E:Value->jR->Prop) (s:jR),A.units<cLine->(∀b o,h.get? b=some o->s.heap.get? b=some o) ->
  wpAny ZG A (keyKind' vs.toArray) (fun k s'=>k=κ/\s'=s) E s/\LtOk prog w A E s κ (PyProof.Rows.pairsOf vs) rk
theorem aR9(ky:vs.map kf=ls)(p:xs.Perm (PyProof.Rows.pairsOf vs))(sr:Srt (fun x=>rank ls (kf x.1)) xs 0 vs.length) :
  (xs.map (·.2)).toList.Perm vs/\(xs.map (·.2)).toList.map kf=aC1 ls:=by
 have hl:xs.toList.Perm (vs.zip vs):=by rw[<-pairsOf_toList];exact fh.mp p
 have p2:(xs.map (·.2)).toList.Perm vs:=by have:=hl.map (·.2);rw[jI (a9 _)] at this;rw[jJ];exact this
 refine⟨p2,?_⟩;have p3:=p2.map kf;rw[ky] at p3;refine aMo p3 ?_;have hsz:xs.size=vs.length:=by rw[p.size_eq,pairsOf_size]
 have hmem:∀x,x∈xs->x.1∈vs/\x.2=x.1:=fun x hx=>aE7 (p.mem_iff.mp hx);rw[fE];intro i j hi hj hij;have hi':i<xs.size:=by simpa using hi
 have hj':j<xs.size:=by simpa using hj
 have q:=sr i j (dm _) (c9 hij) ZM;rw[aBe hi',aBe hj'] at q;have m1:=hmem _ (bv hi');have m2:=hmem _ (bv hj');have e1:((xs.map (·.2)).toList.map kf)[i]=kf xs[i].1:=by simp[m1.2]
 have e2:((xs.map (·.2)).toList.map kf)[j]=kf xs[j].1:=by simp[m2.2]
 show lexLt _ _=false;rw[e1,e2,<-aJr (nss:=ls) (by rw[<-ky];exact bw m2.1)];simpa using q
theorem aWl{kf:Value->List Int}{mk:List Int->T}{us out:List Value}{ls:List ZB}(rv:Vals vs us)(r:Reps tw H (ls.map mk) vs)(ky:us.map kf=ls)(p:out.Perm us):∃ws,Vals ws out/\Reps tw H ((out.map kf).map mk) ws:=by
 have all:∀ {ls:List ZB} {vs:List V} {us:List Value},Vals vs us->Reps tw H (ls.map mk) vs->us.map kf=ls->∀u∈us,∃v,RelV v u/\Rep tw H (mk (kf u)) v:=by
  intro ls vs us rv
  induction rv generalizing ls with
  |nil=>intro _ _ u hu;simp at hu
  | cons r1 r2 ih =>
   rename_i v u vs us;intro rp ek u' hu;subst ek;rw[a8,a8] at rp;obtain⟨v',w,e,p1,p2⟩:=aAm rp;cases e;rcases ae.mp hu with rfl |hu
   ·exact⟨v,r1,p1⟩
   ·exact ih p2 rfl u' hu
 have hall:=all rv r ky;refine aB6 ZJ fun i u e=>?_;obtain⟨v,q1,q2⟩:=hall u (p.mem_iff.mp (fH e));exact⟨v,mk (kf u),q1,by simp[e],q2⟩
end L2.Ds
namespace L2.Ds
open PySem PySem.Spec PyProof.Rows
def SJ(X:Cx)(tw:Addr)(k:Nat)(es:List Expr)(d:DV):Prop:=∀B ρ n n',d ρ n=some n'->∀ (acc:Str) (pins:List ZL) (s:jR) (O:St) (H:Hp) (Q:V->Hp->Prop),acc.length<=1000*k->Inv X pins O H s->Rel X.K B tw ρ n O H->(∀v H',Ext tw H H'->Tn tw n' H'->Q v H') ->
 wpAny ZC X.A (joinParts acc (evalEach es X.env)) (EP X pins O Q) X.xe s
def Holds(outer:List Env)(H:Hp)(h:Heap)(q:List ZL):Prop:=∀p∈q,h.get? p.1=some p.2/\H p.1=none/\p.1∉frs outer/\∀v,p.2.data ≠ .cell v
structure Fr where
 f:Addr
 od:Option Addr
 an:Option Addr
 sl:Array (Option Value)
 oc:Value
 kV:Value
 dc:Value
 pm:Value
 cd:Value
 ct:Value
abbrev Fr.fd(r:Fr)(n:Str)(st:Stmt):jr:=W.fnOf n n (aDn st) (aB7 st) (aAv st) .none r.kV r.dc r.pm r.an r.cd r.ct
def FnIn(K:W.Frag)(n:Str)(st:Stmt)(r:Fr):Prop :=
 W.nsIn K ji n=some (some (.ref r.f))/\K.lookup r.f=some ⟨r.oc,r.od,.func (r.fd n st),r.sl⟩/\W.codeIn K r.cd n=true/\W.keepIn K (.ref r.f)=true
theorem fnIn_mk{K:W.Frag}{n:Str}{st:Stmt}{f:Addr}{od an:Option Addr}{sl:Array (Option Value)}{oc kV dc pm cd ct:Value}(a:W.nsIn K ji n=some (some (.ref f)))
  (l:K.lookup f=some ⟨oc,od,.func (W.fnOf n n (aDn st) (aB7 st) (aAv st) .none kV dc pm an cd ct),sl⟩) (c:W.codeIn K cd n=true) (k:W.keepIn K (.ref f)=true):FnIn K n st ⟨f,od,an,sl,oc,kV,dc,pm,cd,ct⟩:=⟨a,l,c,k⟩
section
variable {K:W.Frag}{n:Str}{st:Stmt}{r:Fr}
theorem FnIn.fn(h:FnIn K n st r):Fun K n n st r.f (r.fd n st):=fun_mk h.2.1 h.2.2.1 h.2.2.2
theorem FnIn.mg{h0:Heap}{mg:Str->Option Value}(h:FnIn K n st r)(X:K.In h0)(G:h0.Ns ji mg):mg n=some (.ref r.f):=W.mg_of X G h.1
end
theorem scZ{N P:List Str}{sc:Scope}(a:autoParam (sc.kind = .function) lZ)(b:autoParam (sc.isCoroutine=false) lZ)(c:autoParam (sc.isGenerator=false) lZ)(d:N.Nodup:=by decide +kernel)(e:autoParam (N.take P.length=P) lZ)(f:∀x∈P,sc.names.lookup x=some .local\/sc.names.lookup x=some .cell:=by decide +kernel)(g:∀y∈sc.names,y.2 ≠ .free:=by decide +kernel):FnScope N P sc:=⟨a,b,c,d,e,f,g⟩
def Bd(n:Str)(st:Stmt)(ps:List Str):Prop:=∀ (kV doc pm:Value) (an:Option Addr) (cdv ct:Value) (us:List Value),us.length=ps.length->bindArgs (W.fnOf n n (aDn st) (aB7 st) (aAv st) .none kV doc pm an cdv ct) ⟨us,[]⟩=pure (ps.zip us)
theorem len0{P:List Value->Prop}(h:P []):∀us:List Value,us.length=0->P us:=fun us e=>by
 cases us with
 |nil=>exact h
 |cons a us=>exact Nat.noConfusion e
theorem lenS{P:List Value->Prop}{k:Nat}(h:∀a (us:List Value),us.length=k->P (a::us)):∀us:List Value,us.length=k+1->P us:=fun us e=>by
 cases us with
 |nil=>exact Nat.noConfusion e
 |cons a us=>exact h a us (Nat.succ.inj e)
section
variable {n:Str}{st:Stmt}{p1 p2 p3 p4 p5:Str}
theorem bd1(h:∀ (kV doc pm:Value) (an:Option Addr) (cdv ct a:Value),bindArgs (W.fnOf n n (aDn st) (aB7 st) (aAv st) .none kV doc pm an cdv ct) ⟨[a],[]⟩=pure [(p1,a)]):Bd n st [p1]:=fun k d p an c t=>lenS fun a=>len0 (h k d p an c t a)
theorem bd2(h:∀ (kV doc pm:Value) (an:Option Addr) (cdv ct a b:Value),bindArgs (W.fnOf n n (aDn st) (aB7 st) (aAv st) .none kV doc pm an cdv ct) ⟨[a,b],[]⟩=pure [(p1,a),(p2,b)]):Bd n st [p1,p2]:=fun k d p an c t=>lenS fun a=>lenS fun b=>len0 (h k d p an c t a b)
theorem bd3(h:∀ (kV doc pm:Value) (an:Option Addr) (cdv ct a b c:Value),bindArgs (W.fnOf n n (aDn st) (aB7 st) (aAv st) .none kV doc pm an cdv ct) ⟨[a,b,c],[]⟩=pure [(p1,a),(p2,b),(p3,c)]):Bd n st [p1,p2,p3]:=fun k d p an c t=>lenS fun a=>lenS fun b=>lenS fun e=>len0 (h k d p an c t a b e)
theorem bd4(h:∀ (kV doc pm:Value) (an:Option Addr) (cdv ct a b c d:Value),bindArgs (W.fnOf n n (aDn st) (aB7 st) (aAv st) .none kV doc pm an cdv ct) ⟨[a,b,c,d],[]⟩=pure [(p1,a),(p2,b),(p3,c),(p4,d)]):Bd n st [p1,p2,p3,p4]:=fun k d p an c t=>lenS fun a=>lenS fun b=>lenS fun e=>lenS fun f=>len0 (h k d p an c t a b e f)
end
section
variable {P:jW}{w:World}{K:W.Frag}{base:Heap}{tw:Addr}{n:Str}{st:Stmt}{r:Fr}{h0:Heap}{mg:Str->Option Value}{lv:Nat}{N ps:List Str}
theorem knF(X:K.In h0)(G:h0.Ns ji mg)(h:FnIn K n st r){b:DS}
  (hb:∀ (cdv:Value) (A:jY) (outer:List Env) (s:jR) (H:Hp) (E:XK),Room lv (A.deeper (envOfC n (aAv st) s.heap.objs.size r.f cdv))->N.Nodup->SSs (cxOf CX0 P w K mg base N n (aAv st) r.f cdv A outer s H E).nox tw (aB7 st) b)
  (S:FnScope N ps (aAv st):=by exact scZ) (bi:Bd n st ps:=by first |exact bd1 fun _ _ _ _ _ _ _=>rfl |exact bd2 fun _ _ _ _ _ _ _ _=>rfl |exact bd3 fun _ _ _ _ _ _ _ _ _=>rfl |exact bd4 fun _ _ _ _ _ _ _ _ _ _=>rfl |exact bd5 fun _ _ _ _ _ _ _ _ _ _ _=>rfl):Kn P w K mg base (lv+1) n ps (fnD N.length b) tw :=
 ⟨_,_,fn_ok h.fn S fun c A o s H E hr=>hb c A o s H E hr S.nd,h.fn.binds bi,h.2.2.2,h.mg X G⟩
end
section
variable {X:Cx}{tw:Addr}{lv ar:Nat}{ps:List Str}{x:Str}{p pos:Pos}{e:Expr}{es:List Expr}{a:DB}
theorem aAu{f:Fn}(G:Kn X.prog X.w X.K X.mg X.base lv x ps f tw)(ha:SB X tw (e::es) a)(hr:Room lv X.A:=by first |exact hr.mono ZE |exact hr.mono ZM)(hn:autoParam (ps.length=ar) lZ)(hg:autoParam (Gl X x) lZ)(hdb:autoParam ZO l5)
  (he:autoParam (jV (e::es) X.env=(false,eval e X.env)::jV es X.env) lZ) (hpl:autoParam ((jg pos (jV es X.env)).any (·.1)=false) lZ):SE X tw (.Call (.Name x p) (e::es) [] pos) (dCall ar f a):=se_callK G hr ha hn hg hdb he hpl
end
end L2.Ds
namespace L2.Ds
open PySem PySem.Spec PyProof.Rows L2.Tm
section
variable {prog:jW}{w:World}
inductive RowsAre (prog:jW) (w:World) (h:Heap):List ZB->List Value->Prop
 |nil:RowsAre prog w h [] []
 |cons {l:List Int} {b:Addr} {ls:List ZB} {vs:List Value} (q:lL (j9 prog w) h l b) (r:RowsAre prog w h ls vs):RowsAre prog w h (l::ls) (.ref b::vs)
def aDw(prog:jW)(w:World)(h:Heap)(ls:List ZB)(a:Addr):Prop:=∃o its m,h.get? a=some o/\o.cls = .type "tuple" /\ o.data = .seq its m/\RowsAre prog w h ls its.toList
theorem RowsAre.uniq(p:RowsAre prog w h x vs)(q:RowsAre prog w h y vs):x=y:=by
 induction p generalizing y with
 |nil=>cases q;rfl
 | cons p1 _ ih =>
  cases q with
  |cons q1 q2=>rw[p1.inj q1,ih q2]
theorem aDw.ty{s:jR}(x:aDw prog w s.heap ls a):s.TypeIs (.ref a) "tuple":=let ⟨o,_,_,ho,hc,_⟩:=x;⟨o,ho,hc⟩
theorem aDw.uniq(p:aDw prog w h x a)(q:aDw prog w h y a):x=y:=by obtain⟨o,its,m,h1,_,h3,h4⟩:=p;obtain⟨o',its',m',g1,_,g3,g4⟩:=q;rw[h1] at g1;cases g1;rw[h3] at g3;cases g3;exact h4.uniq g4
theorem RowsAre.stay{es ep}(ho:h.get? d=some o)(hd:o.data = .dict es ep)(hs:Heap.SameBut d h h')(p:RowsAre prog w h x vs):RowsAre prog w h' x vs:=by
 induction p with
 |nil=>exact .nil
 |cons p1 _ ih=>exact .cons (p1.keeps ho hd hs) ih
theorem aDw.stay{es ep}(p:aDw prog w h x a)(ho:h.get? d=some o)(hd:o.data = .dict es ep)(hs:Heap.SameBut d h h'):aDw prog w h' x a:=by
 obtain⟨o',its,m,h1,h2,h3,h4⟩:=p;have ne:a≠d:=fun z=>by subst z;rw[h1] at ho;cases ho;rw[h3] at hd;cases hd
 exact⟨o',its,m,(hs.2 a ne).trans h1,h2,h3,h4.stay ho hd hs⟩
def aI9(ls:List ZB):Nat:=(ls.map fun l=>l.length+1).sum
variable {A:jY}{E:Value->jR->Prop}{s:jR}
theorem aX4{Q:Int->jR->Prop}(hu:A.units+2<cLine)(hk:aDw prog w s.heap ls a)(q:Q (aJe prog w ls) { s with toks:=s.toks+(aI9 ls+1) }):wpAny (model prog w) A (pyHash (.ref a)) Q E s:=by
 have T:=hk.ty;obtain⟨o,its,m,h1,_,h3,h4⟩:=hk;unfold pyHash;refine jP (wpAny_cRoomFor_or (.inr ZM) (jP (lK T F.slot_tuple_hash.lookup ?_)));show wpAny _ _ (if (some (Value.builtin "tuple.__hash__")==some Value.none)=true then _ else _) _ _ _;rw[if_neg (by rw[beq_builtin_none];simp)];refine jP (lK T F.slot_tuple_hash.lookup (jP (wpAny_callSpecialIfBoundUnlessNone?_slot T F.slot_tuple_hash (j3 F.slot_tuple_hash T F.entry_tuple_hash ?_ (F.args_tuple_hash_1 _)))));show wpAny _ _ (Builtin.Tuple.tupleItemsOf (.ref a) >>= _) _ _ _;refine jP (lS h1 h3 (jP ?_));rw[<-ii];refine wpAny_forIn_list _ (fun rest (c:Array Int) s'=>∃pre post,ls=pre++post/\RowsAre prog w s.heap post rest/\c.toList=pre.map (tupleKeyHash (j9 prog w))/\s' = { s with toks:=s.toks+aI9 pre }) _ ?_ ?_ _ _ ⟨[],ls,rfl,h4,rfl,rfl⟩
 ·rintro v rest c s' ⟨pre,post,rfl,r,hc,rfl⟩;cases r with
  | @cons l b ls' vs' p1 p2 =>
   refine jP (wpAny_pyHash_tuple (show A.in1.units<cLine from by rw[in1_units];omega) p1 ?_);refine jQ ⟨pre ++ [l],ls',by simp,p2,by simp[hc],?_⟩;simp[aI9,gN]
 ·rintro c s' ⟨pre,post,rfl,r,hc,rfl⟩;cases r;rw[fA] at q;show wpAny _ _ (retInt (Builtin.Tuple.tupleHashOf c.toList)) _ _ _;rw[hc];refine wpAny_ret_mkInt ?_;unfold aJe reduceHash at q;show wpAny _ _ (if (decide (-(2:Int)^63<=Builtin.Tuple.tupleHashOf (pre.map (tupleKeyHash (j9 prog w))))&&decide (Builtin.Tuple.tupleHashOf (pre.map (tupleKeyHash (j9 prog w)))<2^63))=true then _ else _) _ _ _;split
  ·rename_i z;rw[if_pos z] at q;exact jQ (by simpa[gN] using q)
  ·rename_i z;rw[if_neg z] at q;exact jP (jf (jQ (by simpa[gN] using q)))
theorem bAi(p:lL (j9 prog w) h l b)(prog':jW)(w':World):lL (j9 prog' w') h l b:=by
 obtain⟨o,its,n,a1,a2,a3,a4⟩:=p;refine⟨o,its,n,a1,a2,a3,?_⟩;generalize its.toList=us at a4
 induction a4 with
 |nil=>exact .nil
 |cons k _ ih=>exact .cons k ih
theorem RowsAre.get(r:RowsAre prog w h x us):x.length=us.length/\∀ (j:Nat) (v:Value),us[j]?=some v->∃l b,x[j]?=some l/\v = .ref b/\lL (j9 prog w) h l b:=by
 induction r with
 |nil=>exact⟨rfl,fun j v e=>by simp at e⟩
 | cons p _ ih =>
  refine⟨congrArg (· + 1) ih.1,fun j v e=>?_⟩;cases j with
  |zero=>cases e;exact⟨_,_,rfl,rfl,p⟩
  |succ j=>exact ih.2 j v e
theorem bBa(x y:List ZB):((List.range (min x.length y.length)).all (fun j=>decide (x[j]?=y[j]?))&&x.length==y.length)=decide (x=y):=by
 rw[gA];simp only[bq,br,ej,decide_eq_true_eq,beq_iff_eq];constructor
 ·rintro⟨h1,h2⟩;refine jD fun i=>?_;by_cases hi:i<x.length
  ·exact h1 i ZM
  ·rw[gM ZM,gM ZM]
 ·rintro rfl;exact⟨fun _ _=>rfl,rfl⟩
theorem rows_eqB{Q:Bool->jR->Prop}(hu:A.units+4<cLine)(hx:aDw prog w s.heap x a)(hy:aDw prog w s.heap y b)(q:Q (decide (x=y)) s):wpAny ZG A (eqBool (.ref a) (.ref b)) Q E s:=by
 by_cases hab:a=b
 ·subst hab;obtain rfl:=hx.uniq hy;exact PySem.SeqAt.EqAt.same _ prog w E Q (by simpa using q)
 ·obtain⟨o1,xs,m1,g1,g0,g2,g3⟩:=hx;obtain⟨o2,ys,m2,k1,k0,k2,k3⟩:=hy;have ex:=g3.get;have ey:=k3.get;refine PySem.SeqAt.EqAt.of_refs hab (PySem.SeqAt.RcAt.tuples (e:=fun j=>decide (x[j]?=y[j]?)) ⟨o1,g1,g0,m1,g2⟩ ⟨o2,k1,k0,m2,k2⟩ ZM fun j h1 h2=>?_) prog w E Q ?_
  ·obtain⟨l1,c1,f1,f2,f3⟩:=ex.2 j xs[j] (by simp[h1]);obtain⟨l2,c2,f4,f5,f6⟩:=ey.2 j ys[j] (by simp[h2]);rw[f2,f5];simp only[f1,f4,Option.some.injEq];exact fun prog' w' E' Q' z=>wpAny_eqBool_tuple (by rw[in1_units];omega) (bAi f3 prog' w') (bAi f6 prog' w') z
  ·have nx:xs.size=x.length:=by rw[ex.1,aw]
   have ny:ys.size=y.length:=by rw[ey.1,aw]
   rw[nx,ny,bBa];exact q
def bA3(A:jY)(prog:jW)(w:World)(s:jR)(n:Nat)(v:Value):Prop:=∀ (E:Value->jR->Prop) (Q:Bool->jR->Prop),Q true s->wpAny ZG A (eqIsQuiet n v) Q E s
theorem aSi{n:Nat}{m:Nat}(h1:s.heap.get? a=some o)(h2:o.cls = .type "tuple")(h3:o.data = .seq its m)(all:∀v∈its.toList,bA3 A prog w s n v):bA3 A prog w s (n+1) (.ref a):=fun E Q q=>by
 have T:s.TypeIs (.ref a) "tuple":=⟨o,h1,h2⟩
 unfold eqIsQuiet;refine jP (lK T F.slot_tuple_eq.lookup (jP (jy T isSubtype_tuple_tuple ?_)));rw[if_neg ZJ];refine jP (kJ h1 h3 (jP ?_));show wpAny _ _ (forIn its _ _) _ _ s;rw[<-ii];refine wpAny_forIn_list _ (fun left r t=>r.1=none/\t=s/\∀v∈left,v∈its.toList) _ (fun v left r t z=>?_) (fun r t z=>?_) _ _ ⟨rfl,rfl,fun _ z=>z⟩
 ·obtain⟨_,rfl,z⟩:=z;refine jP (all v (z v (.head _)) _ _ ?_);rw[if_neg ZJ];exact jQ ⟨rfl,rfl,fun u y=>z u (.tail _ y)⟩
 ·obtain⟨r1,r2⟩:=r;obtain⟨rfl,rfl,_⟩:=z;exact jQ q
theorem aXe{Q:Bool->jR->Prop}(hk:aDw prog w s.heap ls a)(q:Q true s):wpAny ZG A (eqIsQuiet 8 (.ref a)) Q E s:=by obtain⟨o,its,m,h1,h2,h3,h4⟩:=hk;refine aSi h1 h2 h3 (fun v hv=>?_) E Q q;obtain⟨j,hj⟩:=List.getElem?_of_mem hv;obtain⟨l,b,_,rfl,o',xs,n,k1,k2,k3,k4⟩:=h4.get.2 j v hj;exact aSi k1 k2 k3 fun u hu E' Q' z=>by rw[eqIsQuiet_byValue _ (k4.byValue u hu)];exact jQ z
def aNo(prog:jW)(w:World):HeapKind prog w (List ZB) where
 is:=aDw prog w
 hash:=aJe prog w
 draws:=fun ls=>aI9 ls+1
 room:=fun A=>A.units+4<cLine
 inj:=fun hx hy=>hx.uniq hy
 keeps:=fun x ho hd hs=>x.stay ho hd hs
 pyHash:=fun hu hk q=>aX4 ZM hk q
 eqBool:=fun hu hx hy q=>rows_eqB hu hx hy q
 quiet:=fun hk q=>aXe hk q
end
end L2.Ds
namespace L2.Ds
open PySem PySem.Spec PyProof.Rows
section
variable {P:jW}{w:World}{H:Hp}{h:Heap}
theorem aL1:∀ {l:List Int} {us:List Value},Vals (l.map V.int) us->ItemsAre (j9 P w) l us
 |[],_,v=>by cases v;exact .nil
 | i::l,_,v=>by
  cases v with
  | cons q r =>
   obtain⟨t,rfl⟩:=q;exact .cons (intKind_is _ _ _ _) (aL1 r)
theorem tup_key(ok:HOk P w H h)(e:H b=some (.tup (l.map V.int))):lL (j9 P w) h l b:=by
 obtain⟨_,its,r,o,h1,h2,_,n,h3⟩:=(show aBz P w H h b (.tup (l.map V.int)) from ok b _ e)
 exact⟨o,its.toArray,n,h1,h2,h3,by simpa using aL1 r⟩
theorem rows_are(ok:HOk P w H h)(r:RowsIn H ls vs):∀ {us:List Value},Vals vs us->RowsAre P w h ls us:=by
 induction r with
 |nil=>intro us v;cases v;exact .nil
 | cons q _ ih =>
  intro us v;cases v with
  | cons q1 q2 =>
   cases q1;exact .cons (tup_key ok q) (ih q2)
theorem row_is(ok:HOk P w H h)(r:aR8 H ls b):aDw P w h ls b:=by
 obtain⟨vs,e,q⟩:=r;obtain⟨_,its,v,o,h1,h2,_,n,h3⟩:=(show aBz P w H h b (.tup vs) from ok b _ e)
 exact⟨o,its.toArray,n,h1,h2,h3,by simpa using rows_are ok q v⟩
def entR(k:List ZB × Addr):List ZB × Addr × Value:=(k.1,k.2,.bool true)
theorem dr_rd(ok:HOk P w H h)(e:Rd H a (.dR ws)):ws.length<=jU/\(a==jq)=false/\(∀k∈ws,aR8 H k.1 k.2)/\(ws.map (·.1)).Nodup/\h.DictOfH (aNo P w) a (ws.map entR):=by
 obtain⟨z,y,r,nd,o,es,ep,h1,h2,h3,h4⟩:=(show aBz P w H h a (.dR ws) from e.ok ok)
 refine⟨z,y,r,nd,o,es,ep,h1,h2,h3,?_,fun x hx=>?_,?_⟩
 ·rw[h4,b6];rfl
 ·obtain⟨k,hk,rfl⟩:=b7.mp hx;exact row_is ok (r k hk)
 ·rw[b6];exact nd
def putR(ws:List (List ZB × Addr))(ls:List ZB)(b:Addr):List (List ZB × Addr):=if (ws.any fun k=>decide (k.1=ls))=true then ws else ws ++ [(ls,b)]
theorem aXa(ws:List (List ZB × Addr))(ls:List ZB)(b:Addr):storedH (ws.map entR) ls b (.bool true)=(putR ws ls b).map entR:=by
 have h1:(atKey (ws.map entR) ls).isSome=ws.any fun k=>decide (k.1=ls):=by unfold atKey;rw[jE,List.find?_map,jE,gA,List.find?_isSome,gz];rfl
 unfold storedH putR;rw[h1];split
 ·rw[b6];refine c8 fun k _=>?_;show PySem.putAt ls (.bool true) (entR k)=entR k;unfold PySem.putAt entR;split<;>rfl
 ·rw[c5];rfl
end
section
variable {X:Cx}{tw:Addr}
def rSetR:TSet:=fun o i v H Q=>∃a b ws ls,o = .ref a/\i = .ref b/\v = .bl true/\H a=some (.dR ws)/\aR8 H ls b/\ws.length<jU/\Q (upd H a (.dR (putR ws ls b)))
theorem set_rows(hu:X.A.units+6<cLine):PSet X rSetR:=by
 intro pins s O H o i v ov iv u Q I ro ri rv hh;obtain⟨a,b,ws,ls,rfl,rfl,rfl,e,rb,hl,q⟩:=hh;cases ro;cases ri;cases rv;obtain⟨z,y,r,nd,dd⟩:=dr_rd I.hok (.inl e);refine wpAny_setItem_heap (knd:=aNo X.prog X.w) (show X.A.in1.units+4<cLine by rw[in1_units];omega) (row_is I.hok rb) dd (fun h' dd' hs=>?_) (by rw[a5];exact z);rw[aXa] at dd';obtain⟨o',es,ep,g1,g2,g3,g4,g5,g6⟩:=dd';have ntup:∀c xs,H c=some (.tup xs)->upd H a (.dR (putR ws ls b)) c=some (.tup xs):=fun c xs hc=>by rw[aAk (by rintro rfl;rw[e] at hc;cases hc)];exact hc
 have up:∀k∈putR ws ls b,aR8 (upd H a (.dR (putR ws ls b))) k.1 k.2:=fun k hk=>by
  have:aR8 H k.1 k.2:=by
   unfold putR at hk;split at hk
   ·exact r k hk
   ·rcases ci.mp hk with hk |hk
    ·exact r k hk
    ·have:=b8.mp hk;subst this;exact rb
  obtain⟨vs,p1,p2⟩:=this;exact⟨vs,ntup _ _ p1,p2.mono ntup⟩
 have len:(putR ws ls b).length<=jU:=by
  unfold putR;split
  ·exact z
  ·simp;omega
 exact⟨_,aTt (ob:=.dR (putR ws ls b)) I (by rw[e];exact True.intro) hs ⟨o',g1⟩ ⟨len,y,up,by rw[b6] at g6;exact g6,o',es,ep,g1,g2,g3,by rw[g4,b6];rfl⟩,q⟩
theorem row_in(e:rowOf t=some l)(r:Rep tw H t v):∃b,v = .ref b/\H b=some (.tup (l.map V.int)):=by
 cases t with
 | tup xs =>
  rw[Rep] at r;obtain⟨a,vs,rfl,h1,h2⟩:=r;have:=aA6 (show intsOf xs=some l from e);subst this;exact⟨a,rfl,by rw[<-aCu h2];exact h1⟩
 |_=>cases e
theorem aZ3:∀ {xs:List T} {ls:List ZB} {vs:List V},aJn xs=some ls->Reps tw H xs vs->RowsIn H ls vs
 |[],ls,vs,e,r=>by cases e;rw[aA3 r];exact .nil
 |x::xs,ls,vs,e,r=>by obtain⟨l,e1,e2⟩:=bind_some (show (rowOf x).bind _=some ls from e);obtain⟨ls',e3,e4⟩:=map_some e2;cases e4;obtain⟨v,w,rfl,p,q⟩:=aAm r;obtain⟨b,rfl,hb⟩:=row_in e1 p;exact .cons hb (aZ3 e3 q)
theorem aZp(e:rowsOf t=some ls)(r:Root X.K tw H t v):∃b,v = .ref b/\aR8 H ls b:=by
 cases t with
 | tup xs =>
  obtain⟨a,vs,rfl,h1,h2⟩:=aBc r;exact⟨a,rfl,vs,h1,aZ3 e h2⟩
 |_=>cases e
theorem put_keys(ws:List (List ZB × Addr))(ls:List ZB)(b:Addr):(putR ws ls b).map (·.1)=aDs (ws.map (·.1)) ls:=by
 unfold putR aDs;rw[List.any_map];show (if (ws.any fun k=>decide (k.1=ls))=true then ws else ws ++ [(ls,b)]).map (·.1)=if (ws.any fun k=>decide (k.1=ls))=true then _ else _
 split
 ·rfl
 ·rw[c5];rfl
theorem ss_setR(i:Nat){x:Str}{ke e:Expr}{dk d:DE}{pos pos' px:Pos}(hu:X.A.units+6<cLine)(hv:SE X tw e d)(hk:SE X tw ke dk)(hN:autoParam (X.N[i]?=some x) lZ)(hvis:autoParam (Vis X.env.scope x) az7._auto_1)(hd:autoParam ZO l5)
  (hcd:autoParam ((x==("__classdict__" : Str))=false) l5)
  (ha:autoParam (∀v,kM (.Subscript (.Name x px) ke pos') X.env v=(do
   let ov <-kL [v] (eval (.Name x px) X.env)
   let iv <-kL [v,ov] (eval ke X.env)
   standAt pos'
   kL [v,ov,iv] (setItem ov iv v)
   release [v,ov,iv] [])) l7)
  (hs:autoParam (swapsWithSole [.Subscript (.Name x px) ke pos'] e pos.line X.env=pure false) lZ) (hw:autoParam (swappedStores [.Subscript (.Name x px) ke pos'] e X.env=pure none) lZ)
  (h1:autoParam ((jk [.Subscript (.Name x px) ke pos'] X.env).map (·.2) = [kM (.Subscript (.Name x px) ke pos') X.env]) lZ):SS X tw (.Assign [.Subscript (.Name x px) ke pos'] e pos) (aCj i setR dk d):=by
 intro B ρ n f ρ' n' hh pins s O H D I ⟨R,k⟩;obtain⟨⟨tv,mv,n1⟩,e1,e2⟩:=bind_some hh;obtain⟨⟨tk,mk,n2⟩,e3,e4⟩:=bind_some e2;obtain rfl:=aXf e1;have ⟨t,t',er,et,ef,eρ,en⟩:∃t t',ρ[i]?=some (some (t,Md.own))/\setR t tk tv=some t'/\f = .nx/\ρ'=ρ.set i (some (t',Md.own))/\n'=n2:=by
  cases e:ρ[i]? with
  |none=>rw[e] at e4;cases e4
  | some o =>
   cases o with
   |none=>rw[e] at e4;cases e4
   | some p =>
    obtain⟨t,m⟩:=p;rw[e] at e4;cases m with
    | own =>
     obtain⟨t',h1,h2⟩:=map_some e4;cases h2;exact⟨t,t',rfl,h1,rfl,rfl,rfl⟩
    |_=>cases e4
 subst ef eρ en;have ⟨ks,ls,e5,e6,e7,e8,e9⟩:∃ks ls,t = .rdc ks/\tv = .bl true/\rowsOf tk=some ls/\ks.length<big/\t' = .rdc (aDs ks ls):=by
  unfold setR at et;split at et
  ·obtain⟨ls,q1,q2⟩:=bind_some et;split at q2
   ·rename_i hb;cases q2;exact⟨_,ls,rfl,rfl,q1,hb,rfl⟩
   ·cases q2
  ·cases et
 subst e5 e6 e9;obtain⟨a,es,hB,_⟩:=R.own i _ er;refine aYs ((aQc hv) B ρ n _ .fz n1 e1) (pg_sub (aIl hN hvis hd hcd) (hk B ρ n1 tk mk _ e3) (set_rows hu) ha) hs hw h1 pins s O H D I ⟨R,fun v H1 x1 y1 z1=>?_⟩;have R1:=R.mono x1 y1;refine⟨.ref a,es,R1,fun kv H2 x2 y2 z2=>?_⟩;have R2:=R1.mono x2 y2;obtain⟨b,rfl,rb⟩:=aZp e7 (z2.root R2 R1.tn);have rv:Rep tw H2 (.bl true) v:=Rep.mono (x2.fx R1.tn) _ _ z1;rw[Rep] at rv;obtain⟨a',es',_,ow⟩:=R2.own i _ er;rw[es] at es';cases es';obtain⟨ws,g1,g2⟩:=ow;have fx2:Fx H H2:=(x1.trans x2).fx R.tn;refine⟨a,b,ws,ls,rfl,rfl,rv,g1,rb,aRo (by rw[g2,a5] at e8;exact e8),?_⟩;obtain⟨W,fx⟩:=R2.write (t':=.rdc (aDs ks ls)) (o:=.dR (putR ws ls b)) er es ⟨_,aAj,by rw[g2,put_keys]⟩;exact k O _ (fx2.trans fx) W
theorem se_dicR0{pos:Pos}:SE X tw (.Dict [] [] pos) aV8:=by
 intro B ρ n t m n' hd pins s O H Q I ⟨R,k⟩;cases hd;have new:aBz X.prog X.w (upd H s.heap.objs.size (.dR [])) (s.heap.push { cls:=.type "dict",data:=.dict #[] }) s.heap.objs.size (.dR []):=by
  obtain⟨_,y,_⟩:=(show aBz X.prog X.w (upd H s.heap.objs.size (.dK [])) _ _ (.dK []) from aNp s.heap I.big)
  exact⟨dm _,y,(fun _ hk=>nomatch hk),List.nodup_nil,_,#[],0,af _ rfl,⟨rfl,rfl,rfl⟩,rfl,rfl⟩
 have hp:H s.heap.objs.size=none:=I.hok.fresh (a9 _);exact wpAny_Dict_empty ⟨.ref s.heap.objs.size,_,I.laid (a:=s.heap.objs.size) (o:=.dR []) (t':=s.toks) (fun _ _ q=>a0 _ q) (a9 _) new,rfl,k _ _ (.new hp) (R.tn.new hp) ⟨_,rfl,hp,[],aAj,rfl⟩⟩
theorem rows_rep(r:RowsIn H ls vs):Reps tw H (ls.map tupT) vs:=by
 induction r with
 |nil=>exact .nil
 |cons q _ ih=>exact .cons (by unfold tupT;rw[Rep];exact⟨_,_,rfl,q,Reps.ints _⟩) ih
theorem row_rep(r:aR8 H ls b):Rep tw H (rwsT ls) (.ref b):=by obtain⟨vs,h1,h2⟩:=r;unfold rwsT;rw[Rep];exact⟨b,vs,rfl,h1,rows_rep h2⟩
end
section
variable {prog:jW}{w:World}{A:jY}{E:Value->jR->Prop}{s:jR}{d I:Addr}{es:Array DictEntry}{ep i:Nat}
def Ents(h:Heap)(d:Addr)(es:Array DictEntry)(ep:Nat):Prop:=∃o,h.get? d=some o/\o.ExactDict/\o.data = .dict es ep
theorem Ents.type(r:Ents s.heap d es ep):s.TypeIs (.ref d) "dict":=let ⟨o,h,x,_⟩:=r;⟨o,h,x.1⟩
theorem Ents.kept(r:Ents h d es ep)(k:∀o,h.get? d=some o->h'.get? d=some o):Ents h' d es ep:=let ⟨o,a,x⟩:=r;⟨o,k o a,x⟩
theorem Ents.lt(r:Ents h d es ep):d<h.objs.size:=let ⟨_,a,_⟩:=r;aj a
abbrev kitO(d:Addr)(i n ep:Nat):Obj:={ cls:=.type "dict_keyiterator",data:=.fields #[.ref d,.int i 0,.int n 0,.int ep 0] }
theorem aY2(hd:(d==jq)=false)(r:Ents s.heap d es ep)(q:Q (.ref s.heap.objs.size) { s with heap:=s.heap.push (kitO d 0 es.size ep) }):wpAny (model prog w) A (kK (.ref d)) Q E s:=by
 obtain⟨o,h1,_,h3⟩:=id r;refine lW r.type F.slot_dict_iter (j3 F.slot_dict_iter r.type F.entry_dict_iter ?_ (F.args_dict_iter_1 _));have self:wpAny ZG A.in1 (Builtin.Dict.dictSlotNone "__iter__" ⟨[.ref d],[]⟩) (fun v s'=>v = .ref d/\s'=s) (fun _ _=>False) s :=
  jP (lE r.type (jQ ⟨rfl,rfl⟩))
 have all:Builtin.Dict.showsAll d=pure ():=by unfold Builtin.Dict.showsAll;rw[hd];rfl
 refine jP (m:=Builtin.Dict.dictSlotNone _ _) (j8 self (fun v s' z=>?_) fun _ _ z=>z.elim);obtain⟨rfl,rfl⟩:=z;refine jP (m:=Builtin.Dict.showsAll d) (lA all (jP (wpAny_dictEntries h1 h3 (jP (wpAny_dictEpoch h1 h3 (jP (jZ (jQ ?_))))))));exact⟨_,rfl,_,_,⟨_,af _ rfl,rfl⟩,F.slot_dict_keyiterator_next.lookup,q⟩
theorem aVq{n:Nat}(at_:s.heap.get? I=some (kitO d i n ep)):s.TypeIs (.ref I) "dict_keyiterator":=⟨_,at_,rfl⟩
theorem aPv(hh:A.handled=none)(r:Ents s.heap d es ep)(at_:s.heap.get? I=some (kitO d i es.size ep))
  (more:∀e h',es[i]?=some e->h'.get? I=some (kitO d (i+1) es.size ep)->(∀b o,b≠I->s.heap.get? b=some o->h'.get? b=some o)->Q (some e.key) { s with heap:=h' })
  (stop:es[i]?=none->∀h',(∀b o,b≠I->s.heap.get? b=some o->h'.get? b=some o)->Q none { s with heap:=h' }):wpAny (model prog w) A (kN (.ref I)) Q E s:=by
 obtain⟨o,h1,_,h3⟩:=id r;have T:=aVq at_;have plain:Builtin.Dict_items.ownsTuple "dict_keyiterator" = false:=by decide
 have oth:∀ {g:Obj->Obj} (b:Addr) (o:Obj),b≠I->s.heap.get? b=some o->(s.heap.update I g).get? b=some o:=fun b o ne z=>(dZ _ _ fun y=>ne y.symm).trans z;unfold kN;refine jP (k8 (je (name:=Str.ofString "__next__") T F.slot_dict_keyiterator_next (j3 F.slot_dict_keyiterator_next T F.entry_dict_keyiterator_next ?_ (F.args_dict_keyiterator_next_1 _))));refine jP (jQ (jP (jP ?_)));refine jP (kP T (jQ (jP (wpAny_fieldsOf at_ rfl ?_))));rw[plain];refine jP (m:=pure _) (jQ (jP (wpAny_dictEntries h1 h3 ?_)));rw[if_neg ZJ];refine jP (m:=pure _) (jQ (jP (wpAny_dictEpoch h1 h3 ?_)));rw[if_neg ZJ];refine jQ ?_;have pos:(if (i:Int)<0 then none else es[(i:Int).toNat]?)=es[i]?:=by rw[if_neg ZM,du]
 dsimp only;rw[pos];cases z:es[i]? with
 | some e =>
  dsimp only;refine jP (jP (kP T (jQ (jP (wpAny_isOneOf_keyiter T ?_)))));refine jP (m:=setField (.ref I) 1 (jc ((i:Int)+1))) (jo at_ rfl ZJ ?_);have at2:(s.heap.update I (Obj.mapFields (·.setIfInBounds 1 (jc ((i:Int)+1))))).get? I=some (kitO d (i+1) es.size ep):=(dN _ at_ rfl).trans rfl;refine jP (j5 (jP (wpAny_isOneOf_keyiter (s:={ s with heap:=_ }) (aVq (s:={ s with heap:=_ }) at2) ?_)));exact jQ (a:=e.key) (jQ ⟨_,rfl,jQ (more e _ z at2 oth)⟩)
 | none =>
  dsimp only;refine jP (jP (kP T (jQ ?_)));refine jP (m:=setField (.ref I) 0 .none) (jo at_ rfl ZJ (aTv (by simpa using hh) fun e h' kp tI=>?_));exact jP (jy (T:="StopIteration") (b:=true) tI isSubtype_stop (jQ (stop z h' fun b o ne y=>kp b o (oth b o ne y))))
theorem ents_src(hd:(d==jq)=false):W.KdlSrc prog w "dict" d d es.size (fun i v=>∃e,es[i]?=some e/\v=e.key) (fun h=>Ents h d es ep) where
 type:=fun _ r=>r.type
 there:=fun _ r=>⟨r.lt,r.lt⟩
 keep:=fun _ _ r k=>r.kept fun o z=>k d (.inl rfl) o z
 notList:=by decide
 notTuple:=by decide
 hint:=fun _ _ _ _ r q=>W.kdl_hint_dict r.type q
 iter:=fun A s hh r=>by
  have ne:d≠s.heap.objs.size:=au r.lt;refine⟨kitO d 0 es.size ep,fun i h=>h.get? s.heap.objs.size=some (kitO d i es.size ep)/\Ents h d es ep,fun E Q q=>aY2 hd r q,?_,af _ rfl,r.kept fun o z=>a0 _ z⟩;refine⟨fun b hb=>ae.mpr (.inl (b8.mp hb)),fun i h h' st k=>⟨k _ (.head _) _ st.1,st.2.kept fun o z=>k d (.tail _ (.head _)) o z⟩,fun i s' Q E hi st q=>?_,fun s' Q E st q=>?_,fun i s' Q E st q=>?_⟩
  ·refine aPv hh st.2 st.1 (fun e h' z at2 kp=>?_) fun z=>?_
   ·exact q _ h' s'.toks ⟨e,z,rfl⟩ ⟨at2,st.2.kept fun o y=>kp d o ne y⟩ fun b o hb y=>kp b o (by simpa using hb) y
   ·rw[d6 hi] at z;cases z
  ·refine aPv hh st.2 st.1 (fun e h' z _ _=>?_) fun _ h' kp=>q h' s'.toks fun b o hb y=>kp b o (by simpa using hb) y;rw[gK (a9 _)] at z;cases z
  ·exact wpAny_pyIter_keyiter ⟨_,st.1,rfl,rfl⟩ q
end
section
variable {X:Cx}{tw:Addr}
theorem pr_listR(hh:X.A.handled=none):PrS X tw (fun us=>call (.type "list") us) aWb:=by
 intro B pins s O H vs us ts n t m Q I rv rt tn e k
 match ts,e with
 | [.rdc ks],e =>
  cases e;obtain⟨v,rfl,a,ws,rfl,na,ea,rfl⟩:=aAp rt;obtain⟨u,rfl,ru⟩:=rv.one;cases ru;obtain⟨z,hd,r,nd,o,es,ep,h1,h2,h3,h4,_⟩:=dr_rd I.hok ea;have sz:es.size=ws.length:=by rw[<-aw,h4,a5,a5]
  refine W.kdl_call (ents_src (es:=es) (ep:=ep) hd) hh ⟨o,h1,h2,h3⟩ (by rw[sz];exact z) fun h' tk acc c kp hS hi=>?_;obtain⟨vs,q1,q2⟩:=aB6 (tw:=tw) (H:=H) (xs:=(ws.map (·.1)).map rwsT) (us:=acc.toList) (by rw[aw,hi.1,a5,a5,sz]) fun i w e=>by
   obtain⟨en,g1,rfl⟩:=hi.2 i w (by rw[<-bj];exact e);rw[<-bj,h4,bo,bo] at g1;cases y:ws[i]? with
   |none=>rw[y] at g1;cases g1
   | some p =>
    rw[y] at g1;have g1:entryOfKey (aNo X.prog X.w) (entR p)=en:=Option.some.inj g1;subst g1;exact⟨.ref p.2,rwsT p.1,rfl,by rw[bo,bo,y];rfl,row_rep (r p (fH y))⟩
  have hp:H s.heap.objs.size=none:=I.hok.fresh (a9 _);have I':=I.laid (a:=s.heap.objs.size) (o:=.lst vs) (t':=tk) (h':=h') kp (a9 _) ⟨by rw[q1.length,aw,hi.1,sz];exact z,acc.toList,c,q1,by simpa using hS⟩;exact⟨.ref s.heap.objs.size,_,I',rfl,k _ _ (.new hp) (tn.new hp) ⟨_,rfl,hp,_,aAj,Reps.mono (.new hp) _ _ q2⟩⟩
end
variable {X:Cx}{tw:Addr}
theorem aZj(T:s.TypeIs (.ref d) "dict")(hu:A.units<cLine)(q:Q (.bool false) s):wpAny ZG A (richCompare .Eq .none (.ref d)) Q E s:=by refine SeqAt.rc_eq_decline_or (k:=false) rfl T ZE F.sub_dict_NoneType F.slot_NoneType_eq F.slot_dict_eq_refl (fun _ y=>call_gives F.slot_NoneType_eq rfl F.entry_NoneType_eq (F.args_NoneType_eq_2 _ _) (SeqAt.NoneType___eq___none_ref_0 d) y) (fun Q' y=>?_) (fun _ y=>lA (rfl:isSame .none (.ref d)=pure false) y) (.inr hu) q;refine j3 F.slot_dict_eq_refl T F.entry_dict_eq ?_ (F.args_dict_eq_2 _ _);have two:wpAny ZG A.in1 (Builtin.Dict.dictSlotArgs "__eq__" ⟨[.ref d,.none],[]⟩) (fun v s'=>v=(.ref d,.none)/\s'=s) (fun _ _=>False) s:=jP (lE T (jQ ⟨rfl,rfl⟩));refine jP (m:=Builtin.Dict.dictSlotArgs _ _) (j8 two (fun v s' z=>?_) fun _ _ z=>z.elim);obtain⟨rfl,rfl⟩:=z;refine jP (jy (T:="NoneType") (b:=false) rfl F.sub_NoneType_dict ?_);refine jP (jf ?_);exact jQ ⟨_,rfl,y⟩
theorem pr_eqE(hu:X.A.units+6<cLine)(hu0:X.A.units<cLine):PrS X tw (two (j6 .Eq)) pEqE:=by
 intro B pins s O H vs us ts n t m Q I rv rt tn e k;have key:(ts = [.non,.dic []]/\t = .bl false/\m = .fz)\/pEq n ts=some (t,m):=by
  unfold pEqE at e;split at e
  ·cases e;exact .inl ⟨rfl,rfl,rfl⟩
  ·exact .inr e
 rcases key with ⟨rfl,rfl,rfl⟩ |e
 ·obtain⟨v,w,rfl,r1,r2⟩:=aBb rt;obtain⟨u1,u2,rfl,q1,q2⟩:=rv.two;have r1:Rep tw H .non v:=r1;rw[Rep] at r1;subst r1;cases q1;obtain⟨a,ws,rfl,_,ea,_⟩:=r2;cases q2;obtain⟨_,_,us,_,dd⟩:=aEb I.hok ea;exact aZj dd.typeIs hu0 ⟨.bl false,H,I,rfl,k _ H (.refl _ _) tn (by show Rep tw H (.bl false) _;rw[Rep])⟩
 ·exact aRj hu (aDz hu0) B pins s O H vs us ts n t m Q I rv rt tn e k
end L2.Ds
namespace L2.Ds
open PySem PySem.Spec PyProof.Rows L2.Tm
inductive RowsE (h:Heap):List Value->List ZB->Prop
 |nil:RowsE h [] []
 |cons {v:Value} {l:List Int} {vs:List Value} {ls:List ZB}:TupE h v l->RowsE h vs ls->RowsE h (v::vs) (l::ls)
def RowE(h:Heap)(v:Value)(ls:List ZB):Prop:=∃p o xs n,v = .ref p/\h.get? p=some o/\o.cls = .type "tuple" /\ o.data = .seq xs n/\RowsE h xs.toList ls/\ls ≠ []/\∀l∈ls,∀x∈l,0<=x
theorem RowsE.mono(m:∀b o,h.get? b=some o->h'.get? b=some o)(r:RowsE h vs ls):RowsE h' vs ls:=by
 induction r with
 |nil=>exact .nil
 |cons t _ ih=>exact .cons (t.mono m) ih
theorem RowE.mono(m:∀b o,h.get? b=some o->h'.get? b=some o)(r:RowE h v ls):RowE h' v ls:=by obtain⟨p,o,xs,n,e,ho,hc,hd,hr,q⟩:=r;exact⟨p,o,xs,n,e,m _ _ ho,hc,hd,hr.mono m,q⟩
theorem enc_lt:∀ (a b:List Int),(∀x∈a,0<=x)->(∀x∈b,0<=x)->∀u v:List Int,lexLt (a.map (· + 1)++0::u) (b.map (· + 1)++0::v)=if a=b then lexLt u v else lexLt a b
 |[],[],_,_,u,v=>by simp[lexLt]
 | [],y::b,_,hb,u,v=>by
  have:=hb y (a7 ..);have n:¬ (0:Int)=y+1:=by omega
  have q:(0:Int)<y+1:=by omega
  simp[lexLt,n,q]
 | x::a,[],ha,_,u,v=>by
  have:=ha x (a7 ..);have n:¬x+1=(0:Int):=by omega
  have q:¬x+1<(0:Int):=by omega
  have n':(x+1==(0:Int))=false:=by simpa using n
  simp only[a8,eJ,eD,dj,lexLt,n',bu,if_false,reduceCtorEq];simpa using q
 | x::a,y::b,ha,hb,u,v=>by
  have ih:=enc_lt a b (fun z hz=>ha z (a6 _ hz)) (fun z hz=>hb z (a6 _ hz)) u v;simp only[a8,eJ,lexLt,ih,List.cons.injEq];by_cases e:x=y
  ·subst e;simp
  ·have n:¬x+1=y+1:=by omega
   have q:(x+1<y+1)=(x<y):=by rw[eq_iff_iff];omega
   have n':(x+1==y+1)=false:=by simpa using n
   have e':(x==y)=false:=by simpa using e
   simp only[n',e',e,bu,if_false,false_and,q]
theorem enc_ne(l:List Int)(ls:List ZB):∃x r,enc (l::ls)=x::r:=by
 unfold enc;cases l with
 |nil=>exact⟨_,_,rfl⟩
 |cons x l=>exact⟨_,_,rfl⟩
def kyR(h:Heap):Value->List Int
 | .ref a=>match h.get? a with
  | some o=>match o.data with
   |.seq xs _=>enc (xs.toList.map (kyV h))
   |_=>[]
  |none=>[]
 |_=>[]
theorem RowsE.ky(r:RowsE h vs ls):vs.map (kyV h)=ls:=by
 induction r with
 |nil=>rfl
 |cons t _ ih=>rw[a8,t.ky,ih]
theorem RowE.ky(r:RowE h v ls):kyR h v=enc ls:=by
 obtain⟨p,o,xs,n,rfl,ho,hc,hd,hr,_⟩:=r
 show (match h.get? p with
  | some o=>match o.data with
   |.seq xs _=>enc (xs.toList.map (kyV h))
   |_=>[]
  |none=>[])=enc ls
 rw[ho]
 show (match o.data with
   |.seq xs _=>enc (xs.toList.map (kyV h))
   |_=>[])=enc ls
 rw[hd];show enc (xs.toList.map (kyV h))=enc ls;rw[hr.ky]
section
variable {prog:jW}{w:World}{A:jY}{E:Value->jR->Prop}{s:jR}
theorem lex_rows{Q:Bool->jR->Prop}(hu:A.units<cLine):∀ {us vs:List Value} {as bs:List ZB} (i:Nat) (fin:Bool),RowsE s.heap us as->RowsE s.heap vs bs->(∀l∈as,∀x∈l,0<=x)->(∀l∈bs,∀x∈l,0<=x)->fin=decide (us.length<vs.length)->Q (lexLt (enc as) (enc bs)) s->W.KatLex prog w A false fin Q (us.zip vs) i s:=by
 intro us vs as bs i fin h1
 induction h1 generalizing vs bs i fin with
 | nil =>
  intro h2 _ _ hf q;cases h2 with
  |nil=>subst hf;exact W.kat_nil q
  | @cons v l vs ls _ _ =>
   subst hf;obtain⟨x,r,e⟩:=enc_ne l ls;rw[e] at q;exact W.kat_nil (by simpa[enc,lexLt] using q)
 | @cons u l us as t _ ih =>
  intro h2 p1 p2 hf q;cases h2 with
  | nil =>
   subst hf;obtain⟨x,r,e⟩:=enc_ne l as;rw[e] at q;exact W.kat_nil (by simpa[enc,lexLt] using q)
  | @cons v l' vs bs t' r' =>
   rw[enc,enc,enc_lt l l' (p1 l (a7 ..)) (p2 l' (a7 ..))] at q;rw[ig];refine W.kat_cons (tupE_eq hu t t' ?_);by_cases e:l=l'
   ·subst e;rw[decide_eq_true rfl];rw[if_pos rfl] at q;exact W.kat_yes (ih (i+1) fin r' (fun z hz=>p1 z (a6 _ hz)) (fun z hz=>p2 z (a6 _ hz)) (by rw[hf];simp) q)
   ·rw[decide_eq_false e];rw[if_neg e] at q;refine W.kat_no ?_;rw[Bool.false_and];exact W.kat_one _ _ (tupE_lt hu t t' q)
theorem row_lt{Q:Bool->jR->Prop}(hu:A.units<cLine)(hx:RowE s.heap x a)(hy:RowE s.heap y b)(q:Q (lexLt (enc a) (enc b)) s):wpAny ZG A (keyLt' (tuples' false) x y) Q E s:=by obtain⟨p,o,xs,n,rfl,ho,hc,hd,hr,_,p1⟩:=hx;obtain⟨p',o',ys,n',rfl,ho',hc',hd',hr',_,p2⟩:=hy;refine W.kat_lt ho hd ho' hd' ?_;exact lex_rows hu 0 _ hr hr' p1 p2 ZJ q
end
theorem aL3:∀ {ks:List Value},(∀k∈ks,∃ls,RowE h k ls)->∃fs,W.KatTups h ks fs/\fs.length=ks.length/\∀f∈fs,∃l,TupE h f l
 |[],_=>⟨[],.nil,rfl,fun f hf=>by simp at hf⟩
 | k::ks,r=>by
  obtain⟨fs,k1,k2,k3⟩:=aL3 (ks:=ks) fun k' h'=>r k' (a6 _ h');obtain⟨ls,p,o,xs,n,rfl,ho,hc,hd,hr,hne,_⟩:=r k (a7 ..);have ⟨f,l,hx,hf⟩:∃f l,xs[0]?=some f/\TupE h f l:=by
   rw[<-bj];cases hl:xs.toList with
   |nil=>rw[hl] at hr;cases hr;exact absurd rfl hne
   | cons v vs=>rw[hl] at hr;cases hr with
    |cons t _=>exact⟨v,_,rfl,t⟩
  refine⟨f::fs,.cons ho hc hd hx k1,by simp[k2],fun f' hf'=>?_⟩;rcases ae.mp hf' with rfl |hf'
  ·exact⟨l,hf⟩
  ·exact k3 f' hf'
theorem aT5(ky:vs.map (kyR h)=ls)(r:∀k∈vs,∃l,RowE h k l):aS9 prog w h vs fun x=>rank ls (kyR h x.1):=by
 intro h2;refine⟨tuples' false,fun A E s hA kp=>⟨?_,fun st x y Q hk hx hy q=>?_⟩⟩
 ·obtain⟨fs,k1,k2,k3⟩:=aL3 (h:=s.heap) fun k hk=>let ⟨l,z⟩:=r k hk;⟨l,z.mono kp⟩
  refine W.kat_kind (T:=.type "tuple") k1 ZM (fun v hv=>?_) ZE ⟨rfl,rfl⟩;obtain⟨l,a,o,xs,n,rfl,ho,hc,_⟩:=k3 v hv;exact fun A Q E s' k q=>kE ⟨o,k _ _ ho,hc⟩ q
 ·have mx:=(aE7 hx).1;obtain⟨l,tl⟩:=r _ mx;obtain⟨l',tl'⟩:=r _ (aE7 hy).1;have q:Q (some (decide (rank ls (kyR h x.1)<rank ls (kyR h y.1)))) st:=q;rw[aJr (by rw[<-ky];exact bw mx),tl.ky,tl'.ky] at q;rw[lt'_eq];refine jS (kW ?_);rw[hk];exact jS (kj (k8 (row_lt hA (tl.mono kp) (tl'.mono kp) ⟨rfl,jT q⟩)))
section
variable {prog:jW}{w:World}{A:jY}{E:Value->jR->Prop}{s:jR}
theorem bB7(hA:A.units<cLine){n:Nat}(ho:s.heap.get? a=some (j7 "list" vs.toArray n))(hz:vs.length<=jU)
  (h0a:∀b o,h0.get? b=some o->b≠a) (h0s:∀b o,h0.get? b=some o->s.heap.get? b=some o) (hS:aS9 prog w h0 vs rk)
  (h:∀xs:Array Keyed,xs.Perm (PyProof.Rows.pairsOf vs)->Srt rk xs 0 vs.length->P (.done (.ret .none)) { s with heap:=sortedHeap s.heap a vs (xs.map (·.2)) }) :
  wpAny ZG A (Builtin.«list.sort» ⟨[.ref a],[]⟩) P E s:=by
 rw[list_sort_plain];have hlt:a<s.heap.objs.size:=aj ho;obtain⟨e1,k1⟩:∃e1,(s.heap.update a (Obj.mapSeq fun _=>#[])).get? a=some (j7 "list" #[] e1):=⟨_,get?_update_seq ho (fun _=>#[])⟩
 refine jP (listItems_at ho rfl (jP (k7 ho rfl (jP (aFr k1 rfl (jP (wpAny_newTuple (jP (lC (j5 ?_))))))))));have kp:∀b o,b≠a->s.heap.get? b=some o->(((s.heap.update a (Obj.mapSeq fun _=>#[])).push (j7 "tuple" vs.toArray 0)).push (j7 "list" #[] 0)).get? b=some o:=fun b o nb q=>by have hb:b<s.heap.objs.size:=aj q;rw[dg _ _ _ (by rw[size_push',eO];exact au (c6 hb)),dg _ _ _ (by rw[eO];exact au hb),iY _ _ _ _ nb];exact q
 have k2:(((s.heap.update a (Obj.mapSeq fun _=>#[])).push (j7 "tuple" vs.toArray 0)).push (j7 "list" #[] 0)).get? a=some (j7 "list" #[] e1):=by rw[dg _ _ _ (by rw[size_push',eO];exact au (c6 hlt)),dg _ _ _ (by rw[eO];exact au hlt)];exact k1
 show wpAny ZG A _ P E { s with heap:=((s.heap.update a (Obj.mapSeq fun _=>#[])).push (j7 "tuple" vs.toArray 0)).push (j7 "list" #[] 0) };dsimp only;have hsz:vs.toArray.size=vs.length:=by simp
 have hps:(PyProof.Rows.pairsOf vs).size=vs.length:=pairsOf_size vs;by_cases h2:vs.toArray.size<2
 ·rw[if_pos h2,if_pos h2];refine jP (jQ ?_);rw[StateT.run_pure];refine jP (jQ (jP (aFr k2 rfl (jP (k7 k2 rfl ?_ (hsz2:=by rw[gc];show (PyProof.Rows.pairsOf vs).size<=_;omega))))));dsimp only;simp only[bne_self_eq_false,bu,if_false];refine jQ (h (PyProof.Rows.pairsOf vs) (Array.Perm.refl _) fun i j _ hij hj=>?_);have:i=j:=by omega
  rw[this];exact a9 _
 ·rw[if_neg h2,if_neg h2];obtain⟨κ,hκ⟩:=hS ZM;obtain⟨q1,q2⟩:=hκ A E { s with heap:=((s.heap.update a (Obj.mapSeq fun _=>#[])).push (j7 "tuple" vs.toArray 0)).push (j7 "list" #[] 0) } hA fun b o e=>kp b o (h0a b o e) (h0s b o e);refine jP (j8 q1 ?_ fun _ _ e=>e);rintro k s' ⟨rfl,rfl⟩;refine jP (j8 (aZ0 q2 (st:=SortSt.mk' k (PyProof.Rows.pairsOf vs) #[] 7 none) rfl (Array.Perm.refl _) rfl rfl (Q:=fun _ st'=>(arrOf st').Perm (PyProof.Rows.pairsOf vs)/\kO st'=none/\Srt rk (arrOf st') 0 vs.length) fun st' a1 a2 a3=>⟨a1,a2,by rw[hps] at a3;exact a3⟩) ?_ fun _ _ e=>e);rintro⟨⟨⟩,st'⟩ s' ⟨rfl,hp,hf,hs⟩;dsimp only;refine jP (aFr k2 rfl (jP (k7 k2 rfl ?_ (hsz2:=ao (gP ((gc ..).trans (hp.size_eq.trans hps))) (jC hz)))));rw[hf];simp only[bne_self_eq_false,bu,if_false];exact jQ (h _ hp hs)
end
section
variable {X:Cx}{tw:Addr}
theorem aTs(hu2:A'.units+2<cLine)
  (hc:wpAny ZC A'.in1 (collect x) (fun vs s1=>∃rk,vs.length<=jU/\aS9 X.prog X.w s1.heap vs rk/\∀h' (xs:Array Keyed) e,(∀b o,s1.heap.get? b=some o->h'.get? b=some o)->h'.get? s1.heap.objs.size=some (j7 "list" (xs.map (·.2)) e)->xs.Perm (PyProof.Rows.pairsOf vs)->Srt rk xs 0 vs.length->Q (.ref s1.heap.objs.size) { s1 with heap:=h' }) E s) :
  wpAny ZC A' (call (.builtin "sorted") [x]) Q E s:=by
 refine ft kind_sorted plain_sorted entry_sorted (args_sorted1 _) ?_;unfold Builtin.«sorted»;refine jP (m:=checkCount "sorted" 1 1 _) (jQ (jP (j8 hc (fun vs s1 h=>?_) fun _ _ e=>e)));obtain⟨rk,hz,hS,k⟩:=h;refine jP (lC ?_ hz);have hoL:(s1.heap.push (j7 "list" vs.toArray 0)).get? s1.heap.objs.size=some (j7 "list" vs.toArray 0):=af _ rfl;show wpAny _ _ _ _ _ { s1 with heap:=s1.heap.push (j7 "list" vs.toArray 0) };refine jP (j5 (j3 slot_list_sort ⟨_,hoL,rfl⟩ entry_list_sort (bB7 (show A'.in1.in1.units<cLine from by rw[in1_units,in1_units];omega) (h0:=s1.heap) hoL hz (fun b o hb=>au (aj hb)) (fun b o hb=>a0 _ hb) hS fun xs a1 a2=>⟨_,rfl,?_⟩) (args_list_sort _)));obtain⟨e,he⟩:=sortedHeap_at (out:=xs.map (·.2)) hoL;refine jQ ⟨_,rfl,k _ xs e (fun b o hb=>?_) he a1 a2⟩;have hlt:b<s1.heap.objs.size:=aj hb;rw[sortedHeap_old (au hlt) (by rw[cp];exact c6 hlt)];exact a0 _ hb
theorem aKn:∀ {xs:List T} {ls:List (List ZB)},aF1 xs=some ls->xs=ls.map rwsT
 |[],ls,e=>by cases e;rfl
 | t::r,ls,e=>by
  obtain⟨l,e1,e2⟩:=bind_some (show (rowsOf t).bind _=some ls from e);obtain⟨ls',e3,e4⟩:=map_some e2;cases e4;rw[aKn e3,a8];have row:∀ {t:T} {l:List Int},rowOf t=some l->t=tupT l:=fun {t l} h=>by
   cases t with
   |tup xs=>rw[aA6 (show intsOf xs=some l from h)];rfl
   |_=>cases h
  have rows:∀ {xs:List T} {ls:List ZB},aJn xs=some ls->xs=ls.map tupT:=by
   intro xs
   induction xs with
   |nil=>intro ls h;cases h;rfl
   | cons x xs ih =>
    intro ls h;obtain⟨l,h1,h2⟩:=bind_some (show (rowOf x).bind _=some ls from h);obtain⟨ls',h3,h4⟩:=map_some h2;cases h4;rw[row h1,ih h3];rfl
  cases t with
  |tup xs=>rw[rows (show aJn xs=some l from e1)];rfl
  |_=>cases e1
theorem tupE_of(I:Inv X pins O H s)(r:Rep tw H (tupT l) v)(rv:RelV v u):TupE s.heap u l:=by unfold tupT at r;rw[Rep] at r;obtain⟨a,va,rfl,ea,xa⟩:=r;cases rv;obtain⟨its,q1,⟨o,ho,hc,_,n,hd⟩,hz⟩:=I.tupleN ea;cases aCu xa;exact⟨a,o,its.toArray,n,rfl,ho,hc,hd,by simpa using aBw q1⟩
theorem aWj(I:Inv X pins O H s):∀ {ls:List ZB} {vs:List V} {us:List Value},Reps tw H (ls.map tupT) vs->Vals vs us->RowsE s.heap us ls
 |[],vs,us,r,rv=>by cases aA3 r;cases rv;exact .nil
 | l::ls,vs,us,r,rv=>by
  obtain⟨v,w,rfl,p,q⟩:=aAm r;cases rv with
  |cons r1 r2=>exact .cons (tupE_of I p r1) (aWj I q r2)
theorem rowE_of(I:Inv X pins O H s)(g:aGc ls=true)(r:Rep tw H (rwsT ls) v)(rv:RelV v u):RowE s.heap u ls:=by unfold rwsT at r;rw[Rep] at r;obtain⟨a,va,rfl,ea,xa⟩:=r;cases rv;obtain⟨its,q1,⟨o,ho,hc,_,n,hd⟩,hz⟩:=I.tupleN ea;obtain⟨g1,g2⟩:=aL5 g;exact⟨a,o,its.toArray,n,rfl,ho,hc,hd,by simpa using aWj I xa q1,g1,g2⟩
theorem aUl(I:Inv X pins O H s):∀ {ls:List (List ZB)} {vs:List V} {us:List Value},ls.all aGc=true->Reps tw H (ls.map rwsT) vs->Vals vs us->us.map (kyR s.heap)=ls.map enc/\∀u∈us,∃l,RowE s.heap u l
 |[],vs,us,_,r,rv=>by cases aA3 r;cases rv;exact⟨rfl,fun u hu=>by simp at hu⟩
 | l::ls,vs,us,g,r,rv=>by
  rw[dr,bq] at g;obtain⟨v,w,rfl,p,q⟩:=aAm r;cases rv with
  | cons r1 r2 =>
   have K:=rowE_of I g.1 p r1;obtain⟨t1,t2⟩:=aUl I g.2 q r2;refine⟨by rw[a8,a8,t1,K.ky],fun u hu=>?_⟩;rcases ae.mp hu with rfl |hu
   ·exact⟨_,K⟩
   ·exact t2 u hu
theorem pr_sortR(hu6:X.A.units+6<cLine)(hh:X.A.handled=none):PrS X tw (fun us=>call (.builtin "sorted") us) aZ7:=by
 intro B pins s O H vs us ts n t m Q I rv rt tn e k
 match ts,e with
 | [.lst xs],e =>
  obtain⟨v,rfl,r⟩:=aAp rt;obtain⟨u,rfl,ru⟩:=rv.one;obtain⟨ls,e1,e2⟩:=bind_some (show (aF1 xs).bind _=_ from e);split at e2
  ·rename_i hg;rw[bq] at hg;cases e2;have hx:=aKn e1;subst hx;refine aTs ZM (aJ0 hh I r ru rfl fun us vs h' tk h1 h2 h3 kp=>?_);obtain⟨ky,tt⟩:=aUl (I.kept (t':=s.toks) kp) hg.1 h2 h1;refine⟨_,h3,aT5 ky tt,fun h'' xs' e0 kp2 he hp hsr=>?_⟩;have hp':xs'.Perm (PyProof.Rows.pairsOf us):=hp;obtain⟨p2,e2⟩:=aR9 (kf:=kyR h') ky hp' hsr;have h2':Reps tw H ((ls.map enc).map fun c=>rwsT (dec c)) vs:=by
    rw[b6];have:(ls.map ((fun c=>rwsT (dec c))∘enc))=ls.map rwsT:=c8 fun l hl=>by show rwsT (dec (enc l))=rwsT l;rw[dec_enc l (aL5 (br.mp hg.1 l hl)).2]
    rw[this];exact h2
   obtain⟨ws,w1,w2⟩:=aWl (mk:=fun c=>rwsT (dec c)) (kf:=kyR h') h1 h2' ky p2;rw[e2] at w2;have I1:Inv X pins O H { s with heap:=h',toks:=tk }:=I.kept kp;have hf:H h'.objs.size=none:=I1.hok.fresh (a9 _);have I':=I1.laid (a:=h'.objs.size) (o:=.lst ws) (t':=tk) (h':=h'') kp2 (a9 _) ⟨by rw[w1.length,p2.length_eq];exact h3,(xs'.map (·.2)).toList,e0,w1,by rw[eR];exact he⟩;exact⟨.ref h'.objs.size,_,I',rfl,k _ _ (.new hf) (tn.new hf) ⟨_,rfl,hf,_,aAj,Reps.mono (.new hf) _ _ w2⟩⟩
  ·cases e2
end
end L2.Ds
section
namespace L2.En
open PySem PySem.Spec PyProof.Rows
section
variable {prog:jW}{w:World}{A:jY}{E:Value->jR->Prop}{s:jR}
theorem call_enumL{n:Nat}(ht:s.heap.get? t=some { cls:=.type "list",dict:=none,data:=.seq items n,slots:=#[] })
  (h:∀h',IsEnum h' (s.heap.objs.size+1) s.heap.objs.size 0 .none->h'.IsListIter s.heap.objs.size t 0->(∀b o,s.heap.get? b=some o->h'.get? b=some o)->Q (.ref (s.heap.objs.size+1)) { s with heap:=h' }):wpAny (model prog w) A (call (.type "enumerate") [.ref t]) Q E s:=by
 refine callType_new F.called_enumerate ZE (F.typeCall_enumerate_1 _) (F.newCall_enumerate_1 _) (fun obj=>F.args_object_init_2 obj _) F.entry_enumerate_new (meets_enumerate_new t items n) ⟨ht,?_⟩;have hz:(s.heap.push { cls:=.type "list_iterator",data:=.fields #[.ref t,.int 0 0] }).objs.size=s.heap.objs.size+1:=cp ..;have he:IsEnum ((s.heap.push { cls:=.type "list_iterator",data:=.fields #[.ref t,.int 0 0] }).push { cls:=.type "enumerate",data:=.fields #[.none,.bool false,.ref s.heap.objs.size,jc 0,.none,.none] }) (s.heap.objs.size+1) s.heap.objs.size 0 .none:=by have:=af (s.heap.push { cls:=.type "list_iterator",data:=.fields #[.ref t,.int 0 0] }) (o:={ cls:=.type "enumerate",data:=.fields #[.none,.bool false,.ref s.heap.objs.size,jc 0,.none,.none] }) rfl;rw[hz] at this;exact this
 rw[hz];exact⟨⟨_,he,rfl⟩,h _ he ⟨_,a0 _ (af _ rfl),rfl,rfl⟩ fun b o x=>a0 _ (a0 _ x)⟩
end
end L2.En
namespace L2.Ds
open PySem PySem.Spec PyProof.Rows
def Itl2(K:W.Frag)(a:Addr)(m:Nat):It:=⟨fun i H=>∃xs x,SqL K H a xs/\xs.length=m/\xs[i]?=some x,fun i H x H'=>∃p v,H p=none/\x = .ref p/\H'=upd H p (.tup [.int i,v])/\∀ys,SqL K H a ys->ys[i]?=some v,fun i H=>∃xs,SqL K H a xs/\xs.length=m/\m<=i⟩
theorem aXp{P:jW}{w:World}{K:W.Frag}{elts:List Expr}{x1}{tp:Pos}(a e it:Addr)(m:Nat)(hei:e≠it)(hae:a≠e)(hai:a≠it) :
  Turn P w K (.Tuple elts x1 tp) (Itl2 K a m) [e,it] e (fun i h=>i<=m/\(∃old,IsEnum h e it (i:Nat) old)/\h.IsListIter it a i) where
 mem:=by simp
 obj:=fun i h st b hb=>by
  obtain⟨_,⟨old,he⟩,o,ho,hc,hd⟩:=st;rcases ae.mp hb with rfl |hb
  ·exact⟨_,he,fun v z=>by cases z⟩
  ·have:=b8.mp hb;subst this;exact⟨o,ho,fun v z=>by rw[hd] at z;cases z⟩
 keep:=fun i h h' st k=>by obtain⟨hi,⟨old,he⟩,o,ho,r⟩:=st;exact⟨hi,⟨old,k e ZJ _ he⟩,o,k it ZJ o ho,r⟩
 item:=by
  intro X hP hw hK hc i pins s O H E I hf st hg;subst hP hw hK;obtain⟨xs,x,hq,hl,hx⟩:=hg;obtain⟨its,rv,p,hz⟩:=I.list hq;obtain⟨u,hu,ru⟩:=rv.get hx;obtain⟨hi,⟨old,he⟩,hit⟩:=st;have hlt:i<its.toArray.size:=by have:=(b9.mp hu).1;simpa using this
  refine wpAny_pyNext_enum_itemD (Draws.list (A:=X.A.in1) (show X.A.in1.handled=none from I.ok.hd hc) it a hai its.toArray) he ⟨hit,p.isList⟩ hlt hei (by simp[hei,hae.symm]) fun x2 h' tk hP ho hs' hT hsz hk=>?_;have hx2:x2=u:=by have hP:its.toArray[i]?=some x2:=hP;rw[iJ,hu] at hP;cases hP;rfl
  subst hx2;refine⟨_,rfl,lU ho fun h2 he2 hs2=>?_⟩;have hs2:Heap.SameBut e h' h2:=hs2;have hfr:H s.heap.objs.size=none:=I.hok.fresh (a9 _);have elt:e<s.heap.objs.size:=aj he;have ilt:it<s.heap.objs.size:=by obtain⟨_,q,_⟩:=hit;exact aj q
  have I1:Inv X pins O (upd H s.heap.objs.size (.tup [.int i,x])) { s with heap:=s.heap.push { cls:=.type "tuple",data:=.seq #[.int i tk,x2] },toks:=tk+1 } :=
   I.laid (t':=tk+1) (fun b o e=>a0 _ e) (a9 _) ⟨by show 2<=jU;decide,[.int i tk,x2],.cons ⟨tk,rfl⟩ (.cons ru .nil),aDm.new _ _⟩
  have I2:=I1.turnedL (fp:=[e,it]) (h':=h2) (t':=tk+1) (fun b o hb q=>?_) fun b hb=>?_
  ·refine⟨.ref s.heap.objs.size,_,I2,rfl,⟨s.heap.objs.size,x,hfr,rfl,rfl,fun ys hy=>by rw[I.list_inj hy hq];exact hx⟩,⟨?_,⟨x2,by simpa using he2⟩,?_⟩,fun b hb=>?_⟩
   ·have:=(b9.mp hx).1;omega
   ·obtain⟨o,q,r⟩:=hs'.1;exact⟨o,hs2.extBut _ _ (Ne.symm hei) q,r⟩
   ·have hn:=(hf b hb).1;have nb:b≠s.heap.objs.size:=by
     rcases ae.mp hb with rfl |hb
     ·exact au elt
     ·have:=b8.mp hb;subst this;exact au ilt
    rw[aAk nb];exact hn
  ·have b1:b≠e:=fun z=>hb (by simp[z]);have b2:b≠it:=fun z=>hb (by simp[z]);by_cases z:b=s.heap.objs.size
   ·subst z;rw[af _ rfl] at q;cases q;exact hs2.extBut _ _ b1 hT
   ·have q':s.heap.get? b=some o:=by have:=q;rw[dg _ _ _ z] at this;exact this
    exact hs2.extBut _ _ b1 (hk b o b1 b2 q')
  ·obtain⟨f0,f1,f2,f3,f4,f5⟩:=hf b hb;have nb:b≠s.heap.objs.size:=by
    rcases ae.mp hb with rfl |hb
    ·exact au elt
    ·have:=b8.mp hb;subst this;exact au ilt
   exact⟨by rw[aAk nb];exact f0,f1,f2,f3,f4,f5⟩
 done:=by
  intro X hP hw hK hc i pins s O H E I hf st hg;subst hP hw hK;obtain⟨xs,hq,hl,hg⟩:=hg;obtain⟨its,rv,p,hz⟩:=I.list hq;obtain⟨hi,⟨old,he⟩,hit⟩:=st;have hn:i=its.toArray.size:=by have:=rv.length;rw[ah];omega
  subst hn;obtain⟨f0,f1,f2,f3,f4,f5⟩:=hf it ZJ;exact wpAny_pyNext_enum_endD (Draws.list (A:=X.A.in1) (show X.A.in1.handled=none from I.ok.hd hc) it a hai its.toArray) he ⟨hit,p.isList⟩ fun h' eb=>⟨rfl,I.turned (t':=s.toks) (fun b o hb e=>eb b o hb e) f0 f1 f3 f4 f5⟩
 self:=fun _ _ _ _ _ st h=>let ⟨_,⟨_,he⟩,_⟩:=st;kx he h
section
variable {X:Cx}{tw:Addr}
theorem at_enumL{K:W.Frag}{H:Hp}{a:Addr}{xs:List T}{vs:List V}{ob:Obj}(h:H a=some (.frz ob (.lst vs)))(r:Reps tw H xs vs):ItAt tw (Itl2 K a xs.length) H (aFv xs):=fun i=>by have hl:=r.length;refine⟨fun t e=>?_,fun hi=>⟨vs,(.inl (.inr ⟨ob,h⟩):SqL K H a vs),hl.symm,by rw[aP6] at hi;exact hi⟩⟩;obtain⟨x,hx,rfl⟩:=aWg e;obtain⟨v,hv,rv⟩:=r.get hx;refine⟨⟨vs,v,(.inl (.inr ⟨ob,h⟩):SqL K H a vs),hl.symm,hv⟩,fun x H2 y=>?_⟩;obtain⟨p,u,hp,rfl,rfl,y⟩:=y;have:=y vs ((.inl (.inr ⟨ob,h⟩):SqL K H a vs));rw[hv] at this;cases this;refine⟨.new hp,fun n tn=>tn.new hp,?_⟩;rw[Rep];refine⟨p,_,rfl,aAj,.cons (by rw[Rep]) (.cons (Rep.mono ?_ _ _ rv) .nil)⟩;exact fun b=>⟨fun ws e=>by rw[aAk (aBo e hp)];exact e,fun o u e=>by rw[aAk (aBo e hp)];exact e⟩
theorem bAw{elts:List Expr}{x1}{tp:Pos}{pos p:Pos}{a:Expr}{d:DE}(ha:SE X tw a d)(hm:X.mg "enumerate" = none)(hg:autoParam (Gl X "enumerate") lZ)(hs:autoParam (jV [a] X.env=(false,eval a X.env)::jV [] X.env) lZ)(hs2:autoParam ((jg pos (jV [] X.env)).any (·.1)=false) lZ) :
  SIs X tw (.Tuple elts x1 tp) (.Call (.Name "enumerate" p) [a] [] pos) (aZ5 d):=by
 intro B ρ n ts n' hd pins s O H R I ⟨Rl,k⟩;obtain⟨⟨t0,m0,n1⟩,e1,e2⟩:=bind_some hd;have ⟨xs,et,em,ets,en⟩:∃xs,t0 = .lst xs/\m0 = .fz/\ts=aFv xs/\n'=n1:=by
  cases t0 with
  | lst xs =>
   cases m0 with
   |fz=>cases e2;exact⟨xs,rfl,rfl,rfl,rfl⟩
   |_=>cases e2
  |_=>cases e2
 subst et em ets en;have e3:aAa (dFz d) dNil ρ n=some ([.lst xs],n'):=by unfold aAa dFz;rw[e1];rfl
 refine Call_ (aEe I hg hm boot_enumerate (PyProof.Rows.callWith_type1 (thn ((aAi ha aAq hs) B ρ n [.lst xs] n' e3 pos pins s O H (fun vs H'=>Ext tw H H'/\Tn tw n' H'/\Reps tw H' [.lst xs] vs) I ⟨Rl,fun vs H' x y z=>⟨x,y,z⟩⟩) fun us s1 ⟨vs,H1,I1,r1,a1,t1,c1⟩=>?_) hs hs2));obtain⟨v,w,rfl,r,c2⟩:=aAm c1;cases aA3 c2;obtain⟨u,rfl,ru⟩:=r1.one;rw[Rep] at r;obtain⟨ad,ob,va,rfl,ea,xa⟩:=r;cases ru;obtain⟨_,z,its,c,rv,ht⟩:=(show aBz X.prog X.w H1 s1.heap ad (.frz ob (.lst va)) from I1.hok ad _ ea)
 have hlt:ad<s1.heap.objs.size:=aj ht;refine En.call_enumL ht fun h' he hit hk=>?_;have I2:Inv X pins O H1 { s1 with heap:=h' }:=I1.kept (t':=s1.toks) hk;refine kx he ?_;refine⟨s1.heap.objs.size+1,[s1.heap.objs.size+1,s1.heap.objs.size],_,_,H1,rfl,I2,aXp ad (s1.heap.objs.size+1) s1.heap.objs.size xs.length (Nat.succ_ne_self _) (au (c6 hlt)) (au hlt),⟨dm _,⟨_,he⟩,hit⟩,fun b hb=>?_,k _ H1 a1 t1 fun H2 n2 t2 f2 x2=>at_enumL ((f2 ad).2 _ _ ea) (Reps.mono f2 _ _ xa)⟩;have hb:s1.heap.objs.size<=b:=by
  rcases ae.mp hb with rfl |hb
  ·omega
  ·have:=b8.mp hb;exact gP this.symm
 exact I1.fpOk hb (I1.hok.fresh hb)
end
end L2.Ds
end
namespace L2.Ds
open PySem
theorem aX1(ns:List Int)(i:Int)(h0:0<=i)(h1:i<ns.length):∃c∈ns,at? (ns.map T.int) i=some (.int c):=by
 have h:i.toNat<ns.length:=by lia
 refine⟨ns[i.toNat],cv h,?_⟩;unfold at?;rw[if_pos h0,if_pos (by simpa using h1)];simp[h]
theorem aEd(k:Nat)(ns:List Int):(ns.map T.int).all (aAo k)=true:=by rw[gQ,br];intro x _;cases k<;>rfl
theorem aBk:∀l:List Int,intsOf (l.map T.int)=some l
 |[]=>rfl
 |x::xs=>by show (intsOf (xs.map T.int)).map (x :: ·)=_;rw[aBk xs];rfl
theorem aGm{α:Type}(f:α->T):∀l:List α,(∀x∈l,f x = .bl true)->∃bs,boolsOf (l.map f)=some bs/\bs.all id=true
 |[],_=>⟨[],rfl,rfl⟩
 | x::xs,h=>by
  obtain⟨bs,e,a⟩:=aGm f xs fun y hy=>h y (a6 _ hy)
  exact⟨true::bs,by
   rw[a8,h x (a7 ..)];show (boolsOf (xs.map f)).map (true :: ·)=_
   rw[e];rfl,by simpa using a⟩
theorem aJt:∀ {ls:List ZB},(∀l∈ls,l ≠ [])->aGq (ls.map tupT)=some ls
 |[],_=>rfl
 | l::ls,h=>by
  have ih:=aJt (ls:=ls) fun l hl=>h l (a6 _ hl);cases l with
  |nil=>exact absurd rfl (h [] (a7 ..))
  | cons x xs =>
   have:=aBk (x::xs);rw[a8] at this;show (intsOf (.int x::xs.map T.int)).bind (fun l=>(aGq (ls.map tupT)).map (l :: ·))=_;rw[this,ih];rfl
theorem aHq{put:T->En->Option En}{c:DT}{R:En->Prop}{p:T->Bool}{f:T->T}:∀ (xs:List T),(∀x∈xs,∀ρ n,R ρ->∃ρ',put x ρ=some ρ'/\R ρ'/\c ρ' n=some (p x,n)/\(p x=true->dFz e ρ' n=some (f x,.fz,n))) ->
  ∀ (ρ:En) (n:Nat) (acc:List T),R ρ->acc.length+xs.length<=big->aD3 put c e xs ρ n acc=some (acc++(xs.filter p).map f,n)
 |[],_,ρ,n,acc,_,_=>by simp[aD3]
 | x::xs,h,ρ,n,acc,hR,hb=>by
  obtain⟨ρ',e1,r1,e2,e3⟩:=h x (a7 ..) ρ n hR;rw[aa] at hb;unfold aD3;rw[e1];simp only[aq,e2];by_cases hp:p x=true
  ·rw[if_pos hp,e3 hp];simp only[aq];rw[if_pos ZA,aHq xs (fun y hy=>h y (a6 _ hy)) ρ' n (acc ++ [f x]) r1 (by simp;lia)];simp[hp]
  ·rw[if_neg hp,aHq xs (fun y hy=>h y (a6 _ hy)) ρ' n acc r1 ZA];simp[hp]
theorem aNk{i:Nat}{n n':Nat}(h:d ρ n=some (t,.own,n'))(hi:ρ[i]?=some (some (u,.own)))(hg:g u t=some t'):dChg i g d ρ n=some (.nx,ρ.set i (some (t',.own)),n'):=by unfold dChg dFz;simp only[h,aq,frz,d7,hi,hg]
theorem aEm(lo hi:Int):(upTo lo hi).length=(hi - lo).toNat:=by simp[upTo]
end L2.Ds
namespace L2.Ds
open PySem
theorem aF3{α:Type}{i:Nat}{n:Nat}(ys:List α)(g:α->T)(p:α->Bool)(f:α->T)(hi:it ρ n=some (ys.map g,n))(hl:ys.length<=big)
  (h:∀y∈ys,c ((srcOf l ρ).set i (some (g y,.fz))) n=some (p y,n)/\(p y=true->dFz e ((srcOf l ρ).set i (some (g y,.fz))) n=some (f y,.fz,n))) :
  aBl it (srcOf l) (putAt i) c e ρ n=some (.lst ((ys.filter p).map f),.own,n):=by
 have gen:∀ (zs:List α) (ρ0:En) (acc:List T),(∀y∈zs,y∈ys)->(∀v,ρ0.set i v=(srcOf l ρ).set i v)->acc.length+zs.length<=big->aD3 (putAt i) c e (zs.map g) ρ0 n acc=some (acc++(zs.filter p).map f,n):=by
  intro zs
  induction zs with
  |nil=>intro ρ0 acc _ _ _;simp[aD3]
  | cons z zs ih =>
   intro ρ0 acc hz hρ hb;rw[aa] at hb;obtain⟨h1,h2⟩:=h z (hz z (a7 ..));have hρ':∀v,((srcOf l ρ).set i (some (g z,.fz))).set i v=(srcOf l ρ).set i v:=fun v=>by rw[h7]
   rw[a8];unfold aD3;simp only[putAt,aq,hρ,h1];cases hp:p z with
   | true =>
    simp only[if_true,h2 hp,aq];rw[if_pos ZA,ih _ _ (fun y hy=>hz y (a6 _ hy)) hρ' (by simp;lia)];simp[hp]
   | false =>
    simp only[bu,if_false];rw[ih _ _ (fun y hy=>hz y (a6 _ hy)) hρ' ZA];simp[hp]
 unfold aBl;rw[hi];simp only[aq];rw[gen ys _ [] (fun _ h=>h) (fun _=>rfl) (by simpa using hl)];rfl
theorem aCq{α:Type}{i:Nat}{n:Nat}(ys:List α)(g:α->T)(f:α->T)(hi:it ρ n=some (ys.map g,n))(hl:ys.length<=big)
  (h:∀y∈ys,dFz e ((srcOf l ρ).set i (some (g y,.fz))) n=some (f y,.fz,n)) :
  aBl it (srcOf l) (putAt i) yes e ρ n=some (.lst (ys.map f),.own,n):=by
 rw[aF3 ys g (fun _=>true) f hi hl fun y hy=>⟨rfl,fun _=>h y hy⟩,gU.mpr fun _ _=>rfl]
theorem comp_two{α:Type}{i j:Nat}{n:Nat}(ys:List α)(g g':α->T)(p:α->Bool)(f:α->T)(hij:i≠j)(hi:it ρ n=some (ys.map (fun y=>.tup [g y,g' y]),n))(hl:ys.length<=big)
  (h:∀y∈ys,c (((srcOf l ρ).set i (some (g y,.fz))).set j (some (g' y,.fz))) n=some (p y,n)/\(p y=true->dFz e (((srcOf l ρ).set i (some (g y,.fz))).set j (some (g' y,.fz))) n=some (f y,.fz,n))) :
  aBl it (srcOf l) (aD6 i j) c e ρ n=some (.lst ((ys.filter p).map f),.own,n):=by
 have gen:∀ (zs:List α) (ρ0:En) (acc:List T),(∀y∈zs,y∈ys)->(∀v v',(ρ0.set i v).set j v'=((srcOf l ρ).set i v).set j v')->acc.length+zs.length<=big->aD3 (aD6 i j) c e (zs.map (fun y=>.tup [g y,g' y])) ρ0 n acc=some (acc++(zs.filter p).map f,n):=by
  intro zs
  induction zs with
  |nil=>intro ρ0 acc _ _ _;simp[aD3]
  | cons z zs ih =>
   intro ρ0 acc hz hρ hb;rw[aa] at hb;obtain⟨h1,h2⟩:=h z (hz z (a7 ..));have hρ':∀v v',((((srcOf l ρ).set i (some (g z,.fz))).set j (some (g' z,.fz))).set i v).set j v'=((srcOf l ρ).set i v).set j v':=fun v v'=>by rw[List.set_comm (some (g' z,Md.fz)) v (Ne.symm hij),h7,h7]
   rw[a8];unfold aD3;simp only[aD6,aq,hρ,h1];cases hp:p z with
   | true =>
    simp only[if_true,h2 hp,aq];rw[if_pos ZA,ih _ _ (fun y hy=>hz y (a6 _ hy)) hρ' (by simp;lia)];simp[hp]
   | false =>
    simp only[bu,if_false];rw[ih _ _ (fun y hy=>hz y (a6 _ hy)) hρ' ZA];simp[hp]
 unfold aBl;rw[hi];simp only[aq];rw[gen ys _ [] (fun _ h=>h) (fun _ _=>rfl) (by simpa using hl)];rfl
theorem aQx{it:DI}{l:List (Option Nat)}{i:Nat}{e:DE}{ρ:En}{n0 n:Nat}{xs:List T}{P:T->Prop}{K N:Nat}(hi:it ρ n0=some (xs,n))(h:∀x n,n+K<=N->∃t n',dFz e ((srcOf l ρ).set i (some (x,.fz))) n=some (t,.fz,n')/\n<=n'/\n'<=n+K/\P t)
  (hn:n+K*xs.length<=N) (hb:xs.length<=big):∃out n',out.length=xs.length/\(∀t∈out,P t)/\n<=n'/\n'<=n+K*xs.length/\aBl it (srcOf l) (putAt i) yes e ρ n0=some (.lst out,.own,n'):=by
 have gen:∀ (zs:List T) (ρ0:En) (n:Nat) (acc:List T),(∀v,ρ0.set i v=(srcOf l ρ).set i v)->n+K*zs.length<=N->acc.length+zs.length<=big->∃out n',out.length=zs.length/\(∀t∈out,P t)/\n<=n'/\n'<=n+K*zs.length/\aD3 (putAt i) yes e zs ρ0 n acc=some (acc++out,n'):=by
  intro zs
  induction zs with
  |nil=>intro ρ0 n acc _ _ _;exact⟨[],n,rfl,fun t ht=>by simp at ht,a9 _,by simp,by simp[aD3]⟩
  | cons z zs ih =>
   intro ρ0 n acc hρ hn hb;have hk:K*(zs.length+1)=K*zs.length+K:=by rw[Nat.mul_succ]
   rw[aa,hk] at hn;rw[aa] at hb;obtain⟨t,n1,e1,l1,l2,p⟩:=h z n ZA;obtain⟨out,n2,q1,q2,l3,l4,q3⟩:=ih ((srcOf l ρ).set i (some (z,.fz))) n1 (acc ++ [t]) (fun v=>by rw[h7]) ZA (by simp;lia);refine⟨t::out,n2,by simp[q1],fun t' ht=>?_,by lia,by rw[aa,hk];lia,?_⟩
   ·rcases ae.mp ht with rfl |ht
    ·exact p
    ·exact q2 t' ht
   ·unfold aD3;simp only[putAt,hρ,aq,yes,e1,if_true];rw[if_pos ZA,q3];simp
 obtain⟨out,n',q1,q2,q3,q4,q5⟩:=gen xs (srcOf l ρ) n [] (fun _=>rfl) hn (by simpa using hb);refine⟨out,n',q1,q2,q3,q4,?_⟩;unfold aBl;rw[hi];simp only[aq];rw[q5];rfl
theorem bAt{α:Type}(f:α->T)(Q:α->Prop):∀ {out:List T},(∀t∈out,∃y,t=f y/\Q y)->∃l:List α,out=l.map f/\∀y∈l,Q y
 |[],_=>⟨[],rfl,by simp⟩
 | t::ts,h=>by
  obtain⟨l,rfl,hl⟩:=bAt f Q fun t ht=>h t (a6 _ ht);obtain⟨y,rfl,hy⟩:=h t (a7 ..)
  exact⟨y::l,rfl,fun z hz=>by
   rcases ae.mp hz with rfl |hz
   ·exact hy
   ·exact hl z hz⟩
theorem aUx{α O:Type}{put:T->En->Option En}{g:α->T}{n:Nat}(R:O->En->Prop)(step:O->α->O):∀ (ys:List α) (s:O) (ρ:En),(∀pre y post,ys=pre++y::post->∀ρ,R (pre.foldl step s) ρ->∃ρ1 ρ2,put (g y) ρ=some ρ1/\b ρ1 n=some (.nx,ρ2,n)/\R (step (pre.foldl step s) y) ρ2)->R s ρ ->
  ∃ρ',R (ys.foldl step s) ρ'/\aA4 put b (ys.map g) ρ n=some (.nx,ρ',n)
 |[],s,ρ,_,hR=>⟨ρ,hR,rfl⟩
 |y::ys,s,ρ,h,hR=>by obtain⟨ρ1,ρ2,e1,e2,r2⟩:=h [] y ys rfl ρ hR;obtain⟨ρ',r3,e3⟩:=aUx R step ys (step s y) ρ2 (fun pre z post e ρ hR=>h (y::pre) z post (by rw[e];rfl) ρ hR) r2;refine⟨ρ',r3,?_⟩;rw[a8];unfold aA4;simp only[e1,aq,e2];exact e3
theorem aY4{α O:Type}{put:T->En->Option En}{g:α->T}{n:Nat}(R:O->En->Prop)(step:O->α->O)(ys:List α)(s:O)(ρ:En)(h:∀y∈ys,∀s ρ,R s ρ->∃ρ1 ρ2,put (g y) ρ=some ρ1/\b ρ1 n=some (.nx,ρ2,n)/\R (step s y) ρ2)(hR:R s ρ) :
  ∃ρ',R (ys.foldl step s) ρ'/\aA4 put b (ys.map g) ρ n=some (.nx,ρ',n) :=
 aUx R step ys s ρ (fun pre y post e ρ hR=>h y (by rw[e];simp) _ ρ hR) hR
theorem aZa(n:Nat)(h1:l.length<100000)(h2:∀x∈l,-10000000000000<=x/\x<=10000000000000):aMk n [.tup (l.map .int)]=some (.int (sumI l),.fz):=by
 have:(l.all fun x=>decide (x.natAbs<=10000000000000))=true:=by rw[br];intro x hx;have:=h2 x hx;simp;lia
 show (intsOf (l.map T.int)).bind _=_;rw[aBk,aq,if_pos ⟨h1,this⟩]
theorem aT7{n n':Nat}{j:Int}(h:a ρ n=some ([.int j],n'))(c1:-(big:Int)<=j)(c2:j<=big):aH0 a ρ n=some (upTo 0 j,n'):=by unfold aH0;rw[h];show (if -(big:Int)<=j/\j<=big then some (upTo 0 j,n') else none)=_;rw[if_pos ⟨c1,c2⟩]
theorem rng2_ok{n n':Nat}{i j:Int}(h:a ρ n=some ([.int i,.int j],n'))(c1:-(big:Int)<=i)(c2:i<=big)(c3:-(big:Int)<=j)(c4:j<=big):aWr a ρ n=some (upTo i j,n'):=by unfold aWr;rw[h];show (if -(big:Int)<=i/\i<=big /\ -(big:Int)<=j/\j<=big then some (upTo i j,n') else none)=_;rw[if_pos ⟨c1,c2,c3,c4⟩]
theorem aVg(m:Nat):upTo 0 m=(List.range m).map fun k=>.int (k:Nat):=by simp[upTo]
theorem aJq{k:Nat}(go:∀t:T,aAo k t=true->eqT t t=true):∀a:List T,(a.all (aAo k))=true->eqTs a a=true
 |[],_=>rfl
 |x::a,h=>by rw[dr,bq] at h;show (eqT x x&&eqTs a a)=true;rw[go x h.1,aJq go a h.2];rfl
theorem eqT_flat(t:T)(h:aAo 0 t=true):eqT t t=true:=by
 cases t with
 |non=>rfl
 |bl b=>show (b==b)=true;simp
 |int i=>show (i==i)=true;simp
 |str x=>show (x==x)=true;simp
 |_=>cases h
theorem aMl:∀ (k:Nat) (t:T),aAo k t=true->eqT t t=true
 |0,t,h=>eqT_flat t h
 | k+1,t,h=>by
  cases t with
  |tup a=>exact aJq (aMl k) a h
  |lst a=>exact aJq (aMl k) a h
  |non=>rfl
  |bl b=>show (b==b)=true;simp
  |int i=>show (i==i)=true;simp
  |str x=>show (x==x)=true;simp
  |_=>cases h
theorem aG4(h:aAo 6 t=true):eqP t t=some true:=by
 have e:=aMl 6 t h;have q:eqP t t=if (aAo 6 t&&aAo 6 t)=true then some (eqT t t) else none:=by
  cases t with
  |dic a=>cases h
  |_=>rfl
 rw[q,h,e];rfl
theorem aXu(k:Nat)(l:List Int):aAo (k+1) (tupT l)=true:=by show (l.map T.int).all (aAo k)=true;exact aEd k l
theorem at_neg(h:xs ≠ [])(e:xs.getLast h=t):at? xs (-1)=some t:=by have hl:0<xs.length:=gV.mpr h;unfold at?;rw[if_neg ZA,if_pos ZA,show (-1+(xs.length:Int)).toNat=xs.length - 1 by lia];rw[<-e,List.getLast_eq_getElem];simp[hl]
end L2.Ds
namespace L2.Ds
variable {α:Type}
def kSeq(b:DS):Option (Fl × En × Nat)->Option (Fl × En × Nat)
 |some (.nx,ρ,n)=>b ρ n
 |x=>x
theorem aI0(a b:DS)(ρ:En)(n:Nat):dSeq a b ρ n=kSeq b (a ρ n):=by
 unfold dSeq;cases a ρ n with
 |none=>rfl
 |some r=>obtain⟨f,ρ1,n1⟩:=r;cases f<;>rfl
theorem aE0(b:DS)(ρ:En)(n:Nat):kSeq b (some (.nx,ρ,n))=b ρ n:=rfl
theorem k_seq2(b:DS)(ρ:En)(n:Nat)(t:T)(o:Bool):kSeq b (some (.rt t o,ρ,n))=some (.rt t o,ρ,n):=rfl
def kIf(a b:Nat->Option α):Option (Bool × Nat)->Option α
 |some (t,n)=>if t then a n else b n
 |none=>none
theorem a_ifS(c:DT)(a b:DS)(ρ:En)(n:Nat):dIfS c a b ρ n=kIf (a ρ) (b ρ) (c ρ n):=by unfold dIfS;cases c ρ n<;>rfl
theorem a_if(c:DT)(a b:DE)(ρ:En)(n:Nat):dIf c a b ρ n=kIf (a ρ) (b ρ) (c ρ n):=by unfold dIf;cases c ρ n<;>rfl
theorem aHs(a b:Nat->Option α)(t:Bool)(n:Nat):kIf a b (some (t,n))=if t then a n else b n:=rfl
theorem k_if1(a b:Nat->Option α)(n:Nat):kIf a b (some (true,n))=a n:=rfl
theorem k_if2(a b:Nat->Option α)(n:Nat):kIf a b (some (false,n))=b n:=rfl
def kSet(i:Nat)(ρ:En):Option (T × Md × Nat)->Option (Fl × En × Nat)
 |some (t,.own,n)=>some (.nx,ρ.set i (some (t,.own)),n)
 |some (t,.fz,n)=>some (.nx,ρ.set i (some (t,.fz)),n)
 |_=>none
theorem a_set(i:Nat)(d:DE)(ρ:En)(n:Nat):dSet i d ρ n=kSet i ρ (d ρ n):=by
 unfold dSet;cases d ρ n with
 |none=>rfl
 |some r=>obtain⟨t,m,n1⟩:=r;cases m<;>rfl
theorem k_set1(i:Nat)(ρ:En)(t:T)(n:Nat):kSet i ρ (some (t,.own,n))=some (.nx,ρ.set i (some (t,.own)),n):=rfl
theorem k_set2(i:Nat)(ρ:En)(t:T)(n:Nat):kSet i ρ (some (t,.fz,n))=some (.nx,ρ.set i (some (t,.fz)),n):=rfl
def kRet(ρ:En):Option (T × Md × Nat)->Option (Fl × En × Nat)
 |some (t,.own,n)=>some (.rt t true,ρ,n)
 |some (t,.fz,n)=>some (.rt t false,ρ,n)
 |_=>none
theorem a_ret(d:DE)(ρ:En)(n:Nat):dRet d ρ n=kRet ρ (d ρ n):=by
 unfold dRet;cases d ρ n with
 |none=>rfl
 |some r=>obtain⟨t,m,n1⟩:=r;cases m<;>rfl
theorem k_ret1(ρ:En)(t:T)(n:Nat):kRet ρ (some (t,.own,n))=some (.rt t true,ρ,n):=rfl
theorem k_ret2(ρ:En)(t:T)(n:Nat):kRet ρ (some (t,.fz,n))=some (.rt t false,ρ,n):=rfl
def kVar(n:Nat):Option (Option (T × Md))->Option (T × Md × Nat)
 |some (some (t,m))=>some (t,look m t,n)
 |_=>none
theorem a_var(i:Nat)(ρ:En)(n:Nat):dVar i ρ n=kVar n ρ[i]?:=by unfold dVar kVar;split<;>simp_all
theorem k_var(n:Nat)(t:T)(m:Md):kVar n (some (some (t,m)))=some (t,look m t,n):=rfl
def kPr1(n:Nat):Option (T × Md)->Option (T × Md × Nat)
 |some (t,m)=>some (t,m,n)
 |none=>none
def kPr(g:Pr):Option (List T × Nat)->Option (T × Md × Nat)
 |some (ts,n)=>kPr1 n (g n ts)
 |none=>none
theorem a_pr(g:Pr)(a:DA)(ρ:En)(n:Nat):dPr g a ρ n=kPr g (a ρ n):=by
 unfold dPr;cases a ρ n with
 |none=>rfl
 |some r=>obtain⟨ts,n1⟩:=r;show (g n1 ts).map _=kPr1 n1 (g n1 ts);cases g n1 ts<;>rfl
theorem k_pr(g:Pr)(ts:List T)(n:Nat):kPr g (some (ts,n))=kPr1 n (g n ts):=rfl
theorem k_pr1(n:Nat)(t:T)(m:Md):kPr1 n (some (t,m))=some (t,m,n):=rfl
def aVf(t:T):Option (List T × Nat)->Option (List T × Nat)
 |some (ts,n)=>some (t::ts,n)
 |none=>none
def kCons(r:DA)(ρ:En):Option (T × Md × Nat)->Option (List T × Nat)
 |some (t,_,n)=>aVf t (r ρ n)
 |none=>none
theorem a_cons(d:DE)(r:DA)(ρ:En)(n:Nat):aAa d r ρ n=kCons r ρ (d ρ n):=by
 unfold aAa;cases d ρ n with
 |none=>rfl
 |some x=>obtain⟨t,m,n1⟩:=x;show (r ρ n1).map _=aVf t (r ρ n1);cases r ρ n1<;>rfl
theorem k_cons(r:DA)(ρ:En)(t:T)(m:Md)(n:Nat):kCons r ρ (some (t,m,n))=aVf t (r ρ n):=rfl
theorem k_cons1(t:T)(ts:List T)(n:Nat):aVf t (some (ts,n))=some (t::ts,n):=rfl
def kB1(p:T × Bool):Option (List (T × Bool) × Nat)->Option (List (T × Bool) × Nat)
 |some (ts,n)=>some (p::ts,n)
 |none=>none
def kB(r:DB)(ρ:En):Option (T × Md × Nat)->Option (List (T × Bool) × Nat)
 |some (t,m,n)=>kB1 (t,flag m t) (r ρ n)
 |none=>none
theorem a_b(d:DE)(r:DB)(ρ:En)(n:Nat):aAe d r ρ n=kB r ρ (d ρ n):=by
 unfold aAe;cases d ρ n with
 |none=>rfl
 |some x=>obtain⟨t,m,n1⟩:=x;show (r ρ n1).map _=kB1 (t,flag m t) (r ρ n1);cases r ρ n1<;>rfl
theorem k_b(r:DB)(ρ:En)(t:T)(m:Md)(n:Nat):kB r ρ (some (t,m,n))=kB1 (t,flag m t) (r ρ n):=rfl
theorem k_b1(p:T × Bool)(ts:List (T × Bool))(n:Nat):kB1 p (some (ts,n))=some (p::ts,n):=rfl
def kFz1(n:Nat):Option T->Option (T × Md × Nat)
 |some t=>some (t,.fz,n)
 |none=>none
def kFz:Option (T × Md × Nat)->Option (T × Md × Nat)
 |some (t,m,n)=>kFz1 n (frz t m)
 |none=>none
theorem a_fz(d:DE)(ρ:En)(n:Nat):dFz d ρ n=kFz (d ρ n):=by
 unfold dFz;cases d ρ n with
 |none=>rfl
 |some x=>obtain⟨t,m,n1⟩:=x;show (frz t m).map _=kFz1 n1 (frz t m);cases frz t m<;>rfl
theorem k_fz(t:T)(m:Md)(n:Nat):kFz (some (t,m,n))=kFz1 n (frz t m):=rfl
theorem k_fz1(n:Nat)(t:T):kFz1 n (some t)=some (t,.fz,n):=rfl
def kTru1(n:Nat):Option Bool->Option (Bool × Nat)
 |some b=>some (b,n)
 |none=>none
def kTru:Option (T × Md × Nat)->Option (Bool × Nat)
 |some (t,_,n)=>kTru1 n (tru t)
 |none=>none
theorem a_tru(d:DE)(ρ:En)(n:Nat):dTru d ρ n=kTru (d ρ n):=by
 unfold dTru;cases d ρ n with
 |none=>rfl
 |some x=>obtain⟨t,m,n1⟩:=x;show (tru t).map _=kTru1 n1 (tru t);cases tru t<;>rfl
theorem k_tru(t:T)(m:Md)(n:Nat):kTru (some (t,m,n))=kTru1 n (tru t):=rfl
theorem k_tru1(n:Nat)(b:Bool):kTru1 n (some b)=some (b,n):=rfl
def kNot:Option (Bool × Nat)->Option (Bool × Nat)
 |some (b,n)=>some (!b,n)
 |none=>none
theorem a_not(c:DT)(ρ:En)(n:Nat):dNot c ρ n=kNot (c ρ n):=by unfold dNot;cases c ρ n<;>rfl
theorem k_not(b:Bool)(n:Nat):kNot (some (b,n))=some (!b,n):=rfl
theorem a_and(a b:DT)(ρ:En)(n:Nat):dAnd a b ρ n=kIf (b ρ) (fun n=>some (false,n)) (a ρ n):=by unfold dAnd;cases a ρ n<;>rfl
theorem a_or(a b:DT)(ρ:En)(n:Nat):dOr a b ρ n=kIf (fun n=>some (true,n)) (b ρ) (a ρ n):=by unfold dOr;cases a ρ n<;>rfl
def kRes:Option (T × Bool × Nat)->Option (T × Md × Nat)
 |some (t,b,n)=>some (t,md b,n)
 |none=>none
def kCall(ar:Nat)(f:Fn):Option (List (T × Bool) × Nat)->Option (T × Md × Nat)
 |some (ts,n)=>if ts.length=ar then kRes (f ts n) else none
 |none=>none
theorem a_call(ar:Nat)(f:Fn)(a:DB)(ρ:En)(n:Nat):dCall ar f a ρ n=kCall ar f (a ρ n):=by
 unfold dCall;cases a ρ n with
 |none=>rfl
 | some x =>
  obtain⟨ts,n1⟩:=x;show (if ts.length=ar then (f ts n1).map _ else none)=if ts.length=ar then kRes (f ts n1) else none
  cases f ts n1<;>rfl
theorem k_call0(ar:Nat)(f:Fn)(ts:List (T × Bool))(n:Nat):kCall ar f (some (ts,n))=if ts.length=ar then kRes (f ts n) else none:=rfl
theorem k_res(t:T)(b:Bool)(n:Nat):kRes (some (t,b,n))=some (t,md b,n):=rfl
theorem a_k(t:T)(ρ:En)(n:Nat):dK t ρ n=some (t,.fz,n):=rfl
theorem a_nil(ρ:En)(n:Nat):dNil ρ n=some ([],n):=rfl
theorem a_bnil(ρ:En)(n:Nat):bNil ρ n=some ([],n):=rfl
theorem a_skip(ρ:En)(n:Nat):aCh ρ n=some (.nx,ρ,n):=rfl
def kTup:Option (List T × Nat)->Option (T × Md × Nat)
 |some (ts,n)=>if ts.length<=big then some (.tup ts,.fz,n) else none
 |none=>none
theorem a_tup(a:DA)(ρ:En)(n:Nat):dTup a ρ n=kTup (a ρ n):=by unfold dTup;cases a ρ n<;>rfl
theorem k_tup(ts:List T)(n:Nat):kTup (some (ts,n))=if ts.length<=big then some (.tup ts,.fz,n) else none:=rfl
def kPut1(n:Nat):Option En->Option (Fl × En × Nat)
 |some ρ=>some (.nx,ρ,n)
 |none=>none
def kPut(put:T->En->Option En)(ρ:En):Option (T × Md × Nat)->Option (Fl × En × Nat)
 |some (t,_,n)=>kPut1 n (put t ρ)
 |none=>none
theorem a_put(put:T->En->Option En)(d:DE)(ρ:En)(n:Nat):dPut put d ρ n=kPut put ρ (dFz d ρ n):=by
 unfold dPut;cases dFz d ρ n with
 |none=>rfl
 |some x=>obtain⟨t,m,n1⟩:=x;show (put t ρ).map _=kPut1 n1 (put t ρ);cases put t ρ<;>rfl
theorem k_put(put:T->En->Option En)(ρ:En)(t:T)(m:Md)(n:Nat):kPut put ρ (some (t,m,n))=kPut1 n (put t ρ):=rfl
theorem k_put1(n:Nat)(ρ:En):kPut1 n (some ρ)=some (.nx,ρ,n):=rfl
def kAndV(b:DE)(ρ:En):Option (T × Md × Nat)->Option (T × Md × Nat)
 |some (.bl true,_,n)=>b ρ n
 |some (.bl false,_,n)=>some (.bl false,.fz,n)
 |_=>none
theorem a_andV(a b:DE)(ρ:En)(n:Nat):dAndV a b ρ n=kAndV b ρ (a ρ n):=by
 unfold dAndV;cases a ρ n with
 |none=>rfl
 | some x =>
  obtain⟨t,m,n1⟩:=x;cases t with
  |bl c=>cases c<;>rfl
  |_=>rfl
theorem k_andV1(b:DE)(ρ:En)(m:Md)(n:Nat):kAndV b ρ (some (.bl true,m,n))=b ρ n:=rfl
theorem k_andV2(b:DE)(ρ:En)(m:Md)(n:Nat):kAndV b ρ (some (.bl false,m,n))=some (.bl false,.fz,n):=rfl
theorem q_ty1(i:Int):isTy .int (.int i)=some true:=rfl
theorem q_ty2(i:Int):isTy .bool (.int i)=some false:=rfl
theorem q_ty3(a:List T):isTy .tuple (.tup a)=some true:=rfl
theorem aYy(a:List T):isTy .list (.lst a)=some true:=rfl
theorem q_ty5(a:PySem.Str):isTy .str (.str a)=some true:=rfl
theorem aCx(n:Nat)(a b:Int):pAdd n [.int a,.int b]=some (.int (a+b),.fz):=rfl
theorem aF0(n:Nat)(a b:List T):pAdd n [.tup a,.tup b]=if a.length+b.length<=big then some (.tup (a++b),.fz) else none:=rfl
theorem aPj(n:Nat)(a b:List T):pAdd n [.lst a,.lst b]=if a.length+b.length<=big then some (.lst (a++b),.own) else none:=rfl
theorem aLz(n:Nat)(a:List T)(i:Int):pGet n [.lst a,.int i]=(at? a i).map fun t=>(t,.fz):=rfl
theorem aQv(n:Nat)(a:List T)(i:Int):pGet n [.tup a,.int i]=(at? a i).map fun t=>(t,.fz):=rfl
theorem aX5(n:Nat)(a:List (Ky × T))(k:T):pGet n [.dic a,k]=(keyOf k).bind fun k=>(aDc a k).map fun t=>(t,.fz):=rfl
theorem aJi(n:Nat)(a:List T):pLen n [.lst a]=some (.int a.length,.fz):=rfl
theorem aD7(n:Nat)(a:List T):pLen n [.tup a]=some (.int a.length,.fz):=rfl
theorem aQ8(n:Nat):pLen n [.town]=some (.int n,.fz):=rfl
theorem aPi(n:Nat)(a:List (Ky × T)):pLen n [.dic a]=some (.int a.length,.fz):=rfl
theorem q_mul1(n:Nat)(a b:Int):pMul n [.int a,.int b]=if small a||small b then some (.int (a*b),.fz) else none:=rfl
theorem q_tup1(n:Nat)(a:List T):aDg n [.lst a]=some (.tup a,.fz):=rfl
theorem q_list1(n:Nat)(a:List T):aTj n [.tup a]=some (.lst a,.own):=rfl
theorem bBn(a b:List T):extT (.lst a) (.lst b)=if a.length+b.length<=big then some (.lst (a++b)) else none:=rfl
theorem q_eq1(n:Nat)(a b:Int):pEq n [.int a,.int b]=some (.bl (a==b),.fz):=rfl
theorem aZ1(n:Nat)(a b:T):pEq n [a,b]=(eqP a b).map fun r=>(.bl r,.fz):=rfl
theorem bAc(n:Nat)(a b:T):pNe n [a,b]=(eqP a b).map fun r=>(.bl (!r),.fz):=rfl
theorem q_dget(n:Nat)(a:List (Ky × T))(k x:T):aC4 n [.dic a,k,x]=if aDr x then none else (keyOf k).map fun k=>((aDc a k).getD x,.fz):=rfl
theorem aYi(a:List (Ky × T))(k v:T):setL (.dic a) k v=(keyOf k).bind fun k=>if a.length<big then some (.dic (aCc a k v)) else none:=rfl
theorem q_min2(n:Nat)(a b:Int):pMin n [.int a,.int b]=some (.int (if b<a then b else a),.fz):=rfl
theorem q_all(n:Nat)(a:List T):pAll n [.lst a]=(boolsOf a).map fun bs=>(.bl (bs.all id),.fz):=rfl
theorem q_two(i j:Nat)(a b:T)(ρ:En):aD6 i j (.tup [a,b]) ρ=some ((ρ.set i (some (a,.fz))).set j (some (b,.fz))):=rfl
theorem q_tru1(b:Bool):tru (.bl b)=some b:=rfl
theorem q_tru2(i:Int):tru (.int i)=some (i != 0):=rfl
theorem q_tru3(a:List T):tru (.lst a)=some (!a.isEmpty):=rfl
theorem q_tru4(a:List T):tru (.tup a)=some (!a.isEmpty):=rfl
theorem q_tru5(a:List (Ky × T)):tru (.dic a)=some (!a.isEmpty):=rfl
theorem q_tru6:tru .non=some false:=rfl
def kRv(ρ:En)(n:Nat):Option (Option (T × Md))->Option (Fl × En × Nat)
 |some (some (t,.own))=>some (.rt t true,ρ,n)
 |some (some (t,.fz))=>some (.rt t false,ρ,n)
 |some (some (t,.bor))=>if aDr t then none else some (.rt t false,ρ,n)
 |_=>none
theorem a_rv(i:Nat)(ρ:En)(n:Nat):aC2 i ρ n=kRv ρ n ρ[i]?:=by unfold aC2 kRv;rfl
theorem k_rv1(ρ:En)(n:Nat)(t:T):kRv ρ n (some (some (t,.own)))=some (.rt t true,ρ,n):=rfl
theorem k_rv2(ρ:En)(n:Nat)(t:T):kRv ρ n (some (some (t,.fz)))=some (.rt t false,ρ,n):=rfl
end L2.Ds
local macro_rules | `(tactic| simp! [$l,*]) => `(tactic| simp [L2.Ds.fnD, L2.Ds.aI0, L2.Ds.aE0, L2.Ds.k_seq2, L2.Ds.a_ifS, L2.Ds.a_if, L2.Ds.k_if1, L2.Ds.k_if2, L2.Ds.a_set, L2.Ds.k_set1, L2.Ds.k_set2, L2.Ds.a_ret, L2.Ds.k_ret1, L2.Ds.k_ret2, L2.Ds.a_var, L2.Ds.k_var, L2.Ds.a_pr, L2.Ds.k_pr, L2.Ds.k_pr1, L2.Ds.a_cons, L2.Ds.k_cons, L2.Ds.k_cons1, L2.Ds.a_b, L2.Ds.k_b, L2.Ds.k_b1, L2.Ds.a_fz, L2.Ds.k_fz, L2.Ds.k_fz1, L2.Ds.a_tru, L2.Ds.k_tru, L2.Ds.k_tru1, L2.Ds.a_not, L2.Ds.k_not, L2.Ds.a_and, L2.Ds.a_or, L2.Ds.a_call, L2.Ds.k_call0, L2.Ds.k_res, L2.Ds.a_k, L2.Ds.a_nil, L2.Ds.a_bnil, L2.Ds.a_skip, L2.Ds.a_tup, L2.Ds.k_tup, L2.Ds.a_put, L2.Ds.k_put, L2.Ds.k_put1, L2.Ds.a_andV, L2.Ds.k_andV1, L2.Ds.k_andV2, L2.Ds.frz, L2.Ds.look, L2.Ds.aDr, L2.Ds.flag, L2.Ds.md, L2.Ds.q_tru1, L2.Ds.q_tru2, L2.Ds.q_tru3, L2.Ds.q_tru4, L2.Ds.q_tru5, L2.Ds.q_tru6, L2.Ds.a_rv, L2.Ds.k_rv1, L2.Ds.k_rv2, L2.Ds.aHb, L2.Ds.bB3, $l,*])
namespace Dd
open PySem L2 L2.Ds
def aKb:DS:=(dSeq (dIfS (dOr (dNot (dTru (dPr (pIsI .int) (aAa (dVar 0) dNil)))) (dTru (dPr (pIsI .bool) (aAa (dVar 0) dNil)))) (dRet (dK (.bl false))) aCh) (dRet (aHf pLe pLe (dVar 1) (dVar 0) (dVar 2))))
def aB5:Fn:=fnD 3 (aKb)
def aQa:DE:=aBl (dIt (dVar 0)) (srcOf [none,some 0]) (putAt 0) yes (dCall 3 aB5 (aAe (dVar 0) (aAe (dK (.int 0)) (aAe (dK (.int 30)) bNil))))
def aUw:DS:=(dSeq (dIfS (dOr (dNot (dTru (dPr (pIsI .tuple) (aAa (dVar 0) dNil)))) (dNot (dTru (aHf pLe pLe (dK (.int 1)) (dPr pLen (aAa (dVar 0) dNil)) (dK (.int 8)))))) (dRet (dK (.bl false))) aCh) (dSeq (aBp 0 (dIfS (dNot (dTru (dPr pAll (aAa aQa dNil)))) (dRet (dK (.bl false))) aCh)) (dRet (dPr pEq (aAa (dPr aTj (aAa (dVar 0) dNil)) (aAa (dPr aJ5 (aAa (dVar 0) dNil)) dNil))))))
def aGw:Fn:=fnD 1 (aUw)
def aLq:DE:=aBl (dIt (dVar 0)) (srcOf [none,some 0]) (putAt 0) yes (dCall 1 aGw (aAe (dVar 0) bNil))
def aQg:DS:=(dSeq (dIfS (dOr (dNot (dTru (dPr (pIsI .tuple) (aAa (dVar 0) dNil)))) (dNot (dTru (aHf pLe pLe (dK (.int 1)) (dPr pLen (aAa (dVar 0) dNil)) (dK (.int 4)))))) (dRet (dK (.bl false))) aCh) (aBp 0 (dRet (dPr pAll (aAa aLq dNil)))))
def aHa:Fn:=fnD 1 (aQg)
def aFy:DS:=(dSeq (dIfS (dOr (dNot (dTru (dPr (pIsI .tuple) (aAa (dVar 0) dNil)))) (dTru (dPr pNe (aAa (dPr pLen (aAa (dVar 0) dNil)) (aAa (dK (.int 2)) dNil))))) (dRet (dK (.bl false))) aCh) (dRet (dAndV (dCall 3 aB5 (aAe (dPr pGet (aAa (dVar 0) (aAa (dK (.int 0)) dNil))) (aAe (dK (.int 0)) (aAe (dK (.int 120)) bNil)))) (dCall 3 aB5 (aAe (dPr pGet (aAa (dVar 0) (aAa (dK (.int 1)) dNil))) (aAe (dK (.int 1)) (aAe (dK (.int 4096)) bNil)))))))
def aCr:Fn:=fnD 1 (aFy)
def aE5:DE:=aBl (dIt (dVar 0)) (srcOf [none,some 0,some 1]) (putAt 0) yes (dCall 1 aCr (aAe (dVar 0) bNil))
def aE6:DE:=aBl (dIt (dVar 0)) (srcOf [none,some 0,some 1]) (putAt 0) yes (dPr pGet (aAa (dVar 0) (aAa (dK (.int 0)) dNil)))
def aJ9:DS:=(dSeq (dIfS (dOr (dNot (dTru (dPr (pIsI .list) (aAa (dVar 0) dNil)))) (dNot (dTru (dVar 0)))) (dRet (dK (.bl false))) aCh) (dSeq (aBp 0 (dIfS (dNot (dTru (dPr pAll (aAa aE5 dNil)))) (dRet (dK (.bl false))) aCh)) (dSeq (aBp 0 (dSet 1 aE6)) (dRet (dPr pEq (aAa (dVar 1) (aAa (dPr aJm (aAa (dVar 1) dNil)) dNil)))))))
def aEs:Fn:=fnD 2 (aJ9)
def aGv:DS:=(dIfS (dNot (dTru (dCall 3 aB5 (aAe (dVar 0) (aAe (dVar 1) (aAe (dVar 2) bNil)))))) aIn aCh)
def aB1:Fn:=fnD 3 (aGv)
def aLj:DS:=(dIfS (dNot (dTru (dCall 1 aGw (aAe (dVar 0) bNil)))) aIn aCh)
def aEf:Fn:=fnD 1 (aLj)
def aKg:DS:=(dIfS (dNot (dTru (dCall 1 aHa (aAe (dVar 0) bNil)))) aIn aCh)
def aCo:Fn:=fnD 1 (aKg)
def aG5:DS:=(dIfS (dNot (dTru (dCall 1 aEs (aAe (dVar 0) bNil)))) aIn aCh)
def aDa:Fn:=fnD 1 (aG5)
def aHv:DS:=ZD
def aHw:DS:=dFor (dItS (dVar 2)) (putAt 5) aHv
def aH9:DS:=(dFrz 2 aHw)
def aHt:DS:=dFor (dItS (dVar 1)) (putAt 4) aH9
def aDf:DS:=(dSeq (dSet 3 aHp) (dSeq (dFrz 1 aHt) (aC3 1 3)))
def aH6:DS:=dFor (dItS (dVar 0)) (putAt 2) aDf
def aK8:DS:=(dSeq (dSet 1 (dDic1 (dK (.int 0)) (dFz (dK (.int 1))))) (dSeq (dFrz 0 aH6) (aC2 1)))
def aBh:Fn:=fnD 6 (aK8)
def aHo:DS:=(dSet 1 (dPr pMul (aAa (dVar 1) (aAa (dVar 2) dNil))))
def aHr:DS:=dFor (dItS (dVar 0)) (putAt 2) aHo
def aPr:DS:=(dSeq (dSet 1 (dK (.int 1))) (dSeq (dFrz 0 aHr) (aC2 1)))
def aFk:Fn:=fnD 3 (aPr)
def aWd:DE:=aBl (dIt (dVar 2)) (srcOf [none,some 0,some 1,some 2,some 3,some 4]) (putAt 0) yes (dPr pAdd (aAa (dVar 5) (aAa (dTup (aAa (dFz (dVar 0)) dNil)) dNil)))
def aV0:DS:=(aBp 2 (dChg 3 extT aWd))
def aUj:DS:=dFor (dItS (dVar 1)) (putAt 4) aV0
def aVz:DS:=(dSeq (dSet 3 (dLst dNil)) (dSeq (dFrz 1 aUj) (aC3 1 3)))
def aNu:DS:=dFor (dItS (dVar 0)) (putAt 2) aVz
def aZe:DS:=(dSeq (aHb (dCall 1 aCo (aAe (dVar 0) bNil))) (dSeq (dSet 1 (dLst (aAa (dFz (dTup dNil)) dNil))) (dSeq (dFrz 0 aNu) (dRet (dPr aH8 (aAa (dVar 1) dNil))))))
def aZd:Fn:=fnD 5 (aZe)
def aPy:DE:=aBl (dIt (dVar 4)) (srcOf [none,some 0,some 1,some 2,some 3,some 4]) (putAt 0) (dTru (dPr pNe (aAa (dPr aC4 (aAa (dVar 3) (aAa (dVar 0) (aAa (dK (.int 0)) dNil)))) (aAa (dPr aC4 (aAa (dVar 4) (aAa (dVar 0) (aAa (dK (.int 0)) dNil)))) dNil)))) (dVar 0)
def aWe:DS:=(dSeq (aHb (dCall 1 aCo (aAe (dVar 0) bNil))) (dSeq (aHb (dCall 1 aCo (aAe (dVar 1) bNil))) (dSeq (dSet 2 (dCall 1 aBh (aAe (dVar 0) bNil))) (dSeq (dSet 3 (dCall 1 aBh (aAe (dVar 1) bNil))) (dSeq (dSet 4 (dPr pAdd (aAa (dPr aTj (aAa (dVar 2) dNil)) (aAa (dPr aTj (aAa (dVar 3) dNil)) dNil)))) (aBp 4 (dRet (dPr pMinE (aAa aPy dNil)))))))))
def aEw:Fn:=fnD 5 (aWe)
def bB6:DS:=(dRet (dPr pIsN (aAa (dCall 2 aEw (aAe (dVar 0) (aAe (dVar 1) bNil))) dNil)))
def aKz:Fn:=fnD 2 (bB6)
def aQe:DE:=aBl (dIt (dVar 0)) (srcOf [none,some 0,some 1]) (putAt 0) yes (dPr pAdd (aAa (dVar 0) (aAa (dVar 2) dNil)))
def aVw:DS:=(aBp 0 (dRet (dPr aDg (aAa aQe dNil))))
def aGo:Fn:=fnD 2 (aVw)
def aUm:DE:=aBl (aZ6 (dVar 0)) (srcOf [none,none,some 0,some 1]) (aD6 0 1) yes (dCall 2 aGo (aAe (dVar 1) (aAe (dPr pGet (aAa (dVar 3) (aAa (dVar 0) dNil))) bNil)))
def bAo:DS:=(dRet (dPr aDg (aAa aUm dNil)))
def aNe:Fn:=fnD 2 (bAo)
def aFm:DE:=aBl (dIt (dVar 1)) (srcOf [none,some 0,some 1,some 2,some 3]) (putAt 0) yes (dCall 2 aNe (aAe (dVar 4) (aAe (dVar 0) bNil)))
def aDt:DS:=(aBp 1 (dChg 2 extT aFm))
def aCz:DS:=dFor (dItS (dVar 0)) (putAt 3) aDt
def aJx:DS:=(dSeq (dSet 2 (dLst dNil)) (dSeq (dFrz 0 aCz) (dRet (dPr aZ7 (aAa (dVar 2) dNil)))))
def aEx:Fn:=fnD 4 (aJx)
def aEk:DS:=(dSeq (aCj 2 setL (dVar 3) (dPr pSub (aAa (dPr aC4 (aAa (dVar 2) (aAa (dVar 3) (aAa (dK (.int 0)) dNil)))) (aAa (dPr pGet (aAa (dVar 1) (aAa (dVar 3) dNil))) dNil)))) (dIfS (dTru (dPr pLt (aAa (dPr pGet (aAa (dVar 2) (aAa (dVar 3) dNil))) (aAa (dK (.int 0)) dNil)))) (dRet (dK .non)) aCh))
def aF7:DS:=dFor (dItS (dVar 1)) (putAt 3) aEk
def aTw:DE:=aBl (dIt (dVar 2)) (srcOf [some 0,some 1,some 2,none]) (putAt 3) (dTru (dPr pGt (aAa (dPr pGet (aAa (dVar 2) (aAa (dVar 3) dNil))) (aAa (dK (.int 0)) dNil)))) (dTup (aAa (dFz (dVar 3)) (aAa (dFz (dPr pGet (aAa (dVar 2) (aAa (dVar 3) dNil)))) dNil)))
def aYt:DS:=(dSeq (dSet 2 (dPr aMy (aAa (dVar 0) dNil))) (dSeq (dFrz 1 aF7) (aBp 2 (dRet (dPr aMy (aAa aTw dNil))))))
def aFx:Fn:=fnD 4 (aYt)
def aK0:DS:=(dRet (dPr pAdd (aAa (dPr pAdd (aAa (dSl2 (dVar 0) aF9 (aGn (dVar 1))) (aAa (dTup (aAa (dFz (dPr pAdd (aAa (dPr pGet (aAa (dVar 0) (aAa (dVar 1) dNil))) (aAa (dTup (aAa (dFz (dVar 2)) dNil)) dNil)))) dNil)) dNil))) (aAa (dSl2 (dVar 0) (aGn (dPr pAdd (aAa (dVar 1) (aAa (dK (.int 1)) dNil)))) aF9) dNil))))
def aEp:Fn:=fnD 3 (aK0)
def aNa:DE:=aBl (aH0 (aAa (dPr pLen (aAa (dVar 2) dNil)) dNil)) (srcOf [none,some 0,some 1,some 2,some 3,some 4]) (putAt 0) (dTru (dPr pLt (aAa (dPr pLen (aAa (dPr pGet (aAa (dVar 3) (aAa (dVar 0) dNil))) dNil)) (aAa (dPr pGet (aAa (dVar 2) (aAa (dVar 0) dNil))) dNil)))) (dCall 3 aEp (aAe (dVar 3) (aAe (dVar 0) (aAe (dVar 5) bNil))))
def aMu:DS:=(dSeq (dSet 3 (dCall 2 aFx (aAe (dVar 0) (aAe (dCall 1 aBh (aAe (dVar 2) bNil)) bNil)))) (dSeq (dIfS (dNot (dTru (dVar 3))) (dRet (dLst dNil)) aCh) (dSeq (dSet 4 (dPr pMin (aAa (dVar 3) dNil))) (dRet aNa))))
def aGj:Fn:=fnD 5 (aMu)
def aDk:DE:=aBl (dIt (dVar 0)) (srcOf [none,some 0,some 1,some 2,some 3,some 4,some 5,some 6,some 7]) (putAt 0) yes (dTup (aAa (dFz (dPr pSub (aAa (dPr pGet (aAa (dVar 0) (aAa (dK (.int 0)) dNil))) (aAa (dPr pGet (aAa (dPr pGet (aAa (dVar 1) (aAa (dK (.int 0)) dNil))) (aAa (dK (.int 0)) dNil))) dNil)))) (aAa (dFz (dPr pGet (aAa (dVar 0) (aAa (dK (.int 1)) dNil)))) dNil)))
def aDq:DS:=(aCj 5 setR (dVar 7) (dK (.bl true)))
def aJp:DS:=dFor (dItS (dCall 3 aGj (aAe (dVar 2) (aAe (dVar 1) (aAe (dVar 6) bNil))))) (putAt 7) aDq
def aEy:DS:=aJp
def aB8:DS:=dFor (dItS (dVar 3)) (putAt 6) aEy
def aEu:DS:=(dSeq (dSet 5 aV8) (dSeq (dFrz 3 aB8) (dSet 3 (dPr aWb (aAa (dVar 5) dNil)))))
def aEv:DS:=dFor (aH0 (aAa (dPr pSub (aAa (dPr aMk (aAa (dVar 1) dNil)) (aAa (dPr pLen (aAa (dVar 1) dNil)) dNil))) dNil)) (putAt 4) aEu
def aGi:DE:=aBl (dIt (dVar 3)) (srcOf [some 0,some 1,some 2,some 3,some 4,some 5,none,some 7]) (putAt 6) (dTru (dPr pEqE (aAa (dCall 2 aFx (aAe (dVar 2) (aAe (dCall 1 aBh (aAe (dVar 6) bNil)) bNil))) (aAa aHp dNil)))) (dVar 6)
def aIb:DS:=(dSeq (aBp 0 (dSet 2 (dPr aMy (aAa aDk dNil)))) (dSeq (dIfS (dTru (dPr pNe (aAa (dPr aNs (aAa (dVar 2) dNil)) (aAa (dCall 1 aFk (aAe (dVar 1) bNil)) dNil)))) (dRet (dLst dNil)) aCh) (dSeq (dSet 3 (dLst (aAa (dFz (dPr pMul (aAa (dTup (aAa (dFz (dTup (aAa (dFz (dK (.int 0))) dNil))) dNil)) (aAa (dPr pLen (aAa (dVar 1) dNil)) dNil)))) dNil))) (dSeq aEv (aBp 3 (dRet aGi))))))
def aFu:Fn:=fnD 8 (aIb)
def aIg:Fn:=fnD 5 aIn
def aNf:DE:=aBl (dIt (dCall 3 aIg (aAe (dPr pSub (aAa (dVar 0) (aAa (dVar 4) dNil))) (aAe (dPr pSub (aAa (dVar 1) (aAa (dK (.int 1)) dNil))) (aAe (dVar 2) bNil))))) (srcOf [none,some 0,some 1,some 2,some 3,some 4]) (putAt 0) yes (dPr pAdd (aAa (dTup (aAa (dFz (dVar 5)) dNil)) (aAa (dVar 0) dNil)))
def aNn:DS:=(dChg 3 extT aNf)
def aMx:DS:=dFor (aWr (aAa (dVar 2) (aAa (dPr pAdd (aAa (dPr pSub (aAa (dVar 0) (aAa (dVar 2) dNil))) (aAa (dK (.int 1)) dNil))) dNil))) (putAt 4) aNn
def aPn:DS:=(dSeq (dIfS (dTru (dPr pEq (aAa (dVar 1) (aAa (dK (.int 1)) dNil)))) (dRet (dIf (dTru (dPr pGe (aAa (dVar 0) (aAa (dVar 2) dNil)))) (dLst (aAa (dFz (dTup (aAa (dFz (dVar 0)) dNil))) dNil)) (dLst dNil))) aCh) (dSeq (dSet 3 (dLst dNil)) (dSeq aMx (aC2 3))))
def aIp:Fn:=fnD 5 (aPn)
def aM7:DE:=aBl (dIt (dCall 3 aIp (aAe (dPr pSub (aAa (dVar 0) (aAa (dVar 4) dNil))) (aAe (dPr pSub (aAa (dVar 1) (aAa (dK (.int 1)) dNil))) (aAe (dVar 2) bNil))))) (srcOf [none,some 0,some 1,some 2,some 3,some 4]) (putAt 0) yes (dPr pAdd (aAa (dTup (aAa (dFz (dVar 5)) dNil)) (aAa (dVar 0) dNil)))
def aMf:DS:=(dChg 3 extT aM7)
def aNj:DS:=dFor (aWr (aAa (dVar 2) (aAa (dPr pAdd (aAa (dPr pSub (aAa (dVar 0) (aAa (dVar 2) dNil))) (aAa (dK (.int 1)) dNil))) dNil))) (putAt 4) aMf
def aE2:DS:=(dSeq (dIfS (dTru (dPr pEq (aAa (dVar 1) (aAa (dK (.int 1)) dNil)))) (dRet (dIf (dTru (dPr pGe (aAa (dVar 0) (aAa (dVar 2) dNil)))) (dLst (aAa (dFz (dTup (aAa (dFz (dVar 0)) dNil))) dNil)) (dLst dNil))) aCh) (dSeq (dSet 3 (dLst dNil)) (dSeq aNj (aC2 3))))
def aCy:Fn:=fnD 5 (aE2)
def aHn:DE:=aBl (dIt (dCall 3 aCy (aAe (dPr pSub (aAa (dVar 0) (aAa (dVar 4) dNil))) (aAe (dPr pSub (aAa (dVar 1) (aAa (dK (.int 1)) dNil))) (aAe (dVar 2) bNil))))) (srcOf [none,some 0,some 1,some 2,some 3,some 4]) (putAt 0) yes (dPr pAdd (aAa (dTup (aAa (dFz (dVar 5)) dNil)) (aAa (dVar 0) dNil)))
def aDb:DS:=(dChg 3 extT aHn)
def aC8:DS:=dFor (aWr (aAa (dVar 2) (aAa (dPr pAdd (aAa (dPr pSub (aAa (dVar 0) (aAa (dVar 2) dNil))) (aAa (dK (.int 1)) dNil))) dNil))) (putAt 4) aDb
def aIv:DS:=(dSeq (dIfS (dTru (dPr pEq (aAa (dVar 1) (aAa (dK (.int 1)) dNil)))) (dRet (dIf (dTru (dPr pGe (aAa (dVar 0) (aAa (dVar 2) dNil)))) (dLst (aAa (dFz (dTup (aAa (dFz (dVar 0)) dNil))) dNil)) (dLst dNil))) aCh) (dSeq (dSet 3 (dLst dNil)) (dSeq aC8 (aC2 3))))
def aDy:Fn:=fnD 5 (aIv)
def aHl:DS:=(dSeq (dIfS (dTru (dPr pLt (aAa (dVar 1) (aAa (dPr pLen (aAa (dVar 0) dNil)) dNil)))) (dRet (dPr pGet (aAa (dVar 0) (aAa (dVar 1) dNil)))) aCh) (dSeq (dIfS (dTru (dPr pEq (aAa (dVar 0) (aAa (dLst dNil) dNil)))) (dRet (dK (.int 0))) aCh) (dRet (dPr pAdd (aAa (dPr pMul (aAa (dPr pGet (aAa (dVar 0) (aAa (dPr pMod (aAa (dVar 1) (aAa (dPr pLen (aAa (dVar 0) dNil)) dNil))) dNil))) (aAa (dK (.int 31)) dNil))) (aAa (dVar 1) dNil))))))
def aDe:Fn:=fnD 2 (aHl)
def aGr:DS:=(dSeq (dSet 3 (dPr pMod (aAa (dPr pMul (aAa (dPr pAdd (aAa (dPr pAdd (aAa (dCall 2 aDe (aAe (dVar 0) (aAe (dVar 1) bNil))) (aAa (dPr pMul (aAa (dK (.int 7919)) (aAa (dVar 1) dNil))) dNil))) (aAa (dK (.int 1)) dNil))) (aAa (dK (.int 48271)) dNil))) (aAa (dK (.int 2147483647)) dNil)))) (dRet (dPr pMod (aAa (dPr pMod (aAa (dPr pAdd (aAa (dPr pAdd (aAa (dPr pMul (aAa (dVar 3) (aAa (dVar 3) dNil))) (aAa (dPr pMul (aAa (dK (.int 7)) (aAa (dVar 3) dNil))) dNil))) (aAa (dVar 1) dNil))) (aAa (dK (.int 2147483629)) dNil))) (aAa (dVar 2) dNil)))))
def aC7:Fn:=fnD 4 (aGr)
def aIm:DS:=(dSeq (bB3 1) (dRet (dCall 3 aC7 (aAe (dVar 0) (aAe (dPr pLen (aAa (dVar 1) dNil)) (aAe (dVar 2) bNil))))))
def aAx:Fn:=fnD 3 (aIm)
def aIw:DS:=(dRet (dPr pGet (aAa (dVar 2) (aAa (dCall 3 aAx (aAe (dVar 0) (aAe (dVar 1) (aAe (dPr pLen (aAa (dVar 2) dNil)) bNil)))) dNil))))
def aCa:Fn:=fnD 3 (aIw)
def aIj:DE:=aBl (aH0 (aAa (dVar 2) dNil)) (srcOf [none,some 0,some 1,some 2,some 3,some 4,some 5,some 6]) (putAt 0) yes (dPr pMin (aAa (dVar 4) (aAa (dPr pAdd (aAa (dVar 5) (aAa (dCall 3 aAx (aAe (dVar 1) (aAe (dVar 2) (aAe (dVar 6) bNil)))) dNil))) dNil)))
def aJ3:DS:=(dSeq (dSet 4 (dCall 3 aCa (aAe (dVar 0) (aAe (dVar 1) (aAe (dLst (aAa (dFz (dK (.int 0))) (aAa (dFz (dK (.int 0))) (aAa (dFz (dK (.int 1))) (aAa (dFz (dK (.int 1))) (aAa (dFz (dCall 3 aAx (aAe (dVar 0) (aAe (dVar 1) (aAe (dK (.int 20)) bNil))))) dNil)))))) bNil))))) (dSeq (dSet 5 (dCall 3 aCa (aAe (dVar 0) (aAe (dVar 1) (aAe (dLst (aAa (dFz (dK (.int 1))) (aAa (dFz (dK (.int 3))) (aAa (dFz (dK (.int 6))) (aAa (dFz (dK (.int 12))) dNil))))) bNil))))) (dSeq (dSet 6 aIj) (dRet (dPr aDg (aAa (dPr aJ5 (aAa (dVar 6) dNil)) dNil))))))
def aCl:Fn:=fnD 7 (aJ3)
def aG3:DE:=aBl (aH0 (aAa (dVar 2) dNil)) (srcOf [none,some 0,some 1,some 2,some 3]) (putAt 0) yes (dCall 4 aCl (aAe (dVar 1) (aAe (dVar 2) (aAe (dPr pAdd (aAa (dK (.int 1)) (aAa (dCall 3 aAx (aAe (dVar 1) (aAe (dVar 2) (aAe (dVar 4) bNil)))) dNil))) (aAe (dK (.int 30)) bNil)))))
def aIu:DS:=(dRet (dPr aDg (aAa aG3 dNil)))
def aBq:Fn:=fnD 4 (aIu)
def aIx:DE:=aBl (dIt (dVar 2)) (srcOf [none,some 0,some 1,some 2,some 3,some 4]) (putAt 0) yes (dPr pAdd (aAa (dVar 5) (aAa (dTup (aAa (dFz (dVar 0)) dNil)) dNil)))
def aIi:DS:=(aBp 2 (dChg 3 extT aIx))
def aIf:DS:=dFor (dItS (dVar 1)) (putAt 4) aIi
def aIh:DS:=(dSeq (dSet 3 (dLst dNil)) (dSeq (dFrz 1 aIf) (aC3 1 3)))
def aFb:DS:=dFor (dItS (dVar 0)) (putAt 2) aIh
def aJo:DS:=(dSeq (dSet 1 (dLst (aAa (dFz (dTup dNil)) dNil))) (dSeq (dFrz 0 aFb) (aC2 1)))
def aDo:Fn:=fnD 5 (aJo)
def aCe:DS:=(aCj 1 setL (dPr aMk (aAa (dVar 2) dNil)) (dPr pAdd (aAa (dPr aC4 (aAa (dVar 1) (aAa (dPr aMk (aAa (dVar 2) dNil)) (aAa (dK (.int 0)) dNil)))) (aAa (dK (.int 1)) dNil))))
def aCf:DS:=dFor (dItS (dCall 1 aDo (aAe (dVar 0) bNil))) (putAt 2) aCe
def aFz:DS:=(dSeq (dSet 1 aHp) (dSeq aCf (dRet (dPr aF6 (aAa (dVar 1) dNil)))))
def aBt:Fn:=fnD 3 (aFz)
def aEn:DS:=(aHb (dCall 3 aB1 (aAe (dVar 4) (aAe (dK (.int 1)) (aAe (dK (.int 8)) bNil)))))
def aDd:DS:=dFor (dItS (dVar 1)) (putAt 4) aEn
def aIr:DS:=(dSeq (aHb (dCall 1 aDa (aAe (dVar 0) bNil))) (dSeq (dIfS (dOr (dNot (dTru (dPr (pIsI .tuple) (aAa (dVar 1) dNil)))) (dTru (dPr pNe (aAa (dPr pLen (aAa (dVar 1) dNil)) (aAa (dVar 2) dNil))))) aIn aCh) (dSeq (dFrz 1 aDd) (aHb (dCall 3 aB1 (aAe (dVar 3) (aAe (dK (.int 0)) (aAe (dK (.int 30)) bNil))))))))
def aDv:Fn:=fnD 5 (aIr)
def bAq:DE:=aBl (dIt (dVar 0)) (srcOf [none,some 0,some 1,some 2,some 3,some 4,some 5,some 6,some 7]) (putAt 0) yes (dTup (aAa (dFz (dPr pSub (aAa (dPr pGet (aAa (dVar 0) (aAa (dK (.int 0)) dNil))) (aAa (dPr pGet (aAa (dPr pGet (aAa (dVar 1) (aAa (dK (.int 0)) dNil))) (aAa (dK (.int 0)) dNil))) dNil)))) (aAa (dFz (dPr pGet (aAa (dVar 0) (aAa (dK (.int 1)) dNil)))) dNil)))
def aX8:DS:=(aCj 5 setR (dVar 7) (dK (.bl true)))
def bA8:DS:=dFor (dItS (dCall 3 aGj (aAe (dVar 2) (aAe (dVar 1) (aAe (dVar 6) bNil))))) (putAt 7) aX8
def bAr:DS:=bA8
def bBl:DS:=dFor (dItS (dVar 3)) (putAt 6) bAr
def bA6:DS:=(dSeq (dSet 5 aV8) (dSeq (dFrz 3 bBl) (dSet 3 (dPr aWb (aAa (dVar 5) dNil)))))
def aY8:DS:=dFor (aH0 (aAa (dPr pSub (aAa (dPr aMk (aAa (dVar 1) dNil)) (aAa (dPr pLen (aAa (dVar 1) dNil)) dNil))) dNil)) (putAt 4) bA6
def aYw:DE:=aBl (dIt (dVar 3)) (srcOf [some 0,some 1,some 2,some 3,some 4,some 5,none,some 7]) (putAt 6) (dTru (dPr pEqE (aAa (dCall 2 aFx (aAe (dVar 2) (aAe (dCall 1 aBh (aAe (dVar 6) bNil)) bNil))) (aAa aHp dNil)))) (dVar 6)
def b_shapes:DS:=(dSeq (aBp 0 (dSet 2 (dPr aMy (aAa bAq dNil)))) (dSeq (dIfS (dTru (dPr pNe (aAa (dPr aNs (aAa (dVar 2) dNil)) (aAa (dCall 1 aFk (aAe (dVar 1) bNil)) dNil)))) (dRet (dLst dNil)) aCh) (dSeq (dSet 3 (dLst (aAa (dFz (dPr pMul (aAa (dTup (aAa (dFz (dTup (aAa (dFz (dK (.int 0))) dNil))) dNil)) (aAa (dPr pLen (aAa (dVar 1) dNil)) dNil)))) dNil))) (dSeq aY8 (aBp 3 (dRet aYw))))))
def aM5:Fn:=fnD 8 (b_shapes)
def aX0:DS:=(dSeq (aHb (dCall 4 aDv (aAe (dVar 0) (aAe (dVar 1) (aAe (dK (.int 2)) (aAe (dVar 2) bNil)))))) (dRet (dCall 2 aEx (aAe (dCall 2 aM5 (aAe (dVar 0) (aAe (dVar 1) bNil))) (aAe (dCall 3 aDy (aAe (dPr pGet (aAa (dPr pGet (aAa (dVar 0) (aAa (dK (.int 0)) dNil))) (aAa (dK (.int 0)) dNil))) (aAe (dK (.int 2)) (aAe (dVar 2) bNil)))) bNil)))))
def aMs:Fn:=fnD 3 (aX0)
def aK6:DE:=aBl (dIt (dVar 4)) (srcOf [none,some 0,some 1,some 2,some 3,some 4]) (putAt 0) (dAnd (dTru (dPr pNe (aAa (dVar 0) (aAa (dTup (aAa (dFz (dVar 1)) (aAa (dFz (dVar 2)) dNil))) dNil)))) (dTru (dPr pNe (aAa (dVar 0) (aAa (dTup (aAa (dFz (dVar 2)) (aAa (dFz (dVar 1)) dNil))) dNil))))) (dVar 0)
def aUp:DS:=(dSeq (aHb (dCall 1 aEf (aAe (dVar 0) bNil))) (dSeq (aHb (dCall 1 aEf (aAe (dVar 1) bNil))) (dSeq (aHb (dCall 3 aB1 (aAe (dVar 2) (aAe (dK (.int 0)) (aAe (dK (.int 30)) bNil))))) (dSeq (dSet 3 (dPr aF6 (aAa (dCall 1 aBh (aAe (dTup (aAa (dFz (dVar 0)) (aAa (dFz (dVar 1)) dNil))) bNil)) dNil))) (dSeq (dSet 4 (dCall 3 aMs (aAe (dVar 3) (aAe (dTup (aAa (dFz (dPr pLen (aAa (dVar 0) dNil))) (aAa (dFz (dPr pLen (aAa (dVar 1) dNil))) dNil))) (aAe (dVar 2) bNil))))) (aBp 4 (dRet aK6)))))))
def aHg:Fn:=fnD 5 (aUp)
end Dd
namespace Dm
open PySem L2 L2.Ds Dd
theorem cell_at(ns:List Int)(k:Int)(hk:0<=k)(n:Nat):∃c,aDe [(.lst (ns.map .int),false),(.int k,true)] n=some (.int c,false,n):=by
 unfold aDe aHl;by_cases h:k<ns.length
 ·obtain⟨c,_,e⟩:=aX1 ns k hk h;refine⟨c,?_⟩;simp! [aHs,pLt,pI2,aJi,aD7,aQ8,aPi,aLz,aQv,aX5,h,e]
 ·cases hns:ns with
  | nil =>
   refine⟨0,?_⟩;subst hns;have:¬k<0:=by lia
   have he:pEq n [.lst [],.lst []]=some (.bl true,.fz):=rfl;simp! [aHs,pLt,pI2,aJi,he,dLst,this]
  | cons x xs =>
   rw[<-hns];have hl':0<ns.length:=by rw[hns];simp
   have hl:(0:Int)<ns.length:=by lia
   have m0:=iG k (b:=ns.length) ZA;have m1:=gf k hl;obtain⟨c,_,e⟩:=aX1 ns (k%ns.length) m0 m1;have hq:eqP (.lst (ns.map T.int)) (.lst [])=some false:=by have hp:=aEd 5 ns;show (if (aAo 6 (.lst (ns.map T.int))&&aAo 6 (.lst []))=true then some (eqT (.lst (ns.map T.int)) (.lst [])) else none)=_;rw[show aAo 6 (.lst (ns.map T.int))=true from hp];subst hns;rfl
   refine⟨c*31+k,?_⟩;simp! [aHs,pLt,pI2,aJi,aD7,aQ8,aPi,aLz,aQv,aX5,h,e,aZ1,hq,dLst,pMod,hl',q_mul1,aCx,aF0,aPj,small]
structure Die (most:Nat) (d:List Int):Prop where
 one:1<=d.length
 most:d.length<=most
 rng:∀x∈d,0<=x/\x<=30
 up:d.Pairwise (· <= ·)
structure Dice (most faces:Nat) (ds:List ZB):Prop where
 one:1<=ds.length
 most:ds.length<=most
 die:∀d∈ds,Die faces d
theorem aHk(i lo hi:Int)(n:Nat)(h1:lo<=i)(h2:i<=hi):aB5 [(.int i,true),(.int lo,true),(.int hi,true)] n=some (.bl true,false,n):=by unfold aB5 aKb;simp! [aHs,pIsI,q_ty1,q_ty2,q_ty3,aYy,q_ty5,aHf,pLe,pI2,h1,h2]
theorem is_die{F:Nat}(h:Die F d)(hF:F<=8)(n:Nat):aGw [(tupT d,true)] n=some (.bl true,false,n):=by
 have hB:big=1000000:=rfl;have l1:=h.one;have l2:=h.most;have e2:aQa [some (.tup (d.map .int),.fz)] n=some (.lst (d.map fun _=>T.bl true),.own,n) :=
  aCq d T.int (fun _=>.bl true) rfl ZA fun y hy=>by have hi:=h.rng y hy;simp! [aHs,srcOf,aHk y 0 30 n hi.1 hi.2]
 obtain⟨bs,b1,b2⟩:=aGm (fun _:Int=>T.bl true) d fun _ _=>rfl;simp at b2;have e3:sortI d=d:=(aI3 (.refl d) h.up).symm;unfold aGw aUw;have l3:(1:Int)<=d.length:=by lia
 have l4:(d.length:Int)<=8:=by lia
 have hs4:d.length<64:=by lia
 have e4:aJ5 n [.tup (d.map T.int)]=some (.lst (d.map .int),.own):=by simp[aJ5,aBk,e3,hs4]
 have e5:eqP (.lst (d.map T.int)) (.lst (d.map T.int))=some true:=aG4 (aEd 5 d);generalize d.map (fun _=>T.bl true)=ts at e2 b1;unfold tupT;simp! [aHs,aBp,pIsI,q_ty1,q_ty2,q_ty3,aYy,q_ty5,aHf,pLe,pI2,aJi,aD7,aQ8,aPi,l1,l3,l4,e2,e4,e5,q_list1,aZ1,q_all,b1,b2]
theorem is_dice{M F:Nat}(h:Dice M F ds)(hM:M<=4)(hF:F<=8)(n:Nat):aHa [(.tup (ds.map tupT),true)] n=some (.bl true,false,n):=by
 have hB:big=1000000:=rfl;have l1:=h.one;have l2:=h.most;have e2:aLq [some (.tup (ds.map tupT),.fz)] n=some (.lst (ds.map fun _=>T.bl true),.own,n) :=
  aCq ds tupT (fun _=>.bl true) rfl ZA fun d hd=>by simp! [aHs,srcOf,is_die (h.die d hd) hF n]
 obtain⟨bs,b1,b2⟩:=aGm (fun _:List Int=>T.bl true) ds fun _ _=>rfl;have l3:(1:Int)<=ds.length:=by lia
 have l4:(ds.length:Int)<=4:=by lia
 simp at b2;generalize ds.map (fun _=>T.bl true)=ts at e2 b1;unfold aHa aQg;simp! [aHs,pIsI,q_ty1,q_ty2,q_ty3,aYy,q_ty5,aHf,pLe,pI2,aJi,aD7,aQ8,aPi,l1,l3,l4,aBp,e2,q_all,b1,b2]
theorem aV4{F:Nat}(h:Die F d)(hF:F<=8)(n:Nat):aEf [(tupT d,true)] n=some (.non,false,n):=by unfold aEf aLj;simp! [aHs,is_die h hF n]
theorem aJ1{M F:Nat}(h:Dice M F ds)(hM:M<=4)(hF:F<=8)(n:Nat):aCo [(.tup (ds.map tupT),true)] n=some (.non,false,n):=by unfold aCo aKg;simp! [aHs,is_dice h hM hF n]
theorem aGk(i lo hi:Int)(n:Nat)(h1:lo<=i)(h2:i<=hi):aB1 [(.int i,true),(.int lo,true),(.int hi,true)] n=some (.non,false,n):=by unfold aB1 aGv;simp! [aHs,aHk i lo hi n h1 h2]
def more(rows:List ZB)(d:List Int):List ZB:=rows.flatMap fun r=>d.map fun f=>r ++ [f]
def aCi(ds:List ZB):List ZB:=ds.foldl more [[]]
theorem aI6(d:List Int):∀rows:List ZB,(more rows d).length=rows.length*d.length
 |[]=>by simp[more]
 |r::rows=>by have:=aI6 d rows;unfold more at this |-;rw[dQ,bf,this,a5,aa,fO,iu]
theorem aZy(r d:List Int)(x0 x1 x3:Option (T × Md))(n:Nat)(hr:r.length<=10)(hd:d.length<=8) :
  aBl (dIt (dVar 2)) (srcOf [none,some 0,some 1,some 2,some 3,some 4]) (putAt 0) yes (dPr pAdd (aAa (dVar 5) (aAa (dTup (aAa (dFz (dVar 0)) dNil)) dNil))) [x0,x1,some (tupT d,.fz),x3,some (tupT r,.fz)] n=some (.lst ((d.map fun f=>r ++ [f]).map tupT),.own,n):=by
 have hB:big=1000000:=rfl;have e1:aD3 (putAt 0) yes (dPr pAdd (aAa (dVar 5) (aAa (dTup (aAa (dFz (dVar 0)) dNil)) dNil))) (d.map T.int) [none,x0,x1,some (tupT d,.fz),x3,some (tupT r,.fz)] n []
   = some ([]++((d.map T.int).filter fun _=>true).map (fun t=>T.tup (r.map .int ++ [t])),n):=by
  refine aHq (R:=fun ρ=>∃a,ρ = [a,x0,x1,some (tupT d,.fz),x3,some (tupT r,.fz)]) (p:=fun _=>true) (f:=fun t=>T.tup (r.map .int ++ [t])) (d.map T.int) (fun x hx ρ n hR=>?_) _ n [] ⟨none,rfl⟩ (by simp;lia);obtain⟨a,rfl⟩:=hR;obtain⟨i,hi,rfl⟩:=b7.mp hx;refine⟨_,rfl,⟨_,rfl⟩,rfl,fun _=>?_⟩;have h1:r.length+1<=big:=by lia
  have h2:1<=big:=by lia
  simp! [aCx,aF0,aPj,tupT,dTup,h1,h2]
 have e2:((d.map T.int).filter fun _=>true).map (fun t=>T.tup (r.map .int ++ [t]))=(d.map fun f=>r ++ [f]).map tupT:=by rw[gU.mpr (fun _ _=>rfl),b6,b6];refine c8 fun f _=>?_;simp[tupT]
 rw[e2,dj] at e1;generalize (d.map fun f=>r ++ [f]).map tupT=out at e1 |-;have hs:srcOf [none,some 0,some 1,some 2,some 3,some 4] [x0,x1,some (tupT d,.fz),x3,some (tupT r,.fz)] = [none,x0,x1,some (tupT d,.fz),x3,some (tupT r,.fz)]:=rfl;unfold aBl;rw[show dIt (dVar 2) [x0,x1,some (tupT d,.fz),x3,some (tupT r,.fz)] n=some (d.map T.int,n) from rfl];simp only[aq];rw[hs,e1];rfl
theorem inner(d:List Int)(hd:d.length<=8)(x0 x1:Option (T × Md))(n:Nat):∀ (rows longer:List ZB) (c:Option (T × Md)),(∀r∈rows,r.length<=10)->longer.length+rows.length*d.length<=100000 ->
  ∃c',aA4 (putAt 4) (aBp 2 (dChg 3 extT ZI)) (rows.map tupT) [x0,x1,some (tupT d,.fz),some (.lst (longer.map tupT),.own),c] n
   = some (.nx,[x0,x1,some (tupT d,.fz),some (.lst ((longer++more rows d).map tupT),.own),c'],n)
 |[],longer,c,_,_=>⟨c,by simp[aA4,more]⟩
 | r::rows,longer,c,hr,hl=>by
  have hB:big=1000000:=rfl;rw[aa,fO] at hl;obtain⟨c',e⟩:=inner d hd x0 x1 n rows (longer++d.map fun f=>r ++ [f]) (some (tupT r,.fz)) (fun r' hr'=>hr r' (a6 _ hr')) (by simp;lia);refine⟨c',?_⟩;have e1:=aZy r d x0 x1 (some (.lst (longer.map tupT),.own)) n (hr r (a7 ..)) hd;have hz:longer.length+d.length<=big:=by lia
  rw[a8];unfold aA4;have e2:aBp 2 (dChg 3 extT ZI) [x0,x1,some (tupT d,.fz),some (.lst (longer.map tupT),.own),some (tupT r,.fz)] n
    = some (.nx,[x0,x1,some (tupT d,.fz),some (.lst ((longer++d.map fun f=>r ++ [f]).map tupT),.own),some (tupT r,.fz)],n):=by
   have:aBp 2 (dChg 3 extT ZI) [x0,x1,some (tupT d,.fz),some (.lst (longer.map tupT),.own),some (tupT r,.fz)] n=dChg 3 extT ZI [x0,x1,some (tupT d,.fz),some (.lst (longer.map tupT),.own),some (tupT r,.fz)] n:=rfl;rw[this,aNk (u:=.lst (longer.map tupT)) (t':=.lst ((longer++d.map fun f=>r ++ [f]).map tupT)) e1 rfl (by simp[bBn,hz])];rfl
  simp only[L2.Ds.putAt,bg,bh,aq,e2];rw[e];simp[more,be]
def facs(ds:List ZB):Nat:=ds.foldl (fun m d=>m*d.length) 1
theorem outer:∀ (ds:List ZB) (rows:List ZB) (x0 a b c:Option (T × Md)) (n k:Nat),(∀d∈ds,d.length<=8)->k+ds.length<=10->(∀r∈rows,r.length=k)->rows.length*(8^ds.length)<=100000 ->
  ∃a' b' c',aA4 (putAt 2) (dSeq (dSet 3 (dLst dNil)) (dSeq (dFrz 1 (dFor (dItS (dVar 1)) (putAt 4) (aBp 2 (dChg 3 extT ZI)))) (aC3 1 3))) (ds.map tupT) [x0,some (.lst (rows.map tupT),.own),a,b,c] n
   = some (.nx,[x0,some (.lst ((ds.foldl more rows).map tupT),.own),a',b',c'],n)/\(∀r∈ds.foldl more rows,r.length=k+ds.length)
 |[],rows,x0,a,b,c,n,k,_,_,h,_=>⟨a,b,c,by simp[aA4],fun r hr=>by simpa using h r hr⟩
 | d::ds,rows,x0,a,b,c,n,k,hd,hk,h,hz=>by
  have hB:big=1000000:=rfl;rw[aa] at hk hz;have hd0:=hd d (a7 ..);have hml:=aI6 d rows;have hpw:1<=8^ds.length:=io ZJ;have hz1:rows.length*d.length*8^ds.length<=100000:=by refine ao ?_ hz;rw[iy,gR (8^ds.length) 8,<-fG];exact dy _ (gW _ hd0)
  have hz2:rows.length*d.length<=100000:=ao (fQ _ hpw) hz1;have hmr:∀r∈more rows d,r.length=k+1:=fun r hr=>by unfold more at hr;obtain⟨r0,h0,h1⟩:=fj.mp hr;obtain⟨f,_,rfl⟩:=b7.mp h1;simp[h r0 h0]
  obtain⟨a',b',c',e,hr⟩:=outer ds (more rows d) x0 (some (tupT d,.fz)) none ((inner d hd0 x0 (some (.lst (rows.map tupT),.fz)) n rows [] c (fun r hr=>by have:=h r hr;lia) (by simp;lia)).choose) n (k+1) (fun d' hd'=>hd d' (a6 _ hd')) ZA hmr (by rw[hml];exact hz1);have e0:=(inner d hd0 x0 (some (.lst (rows.map tupT),.fz)) n rows [] c (fun r hr=>by have:=h r hr;lia) (by simp;lia)).choose_spec;refine⟨a',b',c',?_,fun r hr'=>by rw[hr r hr',aa];lia⟩;rw[a8];unfold aA4;generalize (inner d hd0 x0 (some (.lst (rows.map tupT),.fz)) n rows [] c (fun r hr=>by have:=h r hr;lia) (by simp;lia)).choose=cc at e e0;simp only[dj,eD] at e0;have e2:dSeq (dSet 3 (dLst dNil)) (dSeq (dFrz 1 (dFor (dItS (dVar 1)) (putAt 4) (aBp 2 (dChg 3 extT ZI)))) (aC3 1 3)) [x0,some (.lst (rows.map tupT),.own),some (tupT d,.fz),b,c] n
    = some (.nx,[x0,some (.lst ((more rows d).map tupT),.own),some (tupT d,.fz),none,cc],n):=by
   simp only[dSeq,dSet,dLst,dNil,aq,di,dm,if_true,bg,bh,dFrz,fP,eE,dFor,dItS,dVar,look,walked,d7,e0,aC3]
  simp only[L2.Ds.putAt,bg,bh,aq];rw[e2];exact e
theorem rolls{M F:Nat}(h:Dice M F ds)(hM:M<=4)(hF:F<=8)(n:Nat):aZd [(.tup (ds.map tupT),true)] n=some (.lst ((aC1 (aCi ds)).map tupT),true,n)/\∀r∈aCi ds,r.length=ds.length:=by
 have l1:=h.one;have l2:=h.most;have hp:8^ds.length<=8^4:=dz ZE ZA;have e0:(8:Nat)^4=4096:=by decide
 obtain⟨a',b',c',e,hr⟩:=outer ds [[]] (some (.tup (ds.map tupT),.fz)) none none none n 0 (fun d hd=>ao (h.die d hd).most hF) ZA ZJ (by simp;lia);have hr':∀r∈aCi ds,r.length=ds.length:=fun r hr'=>by have:=hr r hr';lia
 refine⟨?_,hr'⟩;have e1:(ds.foldl more [[]])=aCi ds:=rfl;rw[e1] at e;have hne:aCi ds ≠ []:=by
  have pos:∀ (ds:List ZB) (rows:List ZB),(∀d∈ds,d ≠ [])->rows ≠ []->ds.foldl more rows ≠ []:=by
   intro ds
   induction ds with
   |nil=>intro rows _ h;exact h
   | cons d ds ih =>
    intro rows hd h;refine ih _ (fun d' hd'=>hd d' (a6 _ hd')) fun z=>?_;have:=aI6 d rows;rw[z] at this;have h1:0<rows.length:=gV.mpr h;have h2:0<d.length:=gV.mpr (hd d (a7 ..));have:=Nat.mul_pos h1 h2
    simp_all
  exact pos ds [[]] (fun d hd z=>by have:=(h.die d hd).one;rw[z] at this;simp at this) ZJ
 have e2:intsOf ((aCi ds).map tupT)=none:=by
  cases hq:aCi ds with
  |nil=>exact absurd hq hne
  |cons r rs=>simp[tupT,intsOf]
 have e3:aGq ((aCi ds).map tupT)=some (aCi ds):=aJt fun r hr z=>by have:=hr' r hr;rw[z] at this;simp at this;lia
 have e4:aH8 n [.lst ((aCi ds).map tupT)]=some (.lst ((aC1 (aCi ds)).map tupT),.own):=by simp[aH8,e2,e3]
 have hb:1<=big:=by decide
 have e5:dFrz 0 aNu [some (.tup (ds.map tupT),.fz),some (.lst [tupT []],.own),none,none,none] n
   = some (.nx,[some (.tup (ds.map tupT),.fz),some (.lst ((aCi ds).map tupT),.own),a',b',c'],n):=by
  unfold aNu aVz aUj aV0 aWd;simp only[dFrz,eE,dFor,dItS,dVar,look,aDr,walked,aq,d7];exact e
 unfold aZd aZe;have e6:dTup dNil [some (T.tup (ds.map tupT),Md.fz),none,none,none,none] n=some (tupT [],.fz,n):=rfl;simp only[fnD,dSeq,aHb,dCall,aAe,bNil,dVar,a8,eD,aa,di,eJ,dj,Nat.reduceAdd,Nat.reduceSub,if_true,List.replicate,eE,look,aq,d7,flag,aJ1 h hM hF n,md,dSet,dLst,aAa,dFz,e6,frz,dNil,hb,bg,bh];rw[e5];simp! [e4]
theorem bBe{M F:Nat}{ds:List ZB}(h:Dice M F ds)(hM:M<=4)(hF:F<=8)(n:Nat):aDo [(.tup (ds.map tupT),true)] n=some (.lst ((aCi ds).map tupT),true,n):=by
 have l1:=h.one;have l2:=h.most;have hp:8^ds.length<=8^4:=dz ZE ZA;have e0:(8:Nat)^4=4096:=by decide
 obtain⟨a',b',c',e,_⟩:=outer ds [[]] (some (.tup (ds.map tupT),.fz)) none none none n 0 (fun d hd=>ao (h.die d hd).most hF) ZA ZJ (by simp;lia);have e1:(ds.foldl more [[]])=aCi ds:=rfl;rw[e1] at e;have hb:1<=big:=by decide
 have e5:dFrz 0 aFb [some (.tup (ds.map tupT),.fz),some (.lst [tupT []],.own),none,none,none] n
   = some (.nx,[some (.tup (ds.map tupT),.fz),some (.lst ((aCi ds).map tupT),.own),a',b',c'],n):=by
  unfold aFb aIh aIf aIi aIx;simp only[dFrz,eE,dFor,dItS,dVar,look,aDr,walked,aq,d7];exact e
 unfold aDo aJo;have e6:dTup dNil [some (T.tup (ds.map tupT),Md.fz),none,none,none,none] n=some (tupT [],.fz,n):=rfl;simp only[fnD,dSeq,a8,eD,aa,di,eJ,dj,Nat.reduceAdd,Nat.reduceSub,if_true,List.replicate,aq,dSet,dLst,aAa,dFz,e6,frz,dNil,hb,bg,bh,d7];rw[e5];simp[aC2]
def kt(least:Bool)(many:Nat)(r:List Int):Int:=if least then sumI ((sortI r).take many) else sumI ((sortI r).drop (r.length - many))
def kvs(d:List ZH):List (Ky × T):=d.map fun p=>(Sum.inl p.1,T.int p.2)
def cnt(d:List ZH)(k:Int):Int:=((d.find? fun p=>decide (p.1=k)).map (·.2)).getD 0
theorem aIo(d:List ZH)(k:Int):(aDc (kvs d) (.inl k)).getD (.int 0) = .int (cnt d k):=by
 unfold aDc kvs cnt
 induction d with
 |nil=>rfl
 | cons p d ih =>
  rw[a8,dw,dw];by_cases h:p.1=k
  ·simp[h]
  ·simp[h] at ih |-;exact ih
theorem any_ok(d:List ZH)(k:Int):((kvs d).any fun kv=>decide (kv.1=(Sum.inl k:Ky)))=d.any fun p=>decide (p.1=k):=by unfold kvs;rw[List.any_map];congr 1;funext p;simp
theorem cnt_none{k:Int}(h:(d.any fun p=>decide (p.1=k))=false):cnt d k=0:=by
 unfold cnt;have:d.find? (fun p=>decide (p.1=k))=none:=by rw[List.find?_eq_none];intro p hp;have:=iz.mp h p hp;simpa using this
 rw[this];rfl
def tally(d:List ZH)(p:Int->Bool):Int:=sumI ((d.filter fun q=>p q.1).map (·.2))
theorem aGf:∀a b:List Int,sumI (a++b)=sumI a+sumI b
 |[],b=>by simp[sumI]
 |x::a,b=>by simp[sumI,aGf a b,Int.add_assoc]
theorem aB0(q:Int × Int)(d:List ZH)(p:Int->Bool):tally (q::d) p=(if p q.1 then q.2 else 0)+tally d p:=by
 unfold tally;rw[jL];by_cases h:p q.1=true
 ·simp[h,sumI]
 ·simp[h]
theorem aPz(a b:List ZH)(p:Int->Bool):tally (a++b) p=tally a p+tally b p:=by unfold tally;rw[List.filter_append,c5,aGf]
theorem map_same{d:List ZH}{k v:Int}(h:k∉d.map (·.1)):d.map (fun p=>if p.1=k then (p.1,v) else p)=d:=by
 conv=>rhs;rw[<-jM d]
 refine c8 fun p hp=>?_;rw[if_neg (fun e=>h (by rw[<-e];exact bw hp))];rfl
theorem aGg(d:List ZH)(k:Int):(d.any fun p=>decide (p.1=k))=true↔k∈d.map (·.1):=by
 rw[gz,b7];constructor
 ·rintro⟨q,h1,h2⟩;exact⟨q,h1,by simpa using h2⟩
 ·rintro⟨q,h1,h2⟩;exact⟨q,h1,by simpa using h2⟩
def pairT(q:Int × Int):T:=.tup [.int q.1,.int q.2]
theorem aGl:∀d:List ZH,itemsOf (kvs d)=some d
 |[]=>rfl
 |q::d=>by have:=aGl d;unfold kvs at this |-;rw[a8];show (itemsOf (d.map _)).map (q :: ·)=_;rw[this];rfl
theorem aQ1(h:∀d∈ds,∀x∈d,0<=x/\x<=30)(hr:r∈aCi ds):∀x∈r,0<=x/\x<=30:=by
 have gen:∀ (ds rows:List ZB),(∀d∈ds,∀x∈d,0<=x/\x<=30)->(∀r∈rows,∀x∈r,0<=x/\x<=30)->∀r∈ds.foldl more rows,∀x∈r,0<=x/\x<=30:=by
  intro ds
  induction ds with
  |nil=>intro rows _ h;exact h
  | cons d ds ih =>
   intro rows hd hrows;refine ih _ (fun d' hd'=>hd d' (a6 _ hd')) fun r hr x hx=>?_;obtain⟨r0,h0,h1⟩:=fj.mp hr;obtain⟨f,hf,rfl⟩:=b7.mp h1;rcases ci.mp hx with hx |hx
   ·exact hrows r0 h0 x hx
   ·simp at hx;subst hx;exact hd d (a7 ..) x hf
 exact gen ds [[]] h ZJ r hr
theorem aKr(ds:List ZB):(aCi ds).length=facs ds:=by
 have gen:∀ (ds rows:List ZB),(ds.foldl more rows).length=ds.foldl (fun m d=>m*d.length) rows.length:=by
  intro ds
  induction ds with
  |nil=>intro rows;rfl
  |cons d ds ih=>intro rows;rw[cj,cj,ih,aI6]
 exact gen ds [[]]
theorem bA1{F:Nat}(h:∀d∈ds,d.length<=F):facs ds<=F^ds.length:=by
 have gen:∀ (ds:List ZB) (m:Nat),(∀d∈ds,d.length<=F)->ds.foldl (fun m d=>m*d.length) m<=m*F^ds.length:=by
  intro ds
  induction ds with
  |nil=>intro m _;simp
  | cons d ds ih =>
   intro m h;refine ao (ih _ fun d' hd'=>h d' (a6 _ hd')) ?_;rw[aa,iy,gR (F^ds.length) F,<-fG];exact dy _ (gW _ (h d (a7 ..)))
 have:=gen ds 1 h;simpa[facs] using this
def addW(d:List ZH)(k w:Int):List ZH:=if (d.any fun p=>decide (p.1=k))=true then d.map (fun p=>if p.1=k then (p.1,cnt d k+w) else p) else d ++ [(k,w)]
theorem aTx(d:List ZH)(k w:Int):aCc (kvs d) (.inl k) (.int (cnt d k+w))=kvs (addW d k w):=by
 unfold aCc addW;rw[any_ok];cases h:d.any fun p=>decide (p.1=k) with
 | true =>
  simp only[if_true];unfold kvs;rw[b6,b6];refine c8 fun p _=>?_;by_cases e:p.1=k<;>simp[e]
 |false=>simp[kvs,cnt_none h]
theorem aLl{k w:Int}(p:Int->Bool):∀ {d:List ZH},(d.map (·.1)).Nodup->k∈d.map (·.1)->tally (d.map fun q=>if q.1=k then (q.1,cnt d k+w) else q) p=tally d p+if p k then w else 0
 |[],_,h=>by simp at h
 | (a,b)::d,nd,h=>by
  rw[a8] at nd h;obtain⟨n1,n2⟩:=dY.mp nd;by_cases e:a=k
  ·subst e;have ec:cnt ((a,b)::d) a=b:=by simp[cnt]
   rw[a8,map_same (by simpa using n1),aB0,aB0,ec];simp only[if_true];split<;>lia
  ·have hk:k∈d.map (·.1):=by
    rcases ae.mp h with z |z
    ·exact absurd z.symm e
    ·exact z
   have ec:cnt ((a,b)::d) k=cnt d k:=by simp[cnt,e]
   rw[a8,aB0,aB0,ec,aLl p n2 hk];simp only[e,if_false];lia
structure WB (d:List ZH) (f:(Int->Bool)->Int):Prop where
 nd:(d.map (·.1)).Nodup
 pos:∀q∈d,1<=q.2
 tal:∀p:Int->Bool,tally d p=f p
theorem WB.nil:WB [] fun _=>0:=⟨by simp,by simp,fun p=>by simp[tally,sumI]⟩
theorem cnt_pos{k:Int}(h:∀q∈d,1<=q.2):0<=cnt d k:=by
 unfold cnt;cases e:d.find? fun p=>decide (p.1=k) with
 |none=>simp
 |some q=>have:=h q (List.mem_of_find?_eq_some e);simp;lia
theorem WB.add(B:WB d f)(k w:Int)(hw:1<=w):WB (addW d k w) fun p=>f p+if p k then w else 0:=by
 have hc:=cnt_pos (k:=k) B.pos;unfold addW;cases h:d.any fun p=>decide (p.1=k) with
 | true =>
  have hk:=(aGg d k).mp h;simp only[if_true];refine⟨?_,fun q hq=>?_,fun p=>?_⟩
  ·rw[b6,show (fun x:Int × Int=>x.1)∘(fun p:Int × Int=>if p.1=k then (p.1,cnt d k+w) else p)=fun x=>x.1 from by funext p;simp only[Function.comp];split<;>rfl];exact B.nd
  ·obtain⟨q0,h0,rfl⟩:=b7.mp hq;have:=B.pos q0 h0;split
   ·simp only;lia
   ·lia
  ·rw[aLl p B.nd hk,B.tal p]
 | false =>
  have hk:k∉d.map (·.1):=fun z=>by rw[(aGg d k).mpr z] at h;cases h
  simp only[bu,if_false];refine⟨?_,fun q hq=>?_,fun p=>?_⟩
  ·rw[c5,gG];refine⟨B.nd,by simp,fun x hx y hy z=>?_⟩;simp at hy;subst hy z;exact hk hx
  ·rcases ci.mp hq with hq |hq
   ·exact B.pos q hq
   ·simp at hq;subst hq;exact hw
  ·rw[aPz,B.tal p,aB0];simp[tally,sumI]
theorem WB.congr(B:WB d f)(h:∀p,f p=g p):WB d g:=⟨B.nd,B.pos,fun p=>(B.tal p).trans (h p)⟩
theorem aMq(d:List ZH)(k w:Int):(addW d k w).length<=d.length+1:=by unfold addW;split<;>simp
theorem aP8{k:Int}(h:k∉d.map (·.1)):tally d (fun x=>x==k)=0:=by
 induction d with
 |nil=>simp[tally,sumI]
 | cons q d ih =>
  rw[a8] at h;have h1:¬q.1=k:=fun z=>h (by rw[<-z];exact a7 ..);rw[aB0,ih fun z=>h (a6 _ z)];simp[h1]
theorem aUo:∀ {d:List ZH} {k v:Int},(d.map (·.1)).Nodup->(k,v)∈d->tally d (fun x=>x==k)=v
 |[],_,_,_,h=>by simp at h
 | q::d,k,v,nd,h=>by
  rw[a8] at nd;obtain⟨n1,n2⟩:=dY.mp nd;rcases ae.mp h with e |h
  ·subst e;rw[aB0,aP8 n1];simp
  ·have h1:¬q.1=k:=fun z=>n1 (by rw[z];exact bw (f:=(·.1)) h);rw[aB0,aUo n2 h];simp[h1]
def spread(ks:List Int)(d:List Int):List Int:=ks.flatMap fun k=>d.map fun f=>k+f
def wsum(d0:List ZH)(die:List Int)(p:Int->Bool):Int:=sumI (d0.map fun q=>q.2*((die.countP fun f=>p (q.1+f):Nat):Int))
theorem aR6(d0:List ZH)(x0 x2:Option (T × Md))(t v:Int)(hv:1<=v)(hat:aDc (kvs d0) (.inl t)=some (.int v))(n:Nat):∀ (die:List Int) (d:List ZH) (f:(Int->Bool)->Int) (a:Option (T × Md)),WB d f->d.length+die.length<=100000 ->
  ∃d' a',WB d' (fun p=>f p+v*((die.countP fun g=>p (t+g):Nat):Int))/\d'.length<=d.length+die.length/\aA4 (putAt 5) ZD (die.map T.int)
   [x0,some (.dic (kvs d0),.fz),x2,some (.dic (kvs d),.own),some (.int t,.fz),a] n=some (.nx,[x0,some (.dic (kvs d0),.fz),x2,some (.dic (kvs d'),.own),some (.int t,.fz),a'],n)
 |[],d,f,a,B,_=>⟨d,a,B.congr fun p=>by simp,by simp,by simp[aA4]⟩
 | g::die,d,f,a,B,hz=>by
  have hB:big=1000000:=rfl;rw[aa] at hz;have hal:=aMq d (t+g) v;obtain⟨d',a',B',hl',e⟩:=aR6 d0 x0 x2 t v hv hat n die (addW d (t+g) v) _ (some (.int g,.fz)) (B.add (t+g) v hv) ZA;refine⟨d',a',B'.congr fun p=>?_,by rw[aa];lia,?_⟩
  ·rw[eI];by_cases hp:p (t+g)=true
   ·simp[hp,Int.mul_add];lia
   ·simp[hp]
  ·rw[a8];unfold aA4;have hl:(kvs d).length<big:=by unfold kvs;rw[a5];lia
   have e2:aCj 3 setL (dPr pAdd (aAa (dVar 4) (aAa (dVar 5) dNil))) (dPr pAdd (aAa (dPr aC4 (aAa (dVar 3) (aAa (dPr pAdd (aAa (dVar 4) (aAa (dVar 5) dNil))) (aAa (dK (.int 0)) dNil)))) (aAa (dPr pGet (aAa (dVar 1) (aAa (dVar 4) dNil))) dNil)))
     [x0,some (.dic (kvs d0),.fz),x2,some (.dic (kvs d),.own),some (.int t,.fz),some (.int g,.fz)] n=some (.nx,[x0,some (.dic (kvs d0),.fz),x2,some (.dic (kvs (addW d (t+g) v)),.own),some (.int t,.fz),some (.int g,.fz)],n):=by
    rw[<-aTx];have c:=aIo d (t+g);simp! [aCj,aCx,aF0,aPj,q_dget,aLz,aQv,aX5,keyOf,c,hat,aYi,hl]
   simp only[L2.Ds.putAt,bg,bh,aq];rw[e2];exact e
theorem aGx{k v:Int}(nd:(d.map (·.1)).Nodup)(h:(k,v)∈d):aDc (kvs d) (.inl k)=some (.int v):=by
 unfold aDc kvs
 induction d with
 |nil=>simp at h
 | cons q d ih =>
  rw[a8] at nd;obtain⟨n1,n2⟩:=dY.mp nd;rw[a8,dw];rcases ae.mp h with e |h
  ·subst e;simp
  ·have h1:¬q.1=k:=fun z=>n1 (by rw[z];exact bw (f:=(·.1)) h);simp[h1];simpa using ih n2 h
theorem aH3(d0:List ZH)(nd:(d0.map (·.1)).Nodup)(ps:∀q∈d0,1<=q.2)(die:List Int)(x0:Option (T × Md))(n:Nat):∀ (l:List ZH) (d:List ZH) (f:(Int->Bool)->Int) (a b:Option (T × Md)),(∀q∈l,q∈d0)->WB d f->d.length+l.length*die.length<=100000 ->
  ∃d' a' b',WB d' (fun p=>f p+wsum l die p)/\d'.length<=d.length+l.length*die.length/\aA4 (putAt 4) (dFrz 2 (dFor (dItS (dVar 2)) (putAt 5) ZD)) (l.map fun q=>T.int q.1)
   [x0,some (.dic (kvs d0),.fz),some (tupT die,.fz),some (.dic (kvs d),.own),a,b] n=some (.nx,[x0,some (.dic (kvs d0),.fz),some (tupT die,.fz),some (.dic (kvs d'),.own),a',b'],n)
 |[],d,f,a,b,_,B,_=>⟨d,a,b,B.congr fun p=>by simp[wsum,sumI],by simp,by simp[aA4]⟩
 | q::l,d,f,a,b,hl,B,hz=>by
  rw[aa,fO] at hz;have hq:=hl q (a7 ..);obtain⟨d1,b1,B1,l1,e1⟩:=aR6 d0 x0 (some (tupT die,.fz)) q.1 q.2 (ps q hq) (aGx nd hq) n die d f b B ZA;obtain⟨d',a',b',B',l2,e⟩:=aH3 d0 nd ps die x0 n l d1 _ (some (.int q.1,.fz)) b1 (fun q' hq'=>hl q' (a6 _ hq')) B1 ZA;refine⟨d',a',b',B'.congr fun p=>?_,by rw[aa,fO];lia,?_⟩
  ·simp[wsum,sumI];lia
  ·rw[a8];unfold aA4;generalize ZD=BB at e1 e |-;have e2:dFrz 2 (dFor (dItS (dVar 2)) (putAt 5) BB) [x0,some (.dic (kvs d0),.fz),some (tupT die,.fz),some (.dic (kvs d),.own),some (.int q.1,.fz),b] n=some (.nx,[x0,some (.dic (kvs d0),.fz),some (tupT die,.fz),some (.dic (kvs d1),.own),some (.int q.1,.fz),b1],n):=e1;simp only[L2.Ds.putAt,bg,bh,aq];rw[e2];exact e
theorem aT6(B:WB d0 fun p=>(ks.countP p:Nat))(p:Int->Bool):∀die:List Int,wsum d0 die p=((spread ks die).countP p:Nat)
 | []=>by
  have h1:∀d:List ZH,wsum d [] p=0:=by
   intro d
   induction d with
   |nil=>rfl
   |cons q d ih=>unfold wsum at ih |-;rw[a8,sumI,ih];simp
  have h2:spread ks [] = []:=by unfold spread;simp
  rw[h1,h2];rfl
 | g::die=>by
  have h1:∀d:List ZH,wsum d (g::die) p=tally d (fun k=>p (k+g))+wsum d die p:=by
   intro d
   induction d with
   |nil=>rfl
   | cons q d ih =>
    unfold wsum at ih |-;rw[a8,a8,sumI,sumI,ih,aB0,eI];by_cases hp:p (q.1+g)=true
    ·simp[hp,Int.mul_add];lia
    ·simp[hp];lia
  have h2:∀ks:List Int,(spread ks (g::die)).countP p=ks.countP (fun k=>p (k+g))+(spread ks die).countP p:=by
   intro ks
   induction ks with
   |nil=>rfl
   | cons k ks ih =>
    unfold spread at ih |-;rw[dQ,dQ,gg,gg,ih,a8,eI,eI];lia
  rw[h1,B.tal,aT6 B p die,h2];simp
theorem aWk(x0:Option (T × Md))(n:Nat):∀ (ds:List ZB) (d:List ZH) (ks:List Int) (a b c e0:Option (T × Md)),(∀x∈ds,x.length<=8)->WB d (fun p=>(ks.countP p:Nat))->d.length*8^ds.length<=100000 ->
  ∃d' a' b' c' e',WB d' (fun p=>((ds.foldl spread ks).countP p:Nat))/\aA4 (putAt 2) (dSeq (dSet 3 aHp) (dSeq (dFrz 1 (dFor (dItS (dVar 1)) (putAt 4) (dFrz 2 (dFor (dItS (dVar 2)) (putAt 5) ZD)))) (aC3 1 3))) (ds.map tupT)
   [x0,some (.dic (kvs d),.own),a,b,c,e0] n=some (.nx,[x0,some (.dic (kvs d'),.own),a',b',c',e'],n)
 |[],d,ks,a,b,c,e0,_,B,_=>⟨d,a,b,c,e0,B,by simp[aA4]⟩
 | die::ds,d,ks,a,b,c,e0,hd,B,hz=>by
  have hd0:=hd die (a7 ..);rw[aa] at hz;have hpw:1<=8^ds.length:=io ZJ;have hz1:d.length*die.length*8^ds.length<=100000:=by refine ao ?_ hz;rw[iy,gR (8^ds.length) 8,<-fG];exact dy _ (gW _ hd0)
  have hz2:d.length*die.length<=100000:=ao (fQ _ hpw) hz1;obtain⟨d1,a1,b1,B1,l1,e1⟩:=aH3 d B.nd B.pos die x0 n d [] _ c e0 (fun _ h=>h) WB.nil (by simp;lia);have B2:WB d1 (fun p=>((spread ks die).countP p:Nat)):=B1.congr fun p=>by rw[aT6 B p die];simp
  rw[di,ez] at l1;obtain⟨d',a',b',c',e',B',e⟩:=aWk x0 n ds d1 (spread ks die) (some (tupT die,.fz)) none a1 b1 (fun x hx=>hd x (a6 _ hx)) B2 (ao (dy _ l1) hz1);refine⟨d',a',b',c',e',B',?_⟩;rw[a8];unfold aA4;generalize (dFrz 2 (dFor (dItS (dVar 2)) (putAt 5) ZD))=BB at e1 e |-;have hk:(kvs d).map (fun kv=>keyT kv.1)=d.map fun q=>T.int q.1:=by unfold kvs;rw[b6];rfl
  have e2:dSeq (dSet 3 aHp) (dSeq (dFrz 1 (dFor (dItS (dVar 1)) (putAt 4) BB)) (aC3 1 3)) [x0,some (.dic (kvs d),.own),some (tupT die,.fz),b,c,e0] n=some (.nx,[x0,some (.dic (kvs d1),.own),some (tupT die,.fz),none,a1,b1],n):=by simp only[dSeq,dSet,aHp,aq,bg,bh,dFrz,fP,eE,dFor,dItS,dVar,look,walked,hk,d7];rw[show (kvs []:List (Ky × T)) = [] from rfl] at e1;rw[e1];rfl
  simp only[L2.Ds.putAt,bg,bh,aq];rw[e2];exact e
theorem aS3(d:List Int):∀rows:List ZB,(more rows d).map sumI=spread (rows.map sumI) d
 |[]=>rfl
 |r::rows=>by have ih:=aS3 d rows;unfold more spread at ih |-;rw[a8,dQ,dQ,c5,ih,b6];congr 1;refine c8 fun f _=>?_;simp[aGf,sumI]
theorem aLn(ds:List ZB):(aCi ds).map sumI=ds.foldl spread [0]:=by
 have gen:∀ (ds rows:List ZB),(ds.foldl more rows).map sumI=ds.foldl spread (rows.map sumI):=by
  intro ds
  induction ds with
  |nil=>intro rows;rfl
  |cons d ds ih=>intro rows;rw[cj,cj,ih,aS3]
 exact gen ds [[]]
theorem counted(h8:∀d∈ds,d.length<=8)(h4:ds.length<=4)(n:Nat) :
  ∃d,WB d (fun p=>(((aCi ds).map sumI).countP p:Nat))/\aBh [(.tup (ds.map tupT),true)] n=some (.dic (kvs d),true,n):=by
 have hpw:8^ds.length<=8^4:=dz ZE ZA;have e0:(8:Nat)^4=4096:=by decide
 obtain⟨d',a',b',c',e',B,e⟩:=aWk (some (.tup (ds.map tupT),.fz)) n ds [(0,1)] [0] none none none none h8 ⟨by simp,by simp,fun p=>by simp[tally,sumI];by_cases z:p 0=true<;>simp[z,sumI]⟩ (by simp;lia);rw[<-aLn] at B;refine⟨d',B,?_⟩;unfold aBh aK8 aH6 aDf aHt aH9 aHw aHv;generalize (dSeq (dSet 3 aHp) _)=BB at e |-;rw[show (kvs [(0,1)]:List (Ky × T)) = [(Sum.inl 0,.int 1)] from rfl] at e;simp! [dDic1,keyOf,dFrz,dFor,dItS,walked,e]
def fr(a b:Nat):T:=.tup [.int ((a / Nat.gcd a b:Nat):Int),.int ((b / Nat.gcd a b:Nat):Int)]
def aDj(ms:List Nat):Nat:=ms.foldr (· * ·) 1
theorem aLu:∀ (ms:List Nat) (a:Nat),ms.foldl (· * ·) a=a*aDj ms
 |[],a=>by simp[aDj]
 |m::ms,a=>by rw[cj,aLu ms];show a*m*aDj ms=a*(m*aDj ms);rw[fG]
theorem small_of{i:Int}(h1:-1000000000000000000<=i)(h2:i<=1000000000000000000):small i=true:=by unfold small;simp only[decide_eq_true_eq];lia
theorem bBb{k:Nat}(h:k<=1000000000000000000):small (k:Int)=true:=small_of ZA ZA
theorem mul_ok{a b:Int}(h:small a=true\/small b=true)(n:Nat):pMul n [.int a,.int b]=some (.int (a*b),.fz):=by show (if (small a||small b)=true then some (T.int (a*b),Md.fz) else none)=_;rw[if_pos (by rcases h with h |h<;>rw[h]<;>simp)]
theorem aYp(ds:List ZB):facs ds=aDj (ds.map List.length):=by
 unfold facs;have:∀ (ds:List ZB) (a:Nat),ds.foldl (fun m d=>m*d.length) a=a*aDj (ds.map List.length):=by
  intro ds
  induction ds with
  |nil=>intro a;simp[aDj]
  |cons d ds ih=>intro a;rw[cj,ih];simp[aDj,fG]
 rw[this,iK]
def aKw:List ZB->List ZB
 |[]=>[[]]
 |d::ds=>d.flatMap fun f=>(aKw ds).map (f :: ·)
theorem aE3(ds:List ZB):aCi ds=aKw ds:=by
 have gen:∀ (ds rows:List ZB),ds.foldl more rows=rows.flatMap fun r=>(aKw ds).map (r ++ ·):=by
  intro ds
  induction ds with
  |nil=>intro rows;simp[aKw]
  | cons d ds ih =>
   intro rows;rw[cj,ih];unfold more;rw[ip];congr 1;funext r;simp only[aKw,fk,fL,b6];congr 1;funext f;congr 1;funext x;simp
 unfold aCi;rw[gen];simp
theorem sum_zero{α:Type}(l:List α):(l.map fun _=>0).sum=0:=by
 induction l with
 |nil=>rfl
 |cons x l ih=>simp[ih]
theorem bA2{α:Type}(f g:α->Nat):∀l:List α,(l.map fun x=>f x+g x).sum=(l.map f).sum+(l.map g).sum
 |[]=>rfl
 |x::l=>by simp[bA2 f g l];lia
theorem aV5{α β:Type}(f:α->β->Nat):∀ (l:List α) (m:List β),(l.map fun x=>(m.map fun y=>f x y).sum).sum=(m.map fun y=>(l.map fun x=>f x y).sum).sum
 |[],m=>by simp[sum_zero]
 |x::l,m=>by rw[a8,i0,aV5 f l m];simp only[a8,i0];rw[bA2]
theorem aJk{α:Type}(p:α->Bool):∀l:List α,l.countP p=(l.map fun x=>if p x=true then 1 else 0).sum
 |[]=>rfl
 |x::l=>by rw[eI,a8,i0,aJk p l,iu]
def below(x:Int)(ds:List ZB):Nat:=aDj (ds.map fun d=>d.countP fun f=>decide (f<x))
theorem aJa{M:Nat}{F:Nat}(h:Dice M F ds)(hM:M<=4)(hF:F<=8):facs ds<=4096:=by have l2:=h.most;refine ao (bA1 (F:=8) fun d hd=>ao (h.die d hd).most hF) ?_;exact ao (dz ZE (show ds.length<=4 by lia)) ZE
theorem aWa{M F:Nat}(h:Dice M F ds):1<=facs ds:=by
 have pos:∀ (ds:List ZB) (m:Nat),0<m->(∀d∈ds,1<=d.length)->0<ds.foldl (fun m d=>m*d.length) m:=by
  intro ds
  induction ds with
  |nil=>intro m h _;exact h
  |cons d ds ih=>intro m h hd;exact ih _ (Nat.mul_pos h (hd d (a7 ..))) fun d' hd'=>hd d' (a6 _ hd')
 exact pos ds 1 ZE fun d hd=>(h.die d hd).one
theorem aH5(xs:List T)(k:Nat):cutT xs none (some (k:Int))=xs.take k:=by
 unfold cutT L2.Ds.bound;simp only[gB,iw];rw[if_neg ZA];by_cases h:k<=xs.length
 ·rw[show min (k:Int).toNat xs.length=k by lia]
 ·rw[show min (k:Int).toNat xs.length=xs.length by lia,fJ,dq ZA]
theorem aEg(xs:List T)(k:Nat):cutT xs (some (k:Int)) none=xs.drop k:=by
 unfold cutT L2.Ds.bound;simp only;rw[if_neg ZA];by_cases h:k<=xs.length
 ·rw[show min (k:Int).toNat xs.length=k by lia];exact dq (by rw[d8];lia)
 ·rw[show min (k:Int).toNat xs.length=xs.length by lia,List.drop_of_length_le (by lia:xs.length<=k)];simp
abbrev BK(d:List ZH)(s:List Int):Prop:=WB d (fun p=>(s.countP p:Nat))
theorem BK.val(B:BK d s){q:Int × Int}(h:q∈d):q.2=((s.countP fun x=>x==q.1:Nat):Int):=by have:=B.tal fun x=>x==q.1;rw[aUo B.nd (show (q.1,q.2)∈d from h)] at this;exact this
theorem BK.key(B:BK d s){q:Int × Int}(h:q∈d):q.1∈s:=by
 have h1:=B.val h;have h2:=B.pos q h;have:0<s.countP fun x=>x==q.1:=by lia
 obtain⟨x,hx,e⟩:=i3.mp this;have e:x=q.1:=by simpa using e
 exact e▸hx
theorem BK.has(B:BK d s){x:Int}(h:x∈s):∃v,(x,v)∈d:=by
 by_cases hk:x∈d.map (·.1)
 ·obtain⟨q,hq,rfl⟩:=b7.mp hk;exact⟨q.2,hq⟩
 ·have h1:=B.tal fun y=>y==x;rw[aP8 hk] at h1;have:0<s.countP fun y=>y==x:=i3.mpr ⟨x,h,by simp⟩;lia
theorem BK.le(B:BK d s){q:Int × Int}(h:q∈d):q.2<=s.length:=by rw[B.val h];have:=List.countP_le_length (p:=fun x=>x==q.1) (l:=s);lia
theorem sumW:∀ (d:List ZH) (s:List Int) (h:Int->Int),(d.map (·.1)).Nodup->(∀q∈d,q.2=((s.countP fun x=>x==q.1:Nat):Int))->(∀x∈s,x∈d.map (·.1))->sumI (d.map fun q=>q.2*h q.1)=sumI (s.map h)
 | [],s,h,_,_,hs=>by
  cases s with
  |nil=>rfl
  |cons x s=>have:=hs x (a7 ..);simp at this
 | q::d,s,h,nd,hv,hs=>by
  rw[a8] at nd;obtain⟨n1,n2⟩:=dY.mp nd;have split:∀s:List Int,sumI (s.map h)=((s.countP fun x=>x==q.1:Nat):Int)*h q.1+sumI ((s.filter fun x=>!(x==q.1)).map h):=by
   intro s
   induction s with
   |nil=>simp[sumI]
   | cons x s ih =>
    rw[a8,sumI,ih,eI,jL];by_cases e:x=q.1
    ·subst e;simp only[beq_self_eq_true,if_true,iZ,bu,if_false];rw[show (((s.countP fun x=>x==q.1)+1:Nat):Int)=((s.countP fun x=>x==q.1:Nat):Int)+1 from rfl,Int.add_mul];lia
    ·have e':(x==q.1)=false:=by simpa using e
     simp only[e',Bool.not_false,if_true,bu,if_false,a8,sumI,Nat.add_zero];lia
  rw[split s,a8,sumI,hv q (a7 ..)];congr 1;refine sumW d (s.filter fun x=>!(x==q.1)) h n2 (fun q' hq'=>?_) fun x hx=>?_
  ·rw[hv q' (a6 _ hq'),List.countP_filter];congr 1;refine List.countP_congr fun x _=>?_;have ne:q'.1≠q.1:=fun z=>n1 (by rw[<-z];exact bw (f:=(·.1)) hq');constructor
   ·intro z;have z:x=q'.1:=by simpa using z
    subst z;simp[ne]
   ·intro z;simp at z |-;exact z.1
  ·obtain⟨h1,h2⟩:=dX.mp hx;have h2:x≠q.1:=by simpa using h2
   rcases ae.mp (hs x h1) with z |z
   ·exact absurd z h2
   ·exact z
theorem BK.sum(B:BK d s)(h:Int->Int):sumI (d.map fun q=>q.2*h q.1)=sumI (s.map h) :=
 sumW d s h B.nd (fun q hq=>B.val hq) fun x hx=>by obtain⟨v,hv⟩:=B.has hx;exact bw (f:=(·.1)) hv
theorem BK.dlen(B:BK d s):d.length<=s.length:=by
 have h1:=B.sum fun _=>1;have h2:∀d:List ZH,(∀q∈d,1<=q.2)->(d.length:Int)<=sumI (d.map fun q=>q.2*1):=by
  intro d
  induction d with
  |nil=>intro _;simp[sumI]
  | cons q d ih =>
   intro h;have:=ih fun q' hq'=>h q' (a6 _ hq');have:=h q (a7 ..);rw[a8,sumI,aa];lia
 have h3:∀s:List Int,sumI (s.map fun _=>1)=(s.length:Int):=by
  intro s
  induction s with
  |nil=>rfl
  |cons x s ih=>rw[a8,sumI,ih,aa];lia
 have:=h2 d B.pos;rw[h1,h3] at this;lia
theorem BK.vals(B:BK d s):sumI (d.map (·.2))=(s.length:Int):=by
 have h1:=B.sum fun _=>1;have h3:∀s:List Int,sumI (s.map fun _=>1)=(s.length:Int):=by
  intro s
  induction s with
  |nil=>rfl
  |cons x s ih=>rw[a8,sumI,ih,aa];lia
 rw[h3] at h1;simp only[Int.mul_one] at h1;exact h1
theorem aMz(d:List ZH):(kvs d).map (fun kv=>keyT kv.1)=d.map fun q=>T.int q.1:=by unfold kvs;rw[b6];rfl
def sums(ds:List ZB):List Int:=(aCi ds).map sumI
theorem aJf(ds:List ZB):(sums ds).length=facs ds:=by unfold sums;rw[a5,aKr]
theorem aUn:∀ (r:List Int),(∀x∈r,0<=x/\x<=30)->0<=sumI r/\sumI r<=30*r.length
 |[],_=>by simp[sumI]
 |x::r,h=>by have:=aUn r fun y hy=>h y (a6 _ hy);have:=h x (a7 ..);simp only[sumI,aa];lia
theorem aJg{M F:Nat}(h:Dice M F ds)(hM:M<=4)(hF:F<=8):∀x∈sums ds,0<=x/\x<=120:=fun x hx=>by obtain⟨r,hr,rfl⟩:=b7.mp hx;have h1:=aUn r (aQ1 (fun d hd=>(h.die d hd).rng) hr);have h2:=(rolls h hM hF 0).2 r hr;have h3:=h.most;lia
theorem aFj{M F:Nat}(h:Dice M F ds)(hM:M<=4)(hF:F<=8)(n:Nat):∃d,BK d (sums ds)/\aBh [(.tup (ds.map tupT),true)] n=some (.dic (kvs d),true,n):=by have l2:=h.most;exact counted (fun d hd=>ao (h.die d hd).most hF) ZA n
end Dm
namespace Dm
open L2 L2.Ds Dd
theorem bBr{i:Nat}{n:Nat}(h:ρ[i]?=some (some (t,.fz))):dFrz i d ρ n=d ρ n:=by unfold dFrz;rw[h]
abbrev I3:=Int × Int × Int
theorem aV1(a:List Int):sums [a]=a:=by
 unfold sums;rw[aE3];simp only[aKw,a8,eD]
 induction a with
 |nil=>rfl
 | cons x a ih =>
  rw[dQ,c5,ih];simp[sumI]
theorem aVr{F:Nat}(h:Die F d):∀x∈d,d.headD 0<=x/\x<=d.getLastD 0:=by
 intro x hx;have hu:=h.up;cases d with
 |nil=>simp at hx
 | cons y l =>
  constructor
  ·rcases ae.mp hx with rfl |hx
   ·exact iL _
   ·exact(ck.mp hu).1 x hx
  ·obtain⟨i,m,e⟩:∃i m,y::l=i ++ [m]:=⟨(y::l).dropLast,(y::l).getLast ZJ,(List.dropLast_concat_getLast ZJ).symm⟩
   rw[e] at hx hu |-;rw[List.getLastD_concat];rw[cq] at hu;rcases ci.mp hx with hx |hx
   ·exact hu.2.2 x hx m ZJ
   ·simp at hx;lia
theorem sums_nil:sums [] = [0]:=rfl
theorem aB4(d:List Int)(ds:List ZB):sums (d::ds)=d.flatMap fun f=>(sums ds).map (f + ·):=by unfold sums;rw[aE3,aE3];show (d.flatMap fun f=>(aKw ds).map (f :: ·)).map sumI=_;rw[fL];congr 1;funext f;rw[b6,b6];rfl
theorem aDp(a b:List ZB):sums (a++b)=(sums a).flatMap fun x=>(sums b).map (x + ·):=by
 induction a with
 |nil=>rw[dj,sums_nil];simp
 | cons d a ih =>
  rw[eJ,aB4,aB4,ih,ip];congr 1;funext f;rw[fL,fk];congr 1;funext x;rw[b6];congr 1;funext y;simp only[Function.comp];lia
theorem aL2{a b:List Int}(h:∀z,(a.countP fun x=>x==z)=b.countP fun x=>x==z):a.Perm b:=List.perm_iff_count.mpr fun z=>h z
theorem aZq(a b:List Int):(a.flatMap fun x=>b.map (x + ·)).Perm (b.flatMap fun y=>a.map (y + ·)):=by
 refine aL2 fun z=>?_;rw[i4,i4];have e1:∀x,(b.map (x + ·)).countP (fun w=>w==z)=(b.map fun y=>if (x+y==z)=true then 1 else 0).sum:=fun x=>by rw[iH,aJk];rfl
 have e2:∀y,(a.map (y + ·)).countP (fun w=>w==z)=(a.map fun x=>if (x+y==z)=true then 1 else 0).sum:=fun y=>by rw[iH,aJk];congr 1;refine c8 fun x _=>?_;simp only[Function.comp,Int.add_comm]
 show (a.map fun x=>(b.map (x + ·)).countP _).sum=(b.map fun y=>(a.map (y + ·)).countP _).sum;simp only[e1,e2];exact aV5 _ _ _
theorem aPl{a a':List Int}{g g':Int->List Int}(p:a.Perm a')(h:∀x∈a,(g x).Perm (g' x)):(a.flatMap g).Perm (a'.flatMap g') :=
 have gen:∀a:List Int,(∀x∈a,(g x).Perm (g' x))->(a.flatMap g).Perm (a.flatMap g'):=by
  intro a
  induction a with
  |nil=>intro _;exact .refl _
  | cons x a ih =>
   intro h;rw[dQ,dQ];exact(h x (a7 ..)).append (ih fun y hy=>h y (a6 _ hy))
 (gen a h).trans (p.flatMap_right _)
theorem bA5(p:a.Perm b):sumI a=sumI b:=by
 induction p with
 |nil=>rfl
 |cons x _ ih=>simp[sumI,ih]
 |swap x y l=>simp[sumI];lia
 |trans _ _ h1 h2=>exact h1.trans h2
def duo(a b:List Int):List Int:=a.flatMap fun x=>b.map (x + ·)
theorem get0(B:BK d s)(x:Int)(n:Nat):aC4 n [.dic (kvs d),.int x,.int 0]=some (.int ((s.countP fun y=>y==x:Nat):Int),.fz):=by
 have h:=aIo d x;have hc:cnt d x=((s.countP fun y=>y==x:Nat):Int):=by
  by_cases hx:x∈s
  ·obtain⟨v,hv⟩:=B.has hx;rw[aGx B.nd hv] at h;have h:T.int v=T.int (cnt d x):=h;cases h;exact B.val hv
  ·rw[cnt_none (by
    rw[<-jN,aGg];intro z;obtain⟨q,hq,rfl⟩:=b7.mp z
    exact hx (B.key hq)),fu.mpr (fun y hy z=>hx (by rw[<-eq_of_beq z];exact hy))]
   rfl
 have e:aC4 n [.dic (kvs d),.int x,.int 0]=some ((aDc (kvs d) (.inl x)).getD (.int 0),.fz):=rfl;rw[e,h,hc]
end Dm
namespace Dm
open PySem L2 L2.Ds Dd
theorem mixed_o(ns:List Int)(k m:Int)(hk:0<=k)(hm:1<=m)(n:Nat):∃r,0<=r/\r<m/\aC7 [(.lst (ns.map .int),false),(.int k,true),(.int m,true)] n=some (.int r,false,n):=by
 obtain⟨c,e⟩:=cell_at ns k hk n;have x0:=iG ((c+7919*k+1)*48271) (b:=2147483647) ZE;have x1:=gf ((c+7919*k+1)*48271) (b:=2147483647) ZE;have x2:small ((c+7919*k+1)*48271%2147483647)=true:=by unfold small;simp only[decide_eq_true_eq];lia
 have s1:small 48271=true:=rfl;have s2:small 7919=true:=rfl;have s3:small 7=true:=rfl;have m0:0<m:=by lia
 refine⟨_,iG (((c+7919*k+1)*48271%2147483647*((c+7919*k+1)*48271%2147483647)+7*((c+7919*k+1)*48271%2147483647)+k)%2147483629) (by lia:m≠0),gf _ m0,?_⟩;unfold aC7 aGr;simp! [e,pMod,pI2,q_mul1,aCx,x2,s1,s2,s3,m0]
theorem aIy(ns:List Int)(n:Nat)(m:Int)(hm:1<=m)(hn:n<big):∃r,0<=r/\r<m/\aAx [(.lst (ns.map .int),false),(.town,true),(.int m,true)] n=some (.int r,false,n+1):=by obtain⟨r,h0,h1,e⟩:=mixed_o ns (n+1) m ZA hm (n+1);refine⟨r,h0,h1,?_⟩;unfold aAx aIm;simp! [aHs,aJi,aD7,aQ8,aPi,hn,e]
theorem pickT_o(ns:List Int)(l:List T)(b:Bool)(n:Nat)(hl:l ≠ [])(hn:n<big):∃v∈l,aCa [(.lst (ns.map .int),false),(.town,true),(.lst l,b)] n=some (v,false,n+1):=by
 have:1<=l.length:=by cases l with
  |nil=>exact absurd rfl hl
  |cons _ _=>simp
 obtain⟨r,h0,h1,e⟩:=aIy ns n l.length ZA hn;have hr:r.toNat<l.length:=by lia
 have e2:at? l r=some l[r.toNat]:=by unfold at?;rw[if_pos h0,if_pos h1,ai hr]
 refine⟨l[r.toNat],cv hr,?_⟩;generalize l[r.toNat]=v at e2;unfold aCa aIw;cases b<;>simp! [aHs,aJi,aLz,e,e2]
theorem pick_o(ns l:List Int)(n:Nat)(hl:l ≠ [])(hn:n<big):∃v∈l,aCa [(.lst (ns.map .int),false),(.town,true),(.lst (l.map .int),true)] n=some (.int v,false,n+1):=by obtain⟨t,ht,e⟩:=pickT_o ns (l.map .int) true n (by simpa using hl) hn;obtain⟨v,hv,rfl⟩:=b7.mp ht;exact⟨v,hv,e⟩
def Sp(d:List Int):Prop:=∃lo:Int,∀x∈d,lo<=x/\x<=lo+11
theorem die_oW(ns:List Int)(F:Nat)(n:Nat)(hF:1<=F)(hF8:F<=8)(hn:n+20<=big):∃d n',(Die F d/\Sp d)/\n<=n'/\n'<=n+11/\aCl [(.lst (ns.map .int),false),(.town,true),(.int F,true),(.int 30,true)] n=some (tupT d,false,n'):=by
 have hB:big=1000000:=rfl;obtain⟨r,h0,h1,e1⟩:=aIy ns n 20 ZE ZA;obtain⟨lo,hlo,e2⟩:=pick_o ns [0,0,1,1,r] (n+1) ZJ ZA;have l0:0<=lo/\lo<20:=by simp at hlo;lia
 obtain⟨wd,hwd,e3⟩:=pick_o ns [1,3,6,12] (n+1+1) ZJ ZA;have w0:1<=wd/\wd<=12:=by simp at hwd;lia
 rw[show ([0,0,1,1,r]:List Int).map T.int = [.int 0,.int 0,.int 1,.int 1,.int r] from rfl] at e2;rw[show ([1,3,6,12]:List Int).map T.int = [.int 1,.int 3,.int 6,.int 12] from rfl] at e3;have c1:-(big:Int)<=F:=by lia
 have c2:(F:Int)<=(big:Int):=by lia
 have e5:∃ (l:List Int) (n2:Nat),l.length=F/\(∀x∈l,lo<=x/\x<=lo+11)/\n+3<=n2/\n2<=n+3+F/\aIj [some ZN,some (.town,.fz),some (.int F,.fz),some (.int 30,.fz),some (.int lo,.fz),some (.int wd,.fz),none] (n+1+1+1)=some (.lst (l.map T.int),.own,n2):=by
  obtain⟨out,n2,q1,q2,q3,q4,q5⟩:=aQx (K:=1) (N:=big) (P:=fun t=>∃x:Int,t = .int x/\lo<=x/\x<=lo+11) (it:=aH0 (aAa (dVar 2) dNil))
   (l:=[none,some 0,some 1,some 2,some 3,some 4,some 5,some 6]) (i:=0) (e:=dPr pMin (aAa (dVar 4) (aAa (dPr pAdd (aAa (dVar 5) (aAa (dCall 3 aAx (aAe (dVar 1) (aAe (dVar 2) (aAe (dVar 6) bNil)))) dNil))) dNil))) (ρ:=[some ZN,some (.town,.fz),some (.int F,.fz),some (.int 30,.fz),some (.int lo,.fz),some (.int wd,.fz),none]) (n0:=n+1+1+1) (n:=n+1+1+1) (xs:=upTo 0 F)
   (by unfold aH0;simp! [c1,c2]) (fun x n hn=>by
    obtain⟨r,h0,h1,e⟩:=aIy ns n wd ZA ZA;have em:pMin (n+1) [.int 30,.int (lo+r)]=some (.int (if lo+r<30 then lo+r else 30),.fz):=rfl;refine⟨.int (if lo+r<30 then lo+r else 30),n+1,?_,by lia,by lia,_,rfl,by split<;>lia,by split<;>lia⟩;generalize (if lo+r<30 then lo+r else 30)=z at em
    simp! [e,aCx,srcOf,em]) (by rw[aEm];lia) (by rw[aEm];lia)
  obtain⟨l,rfl,hl⟩:=bAt T.int (fun x=>lo<=x/\x<=lo+11) q2;rw[aEm] at q1 q4;rw[a5] at q1;exact⟨l,n2,by lia,hl,by lia,by lia,q5⟩
 obtain⟨l,n2,q1,hl,q3,q4,e5⟩:=e5;have pl:=(sortI_perm l).length_eq;refine⟨sortI l,n2,⟨⟨by lia,by lia,fun x hx=>by have:=hl x ((sortI_perm l).mem_iff.mp hx);lia,aCb l⟩,lo,fun x hx=>hl x ((sortI_perm l).mem_iff.mp hx)⟩,by lia,by lia,?_⟩;have hs6:l.length<64:=by lia
 have e6:aJ5 n2 [.lst (l.map .int)]=some (.lst ((sortI l).map .int),.own):=by simp[aJ5,aBk,hs6]
 have e7:aDg n2 [.lst ((sortI l).map .int)]=some (tupT (sortI l),.fz):=rfl;have k5:5<=big:=by decide
 have k4:4<=big:=by decide
 generalize tupT (sortI l)=o at *;generalize (sortI l).map T.int=sl at *;generalize l.map T.int=ll at *;unfold aCl aJ3;simp! [dLst,e1,e2,e3,e5,e6,e7,k4,k5]
theorem dice_oW(ns:List Int)(M F n:Nat)(hM:1<=M)(hM4:M<=4)(hF:1<=F)(hF8:F<=8)(hn:n+100<=big):∃ds n',ds.length=M/\(Dice M F ds/\∀d∈ds,Sp d)/\n<=n'/\n'<=n+48/\aBq [(.lst (ns.map .int),false),(.town,true),(.int M,true),(.int F,true)] n=some (.tup (ds.map tupT),false,n'):=by
 have hB:big=1000000:=rfl;have c1:-(big:Int)<=M:=by lia
 have c2:(M:Int)<=(big:Int):=by lia
 obtain⟨out,n2,q1,q2,q3,q4,q5⟩:=aQx (K:=12) (N:=big - 19) (P:=fun t=>∃d:List Int,t=tupT d/\Die F d/\Sp d) (it:=aH0 (aAa (dVar 2) dNil))
  (l:=[none,some 0,some 1,some 2,some 3]) (i:=0) (e:=dCall 4 aCl (aAe (dVar 1) (aAe (dVar 2) (aAe (dPr pAdd (aAa (dK (.int 1)) (aAa (dCall 3 aAx (aAe (dVar 1) (aAe (dVar 2) (aAe (dVar 4) bNil)))) dNil))) (aAe (dK (.int 30)) bNil))))) (ρ:=[some ZN,some (.town,.fz),some (.int M,.fz),some (.int F,.fz)]) (n0:=n) (n:=n) (xs:=upTo 0 M)
  (by unfold aH0;simp! [c1,c2]) (fun x n hn=>by
   obtain⟨r,h0,h1,e⟩:=aIy ns n F ZA ZA;obtain⟨k,rfl⟩:∃k:Nat,r=k:=⟨r.toNat,by lia⟩
   obtain⟨d,n',⟨g,gs⟩,l1,l2,e2⟩:=die_oW ns (1+k) (n+1) ZA ZA ZA;have e2:aCl [(.lst (ns.map .int),false),(.town,true),(.int (1+(k:Int)),true),(.int 30,true)] (n+1)=some (tupT d,false,n'):=e2;refine⟨tupT d,n',?_,by lia,by lia,d,rfl,⟨g.one,by have:=g.most;lia,g.rng,g.up⟩,gs⟩;have bx:aDr (tupT d)=false:=rfl;generalize tupT d=td at *
   simp! [e,e2,aCx,srcOf]) (by rw[aEm];lia) (by rw[aEm];lia)
 obtain⟨l,rfl,hl⟩:=bAt tupT (fun d=>Die F d/\Sp d) q2;rw[aEm] at q1 q4;rw[a5] at q1;refine⟨l,n2,by lia,⟨⟨by lia,by lia,fun d h=>(hl d h).1⟩,fun d h=>(hl d h).2⟩,by lia,by lia,?_⟩;have e5:aG3 [some ZN,some (.town,.fz),some (.int M,.fz),some (.int F,.fz)] n=some (.lst (l.map tupT),.own,n2):=q5;unfold aBq aIu;simp! [e5,q_tup1]
theorem bAb(ns:List Int)(M F n:Nat)(hM:1<=M)(hM4:M<=4)(hF:1<=F)(hF8:F<=8)(hn:n+100<=big):∃ds n',ds.length=M/\Dice M F ds/\n<=n'/\n'<=n+48/\aBq [(.lst (ns.map .int),false),(.town,true),(.int M,true),(.int F,true)] n=some (.tup (ds.map tupT),false,n') :=
 let ⟨ds,n',a,b,r⟩:=dice_oW ns M F n hM hM4 hF hF8 hn
 ⟨ds,n',a,b.1,r⟩
end Dm
namespace Dm
open L2 L2.Ds Dd
theorem aVn:∀ (m:Nat) (p:List Int),(∀x∈p,0<=x/\x<m)->p.Nodup->p.length<=m
 | 0,p,h,_=>by
  cases p with
  |nil=>simp
  |cons x p=>have:=h x (a7 ..);lia
 | m+1,p,h,nd=>by
  have ih:=aVn m (p.filter fun x=>!decide (x=m)) (fun x hx=>by
   obtain⟨h1,h2⟩:=dX.mp hx;have:=h x h1;simp at h2
   lia) (nd.filter _)
  have c:p.count (m:Int)<=1:=List.nodup_iff_count.mp nd _;have e:=List.length_eq_countP_add_countP (fun x=>decide (x=(m:Int))) (l:=p);have e2:p.countP (fun x=>decide (x=(m:Int)))=p.count (m:Int):=by unfold List.count;congr 1
  have e3:p.countP (fun a=>!decide (a=(m:Int)))=(p.filter fun x=>!decide (x=(m:Int))).length:=List.countP_eq_length_filter ..;have e4:p.countP (fun a=>decide ¬decide (a=(m:Int))=true)=p.countP (fun a=>!decide (a=(m:Int))):=by congr 1;funext x;simp
  rw[e4] at e;lia
theorem nodup_in{a b:Int}{p:List Int}(h:∀x∈p,a<=x/\x<b)(nd:p.Nodup):p.length<=(b - a).toNat:=by
 have:=aVn (b - a).toNat (p.map fun x=>x - a) (fun y hy=>by
  obtain⟨x,hx,rfl⟩:=b7.mp hy;have:=h x hx
  lia) (eX.mpr (nd.imp fun {x y} e z=>e ZA))
 rwa [a5] at this
structure Bk (d:List ZH):Prop where
 nd:(d.map (·.1)).Nodup
 pos:∀q∈d,1<=q.2
theorem cnt_cons(p:Int × Int)(d:List ZH)(k:Int):cnt (p::d) k=if p.1=k then p.2 else cnt d k:=by unfold cnt;rw[dw];by_cases h:p.1=k<;>simp[h]
theorem aBv:∀ {d:List ZH} {q:Int × Int},(d.map (·.1)).Nodup->q∈d->cnt d q.1=q.2
 |[],q,_,h=>by simp at h
 | p::d,q,nd,h=>by
  rw[a8] at nd;obtain⟨n1,n2⟩:=dY.mp nd;rw[cnt_cons];rcases ae.mp h with rfl |h
  ·simp
  ·have:¬p.1=q.1:=fun z=>n1 (by rw[z];exact bw (f:=(·.1)) h);rw[if_neg this];exact aBv n2 h
theorem aDh{k:Int}(h:k∉d.map (·.1)):cnt d k=0:=by
 induction d with
 |nil=>rfl
 | cons p d ih =>
  rw[a8] at h;rw[cnt_cons,if_neg (fun z=>h (by rw[<-z];exact a7 ..))];exact ih fun z=>h (a6 _ z)
theorem Bk.mem(B:Bk d){k:Int}(h:1<=cnt d k):k∈d.map (·.1):=by
 by_cases z:k∈d.map (·.1)
 ·exact z
 ·rw[aDh z] at h;lia
theorem Bk.cnt_pos(B:Bk d){k:Int}(h:k∈d.map (·.1)):1<=cnt d k:=by obtain⟨q,hq,rfl⟩:=b7.mp h;rw[aBv B.nd hq];exact B.pos q hq
theorem Bk.nonneg(B:Bk d)(k:Int):0<=cnt d k:=by
 by_cases z:k∈d.map (·.1)
 ·have:=B.cnt_pos z;lia
 ·rw[aDh z];lia
def subs(d:List ZH)(g:Int->Int):List ZH:=(d.map fun p=>(p.1,p.2 - g p.1)).filter fun p=>decide (0<p.2)
theorem aZb(d:List ZH)(g:Int->Int):((subs d g).map (·.1)).Sublist (d.map (·.1)):=by unfold subs;have h:=(List.filter_sublist (p:=fun p:Int × Int=>decide (0<p.2)) (l:=d.map fun p=>(p.1,p.2 - g p.1))).map (fun p:Int × Int=>p.1);rw[b6] at h;exact h
theorem Bk.subs(B:Bk d)(g:Int->Int):Bk (subs d g):=by refine⟨B.nd.sublist (aZb d g),fun q hq=>?_⟩;have:=(dX.mp hq).2;simp at this;lia
theorem subs_cnt(B:Bk d){g:Int->Int}(h:∀k,0<=g k/\g k<=cnt d k)(k:Int):cnt (subs d g) k=cnt d k - g k:=by
 by_cases z:k∈(subs d g).map (·.1)
 ·obtain⟨q,hq,rfl⟩:=b7.mp z;rw[aBv (B.subs g).nd hq];obtain⟨h1,_⟩:=dX.mp hq;obtain⟨p,hp,rfl⟩:=b7.mp h1;rw[aBv B.nd hp]
 ·rw[aDh z];obtain⟨h1,h2⟩:=h k;by_cases y:k∈d.map (·.1)
  ·obtain⟨q,hq,rfl⟩:=b7.mp y;rw[aBv B.nd hq] at h2 |-;by_cases w:0<q.2 - g q.1
   ·exfalso;refine z (b7.mpr ⟨(q.1,q.2 - g q.1),dX.mpr ⟨b7.mpr ⟨q,hq,rfl⟩,by simpa using w⟩,rfl⟩)
   ·lia
  ·rw[aDh y] at h2 |-;lia
def low(d:List ZH):Int:=(least (d.map (·.1))).getD 0
theorem aL9:∀ {l:List Int},l ≠ []->∃x,least l=some x/\x∈l/\∀y∈l,x<=y
 |[],h=>absurd rfl h
 | a::l,_=>by
  have gen:∀ (l:List Int) (a:Int),(l.foldl (fun a b=>if b<a then b else a) a=a\/l.foldl (fun a b=>if b<a then b else a) a∈l)/\l.foldl (fun a b=>if b<a then b else a) a<=a/\∀y∈l,l.foldl (fun a b=>if b<a then b else a) a<=y:=by
   intro l
   induction l with
   |nil=>intro a;exact⟨.inl rfl,iL _,by simp⟩
   | cons b l ih =>
    intro a;rw[cj];obtain⟨h1,h2,h3⟩:=ih (if b<a then b else a);refine⟨?_,?_,fun y hy=>?_⟩
    ·rcases h1 with h1 |h1
     ·rw[h1];by_cases c:b<a
      ·rw[if_pos c];exact .inr (a7 ..)
      ·rw[if_neg c];exact .inl rfl
     ·exact .inr (a6 _ h1)
    ·refine fc h2 ?_;split<;>lia
    ·rcases ae.mp hy with rfl |hy
     ·refine fc h2 ?_;split<;>lia
     ·exact h3 y hy
  obtain⟨h1,h2,h3⟩:=gen l a;refine⟨_,rfl,?_,fun y hy=>?_⟩
  ·rcases h1 with h1 |h1
   ·rw[h1];exact a7 ..
   ·exact a6 _ h1
  ·rcases ae.mp hy with rfl |hy
   ·exact h2
   ·exact h3 y hy
theorem aVc(h:d ≠ []):least (d.map (·.1))=some (low d)/\low d∈d.map (·.1)/\∀y∈d.map (·.1),low d<=y:=by
 obtain⟨x,e,h1,h2⟩:=aL9 (l:=d.map (·.1)) (by simpa using h);have:low d=x:=by unfold low;rw[e];rfl
 rw[this];exact⟨e,h1,h2⟩
def copies(die:List Int)(face:Int)(j:Nat)(x:Int):Int:=(j:Int)*((die.countP fun y=>y==x - face:Nat):Int)
def Fits(d:List ZH)(g:Int->Int):Prop:=∀k,g k<=cnt d k
def faceOf(die:List Int)(d:List ZH):Int:=low d - die.headD 0
def Ok(die:List Int)(d:List ZH):Prop:=0<=faceOf die d/\Fits d (copies die (faceOf die d) 1)
def firsts(die:List Int):Nat:=die.countP fun y=>y==die.headD 0
def tot(d:List ZH):Int:=sumI (d.map (·.2))
def Of(d:List ZH)(s:List Int):Prop:=∀k,cnt d k=((s.countP fun x=>x==k:Nat):Int)
theorem BK.cnt(B:BK d s):Of d s:=fun x=>by
 by_cases hx:x∈s
 ·obtain⟨v,hv⟩:=B.has hx;rw[aBv B.nd hv];exact B.val hv
 ·rw[aDh (fun z=>by
   obtain⟨q,hq,rfl⟩:=b7.mp z
   exact hx (B.key hq)),fu.mpr (fun y hy z=>hx (by rw[<-eq_of_beq z];exact hy))]
  rfl
theorem aQy(x0:Option (T × Md))(n:Nat):∀ (ds:List ZB) (d:List ZH) (ks:List Int) (a b c e0:Option (T × Md)),(∀x∈ds,1<=x.length)->WB d (fun p=>(ks.countP p:Nat))->d.length*aDj (ds.map List.length)<=100000 ->
  ∃d' a' b' c' e',WB d' (fun p=>((ds.foldl spread ks).countP p:Nat))/\aA4 (putAt 2) aDf (ds.map tupT)
   [x0,some (.dic (kvs d),.own),a,b,c,e0] n=some (.nx,[x0,some (.dic (kvs d'),.own),a',b',c',e'],n)
 |[],d,ks,a,b,c,e0,_,B,_=>⟨d,a,b,c,e0,B,by simp[aA4]⟩
 | die::ds,d,ks,a,b,c,e0,hd,B,hz=>by
  have hd0:=hd die (a7 ..);have hpw:1<=aDj (ds.map List.length):=by
   have:∀ds:List ZB,(∀x∈ds,1<=x.length)->1<=aDj (ds.map List.length):=by
    intro ds
    induction ds with
    |nil=>intro _;exact a9 _
    | cons x ds ih =>
     intro h;have:=ih fun y hy=>h y (a6 _ hy);have h1:=h x (a7 ..);show 1<=x.length*aDj (ds.map List.length);exact Nat.mul_le_mul h1 this
   exact this ds fun x hx=>hd x (a6 _ hx)
  have hz1:d.length*die.length*aDj (ds.map List.length)<=100000:=by rw[fG];exact hz
  have hz2:d.length*die.length<=100000:=ao (fQ _ hpw) hz1;obtain⟨d1,a1,b1,B1,l1,e1⟩:=aH3 d B.nd B.pos die x0 n d [] _ c e0 (fun _ h=>h) WB.nil (by simp;lia);have B2:WB d1 (fun p=>((spread ks die).countP p:Nat)):=B1.congr fun p=>by rw[aT6 B p die];simp
  rw[di,ez] at l1;obtain⟨d',a',b',c',e',B',e⟩:=aQy x0 n ds d1 (spread ks die) (some (tupT die,.fz)) none a1 b1 (fun x hx=>hd x (a6 _ hx)) B2 (ao (dy _ l1) hz1);refine⟨d',a',b',c',e',B',?_⟩;rw[a8];unfold aA4;have hk:(kvs d).map (fun kv=>keyT kv.1)=d.map fun q=>T.int q.1:=by unfold kvs;rw[b6];rfl
  have e2:aDf [x0,some (.dic (kvs d),.own),some (tupT die,.fz),b,c,e0] n=some (.nx,[x0,some (.dic (kvs d1),.own),some (tupT die,.fz),none,a1,b1],n):=by unfold aDf aHt aH9 aHw aHv;simp only[dSeq,dSet,aHp,aq,bg,bh,dFrz,fP,eE,dFor,dItS,dVar,look,walked,hk,d7];rw[show (kvs []:List (Ky × T)) = [] from rfl] at e1;rw[e1];rfl
  simp only[L2.Ds.putAt,bg,bh,aq];rw[e2];exact e
theorem countedG(h1:∀d∈ds,1<=d.length)(hz:aDj (ds.map List.length)<=100000)(n:Nat) :
  ∃d,BK d (sums ds)/\aBh [(.tup (ds.map tupT),true)] n=some (.dic (kvs d),true,n):=by
 obtain⟨d',a',b',c',e',B,e⟩:=aQy (some (.tup (ds.map tupT),.fz)) n ds [(0,1)] [0] none none none none h1 ⟨by simp,by simp,fun p=>by simp[tally,sumI];by_cases z:p 0=true<;>simp[z,sumI]⟩ (by simp;lia);rw[<-aLn] at B;refine⟨d',B,?_⟩;unfold aBh aK8 aH6;generalize aDf=BB at e |-;rw[show (kvs [(0,1)]:List (Ky × T)) = [(Sum.inl 0,.int 1)] from rfl] at e;simp! [dDic1,keyOf,dFrz,dFor,dItS,walked,e]
def prT(L:List ZH):List T:=L.map fun p=>.tup [.int p.1,.int p.2]
theorem aVl:∀L:List ZH,pairsOf (prT L)=some (kvs L)
 |[]=>rfl
 |p::L=>by have ih:=aVl L;unfold prT at ih |-;rw[a8];unfold pairsOf;show (Option.bind (some (Sum.inl p.1:Ky)) fun k=>(pairsOf _).map ((k,T.int p.2) :: ·))=_;rw[ih];rfl
theorem bBd:∀ (L A:List ZH),((A++L).map (·.1)).Nodup->(kvs L).foldl (fun d p=>aCc d p.1 p.2) (kvs A)=kvs (A++L)
 |[],A,_=>by simp[kvs]
 | p::L,A,h=>by
  have hn:(A.any fun q=>decide (q.1=p.1))=false:=by rw[<-jN,aGg];intro z;rw[c5,gG] at h;exact h.2.2 _ z _ ZJ rfl
  have e:aCc (kvs A) (.inl p.1) (.int p.2)=kvs (A ++ [p]):=by unfold aCc;rw[any_ok,hn];simp[kvs]
  have ih:=bBd L (A ++ [p]) (by simpa using h);show (kvs L).foldl (fun d p=>aCc d p.1 p.2) (aCc (kvs A) (.inl p.1) (.int p.2))=_;rw[e,ih,be];rfl
theorem pdict(nd:(L.map (·.1)).Nodup)(hl:L.length<big)(n:Nat):aMy n [.lst (prT L)]=some (.dic (kvs L),.own):=by show ((pairsOf (prT L)).bind fun ps=>if ps.length<big then some (T.dic (ps.foldl (fun d p=>aCc d p.1 p.2) []),Md.own) else none)=_;rw[aVl];have:=bBd L [] (by simpa using nd);rw[show (kvs ([]:List ZH)) = [] from rfl] at this;show (if (kvs L).length<big then some (T.dic ((kvs L).foldl (fun d p=>aCc d p.1 p.2) []),Md.own) else none)=_;rw[if_pos (by unfold kvs;rw[a5];exact hl),this];rfl
theorem bBq(nd:(d.map (·.1)).Nodup){k:Int}(h:k∈d.map (·.1))(w:Int):addW d k w=d.map fun p=>(p.1,p.2+if p.1=k then w else 0):=by
 unfold addW;rw[if_pos ((aGg d k).mpr h)];refine c8 fun p hp=>?_;by_cases e:p.1=k
 ·rw[if_pos e,if_pos e,<-e,aBv nd hp]
 ·rw[if_neg e,if_neg e];simp
theorem aKf{k:Int}(h:k∈d.map (·.1))(w:Int):(addW d k w).map (·.1)=d.map (·.1):=by unfold addW;rw[if_pos ((aGg d k).mpr h),b6];refine c8 fun p _=>?_;show (if p.1=k then _ else p).1=p.1;split<;>rfl
theorem aJd{k:Int}(h:k∉d.map (·.1))(w:Int):addW d k w=d ++ [(k,w)]:=by unfold addW;rw[if_neg (fun z=>h ((aGg d k).mp z))]
theorem aKj(nd:(d.map (·.1)).Nodup)(k w:Int):((addW d k w).map (·.1)).Nodup:=by
 by_cases h:k∈d.map (·.1)
 ·rw[aKf h];exact nd
 ·rw[aJd h,c5,gG];exact⟨nd,by simp,fun x hx y hy=>by simp at hy;subst hy;exact fun e=>h (e▸hx)⟩
theorem aZk(a b:List ZH)(k:Int)(h:k∉a.map (·.1)):cnt (a++b) k=cnt b k:=by
 induction a with
 |nil=>rfl
 | cons p a ih =>
  rw[a8] at h;rw[eJ,cnt_cons,if_neg (fun z=>h (by rw[<-z];exact a7 ..))];exact ih fun z=>h (a6 _ z)
theorem cnt_map{d:List ZH}(g:Int->Int)(k:Int):cnt (d.map fun p=>(p.1,p.2+g p.1)) k=cnt d k+if k∈d.map (·.1) then g k else 0:=by
 induction d with
 |nil=>rfl
 | cons p d ih =>
  rw[a8,cnt_cons,cnt_cons,ih,a8];by_cases e:p.1=k
  ·simp[e]
  ·have:(k∈p.1::d.map (·.1))↔k∈d.map (·.1):=by rw[ae];exact⟨fun z=>z.elim (fun z=>absurd z.symm e) id,.inr⟩
   simp only[e,if_false,this]
theorem aVt(nd:(d.map (·.1)).Nodup)(k w x:Int):cnt (addW d k w) x=cnt d x+if x=k then w else 0:=by
 by_cases h:k∈d.map (·.1)
 ·rw[bBq nd h,cnt_map (fun x=>if x=k then w else 0)];by_cases e:x=k
  ·subst e;simp[h]
  ·simp[e]
 ·rw[aJd h];by_cases e:x=k
  ·subst e;rw[aZk _ _ _ h,aDh h,cnt_cons];simp
  ·rw[if_neg e];by_cases hx:x∈d.map (·.1)
   ·obtain⟨q,hq,rfl⟩:=b7.mp hx;have n2:((d ++ [(k,w)]).map (·.1)).Nodup:=by rw[<-aJd h];exact aKj nd k w
    rw[aBv n2 (eQ _ hq),aBv nd hq];lia
   ·rw[aZk _ _ _ hx,aDh hx,cnt_cons,if_neg fun z=>e z.symm];rfl
theorem at_addW(nd:(d.map (·.1)).Nodup)(k w:Int):aDc (kvs (addW d k w)) (.inl k)=some (.int (cnt d k+w)):=by
 have hk:∃v,(k,v)∈addW d k w:=by
  by_cases h:k∈d.map (·.1)
  ·have:k∈(addW d k w).map (·.1):=by rw[aKf h];exact h
   obtain⟨q,hq,rfl⟩:=b7.mp this;exact⟨q.2,hq⟩
  ·rw[aJd h];exact⟨w,by simp⟩
 obtain⟨v,hv⟩:=hk;rw[aGx (aKj nd k w) hv];have:=aBv (aKj nd k w) hv;rw[aVt nd] at this;simp at this;rw[<-this]
theorem bB1(nd:(d.map (·.1)).Nodup){k:Int}(h:k∈d.map (·.1))(n:Nat):pGet n [.dic (kvs d),.int k]=some (.int (cnt d k),.fz):=by obtain⟨q,hq,rfl⟩:=b7.mp h;have:=aGx nd (show (q.1,q.2)∈d from hq);rw[aBv nd hq];show ((aDc (kvs d) (.inl q.1)).map fun t=>(t,Md.fz))=_;rw[this];rfl
theorem aSy(ndt:(t.map (·.1)).Nodup)(pt:∀q∈t,1<=q.2)(x0:Option (T × Md))(n:Nat):∀ (l:List ZH) (e:List ZH) (x3:Option (T × Md)),(∀q∈l,q∈t)->(l.map (·.1)).Nodup->Bk e\/(e.map (·.1)).Nodup->(e.map (·.1)).Nodup->e.length+l.length<=100000 ->
  ∃x3',((∀q∈l,q.2<=cnt e q.1)->aA4 (putAt 3) aEk (l.map fun q=>T.int q.1) [x0,some (.dic (kvs t),.fz),some (.dic (kvs e),.own),x3] n=some (.nx,[x0,some (.dic (kvs t),.fz),some (.dic (kvs (l.foldl (fun e q=>addW e q.1 (-q.2)) e)),.own),x3'],n)) /\
   ((¬ ∀q∈l,q.2<=cnt e q.1)->∃ρ,aA4 (putAt 3) aEk (l.map fun q=>T.int q.1) [x0,some (.dic (kvs t),.fz),some (.dic (kvs e),.own),x3] n=some (.rt .non false,ρ,n))
 |[],e,x3,_,_,_,_,_=>⟨x3,fun _=>by simp[aA4],fun h=>absurd ZJ h⟩
 | q::l,e,x3,hl,ndl,_,nde,hz=>by
  have hB:big=1000000:=rfl;rw[aa] at hz;rw[a8] at ndl;obtain⟨n1,n2⟩:=dY.mp ndl;have hq:=hl q (a7 ..);have nd1:=aKj nde q.1 (-q.2);have l1:=aMq e q.1 (-q.2);obtain⟨x3',ih1,ih2⟩:=aSy ndt pt x0 n l (addW e q.1 (-q.2)) (some (.int q.1,.fz)) (fun q hq=>hl q (a6 _ hq)) n2 (.inr nd1) nd1 ZA;have hc:∀p∈l,cnt (addW e q.1 (-q.2)) p.1=cnt e p.1:=fun p hp=>by rw[aVt nde,if_neg (fun z=>n1 (by rw[<-z];exact bw (f:=(·.1)) hp))];lia
  have g1:pGet n [.dic (kvs t),.int q.1]=some (.int q.2,.fz):=by rw[bB1 ndt (bw (f:=(·.1)) hq),aBv ndt hq]
  have g0:aC4 n [.dic (kvs e),.int q.1,.int 0]=some (.int (cnt e q.1),.fz):=by have h:=aIo e q.1;have e':aC4 n [.dic (kvs e),.int q.1,.int 0]=some ((aDc (kvs e) (.inl q.1)).getD (.int 0),.fz):=rfl;rw[e',h]
  have st:setL (.dic (kvs e)) (.int q.1) (.int (cnt e q.1 - q.2))=some (.dic (kvs (addW e q.1 (-q.2)))):=by rw[aYi];show (if (kvs e).length<big then some (T.dic (aCc (kvs e) (.inl q.1) (.int (cnt e q.1 - q.2)))) else none)=_;rw[if_pos (by unfold kvs;rw[a5];lia),iq,aTx]
  have g2:pGet n [.dic (kvs (addW e q.1 (-q.2))),.int q.1]=some (.int (cnt e q.1 - q.2),.fz):=by show ((aDc (kvs (addW e q.1 (-q.2))) (.inl q.1)).map fun t=>(t,Md.fz))=_;rw[at_addW nde,iq];rfl
  by_cases c:cnt e q.1 - q.2<0
  ·refine⟨x3',fun h=>?_,fun _=>?_⟩
   ·have:=h q (a7 ..);lia
   ·have one:aEk [x0,some (.dic (kvs t),.fz),some (.dic (kvs e),.own),some (.int q.1,.fz)] n=some (.rt .non false,[x0,some (.dic (kvs t),.fz),some (.dic (kvs (addW e q.1 (-q.2))),.own),some (.int q.1,.fz)],n):=by unfold aEk;generalize kvs (addW e q.1 (-q.2))=ke' at *;generalize kvs e=ke at *;generalize kvs t=kt at *;simp! [aCj,g0,g1,pSub,pI2,st,g2,pLt,c]
    refine⟨[x0,some (.dic (kvs t),.fz),some (.dic (kvs (addW e q.1 (-q.2))),.own),some (.int q.1,.fz)],?_⟩;rw[a8];unfold aA4;simp only[L2.Ds.putAt,bg,bh,aq];rw[one];rfl
  ·have one:aEk [x0,some (.dic (kvs t),.fz),some (.dic (kvs e),.own),some (.int q.1,.fz)] n=some (.nx,[x0,some (.dic (kvs t),.fz),some (.dic (kvs (addW e q.1 (-q.2))),.own),some (.int q.1,.fz)],n):=by unfold aEk;generalize kvs (addW e q.1 (-q.2))=ke' at *;generalize kvs e=ke at *;generalize kvs t=kt at *;simp! [aCj,g0,g1,pSub,pI2,st,g2,pLt,c]
   have turn:∀x,aA4 (putAt 3) aEk ((q::l).map fun q=>T.int q.1) [x0,some (.dic (kvs t),.fz),some (.dic (kvs e),.own),x] n=aA4 (putAt 3) aEk (l.map fun q=>T.int q.1) [x0,some (.dic (kvs t),.fz),some (.dic (kvs (addW e q.1 (-q.2))),.own),some (.int q.1,.fz)] n:=fun x=>by rw[a8];show (Option.bind _ _)=_;simp only[L2.Ds.putAt,bg,bh,aq];rw[one];rfl
   refine⟨x3',fun h=>?_,fun h=>?_⟩
   ·rw[turn,ih1 fun p hp=>by rw[hc p hp];exact h p (a6 _ hp)];rfl
   ·rw[turn];refine ih2 fun z=>h fun p hp=>?_;rcases ae.mp hp with rfl |hp
    ·lia
    ·rw[<-hc p hp];exact z p hp
theorem fold_add:∀ (l e:List ZH),(e.map (·.1)).Nodup->(l.map (·.1)).Nodup->(∀q∈l,q.1∈e.map (·.1))->l.foldl (fun e q=>addW e q.1 (-q.2)) e=e.map fun p=>(p.1,p.2 - cnt l p.1)
 |[],e,_,_,_=>by refine((c8 (g:=id) fun p _=>?_).trans (jM _)).symm;show (p.1,p.2 - 0)=p;simp
 | q::l,e,nd,ndl,h=>by
  rw[a8] at ndl;obtain⟨n1,n2⟩:=dY.mp ndl;have hk:=h q (a7 ..);rw[cj,fold_add l _ (aKj nd _ _) n2 (fun p hp=>by rw[aKf hk];exact h p (a6 _ hp)),bBq nd hk,b6];refine c8 fun p _=>?_;show (p.1,p.2+(if p.1=q.1 then -q.2 else 0) - cnt l p.1)=(p.1,p.2 - cnt (q::l) p.1)
  rw[cnt_cons];by_cases e:p.1=q.1
  ·rw[if_pos e,if_pos e.symm,e,aDh n1];congr 1;lia
  ·rw[if_neg e,if_neg fun z=>e z.symm];congr 1;lia
theorem rest(B:Bk d)(Bt:Bk t)(hl:d.length+t.length<=100000)(b:Bool)(n:Nat) :
  (Fits d (cnt t)->aFx [(.dic (kvs d),b),(.dic (kvs t),true)] n=some (.dic (kvs (subs d (cnt t))),true,n)) /\
  (¬Fits d (cnt t)->aFx [(.dic (kvs d),b),(.dic (kvs t),true)] n=some (.non,false,n)):=by
 have hB:big=1000000:=rfl;have fit:(∀q∈t,q.2<=cnt d q.1)↔Fits d (cnt t):=by
  constructor
  ·intro h k;by_cases z:k∈t.map (·.1)
   ·obtain⟨q,hq,rfl⟩:=b7.mp z;rw[aBv Bt.nd hq];exact h q hq
   ·rw[aDh z];exact B.nonneg k
  ·intro h q hq;rw[<-aBv Bt.nd hq];exact h q.1
 have m0:(if b then Md.fz else Md.bor) = .fz\/(if b then Md.fz else Md.bor) = .bor:=by cases b<;>simp
 obtain⟨x3,h1,h2⟩:=aSy Bt.nd Bt.pos (some (.dic (kvs d),if b then Md.fz else Md.bor)) n t d none (fun _ h=>h) Bt.nd (.inl B) B.nd hl;have it:dItS (dVar 1) [some (.dic (kvs d),if b then Md.fz else Md.bor),some (.dic (kvs t),.fz),some (.dic (kvs d),.own),none] n=some (t.map fun q=>T.int q.1,n):=by rw[<-aMz];rfl
 have pd:aMy n [.dic (kvs d)]=some (.dic (kvs d),.own):=rfl;constructor
 ·intro f;have e:=h1 (fit.mpr f);rw[fold_add t d B.nd Bt.nd fun q hq=>B.mem (fc (Bt.pos q hq) (fit.mpr f q hq))] at e;have lp:dFrz 1 aF7 [some (.dic (kvs d),if b then Md.fz else Md.bor),some (.dic (kvs t),.fz),some (.dic (kvs d),.own),none] n=some (.nx,[some (.dic (kvs d),if b then Md.fz else Md.bor),some (.dic (kvs t),.fz),some (.dic (kvs (d.map fun p=>(p.1,p.2 - cnt t p.1))),.own),x3],n):=by rw[bBr (t:=.dic (kvs t)) rfl];unfold aF7 dFor;rw[it];exact e
  have nd':((d.map fun p=>(p.1,p.2 - cnt t p.1)).map (·.1)).Nodup:=by rw[b6];exact B.nd
  have len:(d.map fun p=>(p.1,p.2 - cnt t p.1)).length=d.length:=a5 ..;have sb:subs d (cnt t)=(d.map fun p=>(p.1,p.2 - cnt t p.1)).filter fun p=>decide (0<p.2):=rfl;have nds:=(B.subs (cnt t)).nd;rw[sb] at nds |-;generalize (d.map fun p=>(p.1,p.2 - cnt t p.1))=e' at *;have c0:aTw [some (.dic (kvs d),if b then Md.fz else Md.bor),some (.dic (kvs t),.fz),some (.dic (kvs e'),.fz),x3] n=some (.lst (prT (e'.filter fun p=>decide (0<p.2))),.own,n):=by
   unfold prT;refine aF3 e' (fun q=>T.int q.1) (fun p=>decide (0<p.2)) (fun p=>.tup [.int p.1,.int p.2]) ?_ ZA fun p hp=>?_
   ·rw[<-aMz];rfl
   ·have g:=bB1 nd' (bw (f:=(·.1)) hp) n;rw[aBv nd' hp] at g;generalize kvs e'=ke at *;constructor
    ·simp! [srcOf,g,pGt,pI2]
    ·intro _;have b2:2<=big:=by decide
     simp! [srcOf,g,b2]
  have p2:=pdict nds (by have:=fZ (fun p:Int × Int=>decide (0<p.2)) e';lia) n;have fr:∀dd:DS,aBp 2 dd [some (.dic (kvs d),if b then Md.fz else Md.bor),some (.dic (kvs t),.fz),some (.dic (kvs e'),.own),x3] n=dd [some (.dic (kvs d),if b then Md.fz else Md.bor),some (.dic (kvs t),.fz),some (.dic (kvs e'),.fz),x3] n:=fun _=>rfl;unfold aFx aYt;generalize prT (e'.filter fun p=>decide (0<p.2))=pr at *;generalize kvs (e'.filter fun p=>decide (0<p.2))=ks at *;generalize kvs e'=ke at *;generalize kvs d=kd at *;generalize kvs t=kt at *;generalize dFrz 1 aF7=LL at *;generalize aTw=CC at *;generalize aBp 2=FF at *;cases b
  ·simp only[bu,if_false] at *;simp! [pd,lp,fr,c0,p2]
  ·simp only[if_true] at *;simp! [pd,lp,fr,c0,p2]
 ·intro f;obtain⟨ρ,e⟩:=h2 fun z=>f (fit.mp z);have lp:dFrz 1 aF7 [some (.dic (kvs d),if b then Md.fz else Md.bor),some (.dic (kvs t),.fz),some (.dic (kvs d),.own),none] n=some (.rt .non false,ρ,n):=by rw[bBr (t:=.dic (kvs t)) rfl];unfold aF7 dFor;rw[it];exact e
  unfold aFx aYt;generalize kvs d=kd at *;generalize kvs t=kt at *;generalize dFrz 1 aF7=LL at *;cases b
  ·simp only[bu,if_false] at *;simp! [pd,lp]
  ·simp only[if_true] at *;simp! [pd,lp]
structure Tots (L:List ZH):Prop where
 ne:L ≠ []
 up:(L.map (·.1)).Pairwise (· < ·)
 rng:∀q∈L,0<=q.1/\q.1<=120/\1<=q.2/\q.2<=4096
theorem Tots.bk(h:Tots L):Bk L:=⟨h.up.imp fun {a b} e=>by omega,fun q hq=>(h.rng q hq).2.2.1⟩
theorem Tots.len(h:Tots L):L.length<=121:=by
 have:=nodup_in (a:=0) (b:=121) (p:=L.map (·.1)) (fun x hx=>by
  obtain⟨q,hq,rfl⟩:=b7.mp hx;have:=h.rng q hq
  omega) h.bk.nd
 rw[a5] at this;omega
theorem aY9{k v:Int}(h1:0<=k)(h2:k<=120)(h3:1<=v)(h4:v<=4096)(n:Nat):aCr [(.tup [.int k,.int v],true)] n=some (.bl true,false,n):=by have e1:=aHk k 0 120 n h1 h2;have e2:=aHk v 1 4096 n h3 h4;have e3:pNe n [.int 2,.int 2]=some (.bl false,.fz):=rfl;unfold aCr aFy;simp! [pIsI,q_ty3,aD7,e3,aQv,at?,e1,e2]
theorem aVy:∀ {l:List Int},l.Pairwise (· < ·)->aF5 l=l
 |[],_=>rfl
 | x::l,h=>by
  obtain⟨h1,h2⟩:=ck.mp h;have ih:=aVy h2;have e:aF5 (x::l)=if x∈aF5 l then aF5 l else x::aF5 l:=rfl
  rw[e,ih,if_neg fun z=>by have:=h1 x z;omega]
theorem aTy(h:Tots L)(b:Bool)(n:Nat):aDa [(.lst (prT L),b)] n=some (.non,false,n):=by
 have hB:big=1000000:=rfl;have hl:=h.len;have rows:∀m:Md,aE5 [some (.lst (prT L),m),none] n=some (.lst (L.map fun _=>.bl true),.own,n):=by
  intro m;refine aCq L (fun p=>.tup [.int p.1,.int p.2]) (fun _=>.bl true) ?_ ZM fun q hq=>?_
  ·unfold dIt;cases m<;>rfl
  ·obtain⟨a,b,c,d⟩:=h.rng q hq;have e:=aY9 a b c d n;simp! [srcOf,e]
 have heads:∀m:Md,aE6 [some (.lst (prT L),m),none] n=some (.lst ((L.map (·.1)).map T.int),.own,n):=by
  intro m;rw[b6];refine aCq L (fun p=>.tup [.int p.1,.int p.2]) (T.int∘(·.1)) ?_ ZM fun q hq=>?_
  ·unfold dIt;cases m<;>rfl
  ·simp! [srcOf,aQv,at?]
 have all:pAll n [.lst (L.map fun _=>.bl true)]=some (.bl true,.fz):=by
  have e:(L.map fun _=>T.bl true)=(L.map fun _=>true).map T.bl:=by rw[b6];rfl
  have bools:∀l:List Bool,boolsOf (l.map T.bl)=some l:=by
   intro l
   induction l with
   |nil=>rfl
   |cons b l ih=>rw[a8];unfold boolsOf;rw[ih];rfl
  rw[q_all,e,bools];simp
 have srt:aJm n [.lst ((L.map (·.1)).map T.int)]=some (.lst ((L.map (·.1)).map T.int),.own):=by
  show (aK9 n [.lst ((L.map (·.1)).map T.int)]).map _=_;have e:aK9 n [.lst ((L.map (·.1)).map T.int)]=(intsOf ((L.map (·.1)).map T.int)).bind fun ns=>if ns.length+1<4096 then some ns else none:=rfl
  rw[e,aBk,aq,if_pos (by rw[a5];omega),d7,aVy h.up];have es:sortI (L.map (·.1))=L.map (·.1):=(aI3 (.refl _) (h.up.imp fun {a b} z=>by omega)).symm;rw[es]
 have eq:pEq n [.lst ((L.map (·.1)).map T.int),.lst ((L.map (·.1)).map T.int)]=some (.bl true,.fz):=by rw[aZ1,aG4 (by show ((L.map (·.1)).map T.int).all (aAo 5)=true;exact aEd 5 _)];rfl
 have ne:(prT L).isEmpty=false:=by
  have:=h.ne;cases L with
  |nil=>exact absurd rfl this
  |cons q L=>rfl
 have it:aEs [(.lst (prT L),b)] n=some (.bl true,false,n):=by
  unfold aEs aJ9;have r:=rows (if b then .fz else .bor);have hd:=heads (if b then .fz else .bor);generalize (L.map fun _=>T.bl true)=rw' at *;generalize (L.map (·.1)).map T.int=hh at *;generalize prT L=pl at *;generalize aE5=C0 at *;generalize aE6=C1 at *;cases b
  ·simp only[bu,if_false] at r hd;simp! [pIsI,aYy,ne,aBp,r,all,hd,srt,eq]
  ·simp only[if_true] at r hd;simp! [pIsI,aYy,ne,aBp,r,all,hd,srt,eq]
 unfold aDa aG5;generalize prT L=pl at *;cases b<;>simp! [it]
theorem keys_int(d:List ZH):intKeys (kvs d)=some (d.map (·.1)):=by
 induction d with
 |nil=>rfl
 | cons p d ih =>
  show ((intKeys (kvs d)).map (p.1 :: ·))=_;rw[ih];rfl
theorem min_dic(h:d ≠ [])(n:Nat):pMin n [.dic (kvs d)]=some (.int (low d),.fz):=by show ((intKeys (kvs d)).bind fun ns=>(least ns).map fun i=>(T.int i,Md.fz))=_;rw[keys_int,aq,(aVc h).1];rfl
def cS(ds:List ZB)(k:Int):Int:=(((sums ds).countP fun x=>x==k:Nat):Int)
theorem aJl(ds:List ZB)(k:Int):0<=cS ds k:=Int.natCast_nonneg _
def fitB(d:List ZH)(ds:List ZB):Bool:=(sums ds).all fun k=>decide (cS ds k<=cnt d k)
theorem aI8(B:Bk d)(ds:List ZB):fitB d ds=true↔Fits d (cS ds):=by
 unfold fitB;rw[br];constructor
 ·intro h k;by_cases z:k∈sums ds
  ·simpa using h k z
  ·have:cS ds k=0:=by unfold cS;rw[fu.mpr fun x hx=>by intro e;exact z (by rw[<- (by simpa using e:x=k)];exact hx)];rfl
   rw[this];exact B.nonneg k
 ·intro h k _;simpa using h k
def aCw(d:List ZH)(ds:List ZB):List ZH:=subs d (cS ds)
def wf(ds:List ZB)(p:Nat)(x:Int):List ZB:=ds.set p (ds.getD p [] ++ [x])
def aIa(sizes:List Int)(ds:List ZB):List Nat:=(List.range ds.length).filter fun p=>decide (((ds.getD p []).length:Int)<sizes.getD p 0)
def aFw(d:List ZH)(sizes:List Int)(ds:List ZB):List (List ZB) :=
 if fitB d ds && !(aCw d ds).isEmpty then (aIa sizes ds).map fun p=>wf ds p (low (aCw d ds)) else []
theorem BK.bk(B:BK d s):Bk d:=⟨B.nd,B.pos⟩
theorem aUc(B:Bk d)(hd:d.length<=10000)(h1:∀x∈ds,1<=x.length)(hz:aDj (ds.map List.length)<=10000)(hs:(sums ds).length<=10000)(b:Bool)(n:Nat) :
  ∃t,aBh [(rwsT ds,true)] n=some (.dic (kvs t),true,n) /\
   (fitB d ds=true->aFx [(.dic (kvs d),b),(.dic (kvs t),true)] n=some (.dic (kvs (aCw d ds)),true,n))/\(fitB d ds=false->aFx [(.dic (kvs d),b),(.dic (kvs t),true)] n=some (.non,false,n)):=by
 obtain⟨t,Bt,e⟩:=countedG h1 ZM n;have fe:cnt t=cS ds:=funext fun k=>Bt.cnt k;have tl:=Bt.dlen;obtain⟨r1,r2⟩:=rest B Bt.bk ZM b n;rw[fe] at r1 r2;refine⟨t,e,fun h=>r1 ((aI8 B ds).mp h),fun h=>r2 fun z=>?_⟩;rw[(aI8 B ds).mpr z] at h;cases h
theorem aKs(ds:List ZB){p:Nat}(h:p<ds.length)(n:Nat):pGet n [.tup (ds.map tupT),.int (p:Int)]=some (tupT (ds.getD p []),.fz):=by show ((at? (ds.map tupT) (p:Int)).map fun t=>(t,Md.fz))=_;unfold at?;rw[if_pos ZM,if_pos (by rw[a5];omega),du,bo,ai h,az,ai h];rfl
theorem getInt(l:List Int){p:Nat}(h:p<l.length)(n:Nat):pGet n [tupT l,.int (p:Int)]=some (.int (l.getD p 0),.fz):=by show ((at? (l.map T.int) (p:Int)).map fun t=>(t,Md.fz))=_;unfold at?;rw[if_pos ZM,if_pos (by rw[a5];omega),du,bo,ai h,az,ai h];rfl
theorem aTr(a b:List T)(h:a.length+b.length<=big)(n:Nat):pAdd n [.tup a,.tup b]=some (.tup (a++b),.fz):=by show (if a.length+b.length<=big then some (T.tup (a++b),Md.fz) else none)=_;rw[if_pos h]
theorem aQw{α:Type}(l:List α)(x:α){p:Nat}(h:p<l.length):l.take p ++ [x]++l.drop (p+1)=l.set p x:=by rw[gH,if_pos h,be];rfl
theorem aZf{p:Nat}(h:p<ds.length)(hl:ds.length<=10)(hz:(ds.getD p []).length<=100)(x:Int)(n:Nat):aEp [(rwsT ds,true),(.int (p:Int),true),(.int x,true)] n=some (rwsT (wf ds p x),false,n):=by
 have hB:big=1000000:=rfl;have b1:1<=big:=by decide
 have s1:cutT (ds.map tupT) none (some (p:Int))=(ds.take p).map tupT:=(aH5 _ p).trans (i5).symm;have s2:cutT (ds.map tupT) (some ((p:Int)+1)) none=(ds.drop (p+1)).map tupT:=(aEg (ds.map tupT) (p+1)).trans (List.map_drop).symm;have g:=aKs ds h n;have a1:pAdd n [tupT (ds.getD p []),.tup [.int x]]=some (tupT (ds.getD p [] ++ [x]),.fz):=by unfold tupT;rw[aTr _ _ (by rw[a5];show _+1<=_;omega),c5];rfl
 have a2:pAdd n [.tup ((ds.take p).map tupT),.tup [tupT (ds.getD p [] ++ [x])]]=some (.tup ((ds.take p ++ [ds.getD p [] ++ [x]]).map tupT),.fz):=by rw[aTr _ _ (by rw[a5,c7];show _+1<=_;omega),c5];rfl
 have a3:pAdd n [.tup ((ds.take p ++ [ds.getD p [] ++ [x]]).map tupT),.tup ((ds.drop (p+1)).map tupT)]=some (rwsT (wf ds p x),.fz):=by rw[aTr _ _ (by rw[a5,a5,bf,c7,d8];show _+1+_<=_;omega),<-c5,aQw _ _ h];rfl
 unfold rwsT at a3 |-;generalize T.tup ((wf ds p x).map tupT)=out at *;generalize (ds.take p ++ [ds.getD p [] ++ [x]]).map tupT=o2 at *;generalize tupT (ds.getD p [] ++ [x])=o1 at *;generalize tupT (ds.getD p [])=o0 at *;generalize (ds.take p).map tupT=tk at *;generalize (ds.drop (p+1)).map tupT=dp at *;generalize ds.map tupT=dd at *;unfold aEp aK0 dSl2 aF9 aGn;simp! [s1,s2,g,a1,a2,a3,b1,aCx]
structure Sh (ds:List ZB):Prop where
 many:ds.length<=3
 one:∀x∈ds,1<=x.length
 most:∀x∈ds,x.length<=8
theorem Sh.rolls(h:Sh ds):aDj (ds.map List.length)<=512/\(sums ds).length<=512:=by have:=bA1 h.most;have:8^ds.length<=8^3:=dz ZE h.many;rw[aJf,<-aYp];omega
theorem grown(B:Bk d)(hd:d.length<=1000)(S:Sh ds)(hz:sizes.length=ds.length)(b:Bool)(n:Nat) :
  aGj [(.dic (kvs d),b),(tupT sizes,true),(rwsT ds,true)] n=some (.lst ((aFw d sizes ds).map rwsT),true,n):=by
 have hB:big=1000000:=rfl;have b0:0<=big:=by decide
 obtain⟨r1,r2⟩:=S.rolls;obtain⟨t,e1,e2,e3⟩:=aUc B ZM S.one ZM ZM false n;obtain⟨t',e1',e2',e3'⟩:=aUc B ZM S.one ZM ZM true n;rw[e1] at e1';have tt:kvs t=kvs t':=by injection e1' with z;injection z with z;injection z
 rw[<-tt] at e2' e3';have many:=S.many;unfold aFw;cases f:fitB d ds with
 | false =>
  have e3:=e3 f;have e3':=e3' f;rw[if_neg ZJ];unfold aGj aMu;generalize kvs t=kt at *;generalize kvs d=kd at *;generalize rwsT ds=dd at *;generalize tupT sizes=sz at *;cases b<;>simp! [e1,e3,e3',dLst,b0]
 | true =>
  have e2:=e2 f;have e2':=e2' f;by_cases em:aCw d ds = []
  ·rw[em] at e2 e2' |-;rw[if_neg ZJ];have ke:kvs []=([]:List (Ky × T)):=rfl;rw[ke] at e2 e2';unfold aGj aMu;generalize kvs t=kt at *;generalize kvs d=kd at *;generalize rwsT ds=dd at *;generalize tupT sizes=sz at *;cases b<;>simp! [e1,e2,e2',dLst,b0]
  ·have mn:=min_dic em n;have ne:(aCw d ds).isEmpty=false:=by cases z:aCw d ds with |nil=>exact absurd z em |cons _ _=>rfl
   rw[ne,if_pos ZJ];have tr:tru (.dic (kvs (aCw d ds)))=some true:=by
    cases z:aCw d ds with
    |nil=>exact absurd z em
    |cons _ _=>rfl
   generalize low (aCw d ds)=x at *;generalize kvs (aCw d ds)=kl at *;have cc:∀m0:Md,aNa [some (.dic (kvs d),m0),some (tupT sizes,.fz),some (rwsT ds,.fz),some (.dic kl,.own),some (.int x,.fz)] n=some (.lst (((aIa sizes ds).map fun p=>wf ds p x).map rwsT),.own,n):=fun m0=>by
    rw[b6];unfold aIa;refine aF3 (List.range ds.length) (fun p:Nat=>T.int p) (fun p=>decide (((ds.getD p []).length:Int)<sizes.getD p 0)) (rwsT∘fun p=>wf ds p x) ?_ (by rw[gD];omega) fun p hp=>?_
    ·have ln:pLen n [rwsT ds]=some (.int (ds.length:Int),.fz):=by unfold rwsT;rw[aD7,a5]
     have:=aT7 (a:=aAa (dPr pLen (aAa (dVar 2) dNil)) dNil) (ρ:=[some (.dic (kvs d),m0),some (tupT sizes,.fz),some (rwsT ds,.fz),some (.dic kl,.own),some (.int x,.fz)]) (n:=n) (n':=n) (j:=(ds.length:Int)) (by
      generalize rwsT ds=dd at *
      cases dd<;>first |simp! [ln] |cases ln) ZM ZM
     rw[this,aVg]
    ·have hp:p<ds.length:=ej.mp hp;have g1:=aKs ds hp n;have g2:=getInt sizes (p:=p) ZM n;have l1:pLen n [tupT (ds.getD p [])]=some (.int ((ds.getD p []).length:Int),.fz):=by unfold tupT;rw[aD7,a5]
     have hx:ds.getD p []∈ds:=by rw[az,ai hp];exact cv hp
     have w:=aZf hp ZM (by have:=S.most _ hx;omega) x n;have rw0:T.tup (ds.map tupT)=rwsT ds:=rfl;rw[rw0] at g1;constructor
     ·generalize (ds.getD p []).length=ll at *;generalize tupT (ds.getD p [])=dp at *;generalize rwsT ds=dd at *;generalize tupT sizes=sz at *;generalize kvs d=kd at *;simp! [srcOf,g1,g2,l1,pLt,pI2]
     ·intro _;show _=some (rwsT (wf ds p x),Md.fz,n);generalize rwsT (wf ds p x)=ww at *;generalize rwsT ds=dd at *;generalize tupT sizes=sz at *;generalize kvs d=kd at *;simp! [srcOf,w]
   unfold aGj aMu;generalize (((aIa sizes ds).map fun p=>wf ds p x).map rwsT)=out at *;generalize kvs t=kt at *;generalize kvs d=kd at *;generalize rwsT ds=dd at *;generalize tupT sizes=sz at *;generalize aNa=CC at *;have nk:kl.isEmpty=false:=by have tr:some (!kl.isEmpty)=some true:=tr;simpa using tr
   cases b<;>simp! [e1,e2,e2',nk,mn,cc]
theorem aYq(l:List Int):rowOf (tupT l)=some l:=aBk l
theorem aMc:∀ls:List ZB,aJn (ls.map tupT)=some ls
 |[]=>rfl
 |l::ls=>by rw[a8,aJn,aYq,aq,aMc ls];rfl
theorem aLt(ls:List ZB):rowsOf (rwsT ls)=some ls:=aMc ls
theorem aPk(ks:List (List ZB))(k:List ZB):(aDs ks k).length<=ks.length+1:=by
 unfold aDs;split
 ·omega
 ·simp
theorem aYe:x∈aDs ks k↔x∈ks\/x=k:=by
 unfold aDs;split
 ·rename_i h;rw[gz] at h;obtain⟨y,hy,e⟩:=h;have e:y=k:=by simpa using e
  subst e;exact⟨.inl,fun h=>h.elim id fun z=>z▸hy⟩
 ·rw[ci,b8]
theorem aGh:∀ (gs ks:List (List ZB)),(gs.foldl aDs ks).length<=ks.length+gs.length
 |[],ks=>by simp
 |g::gs,ks=>by have:=aGh gs (aDs ks g);have:=aPk ks g;rw[cj,aa];omega
theorem aF4:∀ {gs ks:List (List ZB)},x∈gs.foldl aDs ks↔x∈ks\/x∈gs
 |[],ks=>by simp
 |g::gs,ks=>by rw[cj,aF4,aYe,ae,or_assoc]
theorem aU3(x0 x1 x2 x3 x4 x6:Option (T × Md))(n:Nat):∀ (gs ks:List (List ZB)) (x7:Option (T × Md)),ks.length+gs.length<=900000 ->
  ∃x7',aA4 (putAt 7) aDq (gs.map rwsT) [x0,x1,x2,x3,x4,some (.rdc ks,.own),x6,x7] n=some (.nx,[x0,x1,x2,x3,x4,some (.rdc (gs.foldl aDs ks),.own),x6,x7'],n)
 |[],ks,x7,_=>⟨x7,rfl⟩
 | g::gs,ks,x7,h=>by
  have hB:big=1000000:=rfl;rw[aa] at h;have pl:=aPk ks g;obtain⟨x7',ih⟩:=aU3 x0 x1 x2 x3 x4 x6 n gs (aDs ks g) (some (rwsT g,.fz)) ZM;refine⟨x7',?_⟩;have st:setR (.rdc ks) (rwsT g) (.bl true)=some (.rdc (aDs ks g)):=by show (rowsOf (rwsT g)).bind (fun ls=>if ks.length<big then some (T.rdc (aDs ks ls)) else none)=_;rw[aLt,aq,if_pos ZM]
  have one:aDq [x0,x1,x2,x3,x4,some (.rdc ks,.own),x6,some (rwsT g,.fz)] n=some (.nx,[x0,x1,x2,x3,x4,some (.rdc (aDs ks g),.own),x6,some (rwsT g,.fz)],n):=by unfold aDq;generalize rwsT g=rg at *;simp! [aCj,st]
  rw[a8];unfold aA4;simp only[L2.Ds.putAt,bg,bh,aq];rw[one];exact ih
def aE8(d:List ZH)(sz:List Int)(found:List (List ZB)):List (List ZB):=(found.flatMap (aFw d sz)).foldl aDs []
def aEj(d:List ZH)(sz:List Int):Nat->List (List ZB)->List (List ZB)
 |0,f=>f
 |k+1,f=>aEj d sz k (aE8 d sz f)
structure Gr (sz:List Int) (ds:List ZB):Prop where
 len:ds.length=sz.length
 one:∀x∈ds,1<=x.length
 fit:∀p,p<ds.length->((ds.getD p []).length:Int)<=sz.getD p 0
theorem getD_mem{α:Type}{l:List α}{p:Nat}{z:α}(h:p<l.length):l.getD p z∈l:=by rw[az,ai h];exact cv h
theorem mem_getD{α:Type}{l:List α}{x:α}(z:α)(h:x∈l):∃p,p<l.length/\l.getD p z=x:=by obtain⟨p,hp,e⟩:=List.getElem_of_mem h;exact⟨p,hp,by rw[az,ai hp];exact e⟩
theorem Gr.sh(g:Gr sz ds)(h3:sz.length<=3)(h8:∀s∈sz,s<=8):Sh ds:=⟨by rw[g.len];exact h3,g.one,fun x hx=>by
 obtain⟨p,hp,rfl⟩:=mem_getD [] hx;have h1:=g.fit p hp;have h2:=h8 _ (getD_mem (l:=sz) (z:=0) (p:=p) (by rw[<-g.len];exact hp))
 omega⟩
theorem Gr.grow(g:Gr sz ds)(h:e∈aFw d sz ds):Gr sz e/\∃p,p<ds.length/\e=wf ds p (low (aCw d ds))/\fitB d ds=true/\aCw d ds ≠ []:=by
 unfold aFw at h;split at h
 ·rename_i c;rw[bq] at c;obtain⟨p,hp,rfl⟩:=b7.mp h;unfold aIa at hp;rw[dX,ej] at hp;obtain⟨hp,hlt⟩:=hp;have hlt:((ds.getD p []).length:Int)<sz.getD p 0:=by simpa using hlt
  refine⟨⟨?_,fun x hx=>?_,fun q hq=>?_⟩,p,hp,rfl,c.1,fun z=>by rw[z] at c;simp at c⟩
  ·unfold wf;rw[d4];exact g.len
  ·rcases fw hx with hx |rfl
   ·exact g.one x hx
   ·simp
  ·unfold wf at hq |-;rw[d4] at hq;rw[az,gC];by_cases z:p=q
   ·subst z;rw[if_pos rfl,if_pos hp];show ((ds.getD p [] ++ [low (aCw d ds)]).length:Int)<=_;rw[bf,fU];omega
   ·rw[if_neg z,<-az];exact g.fit q hq
 ·cases h
theorem aR2(d:List ZH)(sz:List Int)(ds:List ZB):(aFw d sz ds).length<=ds.length:=by
 unfold aFw;split
 ·rw[a5];unfold aIa;have:=fZ (fun p=>decide (((ds.getD p []).length:Int)<sz.getD p 0)) (List.range ds.length);rw[gD] at this;exact this
 ·simp
theorem aI4{α β:Type}{f:α->List β}{m:Nat}:∀ {l:List α},(∀x∈l,(f x).length<=m)->(l.flatMap f).length<=l.length*m
 |[],_=>by simp
 |x::l,h=>by have:=aI4 (f:=f) (m:=m) (l:=l) fun y hy=>h y (a6 _ hy);have:=h x (a7 ..);rw[dQ,bf,aa,fO];omega
theorem aR5(h:∀ds∈f,Gr sz ds):(∀ds∈aE8 d sz f,Gr sz ds)/\(aE8 d sz f).length<=f.length*sz.length:=by
 constructor
 ·intro ds hds;unfold aE8 at hds;rcases aF4.mp hds with z |z
  ·cases z
  ·obtain⟨e,he,hd⟩:=fj.mp z;exact((h e he).grow hd).1
 ·unfold aE8;have h1:=aGh (f.flatMap (aFw d sz)) [];have h2:=aI4 (f:=aFw d sz) (m:=sz.length) (l:=f) fun ds hds=>by rw[<- (h ds hds).len];exact aR2 d sz ds
  rw[di] at h1;omega
theorem aQ0(B:Bk d)(hd:d.length<=1000)(h3:sz.length<=3)(h8:∀s∈sz,s<=8)(x0 x3 x4:Option (T × Md))(n:Nat):∀ (f ks:List (List ZB)) (x6 x7:Option (T × Md)),(∀ds∈f,Gr sz ds)->ks.length+f.length*3<=900000 ->
  ∃x6' x7',aA4 (putAt 6) aEy (f.map rwsT) [x0,some (tupT sz,.fz),some (.dic (kvs d),.own),x3,x4,some (.rdc ks,.own),x6,x7] n=some (.nx,[x0,some (tupT sz,.fz),some (.dic (kvs d),.own),x3,x4,some (.rdc ((f.flatMap (aFw d sz)).foldl aDs ks),.own),x6',x7'],n)
 |[],ks,x6,x7,_,_=>⟨x6,x7,rfl⟩
 | ds::f,ks,x6,x7,hf,hl=>by
  rw[aa] at hl;have g:=hf ds (a7 ..);have gl:=aR2 d sz ds;have gl3:ds.length<=3:=by rw[g.len];exact h3
  obtain⟨x7a,e1⟩:=aU3 x0 (some (tupT sz,.fz)) (some (.dic (kvs d),.own)) x3 x4 (some (rwsT ds,.fz)) n (aFw d sz ds) ks x7 ZM;have pl:=aGh (aFw d sz ds) ks;obtain⟨x6',x7',ih⟩:=aQ0 B hd h3 h8 x0 x3 x4 n f ((aFw d sz ds).foldl aDs ks) (some (rwsT ds,.fz)) x7a (fun e he=>hf e (a6 _ he)) ZM;have gr:=grown B hd (g.sh h3 h8) g.len.symm false n;refine⟨x6',x7',?_⟩;have one:aEy [x0,some (tupT sz,.fz),some (.dic (kvs d),.own),x3,x4,some (.rdc ks,.own),some (rwsT ds,.fz),x7] n=some (.nx,[x0,some (tupT sz,.fz),some (.dic (kvs d),.own),x3,x4,some (.rdc ((aFw d sz ds).foldl aDs ks),.own),some (rwsT ds,.fz),x7a],n):=by unfold aEy aJp;generalize (aFw d sz ds).map rwsT=gm at *;generalize rwsT ds=rd at *;generalize kvs d=kd at *;generalize tupT sz=ts at *;generalize aDq=WW at *;simp! [dFor,dItS,gr,walked,e1]
  rw[a8];unfold aA4;simp only[L2.Ds.putAt,bg,bh,aq];rw[one,dQ,gj];exact ih
theorem bB5(B:Bk d)(hd:d.length<=1000)(h3:sz.length<=3)(h8:∀s∈sz,s<=8)(x0 x4 x5 x6 x7:Option (T × Md))(n:Nat)(m:Md)(hm:m = .own\/m = .fz)(hf:∀ds∈f,Gr sz ds)(hl:f.length*3<=900000) :
  ∃x5' x6' x7',aEu [x0,some (tupT sz,.fz),some (.dic (kvs d),.own),some (.lst (f.map rwsT),m),x4,x5,x6,x7] n=some (.nx,[x0,some (tupT sz,.fz),some (.dic (kvs d),.own),some (.lst ((aE8 d sz f).map rwsT),.own),x4,x5',x6',x7'],n):=by
 obtain⟨x6',x7',e⟩:=aQ0 B hd h3 h8 x0 (some (.lst (f.map rwsT),.fz)) x4 n f [] x6 x7 hf (by simpa using hl);refine⟨some (.rdc (aE8 d sz f),.own),x6',x7',?_⟩;have ls:aWb n [.rdc (aE8 d sz f)]=some (.lst ((aE8 d sz f).map rwsT),.own):=rfl;have fe:(f.flatMap (aFw d sz)).foldl aDs []=aE8 d sz f:=rfl;rw[fe] at e;have lp:dFrz 3 aB8 [x0,some (tupT sz,.fz),some (.dic (kvs d),.own),some (.lst (f.map rwsT),m),x4,some (.rdc [],.own),x6,x7] n=some (.nx,[x0,some (tupT sz,.fz),some (.dic (kvs d),.own),some (.lst (f.map rwsT),.fz),x4,some (.rdc (aE8 d sz f),.own),x6',x7'],n):=by
  generalize (aE8 d sz f)=sf at *;generalize f.map rwsT=fm at *;generalize kvs d=kd at *;generalize tupT sz=ts at *;rcases hm with rfl |rfl
  ·show aB8 [x0,some (ts,.fz),some (.dic kd,.own),some (.lst fm,.fz),x4,some (.rdc [],.own),x6,x7] n=_;unfold aB8;simp! [dFor,dItS,walked,e]
  ·show aB8 [x0,some (ts,.fz),some (.dic kd,.own),some (.lst fm,.fz),x4,some (.rdc [],.own),x6,x7] n=_;unfold aB8;simp! [dFor,dItS,walked,e]
 unfold aEu;generalize (aE8 d sz f).map rwsT=sm at *;generalize (aE8 d sz f)=sf at *;generalize f.map rwsT=fm at *;generalize kvs d=kd at *;generalize tupT sz=ts at *;generalize dFrz 3 aB8=LL at *;simp! [aV8,lp,ls]
theorem aXl(B:Bk d)(hd:d.length<=1000)(h3:sz.length<=3)(h8:∀s∈sz,s<=8)(x0:Option (T × Md))(n:Nat):∀ (k:Nat) (xs:List T) (f:List (List ZB)) (m:Md) (x4 x5 x6 x7:Option (T × Md)),xs.length=k->(m = .own\/m = .fz)->(∀ds∈f,Gr sz ds)->f.length*sz.length^k<=300000->1<=sz.length ->
  ∃m' x4' x5' x6' x7',(m' = .own\/m' = .fz)/\aA4 (putAt 4) aEu xs [x0,some (tupT sz,.fz),some (.dic (kvs d),.own),some (.lst (f.map rwsT),m),x4,x5,x6,x7] n=some (.nx,[x0,some (tupT sz,.fz),some (.dic (kvs d),.own),some (.lst ((aEj d sz k f).map rwsT),m'),x4',x5',x6',x7'],n):=by
 intro k
 induction k with
 | zero =>
  intro xs f m x4 x5 x6 x7 hx hm _ _ _;obtain rfl:=d5 hx;exact⟨m,x4,x5,x6,x7,hm,rfl⟩
 | succ k ih =>
  intro xs f m x4 x5 x6 x7 hx hm hf hl h1;cases xs with
  |nil=>cases hx
  | cons x xs =>
   have pw:1<=sz.length^(k+1):=Nat.one_le_pow _ _ h1;have fl:f.length<=300000:=ao (fQ _ pw) hl;obtain⟨x5',x6',x7',e⟩:=bB5 B hd h3 h8 x0 (some (x,.fz)) x5 x6 x7 n m hm hf ZM;obtain⟨a1,a2⟩:=aR5 (d:=d) hf
   obtain⟨m',y4,y5,y6,y7,hm',e2⟩:=ih xs (aE8 d sz f) .own (some (x,.fz)) x5' x6' x7' (by simpa using hx) (.inl rfl) a1 (by
    refine ao (dy _ a2) ?_;rw[fG,<-Nat.pow_succ']
    exact hl) h1
   refine⟨m',y4,y5,y6,y7,hm',?_⟩;unfold aA4;simp only[L2.Ds.putAt,bg,bh,aq];rw[e];exact e2
theorem productT(sz:List Nat)(hm:∀m∈sz,small (m:Nat)=true)(n:Nat):aFk [(.tup (sz.map fun m=>.int (m:Nat)),true)] n=some (.int ((aDj sz:Nat):Int),false,n):=by
 obtain⟨ρ',⟨c,hR⟩,e⟩:=aY4 (put:=putAt 2) (b:=aHo) (g:=fun m:Nat=>T.int m) (n:=n) (R:=fun (s:Nat) ρ=>∃c,ρ = [some (.tup (sz.map fun m=>.int (m:Nat)),.fz),some (.int (s:Int),.fz),c]) (step:=fun s m=>s*m) sz 1 [some (.tup (sz.map fun m=>.int (m:Nat)),.fz),some (.int (1:Nat),.fz),none]
  (fun m hmm s ρ hR=>by
   obtain⟨c,rfl⟩:=hR;have hs:small (m:Int)=true:=hm m hmm;refine⟨_,_,rfl,?_,some (.int (m:Nat),.fz),rfl⟩;have hp:=mul_ok (a:=(s:Int)) (b:=(m:Int)) (.inr hs) n;unfold aHo
   simp! [hp]) ⟨none,rfl⟩
 rw[aLu,iK] at hR;subst hR;unfold aFk aPr;generalize sz.map (fun m=>T.int (m:Nat))=out at e |-;have e1:aHr [some (.tup out,.fz),some (.int 1,.fz),none] n=some (.nx,[some (.tup out,.fz),some (.int ((aDj sz:Nat):Int),.fz),c],n):=by unfold aHr dFor dItS dVar;exact e
 simp! [dFrz,e1]
def iS(ss:List Nat):List Int:=ss.map fun (s:Nat)=>(s:Int)
theorem aUq(ss:List Nat):(iS ss).length=ss.length:=a5 ..
def aBd(L:List ZH):List ZH:=L.map fun q=>(q.1 - (L.headD (0,0)).1,q.2)
theorem aM9(B:Bk L):Bk (aBd L):=by
 refine⟨?_,fun q hq=>?_⟩
 ·unfold aBd;rw[b6];have:((fun q:Int × Int=>q.1)∘fun q=>(q.1 - (L.headD (0,0)).1,q.2))=(fun x=>x - (L.headD (0,0)).1)∘fun q:Int × Int=>q.1:=rfl;rw[this,<-b6];exact List.Pairwise.map _ (fun a b ne z=>ne ZM) B.nd
 ·obtain⟨p,hp,rfl⟩:=b7.mp hq;exact B.pos p hp
theorem aX7:∀d:List ZH,aG6 (kvs d)=some (d.map (·.2))
 |[]=>rfl
 |q::d=>by show (aG6 (kvs d)).map (q.2 :: ·)=_;rw[aX7 d];rfl
theorem sum_val(hl:d.length<=1000)(hv:∀q∈d,0<=q.2/\q.2<=100000)(n:Nat):aNs n [.dic (kvs d)]=some (.int (tot d),.fz):=by
 have c:(d.map (·.2)).length<100000/\((d.map (·.2)).all fun x=>decide (-1000000<=x)&&decide (x<=1000000))=true:=by refine⟨by rw[a5];omega,?_⟩;rw[gQ,br];intro q hq;have:=hv q hq;simp only[Function.comp,bq,decide_eq_true_eq];omega
 show ((aG6 (kvs d)).bind fun ns=>if ns.length<100000/\(ns.all fun x=>decide (-1000000<=x)&&decide (x<=1000000))=true then some (T.int (sumI ns),Md.fz) else none)=_;rw[aX7,aq,if_pos c];rfl
def aF8(d:List ZH)(ds:List ZB):Bool:=fitB d ds&&(aCw d ds).isEmpty
def aBi(ss:List Nat):Nat:=(sumI (iS ss) - ss.length).toNat
def aBy(d:List ZH)(ss:List Nat):List (List ZB):=if tot d=(aDj ss:Int) then (aEj d (iS ss) (aBi ss) [List.replicate ss.length [0]]).filter (aF8 d) else []
theorem c0_shp(hL:L ≠ [])(hl:L.length<=1000)(m:Md)(x1:Option (T × Md))(n:Nat):aDk [some (.lst (prT L),m),x1,none,none,none,none,none,none] n=some (.lst (prT (aBd L)),.own,n):=by
 have hB:big=1000000:=rfl;have b2:2<=big:=by decide
 obtain⟨q0,L',rfl⟩:∃q0 L',L=q0::L':=by
  cases L with
  |nil=>exact absurd rfl hL
  |cons q L=>exact⟨q,L,rfl⟩
 have hd:prT (q0::L') = .tup [.int q0.1,.int q0.2]::prT L':=rfl;unfold aBd;unfold prT;rw[b6];refine aCq (q0::L') (fun p:Int × Int=>T.tup [.int p.1,.int p.2]) _ ?_ ZM fun q hq=>?_
 ·cases m<;>rfl
 ·show _=some (T.tup [.int (q.1 - q0.1),.int q.2],Md.fz,n);have g0:pGet n [.lst ((q0::L').map fun p:Int × Int=>T.tup [.int p.1,.int p.2]),.int 0]=some (.tup [.int q0.1,.int q0.2],.fz):=by rw[aLz];unfold at?;rw[if_pos ZM,if_pos (by rw[a5,aa];omega)];rfl
  have g1:∀a b:Int,pGet n [.tup [.int a,.int b],.int 0]=some (.int a,.fz):=fun _ _=>rfl;have g2:∀a b:Int,pGet n [.tup [.int a,.int b],.int 1]=some (.int b,.fz):=fun _ _=>rfl;generalize ((q0::L').map fun p:Int × Int=>T.tup [.int p.1,.int p.2])=ll at *;cases m<;>simp! [srcOf,g0,g1,g2,pSub,pI2,b2]
theorem aM4(ss:List Nat)(h1:∀s∈ss,1<=s):Gr (iS ss) (List.replicate ss.length [0]):=by
 refine⟨by rw[dv,aUq],fun x hx=>by rw[(ir.mp hx).2];simp,fun p hp=>?_⟩;rw[dv] at hp;have e1:(List.replicate ss.length [(0:Int)]).getD p [] = [0]:=by rw[az,fM,if_pos hp];rfl
 have e2:(iS ss).getD p 0=(ss[p]:Int):=by rw[az];unfold iS;rw[bo,ai hp];rfl
 rw[e1,e2];have:=h1 _ (cv hp);show ((1:Nat):Int)<=_;omega
theorem aH2:∀ (k:Nat) {f:List (List ZB)},(∀ds∈f,Gr sz ds)->(∀ds∈aEj d sz k f,Gr sz ds)/\(aEj d sz k f).length<=f.length*sz.length^k
 |0,f,h=>⟨h,by simp[aEj]⟩
 |k+1,f,h=>by obtain⟨a1,a2⟩:=aR5 (d:=d) h;obtain⟨b1,b2⟩:=aH2 (d:=d) (sz:=sz) k a1;refine⟨b1,ao b2 ?_⟩;rw[Nat.pow_succ',<-fG];exact dy _ a2
theorem c1_shp(B:Bk d)(hd:d.length<=1000){sz:List Int}(h3:sz.length<=3)(h8:∀s∈sz,s<=8){f:List (List ZB)}(hf:∀ds∈f,Gr sz ds)(hl:f.length<=300000)(m:Md)(x0 x1 x4 x5 x6 x7:Option (T × Md))(n:Nat) :
  aGi [x0,x1,some (.dic (kvs d),.own),some (.lst (f.map rwsT),m),x4,x5,x6,x7] n=some (.lst ((f.filter (aF8 d)).map rwsT),.own,n):=by
 have hB:big=1000000:=rfl;refine aF3 f rwsT (aF8 d) rwsT ?_ ZM fun ds hds=>?_
 ·cases m<;>rfl
 ·obtain⟨r1,r2⟩:=((hf ds hds).sh h3 h8).rolls;obtain⟨t,e1,e2,e3⟩:=aUc B ZM (hf ds hds).one ZM ZM false n;have q1:∀kl:List (Ky × T),pEqE n [.dic kl,.dic []]=some (.bl kl.isEmpty,.fz):=fun kl=>rfl;have q2:pEqE n [.non,.dic []]=some (.bl false,.fz):=rfl;have ke:(kvs (aCw d ds)).isEmpty=(aCw d ds).isEmpty:=by unfold kvs;cases aCw d ds<;>rfl
  constructor
  ·unfold aF8;cases z:fitB d ds with
   | true =>
    have e2:=e2 z;rw[<-ke];generalize kvs (aCw d ds)=kl at *;generalize kvs t=kt at *;generalize kvs d=kd at *;generalize f.map rwsT=fm at *;generalize rwsT ds=rd at *;simp! [srcOf,aHp,e1,e2,q1]
   | false =>
    have e3:=e3 z;generalize kvs t=kt at *;generalize kvs d=kd at *;generalize f.map rwsT=fm at *;generalize rwsT ds=rd at *;simp! [srcOf,aHp,e1,e3,q2]
  ·intro _;generalize kvs d=kd at *;generalize f.map rwsT=fm at *;generalize rwsT ds=rd at *;simp! [srcOf]
theorem sum_iS:∀ {ss:List Nat},(∀s∈ss,1<=s/\s<=8)->(0:Int)<=sumI (iS ss)/\sumI (iS ss)<=8*ss.length
 |[],_=>by simp[iS,sumI]
 |s::ss,h1=>by have:=sum_iS (ss:=ss) fun x hx=>h1 x (a6 _ hx);have:=h1 s (a7 ..);unfold iS at *;rw[a8,sumI,aa];omega
theorem shapes(h:Tots L)(s1:1<=ss.length)(s3:ss.length<=3)(h1:∀s∈ss,1<=s/\s<=8)(hp:ss.length^aBi ss<=300000)(b:Bool)(n:Nat) :
  aFu [(.lst (prT L),b),(tupT (iS ss),true)] n=some (.lst ((aBy (aBd L) ss).map rwsT),true,n):=by
 have hB:big=1000000:=rfl;have b0:0<=big:=by decide
 have b1:1<=big:=by decide
 have Ll:=h.len;have B:=aM9 h.bk;have fl:(aBd L).length=L.length:=a5 ..;have pd:=pdict B.nd ZM n
 have sv:=sum_val (d:=aBd L) ZM (fun q hq=>by
  obtain⟨p,hp,rfl⟩:=b7.mp hq;have:=h.rng p hp;show 0<=p.2/\p.2<=100000
  omega) n
 have pr:=productT ss (fun m hm=>bBb (by have:=h1 m hm;omega)) n;have ti:tupT (iS ss) = .tup (ss.map fun m=>.int (m:Nat)):=by unfold tupT iS;rw[b6];rfl
 rw[<-ti] at pr;have h8:∀s∈iS ss,s<=8:=fun s hs=>by obtain⟨k,hk,rfl⟩:=b7.mp hs;have:=h1 k hk;omega
 have il:=aUq ss;have ne:∀a b:Int,pNe n [.int a,.int b]=some (.bl (!(a==b)),.fz):=fun _ _=>rfl;have c0:∀m:Md,aDk [some (.lst (prT L),m),some (tupT (iS ss),.fz),none,none,none,none,none,none] n=some (.lst (prT (aBd L)),.own,n):=fun m=>c0_shp h.ne ZM m _ n;unfold aBy;by_cases eq:tot (aBd L)=(aDj ss:Int)
 ·rw[if_pos eq];have g0:=aM4 ss fun s hs=>(h1 s hs).1;have G0:∀ds ∈ [List.replicate ss.length [(0:Int)]],Gr (iS ss) ds:=fun ds hds=>by rw[b8.mp hds];exact g0
  have mul:pMul n [.tup [.tup [.int 0]],.int (ss.length:Int)]=some (rwsT (List.replicate ss.length [0]),.fz):=by
   show (if ([T.tup [.int 0]].length<=1000/\(-1000:Int)<=(ss.length:Int)/\(ss.length:Int)<=10000 /\ [T.tup [.int 0]].length*(ss.length:Int).toNat<=big) then some (T.tup (List.replicate (ss.length:Int).toNat [T.tup [.int 0]]).flatten,Md.fz) else none)=_;rw[if_pos ⟨by simp,by omega,by omega,by simp;omega⟩,du];congr 2;unfold rwsT;congr 1;rw[List.map_replicate];show (List.replicate ss.length [tupT [0]]).flatten=_
   induction ss.length with
   |zero=>rfl
   |succ k ih=>rw[dW,dW,eV,ih];rfl
  have ln:pLen n [tupT (iS ss)]=some (.int (ss.length:Int),.fz):=by unfold tupT;rw[aD7,a5,il]
  have sm:aMk n [tupT (iS ss)]=some (.int (sumI (iS ss)),.fz):=aZa n ZM fun x hx=>by have:=h8 x hx;obtain⟨k,hk,rfl⟩:=b7.mp hx;omega
  have sg:=sum_iS h1;obtain⟨x0,hx0⟩:∃x0,x0=some (T.lst (prT L),if b then Md.fz else Md.bor):=⟨_,rfl⟩
  have gw:aBi ss=(upTo 0 (sumI (iS ss) - ss.length)).length:=by rw[aEm];unfold aBi;congr 1;omega
  obtain⟨m',y4,y5,y6,y7,hm',e⟩:=aXl B ZM (by rw[il];exact s3) h8 x0 n (aBi ss) (upTo 0 (sumI (iS ss) - ss.length)) [List.replicate ss.length [0]] .own none none none none gw.symm (.inl rfl) G0 (by rw[il];simpa using hp) (by rw[il];exact s1);obtain⟨a1,a2⟩:=aH2 (d:=aBd L) (aBi ss) G0;rw[il,fU,iK] at a2;have c1:=c1_shp B ZM (by rw[il];exact s3) h8 a1 ZM m' x0 (some (tupT (iS ss),.fz)) y4 y5 y6 y7 n;have l2:aEv [x0,some (tupT (iS ss),.fz),some (.dic (kvs (aBd L)),.own),some (.lst [rwsT (List.replicate ss.length [0])],.own),none,none,none,none] n=some (.nx,[x0,some (tupT (iS ss),.fz),some (.dic (kvs (aBd L)),.own),some (.lst ((aEj (aBd L) (iS ss) (aBi ss) [List.replicate ss.length [0]]).map rwsT),m'),y4,y5,y6,y7],n):=by
   have:=aT7 (a:=aAa (dPr pSub (aAa (dPr aMk (aAa (dVar 1) dNil)) (aAa (dPr pLen (aAa (dVar 1) dNil)) dNil))) dNil) (ρ:=[x0,some (tupT (iS ss),.fz),some (.dic (kvs (aBd L)),.own),some (.lst [rwsT (List.replicate ss.length [0])],.own),none,none,none,none]) (n:=n) (n':=n) (j:=sumI (iS ss) - ss.length) (by
    generalize tupT (iS ss)=ts at *
    simp! [sm,ln,pSub,pI2]) ZM ZM
   unfold aEv dFor;rw[this];exact e
  have eqb:(tot (aBd L)==(aDj ss:Int))=true:=by simpa using eq
  have fr:∀dd:DS,aBp 3 dd [x0,some (tupT (iS ss),.fz),some (.dic (kvs (aBd L)),.own),some (.lst ((aEj (aBd L) (iS ss) (aBi ss) [List.replicate ss.length [0]]).map rwsT),m'),y4,y5,y6,y7] n=dd [x0,some (tupT (iS ss),.fz),some (.dic (kvs (aBd L)),.own),some (.lst ((aEj (aBd L) (iS ss) (aBi ss) [List.replicate ss.length [0]]).map rwsT),m'),y4,y5,y6,y7] n:=fun dd=>by rcases hm' with rfl |rfl<;>rfl
  unfold aFu aIb;generalize ((aEj (aBd L) (iS ss) (aBi ss) [List.replicate ss.length [0]]).filter (aF8 (aBd L))).map rwsT=out at *;generalize (aEj (aBd L) (iS ss) (aBi ss) [List.replicate ss.length [0]]).map rwsT=sl at *;generalize rwsT (List.replicate ss.length [0])=r0 at *;generalize prT (aBd L)=p0 at *;generalize prT L=pL at *;generalize kvs (aBd L)=k0 at *;generalize tupT (iS ss)=ts at *;generalize aDk=CC at *;generalize aGi=C1 at *;generalize aEv=LL at *;generalize aBp 3=FF at *;subst hx0;cases b
  ·simp only[bu,if_false] at *;simp! [aBp,c0,pd,sv,pr,ne,eqb,ln,mul,dLst,b0,b1,l2,fr,c1]
  ·simp only[if_true] at *;simp! [aBp,c0,pd,sv,pr,ne,eqb,ln,mul,dLst,b0,b1,l2,fr,c1]
 ·rw[if_neg eq];have nb:(tot (aBd L)==(aDj ss:Int))=false:=by simpa using eq
  unfold aFu aIb;generalize prT (aBd L)=p0 at *;generalize prT L=pL at *;generalize kvs (aBd L)=k0 at *;generalize tupT (iS ss)=ts at *;generalize aDk=CC at *;cases b<;>simp! [aBp,c0,pd,sv,pr,ne,nb,dLst,b0]
theorem aP1(nd:(d.map (·.1)).Nodup):∃L:List ZH,L.Perm d/\(aC1 (d.map aCn)).map tupT=prT L/\(L.map (·.1)).Pairwise (· < ·):=by
 have all:∀l∈aC1 (d.map aCn),∃p:Int × Int,l=aCn p/\True:=fun l hl=>by obtain⟨p,_,rfl⟩:=b7.mp ((aCp _).mem_iff.mp hl);exact⟨p,rfl,trivial⟩
 have ex:∀ls:List ZB,(∀l∈ls,∃p:Int × Int,l=aCn p/\True)->∃L:List ZH,ls=L.map aCn:=by
  intro ls
  induction ls with
  |nil=>intro _;exact⟨[],rfl⟩
  | cons l ls ih =>
   intro h;obtain⟨L,rfl⟩:=ih fun x hx=>h x (a6 _ hx);obtain⟨p,rfl,_⟩:=h l (a7 ..);exact⟨p::L,rfl⟩
 obtain⟨L,e⟩:=ex _ all;have back:∀l:List ZH,(l.map aCn).map (fun x=>(x.headD 0,x.getD 1 0))=l:=fun l=>by rw[b6];refine(c8 (g:=id) fun p _=>?_).trans (jM _);rfl
 have perm:L.Perm d:=by
  have:=((aCp (d.map aCn)).map fun x=>(x.headD 0,x.getD 1 0))
  rw[e,back,back] at this;exact this
 refine⟨L,perm,?_,?_⟩
 ·rw[e,b6];rfl
 ·have s:=aFi (d.map aCn);rw[e,eX] at s;have ndL:(L.map (·.1)).Nodup:=(perm.map (·.1)).nodup_iff.mpr nd;rw[eX];have both:=s.and (eX.mp ndL);refine both.imp fun {a b} h=>?_;obtain⟨h1,h2⟩:=h;have h1:L2.Ds.lexLt [b.1,b.2] [a.1,a.2]=false:=h1;unfold L2.Ds.lexLt at h1;by_cases z:b.1=a.1
  ·exact absurd z.symm h2
  ·have:(b.1==a.1)=false:=by simpa using z
   rw[this] at h1;simp at h1;omega
theorem aSd(x0:Option (T × Md))(n:Nat):∀ (rows:List ZB) (d:List ZH) (ks:List Int) (x2:Option (T × Md)),BK d ks->d.length+rows.length<=100000->(∀r∈rows,r.length<=4/\∀x∈r,0<=x/\x<=30) ->
  ∃d' x2',BK d' (ks++rows.map sumI)/\aA4 (putAt 2) aCe (rows.map tupT) [x0,some (.dic (kvs d),.own),x2] n=some (.nx,[x0,some (.dic (kvs d'),.own),x2'],n)
 |[],d,ks,x2,B,_,_=>⟨d,x2,by simpa using B,by simp[aA4]⟩
 | r::rows,d,ks,x2,B,hz,hr=>by
  have hB:big=1000000:=rfl;rw[aa] at hz;have B1:BK (addW d (sumI r) 1) (ks ++ [sumI r]):=(B.add (sumI r) 1 ZE).congr fun p=>by rw[gg,List.countP_singleton];split<;>simp
  have al:=aMq d (sumI r) 1;obtain⟨d',x2',B',e⟩:=aSd x0 n rows (addW d (sumI r) 1) (ks ++ [sumI r]) (some (tupT r,.fz)) B1 ZM fun q hq=>hr q (a6 _ hq);refine⟨d',x2',by rw[a8];rw[be] at B';exact B',?_⟩;obtain⟨r4,rr⟩:=hr r (a7 ..);have sm:aMk n [tupT r]=some (.int (sumI r),.fz):=aZa n ZM fun x hx=>by have:=rr x hx;omega
  have g0:aC4 n [.dic (kvs d),.int (sumI r),.int 0]=some (.int (cnt d (sumI r)),.fz):=by have h:=aIo d (sumI r);have e':aC4 n [.dic (kvs d),.int (sumI r),.int 0]=some ((aDc (kvs d) (.inl (sumI r))).getD (.int 0),.fz):=rfl;rw[e',h]
  have st:setL (.dic (kvs d)) (.int (sumI r)) (.int (cnt d (sumI r)+1))=some (.dic (kvs (addW d (sumI r) 1))):=by rw[aYi];show (if (kvs d).length<big then some (T.dic (aCc (kvs d) (.inl (sumI r)) (.int (cnt d (sumI r)+1)))) else none)=_;rw[if_pos (by unfold kvs;rw[a5];omega),aTx]
  have one:aCe [x0,some (.dic (kvs d),.own),some (tupT r,.fz)] n=some (.nx,[x0,some (.dic (kvs (addW d (sumI r) 1)),.own),some (tupT r,.fz)],n):=by unfold aCe;generalize kvs (addW d (sumI r) 1)=k' at *;generalize kvs d=kd at *;generalize tupT r=tr at *;simp! [aCj,sm,g0,aCx,st]
  rw[a8];unfold aA4;simp only[L2.Ds.putAt,bg,bh,aq];rw[one];exact e
theorem aS2{M F:Nat}(D:Dice M F ds)(hM:M<=4)(hF:F<=8):(aCi ds).length<=4096:=by have:=aJa D hM hF;rw[aKr];omega
theorem aS8{M F:Nat}{ds:List ZB}(D:Dice M F ds)(hM:M<=4)(hF:F<=8)(n:Nat):∃d,BK d ((aCi ds).map sumI)/\aBt [(.tup (ds.map tupT),true)] n=some (.lst ((aC1 (d.map aCn)).map tupT),true,n):=by
 have l4:ds.length<=4:=ao D.most hM;have er:=bBe D hM hF n;have hr:=(rolls D hM hF n).2;have pf:=aS2 D hM hF;have rows:∀r∈aCi ds,r.length<=4/\∀x∈r,0<=x/\x<=30:=fun r h=>⟨by rw[hr r h];exact l4,aQ1 (fun d hd=>(D.die d hd).rng) h⟩
 obtain⟨d,x2,B,e⟩:=aSd (some (.tup (ds.map tupT),.fz)) n (aCi ds) [] [] none ⟨by simp,by simp,fun p=>by simp[tally,sumI]⟩ (by simp;omega) rows;rw[dj] at B;refine⟨d,B,?_⟩;have it:aF6 n [.dic (kvs d)]=some (.lst ((aC1 (d.map aCn)).map tupT),.own):=by simp only[aF6,aGl,d7]
 have lp:aCf [some (.tup (ds.map tupT),.fz),some (.dic [],.own),none] n=some (.nx,[some (.tup (ds.map tupT),.fz),some (.dic (kvs d),.own),x2],n):=by
  unfold aCf dFor;have itr:dItS (dCall 1 aDo (aAe (dVar 0) bNil)) [some (.tup (ds.map tupT),.fz),some (.dic [],.own),none] n=some ((aCi ds).map tupT,n):=by generalize (aCi ds).map tupT=pr at *;generalize ds.map tupT=dd at *;unfold dItS;simp! [er,walked]
  rw[itr];exact e
 unfold aBt aFz;generalize (aC1 (d.map aCn)).map tupT=out at *;generalize ds.map tupT=dd at *;generalize kvs d=kd at *;generalize aCf=LL at *;simp! [aHp,lp,it]
theorem aZv(B:BK d s)(hr:∀x∈s,0<=x/\x<=120)(hs:s.length<=4096)(hn:s ≠ []) :
  ∃L,Tots L/\Of L s/\tot L=s.length/\(aC1 (d.map aCn)).map tupT=prT L:=by
 obtain⟨L,perm,eL,up⟩:=aP1 B.nd;have ndL:(L.map (·.1)).Nodup:=up.imp fun {a b} z=>by omega
 have cL:∀k,cnt L k=cnt d k:=fun k=>by
  by_cases h:k∈L.map (·.1)
  ·obtain⟨q,hq,rfl⟩:=b7.mp h;rw[aBv ndL hq,aBv B.nd (perm.mem_iff.mp hq)]
  ·rw[aDh h,aDh fun z=>h ((perm.map (·.1)).mem_iff.mpr z)]
 refine⟨L,⟨fun z=>?_,up,fun q hq=>?_⟩,fun k=>by rw[cL k];exact B.cnt k,?_,eL⟩
 ·cases s with
  |nil=>exact hn rfl
  | cons x s =>
   obtain⟨v,hv⟩:=B.has (a7 ..);have:=perm.mem_iff.mpr hv;rw[z] at this;cases this
 ·have hq':=perm.mem_iff.mp hq;have:=hr _ (B.key hq');have:=B.pos q hq';have:=B.le hq';omega
 ·have e1:tot L=tot d:=bA5 (perm.map (·.2));rw[e1];exact B.vals
theorem aL7{M F:Nat}{ds:List ZB}(D:Dice M F ds)(hM:M<=4)(hF:F<=8)(n:Nat):∃L,Tots L/\Of L (sums ds)/\aBt [(.tup (ds.map tupT),true)] n=some (.lst (prT L),true,n):=by
 obtain⟨d,B,e⟩:=aS8 D hM hF n;have pf:=aS2 D hM hF;have fp:=aWa D;obtain⟨L,h1,h2,_,h3⟩:=aZv B (fun x hx=>aJg D hM hF x hx) (by rw[a5];exact pf) fun z=>by have:=congrArg List.length z;rw[a5,aKr] at this;simp at this;omega
 exact⟨L,h1,h2,by rw[<-h3];exact e⟩
def aBf(as bs:List ZB):List Int:=((List.range 121).map fun (k:Nat)=>(k:Int)).filter fun t=>!(cS as t==cS bs t)
def optT:Option Int->T
 |none=>.non
 |some i=>.int i
theorem cS_pos{t:Int}(h:cS ds t≠0):t∈sums ds:=by
 unfold cS at h;have h:(sums ds).countP (fun x=>x==t)≠0:=by omega
 rw[Ne,fu] at h;simp only[Classical.not_forall,Classical.not_not] at h;obtain⟨x,hx,e⟩:=h;have:x=t:=by simpa using e
 exact this▸hx
theorem aWq{r:List Int}(up:r.Pairwise (· < ·))(h:∀x,x∈l↔x∈r):aLc none l=r.head?:=by
 cases r with
 | nil =>
  cases l with
  |nil=>rfl
  |cons x l=>exact absurd ((h x).mp (a7 ..)) ZJ
 | cons y r =>
  have hy:=(h y).mpr (a7 ..);have hl:l ≠ []:=by rintro rfl;cases hy
  obtain⟨x,e,hx,hm⟩:=aL9 hl;rw[aTc e];have h1:=(h x).mp hx;have h2:=hm y hy;rcases ae.mp h1 with rfl |h1
  ·rfl
  ·have:=gq up h1;omega
theorem range_up(m:Nat):((List.range m).map fun (k:Nat)=>(k:Int)).Pairwise (· < ·):=by rw[eX];exact iD.imp fun h=>by omega
theorem parted{M F N G:Nat}(ha:Dice M F as)(hb:Dice N G bs)(hM:M<=4)(hF:F<=8)(hN:N<=4)(hG:G<=8)(n:Nat) :
  aEw [(.tup (as.map tupT),true),(.tup (bs.map tupT),true)] n=some (optT (aBf as bs).head?,false,n):=by
 have hB:big=1000000:=rfl;obtain⟨d1,B1,e1⟩:=aFj ha hM hF n;obtain⟨d2,B2,e2⟩:=aFj hb hN hG n;have n1:=aJ1 ha hM hF n;have n2:=aJ1 hb hN hG n;have z1:=B1.dlen;have z2:=B2.dlen;have y1:(sums as).length<=4096:=by have:=aJa ha hM hF;rw[aJf];omega
 have y2:(sums bs).length<=4096:=by have:=aJa hb hN hG;rw[aJf];omega
 have hk:∀d:List ZH,((kvs d).map fun kv=>keyT kv.1)=(d.map (·.1)).map T.int:=fun d=>by rw[aMz,b6];rfl
 have c0:∀x0 x1,aPy [x0,x1,some (.dic (kvs d1),.own),some (.dic (kvs d2),.own),some (.lst ((d1.map (·.1)++d2.map (·.1)).map .int),.own)] n=some (.lst (((d1.map (·.1)++d2.map (·.1)).filter fun t=>!(cS as t==cS bs t)).map .int),.own,n):=fun x0 x1=>by
  refine aF3 (d1.map (·.1)++d2.map (·.1)) T.int (fun t=>!(cS as t==cS bs t)) T.int rfl (by simp;omega) fun x hx=>?_;have g1:=get0 B1 x n;have g2:=get0 B2 x n;have q:∀i j:Int,pNe n [.int i,.int j]=some (.bl (!(i==j)),.fz):=fun _ _=>rfl;have c1:(((sums as).countP fun y=>y==x:Nat):Int)=cS as x:=rfl;have c2:(((sums bs).countP fun y=>y==x:Nat):Int)=cS bs x:=rfl;rw[c1] at g1;rw[c2] at g2;generalize kvs d1=k1 at *;generalize kvs d2=k2 at *;generalize cS as x=v1 at *;generalize cS bs x=v2 at *;constructor
  ·simp! [srcOf,g1,g2,q]
  ·intro _;simp! [srcOf]
 have l1:aTj n [.dic (kvs d1)]=some (.lst ((d1.map (·.1)).map .int),.own):=by rw[<-hk];rfl
 have l2:aTj n [.dic (kvs d2)]=some (.lst ((d2.map (·.1)).map .int),.own):=by rw[<-hk];rfl
 have zz:(d1.map (·.1)).length+(d2.map (·.1)).length<=big:=by simp;omega
 have pa:pAdd n [.lst ((d1.map (·.1)).map .int),.lst ((d2.map (·.1)).map .int)]=some (.lst ((d1.map (·.1)++d2.map (·.1)).map .int),.own):=by rw[aPj,if_pos (by rw[a5,a5 (f:=T.int)];exact zz),c5]
 have keys:∀ {d:List ZH} {ds:List ZB},BK d (sums ds)->∀x,x∈d.map (·.1)↔x∈sums ds:=fun {d ds} B x=>⟨fun h=>by
   obtain⟨q,hq,rfl⟩:=b7.mp h;exact B.key hq,fun h=>by
   obtain⟨v,hv⟩:=B.has h;exact b7.mpr ⟨_,hv,rfl⟩⟩
 have mn:pMinE n [.lst (((d1.map (·.1)++d2.map (·.1)).filter fun t=>!(cS as t==cS bs t)).map .int)]=some (optT (aBf as bs).head?,.fz):=by
  have fo:=aWq (l:=(d1.map (·.1)++d2.map (·.1)).filter fun t=>!(cS as t==cS bs t)) (r:=aBf as bs) ((range_up 121).filter _) fun x=>by
   unfold aBf;rw[dX,dX,ci,keys B1,keys B2];refine⟨fun ⟨h1,h2⟩=>⟨?_,h2⟩,fun ⟨h1,h2⟩=>⟨?_,h2⟩⟩
   ·have:0<=x/\x<=120:=by
     rcases h1 with h1 |h1
     ·exact aJg ha hM hF x h1
     ·exact aJg hb hN hG x h1
    exact b7.mpr ⟨x.toNat,ej.mpr ZM,by omega⟩
   ·by_cases z:cS as x=0
    ·by_cases z':cS bs x=0
     ·rw[z,z'] at h2;simp at h2
     ·exact .inr (cS_pos z')
    ·exact .inl (cS_pos z)
  show (intsOf _).map _=_;rw[aBk,d7,fo];cases (aBf as bs).head?<;>rfl
 generalize optT (aBf as bs).head?=out at *;generalize (((d1.map (·.1)++d2.map (·.1)).filter fun t=>!(cS as t==cS bs t)).map T.int)=fl at *;generalize (d1.map (·.1)++d2.map (·.1)).map T.int=ei at *;generalize (d1.map (·.1)).map T.int=k3 at *;generalize (d2.map (·.1)).map T.int=k4 at *;generalize kvs d1=k1 at *;generalize kvs d2=k2 at *;generalize as.map tupT=ta at *;generalize bs.map tupT=tb at *;unfold aEw aWe;simp! [n1,n2,e1,e2,l1,l2,pa,aBp,c0,mn]
theorem aYn{M F N G:Nat}(ha:Dice M F as)(hb:Dice N G bs)(hM:M<=4)(hF:F<=8)(hN:N<=4)(hG:G<=8)(n:Nat) :
  aKz [(.tup (as.map tupT),true),(.tup (bs.map tupT),true)] n=some (.bl (aBf as bs).isEmpty,false,n):=by
 have p:=parted ha hb hM hF hN hG n;have q:pIsN n [optT (aBf as bs).head?]=some (.bl (aBf as bs).isEmpty,.fz):=by cases aBf as bs<;>rfl
 generalize (aBf as bs).isEmpty=e at *;generalize optT (aBf as bs).head?=out at *;generalize as.map tupT=ta at *;generalize bs.map tupT=tb at *;unfold aKz bB6;simp! [p,q]
theorem aW4(p:(sums as).Perm (sums bs)):aBf as bs = []:=by unfold aBf;rw[List.filter_eq_nil_iff];intro t _;unfold cS;rw[p.countP_eq];simp
theorem aXs(as bs:List ZB):aBf as bs=aBf bs as:=by unfold aBf;congr 1;funext t;rw[Bool.beq_comm]
def bB0(t least:Int):List ZB:=if least<=t then [[t]] else []
theorem aXx(t least:Int)(n:Nat):aCy [(.int t,true),(.int 1,true),(.int least,true)] n=some (.lst ((bB0 t least).map tupT),true,n):=by
 have b0:0<=big:=by decide
 have b1:1<=big:=by decide
 unfold bB0;by_cases h:least<=t
 ·rw[if_pos h];unfold aCy aE2;simp! [q_eq1,pGe,pI2,h,dLst,dTup,b1];rfl
 ·rw[if_neg h];unfold aCy aE2;simp! [q_eq1,pGe,pI2,h,dLst,b0]
def aCv(t least:Int):List ZB:=(List.range (t - least+1 - least).toNat).map fun (k:Nat)=>[least+k,t - (least+k)]
theorem aT3(t least a:Int)(h1:least<=t - a)(acc:List ZB)(hl:acc.length<=1000)(n:Nat) :
  aDb [some (.int t,.fz),some (.int 2,.fz),some (.int least,.fz),some (.lst (acc.map tupT),.own),some (.int a,.fz)] n=some (.nx,[some (.int t,.fz),some (.int 2,.fz),some (.int least,.fz),some (.lst ((acc ++ [[a,t - a]]).map tupT),.own),some (.int a,.fz)],n):=by
 have hB:big=1000000:=rfl;have b1:1<=big:=by decide
 have s1:=aXx (t - a) least n;have e1:bB0 (t - a) least = [[t - a]]:=if_pos h1;rw[e1] at s1;have c0:aHn [some (.int t,.fz),some (.int 2,.fz),some (.int least,.fz),some (.lst (acc.map tupT),.own),some (.int a,.fz)] n=some (.lst [tupT [a,t - a]],.own,n):=by
  refine aCq [[t - a]] tupT (fun l=>tupT (a::l)) ?_ (by show 1<=big;decide) fun l hl=>?_
  ·generalize List.map tupT [[t - a]]=out at *;generalize acc.map tupT=ac at *;simp! [dIt,pSub,pI2,s1,walked]
  ·obtain rfl:=b8.mp hl;have ad:pAdd n [.tup [.int a],tupT [t - a]]=some (tupT [a,t - a],.fz):=by unfold tupT;rw[aF0,if_pos (by show 1+1<=big;decide)];rfl
   generalize tupT [a,t - a]=o1 at *;generalize tupT [t - a]=o2 at *;generalize acc.map tupT=ac at *;simp! [srcOf,dTup,b1,ad]
 have ex:extT (.lst (acc.map tupT)) (.lst [tupT [a,t - a]])=some (.lst ((acc ++ [[a,t - a]]).map tupT)):=by rw[bBn,if_pos (by rw[a5];show _+1<=_;omega),c5];rfl
 unfold aDb;rw[aNk c0 (u:=.lst (acc.map tupT)) rfl ex];rfl
theorem aXi{t least:Int}(h0:0<=least)(h1:least<=30)(ht:0<=t)(ht2:t<=120)(n:Nat):aDy [(.int t,true),(.int 2,true),(.int least,true)] n=some (.lst ((aCv t least).map tupT),true,n):=by
 have hB:big=1000000:=rfl;have b0:0<=big:=by decide
 have gen:∀ (k a:Nat) (acc:List ZB) (x4:Option (T × Md)),a+k=(t - least+1 - least).toNat->acc.length=a->∃x4',aA4 (putAt 4) aDb ((List.range' a k).map fun (j:Nat)=>T.int (least+j)) [some (.int t,.fz),some (.int 2,.fz),some (.int least,.fz),some (.lst (acc.map tupT),.own),x4] n =
   some (.nx,[some (.int t,.fz),some (.int 2,.fz),some (.int least,.fz),some (.lst ((acc++(List.range' a k).map fun (j:Nat)=>[least+j,t - (least+j)]).map tupT),.own),x4'],n):=by
  intro k
  induction k with
  |zero=>intro a acc x4 _ _;exact⟨x4,by simp[aA4]⟩
  | succ k ih =>
   intro a acc x4 hk ha;obtain⟨x4',e⟩:=ih (a+1) (acc ++ [[least+a,t - (least+a)]]) (some (.int (least+a),.fz)) ZM (by rw[bf,ha];rfl);refine⟨x4',?_⟩;rw[List.range'_succ,a8,a8];unfold aA4;simp only[L2.Ds.putAt,bg,bh,aq];rw[aT3 t least (least+a) ZM acc ZM n];have ap:acc ++ [least+(a:Int),t - (least+a)]::((List.range' (a+1) k).map fun (j:Nat)=>[least+(j:Int),t - (least+j)])=(acc ++ [[least+(a:Int),t - (least+a)]])++((List.range' (a+1) k).map fun (j:Nat)=>[least+(j:Int),t - (least+j)]):=List.append_cons ..;rw[ap];exact e
 obtain⟨x4,e⟩:=gen (t - least+1 - least).toNat 0 [] none ZM rfl;rw[<-List.range_eq_range',dj] at e;have rg:=rng2_ok (a:=aAa (dVar 2) (aAa (dPr pAdd (aAa (dPr pSub (aAa (dVar 0) (aAa (dVar 2) dNil))) (aAa (dK (.int 1)) dNil))) dNil)) (ρ:=[some (.int t,.fz),some (.int 2,.fz),some (.int least,.fz),some (.lst [],.own),none]) (n:=n) (n':=n) (i:=least) (j:=t - least+1) (by simp! [pSub,pI2,aCx]) ZM ZM ZM ZM;have lp:aC8 [some (.int t,.fz),some (.int 2,.fz),some (.int least,.fz),some (.lst [],.own),none] n=some (.nx,[some (.int t,.fz),some (.int 2,.fz),some (.int least,.fz),some (.lst ((aCv t least).map tupT),.own),x4],n):=by unfold aC8 dFor;rw[rg];exact e
 generalize (aCv t least).map tupT=out at *;unfold aDy aIv;generalize aC8=LL at *;simp! [q_eq1,dLst,b0,lp]
theorem raised(l:List Int)(by_:Int)(hl:l.length<=1000)(n:Nat):aGo [(tupT l,true),(.int by_,true)] n=some (tupT (l.map (· + by_)),false,n):=by
 have hB:big=1000000:=rfl;have c0:aQe [some (tupT l,.fz),some (.int by_,.fz)] n=some (.lst ((l.map (· + by_)).map .int),.own,n):=by rw[b6];refine aCq l T.int _ rfl ZM fun x _=>?_;show _=some (T.int (x+by_),Md.fz,n);generalize tupT l=tl at *;simp! [srcOf,aCx]
 have tp:aDg n [.lst ((l.map (· + by_)).map .int)]=some (tupT (l.map (· + by_)),.fz):=rfl;generalize (l.map (· + by_)).map T.int=lm at *;generalize tupT (l.map (· + by_))=out at *;have fr:∀dd:DS,aBp 0 dd [some (tupT l,.fz),some (.int by_,.fz)] n=dd [some (tupT l,.fz),some (.int by_,.fz)] n:=fun _=>rfl;unfold aGo aVw;generalize tupT l=tl at *;generalize aBp 0=FF at *;simp! [fr,c0,tp]
theorem enum_rows(ls:List ZB):aFv (ls.map tupT)=ls.zipIdx.map fun q=>.tup [.int (q.2:Nat),tupT q.1]:=by unfold aFv;rw[List.zipIdx_map,b6];rfl
def mvF(ds:List ZB)(lows:List Int):List ZB:=ds.zipIdx.map fun q=>q.1.map (· + lows.getD q.2 0)
theorem moved(hl:ds.length=lows.length)(h3:ds.length<=10)(h8:∀d∈ds,d.length<=1000)(n:Nat):aNe [(rwsT ds,true),(tupT lows,true)] n=some (rwsT (mvF ds lows),false,n):=by
 have hB:big=1000000:=rfl;have c0:aUm [some (rwsT ds,.fz),some (tupT lows,.fz)] n=some (.lst ((mvF ds lows).map tupT),.own,n):=by
  unfold mvF;rw[b6]
  have:=comp_two (it:=aZ6 (dVar 0)) (l:=[none,none,some 0,some 1]) (i:=0) (j:=1) (c:=yes) (e:=dCall 2 aGo (aAe (dVar 1) (aAe (dPr pGet (aAa (dVar 3) (aAa (dVar 0) dNil))) bNil))) (ρ:=[some (rwsT ds,.fz),some (tupT lows,.fz)]) (n:=n) ds.zipIdx (fun q=>T.int (q.2:Nat)) (fun q=>tupT q.1) (fun _=>true) (fun q=>tupT (q.1.map (· + lows.getD q.2 0))) ZE (by
   show some (aFv (ds.map tupT),n)=_
   rw[enum_rows]) (by rw[ie];omega) fun q hq=>by
    obtain⟨x,k⟩:=q;obtain⟨hk,_,hx⟩:=List.mem_zipIdx hq;have hk:k<ds.length:=by omega
    have g:=getInt lows (p:=k) ZM n;have r:=raised x (lows.getD k 0) (h8 x (by rw[hx];exact cv _)) n;refine⟨rfl,fun _=>?_⟩;show _=some (tupT (x.map (· + lows.getD k 0)),Md.fz,n);generalize tupT (x.map (· + lows.getD k 0))=o1 at *;generalize lows.getD k 0=lk at *;generalize tupT x=o2 at *;generalize tupT lows=o3 at *;generalize rwsT ds=o4 at *;simp! [srcOf,g,r]
  rw[gU.mpr (fun _ _=>rfl)] at this;exact this
 have tp:aDg n [.lst ((mvF ds lows).map tupT)]=some (rwsT (mvF ds lows),.fz):=rfl;generalize (mvF ds lows).map tupT=lm at *;generalize rwsT (mvF ds lows)=out at *;unfold aNe bAo;generalize rwsT ds=o4 at *;generalize tupT lows=o3 at *;simp! [c0,tp]
def aLf(ls:List (List ZB)):List (List ZB):=(aC1 (ls.map enc)).map dec
theorem aKt:∀ls:List (List ZB),aF1 (ls.map rwsT)=some ls
 |[]=>rfl
 |l::ls=>by rw[a8,aF1,aLt,aq,aKt ls];rfl
theorem bAp(hg:∀l∈ls,l ≠ []/\∀d∈l,∀x∈d,0<=x)(hl:ls.length<=big)(n:Nat):aZ7 n [.lst (ls.map rwsT)]=some (.lst ((aLf ls).map rwsT),.own):=by
 show (aF1 (ls.map rwsT)).bind (fun ls=>if (ls.all aGc&&decide (ls.length<=big))=true then some (T.lst ((aC1 (ls.map enc)).map fun c=>rwsT (dec c)),Md.own) else none)=_;rw[aKt,aq,if_pos]
 ·unfold aLf;rw[b6];rfl
 ·rw[bq,br];refine⟨fun l hl=>?_,by simpa using hl⟩;obtain⟨h1,h2⟩:=hg l hl;unfold aGc;rw[bq,br];refine⟨by cases l with |nil=>exact absurd rfl h1 |cons _ _=>rfl,fun d hd=>?_⟩;rw[br];intro x hx;simpa using h2 d hd x hx
theorem aYk(hg:∀l∈ls,∀d∈l,∀x∈d,0<=x):r∈aLf ls↔r∈ls:=by
 unfold aLf;rw[b7];constructor
 ·rintro⟨c,hc,rfl⟩;obtain⟨l,hl,rfl⟩:=b7.mp ((aCp _).mem_iff.mp hc);rw[dec_enc l (hg l hl)];exact hl
 ·intro h;exact⟨enc r,(aCp _).mem_iff.mpr (bw h),dec_enc r (hg r h)⟩
def aBm(bare:List (List ZB))(lows:List ZB):List (List ZB):=bare.flatMap fun ds=>lows.map (mvF ds)
theorem aZn{m:Nat}(hb:∀ds∈bare,ds.length=m/\∀d∈ds,d.length<=1000)(hlw:∀l∈lows,l.length=m)(hm:m<=10)(hz:bare.length*lows.length<=900000)
  (hg:∀l∈aBm bare lows,l ≠ []/\∀d∈l,∀x∈d,0<=x) (n:Nat):aEx [(.lst (bare.map rwsT),true),(.lst (lows.map tupT),true)] n=some (.lst ((aLf (aBm bare lows)).map rwsT),true,n):=by
 have hB:big=1000000:=rfl;have b0:0<=big:=by decide
 have ll:lows.length<=900000\/bare = []:=by
  cases bare with
  |nil=>exact .inr rfl
  |cons x l=>rw[aa,fO] at hz;exact .inl ZM
 have gen:∀ (l:List (List ZB)) (acc:List (List ZB)) (x3:Option (T × Md)),(∀ds∈l,ds∈bare)->acc.length+l.length*lows.length<=900000->∃x3',aA4 (putAt 3) aDt (l.map rwsT) [some (.lst (bare.map rwsT),.fz),some (.lst (lows.map tupT),.fz),some (.lst (acc.map rwsT),.own),x3] n =
   some (.nx,[some (.lst (bare.map rwsT),.fz),some (.lst (lows.map tupT),.fz),some (.lst ((acc++aBm l lows).map rwsT),.own),x3'],n):=by
  intro l
  induction l with
  |nil=>intro acc x3 _ _;exact⟨x3,by simp[aA4,aBm]⟩
  | cons ds l ih =>
   intro acc x3 hin hl;rw[aa,fO] at hl;have hds:=hin ds (a7 ..);obtain⟨q1,q2⟩:=hb ds hds;obtain⟨x3',e⟩:=ih (acc++lows.map (mvF ds)) (some (rwsT ds,.fz)) (fun e he=>hin e (a6 _ he)) (by rw[bf,a5];omega);refine⟨x3',?_⟩;have c0:aFm [some (.lst (bare.map rwsT),.fz),some (.lst (lows.map tupT),.fz),some (.lst (acc.map rwsT),.own),some (rwsT ds,.fz)] n=some (.lst ((lows.map (mvF ds)).map rwsT),.own,n):=by rw[b6];refine aCq lows tupT _ rfl ZM fun lw hlw'=>?_;have mv:=moved (ds:=ds) (lows:=lw) (by rw[q1,hlw lw hlw']) ZM q2 n;show _=some (rwsT (mvF ds lw),Md.fz,n);generalize rwsT (mvF ds lw)=o1 at *;generalize rwsT ds=o2 at *;generalize tupT lw=o3 at *;generalize lows.map tupT=o4 at *;generalize bare.map rwsT=o5 at *;generalize acc.map rwsT=o6 at *;simp! [srcOf,mv]
   have ex:extT (.lst (acc.map rwsT)) (.lst ((lows.map (mvF ds)).map rwsT))=some (.lst ((acc++lows.map (mvF ds)).map rwsT)):=by rw[bBn,if_pos (by rw[a5,a5,a5];omega),c5]
   have one:aDt [some (.lst (bare.map rwsT),.fz),some (.lst (lows.map tupT),.fz),some (.lst (acc.map rwsT),.own),some (rwsT ds,.fz)] n=some (.nx,[some (.lst (bare.map rwsT),.fz),some (.lst (lows.map tupT),.fz),some (.lst ((acc++lows.map (mvF ds)).map rwsT),.own),some (rwsT ds,.fz)],n):=by unfold aDt;show dChg 2 extT aFm [some (.lst (bare.map rwsT),.fz),some (.lst (lows.map tupT),.fz),some (.lst (acc.map rwsT),.own),some (rwsT ds,.fz)] n=_;rw[aNk c0 (u:=.lst (acc.map rwsT)) rfl ex];rfl
   rw[a8];unfold aA4;simp only[L2.Ds.putAt,bg,bh,aq];rw[one];have:acc++aBm (ds::l) lows=acc++lows.map (mvF ds)++aBm l lows:=by unfold aBm;rw[dQ,be]
   rw[this];exact e
 obtain⟨x3,e⟩:=gen bare [] none (fun _ h=>h) (by simpa using hz);rw[dj] at e;have al:(aBm bare lows).length<=bare.length*lows.length:=aI4 fun ds _=>by rw[a5];exact a9 _
 have so:=bAp hg ZM n;have lp:dFrz 0 aCz [some (.lst (bare.map rwsT),.fz),some (.lst (lows.map tupT),.fz),some (.lst [],.own),none] n=some (.nx,[some (.lst (bare.map rwsT),.fz),some (.lst (lows.map tupT),.fz),some (.lst ((aBm bare lows).map rwsT),.own),x3],n):=by show aCz [some (.lst (bare.map rwsT),.fz),some (.lst (lows.map tupT),.fz),some (.lst [],.own),none] n=_;unfold aCz dFor;exact e
 generalize (aLf (aBm bare lows)).map rwsT=out at *;generalize (aBm bare lows).map rwsT=o1 at *;generalize bare.map rwsT=o2 at *;generalize lows.map tupT=o3 at *;unfold aEx aJx;generalize dFrz 0 aCz=LL at *;simp! [dLst,b0,lp,so]
theorem aU2{α β:Type}{g h:α->List β}(s:∀a,(g a).Sublist (h a)):∀l:List α,(l.flatMap g).Sublist (l.flatMap h)
 |[]=>.slnil
 |a::l=>by rw[dQ,dQ];exact(s a).append (aU2 s l)
theorem aNm(pre post:List ZB)(x:List Int)(f:Int):(sums (pre++x::post)).Sublist (sums (pre++(x ++ [f])::post)):=by rw[aDp,aDp];refine aU2 (fun a=>List.Sublist.map _ ?_) _;rw[aB4,aB4,List.flatMap_append];exact List.sublist_append_left _ _
theorem wf_split{p:Nat}(h:p<ds.length)(f:Int):∃pre post,ds=pre++ds.getD p []::post/\wf ds p f=pre++(ds.getD p [] ++ [f])::post:=by
 refine⟨ds.take p,ds.drop (p+1),?_,?_⟩
 ·have:ds.getD p []=ds[p]:=by rw[az,ai h];rfl
  rw[this,<-cg h,dO]
 ·unfold wf;rw[gH,if_pos h]
theorem cS_wf{p:Nat}(h:p<ds.length)(f k:Int):cS ds k<=cS (wf ds p f) k:=by obtain⟨pre,post,e1,e2⟩:=wf_split h f;unfold cS;rw[e2];have s:=aNm pre post (ds.getD p []) f;rw[<-e1] at s;have:=s.countP_le (p:=fun x=>x==k);omega
structure Gd (d:List ZH) (ds:List ZB):Prop where
 up:∀x∈ds,x.Pairwise (· <= ·)
 nn:∀x∈ds,∀y∈x,0<=y
 zero:∀x∈ds,0∈x
 le:∀x∈ds,∀y∈x,∀k,cS ds k<cnt d k->y<=k
theorem aKe(B:Bk d)(f:Fits d (cS ds))(k:Int):k∈(aCw d ds).map (·.1)↔cS ds k<cnt d k:=by
 have Bs:=B.subs (cS ds);have c:=subs_cnt B (fun k=>⟨aJl ds k,f k⟩) k;constructor
 ·intro h;have:=Bs.cnt_pos h;omega
 ·intro h;exact Bs.mem ZM
theorem Gd.grow(B:Bk d)(hk:∀q∈d,0<=q.1)(g:Gd d ds){p:Nat}(hp:p<ds.length)(f:Fits d (cS ds))(ne:aCw d ds ≠ []):Gd d (wf ds p (low (aCw d ds))):=by
 obtain⟨_,lm,ll⟩:=aVc ne;have lk:=(aKe B f _).mp lm;have keys:∀k,cS ds k<cnt d k->low (aCw d ds)<=k:=fun k h=>ll k ((aKe B f k).mpr h);have l0:0<=low (aCw d ds):=by have h0:=aJl ds (low (aCw d ds));obtain⟨q,hq,e⟩:=b7.mp (B.mem (k:=low (aCw d ds)) ZM);rw[<-e];exact hk q hq
 have hx:ds.getD p []∈ds:=getD_mem hp;generalize low (aCw d ds)=lw at *;have mem:∀x∈wf ds p lw,x∈ds\/x=ds.getD p [] ++ [lw]:=fun x h=>fw h;refine⟨fun x h=>?_,fun x h y hy=>?_,fun x h=>?_,fun x h y hy k hk'=>?_⟩
 ·rcases mem x h with h |rfl
  ·exact g.up x h
  ·rw[cq];refine⟨g.up _ hx,h9 _ _,fun a ha b hb=>?_⟩;rw[b8.mp hb];exact g.le _ hx a ha lw lk
 ·rcases mem x h with h |rfl
  ·exact g.nn x h y hy
  ·rcases ci.mp hy with hy |hy
   ·exact g.nn _ hx y hy
   ·rw[b8.mp hy];exact l0
 ·rcases mem x h with h |rfl
  ·exact g.zero x h
  ·exact eQ _ (g.zero _ hx)
 ·have hk2:cS ds k<cnt d k:=Int.lt_of_le_of_lt (cS_wf hp lw k) hk';rcases mem x h with h |rfl
  ·exact g.le x h y hy k hk2
  ·rcases ci.mp hy with hy |hy
   ·exact g.le _ hx y hy k hk2
   ·rw[b8.mp hy];exact keys k hk2
theorem aSm(B:Bk d)(hk:∀q∈d,0<=q.1):∀ (k:Nat) {f:List (List ZB)},(∀ds∈f,Gr sz ds/\Gd d ds)->∀ds∈aEj d sz k f,Gr sz ds/\Gd d ds
 |0,f,h=>h
 | k+1,f,h=>by
  refine aSm B hk k (f:=aE8 d sz f) fun ds hds=>?_;unfold aE8 at hds;rcases aF4.mp hds with z |z
  ·cases z
  ·obtain⟨e,he,hd⟩:=fj.mp z;obtain⟨g1,p,hp,rfl,fb,ne⟩:=(h e he).1.grow hd;exact⟨g1,(h e he).2.grow B hk hp ((aI8 B e).mp fb) ne⟩
structure Shape (d:List ZH) (ss:List Nat) (ds:List ZB):Prop where
 gr:Gr (iS ss) ds
 gd:Gd d ds
 all:∀k,cS ds k=cnt d k
theorem aKq(B:Bk d)(hk:∀q∈d,0<=q.1)(h1:∀s∈ss,1<=s)(h:ds∈aBy d ss):Shape d ss ds:=by
 unfold aBy at h;split at h
 ·rw[dX] at h;obtain⟨h,f⟩:=h;have g0:Gd d (List.replicate ss.length [0]):=by
   refine⟨fun x hx=>?_,fun x hx y hy=>?_,fun x hx=>?_,fun x hx y hy k hk'=>?_⟩<;>obtain rfl:=(ir.mp hx).2
   ·exact h9 _ _
   ·rw[b8.mp hy];exact iL _
   ·exact b8.mpr rfl
   ·rw[b8.mp hy];have h0:=aJl (List.replicate ss.length [0]) k;obtain⟨q,hq,e⟩:=b7.mp (B.mem (k:=k) ZM);rw[<-e];exact hk q hq
  obtain⟨gr,gd⟩:=aSm B hk (aBi ss) (f:=[List.replicate ss.length [0]]) (fun e he=>by rw[b8.mp he];exact⟨aM4 ss h1,g0⟩) ds h;refine⟨gr,gd,fun k=>?_⟩;unfold aF8 at f;rw[bq] at f;have fi:=(aI8 B ds).mp f.1;have le:=fi k;have nl:¬cS ds k<cnt d k:=fun z=>by have:=(aKe B fi k).mpr z;rw[List.isEmpty_iff.mp f.2] at this;cases this
  omega
 ·cases h
theorem bAy(L:List ZH)(k:Int):cnt (aBd L) k=cnt L (k+(L.headD (0,0)).1):=by
 unfold aBd;generalize (L.headD (0,0)).1=t0
 induction L with
 |nil=>rfl
 | cons q L ih =>
  rw[a8,cnt_cons,cnt_cons,ih];by_cases z:q.1=k+t0
  ·rw[if_pos z,if_pos (show q.1 - t0=k by omega)]
  ·rw[if_neg z,if_neg (show ¬q.1 - t0=k by omega)]
theorem aSe(h:Tots L):∀q∈aBd L,0<=q.1:=fun q hq=>by
 obtain⟨p,hp,rfl⟩:=b7.mp hq;have up:=h.up;cases L with
 |nil=>cases hp
 | cons a L =>
  show 0<=p.1 - a.1;rcases ae.mp hp with rfl |hp
  ·omega
  ·rw[a8] at up;have:=gq up (bw (f:=(·.1)) hp);omega
theorem aU7(x y:List Int):sums [x,y]=duo x y:=by rw[aB4,aV1];rfl
theorem duo_up(X Y:List Int)(a b:Int):duo (X.map (· + a)) (Y.map (· + b))=(duo X Y).map (· + (a+b)):=by
 unfold duo;rw[fk,fL];congr 1;funext x;rw[b6,b6];refine c8 fun y _=>?_;show x+a+(y+b)=x+y+(a+b)
 omega
theorem cS_up(X Y:List Int)(a b k:Int):cS [X.map (· + a),Y.map (· + b)] k=cS [X,Y] (k - (a+b)):=by
 unfold cS;rw[aU7,aU7,duo_up,iH];congr 2;funext z;show (z+(a+b)==k)=(z==k - (a+b))
 rw[gA,beq_iff_eq,beq_iff_eq];omega
def aE1(L:List ZH)(s1 s2:Nat)(least:Int):List (List ZB):=aLf (aBm (aBy (aBd L) [s1,s2]) (aCv (L.headD (0,0)).1 least))
theorem two_of{α:Type}{l:List α}(h:l.length=2):∃a b,l = [a,b]:=by
 match l,h with
 |[a,b],_=>exact⟨a,b,rfl⟩
theorem aMb{t least:Int}(h:l∈aCv t least):∃a,l = [a,t - a]/\least<=a/\least<=t - a:=by obtain⟨k,hk,rfl⟩:=b7.mp h;have:=ej.mp hk;exact⟨least+k,rfl,by omega,by omega⟩
structure Pair (L:List ZH) (s1 s2:Nat) (least:Int) (x y:List Int):Prop where
 x1:1<=x.length
 xs:x.length<=s1
 y1:1<=y.length
 ys:y.length<=s2
 xu:x.Pairwise (· <= ·)
 yu:y.Pairwise (· <= ·)
 xl:∀z∈x,least<=z
 yl:∀z∈y,least<=z
 all:∀k,cS [x,y] k=cnt L k
theorem aL6(h:Tots L){s1 s2:Nat}(h1:1<=s1)(h2:1<=s2){least:Int}(hr:r∈aBm (aBy (aBd L) [s1,s2]) (aCv (L.headD (0,0)).1 least)):∃x y,r = [x,y]/\Pair L s1 s2 least x y:=by
 obtain⟨ds,hds,hm⟩:=fj.mp hr;obtain⟨lw,hlw,rfl⟩:=b7.mp hm
 have S:=aKq (aM9 h.bk) (aSe h) (fun s hs=>by
  simp only[ae,fq,or_false] at hs
  rcases hs with rfl |rfl<;>assumption) hds
 obtain⟨X,Y,rfl⟩:=two_of S.gr.len;obtain⟨a,rfl,a1,a2⟩:=aMb hlw;refine⟨X.map (· + a),Y.map (· + ((L.headD (0,0)).1 - a)),rfl,?_⟩;have hX:X ∈ [X,Y]:=a7 ..;have hY:Y ∈ [X,Y]:=a6 _ (a7 ..);have fX:((X.length:Nat):Int)<=(s1:Int):=S.gr.fit 0 ZJ;have fY:((Y.length:Nat):Int)<=(s2:Int):=S.gr.fit 1 ZJ;have oX:=S.gr.one X hX;have oY:=S.gr.one Y hY;refine⟨by rw[a5];exact oX,by rw[a5];omega,by rw[a5];exact oY,by rw[a5];omega,?_,?_,fun z hz=>?_,fun z hz=>?_,fun k=>?_⟩
 ·exact List.Pairwise.map _ (fun _ _ _=>by omega) (S.gd.up X hX)
 ·exact List.Pairwise.map _ (fun _ _ _=>by omega) (S.gd.up Y hY)
 ·obtain⟨w,hw,rfl⟩:=b7.mp hz;have:=S.gd.nn X hX w hw;omega
 ·obtain⟨w,hw,rfl⟩:=b7.mp hz;have:=S.gd.nn Y hY w hw;omega
 ·rw[cS_up,S.all,bAy];congr 1;omega
theorem aLm(h:Tots L){s1 s2:Nat}(h1:1<=s1)(h2:1<=s2){least:Int}(h0:0<=least):∀l∈aBm (aBy (aBd L) [s1,s2]) (aCv (L.headD (0,0)).1 least),l ≠ []/\∀d∈l,∀x∈d,0<=x:=fun l hl=>by
 obtain⟨x,y,rfl,P⟩:=aL6 h h1 h2 hl;refine⟨by simp,fun d hd z hz=>?_⟩;simp only[ae,fq,or_false] at hd;rcases hd with rfl |rfl
 ·have:=P.xl z hz;omega
 ·have:=P.yl z hz;omega
theorem aW7(h:Tots L){s1 s2:Nat}(h1:1<=s1)(h2:1<=s2){least:Int}(h0:0<=least)(hr:r∈aE1 L s1 s2 least):∃x y,r = [x,y]/\Pair L s1 s2 least x y :=
 aL6 h h1 h2 ((aYk fun l hl=>(aLm h h1 h2 h0 l hl).2).mp hr)
theorem aZg:aM5=aFu:=rfl
theorem aL8(h:Tots L)(h1:∀s∈ss,1<=s/\s<=8){least:Int}(l0:0<=least)(l1:least<=30)(b:Bool)(n:Nat) :
  aDv [(.lst (prT L),b),(tupT (iS ss),true),(.int (ss.length:Int),true),(.int least,true)] n=some (.non,false,n):=by
 have nt:=aTy h b n;have nl:=aGk least 0 30 n l0 l1;have ty:pIsI .tuple n [tupT (iS ss)]=some (.bl true,.fz):=rfl;have ln:pLen n [tupT (iS ss)]=some (.int (ss.length:Int),.fz):=by unfold tupT;rw[aD7,a5,aUq]
 have ne:pNe n [.int (ss.length:Int),.int (ss.length:Int)]=some (.bl false,.fz):=by rw[bAc,aG4 rfl];rfl
 have ti:tupT (iS ss) = .tup (ss.map fun m=>.int (m:Nat)):=by unfold tupT iS;rw[b6];rfl
 have gen:∀ (x0:Option (T × Md)),∃x4,dFrz 1 aDd [x0,some (tupT (iS ss),.fz),some (.int (ss.length:Int),.fz),some (.int least,.fz),none] n=some (.nx,[x0,some (tupT (iS ss),.fz),some (.int (ss.length:Int),.fz),some (.int least,.fz),x4],n):=fun x0=>by
  obtain⟨ρ',⟨c,rfl⟩,e⟩:=aY4 (put:=putAt 4) (b:=aEn) (g:=fun m:Nat=>T.int m) (n:=n) (R:=fun (_:Unit) ρ=>∃c,ρ = [x0,some (tupT (iS ss),.fz),some (.int (ss.length:Int),.fz),some (.int least,.fz),c]) (step:=fun s _=>s) ss () [x0,some (tupT (iS ss),.fz),some (.int (ss.length:Int),.fz),some (.int least,.fz),none]
   (fun m hm s ρ hR=>by
    obtain⟨c,rfl⟩:=hR;have:=h1 m hm;have nn:=aGk (m:Int) 1 8 n ZM ZM;refine⟨_,_,rfl,?_,some (.int (m:Nat),.fz),rfl⟩;generalize tupT (iS ss)=ts at *;unfold aEn
    simp! [nn]) ⟨none,rfl⟩
  refine⟨c,?_⟩;rw[bBr (t:=tupT (iS ss)) rfl];unfold aDd dFor;have it:dItS (dVar 1) [x0,some (tupT (iS ss),.fz),some (.int (ss.length:Int),.fz),some (.int least,.fz),none] n=some (ss.map fun m=>T.int (m:Nat),n):=by rw[ti];rfl
  rw[it];exact e
 obtain⟨x4,e⟩:=gen (some (.lst (prT L),if b then .fz else .bor));unfold aDv aIr;generalize tupT (iS ss)=ts at *;generalize prT L=pl at *;generalize dFrz 1 aDd=LL at *;cases b
 ·simp only[bu,if_false] at e;simp! [nt,ty,ln,ne,e,nl]
 ·simp only[if_true] at e;simp! [nt,ty,ln,ne,e,nl]
theorem pow_two(s1 s2:Nat)(h1:1<=s1/\s1<=8)(h2:1<=s2/\s2<=8):[s1,s2].length^aBi [s1,s2]<=16384:=by
 have g:aBi [s1,s2]<=14:=by unfold aBi iS;simp only[a8,eD,sumI,aa,di];omega
 show 2^aBi [s1,s2]<=16384;exact ao (dz ZE g) ZE
theorem pairs(h:Tots L){s1 s2:Nat}(h1:1<=s1/\s1<=8)(h2:1<=s2/\s2<=8){least:Int}(l0:0<=least)(l1:least<=30)(hz:(aBy (aBd L) [s1,s2]).length*(aCv (L.headD (0,0)).1 least).length<=900000)(b:Bool)(n:Nat) :
  aMs [(.lst (prT L),b),(tupT (iS [s1,s2]),true),(.int least,true)] n=some (.lst ((aE1 L s1 s2 least).map rwsT),true,n):=by
 have hs:∀s ∈ [s1,s2],1<=s/\s<=8:=fun s hs=>by
  simp only[ae,fq,or_false] at hs;rcases hs with rfl |rfl
  ·exact h1
  ·exact h2
 have na:=aL8 h hs l0 l1 b n;have naf:=aL8 h hs l0 l1 true n;have na2:([s1,s2].length:Int)=2:=rfl;rw[na2] at na naf;have sh:=shapes h (ss:=[s1,s2]) (show 1<=2 by decide) (show 2<=3 by decide) hs (ao (pow_two s1 s2 h1 h2) ZE) b n;rw[<-aZg] at sh;obtain⟨q0,L',rfl⟩:∃q0 L',L=q0::L':=by
  cases L with
  |nil=>exact absurd rfl h.ne
  |cons q L=>exact⟨q,L,rfl⟩
 have r0:=h.rng q0 (a7 ..);have st:=aXi (t:=q0.1) l0 l1 ZM ZM n;have g0:pGet n [.lst (prT (q0::L')),.int 0]=some (.tup [.int q0.1,.int q0.2],.fz):=by show ((at? (prT (q0::L')) 0).map fun t=>(t,Md.fz))=_;unfold at? prT;rw[if_pos ZM,if_pos (by rw[a5,aa];omega)];rfl
 have g1:∀a b:Int,pGet n [.tup [.int a,.int b],.int 0]=some (.int a,.fz):=fun _ _=>rfl;have mem:∀ {ds},ds∈aBy (aBd (q0::L')) [s1,s2]->Shape (aBd (q0::L')) [s1,s2] ds:=fun hd=>aKq (aM9 h.bk) (aSe h) (fun s hs'=>(hs s hs').1) hd
 have am:=aZn (bare:=aBy (aBd (q0::L')) [s1,s2]) (lows:=aCv q0.1 least) (m:=2) (fun ds hds=>⟨(mem hds).gr.len,fun d hd=>by
   have:=((mem hds).gr.sh (show 2<=3 by decide) (fun s hs'=>by
    obtain⟨k,hk,rfl⟩:=b7.mp hs';have:=hs k hk
    omega)).most d hd
   omega⟩) (fun l hl=>by obtain⟨a,rfl,_⟩:=aMb hl;rfl) ZE hz (aLm h h1.1 h2.1 l0) n
 unfold aE1;show _=some (T.lst ((aLf (aBm (aBy (aBd (q0::L')) [s1,s2]) (aCv q0.1 least))).map rwsT),true,n);generalize (aLf (aBm (aBy (aBd (q0::L')) [s1,s2]) (aCv q0.1 least))).map rwsT=out at *;generalize (aBy (aBd (q0::L')) [s1,s2]).map rwsT=o1 at *;generalize (aCv q0.1 least).map tupT=o2 at *;generalize prT (q0::L')=o3 at *;generalize tupT (iS [s1,s2])=o4 at *;unfold aMs aX0;cases b<;>simp! [na,sh,g0,g1,st,am]
theorem bBk:∀a b:List Int,eqTs (a.map T.int) (b.map T.int)=decide (a=b)
 |[],[]=>rfl
 |[],_::_=>rfl
 |_::_,[]=>rfl
 | x::a,y::b=>by
  rw[a8,a8,eqTs,bBk a b,eqT];by_cases h:x=y
  ·subst h;simp
  ·simp[h]
theorem aVp:∀a b:List ZB,eqTs (a.map tupT) (b.map tupT)=decide (a=b)
 |[],[]=>rfl
 |[],_::_=>rfl
 |_::_,[]=>rfl
 | x::a,y::b=>by
  have e:eqT (tupT x) (tupT y)=decide (x=y):=bBk x y;rw[a8,a8,eqTs,aVp a b,e];by_cases h:x=y
  ·subst h;simp
  ·simp[h]
theorem aQt(k:Nat)(a:List ZB):aAo (k+2) (rwsT a)=true:=by show (a.map tupT).all (aAo (k+1))=true;rw[gQ,br];exact fun l _=>aXu k l
theorem bCa(a b:List ZB)(n:Nat):pNe n [rwsT a,rwsT b]=some (.bl (!decide (a=b)),.fz):=by
 rw[bAc];have e:eqP (rwsT a) (rwsT b)=some (decide (a=b)):=by show (if (aAo 6 (rwsT a)&&aAo 6 (rwsT b))=true then some (eqT (rwsT a) (rwsT b)) else none)=_;rw[aQt 4 a,aQt 4 b,if_pos (by rfl)];have:eqT (rwsT a) (rwsT b)=decide (a=b):=aVp a b;rw[this]
 rw[e];rfl
def aDi(L:List ZH)(a b:List Int)(least:Int):List (List ZB):=(aE1 L a.length b.length least).filter fun r=>!decide (r = [a,b]) && !decide (r = [b,a])
theorem aXn(t least:Int):(aCv t least).length=(t - least+1 - least).toNat:=by unfold aCv;rw[a5,gD]
theorem others{F G:Nat}(ha:Die F a)(hb:Die G b)(hF:F<=8)(hG:G<=8){least:Int}(l0:0<=least)(l1:least<=30)(hz:∀L,Tots L->Of L (sums [a,b])->(aBy (aBd L) [a.length,b.length]).length*(aCv (L.headD (0,0)).1 least).length<=900000)(n:Nat) :
  ∃L,Tots L/\Of L (sums [a,b])/\aHg [(tupT a,true),(tupT b,true),(.int least,true)] n=some (.lst ((aDi L a b least).map rwsT),true,n):=by
 have hB:big=1000000:=rfl
 have D:Dice 2 8 [a,b]:=⟨by simp,by simp,fun d hd=>by
  simp only[ae,fq,or_false] at hd;rcases hd with rfl |rfl
  ·exact⟨ha.one,ao ha.most hF,ha.rng,ha.up⟩
  ·exact⟨hb.one,ao hb.most hG,hb.rng,hb.up⟩⟩
 obtain⟨d,B,e1⟩:=aFj D ZE ZE n;have fl:=aJa D ZE ZE;have fp:=aWa D;have sl:=aJf [a,b];obtain⟨L,T1,O1,_,e2⟩:=aZv B (aJg D ZE ZE) ZM fun z=>by rw[z] at sl;simp at sl;omega
 refine⟨L,T1,O1,?_⟩;have h1:=ha.one;have h2:=hb.one;have h3:=ha.most;have h4:=hb.most;have so:aF6 n [.dic (kvs d)]=some (.lst (prT L),.own):=by rw[<-e2];simp only[aF6,aGl,d7]
 have n1:=aV4 ha hF n;have n2:=aV4 hb hG n;have n3:=aGk least 0 30 n l0 l1;have pz:=hz L T1 O1;have pp:=pairs T1 (s1:=a.length) (s2:=b.length) ZM ZM l0 l1 pz false n;have la:pLen n [tupT a]=some (.int (a.length:Int),.fz):=by unfold tupT;rw[aD7,a5]
 have lb:pLen n [tupT b]=some (.int (b.length:Int),.fz):=by unfold tupT;rw[aD7,a5]
 have ab:T.tup [tupT a,tupT b]=rwsT [a,b]:=rfl;have ba:T.tup [tupT b,tupT a]=rwsT [b,a]:=rfl;have sz:T.tup [.int (a.length:Int),.int (b.length:Int)]=tupT (iS [a.length,b.length]):=rfl;have b2:2<=big:=by decide
 have e1:aBh [(rwsT [a,b],true)] n=some (.dic (kvs d),true,n):=e1;have few:(aE1 L a.length b.length least).length<=900000:=by unfold aE1 aLf;rw[a5,(aCp _).length_eq,a5];exact ao (aI4 fun ds _=>by rw[a5];exact a9 _) pz
 have c0:∀x3 m,aK6 [some (tupT a,.fz),some (tupT b,.fz),some (.int least,.fz),x3,some (.lst ((aE1 L a.length b.length least).map rwsT),m)] n=some (.lst ((aDi L a b least).map rwsT),.own,n):=fun x3 m=>by
  refine aF3 (aE1 L a.length b.length least) rwsT (fun r=>!decide (r = [a,b]) && !decide (r = [b,a])) rwsT (by cases m<;>rfl) ZM fun r hr=>?_;have q1:=bCa r [a,b] n;have q2:=bCa r [b,a] n;rw[<-ab] at q1;rw[<-ba] at q2;generalize (aE1 L a.length b.length least).map rwsT=o1 at *;generalize rwsT r=o2 at *;generalize tupT a=ta at *;generalize tupT b=tb at *;generalize decide (r = [a,b])=z1 at *;generalize decide (r = [b,a])=z2 at *;constructor
  ·cases z1<;>cases z2<;>simp! [srcOf,dTup,b2,q1,q2]
  ·intro _;simp! [srcOf]
 have fr:∀dd:DS,∀x3,aBp 4 dd [some (tupT a,.fz),some (tupT b,.fz),some (.int least,.fz),x3,some (.lst ((aE1 L a.length b.length least).map rwsT),.own)] n=dd [some (tupT a,.fz),some (tupT b,.fz),some (.int least,.fz),x3,some (.lst ((aE1 L a.length b.length least).map rwsT),.own)] n:=fun _ _=>rfl;rw[<-sz] at pp;rw[<-ab] at e1;generalize (aDi L a b least).map rwsT=out at *;generalize (aE1 L a.length b.length least).map rwsT=o1 at *;generalize prT L=pl at *;generalize kvs d=kd at *;generalize tupT a=ta at *;generalize tupT b=tb at *;unfold aHg aUp;generalize aK6=CC at *;generalize aBp 4=FF at *;simp! [n1,n2,n3,dTup,b2,e1,so,la,lb,pp,fr,c0]
end Dm
namespace K02
open PySem L2 L2.Ds
def bB4:DE:=aBl (dIt (dPr pGet (aAa (dVar 2) (aAa (dK (.int 0)) dNil)))) (srcOf [none,some 0,some 1,some 2,some 3,some 4,some 5,some 6,some 7,some 8,some 9,some 10,some 11,some 12,some 13,some 14,some 15]) (putAt 0) yes (dPr pAdd (aAa (dVar 0) (aAa (dVar 4) dNil)))
def bA7:DE:=aBl (dIt (dPr pGet (aAa (dVar 2) (aAa (dK (.int 1)) dNil)))) (srcOf [none,some 0,some 1,some 2,some 3,some 4,some 5,some 6,some 7,some 8,some 9,some 10,some 11,some 12,some 13,some 14,some 15]) (putAt 0) yes (dPr pSub (aAa (dVar 0) (aAa (dVar 4) dNil)))
def aJ7:DS:=(dIfS (dTru (dPr pLe (aAa (dPr pMax2 (aAa (dPr pAdd (aAa (dVar 10) (aAa (dVar 11) dNil))) dNil)) (aAa (dK (.int 30)) dNil)))) (dChg 9 appT (dPr pAdd (aAa (dTup (aAa (dFz (dVar 10)) (aAa (dFz (dVar 11)) dNil))) (aAa (dSl2 (dVar 2) (aGn (dK (.int 2))) aF9) dNil)))) aCh)
def aY3:DS:=dFor (dItS (dSl2 (dCall 3 Dd.aHg (aAe (dPr pGet (aAa (dVar 2) (aAa (dK (.int 0)) dNil))) (aAe (dPr pGet (aAa (dVar 2) (aAa (dK (.int 1)) dNil))) (aAe (dK (.int 0)) bNil)))) aF9 (aGn (dK (.int 2))))) (aD6 10 11) aJ7
def aYo:DE:=aBl (aH0 (aAa (dK (.int 121)) dNil)) (srcOf [none,some 0,some 1,some 2,some 3,some 4,some 5,some 6,some 7,some 8,some 9,some 10,some 11,some 12,some 13,some 14,some 15]) (putAt 0) (dTru (dPr pNe (aAa (dPr aC4 (aAa (dVar 14) (aAa (dVar 0) (aAa (dK (.int 0)) dNil)))) (aAa (dPr aC4 (aAa (dVar 15) (aAa (dVar 0) (aAa (dK (.int 0)) dNil)))) dNil)))) (dVar 0)
def aPc:DS:=(dSeq (dPut (aD6 13 14) (dTup (aAa (dFz (dPr aMy (aAa (dCall 1 Dd.aBt (aAe (dVar 2) bNil)) dNil))) (aAa (dFz (dPr aMy (aAa (dCall 1 Dd.aBt (aAe (dVar 11) bNil)) dNil))) dNil)))) (dSeq (dSet 15 aYo) (dSeq (dIfS (dOr (dTru (dPr pNe (aAa (dCall 2 Dd.aKz (aAe (dVar 2) (aAe (dVar 11) bNil))) (aAa (dPr pEq (aAa (dVar 15) (aAa (dLst dNil) dNil))) dNil)))) (dNot (dTru (dPr (pIsI .bool) (aAa (dCall 2 Dd.aKz (aAe (dVar 2) (aAe (dVar 11) bNil))) dNil))))) (dRet (dK (.bl false))) aCh) (dSeq (dIfS (dOr (dTru (dPr pNe (aAa (dCall 2 Dd.aEw (aAe (dVar 2) (aAe (dVar 11) bNil))) (aAa (dPr pGet (aAa (dPr pAdd (aAa (dVar 15) (aAa (dLst (aAa (dFz (dK .non)) dNil)) dNil))) (aAa (dK (.int 0)) dNil))) dNil)))) (dTru (dPr pNe (aAa (dCall 2 Dd.aEw (aAe (dVar 11) (aAe (dVar 2) bNil))) (aAa (dCall 2 Dd.aEw (aAe (dVar 2) (aAe (dVar 11) bNil))) dNil))))) (dRet (dK (.bl false))) aCh) (dIfS (dAnd (dTru (dPr aTp (aAa (dVar 12) (aAa (dTup (aAa (dFz (dK (.int 2))) (aAa (dFz (dK (.int 3))) dNil))) dNil)))) (dTru (dPr pNe (aAa (dVar 15) (aAa (dLst dNil) dNil))))) (dRet (dK (.bl false))) aCh)))))
def aWc:DS:=dFor (aZ5 (dVar 9)) (aD6 12 11) aPc
def A1:DS:=dSet 2 (dCall 4 Dd.aBq (aAe (dVar 0) (aAe (dVar 1) (aAe (dPr pAdd (aAa (dK (.int 2)) (aAa (dCall 3 Dd.aAx (aAe (dVar 0) (aAe (dVar 1) (aAe (dK (.int 2)) bNil)))) dNil))) (aAe (dK (.int 4)) bNil)))))
def A2:DS:=dSet 3 (dCall 3 Dd.aAx (aAe (dVar 0) (aAe (dVar 1) (aAe (dK (.int 4)) bNil))))
def A5:DS:=dIfS (dAnd (dTru (dPr pLe (aAa (dPr pAdd (aAa (dPr pGet (aAa (dPr pGet (aAa (dVar 2) (aAa (dK (.int 0)) dNil))) (aAa (dPr pNeg (aAa (dK (.int 1)) dNil)) dNil))) (aAa (dVar 3) dNil))) (aAa (dK (.int 30)) dNil)))) (dTru (dPr pGe (aAa (dPr pGet (aAa (dPr pGet (aAa (dVar 2) (aAa (dK (.int 1)) dNil))) (aAa (dK (.int 0)) dNil))) (aAa (dVar 3) dNil))))) (dSet 5 (dPr pAdd (aAa (dTup (aAa (dFz (dPr aDg (aAa bB4 dNil))) (aAa (dFz (dPr aDg (aAa bA7 dNil))) dNil))) (aAa (dSl2 (dVar 2) (aGn (dK (.int 2))) aF9) dNil)))) aCh
def A6:DS:=dSet 6 (dCall 4 Dd.aBq (aAe (dVar 0) (aAe (dVar 1) (aAe (dPr pAdd (aAa (dK (.int 1)) (aAa (dCall 3 Dd.aAx (aAe (dVar 0) (aAe (dVar 1) (aAe (dK (.int 3)) bNil)))) dNil))) (aAe (dK (.int 4)) bNil)))))
def A7:DS:=dSet 7 (dCall 3 Dd.aAx (aAe (dVar 0) (aAe (dVar 1) (aAe (dPr pLen (aAa (dPr pGet (aAa (dVar 2) (aAa (dK (.int 0)) dNil))) dNil)) bNil))))
def A8:DS:=dSet 8 (dPr pAdd (aAa (dTup (aAa (dFz (dPr aDg (aAa (dPr aH8 (aAa (dPr pAdd (aAa (dPr pAdd (aAa (dSl2 (dPr pGet (aAa (dVar 2) (aAa (dK (.int 0)) dNil))) aF9 (aGn (dVar 7))) (aAa (dTup (aAa (dFz (dPr pMin (aAa (dK (.int 30)) (aAa (dPr pAdd (aAa (dPr pGet (aAa (dPr pGet (aAa (dVar 2) (aAa (dK (.int 0)) dNil))) (aAa (dVar 7) dNil))) (aAa (dK (.int 1)) dNil))) dNil)))) dNil)) dNil))) (aAa (dSl2 (dPr pGet (aAa (dVar 2) (aAa (dK (.int 0)) dNil))) (aGn (dPr pAdd (aAa (dVar 7) (aAa (dK (.int 1)) dNil)))) aF9) dNil))) dNil)) dNil))) dNil)) (aAa (dSl2 (dVar 2) (aGn (dK (.int 1))) aF9) dNil)))
def A9:DS:=dSet 9 (dLst (aAa (dFz (dVar 4)) (aAa (dFz (dVar 5)) (aAa (dFz (dVar 6)) (aAa (dFz (dVar 8)) dNil)))))
def b_law:DS:=(dSeq A1 (dSeq A2 (dSeq (dSet 4 (dRev (dVar 2))) (dSeq (aC3 5 2) (dSeq A5 (dSeq A6 (dSeq A7 (dSeq A8 (dSeq A9 (dSeq aY3 (dSeq (dFrz 9 aWc) (dRet (dK (.bl true))))))))))))))
end K02
namespace K02
open PySem PySem.Spec PyProof.Rows L2 L2.Ds
def top(i:Nat):Stmt:=PySem.Challenge.pw_dicesums_k02_whole_alike.main.body.getD i (.Pass ⟨0,0,0,0⟩)
abbrev aRn:Stmt:=top 12
abbrev aYl:Stmt:=top 13
abbrev aW0:Stmt:=top 14
abbrev aKi:Stmt:=top 15
abbrev aRi:Stmt:=top 16
abbrev aLb:Stmt:=top 17
abbrev aT8:Stmt:=top 18
abbrev aQn:Stmt:=top 19
abbrev aLa:Stmt:=top 20
abbrev aWv:Stmt:=top 21
abbrev aXc:Stmt:=top 22
abbrev bB2:Stmt:=top 25
abbrev st_alike:Stmt:=top 24
abbrev aNi:Stmt:=top 29
abbrev aZr:Stmt:=top 37
abbrev st_moved:Stmt:=top 36
abbrev aSc:Stmt:=top 35
abbrev st_rest:Stmt:=top 30
abbrev aP2:Stmt:=top 33
abbrev st_grown:Stmt:=top 32
abbrev bB8:Stmt:=top 31
abbrev aX6:Stmt:=top 34
abbrev st_pairs:Stmt:=top 27
abbrev aZ4:Stmt:=top 28
abbrev aLe:Stmt:=top 39
abbrev aRl:Stmt:=top 40
abbrev aTf:Stmt:=top 41
abbrev aTb:Stmt:=top 42
abbrev aXm:Stmt:=top 43
abbrev aTl:Stmt:=top 44
abbrev aRw:Stmt:=top 45
abbrev aM3:Stmt:=top 46
abbrev bAh:Stmt:=top 47
theorem ndl:(["_law_script","_law_town","_law_dice_here","_law_step","_law_about","_law_raised","_law_drawn","_law_at","_law_changed","_law_rows","_law_one","_law_other","_law_place","_law_mine","_law_theirs","_law_some"]:List Str).Nodup:=by decide +kernel
set_option genInjectivity false in
set_option genSizeOf false in
structure Ys (K:W.Frag) (mg:Str->Option Value) where
 h0:Heap
 X:K.In h0
 G:h0.Ns ji mg
 aR:Fr
 aS:Fr
 aT:Fr
 aU:Fr
 aV:Fr
 aW:Fr
 aX:Fr
 aY:Fr
 aZ:Fr
 bA:Fr
 bB:Fr
 bC:Fr
 bD:Fr
 bE:Fr
 bF:Fr
 bG:Fr
 bH:Fr
 bI:Fr
 bJ:Fr
 bK:Fr
 bL:Fr
 bM:Fr
 bN:Fr
 bO:Fr
 bP:Fr
 bQ:Fr
 bR:Fr
 bS:Fr
 bT:Fr
 bU:Fr
 bV:Fr
 bW:Fr
 aH:Fr
 bX:Tok
 bY:Tok
 bZ:Tok
 cA:Tok
 cB:Tok
 cC:FnIn K "is_number" aRn aR
 cD:FnIn K "is_die" aYl aS
 cE:FnIn K "is_dice" aW0 aT
 cF:FnIn K "is_total_row" aKi aU
 cG:FnIn K "is_totals" aRi aV
 cH:FnIn K "need_number" aLb aW
 cI:FnIn K "need_die" aT8 aX
 cJ:FnIn K "need_dice" aQn aY
 cK:FnIn K "need_totals" aLa aZ
 cL:FnIn K "counted" aWv bA
 cM:FnIn K "product" aXc bB
 cN:FnIn K "parted" bB2 bC
 cO:FnIn K "alike" st_alike bD
 cP:FnIn K "need_asked" aNi bE
 cQ:FnIn K "raised" aZr bF
 cR:FnIn K "moved" st_moved bG
 cS:FnIn K "all_moved" aSc bH
 cT:FnIn K "rest" st_rest bI
 cU:FnIn K "with_face" aP2 bJ
 cV:FnIn K "grown" st_grown bK
 cW:FnIn K "shapes" bB8 bL
 aI:FnIn K "starts" aX6 bM
 cX:FnIn K "pairs" st_pairs bN
 cY:FnIn K "others" aZ4 bO
 cZ:FnIn K "_law_cell_at" aLe bP
 dA:FnIn K "_law_mixed" aRl bQ
 dB:FnIn K "_law_draw" aTf bR
 dC:FnIn K "_law_pick" aTb bS
 dD:FnIn K "_law_die" aXm bT
 dE:FnIn K "_law_dice" aTl bU
 dF:FnIn K "_law_rolls" aRw bV
 dG:FnIn K "_law_totals" aM3 bW
 aN:FnIn K "law" bAh aH
 aL:mg "all" = none
 aO:mg "bool" = none
 aE:mg "dict" = none
 aP:mg "enumerate" = none
 dH:mg "int" = none
 aC:mg "isinstance" = none
 aA:mg "len" = none
 aG:mg "list" = none
 dI:mg "max" = none
 aJ:mg "min" = none
 aD:mg "range" = none
 dJ:mg "set" = none
 aF:mg "sorted" = none
 aK:mg "sum" = none
 aB:mg "tuple" = none
 aM:mg "GREATEST_FACE" = some (.int 30 bX)
 dK:mg "GREATEST_TOTAL" = some (.int 120 bY)
 dL:mg "MOST_DICE" = some (.int 4 bZ)
 aQ:mg "MOST_FACES" = some (.int 8 cA)
 dM:mg "MOST_WAYS" = some (.int 4096 cB)
section
variable {P:jW}{w:World}{K:W.Frag}{mg:Str->Option Value}{base:Heap}{tw:Addr}(Y:Ys K mg)
include Y
theorem aEr:Kn P w K mg base 1 "is_number" ["thing","low","high"] Dd.aB5 tw:=knF (lv:=0) (N:=["thing","low","high"]) Y.X Y.G Y.cC (fun _ _ _ _ _ _ hr nd =>
  (aAd (aC0 (SW.st (aRm (aCt (aC6 (aIc (k:=.int) (aAb 0) Y.aC Y.dH boot_int))) (aIe (aC6 (aIc (k:=.bool) (aAb 0) Y.aC Y.aO boot_bool))))) (aAf (aAw aI1)) aA8) (aAf (aAw (se_chain (p1:=fun a b=>decide (a<=b)) (p2:=fun a b=>decide (a<=b)) (opC fun _ _ _ _ _ _ h=>le_int h) (opC fun _ _ _ _ _ _ h=>le_int h) (aAb 1) (aAb 0) (aAb 2))))))
theorem aVa:Kn P w K mg base 2 "is_die" ["thing"] Dd.aGw tw:=knF (lv:=1) (N:=["thing"]) Y.X Y.G Y.cD (fun _ _ _ _ _ _ hr nd =>
  (aAd (aC0 (SW.st (aRm (aCt (aC6 (aIc (k:=.tuple) (aAb 0) Y.aC Y.aB kC))) (aIe (aCt (aV2 (p1:=fun a b=>decide (a<=b)) (p2:=fun a b=>decide (a<=b)) (opC fun _ _ _ _ _ _ h=>le_int h) (opC fun _ _ _ _ _ _ h=>le_int h) aAg (aAs aDl Y.aA ju (aAh (aAb 0) aAn)) (aDu Y.aQ)))))) (aAf (aAw aI1)) aA8) (aAd (aC5 0 (aC0 (aCt (aC6 (aAs (aZu rfl) Y.aL boot_all (aAh (aBr rfl (N':=["face","thing"]) (CompTxt.of) ZE (si_c (aAb 0)) (fun _ _ _ _ _=>(aAr 0 (show (["face","thing"]:List Str).Nodup by decide))) (fun _ _ _ _ _=>aB3) (fun _ _ _ _ _=>(aAu (aEr Y) (aAc (aAb 0) (aAc aAg (aAc (aDu Y.aM) aAl)))))) aAn)))) (aAf (aAw aI1)) aA8)) (aAf (aAw (bBt (aRj hr.u6 (aDz hr.units0)) (aA0 (aUb hr.hd) Y.aG boot_list (aAh (aAb 0) aAn)) (aAs (aUy hr.hd) Y.aF kz (aAh (aAb 0) aAn))))))))
theorem aZm:Kn P w K mg base 3 "is_dice" ["thing"] Dd.aHa tw:=knF (lv:=2) (N:=["thing"]) Y.X Y.G Y.cE (fun _ _ _ _ _ _ hr nd =>
  (aAd (aC0 (SW.st (aRm (aCt (aC6 (aIc (k:=.tuple) (aAb 0) Y.aC Y.aB kC))) (aIe (aCt (aV2 (p1:=fun a b=>decide (a<=b)) (p2:=fun a b=>decide (a<=b)) (opC fun _ _ _ _ _ _ h=>le_int h) (opC fun _ _ _ _ _ _ h=>le_int h) aAg (aAs aDl Y.aA ju (aAh (aAb 0) aAn)) (aDu Y.dL)))))) (aAf (aAw aI1)) aA8) (aAf (aC5 0 (aAw (aAs (aZu rfl) Y.aL boot_all (aAh (aBr rfl (N':=["die","thing"]) (CompTxt.of) ZE (si_c (aAb 0)) (fun _ _ _ _ _=>(aAr 0 (show (["die","thing"]:List Str).Nodup by decide))) (fun _ _ _ _ _=>aB3) (fun _ _ _ _ _=>(aAu (aVa Y) (aAc (aAb 0) aAl)))) aAn)))))))
theorem aLg:Kn P w K mg base 2 "is_total_row" ["thing"] Dd.aCr tw:=knF (lv:=1) (N:=["thing"]) Y.X Y.G Y.cF (fun _ _ _ _ _ _ hr nd =>
  (aAd (aC0 (SW.st (aRm (aCt (aC6 (aIc (k:=.tuple) (aAb 0) Y.aC Y.aB kC))) (aIe (aBn (aJy hr.u6 (aCd hr.units0)) (aAs aDl Y.aA ju (aAh (aAb 0) aAn)) aAg)))) (aAf (aAw aI1)) aA8) (aAf (aAw (se_and (aAu (aEr Y) (aAc (aBx (aA5 hr.u1) (aAb 0) aAg (fun _ _=>rfl)) (aAc aAg (aAc (aDu Y.dK) aAl)))) (se_one (aAu (aEr Y) (aAc (aBx (aA5 hr.u1) (aAb 0) aAg (fun _ _=>rfl)) (aAc aAg (aAc (aDu Y.dM) aAl))))))))))
theorem aT0:Kn P w K mg base 3 "is_totals" ["thing"] Dd.aEs tw:=knF (lv:=2) (N:=["thing","heads"]) Y.X Y.G Y.cG (fun _ _ _ _ _ _ hr nd =>
  (aAd (aC0 (SW.st (aRm (aCt (aC6 (aIc (k:=.list) (aAb 0) Y.aC Y.aG boot_list))) (aIe (aCt (aC6 (aAb 0)))))) (aAf (aAw aI1)) aA8) (aAd (aC5 0 (aC0 (aCt (aC6 (aAs (aZu rfl) Y.aL boot_all (aAh (aBr rfl (N':=["row","thing","heads"]) (CompTxt.of) ZE (si_c (aAb 0)) (fun _ _ _ _ _=>(aAr 0 (show (["row","thing","heads"]:List Str).Nodup by decide))) (fun _ _ _ _ _=>aB3) (fun _ _ _ _ _=>(aAu (aLg Y) (aAc (aAb 0) aAl)))) aAn)))) (aAf (aAw aI1)) aA8)) (aAd (aC5 0 (aHz 1 rfl nd (N':=["row","thing","heads"]) (CompTxt.of) ZE (si_c (aAb 0)) (fun _ _ _ _ _=>(aAr 0 (show (["row","thing","heads"]:List Str).Nodup by decide))) (fun _ _ _ _ _=>aB3) (fun _ _ _ _ _=>(aBx (aA5 hr.u1) (aAb 0) aAg (fun _ _=>rfl))))) (aAf (aAw (bBt (aRj hr.u6 (aDz hr.units0)) (aAb 1) (aW2 hr.hd (aAb 1) Y.aF Y.dJ))))))))
theorem aEo:Kn P w K mg base 2 "need_number" ["thing","low","high"] Dd.aB1 tw:=knF (lv:=1) (N:=["thing","low","high"]) Y.X Y.G Y.cH (fun _ _ _ _ _ _ hr nd =>
  (aAf (aC0 (aCt (aC6 (aAu (aEr Y) (aAc (aAb 0) (aAc (aAb 1) (aAc (aAb 2) aAl)))))) (aAf aG1) aA8)))
theorem aLk:Kn P w K mg base 3 "need_die" ["thing"] Dd.aEf tw:=knF (lv:=2) (N:=["thing"]) Y.X Y.G Y.cI (fun _ _ _ _ _ _ hr nd =>
  (aAf (aC0 (aCt (aC6 (aAu (aVa Y) (aAc (aAb 0) aAl)))) (aAf aG1) aA8)))
theorem aKk:Kn P w K mg base 4 "need_dice" ["thing"] Dd.aCo tw:=knF (lv:=3) (N:=["thing"]) Y.X Y.G Y.cJ (fun _ _ _ _ _ _ hr nd =>
  (aAf (aC0 (aCt (aC6 (aAu (aZm Y) (aAc (aAb 0) aAl)))) (aAf aG1) aA8)))
theorem aNh:Kn P w K mg base 4 "need_totals" ["thing"] Dd.aDa tw:=knF (lv:=3) (N:=["thing"]) Y.X Y.G Y.cK (fun _ _ _ _ _ _ hr nd =>
  (aAf (aC0 (aCt (aC6 (aAu (aT0 Y) (aAc (aAb 0) aAl)))) (aAf aG1) aA8)))
theorem aFn:Kn P w K mg base 1 "counted" ["dice"] Dd.aBh tw:=knF (lv:=0) (N:=["dice","counts","die","larger","total","face"]) Y.X Y.G Y.cL (fun _ _ _ _ _ _ hr nd =>
  (aAd (aA7 1 (se_dic1 aAg) nd) (aAd (aEz 0 (aCk rfl rfl (si_s (aAb 0)) (aAr 2 nd) (aAd (aA7 3 aTg nd) (aAd (aEz 1 (aCk rfl rfl (si_s (aAb 1)) (aAr 4 nd) (aAf (aEz 2 (aCk rfl rfl (si_s (aAb 2)) (aAr 5 nd) (aAf (aM8 3 hr.u1 (aAy aA1 (aGb hr.u1 (aAb 3) (aAy aA1 (aAb 4) (aAb 5)) aAg ⟨rfl,rfl,rfl,rfl⟩) (aBx (aA5 hr.u1) (aAb 1) (aAb 4) (fun _ _=>rfl))) (aAy aA1 (aAb 4) (aAb 5))))))))) (aAf (aKx 1 3 nd)))))) (aAf (aD8 1)))))
theorem bBg:Kn P w K mg base 1 "product" ["numbers"] Dd.aFk tw:=knF (lv:=0) (N:=["numbers","many","number"]) Y.X Y.G Y.cM (fun _ _ _ _ _ _ hr nd =>
  (aAd (aA7 1 aAg nd) (aAd (aEz 0 (aCk rfl rfl (si_s (aAb 0)) (aAr 2 nd) (aAf (aA7 1 (aAy aJu (aAb 1) (aAb 2)) nd)))) (aAf (aD8 1)))))
theorem aI5:Kn P w K mg base 5 "parted" ["one","other"] Dd.aEw tw:=knF (lv:=4) (N:=["one","other","first","second","either"]) Y.X Y.G Y.cN (fun _ _ _ _ _ _ hr nd =>
  (aAd (aEq (aAu (aKk Y) (aAc (aAb 0) aAl))) (aAd (aEq (aAu (aKk Y) (aAc (aAb 1) aAl))) (aAd (aA7 2 (aAu (aFn Y) (aAc (aAb 0) aAl)) nd) (aAd (aA7 3 (aAu (aFn Y) (aAc (aAb 1) aAl)) nd) (aAd (aA7 4 (aAy aA1 (aA0 (aUb hr.hd) Y.aG boot_list (aAh (aAb 2) aAn)) (aA0 (aUb hr.hd) Y.aG boot_list (aAh (aAb 3) aAn))) nd) (aAf (aC5 4 (aAw (se_minD rfl (aAh (aBr rfl (N':=["total","one","other","first","second","either"]) (CompTxt.of) ZE (si_c (aAb 4)) (fun _ _ _ _ _=>(aAr 0 (show (["total","one","other","first","second","either"]:List Str).Nodup by decide))) (fun _ _ _ _ _=>(aHy (aBn (aJy hr.u6 (aCd hr.units0)) (aGb hr.u1 (aAb 3) (aAb 0) aAg ⟨rfl,rfl,rfl,rfl⟩) (aGb hr.u1 (aAb 4) (aAb 0) aAg ⟨rfl,rfl,rfl,rfl⟩)))) (fun _ _ _ _ _=>(aAb 0))) aAn) Y.aJ boot_min))))))))))
theorem bAe:Kn P w K mg base 6 "alike" ["one","other"] Dd.aKz tw:=knF (lv:=5) (N:=["one","other"]) Y.X Y.G Y.cO (fun _ _ _ _ _ _ hr nd =>
  (aAf (aAw (se_isN (aAu (aI5 Y) (aAc (aAb 0) (aAc (aAb 1) aAl)))))))
theorem aPq:Kn P w K mg base 5 "need_asked" ["totals","sizes","many","least"] Dd.aDv tw:=knF (lv:=4) (N:=["totals","sizes","many","least","size"]) Y.X Y.G Y.cP (fun _ _ _ _ _ _ hr nd =>
  (aAd (aEq (aAu (aNh Y) (aAc (aAb 0) aAl))) (aAd (aC0 (SW.st (aRm (aCt (aC6 (aIc (k:=.tuple) (aAb 1) Y.aC Y.aB kC))) (aIe (aBn (aJy hr.u6 (aCd hr.units0)) (aAs aDl Y.aA ju (aAh (aAb 1) aAn)) (aAb 2))))) (aAf aG1) aA8) (aAd (aEz 1 (aCk rfl rfl (si_s (aAb 1)) (aAr 4 nd) (aAf (aEq (aAu (aEo Y) (aAc (aAb 4) (aAc aAg (aAc (aDu Y.aQ) aAl)))))))) (aAf (aEq (aAu (aEo Y) (aAc (aAb 3) (aAc aAg (aAc (aDu Y.aM) aAl))))))))))
theorem k_raised:Kn P w K mg base 1 "raised" ["die","by"] Dd.aGo tw:=knF (lv:=0) (N:=["die","by"]) Y.X Y.G Y.cQ (fun _ _ _ _ _ _ hr nd =>
  (aAf (aC5 0 (aAw (aA0 aEt Y.aB kC (aAh (aBr rfl (N':=["face","die","by"]) (CompTxt.of) ZE (si_c (aAb 0)) (fun _ _ _ _ _=>(aAr 0 (show (["face","die","by"]:List Str).Nodup by decide))) (fun _ _ _ _ _=>aB3) (fun _ _ _ _ _=>(aAy aA1 (aAb 0) (aAb 2)))) aAn))))))
theorem k_moved:Kn P w K mg base 2 "moved" ["dice","low"] Dd.aNe tw:=knF (lv:=1) (N:=["dice","low"]) Y.X Y.G Y.cR (fun _ _ _ _ _ _ hr nd =>
  (aAf (aAw (aA0 aEt Y.aB kC (aAh (aBr rfl (N':=["place","die","dice","low"]) (CompTxt.of) ZE (si_enum (aAb 0) Y.aP) (fun _ _ _ _ _=>(aVb 0 1 rfl (show (["place","die","dice","low"]:List Str).Nodup by decide))) (fun _ _ _ _ _=>aB3) (fun _ _ _ _ _=>(aAu (k_raised Y) (aAc (aAb 1) (aAc (aBx (aA5 hr.u1) (aAb 3) (aAb 0) (fun _ _=>rfl)) aAl))))) aAn)))))
theorem aUg:Kn P w K mg base 3 "all_moved" ["bare","lows"] Dd.aEx tw:=knF (lv:=2) (N:=["bare","lows","found","dice"]) Y.X Y.G Y.cS (fun _ _ _ _ _ _ hr nd =>
  (aAd (aA7 2 (aB2 aAq) nd) (aAd (aEz 0 (aCk rfl rfl (si_s (aAb 0)) (aAr 3 nd) (aAf (aC5 1 (aRs 2 (aBr rfl (N':=["low","bare","lows","found","dice"]) (CompTxt.of) ZE (si_c (aAb 1)) (fun _ _ _ _ _=>(aAr 0 (show (["low","bare","lows","found","dice"]:List Str).Nodup by decide))) (fun _ _ _ _ _=>aB3) (fun _ _ _ _ _=>(aAu (k_moved Y) (aAc (aAb 4) (aAc (aAb 0) aAl)))))))))) (aAf (aAw (aAs (pr_sortR hr.u6 hr.hd) Y.aF kz (aAh (aAb 2) aAn)))))))
theorem k_rest:Kn P w K mg base 1 "rest" ["counts","taken"] Dd.aFx tw:=knF (lv:=0) (N:=["counts","taken","left","total"]) Y.X Y.G Y.cT (fun _ _ _ _ _ _ hr nd =>
  (aAd (aA7 2 (aA0 (aGe hr.hd) Y.aE lF (aAh (aAb 0) aAn)) nd) (aAd (aEz 1 (aCk rfl rfl (si_s (aAb 1)) (aAr 3 nd) (aAd (aM8 2 hr.u1 (aAy aD9 (aGb hr.u1 (aAb 2) (aAb 3) aAg ⟨rfl,rfl,rfl,rfl⟩) (aBx (aA5 hr.u1) (aAb 1) (aAb 3) (fun _ _=>rfl))) (aAb 3)) (aAf (aC0 (aBn pr_lt (aBx (aA5 hr.u1) (aAb 2) (aAb 3) (fun _ _=>rfl)) aAg) (aAf (aAw se_non)) aA8))))) (aAf (aC5 2 (aAw (aA0 (aGe hr.hd) Y.aE lF (aAh (aBr rfl (N':=["counts","taken","left","total"]) (CompTxt.of) ZE (si_c (aAb 2)) (fun _ _ _ _ _=>(aAr 3 (show (["counts","taken","left","total"]:List Str).Nodup by decide))) (fun _ _ _ _ _=>(aHy (aBn pr_gt (aBx (aA5 hr.u1) (aAb 2) (aAb 3) (fun _ _=>rfl)) aAg))) (fun _ _ _ _ _=>(aBu (aAi (aAb 3) (aAi (aBx (aA5 hr.u1) (aAb 2) (aAb 3) (fun _ _=>rfl)) aAq))))) aAn))))))))
theorem aTm:Kn P w K mg base 1 "with_face" ["dice","place","face"] Dd.aEp tw:=knF (lv:=0) (N:=["dice","place","face"]) Y.X Y.G Y.cU (fun _ _ _ _ _ _ hr nd =>
  (aAf (aAw (aAy aA1 (aAy aA1 (aIq (aAb 0) aFf (aE4 (aAb 1))) (aBu (aAi (aAy aA1 (aBx (aA5 hr.u1) (aAb 0) (aAb 1) (fun _ _=>rfl)) (aBu (aAi (aAb 2) aAq))) aAq))) (aIq (aAb 0) (aE4 (aAy aA1 (aAb 1) aAg)) aFf)))))
theorem k_grown:Kn P w K mg base 2 "grown" ["counts","sizes","dice"] Dd.aGj tw:=knF (lv:=1) (N:=["counts","sizes","dice","left","face"]) Y.X Y.G Y.cV (fun _ _ _ _ _ _ hr nd =>
  (aAd (aA7 3 (aAu (k_rest Y) (aAc (aAb 0) (aAc (aAu (aFn Y) (aAc (aAb 2) aAl)) aAl))) nd) (aAd (aC0 (aCt (aC6 (aAb 3))) (aAf (aAw (aB2 aAq))) aA8) (aAd (aA7 4 (aAs (aZc rfl) Y.aJ boot_min (aAh (aAb 3) aAn)) nd) (aAf (aAw (aBr rfl (N':=["place","counts","sizes","dice","left","face"]) (CompTxt.of) ZE (SIr.c (aK4 (aAh (aAs aDl Y.aA ju (aAh (aAb 2) aAn)) aAn) Y.aD)) (fun _ _ _ _ _=>(aAr 0 (show (["place","counts","sizes","dice","left","face"]:List Str).Nodup by decide))) (fun _ _ _ _ _=>(aHy (aBn pr_lt (aAs aDl Y.aA ju (aAh (aBx (aA5 hr.u1) (aAb 3) (aAb 0) (fun _ _=>rfl)) aAn)) (aBx (aA5 hr.u1) (aAb 2) (aAb 0) (fun _ _=>rfl))))) (fun _ _ _ _ _=>(aAu (aTm Y) (aAc (aAb 3) (aAc (aAb 0) (aAc (aAb 5) aAl))))))))))))
theorem k_shapes:Kn P w K mg base 3 "shapes" ["totals","sizes"] Dd.aM5 tw:=knF (lv:=2) (N:=["totals","sizes","counts","found","step","longer","dice","larger"]) Y.X Y.G Y.cW (fun _ _ _ _ _ _ hr nd =>
  (aAd (aC5 0 (aA7 2 (aA0 (aGe hr.hd) Y.aE lF (aAh (aBr rfl (N':=["row","totals","sizes","counts","found","step","longer","dice","larger"]) (CompTxt.of) ZE (si_c (aAb 0)) (fun _ _ _ _ _=>(aAr 0 (show (["row","totals","sizes","counts","found","step","longer","dice","larger"]:List Str).Nodup by decide))) (fun _ _ _ _ _=>aB3) (fun _ _ _ _ _=>(aBu (aAi (aAy aD9 (aBx (aA5 hr.u1) (aAb 0) aAg (fun _ _=>rfl)) (aBx (aA5 hr.u1) (aBx (aA5 hr.u1) (aAb 1) aAg (fun _ _=>rfl)) aAg (fun _ _=>rfl))) (aAi (aBx (aA5 hr.u1) (aAb 0) aAg (fun _ _=>rfl)) aAq))))) aAn)) nd)) (aAd (aC0 (aBn (aJy hr.u6 (aCd hr.units0)) (aZw hr.hd (aAb 2) Y.aK) (aAu (bBg Y) (aAc (aAb 1) aAl))) (aAf (aAw (aB2 aAq))) aA8) (aAd (aA7 3 (aB2 (aAi (aAy aJu (aBu (aAi (aBu (aAi aAg aAq)) aAq)) (aAs aDl Y.aA ju (aAh (aAb 1) aAn))) aAq)) nd) (aAd (aCk rfl rfl (SIr.s (aK4 (aAh (aAy aD9 (aAs (aT4 rfl) Y.aK boot_sum (aAh (aAb 1) aAn)) (aAs aDl Y.aA ju (aAh (aAb 1) aAn))) aAn) Y.aD)) (aAr 4 nd) (aAd (aA7 5 se_dicR0 nd) (aAd (aEz 3 (aCk rfl rfl (si_s (aAb 3)) (aAr 6 nd) (aAf (aCk rfl rfl (si_s (aAu (k_grown Y) (aAc (aAb 2) (aAc (aAb 1) (aAc (aAb 6) aAl))))) (aAr 7 nd) (aAf (ss_setR 5 hr.u6 aI1 (aAb 7))))))) (aAf (aA7 3 (aA0 (pr_listR hr.hd) Y.aG boot_list (aAh (aAb 5) aAn)) nd))))) (aAf (aC5 3 (aAw (aBr rfl (N':=["totals","sizes","counts","found","step","longer","dice","larger"]) (CompTxt.of) ZE (si_c (aAb 3)) (fun _ _ _ _ _=>(aAr 6 (show (["totals","sizes","counts","found","step","longer","dice","larger"]:List Str).Nodup by decide))) (fun _ _ _ _ _=>(aHy (aBn (pr_eqE hr.u6 hr.units0) (aAu (k_rest Y) (aAc (aAb 2) (aAc (aAu (aFn Y) (aAc (aAb 6) aAl)) aAl))) aTg))) (fun _ _ _ _ _=>(aAb 6)))))))))))
theorem aQd:Kn P w K mg base 1 "starts" ["total","many","least"] Dd.aIg tw:=knF (lv:=0) (N:=["total","many","least","found","first"]) Y.X Y.G Y.aI (fun _ _ _ _ _ _ hr nd =>
  sss_none)
theorem aRz:Kn P w K mg base 2 "starts" ["total","many","least"] Dd.aIp tw:=knF (lv:=1) (N:=["total","many","least","found","first"]) Y.X Y.G Y.aI (fun _ _ _ _ _ _ hr nd =>
  (aAd (aC0 (aBn (aRj hr.u6 (aDz hr.units0)) (aAb 1) aAg) (aAf (aAw (se_if (aBn pr_ge (aAb 0) (aAb 2)) (aB2 (aAi (aBu (aAi (aAb 0) aAq)) aAq)) (aB2 aAq)))) aA8) (aAd (aA7 3 (aB2 aAq) nd) (aAd (aCk rfl rfl (SIr.s (aTk (aAh (aAb 2) (aAh (aAy aA1 (aAy aD9 (aAb 0) (aAb 2)) aAg) aAn)) Y.aD)) (aAr 4 nd) (aAf (aRs 3 (aBr rfl (N':=["behind","total","many","least","found","first"]) (CompTxt.of) ZE (si_c (aAu (aQd Y) (aAc (aAy aD9 (aAb 0) (aAb 4)) (aAc (aAy aD9 (aAb 1) aAg) (aAc (aAb 2) aAl))))) (fun _ _ _ _ _=>(aAr 0 (show (["behind","total","many","least","found","first"]:List Str).Nodup by decide))) (fun _ _ _ _ _=>aB3) (fun _ _ _ _ _=>(aAy aA1 (aBu (aAi (aAb 5) aAq)) (aAb 0))))))) (aAf (aD8 3))))))
theorem aPh:Kn P w K mg base 3 "starts" ["total","many","least"] Dd.aCy tw:=knF (lv:=2) (N:=["total","many","least","found","first"]) Y.X Y.G Y.aI (fun _ _ _ _ _ _ hr nd =>
  (aAd (aC0 (aBn (aRj hr.u6 (aDz hr.units0)) (aAb 1) aAg) (aAf (aAw (se_if (aBn pr_ge (aAb 0) (aAb 2)) (aB2 (aAi (aBu (aAi (aAb 0) aAq)) aAq)) (aB2 aAq)))) aA8) (aAd (aA7 3 (aB2 aAq) nd) (aAd (aCk rfl rfl (SIr.s (aTk (aAh (aAb 2) (aAh (aAy aA1 (aAy aD9 (aAb 0) (aAb 2)) aAg) aAn)) Y.aD)) (aAr 4 nd) (aAf (aRs 3 (aBr rfl (N':=["behind","total","many","least","found","first"]) (CompTxt.of) ZE (si_c (aAu (aRz Y) (aAc (aAy aD9 (aAb 0) (aAb 4)) (aAc (aAy aD9 (aAb 1) aAg) (aAc (aAb 2) aAl))))) (fun _ _ _ _ _=>(aAr 0 (show (["behind","total","many","least","found","first"]:List Str).Nodup by decide))) (fun _ _ _ _ _=>aB3) (fun _ _ _ _ _=>(aAy aA1 (aBu (aAi (aAb 5) aAq)) (aAb 0))))))) (aAf (aD8 3))))))
theorem aSb:Kn P w K mg base 4 "starts" ["total","many","least"] Dd.aDy tw:=knF (lv:=3) (N:=["total","many","least","found","first"]) Y.X Y.G Y.aI (fun _ _ _ _ _ _ hr nd =>
  (aAd (aC0 (aBn (aRj hr.u6 (aDz hr.units0)) (aAb 1) aAg) (aAf (aAw (se_if (aBn pr_ge (aAb 0) (aAb 2)) (aB2 (aAi (aBu (aAi (aAb 0) aAq)) aAq)) (aB2 aAq)))) aA8) (aAd (aA7 3 (aB2 aAq) nd) (aAd (aCk rfl rfl (SIr.s (aTk (aAh (aAb 2) (aAh (aAy aA1 (aAy aD9 (aAb 0) (aAb 2)) aAg) aAn)) Y.aD)) (aAr 4 nd) (aAf (aRs 3 (aBr rfl (N':=["behind","total","many","least","found","first"]) (CompTxt.of) ZE (si_c (aAu (aPh Y) (aAc (aAy aD9 (aAb 0) (aAb 4)) (aAc (aAy aD9 (aAb 1) aAg) (aAc (aAb 2) aAl))))) (fun _ _ _ _ _=>(aAr 0 (show (["behind","total","many","least","found","first"]:List Str).Nodup by decide))) (fun _ _ _ _ _=>aB3) (fun _ _ _ _ _=>(aAy aA1 (aBu (aAi (aAb 5) aAq)) (aAb 0))))))) (aAf (aD8 3))))))
theorem k_pairs:Kn P w K mg base 6 "pairs" ["totals","sizes","least"] Dd.aMs tw:=knF (lv:=5) (N:=["totals","sizes","least"]) Y.X Y.G Y.cX (fun _ _ _ _ _ _ hr nd =>
  (aAd (aEq (aAu (aPq Y) (aAc (aAb 0) (aAc (aAb 1) (aAc aAg (aAc (aAb 2) aAl)))))) (aAf (aAw (aAu (aUg Y) (aAc (aAu (k_shapes Y) (aAc (aAb 0) (aAc (aAb 1) aAl))) (aAc (aAu (aSb Y) (aAc (aBx (aA5 hr.u1) (aBx (aA5 hr.u1) (aAb 0) aAg (fun _ _=>rfl)) aAg (fun _ _=>rfl)) (aAc aAg (aAc (aAb 2) aAl)))) aAl)))))))
theorem k_others:Kn P w K mg base 7 "others" ["one","other","least"] Dd.aHg tw:=knF (lv:=6) (N:=["one","other","least","same","found"]) Y.X Y.G Y.cY (fun _ _ _ _ _ _ hr nd =>
  (aAd (aEq (aAu (aLk Y) (aAc (aAb 0) aAl))) (aAd (aEq (aAu (aLk Y) (aAc (aAb 1) aAl))) (aAd (aEq (aAu (aEo Y) (aAc (aAb 2) (aAc aAg (aAc (aDu Y.aM) aAl))))) (aAd (aA7 3 (aPw hr.hd (aAu (aFn Y) (aAc (aBu (aAi (aAb 0) (aAi (aAb 1) aAq))) aAl)) Y.aF) nd) (aAd (aA7 4 (aAu (k_pairs Y) (aAc (aAb 3) (aAc (aBu (aAi (aAs aDl Y.aA ju (aAh (aAb 0) aAn)) (aAi (aAs aDl Y.aA ju (aAh (aAb 1) aAn)) aAq))) (aAc (aAb 2) aAl)))) nd) (aAf (aC5 4 (aAw (aBr rfl (N':=["pair","one","other","least","same","found"]) (CompTxt.of) ZE (si_c (aAb 4)) (fun _ _ _ _ _=>(aAr 0 (show (["pair","one","other","least","same","found"]:List Str).Nodup by decide))) (fun _ _ _ _ _=>(aHy (SW.st (aZo (aBn (aJy hr.u6 (aCd hr.units0)) (aAb 0) (aBu (aAi (aAb 1) (aAi (aAb 2) aAq)))) (aT1 (aBn (aJy hr.u6 (aCd hr.units0)) (aAb 0) (aBu (aAi (aAb 2) (aAi (aAb 1) aAq))))))))) (fun _ _ _ _ _=>(aAb 0))))))))))))
theorem aMg:Kn P w K mg base 1 "_law_cell_at" ["_law_script","_law_k"] Dd.aDe tw:=knF (lv:=0) (N:=["_law_script","_law_k"]) Y.X Y.G Y.cZ (fun _ _ _ _ _ _ hr nd =>
  (aAd (aC0 (aBn pr_lt (aAb 1) (aAs aDl Y.aA ju (aAh (aAb 0) aAn))) (aAf (aAw (aBx (aA5 hr.u1) (aAb 0) (aAb 1) (fun _ _=>rfl)))) aA8) (aAd (aC0 (aBn (aRj hr.u6 (aDz hr.units0)) (aAb 0) (aB2 aAq)) (aAf (aAw aAg)) aA8) (aAf (aAw (aAy aA1 (aAy aJu (aBx (aA5 hr.u1) (aAb 0) (aAy aUs (aAb 1) (aAs aDl Y.aA ju (aAh (aAb 0) aAn))) (fun _ _=>rfl)) aAg) (aAb 1)))))))
theorem aTd:Kn P w K mg base 2 "_law_mixed" ["_law_script","_law_k","_law_many"] Dd.aC7 tw:=knF (lv:=1) (N:=["_law_script","_law_k","_law_many","_law_drawn"]) Y.X Y.G Y.dA (fun _ _ _ _ _ _ hr nd =>
  (aAd (aA7 3 (aAy aUs (aAy aJu (aAy aA1 (aAy aA1 (aAu (aMg Y) (aAc (aAb 0) (aAc (aAb 1) aAl))) (aAy aJu aAg (aAb 1))) aAg) aAg) aAg) nd) (aAf (aAw (aAy aUs (aAy aUs (aAy aA1 (aAy aA1 (aAy aJu (aAb 3) (aAb 3)) (aAy aJu aAg (aAb 3))) (aAb 1)) aAg) (aAb 2))))))
theorem aB9:Kn P w K mg base 3 "_law_draw" ["_law_script","_law_town","_law_many"] Dd.aAx tw:=knF (lv:=2) (N:=["_law_script","_law_town","_law_many"]) Y.X Y.G Y.dB (fun _ _ _ _ _ _ hr nd =>
  (aAd (ss_town 1) (aAf (aAw (aAu (aTd Y) (aAc (aAb 0) (aAc (aAs aDl Y.aA ju (aAh (aAb 1) aAn)) (aAc (aAb 2) aAl))))))))
theorem aMd:Kn P w K mg base 4 "_law_pick" ["_law_script","_law_town","_law_some"] Dd.aCa tw:=knF (lv:=3) (N:=["_law_script","_law_town","_law_some"]) Y.X Y.G Y.dC (fun _ _ _ _ _ _ hr nd =>
  (aAf (aAw (aBx (aA5 hr.u1) (aAb 2) (aAu (aB9 Y) (aAc (aAb 0) (aAc (aAb 1) (aAc (aAs aDl Y.aA ju (aAh (aAb 2) aAn)) aAl)))) (fun _ _=>rfl)))))
theorem aYv:Kn P w K mg base 5 "_law_die" ["_law_script","_law_town","_law_faces","_law_most"] Dd.aCl tw:=knF (lv:=4) (N:=["_law_script","_law_town","_law_faces","_law_most","_law_low","_law_wide","_law_made"]) Y.X Y.G Y.dD (fun _ _ _ _ _ _ hr nd =>
  (aAd (aA7 4 (aAu (aMd Y) (aAc (aAb 0) (aAc (aAb 1) (aAc (aB2 (aAi aAg (aAi aAg (aAi aAg (aAi aAg (aAi (aAu (aB9 Y) (aAc (aAb 0) (aAc (aAb 1) (aAc aAg aAl)))) aAq)))))) aAl)))) nd) (aAd (aA7 5 (aAu (aMd Y) (aAc (aAb 0) (aAc (aAb 1) (aAc (aB2 (aAi aAg (aAi aAg (aAi aAg (aAi aAg aAq))))) aAl)))) nd) (aAd (aHz 6 rfl nd (N':=["_law_k","_law_script","_law_town","_law_faces","_law_most","_law_low","_law_wide","_law_made"]) (CompTxt.of) ZE (SIr.c (aK4 (aAh (aAb 2) aAn) Y.aD)) (fun _ _ _ _ _=>(aAr 0 (show (["_law_k","_law_script","_law_town","_law_faces","_law_most","_law_low","_law_wide","_law_made"]:List Str).Nodup by decide))) (fun _ _ _ _ _=>aB3) (fun _ _ _ _ _=>(aAs (aZc rfl) Y.aJ boot_min (aAh (aAb 4) (aAh (aAy aA1 (aAb 5) (aAu (aB9 Y) (aAc (aAb 1) (aAc (aAb 2) (aAc (aAb 6) aAl))))) aAn))))) (aAf (aAw (aA0 aEt Y.aB kC (aAh (aAs (aUy hr.hd) Y.aF kz (aAh (aAb 6) aAn)) aAn))))))))
theorem aL4:Kn P w K mg base 6 "_law_dice" ["_law_script","_law_town","_law_many","_law_faces"] Dd.aBq tw:=knF (lv:=5) (N:=["_law_script","_law_town","_law_many","_law_faces"]) Y.X Y.G Y.dE (fun _ _ _ _ _ _ hr nd =>
  (aAf (aAw (aA0 aEt Y.aB kC (aAh (aBr rfl (N':=["_law_k","_law_script","_law_town","_law_many","_law_faces"]) (CompTxt.of) ZE (SIr.c (aK4 (aAh (aAb 2) aAn) Y.aD)) (fun _ _ _ _ _=>(aAr 0 (show (["_law_k","_law_script","_law_town","_law_many","_law_faces"]:List Str).Nodup by decide))) (fun _ _ _ _ _=>aB3) (fun _ _ _ _ _=>(aAu (aYv Y) (aAc (aAb 1) (aAc (aAb 2) (aAc (aAy aA1 aAg (aAu (aB9 Y) (aAc (aAb 1) (aAc (aAb 2) (aAc (aAb 4) aAl))))) (aAc aAg aAl))))))) aAn)))))
theorem aT9:Kn P w K mg base 1 "_law_rolls" ["_law_dice_here"] Dd.aDo tw:=knF (lv:=0) (N:=["_law_dice_here","_law_rows","_law_die_here","_law_longer","_law_line"]) Y.X Y.G Y.dF (fun _ _ _ _ _ _ hr nd =>
  (aAd (aA7 1 (aB2 (aAi (aBu aAq) aAq)) nd) (aAd (aEz 0 (aCk rfl rfl (si_s (aAb 0)) (aAr 2 nd) (aAd (aA7 3 (aB2 aAq) nd) (aAd (aEz 1 (aCk rfl rfl (si_s (aAb 1)) (aAr 4 nd) (aAf (aC5 2 (aRs 3 (aBr rfl (N':=["_law_face","_law_dice_here","_law_rows","_law_die_here","_law_longer","_law_line"]) (CompTxt.of) ZE (si_c (aAb 2)) (fun _ _ _ _ _=>(aAr 0 (show (["_law_face","_law_dice_here","_law_rows","_law_die_here","_law_longer","_law_line"]:List Str).Nodup by decide))) (fun _ _ _ _ _=>aB3) (fun _ _ _ _ _=>(aAy aA1 (aAb 5) (aBu (aAi (aAb 0) aAq)))))))))) (aAf (aKx 1 3 nd)))))) (aAf (aD8 1)))))
theorem aD0:Kn P w K mg base 2 "_law_totals" ["_law_dice_here"] Dd.aBt tw:=knF (lv:=1) (N:=["_law_dice_here","_law_book","_law_line"]) Y.X Y.G Y.dG (fun _ _ _ _ _ _ hr nd =>
  (aAd (aA7 1 aTg nd) (aAd (aCk rfl rfl (si_s (aAu (aT9 Y) (aAc (aAb 0) aAl))) (aAr 2 nd) (aAf (aM8 1 hr.u1 (aAy aA1 (aGb hr.u1 (aAb 1) (aAs (aT4 rfl) Y.aK boot_sum (aAh (aAb 2) aAn)) aAg ⟨rfl,rfl,rfl,rfl⟩) aAg) (aAs (aT4 rfl) Y.aK boot_sum (aAh (aAb 2) aAn))))) (aAf (aAw (aPw hr.hd (aAb 1) Y.aF))))))
theorem k_law(run:∀ns:List Int,ns.length<=63->∃ρ' n',b_law (aFa ns 16) 0=some (.rt (.bl true) false,ρ',n')):FnOk P w K mg base CX0 8 Y.aH.f (Y.aH.fd "law" bAh) ["_law_script"] (aYh K) :=
 law_ok (lv:=7) Y.aN.fn (scZ (N:=["_law_script","_law_town","_law_dice_here","_law_step","_law_about","_law_raised","_law_drawn","_law_at","_law_changed","_law_rows","_law_one","_law_other","_law_place","_law_mine","_law_theirs","_law_some"])) rfl rfl ZE (by first |exact Or.inl rfl |exact Or.inr rfl) (fun _ _ _ _ _ _=>rfl) (fun tw cdv A outer s H E hr =>
  (aAd (aA7 2 (aAu (aL4 Y) (aAc (aAb 0) (aAc (aAb 1) (aAc (aAy aA1 aAg (aAu (aB9 Y) (aAc (aAb 0) (aAc (aAb 1) (aAc aAg aAl))))) (aAc aAg aAl))))) ndl) (aAd (aA7 3 (aAu (aB9 Y) (aAc (aAb 0) (aAc (aAb 1) (aAc aAg aAl)))) ndl) (aAd (aA7 4 (se_rev (aAb 2)) ndl) (aAd (aKx 5 2 ndl) (aAd (aC0 (SW.st (aZo (aBn pr_le (aAy aA1 (aBx (aA5 hr.u1) (aBx (aA5 hr.u1) (aAb 2) aAg (fun _ _=>rfl)) (se_usub aAg) (fun _ _=>rfl)) (aAb 3)) aAg) (aT1 (aBn pr_ge (aBx (aA5 hr.u1) (aBx (aA5 hr.u1) (aAb 2) aAg (fun _ _=>rfl)) aAg (fun _ _=>rfl)) (aAb 3))))) (aAf (aA7 5 (aAy aA1 (aBu (aAi (aA0 aEt Y.aB kC (aAh (aBr rfl (N':=["_law_face","_law_script","_law_town","_law_dice_here","_law_step","_law_about","_law_raised","_law_drawn","_law_at","_law_changed","_law_rows","_law_one","_law_other","_law_place","_law_mine","_law_theirs","_law_some"]) (CompTxt.of) ZE (si_c (aBx (aA5 hr.u1) (aAb 2) aAg (fun _ _=>rfl))) (fun _ _ _ _ _=>(aAr 0 (show (["_law_face","_law_script","_law_town","_law_dice_here","_law_step","_law_about","_law_raised","_law_drawn","_law_at","_law_changed","_law_rows","_law_one","_law_other","_law_place","_law_mine","_law_theirs","_law_some"]:List Str).Nodup by decide))) (fun _ _ _ _ _=>aB3) (fun _ _ _ _ _=>(aAy aA1 (aAb 0) (aAb 4)))) aAn)) (aAi (aA0 aEt Y.aB kC (aAh (aBr rfl (N':=["_law_face","_law_script","_law_town","_law_dice_here","_law_step","_law_about","_law_raised","_law_drawn","_law_at","_law_changed","_law_rows","_law_one","_law_other","_law_place","_law_mine","_law_theirs","_law_some"]) (CompTxt.of) ZE (si_c (aBx (aA5 hr.u1) (aAb 2) aAg (fun _ _=>rfl))) (fun _ _ _ _ _=>(aAr 0 (show (["_law_face","_law_script","_law_town","_law_dice_here","_law_step","_law_about","_law_raised","_law_drawn","_law_at","_law_changed","_law_rows","_law_one","_law_other","_law_place","_law_mine","_law_theirs","_law_some"]:List Str).Nodup by decide))) (fun _ _ _ _ _=>aB3) (fun _ _ _ _ _=>(aAy aD9 (aAb 0) (aAb 4)))) aAn)) aAq))) (aIq (aAb 2) (aE4 aAg) aFf)) ndl)) aA8) (aAd (aA7 6 (aAu (aL4 Y) (aAc (aAb 0) (aAc (aAb 1) (aAc (aAy aA1 aAg (aAu (aB9 Y) (aAc (aAb 0) (aAc (aAb 1) (aAc aAg aAl))))) (aAc aAg aAl))))) ndl) (aAd (aA7 7 (aAu (aB9 Y) (aAc (aAb 0) (aAc (aAb 1) (aAc (aAs aDl Y.aA ju (aAh (aBx (aA5 hr.u1) (aAb 2) aAg (fun _ _=>rfl)) aAn)) aAl)))) ndl) (aAd (aA7 8 (aAy aA1 (aBu (aAi (aA0 aEt Y.aB kC (aAh (aAs (aZh hr.hd) Y.aF kz (aAh (aAy aA1 (aAy aA1 (aIq (aBx (aA5 hr.u1) (aAb 2) aAg (fun _ _=>rfl)) aFf (aE4 (aAb 7))) (aBu (aAi (aAs (aZc rfl) Y.aJ boot_min (aAh aAg (aAh (aAy aA1 (aBx (aA5 hr.u1) (aBx (aA5 hr.u1) (aAb 2) aAg (fun _ _=>rfl)) (aAb 7) (fun _ _=>rfl)) aAg) aAn))) aAq))) (aIq (aBx (aA5 hr.u1) (aAb 2) aAg (fun _ _=>rfl)) (aE4 (aAy aA1 (aAb 7) aAg)) aFf)) aAn)) aAn)) aAq)) (aIq (aAb 2) (aE4 aAg) aFf)) ndl) (aAd (aA7 9 (aB2 (aAi (aAb 4) (aAi (aAb 5) (aAi (aAb 6) (aAi (aAb 8) aAq))))) ndl) (aAd (aCk rfl rfl (si_s (aIq (aAu (k_others Y) (aAc (aBx (aA5 hr.u1) (aAb 2) aAg (fun _ _=>rfl)) (aAc (aBx (aA5 hr.u1) (aAb 2) aAg (fun _ _=>rfl)) (aAc aAg aAl)))) aFf (aE4 aAg))) (aVb 10 11 rfl ndl) (aAf (aC0 (aBn pr_le (aAs (pr_max2 rfl) Y.dI boot_max (aAh (aAy aA1 (aAb 10) (aAb 11)) aAn)) aAg) (aAf (ss_app 9 (aAy aA1 (aBu (aAi (aAb 10) (aAi (aAb 11) aAq))) (aIq (aAb 2) (aE4 aAg) aFf)))) aA8))) (aAd (aEz 9 (aCk rfl rfl (bAw (aAb 9) Y.aP) (aVb 12 11 rfl ndl) (aAd (by first |exact ss_parP 13 14 rfl ndl (aAi (aA0 (aGe hr.hd) Y.aE lF (aAh (aAu (aD0 Y) (aAc (aAb 2) aAl)) aAn)) (aAi (aA0 (aGe hr.hd) Y.aE lF (aAh (aAu (aD0 Y) (aAc (aAb 11) aAl)) aAn)) aAq)) |exact ss_put (aBu (aAi (aA0 (aGe hr.hd) Y.aE lF (aAh (aAu (aD0 Y) (aAc (aAb 2) aAl)) aAn)) (aAi (aA0 (aGe hr.hd) Y.aE lF (aAh (aAu (aD0 Y) (aAc (aAb 11) aAl)) aAn)) aAq))) (aVb 13 14 rfl ndl)) (aAd (aHz 15 rfl ndl (N':=["_law_total","_law_script","_law_town","_law_dice_here","_law_step","_law_about","_law_raised","_law_drawn","_law_at","_law_changed","_law_rows","_law_one","_law_other","_law_place","_law_mine","_law_theirs","_law_some"]) (CompTxt.of) (by decide) (SIr.c (aK4 (aAh aAg aAn) Y.aD)) (fun _ _ _ _ _=>(aAr 0 (show (["_law_total","_law_script","_law_town","_law_dice_here","_law_step","_law_about","_law_raised","_law_drawn","_law_at","_law_changed","_law_rows","_law_one","_law_other","_law_place","_law_mine","_law_theirs","_law_some"]:List Str).Nodup by decide))) (fun _ _ _ _ _=>(aHy (aBn (aJy hr.u6 (aCd hr.units0)) (aGb hr.u1 (aAb 14) (aAb 0) aAg ⟨rfl,rfl,rfl,rfl⟩) (aGb hr.u1 (aAb 15) (aAb 0) aAg ⟨rfl,rfl,rfl,rfl⟩)))) (fun _ _ _ _ _=>(aAb 0))) (aAd (aC0 (SW.st (aRm (aBn (aJy hr.u6 (aCd hr.units0)) (aAu (bAe Y) (aAc (aAb 2) (aAc (aAb 11) aAl))) (bBt (aRj hr.u6 (aDz hr.units0)) (aAb 15) (aB2 aAq))) (aIe (aCt (aC6 (aIc (k:=.bool) (aAu (bAe Y) (aAc (aAb 2) (aAc (aAb 11) aAl))) Y.aC Y.aO boot_bool)))))) (aAf (aAw aI1)) aA8) (aAd (aC0 (SW.st (aRm (aBn (aJy hr.u6 (aCd hr.units0)) (aAu (aI5 Y) (aAc (aAb 2) (aAc (aAb 11) aAl))) (aBx (aA5 hr.u1) (aAy aA1 (aAb 15) (aB2 (aAi se_non aAq))) aAg (fun _ _=>rfl))) (aIe (aBn (aJy hr.u6 (aCd hr.units0)) (aAu (aI5 Y) (aAc (aAb 11) (aAc (aAb 2) aAl))) (aAu (aI5 Y) (aAc (aAb 2) (aAc (aAb 11) aAl))))))) (aAf (aAw aI1)) aA8) (aAf (aC0 (SW.st (aZo (aBn aZz (aAb 12) (aBu (aAi aAg (aAi aAg aAq)))) (aT1 (aBn (aJy hr.u6 (aCd hr.units0)) (aAb 15) (aB2 aAq))))) (aAf (aAw aI1)) aA8)))))))) (aAf (aAw aI1)))))))))))))) run
theorem all_mk{l:W.OpenLaw}(hfa:mg "law" = some (.ref fa))(run:∀ns:List Int,ns.length<=63->∃ρ' n',b_law (aFa ns 16) 0=some (.rt (.bl true) false,ρ',n')):∃fd:jr,(∀ (s:jR) (v:Value),BindsTo s fd ⟨[v],[]⟩ [("_law_script",v)])/\∀base:Heap,K.In base->base.Ns ji mg->FnOk l.prog w K mg base CX0 8 fa fd ["_law_script"] (aYh K):=by have e:=hfa.symm.trans (Y.aN.mg Y.X Y.G);cases e;exact⟨Y.aH.fd "law" bAh,fun s v=>.of_eq rfl,fun base _ _=>k_law Y run⟩
end
end K02
namespace K02
open PySem L2 L2.Ds Dd Dm
theorem aU8:∀ds:List ZB,(sums ds.reverse).Perm (sums ds)
 |[]=>.refl _
 |d::ds=>by rw[fT,aDp,aV1];have h1:((sums ds.reverse).flatMap fun x=>d.map (x + ·)).Perm ((sums ds).flatMap fun x=>d.map (x + ·)):=aPl (aU8 ds) fun _ _=>.refl _;refine h1.trans ((aZq _ _).trans ?_);rw[aB4]
theorem aXg(a b:List Int)(r:List ZB)(s:Int):sums (a.map (· + s)::b.map (· - s)::r)=sums (a::b::r):=by
 rw[aB4,aB4,aB4,aB4,fk];congr 1;funext x;rw[fk,fL,fL];congr 1;funext y;rw[b6,b6];refine c8 fun z _=>?_;show x+s+(y - s+z)=x+(y+z)
 lia
theorem bAa(h:∀k,cS [x,y] k=cS [a,b] k)(r:List ZB):(sums (x::y::r)).Perm (sums (a::b::r)):=by
 have p:(sums [x,y]).Perm (sums [a,b]):=aL2 fun z=>by have:=h z;unfold cS at this;lia
 have e1:x::y::r = [x,y]++r:=rfl;have e2:a::b::r = [a,b]++r:=rfl;rw[e1,e2,aDp,aDp];exact aPl p fun _ _=>.refl _
def Good(ds o:List ZB)(k:Nat):Prop:=Dice 3 4 o/\(k≠2->k≠3->(sums ds).Perm (sums o))
theorem not_in(k:Nat)(n:Nat):aTp n [.int (k:Int),.tup [.int 2,.int 3]]=some (.bl (!(decide (k=2)||decide (k=3))),.fz):=by
 show ((inF (.int (k:Int)) (.tup [.int 2,.int 3])).map fun b=>(T.bl (!b),Md.fz))=_;have:inF (.int (k:Int)) (.tup [.int 2,.int 3])=some (eqT (.int 2) (.int (k:Int))||(eqT (.int 3) (.int (k:Int))||false)):=rfl;rw[this,eqT,eqT,Bool.or_false];have h2:((2:Int)==(k:Int))=decide (k=2):=by rw[gA,beq_iff_eq,decide_eq_true_eq];lia
 have h3:((3:Int)==(k:Int))=decide (k=3):=by rw[gA,beq_iff_eq,decide_eq_true_eq];lia
 rw[h2,h3];rfl
theorem aZt(o:Option Int):aAo 6 (optT o)=true:=by cases o<;>rfl
theorem turn(D:Dice 3 4 ds){k:Nat}(g:Good ds o k)(x0 x1 x3 x4 x5 x6 x7 x8 x9 x10 x13 x14 x15:Option (T × Md))(n:Nat) :
  ∃y13 y14 y15,aPc [x0,x1,some (.tup (ds.map tupT),.fz),x3,x4,x5,x6,x7,x8,x9,x10,some (.tup (o.map tupT),.fz),some (.int (k:Int),.fz),x13,x14,x15] n =
   some (.nx,[x0,x1,some (.tup (ds.map tupT),.fz),x3,x4,x5,x6,x7,x8,x9,x10,some (.tup (o.map tupT),.fz),some (.int (k:Int),.fz),y13,y14,y15],n):=by
 have hB:big=1000000:=rfl;have b0:0<=big:=by decide
 have b1:1<=big:=by decide
 have b2:2<=big:=by decide
 obtain⟨L1,T1,O1,e1⟩:=aL7 D ZE ZE n;obtain⟨Lb,T2,O2,e2⟩:=aL7 g.1 ZE ZE n;have p1:=pdict T1.bk.nd (by have:=T1.len;lia) n;have p2:=pdict T2.bk.nd (by have:=T2.len;lia) n;have al:=aYn D g.1 ZE ZE ZE ZE n;have pa:=parted D g.1 ZE ZE ZE ZE n;have pb:=parted g.1 D ZE ZE ZE ZE n;rw[aXs o ds] at pb;have c2:∀x15,aYo [x0,x1,some (.tup (ds.map tupT),.fz),x3,x4,x5,x6,x7,x8,x9,x10,some (.tup (o.map tupT),.fz),some (.int (k:Int),.fz),some (.dic (kvs L1),.fz),some (.dic (kvs Lb),.fz),x15] n=some (.lst ((aBf ds o).map .int),.own,n):=fun x15=>by
  unfold aBf;refine aF3 ((List.range 121).map fun (k:Nat)=>(k:Int)) T.int (fun t=>!(cS ds t==cS o t)) T.int ?_ (by simp;lia) fun x hx=>?_
  ·have:=aT7 (a:=aAa (dK (.int 121)) dNil) (ρ:=[x0,x1,some (.tup (ds.map tupT),.fz),x3,x4,x5,x6,x7,x8,x9,x10,some (.tup (o.map tupT),.fz),some (.int (k:Int),.fz),some (.dic (kvs L1),.fz),some (.dic (kvs Lb),.fz),x15]) (n:=n) (n':=n) (j:=121) rfl ZA ZA;rw[this,show (121:Int)=((121:Nat):Int) from rfl,aVg,b6];rfl
  ·have g1:aC4 n [.dic (kvs L1),.int x,.int 0]=some (.int (cS ds x),.fz):=by have e':aC4 n [.dic (kvs L1),.int x,.int 0]=some ((aDc (kvs L1) (.inl x)).getD (.int 0),.fz):=rfl;rw[e',aIo,O1 x];rfl
   have g2:aC4 n [.dic (kvs Lb),.int x,.int 0]=some (.int (cS o x),.fz):=by have e':aC4 n [.dic (kvs Lb),.int x,.int 0]=some ((aDc (kvs Lb) (.inl x)).getD (.int 0),.fz):=rfl;rw[e',aIo,O2 x];rfl
   have q:∀i j:Int,pNe n [.int i,.int j]=some (.bl (!(i==j)),.fz):=fun _ _=>rfl;generalize kvs L1=k1 at *;generalize kvs Lb=k2 at *;generalize ds.map tupT=dd at *;generalize o.map tupT=oo at *;generalize cS ds x=v1 at *;generalize cS o x=v2 at *;constructor
   ·simp! [srcOf,g1,g2,q]
   ·intro _;simp! [srcOf]
 have qe:pEq n [.lst ((aBf ds o).map .int),.lst []]=some (.bl (aBf ds o).isEmpty,.fz):=by
  rw[aZ1];have:eqP (.lst ((aBf ds o).map .int)) (.lst [])=some (eqTs ((aBf ds o).map .int) []):=by show (if (aAo 6 (.lst ((aBf ds o).map .int))&&aAo 6 (.lst []))=true then some (eqT (.lst ((aBf ds o).map .int)) (.lst [])) else none)=_;have pl:aAo 6 (.lst ((aBf ds o).map .int))=true:=aEd 5 _;rw[pl,if_pos (by rfl)];rw[eqT]
  rw[this];cases aBf ds o<;>rfl
 have qn:pNe n [.lst ((aBf ds o).map .int),.lst []]=some (.bl (!(aBf ds o).isEmpty),.fz):=by
  rw[bAc];rw[aZ1] at qe;cases z:eqP (.lst ((aBf ds o).map .int)) (.lst []) with
  |none=>rw[z] at qe;cases qe
  |some r=>rw[z] at qe;have qe:some (T.bl r,Md.fz)=_:=qe;cases qe;rfl
 have qb:∀x:Bool,pNe n [.bl x,.bl x]=some (.bl false,.fz):=fun x=>by rw[bAc,aG4 rfl];rfl
 have ty:∀x:Bool,pIsI .bool n [.bl x]=some (.bl true,.fz):=fun _=>rfl;have ad:pAdd n [.lst ((aBf ds o).map .int),.lst [.non]]=some (.lst ((aBf ds o).map .int ++ [.non]),.own):=by
  rw[aPj,if_pos];rw[a5];have:(aBf ds o).length<=121:=by unfold aBf;have:=fZ (fun t=>!(cS ds t==cS o t)) ((List.range 121).map fun (k:Nat)=>(k:Int));simpa using this
  show _+1<=_;lia
 have ge:pGet n [.lst ((aBf ds o).map .int ++ [.non]),.int 0]=some (optT (aBf ds o).head?,.fz):=by rw[aLz];unfold at?;rw[if_pos ZA,if_pos ZJ];cases aBf ds o<;>rfl
 have qo:pNe n [optT (aBf ds o).head?,optT (aBf ds o).head?]=some (.bl false,.fz):=by rw[bAc,aG4 (aZt _)];rfl
 have ni:=not_in k n;have last:(!(decide (k=2)||decide (k=3)))=true->(!(aBf ds o).isEmpty)=false:=fun h=>by
  have h:¬ (k=2) /\ ¬ (k=3):=by simpa using h
  rw[aW4 (g.2 h.1 h.2)];rfl
 refine⟨some (.dic (kvs L1),.fz),some (.dic (kvs Lb),.fz),some (.lst ((aBf ds o).map .int),.own),?_⟩;unfold aPc;generalize (!(decide (k=2)||decide (k=3)))=kk at *;generalize optT (aBf ds o).head?=op at *;generalize (aBf ds o).isEmpty=em at *;generalize (aBf ds o).map T.int ++ [.non]=d1 at *;generalize (aBf ds o).map T.int=d0 at *;generalize kvs L1=k1 at *;generalize kvs Lb=k2 at *;generalize prT L1=l1 at *;generalize prT Lb=l2 at *;generalize ds.map tupT=dd at *;generalize o.map tupT=oo at *;generalize aYo=CC at *;cases kk with
 | true =>
  have last:=last rfl;have em0:em=true:=by cases em<;>simp at last<;>rfl
  subst em0;simp! [e1,e2,p1,p2,dTup,b2,q_two,c2,al,qe,qb,ty,dLst,b0,b1,pa,ad,ge,qo,pb,ni,qn]
 | false =>
  simp! [e1,e2,p1,p2,dTup,b2,q_two,c2,al,qe,qb,ty,dLst,b0,b1,pa,ad,ge,qo,pb,ni]
theorem turns(D:Dice 3 4 ds)(x0 x1 x3 x4 x5 x6 x7 x8 x9 x10:Option (T × Md))(n:Nat):∀ (os:List (List ZB)) (k:Nat) (x11 x12 x13 x14 x15:Option (T × Md)),(∀j o,os[j]?=some o->Good ds o (k+j)) ->
  ∃ρ',aA4 (aD6 12 11) aPc ((os.zipIdx k).map fun q=>.tup [.int (q.2:Nat),rwsT q.1]) [x0,x1,some (.tup (ds.map tupT),.fz),x3,x4,x5,x6,x7,x8,x9,x10,x11,x12,x13,x14,x15] n=some (.nx,ρ',n)
 |[],k,x11,x12,x13,x14,x15,_=>⟨_,rfl⟩
 | o::os,k,x11,x12,x13,x14,x15,h=>by
  obtain⟨y13,y14,y15,e⟩:=turn D (h 0 o rfl) x0 x1 x3 x4 x5 x6 x7 x8 x9 x10 x13 x14 x15 n;obtain⟨ρ',e2⟩:=turns D x0 x1 x3 x4 x5 x6 x7 x8 x9 x10 n os (k+1) (some (rwsT o,.fz)) (some (.int (k:Int),.fz)) y13 y14 y15 fun j o' hj=>by have:=h (j+1) o' (by simpa using hj);rwa [show k+(j+1)=k+1+j by lia] at this
  refine⟨ρ',?_⟩;rw[jH,a8];unfold aA4;rw[q_two];simp only[bg,bh,aq];have e:aPc [x0,x1,some (.tup (ds.map tupT),.fz),x3,x4,x5,x6,x7,x8,x9,x10,some (rwsT o,.fz),some (.int (k:Int),.fz),x13,x14,x15] n=_:=e;rw[e];exact e2
theorem Good.nil{k:Nat}(h:Dice 3 4 o)(p:(sums ds).Perm (sums o)):Good ds o k:=⟨h,fun _ _=>p⟩
theorem big_face(hx:1<=x.length)(n:Nat)(hl:x.length+y.length<=1000):∃m,aFs (x++y)=some m/\(m<=30->∀z∈x++y,z<=30):=by
 have ne:x++y ≠ []:=by cases x with |nil=>simp at hx |cons _ _=>simp
 have gen:∀ (l:List Int) (a:Int),∀z,z∈a::l->z<=l.foldl (fun a b=>if a<b then b else a) a:=by
  intro l
  induction l with
  |nil=>intro a z hz;rw[b8.mp hz];exact iL _
  | cons b l ih =>
   intro a z hz;rw[cj];have top:=ih (if a<b then b else a) (if a<b then b else a) (a7 ..);rcases ae.mp hz with rfl |hz
   ·refine fc ?_ top;split<;>lia
   ·rcases ae.mp hz with rfl |hz
    ·refine fc ?_ top;split<;>lia
    ·exact ih _ z (a6 _ hz)
 cases e:x++y with
 |nil=>exact absurd e ne
 |cons a l=>exact⟨_,rfl,fun h z hz=>fc (gen l a z hz) h⟩
theorem aWp{s1 s2:Nat}(P:Pair L s1 s2 0 x y)(h1:s1<=4)(h2:s2<=4)(hr:r.length<=1)(rd:∀d∈r,Die 4 d)(hL:∀k,cnt L k=cS [a,b] k)(hz:rows.length<=100)(x0 x1 x3 x4 x5 x6 x7 x8 x12 x13 x14 x15:Option (T × Md))(n:Nat) :
  ∃rows':List (List ZB),(rows'=rows\/∃o,rows'=rows ++ [o]/\Dice 3 4 o/\(sums (a::b::r)).Perm (sums o))/\aJ7 [x0,x1,some ZF,x3,x4,x5,x6,x7,x8,some (.lst (rows.map rwsT),.own),some (tupT x,.fz),some (tupT y,.fz),x12,x13,x14,x15] n =
   some (.nx,[x0,x1,some ZF,x3,x4,x5,x6,x7,x8,some (.lst (rows'.map rwsT),.own),some (tupT x,.fz),some (tupT y,.fz),x12,x13,x14,x15],n):=by
 have hB:big=1000000:=rfl;have b2:2<=big:=by decide
 have hx:=P.xs;have hy:=P.ys;obtain⟨m,gm,hm⟩:=big_face (y:=y) P.x1 n ZA;have ad:pAdd n [tupT x,tupT y]=some (tupT (x++y),.fz):=by unfold tupT;rw[aF0,if_pos (by rw[a5,a5];lia),c5]
 have mx:pMax2 n [tupT (x++y)]=some (.int m,.fz):=by show (intsOf ((x++y).map T.int)).bind (fun ns=>(aFs ns).map fun i=>(T.int i,Md.fz))=_;rw[aBk,aq,gm];rfl
 have cu:cutT ((a::b::r).map tupT) (some 2) none=r.map tupT:=by rw[show (some (2:Int))=some ((2:Nat):Int) from rfl,aEg];rfl
 have a2:pAdd n [.tup [tupT x,tupT y],.tup (r.map tupT)]=some (rwsT (x::y::r),.fz):=by rw[aF0,if_pos (by rw[a5];show 2+_<=_;lia)];rfl
 by_cases c:m<=30
 ·have cz:=hm c;refine⟨rows ++ [x::y::r],.inr ⟨_,rfl,⟨by simp,by simp;lia,fun d hd=>?_⟩,(bAa (fun k=>by rw[P.all,hL]) r).symm⟩,?_⟩
  ·rcases ae.mp hd with rfl |hd
   ·exact⟨P.x1,by lia,fun z hz=>⟨P.xl z hz,cz z (eQ _ hz)⟩,P.xu⟩
   ·rcases ae.mp hd with rfl |hd
    ·exact⟨P.y1,by lia,fun z hz=>⟨P.yl z hz,cz z (cf _ hz)⟩,P.yu⟩
    ·exact rd d hd
  ·have ap:appT (.lst (rows.map rwsT)) (rwsT (x::y::r))=some (.lst ((rows ++ [x::y::r]).map rwsT)):=by show (if (rows.map rwsT).length<big then some (T.lst (rows.map rwsT ++ [rwsT (x::y::r)])) else none)=_;rw[if_pos (by rw[a5];lia),c5];rfl
   unfold aJ7 dSl2 aF9 aGn;generalize (rows ++ [x::y::r]).map rwsT=o1 at *;generalize rows.map rwsT=o2 at *;generalize rwsT (x::y::r)=o3 at *;generalize tupT (x++y)=o4 at *;generalize r.map tupT=o5 at *;generalize (a::b::r).map tupT=o6 at *;generalize tupT x=o7 at *;generalize tupT y=o8 at *;simp! [ad,mx,pLe,pI2,c,dChg,dTup,b2,cu,a2,ap]
 ·refine⟨rows,.inl rfl,?_⟩;unfold aJ7;generalize rows.map rwsT=o2 at *;generalize tupT (x++y)=o4 at *;generalize (a::b::r).map tupT=o6 at *;generalize tupT x=o7 at *;generalize tupT y=o8 at *;simp! [ad,mx,pLe,pI2,c]
theorem aK1{s1 s2:Nat}(h1:s1<=4)(h2:s2<=4)(hr:r.length<=1)(rd:∀d∈r,Die 4 d)(hL:∀k,cnt L k=cS [a,b] k)(x0 x1 x3 x4 x5 x6 x7 x8 x12 x13 x14 x15:Option (T × Md))(n:Nat):∀ (fs rows:List (List ZB)) (x10 x11:Option (T × Md)),(∀f∈fs,∃x y,f = [x,y]/\Pair L s1 s2 0 x y)->rows.length+fs.length<=100 ->
  ∃ (ext:List (List ZB)) (y10 y11:Option (T × Md)),(∀o∈ext,Dice 3 4 o/\(sums (a::b::r)).Perm (sums o))/\aA4 (aD6 10 11) aJ7 (fs.map rwsT) [x0,x1,some ZF,x3,x4,x5,x6,x7,x8,some (.lst (rows.map rwsT),.own),x10,x11,x12,x13,x14,x15] n =
   some (.nx,[x0,x1,some ZF,x3,x4,x5,x6,x7,x8,some (.lst ((rows++ext).map rwsT),.own),y10,y11,x12,x13,x14,x15],n)
 |[],rows,x10,x11,_,_=>⟨[],x10,x11,(fun _ h=>nomatch h),by rw[fA];rfl⟩
 | f::fs,rows,x10,x11,h,hl=>by
  rw[aa] at hl;obtain⟨x,y,rfl,P⟩:=h f (a7 ..);obtain⟨rows',hc,e⟩:=aWp P h1 h2 hr rd hL (rows:=rows) ZA x0 x1 x3 x4 x5 x6 x7 x8 x12 x13 x14 x15 n;have rl:rows'.length<=rows.length+1:=by
   rcases hc with rfl |⟨o,rfl,_⟩
   ·lia
   ·simp
  obtain⟨ext,y10,y11,he,e2⟩:=aK1 h1 h2 hr rd hL x0 x1 x3 x4 x5 x6 x7 x8 x12 x13 x14 x15 n fs rows' (some (tupT x,.fz)) (some (tupT y,.fz)) (fun f hf=>h f (a6 _ hf)) ZA;have step:∀out,aA4 (aD6 10 11) aJ7 (fs.map rwsT) [x0,x1,some ZF,x3,x4,x5,x6,x7,x8,some (.lst (rows'.map rwsT),.own),some (tupT x,.fz),some (tupT y,.fz),x12,x13,x14,x15] n=out->aA4 (aD6 10 11) aJ7 (([x,y]::fs).map rwsT) [x0,x1,some ZF,x3,x4,x5,x6,x7,x8,some (.lst (rows.map rwsT),.own),x10,x11,x12,x13,x14,x15] n=out:=fun out ho=>by rw[a8];have rw0:rwsT [x,y] = .tup [tupT x,tupT y]:=rfl;rw[rw0];unfold aA4;rw[q_two];simp only[bg,bh,aq];rw[e];exact ho
  rcases hc with rfl |⟨o,rfl,ho⟩
  ·exact⟨ext,y10,y11,he,step _ e2⟩
  ·refine⟨o::ext,y10,y11,fun o' h'=>?_,?_⟩
   ·rcases ae.mp h' with rfl |h'
    ·exact ho
    ·exact he o' h'
   ·rw[be] at e2;exact step _ e2
theorem aWn{a b:List Int}(ha:a.length<=4)(hb:b.length<=4)(h1:1<=a.length)(h2:1<=b.length){L:List ZH}(T1:Tots L):(aBy (aBd L) [a.length,b.length]).length*(aCv (L.headD (0,0)).1 0).length<=900000:=by
 have st:(aCv (L.headD (0,0)).1 0).length<=121:=by
  rw[aXn];obtain⟨q0,L',rfl⟩:∃q0 L',L=q0::L':=by
   cases L with
   |nil=>exact absurd rfl T1.ne
   |cons q L=>exact⟨q,L,rfl⟩
  have:=T1.rng q0 (a7 ..);show (q0.1 - 0+1 - 0).toNat<=121;lia
 have sh:(aBy (aBd L) [a.length,b.length]).length<=64:=by
  unfold aBy;split
  ·have al:=(aH2 (d:=aBd L) (sz:=iS [a.length,b.length]) (aBi [a.length,b.length]) (f:=[List.replicate [a.length,b.length].length [0]]) (fun e he=>by
    rw[b8.mp he];exact aM4 [a.length,b.length] fun s hs=>by
     simp only[ae,fq,or_false] at hs
     rcases hs with rfl |rfl<;>assumption)).2
   have g:aBi [a.length,b.length]<=6:=by unfold aBi iS;simp only[a8,eD,sumI,aa,di];lia
   have f:=fZ (aF8 (aBd L)) (aEj (aBd L) (iS [a.length,b.length]) (aBi [a.length,b.length]) [List.replicate [a.length,b.length].length [0]]);rw[aUq,fU,iK] at al;refine ao f (ao al ?_);show 2^aBi [a.length,b.length]<=64;exact ao (dz ZE g) ZE
  ·simp
 exact ao (Nat.mul_le_mul sh st) ZE
def A3:DS:=(dSet 4 (dRev (dVar 2)))
def A4:DS:=(aC3 5 2)
def A10:DS:=aY3
def A11:DS:=(dFrz 9 aWc)
def A12:DS:=(dRet (dK (.bl true)))
theorem law_eq:b_law=(dSeq A1 (dSeq A2 (dSeq A3 (dSeq A4 (dSeq A5 (dSeq A6 (dSeq A7 (dSeq A8 (dSeq A9 (dSeq A10 (dSeq A11 A12))))))))))):=rfl
theorem last_at(h:1<=a.length)(n:Nat):pGet n [tupT a,.int (-1)]=some (.int (a.getLastD 0),.fz):=by
 have ne:a.map T.int ≠ []:=by cases a with |nil=>simp at h |cons _ _=>simp
 show ((at? (a.map T.int) (-1)).map fun t=>(t,Md.fz))=_;rw[at_neg ne (t:=.int (a.getLastD 0)) ?_]
 ·rfl
 ·rw[List.getLast_map];congr 1;cases a with
  |nil=>simp at h
  |cons x l=>rw[List.getLastD_cons];exact(List.getLast_eq_getLastD ..)
theorem bBu{s:Int}(h:Die 4 a)(h0:0<=s)(hs:a.getLastD 0+s<=30):Die 4 (a.map (· + s)):=by refine⟨by rw[a5];exact h.one,by rw[a5];exact h.most,fun x hx=>?_,List.Pairwise.map _ (fun _ _ _=>by lia) h.up⟩;obtain⟨y,hy,rfl⟩:=b7.mp hx;have:=(aVr h y hy).2;have:=h.rng y hy;lia
theorem aZ2{s:Int}(h:Die 4 a)(h0:0<=s)(hs:s<=a.headD 0):Die 4 (a.map (· - s)):=by refine⟨by rw[a5];exact h.one,by rw[a5];exact h.most,fun x hx=>?_,List.Pairwise.map _ (fun _ _ _=>by lia) h.up⟩;obtain⟨y,hy,rfl⟩:=b7.mp hx;have:=(aVr h y hy).1;have:=h.rng y hy;lia
theorem step5(D:Dice 3 4 (a::b::r)){s:Int}(h0:0<=s)(x0 x1 x4 x6 x7 x8 x9 x10 x11 x12 x13 x14 x15:Option (T × Md))(n:Nat) :
  ∃o,Dice 3 4 o/\(sums (a::b::r)).Perm (sums o)/\A5 [x0,x1,some ZF,some (.int s,.fz),x4,some ZF,x6,x7,x8,x9,x10,x11,x12,x13,x14,x15] n =
   some (.nx,[x0,x1,some ZF,some (.int s,.fz),x4,some (rwsT o,.fz),x6,x7,x8,x9,x10,x11,x12,x13,x14,x15],n):=by
 have hB:big=1000000:=rfl;have b2:2<=big:=by decide
 have Da:=D.die a (a7 ..);have Db:=D.die b (a6 _ (a7 ..));have m3:=D.most;rw[aa,aa] at m3;have g0:=aKs (a::b::r) (p:=0) ZJ n;have g1:=aKs (a::b::r) (p:=1) ZJ n;have g0:pGet n [.tup ((a::b::r).map tupT),.int 0]=some (tupT a,.fz):=g0;have g1:pGet n [.tup ((a::b::r).map tupT),.int 1]=some (tupT b,.fz):=g1;have la:=last_at Da.one n;have hb:pGet n [tupT b,.int 0]=some (.int (b.headD 0),.fz):=by
  have:=getInt b (p:=0) Db.one n;rw[show ((0:Nat):Int)=0 from rfl] at this;rw[this];have h1:=Db.one;cases b with
  |nil=>simp at h1
  |cons _ _=>rfl
 have ng:pNeg n [.int 1]=some (.int (-1),.fz):=rfl;have al:=Da.most;have bl:=Db.most;have c0:∀x5,bB4 [x0,x1,some ZF,some (.int s,.fz),x4,x5,x6,x7,x8,x9,x10,x11,x12,x13,x14,x15] n=some (.lst ((a.map (· + s)).map .int),.own,n):=fun x5=>by
  rw[b6];refine aCq a T.int _ ?_ ZA fun x _=>?_
  ·have wl:walked (tupT a) .fz=some (a.map T.int):=rfl;generalize (a::b::r).map tupT=dd at *;generalize tupT a=ta at *;simp! [dIt,g0,wl]
  ·show _=some (T.int (x+s),Md.fz,n);generalize (a::b::r).map tupT=dd at *;simp! [srcOf,aCx]
 have c1:∀x5,bA7 [x0,x1,some ZF,some (.int s,.fz),x4,x5,x6,x7,x8,x9,x10,x11,x12,x13,x14,x15] n=some (.lst ((b.map (· - s)).map .int),.own,n):=fun x5=>by
  rw[b6];refine aCq b T.int _ ?_ ZA fun x _=>?_
  ·have wl:walked (tupT b) .fz=some (b.map T.int):=rfl;generalize (a::b::r).map tupT=dd at *;generalize tupT b=ta at *;simp! [dIt,g1,wl]
  ·show _=some (T.int (x - s),Md.fz,n);generalize (a::b::r).map tupT=dd at *;simp! [srcOf,pSub,pI2]
 have t0:aDg n [.lst ((a.map (· + s)).map .int)]=some (tupT (a.map (· + s)),.fz):=rfl;have t1:aDg n [.lst ((b.map (· - s)).map .int)]=some (tupT (b.map (· - s)),.fz):=rfl;have cu:cutT ((a::b::r).map tupT) (some 2) none=r.map tupT:=by rw[show (some (2:Int))=some ((2:Nat):Int) from rfl,aEg];rfl
 have ad:pAdd n [.tup [tupT (a.map (· + s)),tupT (b.map (· - s))],.tup (r.map tupT)]=some (rwsT (a.map (· + s)::b.map (· - s)::r),.fz):=by rw[aF0,if_pos (by rw[a5];show 2+_<=_;lia)];rfl
 by_cases h1:a.getLastD 0+s<=30
 ·by_cases h2:s<=b.headD 0
  ·refine⟨a.map (· + s)::b.map (· - s)::r,⟨by simp,by simp;lia,fun d hd=>?_⟩,by rw[aXg],?_⟩
   ·rcases ae.mp hd with rfl |hd
    ·exact bBu Da h0 h1
    ·rcases ae.mp hd with rfl |hd
     ·exact aZ2 Db h0 h2
     ·exact D.die d (a6 _ (a6 _ hd))
   ·unfold A5 dSl2 aF9 aGn;generalize rwsT (a.map (· + s)::b.map (· - s)::r)=o1 at *;generalize (a.map (· + s)).map T.int=o2 at *;generalize (b.map (· - s)).map T.int=o3 at *;generalize tupT (a.map (· + s))=o4 at *;generalize tupT (b.map (· - s))=o5 at *;generalize r.map tupT=o6 at *;generalize (a::b::r).map tupT=dd at *;generalize tupT a=ta at *;generalize tupT b=tb at *;generalize a.getLastD 0=l0 at *;generalize b.headD 0=l1 at *;generalize bB4=CC at *;generalize bA7=C1 at *;simp! [g0,ng,la,aCx,pLe,pI2,h1,g1,hb,pGe,h2,c0,c1,t0,t1,dTup,b2,cu,ad]
  ·refine⟨a::b::r,D,.refl _,?_⟩;unfold A5;show _=some (Fl.nx,[x0,x1,some ZF,some (.int s,.fz),x4,some ZF,x6,x7,x8,x9,x10,x11,x12,x13,x14,x15],n);generalize (a::b::r).map tupT=dd at *;generalize tupT a=ta at *;generalize tupT b=tb at *;generalize a.getLastD 0=l0 at *;generalize b.headD 0=l1 at *;simp! [g0,ng,la,aCx,pLe,pI2,h1,g1,hb,pGe,h2]
 ·refine⟨a::b::r,D,.refl _,?_⟩;unfold A5;show _=some (Fl.nx,[x0,x1,some ZF,some (.int s,.fz),x4,some ZF,x6,x7,x8,x9,x10,x11,x12,x13,x14,x15],n);generalize (a::b::r).map tupT=dd at *;generalize tupT a=ta at *;generalize a.getLastD 0=l0 at *;simp! [g0,ng,la,aCx,pLe,pI2,h1]
theorem step8(D:Dice 3 4 (a::b::r)){k:Nat}(hk:k<a.length)(x0 x1 x3 x4 x5 x6 x8 x9 x10 x11 x12 x13 x14 x15:Option (T × Md))(n:Nat) :
  ∃o,Dice 3 4 o/\A8 [x0,x1,some ZF,x3,x4,x5,x6,some (.int (k:Int),.fz),x8,x9,x10,x11,x12,x13,x14,x15] n =
   some (.nx,[x0,x1,some ZF,x3,x4,x5,x6,some (.int (k:Int),.fz),some (rwsT o,.fz),x9,x10,x11,x12,x13,x14,x15],n):=by
 have hB:big=1000000:=rfl;have b1:1<=big:=by decide
 have Da:=D.die a (a7 ..);have al:=Da.most;have m3:=D.most;rw[aa,aa] at m3;have g0:pGet n [.tup ((a::b::r).map tupT),.int 0]=some (tupT a,.fz):=aKs (a::b::r) (p:=0) ZJ n;have gk:=getInt a hk n;obtain⟨v,hv⟩:∃v,v=(if a.getD k 0+1<30 then a.getD k 0+1 else 30):=⟨_,rfl⟩
 have vr:0<=v/\v<=30:=by have:=Da.rng (a.getD k 0) (Dm.getD_mem hk);rw[hv];split<;>lia
 have mn:pMin n [.int 30,.int (a.getD k 0+1)]=some (.int v,.fz):=by rw[q_min2,hv]
 have s1:cutT (a.map T.int) none (some (k:Int))=(a.take k).map T.int:=(aH5 _ k).trans (i5).symm;have s2:cutT (a.map T.int) (some ((k:Int)+1)) none=(a.drop (k+1)).map T.int:=(aEg (a.map T.int) (k+1)).trans (List.map_drop).symm;have a1:pAdd n [.tup ((a.take k).map T.int),.tup [.int v]]=some (.tup ((a.take k ++ [v]).map T.int),.fz):=by rw[aF0,if_pos (by rw[a5,c7];show _+1<=_;lia),c5];rfl
 have a2:pAdd n [.tup ((a.take k ++ [v]).map T.int),.tup ((a.drop (k+1)).map T.int)]=some (.tup ((a.set k v).map T.int),.fz):=by rw[aF0,if_pos (by rw[a5,a5,bf,c7,d8];show _+1+_<=_;lia),<-c5,aQw _ _ hk]
 have so:aH8 n [.tup ((a.set k v).map T.int)]=some (.lst ((sortI (a.set k v)).map T.int),.own):=by show (intsOf ((a.set k v).map T.int)).map (fun ns=>(T.lst ((sortI ns).map .int),Md.own))=_;rw[aBk];rfl
 have t1:aDg n [.lst ((sortI (a.set k v)).map T.int)]=some (tupT (sortI (a.set k v)),.fz):=rfl;have cu:cutT ((a::b::r).map tupT) (some 1) none=(b::r).map tupT:=by rw[show (some (1:Int))=some ((1:Nat):Int) from rfl,aEg];rfl
 have ad:pAdd n [.tup [tupT (sortI (a.set k v))],.tup ((b::r).map tupT)]=some (rwsT (sortI (a.set k v)::b::r),.fz):=by rw[aF0,if_pos (by show 1+((b::r).map tupT).length<=_;rw[a5,aa];lia)];rfl
 have perm:=sortI_perm (a.set k v);refine⟨sortI (a.set k v)::b::r,⟨by simp,by simp;lia,fun d hd=>?_⟩,?_⟩
 ·rcases ae.mp hd with rfl |hd
  ·refine⟨by rw[perm.length_eq,d4];exact Da.one,by rw[perm.length_eq,d4];exact al,fun x hx=>?_,aCb _⟩;rcases fw (perm.mem_iff.mp hx) with hx |rfl
   ·exact Da.rng x hx
   ·exact vr
  ·exact D.die d (a6 _ hd)
 ·have ta:tupT a = .tup (a.map T.int):=rfl;rw[ta] at g0 gk;unfold A8 dSl2 aF9 aGn;generalize rwsT (sortI (a.set k v)::b::r)=o1 at *;generalize tupT (sortI (a.set k v))=o2 at *;generalize (sortI (a.set k v)).map T.int=o3 at *;generalize (a.set k v).map T.int=o4 at *;generalize (a.take k ++ [v]).map T.int=o5 at *;generalize (a.take k).map T.int=o6 at *;generalize (a.drop (k+1)).map T.int=o7 at *;generalize a.map T.int=o8 at *;generalize (b::r).map tupT=o9 at *;generalize (a::b::r).map tupT=dd at *;generalize a.getD k 0=ak at *;simp! [g0,s1,gk,aCx,mn,dTup,b1,a1,s2,a2,so,t1,cu,ad]
theorem run:∀ns:List Int,ns.length<=63->∃ρ' n',b_law (aFa ns 16) 0=some (.rt (.bl true) false,ρ',n'):=by
 intro ns _;have hB:big=1000000:=rfl;have b4:4<=big:=by decide
 obtain⟨m0,m1,m2,e0⟩:=aIy ns 0 2 ZE ZE;obtain⟨m,rfl⟩:∃m:Nat,m0=m:=⟨m0.toNat,by lia⟩
 obtain⟨ds,n1,dl,D0,_,hn1,e1⟩:=bAb ns (2+m) 4 1 ZA ZA ZE ZE ZA;obtain⟨s,s0,s1,e2⟩:=aIy ns n1 4 ZE ZA;obtain⟨j0,j1,j2,e3⟩:=aIy ns (n1+1) 3 ZE ZA;obtain⟨j,rfl⟩:∃j:Nat,j0=j:=⟨j0.toNat,by lia⟩
 obtain⟨od,n2,_,D1,_,hn2,e4⟩:=bAb ns (1+j) 4 (n1+2) ZA ZA ZE ZE ZA;have e1:aBq [(.lst (ns.map .int),false),(.town,true),(.int (2+(m:Int)),true),(.int 4,true)] 1=some (.tup (ds.map tupT),false,n1):=e1;have e4:aBq [(.lst (ns.map .int),false),(.town,true),(.int (1+(j:Int)),true),(.int 4,true)] (n1+2)=some (.tup (od.map tupT),false,n2):=e4;obtain⟨a,b,r,rfl⟩:∃a b r,ds=a::b::r:=by
  match ds,dl with
  |a::b::r,_=>exact⟨a,b,r,rfl⟩
  |[a],dl=>exfalso;simp at dl;lia
  |[],dl=>exfalso;rw[di] at dl;lia
 have D:Dice 3 4 (a::b::r):=⟨D0.one,by have:=D0.most;lia,D0.die⟩
 have D1:Dice 3 4 od:=⟨D1.one,by have:=D1.most;lia,D1.die⟩
 have hr:r.length<=1:=by have:=D.most;rw[aa,aa] at this;lia
 have Da:=D.die a (a7 ..);have Db:=D.die b (a6 _ (a7 ..));have rd:∀d∈r,Die 4 d:=fun d hd=>D.die d (a6 _ (a6 _ hd));obtain⟨k0,k1,k2,e5⟩:=aIy ns n2 a.length (by have:=Da.one;lia) ZA;obtain⟨k,rfl⟩:∃k:Nat,k0=k:=⟨k0.toNat,by lia⟩
 obtain⟨L,T1,O1,e6⟩:=others Da Db ZE ZE (least:=0) ZE ZE (fun L T1 _=>aWn Da.most Db.most Da.one Db.one T1) (n2+1);obtain⟨o5,G5,P5,E5⟩:=step5 D s0 (some ZN) (some (.town,.fz)) (some ZK) none none none none none none none none none none (n1+1);obtain⟨o8,G8,E8⟩:=step8 D (k:=k) ZA (some ZN) (some (.town,.fz)) (some (.int s,.fz)) (some ZK) (some (rwsT o5,.fz)) (some (.tup (od.map tupT),.fz)) none none none none none none none none (n2+1);have rv:T.tup ((a::b::r).map tupT).reverse=rwsT (a::b::r).reverse:=by unfold rwsT;rw[List.map_reverse]
 have Gr:Dice 3 4 (a::b::r).reverse:=⟨by rw[fK];exact D.one,by rw[fK];exact D.most,fun d hd=>D.die d (List.mem_reverse.mp hd)⟩
 have fm:∀f∈(aDi L a b 0).take 2,∃x y,f = [x,y]/\Pair L a.length b.length 0 x y:=fun f hf=>by have:=eS hf;unfold aDi at this;exact aW7 T1 Da.one Db.one ZE (dX.mp this).1
 obtain⟨ext,y10,y11,he,E10⟩:=aK1 Da.most Db.most hr rd O1 (some ZN) (some (.town,.fz)) (some (.int s,.fz)) (some ZK) (some (rwsT o5,.fz)) (some (.tup (od.map tupT),.fz)) (some (.int (k:Int),.fz)) (some (rwsT o8,.fz)) none none none none (n2+1) ((aDi L a b 0).take 2) [(a::b::r).reverse,o5,od,o8] none none fm (by
  rw[c7];show 4+_<=_
  lia)
 obtain⟨ρ',E11⟩:=turns D (some ZN) (some (.town,.fz)) (some (.int s,.fz)) (some ZK) (some (rwsT o5,.fz)) (some (.tup (od.map tupT),.fz)) (some (.int (k:Int),.fz)) (some (rwsT o8,.fz)) (some (.lst (([(a::b::r).reverse,o5,od,o8]++ext).map rwsT),.fz)) y10 (n2+1) ([(a::b::r).reverse,o5,od,o8]++ext) 0 y11 none none none none (fun j o hj=>by
  rw[ez]
  match j,hj with
  |0,hj=>cases hj;exact Good.nil Gr (aU8 _).symm
  |1,hj=>cases hj;exact Good.nil G5 P5
  |2,hj=>cases hj;exact⟨D1,fun z=>absurd rfl z⟩
  |3,hj=>cases hj;exact⟨G8,fun _ z=>absurd rfl z⟩
  | j+4,hj =>
   have hj:ext[j]?=some o:=hj;obtain⟨h1,h2⟩:=he o (fH hj)
   exact Good.nil h1 h2)
 have g0:∀n,pGet n [.tup ((a::b::r).map tupT),.int 0]=some (tupT a,.fz):=fun n=>aKs (a::b::r) (p:=0) ZJ n;have g1:∀n,pGet n [.tup ((a::b::r).map tupT),.int 1]=some (tupT b,.fz):=fun n=>aKs (a::b::r) (p:=1) ZJ n;have la:∀n,pLen n [tupT a]=some (.int (a.length:Int),.fz):=fun n=>by unfold tupT;rw[aD7,a5]
 have F1:A1 (aFa ns 16) 0=some (.nx,[some ZN,some (.town,.fz),some ZF,none,none,none,none,none,none,none,none,none,none,none,none,none],n1):=by unfold A1 aFa;generalize (a::b::r).map tupT=dd at *;simp! [e0,aCx,e1]
 have F2:A2 [some ZN,some (.town,.fz),some ZF,none,none,none,none,none,none,none,none,none,none,none,none,none] n1=some (.nx,[some ZN,some (.town,.fz),some ZF,some (.int s,.fz),none,none,none,none,none,none,none,none,none,none,none,none],n1+1):=by unfold A2;generalize (a::b::r).map tupT=dd at *;simp! [e2]
 have F3:A3 [some ZN,some (.town,.fz),some ZF,some (.int s,.fz),none,none,none,none,none,none,none,none,none,none,none,none] (n1+1)=some (.nx,[some ZN,some (.town,.fz),some ZF,some (.int s,.fz),some ZK,none,none,none,none,none,none,none,none,none,none,none],n1+1):=by unfold A3 dRev;generalize (a::b::r).map tupT=dd at *;simp! []
 have F4:A4 [some ZN,some (.town,.fz),some ZF,some (.int s,.fz),some ZK,none,none,none,none,none,none,none,none,none,none,none] (n1+1)=some (.nx,[some ZN,some (.town,.fz),some ZF,some (.int s,.fz),some ZK,some ZF,none,none,none,none,none,none,none,none,none,none],n1+1):=rfl;have F6:A6 [some ZN,some (.town,.fz),some ZF,some (.int s,.fz),some ZK,some (rwsT o5,.fz),none,none,none,none,none,none,none,none,none,none] (n1+1)=some (.nx,[some ZN,some (.town,.fz),some ZF,some (.int s,.fz),some ZK,some (rwsT o5,.fz),some (.tup (od.map tupT),.fz),none,none,none,none,none,none,none,none,none],n2):=by unfold A6;generalize ((a::b::r).map tupT).reverse=d1 at *;generalize (a::b::r).map tupT=dd at *;generalize od.map tupT=oo at *;generalize rwsT o5=o at *;simp! [e3,aCx,e4]
 have F7:A7 [some ZN,some (.town,.fz),some ZF,some (.int s,.fz),some ZK,some (rwsT o5,.fz),some (.tup (od.map tupT),.fz),none,none,none,none,none,none,none,none,none] n2=some (.nx,[some ZN,some (.town,.fz),some ZF,some (.int s,.fz),some ZK,some (rwsT o5,.fz),some (.tup (od.map tupT),.fz),some (.int (k:Int),.fz),none,none,none,none,none,none,none,none],n2+1):=by unfold A7;generalize ((a::b::r).map tupT).reverse=d1 at *;generalize (a::b::r).map tupT=dd at *;generalize od.map tupT=oo at *;generalize rwsT o5=o at *;generalize tupT a=ta at *;simp! [g0,la,e5]
 have F9:A9 [some ZN,some (.town,.fz),some ZF,some (.int s,.fz),some ZK,some (rwsT o5,.fz),some (.tup (od.map tupT),.fz),some (.int (k:Int),.fz),some (rwsT o8,.fz),none,none,none,none,none,none,none] (n2+1)=some (.nx,[some ZN,some (.town,.fz),some ZF,some (.int s,.fz),some ZK,some (rwsT o5,.fz),some (.tup (od.map tupT),.fz),some (.int (k:Int),.fz),some (rwsT o8,.fz),some (.lst ([(a::b::r).reverse,o5,od,o8].map rwsT),.own),none,none,none,none,none,none],n2+1):=by
  have ll:T.lst ([(a::b::r).reverse,o5,od,o8].map rwsT) = .lst [.tup ((a::b::r).map tupT).reverse,rwsT o5,.tup (od.map tupT),rwsT o8]:=by rw[rv];rfl
  rw[ll];unfold A9 dLst;generalize ((a::b::r).map tupT).reverse=d1 at *;generalize (a::b::r).map tupT=dd at *;generalize od.map tupT=oo at *;generalize rwsT o5=o at *;generalize rwsT o8=o' at *;simp! [b4]
 have F10:A10 [some ZN,some (.town,.fz),some ZF,some (.int s,.fz),some ZK,some (rwsT o5,.fz),some (.tup (od.map tupT),.fz),some (.int (k:Int),.fz),some (rwsT o8,.fz),some (.lst ([(a::b::r).reverse,o5,od,o8].map rwsT),.own),none,none,none,none,none,none] (n2+1)=some (.nx,[some ZN,some (.town,.fz),some ZF,some (.int s,.fz),some ZK,some (rwsT o5,.fz),some (.tup (od.map tupT),.fz),some (.int (k:Int),.fz),some (rwsT o8,.fz),some (.lst (([(a::b::r).reverse,o5,od,o8]++ext).map rwsT),.own),y10,y11,none,none,none,none],n2+1):=by
  have cu:cutT ((aDi L a b 0).map rwsT) none (some 2)=((aDi L a b 0).take 2).map rwsT:=by rw[show (some (2:Int))=some ((2:Nat):Int) from rfl,aH5,i5]
  unfold A10 aY3 dFor;have it:dItS (dSl2 (dCall 3 Dd.aHg (aAe (dPr pGet (aAa (dVar 2) (aAa (dK (.int 0)) dNil))) (aAe (dPr pGet (aAa (dVar 2) (aAa (dK (.int 1)) dNil))) (aAe (dK (.int 0)) bNil)))) aF9 (aGn (dK (.int 2)))) [some ZN,some (.town,.fz),some ZF,some (.int s,.fz),some ZK,some (rwsT o5,.fz),some (.tup (od.map tupT),.fz),some (.int (k:Int),.fz),some (rwsT o8,.fz),some (.lst ([(a::b::r).reverse,o5,od,o8].map rwsT),.own),none,none,none,none,none,none] (n2+1)=some (((aDi L a b 0).take 2).map rwsT,n2+1):=by generalize ((aDi L a b 0).take 2).map rwsT=out at *;generalize (aDi L a b 0).map rwsT=o1 at *;generalize ((a::b::r).map tupT).reverse=d1 at *;generalize (a::b::r).map tupT=dd at *;generalize od.map tupT=oo at *;generalize rwsT o5=o at *;generalize rwsT o8=o' at *;generalize tupT a=ta at *;generalize tupT b=tb at *;unfold dItS dSl2 aF9 aGn;simp! [g0,g1,e6,cu,walked]
  rw[it];exact E10
 have F11:A11 [some ZN,some (.town,.fz),some ZF,some (.int s,.fz),some ZK,some (rwsT o5,.fz),some (.tup (od.map tupT),.fz),some (.int (k:Int),.fz),some (rwsT o8,.fz),some (.lst (([(a::b::r).reverse,o5,od,o8]++ext).map rwsT),.own),y10,y11,none,none,none,none] (n2+1)=some (.nx,ρ',n2+1):=by
  have en:aFv (([(a::b::r).reverse,o5,od,o8]++ext).map rwsT)=(([(a::b::r).reverse,o5,od,o8]++ext).zipIdx 0).map fun q=>.tup [.int (q.2:Nat),rwsT q.1]:=by unfold aFv;rw[List.zipIdx_map,b6];rfl
  generalize [(a::b::r).reverse,o5,od,o8]++ext=os at *;show aWc [some ZN,some (.town,.fz),some ZF,some (.int s,.fz),some ZK,some (rwsT o5,.fz),some (.tup (od.map tupT),.fz),some (.int (k:Int),.fz),some (rwsT o8,.fz),some (.lst (os.map rwsT),.fz),y10,y11,none,none,none,none] (n2+1)=_;unfold aWc dFor;have it:aZ5 (dVar 9) [some ZN,some (.town,.fz),some ZF,some (.int s,.fz),some ZK,some (rwsT o5,.fz),some (.tup (od.map tupT),.fz),some (.int (k:Int),.fz),some (rwsT o8,.fz),some (.lst (os.map rwsT),.fz),y10,y11,none,none,none,none] (n2+1)=some (aFv (os.map rwsT),n2+1):=rfl;rw[it,en];exact E11
 refine⟨ρ',n2+1,?_⟩;rw[law_eq];rw[aI0,F1,aE0,aI0,F2,aE0,aI0,F3,aE0,aI0,F4,aE0,aI0,E5,aE0,aI0,F6,aE0,aI0,F7,aE0,aI0,E8,aE0,aI0,F9,aE0,aI0,F10,aE0,aI0,F11,aE0];rfl
end K02
section
namespace PySem.W.Fast
def tw14465760916911552985:=()
def tw3564839442456432821:=()
def tw17193619148567463539:=()
def tw6434008917712668690:=()
def tw466202181526652110:=()
def tw8957986496238660816:=()
def tw15174667438486703239:=()
def tw6660034452536963025:=()
def tw3968622190895202005:=()
def tw8895080066503774670:=()
def tw11484644184585213846:=()
def tw10289344661335594104:=()
def tw7776652498871466489:=()
def tw10093219554821558124:=()
def tw12328934632294125402:=()
def tw162572069704421933:=()
def tw12873910456645391105:=()
def tw3240627120119208536:=()
def tw13715705999414401230:=()
def tw1184918430248235456:=()
def tw5473304742645055684:=()
def tw3586882108820682171:=()
def tw10189936516389564034:=()
def tw14031923288082074405:=()
def tw17118204043013013314:=()
def tw10353558325512399248:=()
def tw17469333721369721115:=()
def tw5057774578402050537:=()
def tw1832045546727751782:=()
def tw2613204558470066522:=()
def tw7171705374799143615:=()
def tw2505900668134985883:=()
def tw12292155400002887426:=()
def tw2255104028966900916:=()
def tw14068605457458969701:=()
def tw15570646341614121998:=()
def tw16550376336234647003:=()
def tw3817818814260176416:=()
def tw18271335498584584704:=()
def tw8655402021779304637:=()
def tw13623086331450358344:=()
def tw8594451095413408967:=()
def tw6448728411757596129:=()
def tw2422632706054017133:=()
def tw2423141581781637056:=()
def tw14409871246570625512:=()
def tw12194315862100768985:=()
def tw17840587036477764007:=()
def tw1645475980724294102:=()
def tw5131659383185805239:=()
def tw1240258628310189285:=()
def tw15804095106917830526:=()
def tw7007890390902565999:=()
def tw14745168071375242041:=()
def tw11429949562610785582:=()
def tw5498912928782488151:=()
def tw14502330854034589108:=()
def tw5880465174963240845:=()
def tw13330282004012721289:=()
def tw9227832307190452081:=()
def tw13624057110093947310:=()
def tw1789307765526661970:=()
def tw14204951254028644581:=()
def tw16637196279340332600:=()
def tw12828910634377395929:=()
def tw9566466058951726346:=()
def tw6822184988023204672:=()
def tw15430359756304601742:=()
def tw14406138932436757526:=()
def tw4643989637185280917:=()
def tw9259708526863117351:=()
def tw12135913367120103737:=()
def tw7547785248869815534:=()
def tw5213045856951119203:=()
def tw2249706996508396737:=()
def tw13689490469907572869:=()
def tw17632617014502215671:=()
def tw4475864898682495466:=()
def tw9894427043152866273:=()
def tw8899931682304907543:=()
def tw2614827333698314898:=()
def tw8101993297221637390:=()
def tw14531873709924196204:=()
def tw5308186534264288591:=()
def tw12288148091062390250:=()
def tw15725914547421616408:=()
def tw4865989234332303504:=()
def tw13041786236486856702:=()
def tw3467774872934040214:=()
def tw12687295155467834359:=()
def tw9863695260826692508:=()
def tw1571988382191600521:=()
def tw16942971290678014229:=()
def tw2816485094760457838:=()
def tw7035771507882218948:=()
def tw11582669986880248945:=()
def tw10958070507600005760:=()
def tw17528257307224410209:=()
def tw4532773223835161885:=()
def tw3997708388107054699:=()
def tw15518872081316495289:=()
def tw14159657328113334693:=()
def tw1772725725471364488:=()
def tw12255847471719356157:=()
def tw10842078187713742216:=()
def tw362075233341782803:=()
def tw17966891449005245662:=()
def tw11303112453360026540:=()
def tw11037429352835433265:=()
def tw6843453624464920688:=()
def tw8796329201255487534:=()
def tw5231870126865175153:=()
def tw9239342241832539951:=()
end PySem.W.Fast
open PySem PySem.W PyProof.Rows
set_option maxRecDepth 100000 in
set_option maxHeartbeats 0 in
theorem PySem.Challenge.cw_dicesums_k02_whole_alike_holds : PySem.Challenge.rw_dicesums_k02_whole_alike.Holds := by
  w_on; o_law; k_head; (case hw => w_witness2)
  k_fill
  refine L2.Ds.walkL (l := PySem.Challenge.rw_dicesums_k02_whole_alike) 8 rfl rfl ⟨rfl, by decide, by decide⟩ (fun w h Y => W.kIn_of Y) ?F
  case F =>
    intro w mg fa h KX G hmg;refine' K02.all_mk ?Y hmg K02.run;constructor;exact KX;exact G
    all_goals first
      |(apply L2.Ds.fnIn_mk; k_is; k_is; k_is; k_is)
      |(refine W.mg_none_of KX G ?_; k_is)
      |(refine W.mg_of KX G ?_; k_is)
end